import Derived.Test.YtkkdfgnnlpohlaaGreatDoorPkzd
import Derived.Test.YtkkdfgnnlpohlaaGreatDoorPkx
namespace Go.Proofs.YtkkdfgnnlpohlaaGreatDoor
set_option maxRecDepth 20000
set_option linter.unusedVariables false
set_option linter.unusedSimpArgs false
set_option maxHeartbeats 4000000
open Go.RowKit Go.Proofs.Tryz
variable {W X Y w w' w0 wr : World} {A B at_ b b2 base' c cap e f g go gs hi i j k lo m n s u val z : Nat} {E G I J K L M N O u0 u1 u2 v0 v1 v2 v3 v4 v5 v6 x y : Value} {o : Oper} {Q : Exit → Act → World → Prop} {cs tmps : Array Value} {t : TypeId} {p : Addr} {l : List Nat} {bvs xs : List Value} {a : List UInt8} {first ok : Bool}
theorem gU{D:dO}(I:eM D)(nm:BA):(b9 D nm).2.length≤40000:=by
 unfold b9;cases fT D.names nm with
 |none=>simp
 |some n=>
  simp only;have h:=I.2.2.2.1;unfold gz at h;have E:=(OU h).2.1;by_cases A:n.toNat<D.nodes.length
  ·have z:=E n.toNat A;unfold lz at z;have G:=(OU z).1;rw[List.getD_eq_getElem?_getD,OZ A];exact G
  ·rw[List.getD_eq_getElem?_getD,Pt (by omega)];simp
theorem fV.lowB{a:OA}{d:LN}(h:fV w0 a c d)(z:0<d.length):∀p,a=some p→p.block<w0.heap.size:=fun p E=>by
 obtain⟨b,G,e,A⟩:=h.row z;rw[E] at e;simp only[OY] at e;subst e;exact dG (A 0 z)
theorem dX.ofB(h:dX gs B w w')(z:Below w0.heap.size w0 w)(E:w0.heap.size≤B)(G:w0.heap.size≤gs):Below w0.heap.size w0 w':=⟨h.os.trans z.os,h.tape.trans z.tape,h.output.trans z.output,O0 z.size h.size,fun k A=>(h.block k (by omega) (by omega)).trans (z.block k A)⟩
theorem gV(f:FuncId)(J:∀(v u:Value) (w:World),(callFunc f #[v,u]).run prog w= .ok (.enter f #[v,u]) w){G:Array Oper}{z:Act}{K:Act→World→Prop}{E:Prop}(x y:Operand)(ts:Array TypeId)(A:o.guard=none)
  (I:o.op= .call {callee:= .value (.func f),args:= #[x,y],argTypes:=ts}) (v u:Value) (N:z.eval x=v) (O:z.eval y=u) (h:Calls prog f #[v,u] w fun e w'=>∃r,e= .returned r∧K (z.put o.dst r) w'):
  if Region.wanted o (yielded G z.tmps)=true then Oper.wp prog o z w K Q else E:=by
 have M:Region.wanted o (yielded G z.tmps)=true:=(by simp[Region.wanted,A]);rw[OS M];obtain⟨V,Z,ty,Y,R,U⟩:=o;simp only at I A;subst I;unfold Oper.wp;rw[execOp_call_go];simp only[List.map_toArray,Pe,PD,N,O,List.append_toArray,PC,Pm,J,Oper.upon_enter];refine h.mono ?_;rintro e w' ⟨r,rfl,L⟩;exact L
theorem BK(v:Value)(w:World):(callFunc 21 #[v]).run prog w= .ok (.enter 21 #[v]) w:=by kernel_rfl
theorem rQ(v u:Value)(w:World):(callFunc 18 #[v,u]).run prog w= .ok (.enter 18 #[v,u]) w:=by kernel_rfl
theorem BQ(v u:Value)(w:World):(callFunc 72 #[v,u]).run prog w= .ok (.enter 72 #[v,u]) w:=by kernel_rfl
theorem xr{D:dO}{c:Nat}:∀{l r:List XM},r.length=l.length→(∀k (I:k<l.length) (J:k<r.length),mA D c l[k]=some r[k])→gT D c l=some r
 |[],[],_,_=>rfl
 |[],_::_,h,_=>by cases h
 |_::_,[],h,_=>by cases h
 |x::l,y::r,h,hk=>by
  have z:=hk 0 (by simp) (by simp);simp only[List.getElem_cons_zero] at z;have A:=xr (D:=D) (c:=c) (l:=l) (r:=r) (by simpa using h) (fun k E G=>by
   have:=hk (k+1) (by simpa using E) (by simpa using G);simpa using this)
  unfold gT;rw[z,A]
theorem ur{D:dO}{c:Nat}:∀{l:List XM} {k:Nat} (h:k<l.length),mA D c l[k]=none→gT D c l=none
 |x::l,0,_,h=>by
  unfold gT;simp only[List.getElem_cons_zero] at h;rw[h]
 |x::l,k+1,hk,h=>by
  unfold gT;rw[ur (l:=l) (k:=k) (by simpa using hk) (by simpa using h)];cases mA D c x<;>rfl
theorem zS{D:dO}(G:eM D){nm:BA}(h:nm∈jJ D u):(∃k,eR nm.data.toList=some k)∧nm.size≤80:=by
 unfold jJ at h;obtain⟨E,z⟩:=List.mem_filter.1 h;refine⟨?_,?_⟩
 ·cases hc:eR nm.data.toList with
  |none=>rw[hc] at z;cases z
  |some k=>exact⟨k,rfl⟩
 ·obtain⟨I,A,rfl⟩:=Pg.1 E;obtain⟨i,hi,rfl⟩:=PT.1 A;exact lf G.2.2.2.2.1 i hi
theorem Gv{D:dO}{m:XM}(h:c<m.uid):mA D c m=some m:=by unfold mA;rw[OS h]
theorem EU{D:dO}{m:XM}(h:¬c<m.uid)(z:(jJ D m.uid).length≠1):mA D c m=none:=by
 unfold mA;rw[OR h];split
 ·next nm e=>rw[e] at z;exact OH rfl z
 ·rfl
theorem Js{D:dO}{m:XM}{nm:BA}{k:Nat×Nat×Nat}(h:¬c<m.uid)(e:jJ D m.uid=[nm])(z:eR nm.data.toList=some k):mA D c m=some {m with stamp:=k.2.1,flags:=k.2.2,body:=(b9 D nm).2,moved:=true,card:=nm}:=by
 unfold mA;rw[OR h];simp only[e,z]
theorem Od{v:Value}{a:OA}{d:LN}(K:Blk w b (zst 0 0) 48)(h:TxB w gs v a c d)(L:∀g,g≠b→w'.heap[g]? =w.heap[g]?):TxR w' a c d:=by
 refine⟨fun z=> ?_,h.room,h.cap,fun p z=>(h.ap p z).1⟩;obtain⟨g,A,rfl,G⟩:=h.row z;have I:g≠b:=by
  rintro rfl;have E:=K.cell (A+0);rw[G 0 z] at E;have J:=Array.mem_of_getElem? E.symm;simp at J
 exact⟨g,A,rfl,fun i hi=>by rw[ef (L g I)];exact G i hi⟩
theorem il.same{fs:List FM}{m:FM}(h:il w A gs (sS g n cap) (fs.set i m))(j:Nat)(hi:i<fs.length)(Q:j<11)(u:Value)(z:FM)(O:mlF z=(mlF m).set j u)(I:z.ba=m.ba)(J:z.bc=m.bc)(K:z.x.body=m.x.body)(L:z.ea=m.ea)(M:z.ec=m.ec)(N:z.x.entry=m.x.entry):
  il (w.setCell ⟨g,i*11+j,none⟩ u) A gs (sS g n cap) (fs.set i z):=by
 have G:m∈fs.set i m:=List.mem_set hi m;have E:=h.put i j (by simpa using hi) Q u z (by rw[Pq];exact O) (by rw[I,J,K];exact(h.tx m G).1) (by rw[L,M,N];exact(h.tx m G).2);rw[List.set_set] at E;exact E
theorem il.body{fs:List FM}{m:FM}(h:il w z gs (sS g n cap) (fs.set i m))(hi:i<fs.length)(a:OA)(c:Nat)(b:LN)(G:TxB w gs (sS g n cap) a c b):
  il (w.setCell ⟨g,i*11+3,none⟩ (.slice a b.length c)) z gs (sS g n cap) (fs.set i ⟨{m.x with body:=b},a,c,m.ea,m.ec⟩):=by
 have E:m∈fs.set i m:=List.mem_set hi m;have A:=h.put i 3 (by simpa using hi) (by omega) (.slice a b.length c) ⟨{m.x with body:=b},a,c,m.ea,m.ec⟩ (by rw[Pq];rfl) G (h.tx m E).2;rw[List.set_set] at A;exact A
theorem fV.toB{B:Nat}{a:OA}{d:LN}(h:fV w a c d)(A:Below w.heap.size w W)(G:w.heap.size≤gs)(I:w.heap.size≤g):TxB W gs (sS g n cap) a c d:=by
 refine⟨h.row.below A,h.room,h.cap,fun p z=>⟨h.spot p z,fun E=> ?_⟩⟩;have J:=h.lowB E p z;refine⟨by omega,?_⟩;simp only[Value.ownBlock,ne_eq,OY];omega
theorem Ad{text:LN}:∀{ms:List IM} {xs:List (Nat×Nat×LN)} {r:List XM},ke text ms xs=some r→r.map (·.uid)=ms.map (·.uid)
 |[],[],r,h=>by simp only[ke,OY] at h;subst h;rfl
 |[],x::xs,r,h=>by cases h
 |m::ms,[],r,h=>by cases h
 |m::ms,x::xs,r,h=>by
  unfold ke at h;cases hb:eY m x with
  |none=>rw[hb] at h;cases h
  |some b=>
   rw[hb] at h;cases he:ke text ms xs with
   |none=>rw[he] at h;cases h
   |some q=>
    rw[he] at h;simp only[OY] at h;subst h;simp only[Pe,Ad he];rfl
theorem Hb{ms:List IM}{f:Bool×LN}{r:List XM}(h:fd ms f=some r):r.map (·.uid)=ms.map (·.uid):=by
 unfold fd at h;split at h
 ·split at h
  ·exact Ad h
  ·cases h
 ·cases h
theorem BI(v u:Value)(w:World):(callFunc 74 #[v,u]).run prog w= .ok (.enter 74 #[v,u]) w:=by kernel_rfl
theorem Oc{s:IX}{f:Bool×LN}{e:Ending}(h:(∃fs z,fd s.mails f=some (fs.map FM.x)∧e= .returned (.bool true)∧StX w' gs 1 s.val s.next 0 s.gen (dH s.mails) z (sN)∧il w' B gs z fs)∨(fd s.mails f=none∧e= .returned (.bool false))):
  ∃ok:Bool,e= .returned (.bool ok)∧((ok=true∧∃fs z,fd s.mails f=some (fs.map FM.x)∧StX w' gs 1 s.val s.next 0 s.gen (dH s.mails) z (sN)∧il w' B gs z fs)∨(ok=false∧fd s.mails f=none)):=by
 rcases h with⟨fs,z,A,rfl,E,G⟩|⟨A,rfl⟩
 ·exact⟨true,rfl,Or.inl ⟨rfl,fs,z,A,E,G⟩⟩
 ·exact⟨false,rfl,Or.inr ⟨rfl,A⟩⟩
theorem Ha{ms:List IM}{f:Bool×LN}{r:List XM}(h:fd ms f=some r):r.length=ms.length:=by
 unfold fd at h;split at h
 ·split at h
  ·exact(pG h).2
  ·cases h
 ·cases h
theorem vJ(v:Value)(D:dO)(a:OA)(c:Nat)(J:LN)(w:World)(hv:eM D)(hd:kJ w v D)(ht:fV w a c J):
  Calls prog 44 #[v,.slice a J.length c] w (Cs (ew D J) w):=by
 have HD:=a8 hd;have HV:=a8 hv;obtain⟨a1,c1,a2,c2,a3,c3,a4,c4,dk,r1,r2,r3,r4⟩:=hd;subst dk;obtain⟨L1,L2,L3,L4,hA,hz⟩:=NL w (dkA a1 c1 a2 c2 a3 c3 a4 c4 D) (zst 0 0) (zst 3 0) (zst 0 1) 34 48 48 48;have HU:=a8 (nX (ht.below hA));have H1:=a8 L1;have H2:=a8 L2;have H3:=a8 L3;have H4:=a8 L4;have HA:=a8 hA;clear L1 L2 L3 L4 hA ht r1 r2 r3 r4 hv;have dy:∀(a:OA) (n c:Nat) (z:Int) (w:World),(Instr.field 58 (.agg #[.slice a n c,.int .i64 z]) 0).run prog w= .ok (.slice a n c) w:=fun a n c z w=>(by kernel_rfl);go_enter func44,ntmps44;go_upto_region 3 with fail;generalize (((w.alloc (.cells (dkA a1 c1 a2 c2 a3 c3 a4 c4 D) 34)).alloc (.cells (zst 0 0) 48)).alloc (.cells (zst 3 0) 48)).alloc (.cells (zst 0 1) 48)=w0 at HU H1 H2 H3 H4 HA hz⊢;go_wp2_with fail;refine HU.mono ?_;rintro e E ⟨ra,rc,vs,rfl,ho,av⟩;have bE:=a8 (show lp E (w.heap.size+4) (.slice ra (dP J).1.length rc) (dP J).1 from⟨vs,by rw[←hz];exact ho⟩);have aq:=bTr HA av;have G1:=a8 (H1.below av (by omega));have R:=a8 (H2.below av (by omega));have G3:=a8 (H3.below av (by omega));have G4:=a8 (H4.below av (by omega));have dE:w.heap.size+4≤E.heap.size:=(by have:=av.size;omega);have HL:=a8 (fun i hi=>yU (d:=J) i hi);have hn:(dP J).1.length≤40000:=(by have:=j2 J;omega);have aN:=a8 (show ew D J=match nN (dP J).1 with
  |none=>gL 3
  |some s=>match fd s.mails (b9 D (ej s.gen)) with
   |none=>gL 3
   |some ms=>if(b9 D fh).1=true then
     (match f5 (dP (b9 D fh).2).1 with
      |none=>gL 3
      |some c=>match gT D c ms with
       |none=>gL 3
       |some ms'=>mf ⟨0,2,s.val,s.next,c,s.gen,dH s.mails,ms',[]⟩)
    else mf ⟨0,1,s.val,s.next,0,s.gen,dH s.mails,ms,[]⟩ from rfl)
 generalize di:(dP J).1=aa at bE HL hn aN⊢;clear di ho av HU H1 H2 H3 H4 HA hz;by_cases h0:aa=[]
 ·have U:=a8 (show ew D J=gL 3 by rw[aN.out,h0];rfl);have bM:aa.length=0:=(by rw[h0];rfl);rw[bM];clear h0 bM;obtain⟨b0,b1,b2,b3,b4,b5,b6,b7,b8⟩:=G3.c9;obtain⟨r0,r1,r2,r3,r4,r5,r6,r7,r8⟩:=R.c9;have fr:=fun j=>R.fz j;go_wp2;refine OJ (eQ (w.heap.size+1) _ (.int .i64 3) (.int .i64 0) (.int .u32 0) (.int .u32 0) (.int .u32 0) (.int .i64 0) (.int .i64 0) (sN) (sN) rfl rfl (mH R)) rfl ?_;exact⟨_,rfl,by rw[U.out];exact it _ _ 3,eH aq (by omega)⟩
 ·have bM:((aa.length:Int)==0)=false:=(by simp;exact h0);have cl:=a8 h0;clear h0;go_wp2;go_loopw [8,9,30] (fun _ _ i wr=>∃(j:Nat) (s:IX) (mv:Value),j≤aa.length∧i=iI j∧Hid (pN (decide (j=0)) (aa.drop j) s=pN true aa ⟨0,0,0,[]⟩)∧Hid (l5 s)∧Hid (StI wr (w.heap.size+3) s mv)∧Hid (jc wr E.heap.size mv s.mails)∧Hid (dX (w.heap.size+3) E.heap.size E wr)∧E.heap.size≤wr.heap.size) (fun _ _ i _=>aa.length-(intOf i).toNat)
  case atStart=>exact⟨0,⟨0,0,0,[]⟩,sN,O4 _,rfl,a8 rfl,a8 I7,G4,a8 (dM.nil _ _ _ _),a8 (dX.of_below (OX _ _) (OV _)),OV _⟩
  case round=>
   obtain⟨j,s,mv,hj,rfl,ar,au,Z,HO,HX,af⟩:=hrel;by_cases ae:j<aa.length
   ·have bZ:(j:Int)<(aa.length:Int):=(by omega);obtain⟨b0,o0,e0,cy⟩:=(bE.keep (fun g M O=>HX.block g O (by omega))).rows (by omega);subst e0;obtain⟨ai,ci,k0,ca⟩:=cy j ae;have dg:=HL.out j ae;have WD:=a8 (nQ ai ci aa[j] wr (by omega) ca);have an:=a8 (fun first s'=>FW (first:=first) (s:=s) (s':=s') ae);have be:=a8 (fun first=>Lg (first:=first) (s:=s) ae);generalize aa[j]=r at k0 WD an be dg;clear cy ca;obtain⟨fb,bJ⟩:∃fb,decide (j=0)=fb:=⟨_,rfl⟩
    have dC:((j:Int)==0)=fb:=(by rw[←bJ];by_cases h:j=0<;>simp[h]);rw[bJ] at ar;clear bJ;go_wp2_with fail;refine WD.mono ?_;rintro e w2 ⟨v2,ws,rfl,cC,bO,aR⟩;have cX:=a8 (show ws.map (·.data.toList)=gK r from bO);have cZ:=a8 (show∀y∈ws,y.size≤40000 from fun y hy=>by
     have M:=iW (b:=32) (t:=(fw r).data.toList) (w:=y.data.toList) (by rw[←bO];exact List.mem_map_of_mem hy);have O:(fw r).data.toList.length=r.length:=i7 r;have h3:y.data.toList.length=y.size:=rfl;omega)
    have cI:E.heap.size≤w2.heap.size:=O0 af aR.size;have cq:=a8 (HX.trans (dX.of_below aR af));have co:=a8 (Z.below aR Z.lt);have cm:=a8 (show jc w2 E.heap.size mv s.mails from dM.below HO aR (OV _));have CU:=a8 (AR (w.heap.size+3) E.heap.size wr.heap.size fb v2 ws s mv w2 co cm (by omega) cI cC cZ au.len);clear WD bO aR cC k0 Z HO HX;go_wp2_with fail;refine CU.mono ?_;rintro e N ⟨bP,aU⟩;have bg:=a8 (cq.trans bP);have dl:E.heap.size≤N.heap.size:=O0 cI bP.size;have P2:=a8 (R.keepB (bg.block (w.heap.size+1) (by omega) (by omega)));have P3:=a8 (G3.keepB (bg.block (w.heap.size+2) (by omega) (by omega)));have cO:=a8 (bg.ofB aq (by omega) (by omega));rw[cX.out] at aU;clear bP CU cq co cm;rcases aU with⟨s',ao,bw,rfl,cv,ct⟩|⟨cB,rfl⟩
    ·have cR:=a8 ((an.out fb s' bw).symm.trans ar);have cS:=a8 (ph bw au);have cV:=a8 cv;have cU:=a8 ct;clear bw cv ct an be ar;go_wp2;go_roundw
     case rel=>exact⟨j+1,s',ao,by omega,by go_num,a8 (by rw[←cR.out];rfl),cS,cV,cU,bg,dl⟩
     case measure=>simp[intOf];omega
    ·have U:=a8 (show ew D J=gL 3 by
      rw[aN.out];unfold nN;rw[OR cl.out,←ar.out,be.out fb cB])
     clear an be cB ar;obtain⟨b0,b1,b2,b3,b4,b5,b6,b7,b8⟩:=P3.c9;obtain⟨r0,r1,r2,r3,r4,r5,r6,r7,r8⟩:=P2.c9;have fr:=fun j=>P2.fz j;go_wp2;refine OJ (eQ (w.heap.size+1) _ (.int .i64 3) (.int .i64 0) (.int .u32 0) (.int .u32 0) (.int .u32 0) (.int .i64 0) (.int .i64 0) (sN) (sN) rfl rfl (mH P2)) rfl ?_;exact⟨_,rfl,by rw[U.out];exact it _ _ 3,eH cO (by omega)⟩
   ·obtain rfl:j=aa.length:=(by omega);have cp:=a8 (show nN aa=some s by
     unfold nN;rw[OR cl.out,←ar.out,PO];cases hz:decide (aa.length=0)<;>rfl)
    have bD:=a8 (aN.trans (by rw[cp.out]):ew D J=match fd s.mails (b9 D (ej s.gen)) with
     |none=>gL 3
     |some ms=>if(b9 D fh).1=true then
       (match f5 (dP (b9 D fh).2).1 with
        |none=>gL 3
        |some c=>match gT D c ms with
         |none=>gL 3
         |some ms'=>mf ⟨0,2,s.val,s.next,c,s.gen,dH s.mails,ms',[]⟩)
      else mf ⟨0,1,s.val,s.next,0,s.gen,dH s.mails,ms,[]⟩)
    have ab:=a8 (HX.ofB aq (by omega) (by omega));have K:=a8 (G1.keepB (HX.block (w.heap.size) (by omega) (by omega)));obtain⟨d0,d1,d2,d3,d4⟩:=K.c5;obtain⟨-,-,-,-,-,s5⟩:=Z.c6;have CM:=a8 (fun(X:World)=>pi s.gen X au.gen);have CF:=a8 (fun(X:World) (hX:Below wr.heap.size wr X)=>jq w _ D (ej s.gen) X HV HD (ab.trans (hX.mono ab.size)));have CT:=a8 (fun(X:World) (fa:OA) (fc:Nat) (hX:Below wr.heap.size wr X) (ax:fV w fa fc (b9 D (ej s.gen)).2)=>Dv (w.heap.size+3) E.heap.size s mv (b9 D (ej s.gen)).1 (b9 D (ej s.gen)).2 fa fc X (Z.below hX Z.lt) (dM.below HO hX (OV _)) (by omega) (O0 af hX.size) (ax.below (ab.trans (hX.mono ab.size))) (by have:=gU HV (ej s.gen);omega) (fun hl p hp=>by have:=ax.lowB hl p hp;exact⟨by omega,by omega⟩) au.len au.size);have cg:=a8 (fun(Y:World) (hY:Below wr.heap.size wr Y)=>((⟨(hY.cell (p:=⟨w.heap.size,0,none⟩) K.lt).trans d0,(hY.cell (p:=⟨w.heap.size,1,none⟩) K.lt).trans d1,(hY.cell (p:=⟨w.heap.size,2,none⟩) K.lt).trans d2,(hY.cell (p:=⟨w.heap.size,3,none⟩) K.lt).trans d3,(hY.cell (p:=⟨w.heap.size,4,none⟩) K.lt).trans d4,(hY.cell (p:=⟨w.heap.size+3,5,none⟩) Z.lt).trans s5⟩):Y.cell? ⟨w.heap.size,0,none⟩=some (.slice a1 D.nodes.length c1)∧Y.cell? ⟨w.heap.size,1,none⟩=some (.slice a2 D.names.length c2)∧Y.cell? ⟨w.heap.size,2,none⟩=some (.slice a3 D.kept.length c3)∧Y.cell? ⟨w.heap.size,3,none⟩=some (.slice a4 D.pend.length c4)∧Y.cell? ⟨w.heap.size,4,none⟩=some (.int .i64 D.quota)∧Y.cell? ⟨w.heap.size+3,5,none⟩=some (iI s.gen)));clear hj ae aN cp ar G4 HL bE;go_upto_region 12 with fail;go_cut [49] (fun q wx=>∃ok:Bool,q= .bool (!ok)∧Hid (dX (w.heap.size+3) E.heap.size E wx)∧E.heap.size≤wx.heap.size∧Hid ((ok=true∧∃fs ao,fd s.mails (b9 D (ej s.gen))=some (fs.map FM.x)∧StX wx (w.heap.size+3) 1 s.val s.next 0 s.gen (dH s.mails) ao (sN)∧il wx E.heap.size (w.heap.size+3) ao fs)∨(ok=false∧fd s.mails (b9 D (ej s.gen))=none)))
    case first=>
     go_region_law (first
      |(refine fZ 21 BK (.tmp 45) #[2] (by rfl) (by rfl) (iI s.gen) (by simp[go_sem]) ?_;refine(CM.out _).mono ?_;rintro e w5 ⟨rfl,aK⟩;have bt:=(OX wr.heap.size wr).drew.trans aK;obtain⟨y1,y2,y3,y4,y5,y6⟩:=cg.out w5 bt;have bz:=a8 bt;clear aK bt;refine⟨_,rfl,?_⟩)
      |(refine gV 18 rQ (.tmp 43) (.tmp 46) #[34,9] (by rfl) (by rfl) (.agg (dkA a1 c1 a2 c2 a3 c3 a4 c4 D)) (.string (ej s.gen)) (by simp[go_sem]) (by simp[go_sem]) ?_;refine(CF.out w5 bz).mono ?_;rintro e w6 ⟨fa,fc,rfl,hfx,ac⟩;have bY:=bz.trans (ac.mono bz.size);have aj:=a8 bY;have aF:=a8 hfx;clear ac bY hfx;refine⟨_,rfl,?_⟩)
      |(refine gV 72 BQ (.tmp 6) (.tmp 47) #[140,54] (by rfl) (by rfl) (pP (w.heap.size+3)) (.agg #[.bool (b9 D (ej s.gen)).1,.slice fa (b9 D (ej s.gen)).2.length fc]) (by simp[go_sem]) (by simp[go_sem]) ?_;refine(CT.out w6 fa fc aj aF).mono ?_;rintro e L ⟨bQ,aU⟩;have aH:=a8 ((HX.trans (dX.of_below aj af)).trans bQ);have ay:E.heap.size≤L.heap.size:=(O0 af (O0 aj.size bQ.size));obtain⟨ok,rfl,cE⟩:=Oc aU;have cJ:=a8 cE;clear bQ aU cE;refine⟨_,rfl,?_⟩)
      |fail)
     all_goals
      go_wp2_with fail;go_meet
      case rel=>exact⟨ok,rfl,aH,ay,cJ⟩
    case rest=>
     obtain⟨ok,rfl,aI,cH,bF⟩:=hcut;clear d0 d1 d2 d3 d4 s5 CM CF CT cg Z HO HX K ab;have aZ:=a8 (aI.ofB aq (by omega) (by omega));have K:=a8 (G1.keepB (aI.block (w.heap.size) (by omega) (by omega)));have K2:=a8 (R.keepB (aI.block (w.heap.size+1) (by omega) (by omega)));have K3:=a8 (G3.keepB (aI.block (w.heap.size+2) (by omega) (by omega)));cases ok with
     |false=>
      have U:=a8 (show ew D J=gL 3 by
       rcases bF.out with⟨h,_⟩|⟨_,h⟩
       ·cases h
       ·rw[bD.out,h])
      obtain⟨b0,b1,b2,b3,b4,b5,b6,b7,b8⟩:=K3.c9;obtain⟨r0,r1,r2,r3,r4,r5,r6,r7,r8⟩:=K2.c9;have fr:=fun j=>K2.fz j;go_wp2;refine OJ (eQ (w.heap.size+1) _ (.int .i64 3) (.int .i64 0) (.int .u32 0) (.int .u32 0) (.int .u32 0) (.int .i64 0) (.int .i64 0) (sN) (sN) rfl rfl (mH K2)) rfl ?_;exact⟨_,rfl,by rw[U.out];exact it _ _ 3,eH aZ (by omega)⟩
     |true=>
      obtain⟨fs,ao,ax,cF,bu⟩:∃fs ao,fd s.mails (b9 D (ej s.gen))=some (fs.map FM.x)∧StX wc (w.heap.size+3) 1 s.val s.next 0 s.gen (dH s.mails) ao (sN)∧il wc E.heap.size (w.heap.size+3) ao fs:=by
       rcases bF.out with⟨_,h⟩|⟨h,_⟩
       ·exact h
       ·cases h
      have ak:=a8 (bD.trans (by rw[ax]):ew D J=if(b9 D fh).1=true then
        (match f5 (dP (b9 D fh).2).1 with
         |none=>gL 3
         |some c=>match gT D c (fs.map FM.x) with
          |none=>gL 3
          |some ms'=>mf ⟨0,2,s.val,s.next,c,s.gen,dH s.mails,ms',[]⟩)
       else mf ⟨0,1,s.val,s.next,0,s.gen,dH s.mails,fs.map FM.x,[]⟩)
      have dA:fs.length≤100:=by
       have M:=Ha ax;have O:=au.len;simp at M;omega
      have cK:=a8 (show∀m∈fs,1≤m.x.uid from fun m hm=>by
       have M:=Hb ax;have O:m.x.uid∈s.mails.map (·.uid):=by
        rw[←M,PP];exact Pg.2 ⟨m,hm,rfl⟩
       obtain⟨y,hy,e⟩:=Pg.1 O;have:=(au.uid y hy).1;omega)
      have an:=a8 cF;have ce:=a8 bu;obtain⟨ma,mc,dh⟩:=bu.slice;subst dh;clear ax cF bu bF bD;obtain⟨d0,d1,d2,d3,d4⟩:=K.c5;have CF:=a8 (jq w _ D fh wc HV HD aZ);go_wp2_with fail;refine CF.mono ?_;rintro e w5 ⟨fa,fc,rfl,hfx,aK⟩;have ad:=nAl w5 (.cells #[.bool (b9 D fh).1,.slice fa (b9 D fh).2.length fc] 54);have ac:=aK.trans (ad.mono aK.size);have aE:=a8 (dQ w5 #[.bool (b9 D fh).1,.slice fa (b9 D fh).2.length fc] 54);have aC:=a8 (an.below ac an.lt);have aM:=a8 (ce.below ac);have aP:=a8 (aI.trans (dX.of_below ac cH));have R1:=a8 (K.below ac K.lt);have R2:=a8 (K2.below ac K2.lt);have R3:=a8 (K3.below ac K3.lt);have aj:=bTr aZ ac;have aF:=a8 hfx;have bl:=O0 cH ac.size;clear hfx aK ac ad d0 d1 d2 d3 d4 CF an ce aI K K2 K3 aZ;go_upto_region 15 with fail;generalize w5.alloc (.cells #[.bool (b9 D fh).1,.slice fa (b9 D fh).2.length fc] 54)=W at aE aC aM aP R1 R2 R3 aj bl⊢;obtain⟨f0,f1⟩:=aE.c2;have CU:=a8 (yB (aF.below aj));unfold ED at CU;generalize b9 D fh=F at f0 f1 CU ak aE aF⊢;obtain⟨da,cL⟩:=F;simp only at f0 f1 CU ak aE aF;generalize aw:f5 (dP cL).1=CR at CU ak;clear aw aE aF
      go_upto_if 54 with fail
      go_cut [6] (fun p wx=>p=pP (w.heap.size+3)∧∃(ap:Int) (I:Nat) (Q:List FM),Q.length=fs.length∧Hid (ew D J=mf ⟨0,ap,s.val,s.next,I,s.gen,dH s.mails,Q.map FM.x,[]⟩)∧Hid (StX wx (w.heap.size+3) ap s.val s.next I s.gen (dH s.mails) (.slice ma fs.length mc) (sN))∧Hid (il wx E.heap.size (w.heap.size+3) (.slice ma fs.length mc) Q)∧Hid (dX (w.heap.size+3) E.heap.size E wx)∧E.heap.size≤wx.heap.size)
      case first=>
       cases da with
       |false=>
        have bd:=a8 (show ew D J=mf ⟨0,1,s.val,s.next,0,s.gen,dH s.mails,fs.map FM.x,[]⟩ by rw[ak.out];simp);go_wp2_with fail;go_meet
        case rel=>exact⟨rfl,1,0,fs,rfl,bd,aC,aM,aP,bl⟩
       |true=>
        rw[OS rfl] at ak;go_wp2_with fail;refine CU.mono ?_;rintro e L ⟨⟨I,ok,rfl,dd,aw⟩,al⟩;have ag:=a8 (aC.below al aC.lt);have aV:=a8 (aM.below al);have aH:=a8 (aP.trans (dX.of_below al bl));have T1:=a8 (R1.below al R1.lt);have A:=a8 (R2.below al R2.lt);have G:=a8 (R3.below al R3.lt);have cb:=bTr aj al;have ay:=O0 bl al.size;clear CU f0 f1 aC aM aP R1 R2 R3 aj al;cases ok with
        |false=>
         have U:=a8 (show ew D J=gL 3 by rw[ak.out,aw];rfl);clear aw;obtain⟨b0,b1,b2,b3,b4,b5,b6,b7,b8⟩:=G.c9;obtain⟨r0,r1,r2,r3,r4,r5,r6,r7,r8⟩:=A.c9;have fr:=fun j=>A.fz j;go_wp2;refine OJ (eQ (w.heap.size+1) _ (.int .i64 3) (.int .i64 0) (.int .u32 0) (.int .u32 0) (.int .u32 0) (.int .i64 0) (.int .i64 0) (sN) (sN) rfl rfl (mH A)) rfl ?_;exact⟨_,rfl,by rw[U.out];exact it _ _ 3,eH cb (by omega)⟩
        |true=>
         rw[OS rfl] at aw;have bd:=a8 (ak.trans (by rw[aw]):ew D J=match gT D I (fs.map FM.x) with
          |none=>gL 3
          |some ms'=>mf ⟨0,2,s.val,s.next,I,s.gen,dH s.mails,ms',[]⟩)
         clear aw ak;obtain⟨-,g1,-,-,g4⟩:=ag.c5;have fg:=fun j=>ag.fz j;have aW:=a8 (show StX ((L.setCell ⟨w.heap.size+3,1,none⟩ (.int .i64 2)).setCell ⟨w.heap.size+3,4,none⟩ (uI I)) (w.heap.size+3) 2 s.val s.next I s.gen (dH s.mails) (.slice ma fs.length mc) (sN) from by
          have h:=(ag.set 1 (.int .i64 2)).set 4 (uI I);show Blk _ _ (stX _ _ _ _ _ _ _ _) _;simpa[stX] using h)
         have bp:=a8 ((aV.gset (j:=1) (by omega) (.int .i64 2)).gset (j:=4) (by omega) (uI I));have bH:=a8 ((aH.set (j:=1) (.int .i64 2)).set (j:=4) (uI I));have bR:E.heap.size≤((L.setCell ⟨w.heap.size+3,1,none⟩ (.int .i64 2)).setCell ⟨w.heap.size+3,4,none⟩ (uI I)).heap.size:=(by simpa using ay);have dr:I≤4294967295:=dd;have dt:(I:Int)≤4294967295:=(by omega);go_upto_region 21 with fail;clear g1 g4 fg ag aV aH T1 A G cb ay;generalize (L.setCell ⟨w.heap.size+3,1,none⟩ (.int .i64 2)).setCell ⟨w.heap.size+3,4,none⟩ (uI I)=W8 at aW bp bH bR⊢;obtain⟨-,-,-,-,-,-,-,g7⟩:=aW.c8;go_wp2;clear g7;go_loopw [13,14,15,16,70] (fun _ _ _ _ i wr=>∃(j:Nat) (fs2:List FM),j≤fs.length∧i=iI j∧fs2.length=fs.length∧Hid (StX wr (w.heap.size+3) 2 s.val s.next I s.gen (dH s.mails) (.slice ma fs.length mc) (sN))∧Hid (il wr E.heap.size (w.heap.size+3) (.slice ma fs.length mc) fs2)∧Hid (dX (w.heap.size+3) E.heap.size E wr)∧E.heap.size≤wr.heap.size∧Hid (∀k (M:k<fs.length) (O:k<fs2.length),k<j→mA D I fs[k].x=some fs2[k].x)∧Hid (∀k (M:k<fs.length) (O:k<fs2.length),j≤k→fs2[k]=fs[k])) (fun _ _ _ _ i _=>fs.length-(intOf i).toNat)
         case atStart=>exact⟨0,fs,O4 _,rfl,rfl,aW,bp,bH,bR,a8 (fun k _ _ h=>by omega),a8 (fun k _ _ _=>rfl)⟩
         case round=>
          obtain⟨j,fs2,hj,rfl,bj,Z,HF,HX,af,bB,bC⟩:=hrel;clear aW bp bH bR;have ab:=a8 (HX.ofB aq (by omega) (by omega));by_cases ae:j<fs.length
          ·have bZ:(j:Int)<(fs.length:Int):=(by omega);obtain⟨g,bK,aT,_⟩:=HF.at0 (by omega);subst bK;have hj2:j<fs2.length:=(by omega);have HE:=a8 (bC.out j ae hj2 (OV _));have k0:wr.cell? ⟨g,j*11,none⟩=some (.int .u32 (fs[j].x.uid:Int)):=by
            have:=HF.cell j 0 hj2 (by omega);rw[HE.out] at this;exact this
           obtain⟨-,-,-,-,-,-,-,g7⟩:=Z.c8;have dj:=cK.out fs[j] (O6 ae);have aG:=a8 (show∀x',mA D I fs[j].x=some x'→∀(aJ:List FM) (m':FM),aJ=fs2.set j m'→m'.x=x'→(∀k (M:k<fs.length) (O:k<aJ.length),k<j+1→mA D I fs[k].x=some aJ[k].x)∧(∀k (M:k<fs.length) (O:k<aJ.length),j+1≤k→aJ[k]=fs[k]) from fun x' hx aJ m' e1 e2=>by
            subst e1;refine⟨fun k M O hk=> ?_,fun k M O hk=> ?_⟩
            ·have aQ:k<fs2.length:=(by simpa using O);by_cases e:k=j
             ·subst e;rw[Pq,e2];exact hx
             ·rw[List.getElem_set_ne (fun e'=>e e'.symm)];exact bB.out k M aQ (by omega)
            ·have aQ:k<fs2.length:=(by simpa using O);rw[List.getElem_set_ne (by omega)];exact bC.out k M aQ (by omega))
           have bn:=a8 (show fs2=fs2.set j fs[j] from by rw[←HE.out];exact(List.set_getElem_self hj2).symm);have aA:=a8 (fun(h:mA D I fs[j].x=none)=>show ew D J=gL 3 from by
            rw[bd.out,ur (l:=fs.map FM.x) (k:=j) (by simpa using ae) (by simpa using h)])
           generalize fs[j]=X at k0 dj HE aG bn aA;clear bB bC;by_cases bi:I<X.x.uid
           ·have cN:(I:Int)<(X.x.uid:Int):=(by omega);have HQ:=a8 (aG.out X.x (Gv bi) fs2 X bn rfl);clear bi;go_wp2;go_roundw
            case rel=>exact⟨j+1,fs2,by omega,by go_num,bj,Z,HF,HX,af,a8 HQ.1,a8 HQ.2⟩
            case measure=>simp[intOf];omega
           ·have cN:¬(I:Int)<(X.x.uid:Int):=(by omega);have K:=a8 (G1.keepB (HX.block (w.heap.size) (by omega) (by omega)));obtain⟨d0,d1,d2,d3,d4⟩:=K.c5;have CC:=a8 (fun(Y:World) (hY:Below wr.heap.size wr Y)=>xo _ D X.x.uid (X.x.uid:Int) rfl Y HV (HD.below (ab.trans (hY.mono ab.size))));have cP:=a8 (Fq (D:=D) (u:=X.x.uid) (by omega));have bA:=a8 bi;clear bi;go_upto_region 26 with fail;clear g7;go_cut [15] (fun v wx=>Hid (fB wx wr.heap.size v (jJ D X.x.uid))∧Hid (Below wr.heap.size wr wx))
            case first=>
             go_region_law (first
              |(refine gV 74 BI (.tmp 83) (.tmp 87) #[34,44] (by rfl) (by rfl) (.agg (dkA a1 c1 a2 c2 a3 c3 a4 c4 D)) (uI X.x.uid) (by simp[go_sem]) (by simp[go_sem]) ?_;refine(CC.out wr.drew (OX _ _).drew).mono ?_;rintro e w9 ⟨u9,rfl,cD,cw⟩;have bf:=a8 cD;have am:=a8 ((OX wr.heap.size wr).drew.trans cw);clear cD cw;refine⟨_,rfl,?_⟩)
              |fail)
             all_goals
              go_wp2_with fail;go_meet
              case rel=>exact⟨a8 (by rw[←cP.out];exact bf.out),am⟩
            case rest=>
             obtain⟨bf,am⟩:=hcut;clear d0 d1 d2 d3 d4 CC k0;have bG:=a8 (Z.below am Z.lt);have cd:=a8 (HF.below am);have bh:=a8 (HX.trans (dX.of_below am af));have cG:=O0 af am.size;have bo:=a8 (ab.trans (am.mono ab.size));have A:=a8 (R.keepB (bh.block (w.heap.size+1) (by omega) (by omega)));have G:=a8 (G3.keepB (bh.block (w.heap.size+2) (by omega) (by omega)));have dB:g<wr.heap.size:=(HF.at0 (by omega)).elim (fun g' h=>by
              have e:=h.1;simp only[OY,PG] at e;rw[e.1];exact h.2.2)
             clear Z HF HX ab K;rcases bf.at with⟨bN,cA⟩|⟨gn,dq,bN,df,dv,bT,bm⟩
             ·subst bN;have U:=a8 (aA.out (EU bA (by rw[cA];simp)));clear cA aA aG;obtain⟨b0,b1,b2,b3,b4,b5,b6,b7,b8⟩:=G.c9;obtain⟨r0,r1,r2,r3,r4,r5,r6,r7,r8⟩:=A.c9;have fr:=fun j=>A.fz j;go_wp2;refine OJ (eQ (w.heap.size+1) _ (.int .i64 3) (.int .i64 0) (.int .u32 0) (.int .u32 0) (.int .u32 0) (.int .i64 0) (.int .i64 0) (sN) (sN) rfl rfl (mH A)) rfl ?_;exact⟨_,rfl,by rw[U.out];exact it _ _ 3,eH bo (by omega)⟩
             ·subst bN;by_cases M:(jJ D X.x.uid).length=1
              ·obtain⟨nm,bk⟩:=List.length_eq_one_iff.1 M;have q0:=bm 0 nm (by rw[bk];rfl);rw[Nat.add_zero] at q0;obtain⟨⟨⟨u,st,fl⟩,hk⟩,dD⟩:=zS HV (u:=X.x.uid) (nm:=nm) (by rw[bk];simp);have HQ:=a8 (aG.out _ (Js bA bk hk));rw[M] at bT⊢;have HK:=a8 hk;have aY:¬gn=g:=(by omega);have dx:¬g=gn:=(by omega);clear bm bk hk M aA aG bf;go_wp2_with fail;refine(kV nm wc (by omega)).mono ?_;rintro e az ⟨ok,ku,ks,kf,rfl,bX,aX⟩;have aS:=(ly bX).symm.trans HK.out;obtain⟨rfl,aS⟩:ok=true∧(ku,ks,kf)=(u,st,fl):=by
                cases ok with
                |true=>exact⟨rfl,by simpa using aS⟩
                |false=>simp at aS
               simp only[Prod.mk.injEq] at aS;obtain⟨rfl,rfl,rfl⟩:=aS;have ad:=nAl az (.cells #[.bool true,uI u,iI st,uI fl] 104);have aD:=aX.trans (ad.mono aX.size);have bb:=a8 (dQ az #[.bool true,uI u,iI st,uI fl] 104);have bq:=a8 (bG.below aD bG.lt);have aL:=a8 (show il _ E.heap.size (w.heap.size+3) (sS g fs.length mc) (fs2.set j X) from by
                rw[←bn.out];exact cd.below aD)
               have br:=a8 (bh.trans (dX.of_below aD cG));have bx:=O0 cG aD.size;have bS:=(aD.cell (p:=⟨gn,0,none⟩) df).trans q0;have de:¬az.heap.size=g:=(by have M:=aX.size;have O:=am.size;omega);have du:¬g=az.heap.size:=fun h=>de h.symm;clear bX aX ad aD bG cd bh A G bo q0;go_upto_region 30 with fail;generalize az.alloc (.cells #[.bool true,uI u,iI st,uI fl] 104)=W at bb bq aL br bx bS⊢;have hjs:j<(fs2.set j X).length:=(by simpa using hj2);have rr:=fun k hk=>aL.cell j k hjs hk;rw[Pq] at rr;have r9:W.cell? ⟨g,j*11+9,none⟩=some (.bool X.x.moved):=rr 9 (by omega);have dp:W.cell? ⟨g,j*11+10,none⟩=some (.string X.x.card):=rr 10 (by omega);have r1:W.cell? ⟨g,j*11+1,none⟩=some (iI X.x.stamp):=rr 1 (by omega);have r2:W.cell? ⟨g,j*11+2,none⟩=some (uI X.x.flags):=rr 2 (by omega);have fg:=fun k=>aL.frozen k;obtain⟨-,-,m2,m3⟩:=bb.c4;have F1:=a8 (aL.same 9 hj2 (by omega) (.bool true) ⟨{X.x with moved:=true},X.ba,X.bc,X.ea,X.ec⟩ rfl rfl rfl rfl rfl rfl rfl);have F2:=a8 (F1.same 10 hj2 (by omega) (.string nm) ⟨{X.x with moved:=true,card:=nm},X.ba,X.bc,X.ea,X.ec⟩ rfl rfl rfl rfl rfl rfl rfl);have F3:=a8 (F2.same 1 hj2 (by omega) (iI st) ⟨{X.x with moved:=true,card:=nm,stamp:=st},X.ba,X.bc,X.ea,X.ec⟩ rfl rfl rfl rfl rfl rfl rfl);have F4:=a8 (F3.same 2 hj2 (by omega) (uI fl) ⟨{X.x with moved:=true,card:=nm,stamp:=st,flags:=fl},X.ba,X.bc,X.ea,X.ec⟩ rfl rfl rfl rfl rfl rfl rfl);have HX12:=a8 ((((br.high aT (.bool true) (j:=j*11+9)).high aT (.string nm) (j:=j*11+10)).high aT (iI st) (j:=j*11+1)).high aT (uI fl) (j:=j*11+2));have HS12:=a8 ((((bq.other (g':=g) (j:=j*11+9) (by omega) (.bool true)).other (g':=g) (j:=j*11+10) (by omega) (.string nm)).other (g':=g) (j:=j*11+1) (by omega) (iI st)).other (g':=g) (j:=j*11+2) (by omega) (uI fl));have hz12:E.heap.size≤((((W.setCell ⟨g,j*11+9,none⟩ (.bool true)).setCell ⟨g,j*11+10,none⟩ (.string nm)).setCell ⟨g,j*11+1,none⟩ (iI st)).setCell ⟨g,j*11+2,none⟩ (uI fl)).heap.size:=(by simpa using bx);have dn:((((W.setCell ⟨g,j*11+9,none⟩ (.bool true)).setCell ⟨g,j*11+10,none⟩ (.string nm)).setCell ⟨g,j*11+1,none⟩ (iI st)).setCell ⟨g,j*11+2,none⟩ (uI fl)).cell? ⟨gn,0,none⟩=some (.string nm):=by
                rw[ef (OQ _ ⟨g,j*11+2,none⟩ gn _ (by simpa using aY)),ef (OQ _ ⟨g,j*11+1,none⟩ gn _ (by simpa using aY)),ef (OQ _ ⟨g,j*11+10,none⟩ gn _ (by simpa using aY)),ef (OQ _ ⟨g,j*11+9,none⟩ gn _ (by simpa using aY))];exact bS
               clear rr hjs F1 F2 F3 aL br bq bx bb;go_upto_region 34 with fail;clear r9 dp r1 r2 fg m2 m3 bS;generalize (((W.setCell ⟨g,j*11+9,none⟩ (.bool true)).setCell ⟨g,j*11+10,none⟩ (.string nm)).setCell ⟨g,j*11+1,none⟩ (iI st)).setCell ⟨g,j*11+2,none⟩ (uI fl)=V at F4 HX12 HS12 hz12 dn⊢;have HBV:=a8 (HX12.ofB aq (by omega) (by omega));have KV:=a8 (G1.keepB (HX12.block (w.heap.size) (by omega) (by omega)));obtain⟨d0,d1,d2,d3,d4⟩:=KV.c5;have CF:=a8 (jq w _ D nm V.drew HV HD HBV.drew);have dz:∀(b:Bool) (a:OA) (n c:Nat) (w:World),(Instr.field 54 (.agg #[.bool b,.slice a n c]) 1).run prog w= .ok (.slice a n c) w:=fun b a n c w=>(by kernel_rfl);go_region_law (first
                 |(refine gV 18 rQ (.tmp 117) (.tmp 120) #[34,9] (by rfl) (by rfl) (.agg (dkA a1 c1 a2 c2 a3 c3 a4 c4 D)) (.string nm) (by simp[go_sem]) (by simp[go_sem]) ?_;refine CF.mono ?_;rintro e w13 ⟨fa,fc,rfl,hfx,hb13⟩;have hbv:=(OX V.heap.size V).drew.trans hb13;have HF13:=a8 (F4.below hbv);have HS13:=a8 (HS12.below hbv HS12.lt);have HX13:=a8 (HX12.trans (dX.of_below hbv hz12));have hz13:=O0 hz12 hbv.size;have HTB:=a8 (hfx.toB (gs:=w.heap.size+3) (B:=0) (g:=g) (n:=fs.length) (cap:=mc) (HBV.trans (hbv.mono HBV.size)) (by omega) (by omega));have hjs:j<(fs2.set j ⟨{X.x with moved:=true,card:=nm,stamp:=st,flags:=fl},X.ba,X.bc,X.ea,X.ec⟩).length:=(by simpa using hj2);have rr:=HF13.cell j 3 hjs (by omega);rw[Pq] at rr;have r3:w13.cell? ⟨g,j*11+3,none⟩=some (.slice X.ba X.x.body.length X.bc):=rr;have fg:=(fun k=>HF13.frozen k);clear hfx hb13 hbv rr hjs;refine⟨_,rfl,?_⟩)
                 |fail)
               all_goals
                have cQ:=a8 (HF13.body hj2 fa fc (b9 D nm).2 HTB);have cY:=a8 (HX13.high aT (.slice fa (b9 D nm).2.length fc) (j:=j*11+3));have cW:=a8 (HS13.other (g':=g) (j:=j*11+3) (by omega) (.slice fa (b9 D nm).2.length fc));have cn:=a8 (HQ.out _ ⟨{X.x with moved:=true,card:=nm,stamp:=st,flags:=fl,body:=(b9 D nm).2},fa,fc,X.ea,X.ec⟩ rfl rfl);clear r3 fg d0 d1 d2 d3 d4;go_wp2;go_roundw
                case rel=>exact⟨j+1,_,by omega,by go_num,by simpa using bj,cW,cQ,cY,by simpa using hz13,a8 cn.1,a8 cn.2⟩
                case measure=>simp[intOf];omega
              ·have U:=a8 (aA.out (EU bA M));have dc:(((jJ D X.x.uid).length:Int) !=1)=true:=(by simp;omega);generalize (jJ D X.x.uid).length=nl at M dc bT;clear bm M aA aG;obtain⟨b0,b1,b2,b3,b4,b5,b6,b7,b8⟩:=G.c9;obtain⟨r0,r1,r2,r3,r4,r5,r6,r7,r8⟩:=A.c9;have fr:=fun j=>A.fz j;go_wp2;refine OJ (eQ (w.heap.size+1) _ (.int .i64 3) (.int .i64 0) (.int .u32 0) (.int .u32 0) (.int .u32 0) (.int .i64 0) (.int .i64 0) (sN) (sN) rfl rfl (mH A)) rfl ?_;exact⟨_,rfl,by rw[U.out];exact it _ _ 3,eH bo (by omega)⟩
          ·have HQ:=a8 (show ew D J=mf ⟨0,2,s.val,s.next,I,s.gen,dH s.mails,fs2.map FM.x,[]⟩ by
            rw[bd.out,xr (l:=fs.map FM.x) (r:=fs2.map FM.x) (by simp[bj]) (fun k M O=>by
             have db:k<fs.length:=(by simpa using M);have aQ:k<fs2.length:=(by simpa using O);have:=bB.out k db aQ (by omega);simpa using this)])
           go_wp2_with fail;go_meet
           case rel=>exact⟨rfl,2,I,fs2,bj,HQ,Z,HF,HX,af⟩
      case rest=>
       obtain⟨rfl,ap,I,Q,dw,cj,ag,aV,aH,ay⟩:=hcut;clear f0 f1 CU aC aM aP R1 R2 R3 aj ak;obtain⟨-,-,-,-,-,-,-,g7⟩:=ag.c8;go_wp2;clear g7;go_loopw [18,129] (fun _ i wr=>∃j:Nat,j≤fs.length∧i=iI j∧Hid (∀k (h:k<Q.length),k<j→Q[k].x.body.length≤8000)∧Hid (Below wc.heap.size wc wr)) (fun _ i _=>fs.length-(intOf i).toNat)
       case atStart=>exact⟨0,O4 _,rfl,a8 (fun k _ h=>by omega),a8 (OX _ _)⟩
       case round=>
        obtain⟨j,hj,rfl,ch,aO⟩:=hrel;have ah:=a8 (ag.below aO ag.lt);have aB:=a8 (aV.below aO);have bI:=a8 (aH.trans (dX.of_below aO ay));have dF:=O0 ay aO.size;have ab:=a8 (bI.ofB aq (by omega) (by omega));have A:=a8 (R.keepB (bI.block (w.heap.size+1) (by omega) (by omega)));have G:=a8 (G3.keepB (bI.block (w.heap.size+2) (by omega) (by omega)));by_cases ae:j<fs.length
        ·have bZ:(j:Int)<(fs.length:Int):=(by omega);obtain⟨g,bK,_,_⟩:=aB.at0 (by omega);subst bK;have cz:j<Q.length:=(by omega);have cc:=fun k hk=>aB.cell j k cz hk;have cr:=a8 (show∀k (h:k<Q.length),k=j→Q[k]=Q[j] from fun k h e=>by subst e;rfl);have bW:=a8 (O6 cz);generalize Q[j]=X at cc cr bW;have k0:wr.cell? ⟨g,j*11,none⟩=some (uI X.x.uid):=cc 0 (by omega);have k1:wr.cell? ⟨g,j*11+1,none⟩=some (iI X.x.stamp):=cc 1 (by omega);have k2:wr.cell? ⟨g,j*11+2,none⟩=some (uI X.x.flags):=cc 2 (by omega);have k3:wr.cell? ⟨g,j*11+3,none⟩=some (.slice X.ba X.x.body.length X.bc):=cc 3 (by omega);have k4:wr.cell? ⟨g,j*11+4,none⟩=some (.slice X.ea X.x.entry.length X.ec):=cc 4 (by omega);have k5:wr.cell? ⟨g,j*11+5,none⟩=some (iI X.x.stamp0):=cc 5 (by omega);have k6:wr.cell? ⟨g,j*11+6,none⟩=some (uI X.x.flags0):=cc 6 (by omega);have k7:wr.cell? ⟨g,j*11+7,none⟩=some (iI X.x.bare):=cc 7 (by omega);have k8:wr.cell? ⟨g,j*11+8,none⟩=some (iI X.x.size):=cc 8 (by omega);have k9:wr.cell? ⟨g,j*11+9,none⟩=some (.bool X.x.moved):=cc 9 (by omega);have dm:wr.cell? ⟨g,j*11+10,none⟩=some (.string X.x.card):=cc 10 (by omega);have ad:=nAl wr (.cells #[uI X.x.uid,iI X.x.stamp,uI X.x.flags,.slice X.ba X.x.body.length X.bc,.slice X.ea X.x.entry.length X.ec,iI X.x.stamp0,uI X.x.flags0,iI X.x.bare,iI X.x.size,.bool X.x.moved,.string X.x.card] 108);have ck:=a8 (dQ wr #[uI X.x.uid,iI X.x.stamp,uI X.x.flags,.slice X.ba X.x.body.length X.bc,.slice X.ea X.x.entry.length X.ec,iI X.x.stamp0,uI X.x.flags0,iI X.x.bare,iI X.x.size,.bool X.x.moved,.string X.x.card] 108);have bU:=bTr aO ad;have U2:=a8 (A.below ad A.lt);have U3:=a8 (G.below ad G.lt);have bV:=bTr ab ad;clear cc ad;go_upto_region 39 with fail;clear k0 k1 k2 k3 k4 k5 k6 k7 k8 k9 dm;generalize wr.alloc (.cells #[uI X.x.uid,iI X.x.stamp,uI X.x.flags,.slice X.ba X.x.body.length X.bc,.slice X.ea X.x.entry.length X.ec,iI X.x.stamp0,uI X.x.flags0,iI X.x.bare,iI X.x.size,.bool X.x.moved,.string X.x.card] 108)=W at ck bU U2 U3 bV⊢;obtain⟨-,-,-,n3⟩:=ck.c4;by_cases cx:8000<X.x.body.length
         ·have cM:(8000:Int)<(X.x.body.length:Int):=(by omega);have U:=a8 (show ew D J=gL 3 by
           rw[cj.out];unfold mf;rw[OR];simp only[List.all_eq_true,decide_eq_true_eq];intro h;have:=h X.x (List.mem_map_of_mem bW);omega)
          clear cx;obtain⟨b0,b1,b2,b3,b4,b5,b6,b7,b8⟩:=U3.c9;obtain⟨r0,r1,r2,r3,r4,r5,r6,r7,r8⟩:=U2.c9;have fr:=fun j=>U2.fz j;go_wp2;refine OJ (eQ (w.heap.size+1) _ (.int .i64 3) (.int .i64 0) (.int .u32 0) (.int .u32 0) (.int .u32 0) (.int .i64 0) (.int .i64 0) (sN) (sN) rfl rfl (mH U2)) rfl ?_;exact⟨_,rfl,by rw[U.out];exact it _ _ 3,eH bV (by omega)⟩
         ·have cM:¬(8000:Int)<(X.x.body.length:Int):=(by omega);have cT:=a8 (show∀k (h:k<Q.length),k<j+1→Q[k].x.body.length≤8000 from fun k h hk=>by
           by_cases e:k=j
           ·rw[cr.out k h e];omega
           ·exact ch.out k h (by omega))
          clear cx;go_wp2;go_roundw
          case rel=>exact⟨j+1,by omega,by go_num,cT,bU⟩
          case measure=>simp[intOf];omega
        ·have U:=a8 (show ew D J=⟨0,ap,s.val,s.next,I,s.gen,dH s.mails,Q.map FM.x,[]⟩ by
          rw[cj.out];unfold mf;rw[OS];simp only[List.all_eq_true,decide_eq_true_eq];intro x hx;obtain⟨y,hy,rfl⟩:=Pg.1 hx;obtain⟨k,hk,rfl⟩:=PT.1 hy;exact ch.out k hk (by omega))
         obtain⟨s0,s1,s2,s3,s4,s5,s6,s7,s8⟩:=ah.c9;obtain⟨r0,r1,r2,r3,r4,r5,r6,r7,r8⟩:=A.c9;have fr:=fun j=>A.fz j;go_wp2;refine OJ (eQ (w.heap.size+1) _ (.int .i64 0) (.int .i64 ap) (uI s.val) (uI s.next) (uI I) (iI s.gen) (.int .i64 ((dH s.mails:Nat):Int)) (.slice ma fs.length mc) (sN) rfl rfl (mH A)) rfl ?_;have bL:∀b,b≠w.heap.size+1→(xB wr (w.heap.size+1) (.int .i64 0) (.int .i64 ap) (uI s.val) (uI s.next) (uI I) (iI s.gen) (.int .i64 ((dH s.mails:Nat):Int)) (.slice ma fs.length mc) (sN)).heap[b]? =wr.heap[b]? :=fun b hb=>jk hb;exact⟨_,rfl,by rw[U.out];exact⟨ma,_,mc,none,0,0,Q,rfl,rfl,(dM.keep aB.own (fun g hg=>bL g (by have:=(dM.lt aB.own g hg).1;omega))).mono (by omega),(fun m hm=>⟨Od A (aB.tx m hm).1 bL,Od A (aB.tx m hm).2 bL⟩),dM.nil _ _ _ _⟩,eH ab (by omega)⟩
theorem dW.aside{w w':World}{g:Nat}{cs:Array Value}{t:TypeId}{a:OA}{l:LN}(h:dW w a l)(J:Blk w g cs t)(L:∀x:Int,Value.int .u8 x∉cs)(K:∀b,b≠g→w'.heap[b]? =w.heap[b]?):dW w' a l:=fun E=>by
 obtain⟨b,I,rfl,A⟩:=h E;have G:b≠g:=fun e=>by
  subst e;have z:=A 0 E;rw[J.cell] at z;exact L _ (Array.mem_of_getElem? z)
 exact⟨b,I,rfl,fun i hi=>by rw[ef (K b G)];exact A i hi⟩
theorem TxR.aside{w w':World}{g:Nat}{cs:Array Value}{t:TypeId}{a:OA}{c:Nat}{l:LN}(h:TxR w a c l)(z:Blk w g cs t)(E:∀x:Int,Value.int .u8 x∉cs)(A:∀b,b≠g→w'.heap[b]? =w.heap[b]?):TxR w' a c l:=⟨h.row.aside z E A,h.room,h.cap,h.spot⟩
theorem dM.ge{z e k:Nat}{w:World}{v:Value}{E:List (List Value)}(h:dM w z e k v E){g:Nat}(A:v.ownBlock=some g):z≤g∨v=sN:=by
 rcases h.2.2 with I|⟨g',cap,K,G,L,M,J⟩
 ·exact .inr I.1
 ·rw[G] at A;have:g'=g:=PJ A;exact .inl (by omega)
theorem dM.aside{z e k:Nat}{w w':World}{v:Value}{E:List (List Value)}(h:dM w z e k v E){gr:Nat}(J:gr<z)(I:∀b,b≠gr→w'.heap[b]? =w.heap[b]?):dM w' z e k v E:=h.keep fun g A=>by
 rcases h.ge A with G|G
 ·exact I g (by omega)
 ·rw[G] at A;cases A
theorem RdV.aside{w w':World}{A:Nat}{s:SX}{v:Value}{g:Nat}{cs:Array Value}{t:TypeId}(h:RdV w A s v)(G:Blk w g cs t)(K:∀x:Int,Value.int .u8 x∉cs)(I:g<A)(z:∀b,b≠g→w'.heap[b]? =w.heap[b]?):RdV w' A s v:=by
 obtain⟨V,Z,Y,L,N,M,fs,O,Q,R,E,U⟩:=h;exact⟨V,Z,Y,L,N,M,fs,O,Q,dM.aside R I z,fun m J=>⟨(E m J).1.aside G K z,(E m J).2.aside G K z⟩,dM.aside U I z⟩
open Classical in
theorem GK{D:dO}(h:eM D):eu D=if(b9 D ixN).1=true then ew D (b9 D ixN).2 else if(b9 D uxN).1=true then fO D (b9 D uxN).2 else gL 2:=by
 unfold eu;exact OS h
theorem xC{D:dO}(h:¬eM D):eu D=gL 1:=by
 unfold eu;exact OR h
theorem Du(v:Value)(D:dO)(w:World)(hM:l6 D)(hd:kJ w v D):
  Calls prog 16 #[v] w (Cs (eu D) w):=by
 have HD:=a8 hd;obtain⟨a1,c1,a2,c2,a3,c3,a4,c4,az,r1,r2,r3,r4⟩:=hd;subst az;obtain⟨L1,L2,hA,hz⟩:=sj w (dkA a1 c1 a2 c2 a3 c3 a4 c4 D) (zst 0 0) 34 48;have CV:=a8 (B1 (HD.below hA).at hM);have HA:=a8 hA;clear r1 r2 r3 r4 hM hA hz;go_enter func16,ntmps16;go_wp2_with fail;generalize (w.alloc (.cells (dkA a1 c1 a2 c2 a3 c3 a4 c4 D) 34)).alloc (.cells (zst 0 0) 48)=w0 at L1 L2 HA CV⊢;refine CV.mono ?_;rintro e K ⟨r,rfl,hr,hb⟩;have Z:=a8 (L1.below hb L1.lt);have L:=a8 (L2.below hb L2.lt);have HB:=bTr HA hb;clear L1 L2 hb HA CV;cases r with
 |false=>
  have av:¬eM D:=fun h=>(by have:=hr.2 h;cases this);have Q:=a8 (xC av);clear av hr;obtain⟨r0,r1,r2,r3,r4,r5,r6,r7,r8⟩:=L.c9;have fr:=fun j=>L.fz j;go_wp2;refine OJ (eQ (w.heap.size+1) _ (.int .i64 1) (.int .i64 0) (.int .u32 0) (.int .u32 0) (.int .u32 0) (.int .i64 0) (.int .i64 0) (sN) (sN) rfl rfl (mH L)) rfl ?_;exact⟨_,rfl,by rw[Q.out];exact it _ _ 1,eH HB (by omega)⟩
 |true=>
  have HV:=a8 (hr.1 rfl);have af:=a8 (GK HV);clear hr;obtain⟨d0,d1,d2,d3,d4⟩:=Z.c5;have CF:=a8 (jq w _ D ixN K HV HD HB);go_wp2_with fail;refine CF.mono ?_;rintro e G ⟨fa,fc,rfl,ar,ai⟩;have aq:=nAl G (.cells #[.bool (b9 D ixN).1,.slice fa (b9 D ixN).2.length fc] 54);have aj:=ai.trans (aq.mono ai.size);have N:=a8 (dQ G #[.bool (b9 D ixN).1,.slice fa (b9 D ixN).2.length fc] 54);have R:=a8 (Z.below aj Z.lt);have E:=a8 (L.below aj L.lt);have U:=bTr HB aj;have O:=a8 (ar.below U);have aw:w.heap.size≤G.heap.size:=O0 HB.size ai.size;clear ar ai aj aq d0 d1 d2 d3 d4 CF Z L HB;go_upto_region 4 with fail;generalize G.alloc (.cells #[.bool (b9 D ixN).1,.slice fa (b9 D ixN).2.length fc] 54)=W at N R E U O⊢;obtain⟨f0,f1⟩:=N.c2;have ff:=fun j=>N.fz j;have Y:=a8 (fun h=>vJ _ D fa fc (b9 D ixN).2 W HV (HD.below U) h);generalize b9 D ixN=F at f0 f1 af N O Y⊢;obtain⟨ay,al⟩:=F;simp only at f0 f1 af N O Y;obtain⟨d0,d1,d2,d3,d4⟩:=R.c5;cases ay with
  |true=>
   have Q:=a8 (show eu D=ew D al by rw[af.out];exact OS rfl);obtain⟨r0,r1,r2,r3,r4,r5,r6,r7,r8⟩:=E.c9;have fr:=fun j=>E.fz j;clear r0 r1 r2 r3 r4 r5 r6 r7 r8 fr ff;go_wp2_with fail;refine(Y.out O).mono ?_;rintro e A ⟨rv,rfl,ab,M⟩;obtain⟨ma,mn,mc,da,dn,dc,fs,rfl,ak⟩:=id ab;have ag:=a8 ab;have z:=a8 (E.below M E.lt);have ac:=bTr U M;clear ak ab M d0 d1 d2 d3 d4 f0 f1;obtain⟨r0,r1,r2,r3,r4,r5,r6,r7,r8⟩:=z.c9;have fr:=fun j=>z.fz j;go_wp2;generalize ew D al=J at ag Q⊢;refine OJ (eQ (w.heap.size+1) _ (.int .i64 J.code) (.int .i64 J.kind) (uI J.val) (uI J.next) (uI J.cur) (iI J.gen) (iI J.taken) (.slice ma mn mc) (.slice da dn dc) rfl rfl (mH z)) rfl ?_;rw[Q.out];exact⟨_,rfl,(ag.aside z (fun x h=>by simp[zst] at h) (by have:=E.lt;omega) (fun b hb=>jk hb)).mono U.size,eH ac (by omega)⟩
  |false=>
   have ah:=a8 (show eu D=if(b9 D uxN).1=true then fO D (b9 D uxN).2 else gL 2 by rw[af.out];exact OR (by simp));have CF:=a8 (jq w _ D uxN W HV HD U);clear Y O af;go_wp2_with fail;refine CF.mono ?_;rintro e w6 ⟨ga,gc,rfl,au,M⟩;have aa:=a8 (N.below M N.lt);have T1:=a8 (R.below M R.lt);have T2:=a8 (E.below M E.lt);have ac:=bTr U M;have am:=a8 au;obtain⟨x0,x1⟩:=aa.c2;have fx:=fun j=>aa.fz j;have n1:G.heap.size≠w.heap.size:=fun e=>by
    have h1:=T1.out;have h2:=aa.out;unfold Blk at h1 h2;rw[e,h1] at h2;cases h2
   have n2:G.heap.size≠w.heap.size+1:=fun e=>by
    have h1:=T2.out;have h2:=aa.out;unfold Blk at h1 h2;rw[e,h1] at h2;cases h2
   have an:=a8 n1;have ao:=a8 n2;clear au M f0 f1 ff d0 d1 d2 d3 d4 CF N R E n1 n2;go_upto_region 7 with fail;have ae:=a8 (mW aa (.bool (b9 D uxN).1) (.slice ga (b9 D uxN).2.length gc));have ad:=a8 ((ac.setCell (p:=⟨G.heap.size,0,none⟩) aw (.bool (b9 D uxN).1)).setCell (p:=⟨G.heap.size,1,none⟩) aw (.slice ga (b9 D uxN).2.length gc));have S1:=a8 ((T1.other (j:=0) (Ne.symm an) (.bool (b9 D uxN).1)).other (j:=1) (Ne.symm an) (.slice ga (b9 D uxN).2.length gc));have I:=a8 ((T2.other (j:=0) (Ne.symm ao) (.bool (b9 D uxN).1)).other (j:=1) (Ne.symm ao) (.slice ga (b9 D uxN).2.length gc));clear x0 x1 fx aa T1 T2 U;generalize (w6.setCell ⟨G.heap.size,0,none⟩ (.bool (b9 D uxN).1)).setCell ⟨G.heap.size,1,none⟩ (.slice ga (b9 D uxN).2.length gc)=V at ae ad S1 I⊢;have O:=a8 (am.below ad);obtain⟨f0,f1⟩:=ae.c2;have Y:=a8 (fun h=>sA _ D ga gc (b9 D uxN).2 V HV (HD.below ad) h);clear am ac;generalize b9 D uxN=F at f0 f1 ah ae O Y⊢;obtain⟨ax,ap⟩:=F;simp only at f0 f1 ah ae O Y;obtain⟨d0,d1,d2,d3,d4⟩:=S1.c5;cases ax with
   |true=>
    have Q:=a8 (show eu D=fO D ap by rw[ah.out];exact OS rfl);go_wp2_with fail;refine(Y.out O).mono ?_;rintro e A ⟨rv,rfl,ab,M⟩;obtain⟨ma,mn,mc,da,dn,dc,fs,rfl,ak⟩:=id ab;have ag:=a8 ab;have z:=a8 (I.below M I.lt);have ac:=bTr ad M;clear ak ab M d0 d1 d2 d3 d4 f0 f1;obtain⟨r0,r1,r2,r3,r4,r5,r6,r7,r8⟩:=z.c9;have fr:=fun j=>z.fz j;go_wp2;generalize fO D ap=J at ag Q⊢;refine OJ (eQ (w.heap.size+1) _ (.int .i64 J.code) (.int .i64 J.kind) (uI J.val) (uI J.next) (uI J.cur) (iI J.gen) (iI J.taken) (.slice ma mn mc) (.slice da dn dc) rfl rfl (mH z)) rfl ?_;rw[Q.out];exact⟨_,rfl,(ag.aside z (fun x h=>by simp[zst] at h) (by have:=I.lt;omega) (fun b hb=>jk hb)).mono ad.size,eH ac (by omega)⟩
   |false=>
    have Q:=a8 (show eu D=gL 2 by rw[ah.out];exact OR (by simp));obtain⟨r0,r1,r2,r3,r4,r5,r6,r7,r8⟩:=I.c9;have fr:=fun j=>I.fz j;go_wp2;refine OJ (eQ (w.heap.size+1) _ (.int .i64 2) (.int .i64 0) (.int .u32 0) (.int .u32 0) (.int .u32 0) (.int .i64 0) (.int .i64 0) (sN) (sN) rfl rfl (mH I)) rfl ?_;exact⟨_,rfl,by rw[Q.out];exact it _ _ 2,eH ad (by omega)⟩
def sW(s:SX):Prop:=s.mails.length≤100∧∀m∈s.mails,m.body.length≤8000
theorem AD{α:Type}{z:α→Nat}{m:α}:∀{xs ys:List α},jj z m xs=some ys→∀y∈ys,y=m∨y∈xs
 |[],ys,h,y,hy=>by
  simp only[jj,OY] at h;subst h;simp only[Ph] at hy;exact .inl hy
 |x::xs,ys,h,y,hy=>by
  unfold jj at h;by_cases A:z x=z m
  ·rw[OS A] at h;cases h
  ·rw[OR A] at h;by_cases E:z m<z x
   ·rw[OS E] at h;simp only[OY] at h;subst h;simpa using hy
   ·rw[OR E] at h;cases hq:jj z m xs with
    |none=>rw[hq] at h;cases h
    |some q=>
     rw[hq] at h;simp only[Option.map_some,OY] at h;subst h;rcases Pd.1 hy with rfl|hy
     ·exact .inr (by simp)
     ·rcases AD hq y hy with e|e
      ·exact .inl e
      ·exact .inr (O8 _ e)
theorem wS{α:Type}{A z:α→Nat}:∀{l:List α} {s s':Nat×List α},goG A z l s=some s'→s.2.length≤100→(∀m∈s.2,z m≤8000)→s'.2.length≤100∧∀m∈s'.2,z m≤8000
 |[],s,s',h,h1,h2=>by
  simp only[goG,OY] at h;subst h;exact⟨h1,h2⟩
 |c::r,s,s',h,h1,h2=>by
  unfold goG at h;cases hst:stepG A z c s with
  |none=>rw[hst] at h;cases h
  |some t=>
   rw[hst] at h;unfold stepG at hst;by_cases E:A c=4294967295∨8000<z c
   ·rw[OS E] at hst;cases hst
   ·rw[OR E] at hst;cases hi:jj A c s.2 with
    |none=>rw[hi] at hst;cases hst
    |some ms=>
     rw[hi] at hst;simp only at hst;by_cases I:100<ms.length
     ·rw[OS I] at hst;cases hst
     ·rw[OR I] at hst;simp only[OY] at hst;subst hst;refine wS h (by simp only;omega) (fun m G=> ?_);rcases AD hi m G with rfl|G
      ·have:=not_or.1 E;omega
      ·exact h2 m G
theorem EM:∀{first:Bool} {z:List (LN)} {s s':IX},pN first z s=some s'→l5 s→l5 s'
 |_,[],s,s',h,hs=>by
  simp only[pN,OY] at h;subst h;exact hs
 |first,r::rs,s,s',h,hs=>by
  unfold pN at h;cases hst:dV first (gK r) s with
  |none=>rw[hst] at h;cases h
  |some t=>
   rw[hst] at h;exact EM h (ph hst hs)
theorem EO{z:List (LN)}{s:IX}(h:nN z=some s):l5 s:=by
 unfold nN at h;by_cases A:z=[]
 ·rw[OS A] at h;cases h
 ·rw[OR A] at h;exact EM h I7
theorem xt{D:dO}{c:Nat}:∀{l r:List XM},gT D c l=some r→r.length=l.length
 |[],r,h=>by
  simp only[gT,OY] at h;subst h;rfl
 |m::ms,r,h=>by
  unfold gT at h;cases h1:mA D c m with
  |none=>rw[h1] at h;cases h
  |some x=>
   rw[h1] at h;cases h2:gT D c ms with
   |none=>rw[h2] at h;cases h
   |some xs=>
    rw[h2] at h;simp only[OY] at h;subst h;simp[xt h2]
theorem Er{ms:List IM}{f:Bool×LN}{r:List XM}(h:fd ms f=some r):r.length=ms.length:=by
 unfold fd at h;by_cases z:f.1=true∧dH ms≤f.2.length
 ·rw[OS z] at h;cases h2:iK (f.2.take (dH ms)) with
  |none=>rw[h2] at h;cases h
  |some xs=>
   rw[h2] at h;exact(pG h).2
 ·rw[OR z] at h;cases h
theorem tG{s:SX}(z:s.mails.length≤100):sW (mf s):=by
 unfold mf;by_cases h:s.mails.all (fun m=>decide (m.body.length≤8000))=true
 ·rw[OS h];exact⟨z,fun m A=>OU (List.all_eq_true.1 h m A)⟩
 ·rw[OR h];exact⟨by simp[gL],by simp[gL]⟩
theorem iM(c:Int):sW (gL c):=⟨by simp[gL],by simp[gL]⟩
theorem te(D:dO)(z:LN):sW (ew D z):=by
 unfold ew;cases h1:nN (dP z).1 with
 |none=>exact iM 3
 |some s=>
  have E:=(EO h1).len;simp only;cases h2:fd s.mails (b9 D (ej s.gen)) with
  |none=>exact iM 3
  |some ms=>
   have G:=Er h2;simp only;by_cases A:(b9 D fh).1=true
   ·rw[OS A];cases h4:f5 (dP (b9 D fh).2).1 with
    |none=>exact iM 3
    |some c=>
     simp only;cases h5:gT D c ms with
     |none=>exact iM 3
     |some ms'=>
      have:=xt h5;exact tG (by simp only;omega)
   ·rw[OR A];exact tG (by simp only;omega)
theorem vt(D:dO)(z:LN):sW (fO D z):=by
 unfold fO;cases h1:mm (dP z).1 with
 |none=>exact iM 3
 |some s=>
  simp only;cases h2:goG XM.uid (fun m=>m.body.length) (ie D s.dead (D.names.map (·.1))) (s.next,[]) with
  |none=>exact iM 3
  |some p=>
   obtain⟨n,ms⟩:=p;exact wS h2 (by simp) (by simp)
theorem Bz(D:dO):sW (eu D):=by
 unfold eu;split
 ·split
  ·exact te _ _
  ·split
   ·exact vt _ _
   ·exact iM 2
 ·exact iM 1
structure VM where
 x:LM
 ba:OA
 bc:Nat
abbrev VM.v(m:VM):Value:= .slice m.ba m.x.body.length m.bc
def vmC(m:VM):List Value:=[.int .u32 (m.x.uid:Int),.int .i64 (m.x.stamp:Int),.int .u32 (m.x.flags:Int),.slice m.ba m.x.body.length m.bc]
theorem I3:(prog.info? 118).map (fun i=>(i.zero,i.size,i.bytes))=some (some (.agg #[.int .u32 0,.int .i64 0,.int .u32 0,sN]),4,48):=by kernel_rfl
theorem uW{M:Array Oper}{A:Act}{K:Act→World→Prop}{E:Prop}(w:World)(V:o.guard=none)(s x:Operand)
  (ho:o.op= .call {callee:= .builtin .append,args:= #[s,x],argTypes:= #[113,113]})
  (G:Nat) (v:Value) (ms:List VM) (m:VM) (J c:Nat) (hs:A.eval s=v) (hx:A.eval x=sS J 1 c) (L:dM w G 118 4 v (ms.map vmC))
  (hc:∀j u,(vmC m)[j]? =some u→w.cell? ⟨J,j,none⟩=some u) (ab:ms.length≤1048576) (O:G≤w.heap.size)
  (h:∀I w',dM w' G 118 4 I ((ms++[m]).map vmC)→w.grownBy w' v.ownBlock→K (A.put o.dst I) w'):if Region.wanted o (yielded M A.tmps)=true then Oper.wp prog o A w K Q else E:=by
 have hw:Region.wanted o (yielded M A.tmps)=true:=(by simp[Region.wanted,V]);rw[OS hw];obtain⟨i0,hi,Y,Z,aa⟩:=info_parts I3;have R:w.ownsRow G 118 4 v ms.length (ms.map vmC).flatten:=(by have:=L.2;rw[OW] at this;exact this);refine wp_append_own w s x 113 ho G 118 i0 (.agg #[.int .u32 0,.int .i64 0,.int .u32 0,sN]) 4 48 underlying113 hi Y Z aa rfl (by decide) v ms.length (ms.map vmC).flatten hs R ⟨J,0,none⟩ 1 c (vmC m) hx (by simp[vmC]) ?_ ?_ (by unfold maxLen;omega) (by omega) O ?_
 ·intro j u hj;rw[ez,Ps];exact hc j u hj
 ·intro u N;simp only[vmC,Pd,Pw,or_false] at N;rcases N with rfl|rfl|rfl|rfl<;>rfl
 ·intro I w' U hg _;refine h I w' ⟨?_,?_⟩ hg
  ·intro y z;rw[O7,Pj] at z;rcases z with z|z
   ·exact L.1 y z
   ·simp only[Pe,PD,Ph] at z;rw[z];rfl
  ·rw[OW,O1,O7,PQ];simpa using U
theorem qa{b1:Nat}{e:TypeId}{v u:Value}{M:List (List Value)}{l:LN}(h:dM w b1 e k v M)(U:dR w b2 u l)(J:e≠5):∀g,v.ownBlock=some g→u.ownBlock≠some g:=fun g A z=>by
 rcases h.2.2 with⟨G,_⟩|⟨N,cap,Z,Q,_,R,_⟩
 ·rw[G] at A;cases A
 ·rcases U.2 with⟨G,_⟩|⟨O,V,Y,I,_,E,_⟩
  ·rw[G] at z;cases z
  ·rw[Q] at A;rw[I] at z;have K:N=g:=PJ A;have L:O=g:=PJ z;subst K;subst L;rw[R] at E;simp only[OY,Obj.cells.injEq] at E;exact J E.2.1
theorem qe{fn:Func}{p:Tmp}(B:Nat)(W:World)(v0 v1 v2 v3 v4 v5:Value)(A:fn.results= #[.cell p 115])(E:tmps.getD p undef=pP B)(z:Blk W B #[v0,v1,v2,v3,v4,v5] 115):
  (results fn tmps).run prog W= .ok (.agg #[v0,v1,v2,v3,v4,v5]) W:=results_cell_row (P:=prog) A _ _ B _ _ _ _ E z underlying115 rfl (by kernel_rfl)
theorem E4{z A:Value}(h:Blk W g #[z,A,E,G,I,J] t):Blk ((((((W.setCell ⟨g,0,none⟩ v0).setCell ⟨g,1,none⟩ v1).setCell ⟨g,2,none⟩ v2).setCell ⟨g,3,none⟩ v3).setCell ⟨g,4,none⟩ v4).setCell ⟨g,5,none⟩ v5) g #[v0,v1,v2,v3,v4,v5] t:=by
 have:=((((((h.set 0 v0).set 1 v1).set 2 v2).set 3 v3).set 4 v4).set 5 v5)
 simpa using this
abbrev iZ:BA:=⟨#[46,110,101,119]⟩
abbrev FT:=BA×LN×Nat
def gG(nm:BA)(d:LN):List OpV:=kz (nm++iZ) d++[(4,nm++iZ,nm,[]),(6,fK,fK,[])]
def eK(f:FT):List OpV:=if f.2.2<f.2.1.length then gG f.1 (f.2.1.take f.2.2) else[]
def fH(f:FT):List BA:=if f.2.2<f.2.1.length then[f.1++iZ] else[]
def pT(k:Int):List BA:=if k=1 then[ixN] else if k=2 then[ixN,fh] else[uxN]
def jP(D:dO)(nm:BA):FT:=(nm,(b9 D nm).2,(dP (b9 D nm).2).2)
def sh(D:dO)(s:SX):FT:=(ej s.gen,(b9 D (ej s.gen)).2,s.taken)
def gY(D:dO)(s:SX):List FT:=(pT s.kind).map (jP D)++(if s.kind=3 then[] else[sh D s])
open Classical in
noncomputable def gZ(s:SX)(nm:BA):Bool:=if s.kind=3 then(decide (nm=uxN)||match eR nm.data.toList with
  |some k=>decide (k.1∉s.dead)
  |none=>false) else(decide (nm=ixN)||decide (nm=ej s.gen)||(decide (nm=fh)&&decide (s.kind=2))||s.mails.any fun m=>m.moved&&decide (m.card=nm))
def f8(n:BA):OpV:=(5,n,fK,[])
abbrev iz:OpV:=(6,fK,fK,[])
def iX(ns:List BA):List OpV:=if ns=[] then[] else ns.map f8++[iz]
open Classical in
noncomputable def iu(made:List BA)(s:SX)(nm:BA):Bool:= !(decide (nm∈made))&& !(gZ s nm)
noncomputable def iT(D:dO):List OpV:=if(eu D).code=0 then(gY D (eu D)).flatMap eK++iX ((D.names.map (·.1)).filter (iu ((gY D (eu D)).flatMap fH) (eu D))) else[]
theorem Mp(r:LN):(gK r).length≤r.length+1:=by
 have z:=lX 32 (fw r).data.toList;have A:(fw r).data.toList.length=r.length:=i7 r;have E:(gK r).length≤(fw r).data.toList.length+1:=z;omega
theorem xK:∀{first:Bool} {z:List (LN)} {s s':UX},qs first z s=some s'→(first=false→1≤s.next∧s.next≤4294967295)→s'.dead.length≤s.dead.length+(kB z+z.length)
 |_,[],s,s',h,hs=>by simp only[qs,OY] at h;subst h;simp
 |first,r::rs,s,s',h,hs=>by
  unfold qs at h;cases h1:d9 first (gK r) s with
  |none=>rw[h1] at h;cases h
  |some s1=>
   rw[h1] at h;have A:=vo h1 hs;have E:=xK h (fun _=>A.2);have G:=Mp r;have I:kB (r::rs)=r.length+kB rs:=(by simp[kB]);simp only[Pf];omega
theorem Hf{d:LN}{s:UX}(h:mm (dP d).1=some s):s.dead.length≤40000:=by
 unfold mm at h;split at h
 ·cases h
 ·have z:=xK h (fun h=>by cases h);have A:=j2 d;simp only[PM] at z;omega
structure MX(s:SX):Prop where
 kind:s.kind=1∨s.kind=2∨s.kind=3
 gen:s.gen≤99999
 taken:s.taken≤4000000
 dead:s.dead.length≤40000
theorem ou{s:SX}(h:(mf s).code=0):mf s=s:=by
 unfold mf at*;split at h
 ·rw[OS (by assumption)]
 ·cases h
theorem JQ{D:dO}(h:(eu D).code=0):MX (eu D):=by
 unfold eu at*;split at h
 ·split at h
  ·rename_i G I;rw[OS G,OS I];unfold ew at*;cases z:nN (dP (b9 D ixN).2).1 with
   |none=>rw[z] at h;cases h
   |some s=>
    rw[z] at h;have E:=EO z;have J:=qn E.size s.mails.length;rw[PA] at J;have K:=E.len;simp only at h⊢;cases h4:fd s.mails (b9 D (ej s.gen)) with
    |none=>rw[h4] at h;cases h
    |some ms=>
     rw[h4] at h;simp only at h⊢;split at h
     ·rename_i A;rw[OS A];cases h6:f5 (dP (b9 D fh).2).1 with
      |none=>rw[h6] at h;cases h
      |some c=>
       rw[h6] at h;simp only at h⊢;cases h7:gT D c ms with
       |none=>rw[h7] at h;cases h
       |some ms'=>
        rw[h7] at h;simp only at h⊢;rw[ou h];exact⟨.inr (.inl rfl),E.gen,by simp only;omega,by simp⟩
     ·rename_i A;rw[OR A,ou h];exact⟨.inl rfl,E.gen,by simp only;omega,by simp⟩
  ·split at h
   ·rename_i G I z;rw[OS G,OR I,OS z];unfold fO at*;cases h4:mm (dP (b9 D uxN).2).1 with
    |none=>rw[h4] at h;cases h
    |some s=>
     rw[h4] at h;simp only at h⊢;cases A:goG XM.uid (fun m=>m.body.length) (ie D s.dead (D.names.map (·.1))) (s.next,[]) with
     |none=>rw[A] at h;cases h
     |some p=>exact⟨.inr (.inr rfl),by simp,by simp,Hf h4⟩
   ·cases h
 ·cases h
theorem D8{A:Value}(z x2 x3 x4:Value)(h:Blk W B #[A,E,G,I] 66):Blk ((((W.setCell ⟨B,0,none⟩ z).setCell ⟨B,1,none⟩ x2).setCell ⟨B,2,none⟩ x3).setCell ⟨B,3,none⟩ x4) B #[z,x2,x3,x4] 66:=(((h.set 0 z).set 1 x2).set 2 x3).set 3 x4
theorem po(h:Below w.heap.size w W)(z x2 x3 x4:Value):Below w.heap.size w ((((W.setCell ⟨w.heap.size,0,none⟩ z).setCell ⟨w.heap.size,1,none⟩ x2).setCell ⟨w.heap.size,2,none⟩ x3).setCell ⟨w.heap.size,3,none⟩ x4):=
 (((h.setCell (p:=⟨w.heap.size,0,none⟩) (OV _) _).setCell (p:=⟨w.heap.size,1,none⟩) (OV _) _).setCell (p:=⟨w.heap.size,2,none⟩) (OV _) _).setCell (p:=⟨w.heap.size,3,none⟩) (OV _) _
abbrev opA(o:OpV):Value:= .agg #[.int .i64 o.1,.string o.2.1,.string o.2.2.1,sN]
theorem F8(nm:BA)(w:World):Calls prog 23 #[.string nm] w fun e w'=>e= .returned (opA (f8 nm))∧Below w.heap.size w w':=by
 have A:=a8 (nAl w (.cells #[.int .i64 0,.string ⟨#[]⟩,.string ⟨#[]⟩,sN] 66));have z:=a8 (dQ w #[.int .i64 0,.string ⟨#[]⟩,.string ⟨#[]⟩,sN] 66);go_enter func23,ntmps23;go_upto_region 1 with fail;generalize w.alloc (.cells #[.int .i64 0,.string ⟨#[]⟩,.string ⟨#[]⟩,sN] 66)=w0 at A z⊢;obtain⟨G,I,z2,J⟩:=z.c4;have E:=fun j=>z.fz j;go_wp2;exact OJ (D4 w.heap.size _ _ _ _ _ rfl rfl (D8 _ _ _ _ z)) rfl ⟨rfl,po A _ _ _ _⟩
theorem F9(nm A:BA)(w:World):Calls prog 49 #[.string nm,.string A] w fun e w'=>e= .returned (opA (4,nm,A,[]))∧Below w.heap.size w w':=by
 have E:=a8 (nAl w (.cells #[.int .i64 0,.string ⟨#[]⟩,.string ⟨#[]⟩,sN] 66));have z:=a8 (dQ w #[.int .i64 0,.string ⟨#[]⟩,.string ⟨#[]⟩,sN] 66);go_enter func49,ntmps49;go_upto_region 1 with fail;generalize w.alloc (.cells #[.int .i64 0,.string ⟨#[]⟩,.string ⟨#[]⟩,sN] 66)=w0 at E z⊢;obtain⟨I,J,z2,K⟩:=z.c4;have G:=fun j=>z.fz j;go_wp2;exact OJ (D4 w.heap.size _ _ _ _ _ rfl rfl (D8 _ _ _ _ z)) rfl ⟨rfl,po E _ _ _ _⟩
theorem rL(w:World):Calls prog 24 #[] w fun e w'=>e= .returned (opA iz)∧Below w.heap.size w w':=by
 have A:=a8 (nAl w (.cells #[.int .i64 0,.string ⟨#[]⟩,.string ⟨#[]⟩,sN] 66));have z:=a8 (dQ w #[.int .i64 0,.string ⟨#[]⟩,.string ⟨#[]⟩,sN] 66);go_enter func24,ntmps24;go_upto_region 1 with fail;generalize w.alloc (.cells #[.int .i64 0,.string ⟨#[]⟩,.string ⟨#[]⟩,sN] 66)=w0 at A z⊢;obtain⟨G,I,z2,J⟩:=z.c4;have E:=fun j=>z.fz j;go_wp2;exact OJ (D4 w.heap.size _ _ _ _ _ rfl rfl (D8 _ _ _ _ z)) rfl ⟨rfl,po A _ _ _ _⟩
abbrev ru(os:List OpV):List V4:=os.map fun o=>(.int .i64 o.1,.string o.2.1,.string o.2.2.1,sN)
theorem lg(w:World)(z:Nat)(os:List OpV)(A:z≤w.heap.size)(E:os.length≤1048576)(G:∀o∈os,o.2.2.2=[]):fU (w.alloc (.cells (gD (ru os)).toArray 66)) z (sS w.heap.size os.length os.length) (ru os) os:=by
 have h:=qb w z (ru os) os A (by rw[OW];exact E) (by rw[OW]) (fun i hi=>⟨sN,by rw[PE,OZ hi];rfl,by rw[G _ (O6 hi)];exact dR.nil _ _⟩);rw[OW] at h;exact h
theorem tZ(nm:BA)(a:OA)(c:Nat)(d:LN)(w:World)(hs:nm.size≤1048576)(hd:d.length≤1048576)(hr:dW w a d):
  Calls prog 20 #[.string nm,.slice a d.length c] w (lJ w (gG nm d)):=by
 have V:=a8 (F7 (nm++iZ) a c d w hd hr);have ad:=a8 (show nm++iZ=nm++⟨#[46,110,101,119]⟩ from rfl);clear hr;go_enter func20,ntmps20;go_wp2_with fail;refine V.mono ?_;rintro e w1 ⟨v,vs,rfl,L,hb⟩;obtain⟨J,K,hv⟩:=L.slice;rw[show(kz (nm++iZ) d).length=3 from rfl] at hv;subst hv;have Y:=a8 L;have U:=a8 hb;clear L hb V;go_wp2_with fail;refine(F9 (nm++iZ) nm w1).mono ?_;rintro e w2 ⟨rfl,G⟩;have Q:=a8 (Y.below' G);have N:=bTr U G;clear G Y U;go_wp2_with fail;refine(rL w2).mono ?_;rintro e M ⟨rfl,I⟩;have E:=nAl M (.cells (gD [(.int .i64 4,.string (nm++iZ),.string nm,sN),(.int .i64 6,.string fK,.string fK,sN)]).toArray 66);have O:=bTr N I;have HX:=a8 (lg M w.heap.size [(4,nm++iZ,nm,[]),iz] O.size (by simp) (by simp));have Z:=a8 ((Q.below' I).below' E);have A:=bTr O E;have aa:=a8 (fun(z:World) (hg:World.grownBy _ z (Value.slice J 3 K).ownBlock)=>show Below w.heap.size w z from A.trans ((Fr.of_grown (S:=fun g=>(Value.slice J 3 K).ownBlock=some g) hg (fun k e=>e)).below (fun g e=>(pm Z.row e).1) A.size));clear I E N Q;go_wp2_with (at_builtin;(refine eL _ rfl (.tmp 8) (.tmp 14) rfl w.heap.size (.slice J 3 K) vs (kz (nm++iZ) d) rfl ?_ (sS M.heap.size 2 2) (ru [(4,nm++iZ,nm,[]),iz]) [(4,nm++iZ,nm,[]),iz] rfl ?_ ?_ ?_ ?_ ?_;(exact Z.out);(exact HX.out);(exact Nat.succ_pos 1);(simp[kz]);(exact A.size);intro v5 z h5 R;have ac:=a8 h5;have ab:=a8 (aa.out z R);clear h5 R))
 go_ret;exact⟨v5,_,rfl,ac,ab⟩
theorem Dt(Y:Nat)(s:SX)(v:Value)(w:World)(z:s.kind=1∨s.kind=2∨s.kind=3)(h:RdV w Y s v):
  Calls prog 17 #[v] w fun e w'=>∃u,e= .returned u∧fB w' w.heap.size u (pT s.kind)∧Below w.heap.size w w':=by
 obtain⟨Q,U,R,M,O,N,fs,rfl,Z,h3,h4,h5⟩:=h;have A:=a8 (nAl w (.cells #[.int .i64 s.code,.int .i64 s.kind,uI s.val,uI s.next,uI s.cur,iI s.gen,iI s.taken,.slice Q U R,.slice M O N] 48));have V:=a8 (dQ w #[.int .i64 s.code,.int .i64 s.kind,uI s.val,uI s.next,uI s.cur,iI s.gen,iI s.taken,.slice Q U R,.slice M O N] 48);have K:=a8 (fun(W:World) (hW:w.heap.size≤W.heap.size) (xs:List BA) (hp:0<xs.length) (hx:xs.length≤2)=>show fB (W.alloc (.cells (xs.map Value.string).toArray 9)) w.heap.size (sS W.heap.size xs.length xs.length) xs from⟨by simp,.inr ⟨W.heap.size,xs.length,_,rfl,hW,OP W _,OV _,by unfold maxLen;omega,by simp,by rw[Nat.mul_one,Pc (by simp)]⟩⟩);clear Z h3 h4 h5;go_enter func17,ntmps17;go_upto_region 1 with fail;generalize w.alloc (.cells #[.int .i64 s.code,.int .i64 s.kind,uI s.val,uI s.next,uI s.cur,iI s.gen,iI s.taken,.slice Q U R,.slice M O N] 48)=I at A V⊢;obtain⟨-,L⟩:=V.c2;have J:=a8 (fun(o:Obj)=>A.alloc A.size o);rcases z with z|z|z
 ·rw[z] at L;have E:=a8 z;clear z;have G:=a8 (show fB _ _ _ (pT s.kind) from by rw[E.out];exact K.out I A.size [ixN] (by decide) (by decide));go_wp2;go_ret;exact⟨_,rfl,G,J.out _⟩
 ·rw[z] at L;have E:=a8 z;clear z;have G:=a8 (show fB _ _ _ (pT s.kind) from by rw[E.out];exact K.out I A.size [ixN,fh] (by decide) (by decide));go_wp2;go_ret;exact⟨_,rfl,G,J.out _⟩
 ·rw[z] at L;have E:=a8 z;clear z;have G:=a8 (show fB _ _ _ (pT s.kind) from by rw[E.out];exact K.out I A.size [uxN] (by decide) (by decide));go_wp2;go_ret;exact⟨_,rfl,G,J.out _⟩
end Go.Proofs.YtkkdfgnnlpohlaaGreatDoor
