import Derived.Test.YtpdbolihakojcaaGreatDoorPkw
namespace Go.Proofs.YtpdbolihakojcaaGreatDoor
set_option maxRecDepth 20000
set_option linter.unusedVariables false
set_option linter.unusedSimpArgs false
set_option maxHeartbeats 4000000
open Go.RowKit
variable {W Y w w' w0 wr : World} {b : List UInt8} {A B at_ base' c cap e f g gs i j k lo m n u z : Nat} {R d is l : List Nat} {E G I J K L M N O v0 v1 v2 v3 v4 v5 v6 x y : Value} {o : Oper} {Q : Exit → Act → World → Prop} {bvs xs : List Value} {t : TypeId} {cs tmps : Array Value} {p : Addr} {a : Option Addr} {first ok : Bool} {s : ByteArray} {rs : List (List Nat)}
theorem pi{D:dQ}(I:eP D)(nm:ByteArray):(dI D nm).2.length≤40000:=by
 unfold dI;cases fF D.names nm with
 |none=>simp
 |some n=>
  simp only;have h:=I.2.2.2.1;unfold fT at h;have E:=(of_decide_eq_true h).2.1;by_cases A:n.toNat<D.nodes.length
  ·have z:=E n.toNat A;unfold kw at z;have G:=(of_decide_eq_true z).1;rw[List.getD_eq_getElem?_getD,MM A];exact G
  ·rw[List.getD_eq_getElem?_getD,Nf (by omega)];simp
theorem fX.lowB(h:fX w0 a c d)(z:0<d.length):∀p,a=some p→p.block<w0.heap.size:=fun p E=>by
 obtain⟨b,G,e,A⟩:=h.row z;rw[E] at e;simp only[MK] at e;subst e;exact dH (A 0 z)
theorem dV.ofB(h:dV gs B w w')(z:Below w0.heap.size w0 w)(E:w0.heap.size≤B)(G:w0.heap.size≤gs):Below w0.heap.size w0 w':=⟨h.os.trans z.os,h.tape.trans z.tape,h.output.trans z.output,MN z.size h.size,fun k A=>(h.block k (by omega) (by omega)).trans (z.block k A)⟩
theorem gV(f:FuncId)(J:∀(v u:Value) (w:World),(callFunc f #[v,u]).run Tryz.prog w= .ok (.enter f #[v,u]) w){G:Array Oper}{z:Act}{K:Act→World→Prop}{E:Prop}(x y:Operand)(ts:Array TypeId)(A:o.guard=none)
  (I:o.op= .call {callee:= .value (.func f),args:= #[x,y],argTypes:=ts}) (v u:Value) (N:z.eval x=v) (O:z.eval y=u) (h:Calls Tryz.prog f #[v,u] w fun e w'=>∃r,e= .returned r∧K (z.put o.dst r) w'):
  if Region.wanted o (yielded G z.tmps)=true then Oper.wp Tryz.prog o z w K Q else E:=by
 have M:Region.wanted o (yielded G z.tmps)=true:=(by simp[Region.wanted,A]);rw[if_pos M];obtain⟨V,Z,ty,Y,R,U⟩:=o;simp only at I A;subst I;unfold Oper.wp;rw[execOp_call_go];simp only[List.map_toArray,M0,Ns,N,O,List.append_toArray,Nq,Nn,J,Oper.upon_enter];refine h.mono ?_;rintro e w' ⟨r,rfl,L⟩;exact L
theorem Am(v:Value)(w:World):(callFunc 63 #[v]).run Tryz.prog w= .ok (.enter 63 #[v]) w:=by kernel_rfl
theorem qH(v u:Value)(w:World):(callFunc 36 #[v,u]).run Tryz.prog w= .ok (.enter 36 #[v,u]) w:=by kernel_rfl
theorem Ar(v u:Value)(w:World):(callFunc 62 #[v,u]).run Tryz.prog w= .ok (.enter 62 #[v,u]) w:=by kernel_rfl
theorem vB{D:dQ}{c:Nat}:∀{l r:List XM},r.length=l.length→(∀k (I:k<l.length) (J:k<r.length),lz D c l[k]=some r[k])→gC D c l=some r
 |[],[],_,_=>rfl
 |[],_::_,h,_=>by cases h
 |_::_,[],h,_=>by cases h
 |x::l,y::r,h,hk=>by
  have z:=hk 0 (by simp) (by simp);simp only[List.getElem_cons_zero] at z;have A:=vB (D:=D) (c:=c) (l:=l) (r:=r) (by simpa using h) (fun k E G=>by
   have:=hk (k+1) (by simpa using E) (by simpa using G);simpa using this)
  unfold gC;rw[z,A]
theorem sL{D:dQ}{c:Nat}:∀{l:List XM} {k:Nat} (h:k<l.length),lz D c l[k]=none→gC D c l=none
 |x::l,0,_,h=>by
  unfold gC;simp only[List.getElem_cons_zero] at h;rw[h]
 |x::l,k+1,hk,h=>by
  unfold gC;rw[sL (l:=l) (k:=k) (by simpa using hk) (by simpa using h)];cases lz D c x<;>rfl
theorem yw{D:dQ}(I:eP D){nm:ByteArray}(h:nm∈jj D u):(∃k,fo nm.data.toList=some k)∧nm.size≤80:=by
 unfold jj at h;obtain⟨E,z⟩:=List.mem_filter.1 h;refine⟨?_,?_⟩
 ·cases hc:fo nm.data.toList with
  |none=>rw[hc] at z;cases z
  |some k=>exact⟨k,rfl⟩
 ·obtain⟨J,A,rfl⟩:=Na.1 E;obtain⟨i,G,rfl⟩:=ND.1 A;exact nr I.2.2.2.2.1 i G
theorem ET{D:dQ}{m:XM}(h:c<m.uid):lz D c m=some m:=by unfold lz;rw[if_pos h]
theorem Dq{D:dQ}{m:XM}(h:¬c<m.uid)(z:(jj D m.uid).length≠1):lz D c m=none:=by
 unfold lz;rw[if_neg h];split
 ·next nm e=>rw[e] at z;exact absurd rfl z
 ·rfl
theorem Hk{D:dQ}{m:XM}{nm:ByteArray}{k:Nat×Nat×Nat}(h:¬c<m.uid)(e:jj D m.uid=[nm])(z:fo nm.data.toList=some k):lz D c m=some {m with stamp:=k.2.1,flags:=k.2.2,body:=(dI D nm).2,moved:=true,card:=nm}:=by
 unfold lz;rw[if_neg h];simp only[e,z]
theorem Mn{b:Nat}{v:Value}(K:Blk w b (zst 0 0) 50)(h:TxB w gs v a c d)(M:∀g,g≠b→w'.heap[g]? =w.heap[g]?):TxR w' a c d:=by
 refine⟨fun z=> ?_,h.room,h.cap,fun p z=>(h.ap p z).1⟩;obtain⟨g,A,rfl,G⟩:=h.row z;have I:g≠b:=by
  rintro rfl;have E:=K.cell (A+0);rw[G 0 z] at E;have J:=Array.mem_of_getElem? E.symm;simp at J
 exact⟨g,A,rfl,fun i L=>by rw[d5 (M g I)];exact G i L⟩
theorem gK.same{fs:List FM}{m:FM}(h:gK w A gs (.slice (some ⟨g,0,none⟩) n cap) (fs.set i m))(j:Nat)(G:i<fs.length)(R:j<11)(u:Value)(z:FM)(Q:mlF z=(mlF m).set j u)(J:z.ba=m.ba)(K:z.bc=m.bc)(L:z.x.body=m.x.body)(M:z.ea=m.ea)(N:z.ec=m.ec)(O:z.x.entry=m.x.entry):
  gK (w.setCell ⟨g,i*11+j,none⟩ u) A gs (.slice (some ⟨g,0,none⟩) n cap) (fs.set i z):=by
 have I:m∈fs.set i m:=List.mem_set G m;have E:=h.put i j (by simpa using G) R u z (by rw[Nh];exact Q) (by rw[J,K,L];exact(h.tx m I).1) (by rw[M,N,O];exact(h.tx m I).2);rw[List.set_set] at E;exact E
theorem gK.body{fs:List FM}{m:FM}(h:gK w z gs (.slice (some ⟨g,0,none⟩) n cap) (fs.set i m))(E:i<fs.length)(a:Option Addr)(c:Nat)(b:List Nat)(I:TxB w gs (.slice (some ⟨g,0,none⟩) n cap) a c b):
  gK (w.setCell ⟨g,i*11+3,none⟩ (.slice a b.length c)) z gs (.slice (some ⟨g,0,none⟩) n cap) (fs.set i ⟨{m.x with body:=b},a,c,m.ea,m.ec⟩):=by
 have G:m∈fs.set i m:=List.mem_set E m;have A:=h.put i 3 (by simpa using E) (by omega) (.slice a b.length c) ⟨{m.x with body:=b},a,c,m.ea,m.ec⟩ (by rw[Nh];rfl) I (h.tx m G).2;rw[List.set_set] at A;exact A
theorem fX.toB{B:Nat}(h:fX w a c d)(A:Below w.heap.size w W)(G:w.heap.size≤gs)(I:w.heap.size≤g):TxB W gs (.slice (some ⟨g,0,none⟩) n cap) a c d:=by
 refine⟨h.row.below A,h.room,h.cap,fun p z=>⟨h.spot p z,fun E=> ?_⟩⟩;have J:=h.lowB E p z;refine⟨by omega,?_⟩;simp only[Value.ownBlock,ne_eq,MK];omega
theorem yJ{text:List Nat}:∀{ms:List IM} {xs:List (Nat×Nat×List Nat)} {r:List XM},kD text ms xs=some r→r.map (·.uid)=ms.map (·.uid)
 |[],[],r,h=>by simp only[kD,MK] at h;subst h;rfl
 |[],x::xs,r,h=>by cases h
 |m::ms,[],r,h=>by cases h
 |m::ms,x::xs,r,h=>by
  unfold kD at h;cases hb:eS m x with
  |none=>rw[hb] at h;cases h
  |some b=>
   rw[hb] at h;cases he:kD text ms xs with
   |none=>rw[he] at h;cases h
   |some q=>
    rw[he] at h;simp only[MK] at h;subst h;simp only[M0,yJ he];rfl
theorem Fr{ms:List IM}{f:Bool×List Nat}{r:List XM}(h:eZ ms f=some r):r.map (·.uid)=ms.map (·.uid):=by
 unfold eZ at h;split at h
 ·split at h
  ·exact yJ h
  ·cases h
 ·cases h
theorem Ak(v u:Value)(w:World):(callFunc 65 #[v,u]).run Tryz.prog w= .ok (.enter 65 #[v,u]) w:=by kernel_rfl
theorem Mm{s:IX}{f:Bool×List Nat}{e:Ending}(h:(∃fs z,eZ s.mails f=some (fs.map FM.x)∧e= .returned (.bool true)∧StX w' gs 1 s.val s.next 0 s.gen (dF s.mails) z (.slice none 0 0)∧gK w' B gs z fs)∨(eZ s.mails f=none∧e= .returned (.bool false))):
  ∃ok:Bool,e= .returned (.bool ok)∧((ok=true∧∃fs z,eZ s.mails f=some (fs.map FM.x)∧StX w' gs 1 s.val s.next 0 s.gen (dF s.mails) z (.slice none 0 0)∧gK w' B gs z fs)∨(ok=false∧eZ s.mails f=none)):=by
 rcases h with⟨fs,z,A,rfl,E,G⟩|⟨A,rfl⟩
 ·exact⟨true,rfl,Or.inl ⟨rfl,fs,z,A,E,G⟩⟩
 ·exact⟨false,rfl,Or.inr ⟨rfl,A⟩⟩
theorem Fq{ms:List IM}{f:Bool×List Nat}{r:List XM}(h:eZ ms f=some r):r.length=ms.length:=by
 unfold eZ at h;split at h
 ·split at h
  ·exact(oM h).2
  ·cases h
 ·cases h
theorem uk(v:Value)(D:dQ)(a:Option Addr)(c:Nat)(J:List Nat)(w:World)(hv:eP D)(hd:km w v D)(ht:fX w a c J):
  Calls Tryz.prog 37 #[v,.slice a J.length c] w (A0 (eo D J) w):=by
 have HD:=a8 hd;have HV:=a8 hv;obtain⟨a1,c1,a2,c2,a3,c3,a4,c4,dj,r1,r2,r3,r4⟩:=hd;subst dj;obtain⟨L1,L2,L3,L4,hA,hz⟩:=LN w #[.slice a1 D.nodes.length c1,.slice a2 D.names.length c2,.slice a3 D.kept.length c3,.slice a4 D.pend.length c4,.int .i64 D.quota] (zst 0 0) (zst 3 0) (zst 0 1) 37 50 50 50;have HU:=a8 (pl (ht.below hA));have H1:=a8 L1;have H2:=a8 L2;have H3:=a8 L3;have H4:=a8 L4;have HA:=a8 hA;clear L1 L2 L3 L4 hA ht r1 r2 r3 r4 hv;have dx:∀(a:Option Addr) (n c:Nat) (z:Int) (w:World),(Instr.field 116 (.agg #[.slice a n c,.int .i64 z]) 0).run Tryz.prog w= .ok (.slice a n c) w:=fun a n c z w=>(by kernel_rfl);go_enter Tryz.func37,Tryz.ntmps37;go_upto_region 3 with fail;generalize (((w.alloc (.cells #[.slice a1 D.nodes.length c1,.slice a2 D.names.length c2,.slice a3 D.kept.length c3,.slice a4 D.pend.length c4,.int .i64 D.quota] 37)).alloc (.cells (zst 0 0) 50)).alloc (.cells (zst 3 0) 50)).alloc (.cells (zst 0 1) 50)=w0 at HU H1 H2 H3 H4 HA hz⊢;go_wp2_with fail;refine HU.out.mono ?_;rintro e E ⟨ra,rc,vs,rfl,ho,av⟩;have bE:=a8 (show kp E (w.heap.size+4) (.slice ra (dP J).1.length rc) (dP J).1 from⟨vs,by rw[←hz];exact ho⟩);have aq:=bTr HA av;have G1:=a8 (H1.out.below av (by omega));have R:=a8 (H2.out.below av (by omega));have G3:=a8 (H3.out.below av (by omega));have G4:=a8 (H4.out.below av (by omega));have dD:w.heap.size+4≤E.heap.size:=(by have:=av.size;omega);have HL:=a8 (fun i hi=>xF (d:=J) i hi);have hn:(dP J).1.length≤40000:=(by have:=kj J;omega);have aN:=a8 (show eo D J=match nI (dP J).1 with
  |none=>f8 3
  |some s=>match eZ s.mails (dI D (eH s.gen)) with
   |none=>f8 3
   |some ms=>if(dI D gN).1=true then
     (match fN (dP (dI D gN).2).1 with
      |none=>f8 3
      |some c=>match gC D c ms with
       |none=>f8 3
       |some ms'=>mi ⟨0,2,s.val,s.next,c,s.gen,dF s.mails,ms',[]⟩)
    else mi ⟨0,1,s.val,s.next,0,s.gen,dF s.mails,ms,[]⟩ from rfl)
 generalize dh:(dP J).1=aa at bE HL hn aN⊢;clear dh ho av HU H1 H2 H3 H4 HA hz;by_cases h0:aa=[]
 ·have U:=a8 (show eo D J=f8 3 by rw[aN.out,h0];rfl);have bM:aa.length=0:=(by rw[h0];rfl);rw[bM];clear h0 bM;obtain⟨b0,b1,b2,b3,b4,b5,b6,b7,b8⟩:=G3.out.c9;obtain⟨r0,r1,r2,r3,r4,r5,r6,r7,r8⟩:=R.out.c9;have fr:=fun j=>R.out.fz j;go_wp2;refine bodyPost_ret (eI (w.heap.size+1) _ (.int .i64 3) (.int .i64 0) (.int .u32 0) (.int .u32 0) (.int .u32 0) (.int .i64 0) (.int .i64 0) (.slice none 0 0) (.slice none 0 0) rfl rfl (lE R.out)) rfl ?_;exact⟨_,rfl,by rw[U.out];exact gU _ _ 3,eB aq.out (by omega)⟩
 ·have bM:((aa.length:Int)==0)=false:=(by simp;exact h0);have ck:=a8 h0;clear h0;go_wp2;go_loopw [8,9,30] (fun _ _ i wr=>∃(j:Nat) (s:IX) (mv:Value),j≤aa.length∧i= .int .i64 (j:Int)∧Hid (oT (decide (j=0)) (aa.drop j) s=oT true aa ⟨0,0,0,[]⟩)∧Hid (lG s)∧Hid (StI wr (w.heap.size+3) s mv)∧Hid (iF wr E.heap.size mv s.mails)∧Hid (dV (w.heap.size+3) E.heap.size E wr)∧E.heap.size≤wr.heap.size) (fun _ _ i _=>aa.length-(intOf i).toNat)
  case atStart=>exact⟨0,⟨0,0,0,[]⟩,.slice none 0 0,MQ _,rfl,a8 rfl,a8 GU,G4,a8 (b9.nil _ _ _ _),a8 (dV.of_below (MJ _ _) (MH _)),MH _⟩
  case round=>
   obtain⟨j,s,mv,hj,rfl,ar,au,Z,HO,HX,af⟩:=hrel;by_cases ae:j<aa.length
   ·have bZ:(j:Int)<(aa.length:Int):=(by omega);obtain⟨b0,o0,e0,cx⟩:=(bE.out.keep (fun g M O=>HX.out.block g O (by omega))).rows (by omega);subst e0;obtain⟨ai,ci,k0,ca⟩:=cx j ae;have df:=HL.out j ae;have WD:=a8 (mG ai ci aa[j] wr (by omega) ca);have an:=a8 (fun first s'=>Ev (first:=first) (s:=s) (s':=s') ae);have be:=a8 (fun first=>Jv (first:=first) (s:=s) ae);generalize aa[j]=r at k0 WD an be df;clear cx ca;obtain⟨fb,bJ⟩:∃fb,decide (j=0)=fb:=⟨_,rfl⟩
    have dB:((j:Int)==0)=fb:=(by rw[←bJ];by_cases h:j=0<;>simp[h]);rw[bJ] at ar;clear bJ;go_wp2_with fail;refine WD.out.mono ?_;rintro e w2 ⟨v2,ws,rfl,cB,bO,aR⟩;have cW:=a8 (show ws.map (·.data.toList)=gH r from bO);have cY:=a8 (show∀y∈ws,y.size≤40000 from fun y hy=>by
     have M:=iz (b:=32) (t:=(fC r).data.toList) (w:=y.data.toList) (by rw[←bO];exact List.mem_map_of_mem hy);have O:(fC r).data.toList.length=r.length:=iY r;have h3:y.data.toList.length=y.size:=rfl;omega)
    have cH:E.heap.size≤w2.heap.size:=MN af aR.size;have cp:=a8 (HX.out.trans (dV.of_below aR af));have cn:=a8 (Z.out.below aR Z.out.lt);have cl:=a8 (show iF w2 E.heap.size mv s.mails from b9.below HO.out aR (MH _));have CU:=a8 (zA (w.heap.size+3) E.heap.size wr.heap.size fb v2 ws s mv w2 cn.out cl.out (by omega) cH cB cY.out au.out.len);clear WD bO aR cB k0 Z HO HX;go_wp2_with fail;refine CU.out.mono ?_;rintro e N ⟨bP,aU⟩;have bg:=a8 (cp.out.trans bP);have dk:E.heap.size≤N.heap.size:=MN cH bP.size;have P2:=a8 (R.out.keepB (bg.out.block (w.heap.size+1) (by omega) (by omega)));have P3:=a8 (G3.out.keepB (bg.out.block (w.heap.size+2) (by omega) (by omega)));have cN:=a8 (bg.out.ofB aq.out (by omega) (by omega));rw[cW.out] at aU;clear bP CU cp cn cl;rcases aU with⟨s',ao,bw,rfl,ct,cr⟩|⟨cA,rfl⟩
    ·have cQ:=a8 ((an.out fb s' bw).symm.trans ar.out);have cR:=a8 (om bw au.out);have cU:=a8 ct;have cT:=a8 cr;clear bw ct cr an be ar;go_wp2;go_roundw
     case rel=>exact⟨j+1,s',ao,by omega,by go_num,a8 (by rw[←cQ.out];rfl),cR,cU,cT,bg,dk⟩
     case measure=>simp[intOf];omega
    ·have U:=a8 (show eo D J=f8 3 by
      rw[aN.out];unfold nI;rw[if_neg ck.out,←ar.out,be.out fb cA])
     clear an be cA ar;obtain⟨b0,b1,b2,b3,b4,b5,b6,b7,b8⟩:=P3.out.c9;obtain⟨r0,r1,r2,r3,r4,r5,r6,r7,r8⟩:=P2.out.c9;have fr:=fun j=>P2.out.fz j;go_wp2;refine bodyPost_ret (eI (w.heap.size+1) _ (.int .i64 3) (.int .i64 0) (.int .u32 0) (.int .u32 0) (.int .u32 0) (.int .i64 0) (.int .i64 0) (.slice none 0 0) (.slice none 0 0) rfl rfl (lE P2.out)) rfl ?_;exact⟨_,rfl,by rw[U.out];exact gU _ _ 3,eB cN.out (by omega)⟩
   ·obtain rfl:j=aa.length:=(by omega);have co:=a8 (show nI aa=some s by
     unfold nI;rw[if_neg ck.out,←ar.out,Nx];cases hz:decide (aa.length=0)<;>rfl)
    have bD:=a8 (aN.out.trans (by rw[co.out]):eo D J=match eZ s.mails (dI D (eH s.gen)) with
     |none=>f8 3
     |some ms=>if(dI D gN).1=true then
       (match fN (dP (dI D gN).2).1 with
        |none=>f8 3
        |some c=>match gC D c ms with
         |none=>f8 3
         |some ms'=>mi ⟨0,2,s.val,s.next,c,s.gen,dF s.mails,ms',[]⟩)
      else mi ⟨0,1,s.val,s.next,0,s.gen,dF s.mails,ms,[]⟩)
    have ab:=a8 (HX.out.ofB aq.out (by omega) (by omega));have K:=a8 (G1.out.keepB (HX.out.block (w.heap.size) (by omega) (by omega)));obtain⟨d0,d1,d2,d3,d4⟩:=K.out.c5;obtain⟨-,-,-,-,-,s5⟩:=Z.out.c6;have CM:=a8 (fun(X:World)=>BE s.gen X au.out.gen);have CF:=a8 (fun(X:World) (hX:Below wr.heap.size wr X)=>ke w _ D (eH s.gen) X HV.out HD.out (ab.out.trans (hX.mono ab.out.size)));have CT:=a8 (fun(X:World) (fa:Option Addr) (fc:Nat) (hX:Below wr.heap.size wr X) (ax:fX w fa fc (dI D (eH s.gen)).2)=>BG (w.heap.size+3) E.heap.size s mv (dI D (eH s.gen)).1 (dI D (eH s.gen)).2 fa fc X (Z.out.below hX Z.out.lt) (b9.below HO.out hX (MH _)) (by omega) (MN af hX.size) (ax.below (ab.out.trans (hX.mono ab.out.size))) (by have:=pi HV.out (eH s.gen);omega) (fun hl p hp=>by have:=ax.lowB hl p hp;exact⟨by omega,by omega⟩) au.out.len au.out.size);have cf:=a8 (fun(Y:World) (hY:Below wr.heap.size wr Y)=>((⟨(hY.cell (p:=⟨w.heap.size,0,none⟩) K.out.lt).trans d0,(hY.cell (p:=⟨w.heap.size,1,none⟩) K.out.lt).trans d1,(hY.cell (p:=⟨w.heap.size,2,none⟩) K.out.lt).trans d2,(hY.cell (p:=⟨w.heap.size,3,none⟩) K.out.lt).trans d3,(hY.cell (p:=⟨w.heap.size,4,none⟩) K.out.lt).trans d4,(hY.cell (p:=⟨w.heap.size+3,5,none⟩) Z.out.lt).trans s5⟩):Y.cell? ⟨w.heap.size,0,none⟩=some (.slice a1 D.nodes.length c1)∧Y.cell? ⟨w.heap.size,1,none⟩=some (.slice a2 D.names.length c2)∧Y.cell? ⟨w.heap.size,2,none⟩=some (.slice a3 D.kept.length c3)∧Y.cell? ⟨w.heap.size,3,none⟩=some (.slice a4 D.pend.length c4)∧Y.cell? ⟨w.heap.size,4,none⟩=some (.int .i64 D.quota)∧Y.cell? ⟨w.heap.size+3,5,none⟩=some (.int .i64 (s.gen:Int))));clear hj ae aN co ar G4 HL bE;go_upto_region 12 with fail;go_cut [49] (fun q wx=>∃ok:Bool,q= .bool (!ok)∧Hid (dV (w.heap.size+3) E.heap.size E wx)∧E.heap.size≤wx.heap.size∧Hid ((ok=true∧∃fs ao,eZ s.mails (dI D (eH s.gen))=some (fs.map FM.x)∧StX wx (w.heap.size+3) 1 s.val s.next 0 s.gen (dF s.mails) ao (.slice none 0 0)∧gK wx E.heap.size (w.heap.size+3) ao fs)∨(ok=false∧eZ s.mails (dI D (eH s.gen))=none)))
    case first=>
     go_region_law (first
      |(refine ii 63 Am (.tmp 45) #[2] (by rfl) (by rfl) (.int .i64 (s.gen:Int)) (by simp[go_sem]) ?_;refine(CM.out _).mono ?_;rintro e w5 ⟨rfl,aK⟩;have bt:=(MJ wr.heap.size wr).drew.trans aK;obtain⟨y1,y2,y3,y4,y5,y6⟩:=cf.out w5 bt;have bz:=a8 bt;clear aK bt;refine⟨_,rfl,?_⟩)
      |(refine gV 36 qH (.tmp 43) (.tmp 46) #[37,9] (by rfl) (by rfl) (.agg #[.slice a1 D.nodes.length c1,.slice a2 D.names.length c2,.slice a3 D.kept.length c3,.slice a4 D.pend.length c4,.int .i64 D.quota]) (.string (eH s.gen)) (by simp[go_sem]) (by simp[go_sem]) ?_;refine(CF.out w5 bz.out).mono ?_;rintro e w6 ⟨fa,fc,rfl,hfx,ac⟩;have bY:=bz.out.trans (ac.mono bz.out.size);have aj:=a8 bY;have aF:=a8 hfx;clear ac bY hfx;refine⟨_,rfl,?_⟩)
      |(refine gV 62 Ar (.tmp 6) (.tmp 47) #[119,88] (by rfl) (by rfl) (.pointer (some ⟨w.heap.size+3,0,none⟩)) (.agg #[.bool (dI D (eH s.gen)).1,.slice fa (dI D (eH s.gen)).2.length fc]) (by simp[go_sem]) (by simp[go_sem]) ?_;refine(CT.out w6 fa fc aj.out aF.out).mono ?_;rintro e L ⟨bQ,aU⟩;have aH:=a8 ((HX.out.trans (dV.of_below aj.out af)).trans bQ);have ay:E.heap.size≤L.heap.size:=(MN af (MN aj.out.size bQ.size));obtain⟨ok,rfl,cD⟩:=Mm aU;have cI:=a8 cD;clear bQ aU cD;refine⟨_,rfl,?_⟩)
      |fail)
     all_goals
      go_wp2_with fail;go_meet
      case rel=>exact⟨ok,rfl,aH,ay,cI⟩
    case rest=>
     obtain⟨ok,rfl,aI,cG,bF⟩:=hcut;clear d0 d1 d2 d3 d4 s5 CM CF CT cf Z HO HX K ab;have aZ:=a8 (aI.out.ofB aq.out (by omega) (by omega));have K:=a8 (G1.out.keepB (aI.out.block (w.heap.size) (by omega) (by omega)));have K2:=a8 (R.out.keepB (aI.out.block (w.heap.size+1) (by omega) (by omega)));have K3:=a8 (G3.out.keepB (aI.out.block (w.heap.size+2) (by omega) (by omega)));cases ok with
     |false=>
      have U:=a8 (show eo D J=f8 3 by
       rcases bF.out with⟨h,_⟩|⟨_,h⟩
       ·cases h
       ·rw[bD.out,h])
      obtain⟨b0,b1,b2,b3,b4,b5,b6,b7,b8⟩:=K3.out.c9;obtain⟨r0,r1,r2,r3,r4,r5,r6,r7,r8⟩:=K2.out.c9;have fr:=fun j=>K2.out.fz j;go_wp2;refine bodyPost_ret (eI (w.heap.size+1) _ (.int .i64 3) (.int .i64 0) (.int .u32 0) (.int .u32 0) (.int .u32 0) (.int .i64 0) (.int .i64 0) (.slice none 0 0) (.slice none 0 0) rfl rfl (lE K2.out)) rfl ?_;exact⟨_,rfl,by rw[U.out];exact gU _ _ 3,eB aZ.out (by omega)⟩
     |true=>
      obtain⟨fs,ao,ax,cE,bu⟩:∃fs ao,eZ s.mails (dI D (eH s.gen))=some (fs.map FM.x)∧StX wc (w.heap.size+3) 1 s.val s.next 0 s.gen (dF s.mails) ao (.slice none 0 0)∧gK wc E.heap.size (w.heap.size+3) ao fs:=by
       rcases bF.out with⟨_,h⟩|⟨h,_⟩
       ·exact h
       ·cases h
      have ak:=a8 (bD.out.trans (by rw[ax]):eo D J=if(dI D gN).1=true then
        (match fN (dP (dI D gN).2).1 with
         |none=>f8 3
         |some c=>match gC D c (fs.map FM.x) with
          |none=>f8 3
          |some ms'=>mi ⟨0,2,s.val,s.next,c,s.gen,dF s.mails,ms',[]⟩)
       else mi ⟨0,1,s.val,s.next,0,s.gen,dF s.mails,fs.map FM.x,[]⟩)
      have dz:fs.length≤100:=by
       have M:=Fq ax;have O:=au.out.len;simp at M;omega
      have cJ:=a8 (show∀m∈fs,1≤m.x.uid from fun m hm=>by
       have M:=Fr ax;have O:m.x.uid∈s.mails.map (·.uid):=by
        rw[←M,NC];exact Na.2 ⟨m,hm,rfl⟩
       obtain⟨y,hy,e⟩:=Na.1 O;have:=(au.out.uid y hy).1;omega)
      have an:=a8 cE;have ce:=a8 bu;obtain⟨ma,mc,dg⟩:=bu.slice;subst dg;clear ax cE bu bF bD;obtain⟨d0,d1,d2,d3,d4⟩:=K.out.c5;have CF:=a8 (ke w _ D gN wc HV.out HD.out aZ.out);go_wp2_with fail;refine CF.out.mono ?_;rintro e w5 ⟨fa,fc,rfl,hfx,aK⟩;have ad:=nAl w5 (.cells #[.bool (dI D gN).1,.slice fa (dI D gN).2.length fc] 88);have ac:=aK.trans (ad.mono aK.size);have aE:=a8 (dN w5 #[.bool (dI D gN).1,.slice fa (dI D gN).2.length fc] 88);have aC:=a8 (an.out.below ac an.out.lt);have aM:=a8 (ce.out.below ac);have aP:=a8 (aI.out.trans (dV.of_below ac cG));have R1:=a8 (K.out.below ac K.out.lt);have R2:=a8 (K2.out.below ac K2.out.lt);have R3:=a8 (K3.out.below ac K3.out.lt);have aj:=bTr aZ ac;have aF:=a8 hfx;have bl:=MN cG ac.size;clear hfx aK ac ad d0 d1 d2 d3 d4 CF an ce aI K K2 K3 aZ;go_upto_region 15 with fail;generalize w5.alloc (.cells #[.bool (dI D gN).1,.slice fa (dI D gN).2.length fc] 88)=W at aE aC aM aP R1 R2 R3 aj bl⊢;obtain⟨f0,f1⟩:=aE.out.c2;have CU:=a8 (xh (aF.out.below aj.out));unfold Da at CU;generalize dI D gN=F at f0 f1 CU ak aE aF⊢;obtain⟨cZ,cK⟩:=F;simp only at f0 f1 CU ak aE aF;generalize aw:fN (dP cK).1=CR at CU ak;clear aw aE aF
      go_upto_if 54 with fail
      go_cut [6] (fun p wx=>p= .pointer (some ⟨w.heap.size+3,0,none⟩)∧∃(ap:Int) (I:Nat) (Q:List FM),Q.length=fs.length∧Hid (eo D J=mi ⟨0,ap,s.val,s.next,I,s.gen,dF s.mails,Q.map FM.x,[]⟩)∧Hid (StX wx (w.heap.size+3) ap s.val s.next I s.gen (dF s.mails) (.slice ma fs.length mc) (.slice none 0 0))∧Hid (gK wx E.heap.size (w.heap.size+3) (.slice ma fs.length mc) Q)∧Hid (dV (w.heap.size+3) E.heap.size E wx)∧E.heap.size≤wx.heap.size)
      case first=>
       cases cZ with
       |false=>
        have bd:=a8 (show eo D J=mi ⟨0,1,s.val,s.next,0,s.gen,dF s.mails,fs.map FM.x,[]⟩ by rw[ak.out];simp);go_wp2_with fail;go_meet
        case rel=>exact⟨rfl,1,0,fs,rfl,bd,aC,aM,aP,bl⟩
       |true=>
        rw[if_pos rfl] at ak;go_wp2_with fail;refine CU.out.mono ?_;rintro e L ⟨⟨I,ok,rfl,dc,aw⟩,al⟩;have ag:=a8 (aC.out.below al aC.out.lt);have aV:=a8 (aM.out.below al);have aH:=a8 (aP.out.trans (dV.of_below al bl));have T1:=a8 (R1.out.below al R1.out.lt);have A:=a8 (R2.out.below al R2.out.lt);have G:=a8 (R3.out.below al R3.out.lt);have cb:=bTr aj al;have ay:=MN bl al.size;clear CU f0 f1 aC aM aP R1 R2 R3 aj al;cases ok with
        |false=>
         have U:=a8 (show eo D J=f8 3 by rw[ak.out,aw];rfl);clear aw;obtain⟨b0,b1,b2,b3,b4,b5,b6,b7,b8⟩:=G.out.c9;obtain⟨r0,r1,r2,r3,r4,r5,r6,r7,r8⟩:=A.out.c9;have fr:=fun j=>A.out.fz j;go_wp2;refine bodyPost_ret (eI (w.heap.size+1) _ (.int .i64 3) (.int .i64 0) (.int .u32 0) (.int .u32 0) (.int .u32 0) (.int .i64 0) (.int .i64 0) (.slice none 0 0) (.slice none 0 0) rfl rfl (lE A.out)) rfl ?_;exact⟨_,rfl,by rw[U.out];exact gU _ _ 3,eB cb.out (by omega)⟩
        |true=>
         rw[if_pos rfl] at aw;have bd:=a8 (ak.out.trans (by rw[aw]):eo D J=match gC D I (fs.map FM.x) with
          |none=>f8 3
          |some ms'=>mi ⟨0,2,s.val,s.next,I,s.gen,dF s.mails,ms',[]⟩)
         clear aw ak;obtain⟨-,g1,-,-,g4⟩:=ag.out.c5;have fg:=fun j=>ag.out.fz j;have aW:=a8 (show StX ((L.setCell ⟨w.heap.size+3,1,none⟩ (.int .i64 2)).setCell ⟨w.heap.size+3,4,none⟩ (.int .u32 (I:Int))) (w.heap.size+3) 2 s.val s.next I s.gen (dF s.mails) (.slice ma fs.length mc) (.slice none 0 0) from by
          have h:=(ag.out.set 1 (.int .i64 2)).set 4 (.int .u32 (I:Int));show Blk _ _ (stX _ _ _ _ _ _ _ _) _;simpa[stX] using h)
         have bp:=a8 ((aV.out.gset (j:=1) (by omega) (.int .i64 2)).gset (j:=4) (by omega) (.int .u32 (I:Int)));have bH:=a8 ((aH.out.set (j:=1) (.int .i64 2)).set (j:=4) (.int .u32 (I:Int)));have bR:E.heap.size≤((L.setCell ⟨w.heap.size+3,1,none⟩ (.int .i64 2)).setCell ⟨w.heap.size+3,4,none⟩ (.int .u32 (I:Int))).heap.size:=(by simpa using ay);have dq:I≤4294967295:=dc;have dr:(I:Int)≤4294967295:=(by omega);go_upto_region 21 with fail;clear g1 g4 fg ag aV aH T1 A G cb ay;generalize (L.setCell ⟨w.heap.size+3,1,none⟩ (.int .i64 2)).setCell ⟨w.heap.size+3,4,none⟩ (.int .u32 (I:Int))=W8 at aW bp bH bR⊢;obtain⟨-,-,-,-,-,-,-,g7⟩:=aW.out.c8;go_wp2;clear g7;go_loopw [13,14,15,16,70] (fun _ _ _ _ i wr=>∃(j:Nat) (fs2:List FM),j≤fs.length∧i= .int .i64 (j:Int)∧fs2.length=fs.length∧Hid (StX wr (w.heap.size+3) 2 s.val s.next I s.gen (dF s.mails) (.slice ma fs.length mc) (.slice none 0 0))∧Hid (gK wr E.heap.size (w.heap.size+3) (.slice ma fs.length mc) fs2)∧Hid (dV (w.heap.size+3) E.heap.size E wr)∧E.heap.size≤wr.heap.size∧Hid (∀k (M:k<fs.length) (O:k<fs2.length),k<j→lz D I fs[k].x=some fs2[k].x)∧Hid (∀k (M:k<fs.length) (O:k<fs2.length),j≤k→fs2[k]=fs[k])) (fun _ _ _ _ i _=>fs.length-(intOf i).toNat)
         case atStart=>exact⟨0,fs,MQ _,rfl,rfl,aW,bp,bH,bR,a8 (fun k _ _ h=>by omega),a8 (fun k _ _ _=>rfl)⟩
         case round=>
          obtain⟨j,fs2,hj,rfl,bj,Z,HF,HX,af,bB,bC⟩:=hrel;clear aW bp bH bR;have ab:=a8 (HX.out.ofB aq.out (by omega) (by omega));by_cases ae:j<fs.length
          ·have bZ:(j:Int)<(fs.length:Int):=(by omega);obtain⟨g,bK,aT,_⟩:=HF.out.at0 (by omega);subst bK;have hj2:j<fs2.length:=(by omega);have HE:=a8 (bC.out j ae hj2 (MH _));have k0:wr.cell? ⟨g,j*11,none⟩=some (.int .u32 (fs[j].x.uid:Int)):=by
            have:=HF.out.cell j 0 hj2 (by omega);rw[HE.out] at this;exact this
           obtain⟨-,-,-,-,-,-,-,g7⟩:=Z.out.c8;have di:=cJ.out fs[j] (MO ae);have aG:=a8 (show∀x',lz D I fs[j].x=some x'→∀(aJ:List FM) (m':FM),aJ=fs2.set j m'→m'.x=x'→(∀k (M:k<fs.length) (O:k<aJ.length),k<j+1→lz D I fs[k].x=some aJ[k].x)∧(∀k (M:k<fs.length) (O:k<aJ.length),j+1≤k→aJ[k]=fs[k]) from fun x' hx aJ m' e1 e2=>by
            subst e1;refine⟨fun k M O hk=> ?_,fun k M O hk=> ?_⟩
            ·have aQ:k<fs2.length:=(by simpa using O);by_cases e:k=j
             ·subst e;rw[Nh,e2];exact hx
             ·rw[List.getElem_set_ne (fun e'=>e e'.symm)];exact bB.out k M aQ (by omega)
            ·have aQ:k<fs2.length:=(by simpa using O);rw[List.getElem_set_ne (by omega)];exact bC.out k M aQ (by omega))
           have bn:=a8 (show fs2=fs2.set j fs[j] from by rw[←HE.out];exact(List.set_getElem_self hj2).symm);have aA:=a8 (fun(h:lz D I fs[j].x=none)=>show eo D J=f8 3 from by
            rw[bd.out,sL (l:=fs.map FM.x) (k:=j) (by simpa using ae) (by simpa using h)])
           generalize fs[j]=X at k0 di HE aG bn aA;clear bB bC;by_cases bi:I<X.x.uid
           ·have cM:(I:Int)<(X.x.uid:Int):=(by omega);have HQ:=a8 (aG.out X.x (ET bi) fs2 X bn.out rfl);clear bi;go_wp2;go_roundw
            case rel=>exact⟨j+1,fs2,by omega,by go_num,bj,Z,HF,HX,af,a8 HQ.out.1,a8 HQ.out.2⟩
            case measure=>simp[intOf];omega
           ·have cM:¬(I:Int)<(X.x.uid:Int):=(by omega);have K:=a8 (G1.out.keepB (HX.out.block (w.heap.size) (by omega) (by omega)));obtain⟨d0,d1,d2,d3,d4⟩:=K.out.c5;have CC:=a8 (fun(Y:World) (hY:Below wr.heap.size wr Y)=>vx _ D X.x.uid (X.x.uid:Int) rfl Y HV.out (HD.out.below (ab.out.trans (hY.mono ab.out.size))));have cO:=a8 (DT (D:=D) (u:=X.x.uid) (by omega));have bA:=a8 bi;clear bi;go_upto_region 26 with fail;clear g7;go_cut [15] (fun v wx=>Hid (gZ wx wr.heap.size v (jj D X.x.uid))∧Hid (Below wr.heap.size wr wx))
            case first=>
             go_region_law (first
              |(refine gV 65 Ak (.tmp 83) (.tmp 87) #[37,28] (by rfl) (by rfl) (.agg #[.slice a1 D.nodes.length c1,.slice a2 D.names.length c2,.slice a3 D.kept.length c3,.slice a4 D.pend.length c4,.int .i64 D.quota]) (.int .u32 (X.x.uid:Int)) (by simp[go_sem]) (by simp[go_sem]) ?_;refine(CC.out wr.drew (MJ _ _).drew).mono ?_;rintro e w9 ⟨u9,rfl,cC,cv⟩;have bf:=a8 cC;have am:=a8 ((MJ wr.heap.size wr).drew.trans cv);clear cC cv;refine⟨_,rfl,?_⟩)
              |fail)
             all_goals
              go_wp2_with fail;go_meet
              case rel=>exact⟨a8 (by rw[←cO.out];exact bf.out),am⟩
            case rest=>
             obtain⟨bf,am⟩:=hcut;clear d0 d1 d2 d3 d4 CC k0;have bG:=a8 (Z.out.below am.out Z.out.lt);have cd:=a8 (HF.out.below am.out);have bh:=a8 (HX.out.trans (dV.of_below am.out af));have cF:=MN af am.out.size;have bo:=a8 (ab.out.trans (am.out.mono ab.out.size));have A:=a8 (R.out.keepB (bh.out.block (w.heap.size+1) (by omega) (by omega)));have G:=a8 (G3.out.keepB (bh.out.block (w.heap.size+2) (by omega) (by omega)));have dA:g<wr.heap.size:=(HF.out.at0 (by omega)).elim (fun g' h=>by
              have e:=h.1;simp only[MK,Np] at e;rw[e.1];exact h.2.2)
             clear Z HF HX ab K;rcases bf.out.at with⟨bN,cz⟩|⟨gn,dp,bN,de,du,bT,bm⟩
             ·subst bN;have U:=a8 (aA.out (Dq bA.out (by rw[cz];simp)));clear cz aA aG;obtain⟨b0,b1,b2,b3,b4,b5,b6,b7,b8⟩:=G.out.c9;obtain⟨r0,r1,r2,r3,r4,r5,r6,r7,r8⟩:=A.out.c9;have fr:=fun j=>A.out.fz j;go_wp2;refine bodyPost_ret (eI (w.heap.size+1) _ (.int .i64 3) (.int .i64 0) (.int .u32 0) (.int .u32 0) (.int .u32 0) (.int .i64 0) (.int .i64 0) (.slice none 0 0) (.slice none 0 0) rfl rfl (lE A.out)) rfl ?_;exact⟨_,rfl,by rw[U.out];exact gU _ _ 3,eB bo.out (by omega)⟩
             ·subst bN;by_cases M:(jj D X.x.uid).length=1
              ·obtain⟨nm,bk⟩:=List.length_eq_one_iff.1 M;have q0:=bm 0 nm (by rw[bk];rfl);rw[Nat.add_zero] at q0;obtain⟨⟨⟨u,st,fl⟩,hk⟩,dC⟩:=yw HV.out (u:=X.x.uid) (nm:=nm) (by rw[bk];simp);have HQ:=a8 (aG.out _ (Hk bA.out bk hk));rw[M] at bT⊢;have HK:=a8 hk;have aY:¬gn=g:=(by omega);have dw:¬g=gn:=(by omega);clear bm bk hk M aA aG bf;go_wp2_with fail;refine(lY nm wc (by omega)).mono ?_;rintro e az ⟨ok,ku,ks,kf,rfl,bX,aX⟩;have aS:=(lK bX).symm.trans HK.out;obtain⟨rfl,aS⟩:ok=true∧(ku,ks,kf)=(u,st,fl):=by
                cases ok with
                |true=>exact⟨rfl,by simpa using aS⟩
                |false=>simp at aS
               simp only[Prod.mk.injEq] at aS;obtain⟨rfl,rfl,rfl⟩:=aS;have ad:=nAl az (.cells #[.bool true,.int .u32 (u:Int),.int .i64 (st:Int),.int .u32 (fl:Int)] 129);have aD:=aX.trans (ad.mono aX.size);have bb:=a8 (dN az #[.bool true,.int .u32 (u:Int),.int .i64 (st:Int),.int .u32 (fl:Int)] 129);have bq:=a8 (bG.out.below aD bG.out.lt);have aL:=a8 (show gK _ E.heap.size (w.heap.size+3) (.slice (some ⟨g,0,none⟩) fs.length mc) (fs2.set j X) from by
                rw[←bn.out];exact cd.out.below aD)
               have br:=a8 (bh.out.trans (dV.of_below aD cF));have bx:=MN cF aD.size;have bS:=(aD.cell (p:=⟨gn,0,none⟩) de).trans q0;have dd:¬az.heap.size=g:=(by have M:=aX.size;have O:=am.out.size;omega);have dt:¬g=az.heap.size:=fun h=>dd h.symm;clear bX aX ad aD bG cd bh A G bo q0;go_upto_region 30 with fail;generalize az.alloc (.cells #[.bool true,.int .u32 (u:Int),.int .i64 (st:Int),.int .u32 (fl:Int)] 129)=W at bb bq aL br bx bS⊢;have hjs:j<(fs2.set j X).length:=(by simpa using hj2);have rr:=fun k hk=>aL.out.cell j k hjs hk;rw[Nh] at rr;have r9:W.cell? ⟨g,j*11+9,none⟩=some (.bool X.x.moved):=rr 9 (by omega);have dn:W.cell? ⟨g,j*11+10,none⟩=some (.string X.x.card):=rr 10 (by omega);have r1:W.cell? ⟨g,j*11+1,none⟩=some (.int .i64 (X.x.stamp:Int)):=rr 1 (by omega);have r2:W.cell? ⟨g,j*11+2,none⟩=some (.int .u32 (X.x.flags:Int)):=rr 2 (by omega);have fg:=fun k=>aL.out.frozen k;obtain⟨-,-,m2,m3⟩:=bb.out.c4;have F1:=a8 (aL.out.same 9 hj2 (by omega) (.bool true) ⟨{X.x with moved:=true},X.ba,X.bc,X.ea,X.ec⟩ rfl rfl rfl rfl rfl rfl rfl);have F2:=a8 (F1.out.same 10 hj2 (by omega) (.string nm) ⟨{X.x with moved:=true,card:=nm},X.ba,X.bc,X.ea,X.ec⟩ rfl rfl rfl rfl rfl rfl rfl);have F3:=a8 (F2.out.same 1 hj2 (by omega) (.int .i64 (st:Int)) ⟨{X.x with moved:=true,card:=nm,stamp:=st},X.ba,X.bc,X.ea,X.ec⟩ rfl rfl rfl rfl rfl rfl rfl);have F4:=a8 (F3.out.same 2 hj2 (by omega) (.int .u32 (fl:Int)) ⟨{X.x with moved:=true,card:=nm,stamp:=st,flags:=fl},X.ba,X.bc,X.ea,X.ec⟩ rfl rfl rfl rfl rfl rfl rfl);have HX12:=a8 ((((br.out.high aT (.bool true) (j:=j*11+9)).high aT (.string nm) (j:=j*11+10)).high aT (.int .i64 (st:Int)) (j:=j*11+1)).high aT (.int .u32 (fl:Int)) (j:=j*11+2));have HS12:=a8 ((((bq.out.other (g':=g) (j:=j*11+9) (by omega) (.bool true)).other (g':=g) (j:=j*11+10) (by omega) (.string nm)).other (g':=g) (j:=j*11+1) (by omega) (.int .i64 (st:Int))).other (g':=g) (j:=j*11+2) (by omega) (.int .u32 (fl:Int)));have hz12:E.heap.size≤((((W.setCell ⟨g,j*11+9,none⟩ (.bool true)).setCell ⟨g,j*11+10,none⟩ (.string nm)).setCell ⟨g,j*11+1,none⟩ (.int .i64 (st:Int))).setCell ⟨g,j*11+2,none⟩ (.int .u32 (fl:Int))).heap.size:=(by simpa using bx);have dm:((((W.setCell ⟨g,j*11+9,none⟩ (.bool true)).setCell ⟨g,j*11+10,none⟩ (.string nm)).setCell ⟨g,j*11+1,none⟩ (.int .i64 (st:Int))).setCell ⟨g,j*11+2,none⟩ (.int .u32 (fl:Int))).cell? ⟨gn,0,none⟩=some (.string nm):=by
                rw[d5 (heap_setCell_other _ ⟨g,j*11+2,none⟩ gn _ (by simpa using aY)),d5 (heap_setCell_other _ ⟨g,j*11+1,none⟩ gn _ (by simpa using aY)),d5 (heap_setCell_other _ ⟨g,j*11+10,none⟩ gn _ (by simpa using aY)),d5 (heap_setCell_other _ ⟨g,j*11+9,none⟩ gn _ (by simpa using aY))];exact bS
               clear rr hjs F1 F2 F3 aL br bq bx bb;go_upto_region 34 with fail;clear r9 dn r1 r2 fg m2 m3 bS;generalize (((W.setCell ⟨g,j*11+9,none⟩ (.bool true)).setCell ⟨g,j*11+10,none⟩ (.string nm)).setCell ⟨g,j*11+1,none⟩ (.int .i64 (st:Int))).setCell ⟨g,j*11+2,none⟩ (.int .u32 (fl:Int))=V at F4 HX12 HS12 hz12 dm⊢;have HBV:=a8 (HX12.out.ofB aq.out (by omega) (by omega));have KV:=a8 (G1.out.keepB (HX12.out.block (w.heap.size) (by omega) (by omega)));obtain⟨d0,d1,d2,d3,d4⟩:=KV.out.c5;have CF:=a8 (ke w _ D nm V.drew HV.out HD.out HBV.out.drew);have dy:∀(b:Bool) (a:Option Addr) (n c:Nat) (w:World),(Instr.field 88 (.agg #[.bool b,.slice a n c]) 1).run Tryz.prog w= .ok (.slice a n c) w:=fun b a n c w=>(by kernel_rfl);go_region_law (first
                 |(refine gV 36 qH (.tmp 117) (.tmp 120) #[37,9] (by rfl) (by rfl) (.agg #[.slice a1 D.nodes.length c1,.slice a2 D.names.length c2,.slice a3 D.kept.length c3,.slice a4 D.pend.length c4,.int .i64 D.quota]) (.string nm) (by simp[go_sem]) (by simp[go_sem]) ?_;refine CF.out.mono ?_;rintro e w13 ⟨fa,fc,rfl,hfx,hb13⟩;have hbv:=(MJ V.heap.size V).drew.trans hb13;have HF13:=a8 (F4.out.below hbv);have HS13:=a8 (HS12.out.below hbv HS12.out.lt);have HX13:=a8 (HX12.out.trans (dV.of_below hbv hz12));have hz13:=MN hz12 hbv.size;have HTB:=a8 (hfx.toB (gs:=w.heap.size+3) (B:=0) (g:=g) (n:=fs.length) (cap:=mc) (HBV.out.trans (hbv.mono HBV.out.size)) (by omega) (by omega));have hjs:j<(fs2.set j ⟨{X.x with moved:=true,card:=nm,stamp:=st,flags:=fl},X.ba,X.bc,X.ea,X.ec⟩).length:=(by simpa using hj2);have rr:=HF13.out.cell j 3 hjs (by omega);rw[Nh] at rr;have r3:w13.cell? ⟨g,j*11+3,none⟩=some (.slice X.ba X.x.body.length X.bc):=rr;have fg:=(fun k=>HF13.out.frozen k);clear hfx hb13 hbv rr hjs;refine⟨_,rfl,?_⟩)
                 |fail)
               all_goals
                have cP:=a8 (HF13.out.body hj2 fa fc (dI D nm).2 HTB.out);have cX:=a8 (HX13.out.high aT (.slice fa (dI D nm).2.length fc) (j:=j*11+3));have cV:=a8 (HS13.out.other (g':=g) (j:=j*11+3) (by omega) (.slice fa (dI D nm).2.length fc));have cm:=a8 (HQ.out _ ⟨{X.x with moved:=true,card:=nm,stamp:=st,flags:=fl,body:=(dI D nm).2},fa,fc,X.ea,X.ec⟩ rfl rfl);clear r3 fg d0 d1 d2 d3 d4;go_wp2;go_roundw
                case rel=>exact⟨j+1,_,by omega,by go_num,by simpa using bj,cV,cP,cX,by simpa using hz13,a8 cm.out.1,a8 cm.out.2⟩
                case measure=>simp[intOf];omega
              ·have U:=a8 (aA.out (Dq bA.out M));have db:(((jj D X.x.uid).length:Int) !=1)=true:=(by simp;omega);generalize (jj D X.x.uid).length=nl at M db bT;clear bm M aA aG;obtain⟨b0,b1,b2,b3,b4,b5,b6,b7,b8⟩:=G.out.c9;obtain⟨r0,r1,r2,r3,r4,r5,r6,r7,r8⟩:=A.out.c9;have fr:=fun j=>A.out.fz j;go_wp2;refine bodyPost_ret (eI (w.heap.size+1) _ (.int .i64 3) (.int .i64 0) (.int .u32 0) (.int .u32 0) (.int .u32 0) (.int .i64 0) (.int .i64 0) (.slice none 0 0) (.slice none 0 0) rfl rfl (lE A.out)) rfl ?_;exact⟨_,rfl,by rw[U.out];exact gU _ _ 3,eB bo.out (by omega)⟩
          ·have HQ:=a8 (show eo D J=mi ⟨0,2,s.val,s.next,I,s.gen,dF s.mails,fs2.map FM.x,[]⟩ by
            rw[bd.out,vB (l:=fs.map FM.x) (r:=fs2.map FM.x) (by simp[bj]) (fun k M O=>by
             have da:k<fs.length:=(by simpa using M);have aQ:k<fs2.length:=(by simpa using O);have:=bB.out k da aQ (by omega);simpa using this)])
           go_wp2_with fail;go_meet
           case rel=>exact⟨rfl,2,I,fs2,bj,HQ,Z,HF,HX,af⟩
      case rest=>
       obtain⟨rfl,ap,I,Q,dv,ch,ag,aV,aH,ay⟩:=hcut;clear f0 f1 CU aC aM aP R1 R2 R3 aj ak;obtain⟨-,-,-,-,-,-,-,g7⟩:=ag.out.c8;go_wp2;clear g7;go_loopw [18,129] (fun _ i wr=>∃j:Nat,j≤fs.length∧i= .int .i64 (j:Int)∧Hid (∀k (h:k<Q.length),k<j→Q[k].x.body.length≤8000)∧Hid (Below wc.heap.size wc wr)) (fun _ i _=>fs.length-(intOf i).toNat)
       case atStart=>exact⟨0,MQ _,rfl,a8 (fun k _ h=>by omega),a8 (MJ _ _)⟩
       case round=>
        obtain⟨j,hj,rfl,cg,aO⟩:=hrel;have ah:=a8 (ag.out.below aO.out ag.out.lt);have aB:=a8 (aV.out.below aO.out);have bI:=a8 (aH.out.trans (dV.of_below aO.out ay));have dE:=MN ay aO.out.size;have ab:=a8 (bI.out.ofB aq.out (by omega) (by omega));have A:=a8 (R.out.keepB (bI.out.block (w.heap.size+1) (by omega) (by omega)));have G:=a8 (G3.out.keepB (bI.out.block (w.heap.size+2) (by omega) (by omega)));by_cases ae:j<fs.length
        ·have bZ:(j:Int)<(fs.length:Int):=(by omega);obtain⟨g,bK,_,_⟩:=aB.out.at0 (by omega);subst bK;have cy:j<Q.length:=(by omega);have cc:=fun k hk=>aB.out.cell j k cy hk;have cq:=a8 (show∀k (h:k<Q.length),k=j→Q[k]=Q[j] from fun k h e=>by subst e;rfl);have bW:=a8 (MO cy);generalize Q[j]=X at cc cq bW;have k0:wr.cell? ⟨g,j*11,none⟩=some (.int .u32 (X.x.uid:Int)):=cc 0 (by omega);have k1:wr.cell? ⟨g,j*11+1,none⟩=some (.int .i64 (X.x.stamp:Int)):=cc 1 (by omega);have k2:wr.cell? ⟨g,j*11+2,none⟩=some (.int .u32 (X.x.flags:Int)):=cc 2 (by omega);have k3:wr.cell? ⟨g,j*11+3,none⟩=some (.slice X.ba X.x.body.length X.bc):=cc 3 (by omega);have k4:wr.cell? ⟨g,j*11+4,none⟩=some (.slice X.ea X.x.entry.length X.ec):=cc 4 (by omega);have k5:wr.cell? ⟨g,j*11+5,none⟩=some (.int .i64 (X.x.stamp0:Int)):=cc 5 (by omega);have k6:wr.cell? ⟨g,j*11+6,none⟩=some (.int .u32 (X.x.flags0:Int)):=cc 6 (by omega);have k7:wr.cell? ⟨g,j*11+7,none⟩=some (.int .i64 (X.x.bare:Int)):=cc 7 (by omega);have k8:wr.cell? ⟨g,j*11+8,none⟩=some (.int .i64 (X.x.size:Int)):=cc 8 (by omega);have k9:wr.cell? ⟨g,j*11+9,none⟩=some (.bool X.x.moved):=cc 9 (by omega);have dl:wr.cell? ⟨g,j*11+10,none⟩=some (.string X.x.card):=cc 10 (by omega);have ad:=nAl wr (.cells #[.int .u32 (X.x.uid:Int),.int .i64 (X.x.stamp:Int),.int .u32 (X.x.flags:Int),.slice X.ba X.x.body.length X.bc,.slice X.ea X.x.entry.length X.ec,.int .i64 (X.x.stamp0:Int),.int .u32 (X.x.flags0:Int),.int .i64 (X.x.bare:Int),.int .i64 (X.x.size:Int),.bool X.x.moved,.string X.x.card] 54);have cj:=a8 (dN wr #[.int .u32 (X.x.uid:Int),.int .i64 (X.x.stamp:Int),.int .u32 (X.x.flags:Int),.slice X.ba X.x.body.length X.bc,.slice X.ea X.x.entry.length X.ec,.int .i64 (X.x.stamp0:Int),.int .u32 (X.x.flags0:Int),.int .i64 (X.x.bare:Int),.int .i64 (X.x.size:Int),.bool X.x.moved,.string X.x.card] 54);have bU:=bTr aO ad;have U2:=a8 (A.out.below ad A.out.lt);have U3:=a8 (G.out.below ad G.out.lt);have bV:=bTr ab ad;clear cc ad;go_upto_region 39 with fail;clear k0 k1 k2 k3 k4 k5 k6 k7 k8 k9 dl;generalize wr.alloc (.cells #[.int .u32 (X.x.uid:Int),.int .i64 (X.x.stamp:Int),.int .u32 (X.x.flags:Int),.slice X.ba X.x.body.length X.bc,.slice X.ea X.x.entry.length X.ec,.int .i64 (X.x.stamp0:Int),.int .u32 (X.x.flags0:Int),.int .i64 (X.x.bare:Int),.int .i64 (X.x.size:Int),.bool X.x.moved,.string X.x.card] 54)=W at cj bU U2 U3 bV⊢;obtain⟨-,-,-,n3⟩:=cj.out.c4;by_cases cw:8000<X.x.body.length
         ·have cL:(8000:Int)<(X.x.body.length:Int):=(by omega);have U:=a8 (show eo D J=f8 3 by
           rw[ch.out];unfold mi;rw[if_neg];simp only[List.all_eq_true,decide_eq_true_eq];intro h;have:=h X.x (List.mem_map_of_mem bW.out);omega)
          clear cw;obtain⟨b0,b1,b2,b3,b4,b5,b6,b7,b8⟩:=U3.out.c9;obtain⟨r0,r1,r2,r3,r4,r5,r6,r7,r8⟩:=U2.out.c9;have fr:=fun j=>U2.out.fz j;go_wp2;refine bodyPost_ret (eI (w.heap.size+1) _ (.int .i64 3) (.int .i64 0) (.int .u32 0) (.int .u32 0) (.int .u32 0) (.int .i64 0) (.int .i64 0) (.slice none 0 0) (.slice none 0 0) rfl rfl (lE U2.out)) rfl ?_;exact⟨_,rfl,by rw[U.out];exact gU _ _ 3,eB bV.out (by omega)⟩
         ·have cL:¬(8000:Int)<(X.x.body.length:Int):=(by omega);have cS:=a8 (show∀k (h:k<Q.length),k<j+1→Q[k].x.body.length≤8000 from fun k h hk=>by
           by_cases e:k=j
           ·rw[cq.out k h e];omega
           ·exact cg.out k h (by omega))
          clear cw;go_wp2;go_roundw
          case rel=>exact⟨j+1,by omega,by go_num,cS,bU⟩
          case measure=>simp[intOf];omega
        ·have U:=a8 (show eo D J=⟨0,ap,s.val,s.next,I,s.gen,dF s.mails,Q.map FM.x,[]⟩ by
          rw[ch.out];unfold mi;rw[if_pos];simp only[List.all_eq_true,decide_eq_true_eq];intro x hx;obtain⟨y,hy,rfl⟩:=Na.1 hx;obtain⟨k,hk,rfl⟩:=ND.1 hy;exact cg.out k hk (by omega))
         obtain⟨s0,s1,s2,s3,s4,s5,s6,s7,s8⟩:=ah.out.c9;obtain⟨r0,r1,r2,r3,r4,r5,r6,r7,r8⟩:=A.out.c9;have fr:=fun j=>A.out.fz j;go_wp2;refine bodyPost_ret (eI (w.heap.size+1) _ (.int .i64 0) (.int .i64 ap) (.int .u32 (s.val:Int)) (.int .u32 (s.next:Int)) (.int .u32 (I:Int)) (.int .i64 (s.gen:Int)) (.int .i64 ((dF s.mails:Nat):Int)) (.slice ma fs.length mc) (.slice none 0 0) rfl rfl (lE A.out)) rfl ?_;have bL:∀b,b≠w.heap.size+1→(vK wr (w.heap.size+1) (.int .i64 0) (.int .i64 ap) (.int .u32 (s.val:Int)) (.int .u32 (s.next:Int)) (.int .u32 (I:Int)) (.int .i64 (s.gen:Int)) (.int .i64 ((dF s.mails:Nat):Int)) (.slice ma fs.length mc) (.slice none 0 0)).heap[b]? =wr.heap[b]? :=fun b hb=>iQ hb;exact⟨_,rfl,by rw[U.out];exact⟨ma,_,mc,none,0,0,Q,rfl,rfl,(b9.keep aB.out.own (fun g hg=>bL g (by have:=(b9.lt aB.out.own g hg).1;omega))).mono (by omega),(fun m hm=>⟨Mn A.out (aB.out.tx m hm).1 bL,Mn A.out (aB.out.tx m hm).2 bL⟩),b9.nil _ _ _ _⟩,eB ab.out (by omega)⟩
theorem dW.aside{w w':World}{g:Nat}{cs:Array Value}{t:TypeId}{a:Option Addr}{l:List Nat}(h:dW w a l)(J:Blk w g cs t)(M:∀x:Int,Value.int .u8 x∉cs)(L:∀b,b≠g→w'.heap[b]? =w.heap[b]?):dW w' a l:=fun E=>by
 obtain⟨b,I,rfl,A⟩:=h E;have G:b≠g:=fun e=>by
  subst e;have z:=A 0 E;rw[J.cell] at z;exact M _ (Array.mem_of_getElem? z)
 exact⟨b,I,rfl,fun i K=>by rw[d5 (L b G)];exact A i K⟩
theorem TxR.aside{w w':World}{g:Nat}{cs:Array Value}{t:TypeId}{a:Option Addr}{c:Nat}{l:List Nat}(h:TxR w a c l)(z:Blk w g cs t)(E:∀x:Int,Value.int .u8 x∉cs)(A:∀b,b≠g→w'.heap[b]? =w.heap[b]?):TxR w' a c l:=⟨h.row.aside z E A,h.room,h.cap,h.spot⟩
theorem b9.ge{z e k:Nat}{w:World}{v:Value}{E:List (List Value)}(h:b9 w z e k v E){g:Nat}(A:v.ownBlock=some g):z≤g∨v= .slice none 0 0:=by
 rcases h.2.2 with I|⟨g',cap,K,G,L,M,J⟩
 ·exact .inr I.1
 ·rw[G] at A;have:g'=g:=Nv A;exact .inl (by omega)
theorem b9.aside{z e k:Nat}{w w':World}{v:Value}{E:List (List Value)}(h:b9 w z e k v E){gr:Nat}(J:gr<z)(I:∀b,b≠gr→w'.heap[b]? =w.heap[b]?):b9 w' z e k v E:=h.keep fun g A=>by
 rcases h.ge A with G|G
 ·exact I g (by omega)
 ·rw[G] at A;cases A
theorem RdV.aside{w w':World}{A:Nat}{s:SX}{v:Value}{g:Nat}{cs:Array Value}{t:TypeId}(h:RdV w A s v)(G:Blk w g cs t)(K:∀x:Int,Value.int .u8 x∉cs)(I:g<A)(z:∀b,b≠g→w'.heap[b]? =w.heap[b]?):RdV w' A s v:=by
 obtain⟨V,Z,Y,L,N,M,fs,O,Q,R,E,U⟩:=h;exact⟨V,Z,Y,L,N,M,fs,O,Q,b9.aside R I z,fun m J=>⟨(E m J).1.aside G K z,(E m J).2.aside G K z⟩,b9.aside U I z⟩
open Classical in
theorem E5{D:dQ}(h:eP D):fR D=if(dI D ixN).1=true then eo D (dI D ixN).2 else if(dI D uxN).1=true then fJ D (dI D uxN).2 else f8 2:=by
 unfold fR;exact if_pos h
theorem vL{D:dQ}(h:¬eP D):fR D=f8 1:=by
 unfold fR;exact if_neg h
theorem BF(v:Value)(D:dQ)(w:World)(hM:kW D)(hd:km w v D):
  Calls Tryz.prog 16 #[v] w (A0 (fR D) w):=by
 have HD:=a8 hd;obtain⟨a1,c1,a2,c2,a3,c3,a4,c4,az,r1,r2,r3,r4⟩:=hd;subst az;obtain⟨L1,L2,hA,hz⟩:=nE w #[.slice a1 D.nodes.length c1,.slice a2 D.names.length c2,.slice a3 D.kept.length c3,.slice a4 D.pend.length c4,.int .i64 D.quota] (zst 0 0) 37 50;have CV:=a8 (AC (HD.out.below hA).at hM);have HA:=a8 hA;clear r1 r2 r3 r4 hM hA hz;go_enter Tryz.func16,Tryz.ntmps16;go_wp2_with fail;generalize (w.alloc (.cells #[.slice a1 D.nodes.length c1,.slice a2 D.names.length c2,.slice a3 D.kept.length c3,.slice a4 D.pend.length c4,.int .i64 D.quota] 37)).alloc (.cells (zst 0 0) 50)=w0 at L1 L2 HA CV⊢;refine CV.out.mono ?_;rintro e K ⟨r,rfl,hr,hb⟩;have Z:=a8 (L1.below hb L1.lt);have L:=a8 (L2.below hb L2.lt);have HB:=bTr HA hb;clear L1 L2 hb HA CV;cases r with
 |false=>
  have av:¬eP D:=fun h=>(by have:=hr.2 h;cases this);have Q:=a8 (vL av);clear av hr;obtain⟨r0,r1,r2,r3,r4,r5,r6,r7,r8⟩:=L.out.c9;have fr:=fun j=>L.out.fz j;go_wp2;refine bodyPost_ret (eI (w.heap.size+1) _ (.int .i64 1) (.int .i64 0) (.int .u32 0) (.int .u32 0) (.int .u32 0) (.int .i64 0) (.int .i64 0) (.slice none 0 0) (.slice none 0 0) rfl rfl (lE L.out)) rfl ?_;exact⟨_,rfl,by rw[Q.out];exact gU _ _ 1,eB HB.out (by omega)⟩
 |true=>
  have HV:=a8 (hr.1 rfl);have af:=a8 (E5 HV.out);clear hr;obtain⟨d0,d1,d2,d3,d4⟩:=Z.out.c5;have CF:=a8 (ke w _ D ixN K HV.out HD.out HB.out);go_wp2_with fail;refine CF.out.mono ?_;rintro e G ⟨fa,fc,rfl,ar,ai⟩;have aq:=nAl G (.cells #[.bool (dI D ixN).1,.slice fa (dI D ixN).2.length fc] 88);have aj:=ai.trans (aq.mono ai.size);have N:=a8 (dN G #[.bool (dI D ixN).1,.slice fa (dI D ixN).2.length fc] 88);have R:=a8 (Z.out.below aj Z.out.lt);have E:=a8 (L.out.below aj L.out.lt);have U:=bTr HB aj;have O:=a8 (ar.below U.out);have aw:w.heap.size≤G.heap.size:=MN HB.out.size ai.size;clear ar ai aj aq d0 d1 d2 d3 d4 CF Z L HB;go_upto_region 4 with fail;generalize G.alloc (.cells #[.bool (dI D ixN).1,.slice fa (dI D ixN).2.length fc] 88)=W at N R E U O⊢;obtain⟨f0,f1⟩:=N.out.c2;have ff:=fun j=>N.out.fz j;have Y:=a8 (fun h=>uk _ D fa fc (dI D ixN).2 W HV.out (HD.out.below U.out) h);generalize dI D ixN=F at f0 f1 af N O Y⊢;obtain⟨ay,al⟩:=F;simp only at f0 f1 af N O Y;obtain⟨d0,d1,d2,d3,d4⟩:=R.out.c5;cases ay with
  |true=>
   have Q:=a8 (show fR D=eo D al by rw[af.out];exact if_pos rfl);obtain⟨r0,r1,r2,r3,r4,r5,r6,r7,r8⟩:=E.out.c9;have fr:=fun j=>E.out.fz j;clear r0 r1 r2 r3 r4 r5 r6 r7 r8 fr ff;go_wp2_with fail;refine(Y.out O.out).mono ?_;rintro e A ⟨rv,rfl,ab,M⟩;obtain⟨ma,mn,mc,da,dn,dc,fs,rfl,ak⟩:=id ab;have ag:=a8 ab;have z:=a8 (E.out.below M E.out.lt);have ac:=bTr U M;clear ak ab M d0 d1 d2 d3 d4 f0 f1;obtain⟨r0,r1,r2,r3,r4,r5,r6,r7,r8⟩:=z.out.c9;have fr:=fun j=>z.out.fz j;go_wp2;generalize eo D al=J at ag Q⊢;refine bodyPost_ret (eI (w.heap.size+1) _ (.int .i64 J.code) (.int .i64 J.kind) (.int .u32 (J.val:Int)) (.int .u32 (J.next:Int)) (.int .u32 (J.cur:Int)) (.int .i64 (J.gen:Int)) (.int .i64 (J.taken:Int)) (.slice ma mn mc) (.slice da dn dc) rfl rfl (lE z.out)) rfl ?_;rw[Q.out];exact⟨_,rfl,(ag.out.aside z.out (fun x h=>by simp[zst] at h) (by have:=E.out.lt;omega) (fun b hb=>iQ hb)).mono U.out.size,eB ac.out (by omega)⟩
  |false=>
   have ah:=a8 (show fR D=if(dI D uxN).1=true then fJ D (dI D uxN).2 else f8 2 by rw[af.out];exact if_neg (by simp));have CF:=a8 (ke w _ D uxN W HV.out HD.out U.out);clear Y O af;go_wp2_with fail;refine CF.out.mono ?_;rintro e w6 ⟨ga,gc,rfl,au,M⟩;have aa:=a8 (N.out.below M N.out.lt);have T1:=a8 (R.out.below M R.out.lt);have T2:=a8 (E.out.below M E.out.lt);have ac:=bTr U M;have am:=a8 au;obtain⟨x0,x1⟩:=aa.out.c2;have fx:=fun j=>aa.out.fz j;have n1:G.heap.size≠w.heap.size:=fun e=>by
    have h1:=T1.out;have h2:=aa.out;unfold Blk at h1 h2;rw[e,h1] at h2;cases h2
   have n2:G.heap.size≠w.heap.size+1:=fun e=>by
    have h1:=T2.out;have h2:=aa.out;unfold Blk at h1 h2;rw[e,h1] at h2;cases h2
   have an:=a8 n1;have ao:=a8 n2;clear au M f0 f1 ff d0 d1 d2 d3 d4 CF N R E n1 n2;go_upto_region 7 with fail;have ae:=a8 (lW aa.out (.bool (dI D uxN).1) (.slice ga (dI D uxN).2.length gc));have ad:=a8 ((ac.out.setCell (p:=⟨G.heap.size,0,none⟩) aw (.bool (dI D uxN).1)).setCell (p:=⟨G.heap.size,1,none⟩) aw (.slice ga (dI D uxN).2.length gc));have S1:=a8 ((T1.out.other (j:=0) (Ne.symm an.out) (.bool (dI D uxN).1)).other (j:=1) (Ne.symm an.out) (.slice ga (dI D uxN).2.length gc));have I:=a8 ((T2.out.other (j:=0) (Ne.symm ao.out) (.bool (dI D uxN).1)).other (j:=1) (Ne.symm ao.out) (.slice ga (dI D uxN).2.length gc));clear x0 x1 fx aa T1 T2 U;generalize (w6.setCell ⟨G.heap.size,0,none⟩ (.bool (dI D uxN).1)).setCell ⟨G.heap.size,1,none⟩ (.slice ga (dI D uxN).2.length gc)=V at ae ad S1 I⊢;have O:=a8 (am.out.below ad.out);obtain⟨f0,f1⟩:=ae.out.c2;have Y:=a8 (fun h=>rd _ D ga gc (dI D uxN).2 V HV.out (HD.out.below ad.out) h);clear am ac;generalize dI D uxN=F at f0 f1 ah ae O Y⊢;obtain⟨ax,ap⟩:=F;simp only at f0 f1 ah ae O Y;obtain⟨d0,d1,d2,d3,d4⟩:=S1.out.c5;cases ax with
   |true=>
    have Q:=a8 (show fR D=fJ D ap by rw[ah.out];exact if_pos rfl);go_wp2_with fail;refine(Y.out O.out).mono ?_;rintro e A ⟨rv,rfl,ab,M⟩;obtain⟨ma,mn,mc,da,dn,dc,fs,rfl,ak⟩:=id ab;have ag:=a8 ab;have z:=a8 (I.out.below M I.out.lt);have ac:=bTr ad M;clear ak ab M d0 d1 d2 d3 d4 f0 f1;obtain⟨r0,r1,r2,r3,r4,r5,r6,r7,r8⟩:=z.out.c9;have fr:=fun j=>z.out.fz j;go_wp2;generalize fJ D ap=J at ag Q⊢;refine bodyPost_ret (eI (w.heap.size+1) _ (.int .i64 J.code) (.int .i64 J.kind) (.int .u32 (J.val:Int)) (.int .u32 (J.next:Int)) (.int .u32 (J.cur:Int)) (.int .i64 (J.gen:Int)) (.int .i64 (J.taken:Int)) (.slice ma mn mc) (.slice da dn dc) rfl rfl (lE z.out)) rfl ?_;rw[Q.out];exact⟨_,rfl,(ag.out.aside z.out (fun x h=>by simp[zst] at h) (by have:=I.out.lt;omega) (fun b hb=>iQ hb)).mono ad.out.size,eB ac.out (by omega)⟩
   |false=>
    have Q:=a8 (show fR D=f8 2 by rw[ah.out];exact if_neg (by simp));obtain⟨r0,r1,r2,r3,r4,r5,r6,r7,r8⟩:=I.out.c9;have fr:=fun j=>I.out.fz j;go_wp2;refine bodyPost_ret (eI (w.heap.size+1) _ (.int .i64 2) (.int .i64 0) (.int .u32 0) (.int .u32 0) (.int .u32 0) (.int .i64 0) (.int .i64 0) (.slice none 0 0) (.slice none 0 0) rfl rfl (lE I.out)) rfl ?_;exact⟨_,rfl,by rw[Q.out];exact gU _ _ 2,eB ad.out (by omega)⟩
def rz(s:SX):Prop:=s.mails.length≤100∧∀m∈s.mails,m.body.length≤8000
theorem zk{α:Type}{z:α→Nat}{m:α}:∀{xs ys:List α},iP z m xs=some ys→∀y∈ys,y=m∨y∈xs
 |[],ys,h,y,hy=>by
  simp only[iP,MK] at h;subst h;simp only[M9] at hy;exact .inl hy
 |x::xs,ys,h,y,hy=>by
  unfold iP at h;by_cases A:z x=z m
  ·rw[if_pos A] at h;cases h
  ·rw[if_neg A] at h;by_cases E:z m<z x
   ·rw[if_pos E] at h;simp only[MK] at h;subst h;simpa using hy
   ·rw[if_neg E] at h;cases hq:iP z m xs with
    |none=>rw[hq] at h;cases h
    |some q=>
     rw[hq] at h;simp only[Option.map_some,MK] at h;subst h;rcases M1.1 hy with rfl|hy
     ·exact .inr (by simp)
     ·rcases zk hq y hy with e|e
      ·exact .inl e
      ·exact .inr (MV _ e)
theorem vd{α:Type}{A z:α→Nat}:∀{l:List α} {s s':Nat×List α},goG A z l s=some s'→s.2.length≤100→(∀m∈s.2,z m≤8000)→s'.2.length≤100∧∀m∈s'.2,z m≤8000
 |[],s,s',h,h1,h2=>by
  simp only[goG,MK] at h;subst h;exact⟨h1,h2⟩
 |c::r,s,s',h,h1,h2=>by
  unfold goG at h;cases hst:stepG A z c s with
  |none=>rw[hst] at h;cases h
  |some t=>
   rw[hst] at h;unfold stepG at hst;by_cases E:A c=4294967295∨8000<z c
   ·rw[if_pos E] at hst;cases hst
   ·rw[if_neg E] at hst;cases hi:iP A c s.2 with
    |none=>rw[hi] at hst;cases hst
    |some ms=>
     rw[hi] at hst;simp only at hst;by_cases I:100<ms.length
     ·rw[if_pos I] at hst;cases hst
     ·rw[if_neg I] at hst;simp only[MK] at hst;subst hst;refine vd h (by simp only;omega) (fun m G=> ?_);rcases zk hi m G with rfl|G
      ·have:=not_or.1 E;omega
      ·exact h2 m G
theorem Dl:∀{first:Bool} {z:List (List Nat)} {s s':IX},oT first z s=some s'→lG s→lG s'
 |_,[],s,s',h,hs=>by
  simp only[oT,MK] at h;subst h;exact hs
 |first,r::rs,s,s',h,hs=>by
  unfold oT at h;cases hst:dU first (gH r) s with
  |none=>rw[hst] at h;cases h
  |some t=>
   rw[hst] at h;exact Dl h (om hst hs)
theorem Jw{z:List (List Nat)}{s:IX}(h:nI z=some s):lG s:=by
 unfold nI at h;by_cases A:z=[]
 ·rw[if_pos A] at h;cases h
 ·rw[if_neg A] at h;exact Dl h GU
theorem vC{D:dQ}{c:Nat}:∀{l r:List XM},gC D c l=some r→r.length=l.length
 |[],r,h=>by
  simp only[gC,MK] at h;subst h;rfl
 |m::ms,r,h=>by
  unfold gC at h;cases h1:lz D c m with
  |none=>rw[h1] at h;cases h
  |some x=>
   rw[h1] at h;cases h2:gC D c ms with
   |none=>rw[h2] at h;cases h
   |some xs=>
    rw[h2] at h;simp only[MK] at h;subst h;simp[vC h2]
theorem Cw{ms:List IM}{f:Bool×List Nat}{r:List XM}(h:eZ ms f=some r):r.length=ms.length:=by
 unfold eZ at h;by_cases z:f.1=true∧dF ms≤f.2.length
 ·rw[if_pos z] at h;cases h2:iy (f.2.take (dF ms)) with
  |none=>rw[h2] at h;cases h
  |some xs=>
   rw[h2] at h;exact(oM h).2
 ·rw[if_neg z] at h;cases h
theorem rU{s:SX}(z:s.mails.length≤100):rz (mi s):=by
 unfold mi;by_cases h:s.mails.all (fun m=>decide (m.body.length≤8000))=true
 ·rw[if_pos h];exact⟨z,fun m A=>of_decide_eq_true (List.all_eq_true.1 h m A)⟩
 ·rw[if_neg h];exact⟨by simp[f8],by simp[f8]⟩
theorem io(c:Int):rz (f8 c):=⟨by simp[f8],by simp[f8]⟩
theorem rE(D:dQ)(z:List Nat):rz (eo D z):=by
 unfold eo;cases h1:nI (dP z).1 with
 |none=>exact io 3
 |some s=>
  have E:=(Jw h1).len;simp only;cases h2:eZ s.mails (dI D (eH s.gen)) with
  |none=>exact io 3
  |some ms=>
   have G:=Cw h2;simp only;by_cases A:(dI D gN).1=true
   ·rw[if_pos A];cases h4:fN (dP (dI D gN).2).1 with
    |none=>exact io 3
    |some c=>
     simp only;cases h5:gC D c ms with
     |none=>exact io 3
     |some ms'=>
      have:=vC h5;exact rU (by simp only;omega)
   ·rw[if_neg A];exact rU (by simp only;omega)
theorem tM(D:dQ)(z:List Nat):rz (fJ D z):=by
 unfold fJ;cases h1:nK (dP z).1 with
 |none=>exact io 3
 |some s=>
  simp only;cases h2:goG XM.uid (fun m=>m.body.length) (gL D s.dead (D.names.map (·.1))) (s.next,[]) with
  |none=>exact io 3
  |some p=>
   obtain⟨n,ms⟩:=p;exact vd h2 (by simp) (by simp)
theorem qG(D:dQ):rz (fR D):=by
 unfold fR;split
 ·split
  ·exact rE _ _
  ·split
   ·exact tM _ _
   ·exact io 2
 ·exact io 1
structure VM where
 x:LM
 ba:Option Addr
 bc:Nat
abbrev VM.v(m:VM):Value:= .slice m.ba m.x.body.length m.bc
def vmC(m:VM):List Value:=[.int .u32 (m.x.uid:Int),.int .i64 (m.x.stamp:Int),.int .u32 (m.x.flags:Int),.slice m.ba m.x.body.length m.bc]
theorem Tryz.infoVM:(Tryz.prog.info? 57).map (fun i=>(i.zero,i.size,i.bytes))=some (some (.agg #[.int .u32 0,.int .i64 0,.int .u32 0,.slice none 0 0]),4,48):=by kernel_rfl
theorem mQ{M:Array Oper}{A:Act}{K:Act→World→Prop}{E:Prop}(w:World)(V:o.guard=none)(s x:Operand)
  (ho:o.op= .call {callee:= .builtin .append,args:= #[s,x],argTypes:= #[29,29]})
  (G:Nat) (v:Value) (ms:List VM) (m:VM) (J c:Nat) (hs:A.eval s=v) (hx:A.eval x= .slice (some ⟨J,0,none⟩) 1 c) (L:b9 w G 57 4 v (ms.map vmC))
  (hc:∀j u,(vmC m)[j]? =some u→w.cell? ⟨J,j,none⟩=some u) (ab:ms.length≤1048576) (O:G≤w.heap.size)
  (h:∀I w',b9 w' G 57 4 I ((ms++[m]).map vmC)→w.grownBy w' v.ownBlock→K (A.put o.dst I) w'):if Region.wanted o (yielded M A.tmps)=true then Oper.wp Tryz.prog o A w K Q else E:=by
 have hw:Region.wanted o (yielded M A.tmps)=true:=(by simp[Region.wanted,V]);rw[if_pos hw];obtain⟨i0,hi,Y,Z,aa⟩:=info_parts Tryz.infoVM;have R:w.ownsRow G 57 4 v ms.length (ms.map vmC).flatten:=(by have:=L.2;rw[MI] at this;exact this);refine wp_append_own w s x 29 ho G 57 i0 (.agg #[.int .u32 0,.int .i64 0,.int .u32 0,.slice none 0 0]) 4 48 Tryz.underlying29 hi Y Z aa rfl (by decide) v ms.length (ms.map vmC).flatten hs R ⟨J,0,none⟩ 1 c (vmC m) hx (by simp[vmC]) ?_ ?_ (by unfold maxLen;omega) (by omega) O ?_
 ·intro j u hj;rw[ej,Ng];exact hc j u hj
 ·intro u N;simp only[vmC,M1,Nw,or_false] at N;rcases N with rfl|rfl|rfl|rfl<;>rfl
 ·intro I w' U hg _;refine h I w' ⟨?_,?_⟩ hg
  ·intro y z;rw[MS,Nb] at z;rcases z with z|z
   ·exact L.1 y z
   ·simp only[M0,Ns,M9] at z;rw[z];rfl
  ·rw[MI,MT,MS,NG];simpa using U
abbrev vwA(s:SX)(v:Value):Array Value:= #[.int .i64 0,.int .i64 s.kind,.int .u32 (s.val:Int),.int .u32 (s.next:Int),.int .u32 (s.cur:Int),v]
structure VwI(gv B:Nat)(w0 w:World)(s:SX)(v:Value)(ys:List VM):Prop where
 st:Blk w gv (vwA s v) 31
 row:b9 w B 57 4 v (ys.map vmC)
 bod:∀m∈ys,dO w B m.v m.x.body
 bel:dV gv B w0 w
 sz:B≤w.heap.size
 lt:gv<B
theorem VwI.below{s:SX}{v:Value}{ys:List VM}(h:VwI A B w0 w s v ys)(z:Below w.heap.size w w'):VwI A B w0 w' s v ys:=
 ⟨h.st.below z h.st.lt,b9.below h.row z (MH _),fun m E=>(h.bod m E).below z (MH _),h.bel.trans (dV.of_below z h.sz),MN h.sz z.size,h.lt⟩
theorem j8{b1 b2:Nat}{e:TypeId}{v u:Value}{M:List (List Value)}(h:b9 w b1 e k v M)(U:dO w b2 u l)(J:e≠5):∀g,v.ownBlock=some g→u.ownBlock≠some g:=fun g A z=>by
 rcases h.2.2 with⟨G,_⟩|⟨N,cap,Z,Q,_,R,_⟩
 ·rw[G] at A;cases A
 ·rcases U.2 with⟨G,_⟩|⟨O,V,Y,I,_,E,_⟩
  ·rw[G] at z;cases z
  ·rw[Q] at A;rw[I] at z;have K:N=g:=Nv A;have L:O=g:=Nv z;subst K;subst L;rw[R] at E;simp only[MK,Obj.cells.injEq] at E;exact J E.2.1
theorem LB{s:SX}{v:Value}{ys:List VM}{m:VM}{o:Obj}(h:VwI z B w0 W s v ys)(hm:dO W B m.v m.x.body)(R:Y.heap=(W.alloc o).heap)(e2:Y.os=W.os)(e3:Y.tape=W.tape)(e4:Y.output=W.output)(ho:b9 w' B 57 4 E ((ys++[m]).map vmC))(I:Y.grownBy w' v.ownBlock):
  w'.cell? ⟨z,5,none⟩=some v∧w'.frozen? ⟨z,5,none⟩=false∧VwI z B w0 (w'.setCell ⟨z,5,none⟩ E) s E (ys++[m]):=by
 have O:=nAl W o;have ab:W.heap.size≤w'.heap.size:=by
  have:=I.size;rw[R] at this;exact MN O.size this
 have L:∀b,b<W.heap.size→v.ownBlock≠some b→w'.heap[b]? =W.heap[b]? :=fun b A U=>by
  rw[I.block b (by rw[R];exact MW A O.size) (fun e=>U e.symm),R];exact O.block b A
 have n1:=h.lt;have ac:=h.sz;have aa:∀b,b<B→v.ownBlock≠some b:=fun b hb e=>(by have:=(b9.lt h.row b e).1;omega);have V:Blk w' z (vwA s v) 31:=h.st.keepB (L z (by omega) (aa z n1));have hB:∀x,x∈ys++[m]→dO w' B x.v x.x.body:=fun x hx=>by
  have G:dO W B x.v x.x.body:=by
   rcases Nb.1 hx with A|A
   ·exact h.bod x A
   ·rw[M9.1 A];exact hm
  refine⟨G.1,?_⟩;rcases G.2 with Z|⟨g,cap,N,K,Q,J,M⟩
  ·exact .inl Z
  ·exact .inr ⟨g,cap,N,K,Q,(L g (lt_of_block J) (fun e=>j8 h.row G (by decide) g e (by rw[K];rfl))).trans J,M⟩
 refine⟨V.cell 5,V.fz 5,?_,?_,?_,?_,by simp;omega,n1⟩
 ·have:=V.set 5 E;simpa[vwA] using this
 ·exact b9.keep ho (fun b hb=>heap_setCell_other w' ⟨z,5,none⟩ b E (by have:=(b9.lt ho b hb).1;simp;omega))
 ·intro x hx;have G:=hB x hx;refine⟨G.1,?_⟩;rcases G.2 with Z|⟨g,cap,N,K,Q,J,M⟩
  ·exact .inl Z
  ·exact .inr ⟨g,cap,N,K,Q,(heap_setCell_other w' ⟨z,5,none⟩ g E (by simp;omega)).trans J,M⟩
 ·exact dV.set ⟨I.os.trans (e2.trans h.bel.os),I.tape.trans (e3.trans h.bel.tape),I.output.trans (e4.trans h.bel.output),MN h.bel.size ab,fun b A U=>(L b (by omega) (aa b A)).trans (h.bel.block b A U)⟩ E
def LL(w:World)(base:Nat)(V:VW)(v:Value):Prop:=∃(ma:Option Addr) (mn mc:Nat) (ys:List VM),v= .agg #[.int .i64 V.code,.int .i64 V.kind,.int .u32 (V.val:Int),.int .u32 (V.next:Int),.int .u32 (V.cur:Int),.slice ma mn mc]∧ys.map VM.x=V.mails∧b9 w base 57 4 (.slice ma mn mc) (ys.map vmC)∧(∀m∈ys,dO w base m.v m.x.body)
def FH(V:VW)(w:World)(e:Ending)(w':World):Prop:=∃v,e= .returned v∧LL w' w.heap.size V v∧Below w.heap.size w w'
theorem I2(w:World)(z:Nat)(c:Int):LL w z (od c) (.agg #[.int .i64 c,.int .i64 0,.int .u32 0,.int .u32 0,.int .u32 0,.slice none 0 0]):=
 ⟨none,0,0,[],rfl,rfl,b9.nil _ _ _ _,(fun m A=>by cases A)⟩
theorem iI{fn:Func}{p:Tmp}(B:Nat)(W:World)(v0 v1 v2 v3 v4 v5:Value)(A:fn.results= #[.cell p 31])(E:tmps.getD p undef= .pointer (some ⟨B,0,none⟩))(z:Blk W B #[v0,v1,v2,v3,v4,v5] 31):
  (results fn tmps).run Tryz.prog W= .ok (.agg #[v0,v1,v2,v3,v4,v5]) W:=results_cell_row (P:=Tryz.prog) A _ _ B _ _ _ _ E z Tryz.underlying31 rfl (by kernel_rfl)
theorem nV{z A:Value}(h:Blk W g #[z,A,E,G,I,J] t):Blk ((((((W.setCell ⟨g,0,none⟩ v0).setCell ⟨g,1,none⟩ v1).setCell ⟨g,2,none⟩ v2).setCell ⟨g,3,none⟩ v3).setCell ⟨g,4,none⟩ v4).setCell ⟨g,5,none⟩ v5) g #[v0,v1,v2,v3,v4,v5] t:=by
 have:=((((((h.set 0 v0).set 1 v1).set 2 v2).set 3 v3).set 4 v4).set 5 v5)
 simpa using this
end Go.Proofs.YtpdbolihakojcaaGreatDoor
