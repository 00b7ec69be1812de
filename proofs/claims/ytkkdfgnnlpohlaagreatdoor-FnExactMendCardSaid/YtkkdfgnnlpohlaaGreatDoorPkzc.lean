import Derived.Test.YtkkdfgnnlpohlaaGreatDoorPky
namespace Go.Proofs.YtkkdfgnnlpohlaaGreatDoor
set_option maxRecDepth 20000
set_option linter.unusedVariables false
set_option linter.unusedSimpArgs false
set_option maxHeartbeats 4000000
open Go.RowKit Go.Proofs.Tryz
variable {W X Y w w' w0 wr : World} {A B at_ b b2 base' c cap e f g go gs hi i j k lo m n s u val z : Nat} {E G I J K L M N O u0 u1 u2 v0 v1 v2 v3 v4 v5 v6 x y : Value} {o : Oper} {Q : Exit → Act → World → Prop} {cs tmps : Array Value} {t : TypeId} {p : Addr} {l : List Nat} {bvs xs : List Value} {a : List UInt8} {first ok : Bool}
def nz(e:Ending):Prop:=∃t,e= .panicked [{v:= .iface 120 (.string t),recovered:=false}]
def TW(w:World)(gw:Nat)(ws:List BA):Prop:=∃(gr off c:Nat) (cur:Array Value),Blk w gw #[.slice (some ⟨gr,off,none⟩) ws.length c] 266∧Blk w gr cur 9∧ws.length≤c∧c≤1000000000∧∀i (h:i<ws.length),cur[off+i]? =some (.string ws[i])
abbrev lE(g:Nat)(w w':World):Prop:=dX g w.heap.size w w'
theorem l9{h:Nat}{A B:Array Value}{u:TypeId}(E:Blk w g A t)(z:Blk w h B u)(G:t≠u):g≠h:=by
 rintro rfl;unfold Blk at E z;rw[E] at z;simp only[OY,Obj.cells.injEq] at z;exact G z.2.1
theorem TW.keep{ws:List BA}(h:TW w A ws)(I:∀g z t,Blk w g z t→(t=9∨t=266)→w'.heap[g]? =w.heap[g]?):TW w' A ws:=by
 obtain⟨gr,J,c,z,E,G,K,L,M⟩:=h;exact⟨gr,J,c,z,(I A _ _ E (Or.inr rfl)).trans E,(I gr _ _ G (Or.inl rfl)).trans G,K,L,M⟩
theorem TW.below{ws:List BA}(h:TW w z ws)(A:Below w.heap.size w w'):TW w' z ws:=h.keep (fun g G t E _=>A.block g E.lt)
theorem pV(z:Nat)(ws:List BA)(w:World)(h:TW w z ws):Calls prog 172 #[pP z] w fun e w'=>e= .returned (.bool (decide (0<ws.length)))∧w'=w:=by
 obtain⟨gr,E,c,K,A,I,L,M,J⟩:=h;have G:w.cell? ⟨z,0,none⟩=some (.slice (some ⟨gr,E,none⟩) ws.length c):=A.cell 0;generalize ws.length=n at G;clear A I J;go_enter func172,ntmps172;go_wp2;go_ret;exact⟨by simp,rfl⟩
def MP(gw:Nat)(ws:List BA)(w:World)(e:Ending)(w':World):Prop:=(∃x r,ws=x::r∧e= .returned (.string x)∧TW w' gw r∧lE gw w w')∨(ws=[]∧nz e∧w'=w)
theorem og(z:Nat)(ws:List BA)(w:World)(h:TW w z ws):Calls prog 143 #[pP z] w (MP z ws w):=by
 have HM:=a8 (pV z ws w h)
 match ws,h,HM with
 |[],h,HM=>
  clear h;go_enter func143,ntmps143;go_wp2_with fail;refine HM.mono ?_;rintro e w1 ⟨rfl,rfl⟩;go_wp2;exact⟨rfl,Or.inr ⟨rfl,⟨_,rfl⟩,rfl⟩⟩
 |x::r,h,HM=>
  obtain⟨gr,A,c,M,E,G,I,h5,J⟩:=h;have N:gr≠z:=l9 G E (by decide);have R:w.cell? ⟨z,0,none⟩=some (.slice (some ⟨gr,A,none⟩) (x::r).length c):=E.cell 0;have fz:=fun j=>E.fz j;have k0:w.cell? ⟨gr,A,none⟩=some (.string x):=by
   rw[G.cell A];have:=J 0 (by simp);simpa using this
  have V:(x::r).length=r.length+1:=rfl;rw[V] at R;have H1:=a8 E;have Q:=a8 (show TW (w.setCell ⟨z,0,none⟩ (.slice (some ⟨gr,A+1,none⟩) r.length (c-1))) z r from by
   refine⟨gr,A+1,c-1,M,?_,G.other N _,by simp at I;omega,by omega,fun i hi=> ?_⟩
   ·have h:=E.set 0 (.slice (some ⟨gr,A+1,none⟩) r.length (c-1));simpa using h
   ·rw[show A+1+i=A+(i+1) by omega];have:=J (i+1) (by simpa using hi);rw[this];rfl)
  have O:=a8 (show lE z w (w.setCell ⟨z,0,none⟩ (.slice (some ⟨gr,A+1,none⟩) r.length (c-1))) from dX.set (dX.of_below (OX _ _) (OV _)) _);have U:decide (0<(x::r).length)=true:=(by simp);rw[U] at HM;have Z:((r.length:Int)+1)≤(c:Int):=(by simp at I;omega);have Y:r.length+1≤c:=(by simpa using I);have L:=a8 (show c=1→TW (w.setCell ⟨z,0,none⟩ (.slice (some ⟨gr,A,none⟩) r.length 0)) z r from fun hc=>by
   have hr:r=[]:=Pp.1 (by simp at I;omega);subst hr;refine⟨gr,A,0,M,?_,G.other N _,OV _,by omega,fun i hi=>by cases hi⟩;have h:=E.set 0 (.slice (some ⟨gr,A,none⟩) 0 0);simpa using h)
  have K:=a8 (show lE z w (w.setCell ⟨z,0,none⟩ (.slice (some ⟨gr,A,none⟩) r.length 0)) from dX.set (dX.of_below (OX _ _) (OV _)) _);clear E G J V U I;generalize hn:r.length=n at R Q O L K Z Y;clear hn;go_enter func143,ntmps143;go_wp2_with fail;refine HM.mono ?_;rintro e w1 ⟨rfl,rfl⟩;go_wp2
  all_goals
   go_ret
   first
   |exact Or.inl ⟨x,r,rfl,rfl,Q,O⟩
   |exact Or.inl ⟨x,r,rfl,rfl,L.out (by omega),K⟩
def MH(gw lo hi:Nat)(ws:List BA)(w:World)(e:Ending)(w':World):Prop:=lE gw w w'∧((∃x r n,ws=x::r∧dT x.data.toList lo hi=some n∧e= .returned (.int .u64 (n:Int))∧TW w' gw r)∨(nz e∧(match ws with|[]=>none|x::_=>dT x.data.toList lo hi)=none))
theorem dX.refl(gs B:Nat)(w:World):dX gs B w w:=⟨rfl,rfl,rfl,OV _,fun _ _ _=>rfl⟩
theorem lE.below{z A:World}(h:lE g w z)(E:Below z.heap.size z A):lE g w A:=dX.trans h (dX.of_below E h.size)
theorem jT(z lo hi:Nat)(ws:List BA)(w:World)(h:TW w z ws)(O:∀w',lE z w w'→Env w')(J:∀y∈ws,y.size≤40000)(Y:hi<18446744073709551616):
  Calls prog 149 #[pP z,.int .u64 (lo:Int),.int .u64 (hi:Int)] w (MH z lo hi ws w):=by
 have HW:=a8 (og z ws w h);have Z:=a8 O;have V:=a8 J;clear h O J;go_enter func149,ntmps149;go_wp2_with fail;refine HW.mono ?_;rintro e R (⟨x,r,rfl,rfl,Q,A⟩|⟨rfl,hf,rfl⟩)
 ·have N:=a8 Q;have L:=a8 A;have K:=a8 (kA x lo hi R (Z.out R A) (by have:=V.out x (by simp);omega) Y);clear Q A;go_wp2_with fail;refine K.mono ?_;rintro e w2 ⟨n,ok,rfl,E,G⟩;have U:=a8 (N.below G);have I:=a8 (lE.below L G);have M:=a8 (show dT x.data.toList lo hi=if ok=true then some n else none from by
   cases ok with
   |true=>rw[eE (show ni x.data.toList lo hi n true from by
     rcases E with h|⟨h,_⟩
     ·exact Or.inl h
     ·cases h)];rfl
   |false=>rw[gt (show ni x.data.toList lo hi n false from by
     rcases E with⟨h,_⟩|⟨_,_,h⟩
     ·cases h
     ·exact Or.inr ⟨rfl,h⟩)];rfl)
  clear E G K N L;cases ok with
  |true=>
   go_wp2;go_ret;exact⟨I,Or.inl ⟨x,r,n,rfl,M,rfl,U⟩⟩
  |false=>
   go_wp2;exact⟨rfl,I,Or.inr ⟨⟨_,rfl⟩,M⟩⟩
 ·obtain⟨t,rfl⟩:=hf;go_wp2;exact⟨rfl,dX.refl _ _ _,Or.inr ⟨⟨t,rfl⟩,rfl⟩⟩
def Ho(gw lo hi:Nat)(ws:List BA)(w:World)(e:Ending)(w':World):Prop:=lE gw w w'∧((∃x r n,ws=x::r∧dT x.data.toList lo hi=some n∧e= .returned (.int .u32 (n:Int))∧TW w' gw r)∨(nz e∧(match ws with|[]=>none|x::_=>dT x.data.toList lo hi)=none))
theorem kX(A:Nat)(ws:List BA)(w:World)(h:TW w A ws)(K:∀w',lE A w w'→Env w')(J:∀y∈ws,y.size≤40000):
  Calls prog 144 #[pP A] w (Ho A 1 4294967295 ws w):=by
 have C:=a8 (jT A 1 4294967295 ws w h K J (by omega));clear h K J;go_enter func144,ntmps144;go_wp2_with fail;refine C.mono ?_;rintro e R ⟨E,⟨x,r,n,rfl,z,rfl,L⟩|⟨N,z⟩⟩
 ·have G:=a8 E;have I:=a8 z;have M:=a8 L;have Q:=(ey z).2;have O:(n:Int)≤4294967295:=(by omega);clear E z L;go_wp2;go_ret;exact⟨G,Or.inl ⟨x,r,n,rfl,I,rfl,M⟩⟩
 ·obtain⟨t,rfl⟩:=N;have G:=a8 E;have I:=a8 z;clear E z;go_wp2;exact⟨rfl,G,Or.inr ⟨⟨t,rfl⟩,I⟩⟩
theorem wN(A:Nat)(ws:List BA)(w:World)(h:TW w A ws)(K:∀w',lE A w w'→Env w')(J:∀y∈ws,y.size≤40000):
  Calls prog 152 #[pP A] w (Ho A 0 2147483647 ws w):=by
 have C:=a8 (jT A 0 2147483647 ws w h K J (by omega));clear h K J;go_enter func152,ntmps152;go_wp2_with fail;refine C.mono ?_;rintro e R ⟨E,⟨x,r,n,rfl,z,rfl,L⟩|⟨N,z⟩⟩
 ·have G:=a8 E;have I:=a8 z;have M:=a8 L;have Q:=(ey z).2;have O:(n:Int)≤2147483647:=(by omega);clear E z L;go_wp2;go_ret;exact⟨G,Or.inl ⟨x,r,n,rfl,I,rfl,M⟩⟩
 ·obtain⟨t,rfl⟩:=N;have G:=a8 E;have I:=a8 z;clear E z;go_wp2;exact⟨rfl,G,Or.inr ⟨⟨t,rfl⟩,I⟩⟩
def MQ(ws:List BA)(w:World)(e:Ending)(w':World):Prop:=w'=w∧((ws=[]∧e= .returned (.tuple #[]))∨(ws≠[]∧nz e))
theorem KD(A:Nat)(ws:List BA)(w:World)(h:TW w A ws):Calls prog 142 #[pP A] w (MQ ws w):=by
 have z:=a8 (pV A ws w h);clear h;cases ws with
 |nil=>
  go_enter func142,ntmps142;go_wp2_with fail;refine z.mono ?_;rintro e G ⟨rfl,rfl⟩;go_wp2
  go_end0
  exact⟨rfl,Or.inl ⟨rfl,rfl⟩⟩
 |cons x r=>
  have E:decide (0<(x::r).length)=true:=(by simp);rw[E] at z;clear E;go_enter func142,ntmps142;go_wp2_with fail;refine z.mono ?_;rintro e G ⟨rfl,rfl⟩;go_wp2;exact⟨rfl,rfl,Or.inr ⟨by simp,⟨_,rfl⟩⟩⟩
theorem Co(a:OA)(cap:Nat)(l:LN)(w:World)(Z:l.length≤1048575)(Y:dW w a l)(V:Env w):
  Calls prog 141 #[.slice a l.length cap] w fun e w'=>∃K ws,e= .returned (pP K)∧w.heap.size≤K∧TW w' K ws∧ws.map (·.data.toList)=gK l∧Below w.heap.size w w':=by
 have R:=fY w a cap l Y;have aa:(fw l).size≤1048575:=(by rw[i7];exact Z);have U:=a8 (show gK l=e9 32 (fw l).data.toList from rfl);obtain⟨m,hm⟩:=V.max;clear Y V Z;generalize fw l=s at R aa U;have E:=strings_Split s ⟨#[32]⟩ m w (by omega) hm (by decide);have A:=xG 32 s.size s (OV _);have J:=Lib.splitB_all ⟨#[32]⟩ (by decide) 0 (Lib.countB s ⟨#[32]⟩) s rfl;generalize Lib.splitB ⟨#[32]⟩ 0 (Lib.countB s ⟨#[32]⟩) s=ws at E A J;rw[←J] at E;have af:ws.length≤1048577:=by
  have h1:=OL List.length A;rw[OW] at h1;have h2:=lX 32 s.data.toList;have h3:s.data.toList.length=s.size:=rfl;omega
 have Q:=nAl w (.cells (ws.map Value.string).toArray 9);have G:=a8 (dQ w (ws.map Value.string).toArray 9);have ad:=a8 (A.trans U.symm);have M:=a8 Q;have L:(w.alloc (.cells (ws.map Value.string).toArray 9)).heap.size=w.heap.size+1:=(by simp);have N:=a8 L;clear A J Q L;have O:=a8 E;clear E;go_enter func141,ntmps141;go_wp2_with fail;refine O.mono ?_;rintro e z ⟨rfl,rfl⟩;clear O R;generalize w.alloc (.cells (ws.map Value.string).toArray 9)=z at G M N⊢;have I:=nAl z (.cells #[sS w.heap.size ws.length ws.length] 266);have ae:=a8 (show TW (z.alloc (.cells #[sS w.heap.size ws.length ws.length] 266)) z.heap.size ws from⟨w.heap.size,0,ws.length,_,dQ z _ _,G.below I G.lt,OV _,by omega,fun i h=>by simp[h]⟩);have ab:=bTr M I;have ac:=a8 (show w.heap.size≤z.heap.size from by have:=N.out;omega);clear I;go_wp2;go_ret;exact⟨z.heap.size,ws,rfl,ac,ae,ad,ab⟩
def goS{σ:Type}(step:Bool→List (List UInt8)→σ→Option σ)(first:Bool):List (LN)→σ→Option σ
 |[],s=>some s
 |r::rs,s=>match step first (gK r) s with
  |none=>none
  |some s'=>goS step false rs s'
def ofS{σ:Type}(step:Bool→List (List UInt8)→σ→Option σ)(recs:List (LN))(s:σ):Option σ:=if recs=[] then none else goS step true recs s
theorem ID:∀(first:Bool) (l:List (LN)) (s:IX),goS dV first l s=pN first l s
 |_,[],_=>rfl
 |first,r::rs,s=>by
  unfold goS pN;cases dV first (gK r) s with
  |none=>rfl
  |some s'=>exact ID false rs s'
theorem IF:∀(first:Bool) (l:List (LN)) (s:UX),goS d9 first l s=qs first l s
 |_,[],_=>rfl
 |first,r::rs,s=>by
  unfold goS qs;cases d9 first (gK r) s with
  |none=>rfl
  |some s'=>exact IF false rs s'
theorem IC:∀(first:Bool) (l:List (LN)) (s:Nat),goS eW first l s=sr first l s
 |_,[],_=>rfl
 |first,r::rs,s=>by
  unfold goS sr;cases eW first (gK r) s with
  |none=>rfl
  |some s'=>exact IC false rs s'
theorem JB(z:List (LN)):ofS dV z ⟨0,0,0,[]⟩=nN z:=by unfold ofS nN;rw[ID]
theorem JC(z:List (LN)):ofS d9 z ⟨0,0,[]⟩=mm z:=by unfold ofS mm;rw[IF]
theorem JA(z:List (LN)):ofS eW z 0=f5 z:=by unfold ofS f5;rw[IC]
theorem IE{σ:Type}{step:Bool→List (List UInt8)→σ→Option σ}{first:Bool}{z:List (LN)}{j:Nat}{c c':σ}(h:j<z.length)(e:step first (gK z[j]) c=some c'):goS step first (z.drop j) c=goS step false (z.drop (j+1)) c':=by
 rw[fP z j h,goS,e]
theorem M2{σ:Type}{step:Bool→List (List UInt8)→σ→Option σ}{first:Bool}{z:List (LN)}{j:Nat}{c:σ}(h:j<z.length)(e:step first (gK z[j]) c=none):goS step first (z.drop j) c=none:=by
 rw[fP z j h,goS,e]
structure im(S:Nat→Prop)(B:Nat)(w w':World):Prop where
 os:w'.os=w.os
 tape:w'.tape=w.tape
 output:w'.output=w.output
 size:w.heap.size≤w'.heap.size
 block:∀k,k<B→¬S k→w'.heap[k]? =w.heap[k]?
theorem im.ofX{z B:Nat}{w w':World}(h:dX z B w w'):im (·=z) B w w':=⟨h.os,h.tape,h.output,h.size,fun k A E=>h.block k A E⟩
theorem im.from{S:Nat→Prop}{w w0 w':World}{B:Nat}(h:im S B w0 w')(z:Below w.heap.size w w0)(G:w.heap.size≤B):im S w.heap.size w w':=⟨h.os.trans z.os,h.tape.trans z.tape,h.output.trans z.output,O0 z.size h.size,fun k A E=>(h.block k (by omega) E).trans (z.block k A)⟩
theorem im.out{S:Nat→Prop}{B lo:Nat}{w w':World}(h:im S B w w')(E:w.heap.size≤B)(z:∀k,S k→k<lo):Out 0 lo w w':=⟨h.os,h.tape,h.output,h.size,fun k G I=>h.block k (by omega) (fun A=>by have:=z k A;omega)⟩
theorem im.high{S:Nat→Prop}{B g j:Nat}{w w':World}(h:im S B w w')(E:B≤g)(u:Value):im S B w (w'.setCell ⟨g,j,none⟩ u):=
 ⟨h.os,h.tape,h.output,by simpa using h.size,fun k z A=>(OQ w' ⟨g,j,none⟩ k u (by simp;omega)).trans (h.block k z A)⟩
theorem oC{w w':World}{z e k n:Nat}{v:Value}{cs:List Value}(h:w.ownsRow z e k v n cs)(J:∀g,z≤g→g<w.heap.size→w'.heap[g]? =w.heap[g]?):w'.ownsRow z e k v n cs:=by
 refine⟨h.1,?_⟩;rcases h.2 with K|⟨g,cap,I,L,A,E,G⟩
 ·exact .inl K
 ·exact .inr ⟨g,cap,I,L,A,(J g A (OT E)).trans E,G⟩
theorem GE{lo hi z:Nat}{w w':World}{v:Value}{I:List Value}{G:List (LN)}(h:eO w z v I G)(A:Out lo hi w w')(O:hi≤z):eO w' z v I G:=by
 obtain⟨J,K,L⟩:=h;have E:∀g,z≤g→g<w.heap.size→w'.heap[g]? =w.heap[g]? :=fun g Q M=>A.block g M (.inr (by omega));refine⟨oC J E,fun i hi=> ?_,L⟩;obtain⟨x,N,A⟩:=K i hi;exact⟨x,N,oC A E⟩
structure xU(σ:Type)(f:FuncId)(gm:Nat)(S:Nat→Prop)(step:Bool→List (List UInt8)→σ→Option σ)(Ok:Nat→σ→Prop)(w:World)(s0:σ)(Fin:World→σ→Prop)(Bad:World→Prop) where
 Inv:Nat→World→World→σ→Prop
 enter:∀(a b c:Value) (w:World),(callFunc f #[a,b,c]).run prog w= .ok (.enter f #[a,b,c]) w
 start:∀w0,Below w.heap.size w w0→Inv w0.heap.size w0 w0 s0
 ok0:Ok 0 s0
 okS:∀{k:Nat} {first:Bool} {ws:List (List UInt8)} {s s':σ},step first ws s=some s'→ws.length≤40001→Ok k s→Ok (k+1) s'
 low:∀k,S k→k<w.heap.size
 env:∀w',im S w.heap.size w w'→Env w'
 below:∀{B:Nat} {w0 wr wr':World} {s:σ},Inv B w0 wr s→Below wr.heap.size wr wr'→Inv B w0 wr' s
 frame:∀{B:Nat} {w0 wr:World} {s:σ},Inv B w0 wr s→im S B w0 wr
 sz:∀{B:Nat} {w0 wr:World} {s:σ},Inv B w0 wr s→B≤wr.heap.size
 badI:∀{B:Nat} {w0 wr:World} {s:σ},Inv B w0 wr s→Bad wr
 badS:∀{X:World} {g j:Nat} (u:Value),Bad X→w.heap.size≤g→Bad (X.setCell ⟨g,j,none⟩ u)
 fin:∀{B:Nat} {w0 wr X:World} {s:σ},Inv B w0 wr s→Below w.heap.size w w0→B=w0.heap.size→Out w.heap.size B wr X→Fin X s
 call:∀(k B gw:Nat) (w0 wr:World) (s:σ) (ws:List BA),Inv B w0 wr s→Ok k s→TW wr gw ws→B≤gw→(∀y∈ws,y.size≤40000)→ws.length≤40001→k≤40000→(∀w',im S B w0 w'→Env w')→
  Calls prog f #[pP gm,.int .i64 (k:Int),pP gw] wr fun e w'=>
   (∃s' r,e= .returned (.tuple #[])∧Inv B w0 w' s'∧TW w' gw r∧step (decide (k=0)) (ws.map (·.data.toList)) s=if r=[] then some s' else none)∨(nz e∧step (decide (k=0)) (ws.map (·.data.toList)) s=none∧im S B w0 w'∧Bad w')
def xQ{σ:Type}(S:Nat→Prop)(step:Bool→List (List UInt8)→σ→Option σ)(Ok:Nat→σ→Prop)(w:World)(s0:σ)(Fin:World→σ→Prop)(Bad:World→Prop)(nm:BA)(a:OA)(cap:Nat)(d:LN)(e:Ending)(w':World):Prop:=
 (∃s',ofS step (dP d).1 s0=some s'∧e= .returned (.tuple #[.agg #[.string nm,.slice a d.length cap,.int .i64 ((dP d).2:Int)],.nilIface])∧Fin w' s'∧(∃n,n≤40000∧Ok n s')∧im S w.heap.size w w')∨
 (ofS step (dP d).1 s0=none∧∃t,e= .returned (.tuple #[.agg #[.string ⟨#[]⟩,sN,.int .i64 0],gB nm t])∧im S w.heap.size w w'∧Bad w')
theorem eA{w w':World}{g:Nat}{A:Array Value}{t:TypeId}(h:Blk w g A t)(e:w'.heap[g]? =w.heap[g]?):Blk w' g A t:=e.trans h
theorem Out.setO{lo hi g j:Nat}{w w':World}(h:Out lo hi w w')(E:lo≤g)(G:g<hi)(u:Value):Out lo hi w (w'.setCell ⟨g,j,none⟩ u):=
 ⟨h.os,h.tape,h.output,by simpa using h.size,fun k z A=>(OQ w' ⟨g,j,none⟩ k u (by simp;omega)).trans (h.block k z A)⟩
theorem N4{W:World}{g:Nat}{z A E v0 v1 v2:Value}{t:TypeId}(h:Blk W g #[z,A,E] t):Blk (((W.setCell ⟨g,0,none⟩ v0).setCell ⟨g,1,none⟩ v1).setCell ⟨g,2,none⟩ v2) g #[v0,v1,v2] t:=by
 have:=(((h.set 0 v0).set 1 v1).set 2 v2)
 simpa using this
abbrev JO(W:World)(g:Nat)(x y z:Value):World:=(((W.setCell ⟨g+1,0,none⟩ x).setCell ⟨g+1,1,none⟩ y).setCell ⟨g+1,2,none⟩ z).setCell ⟨g+1+1,0,none⟩ .nilIface
theorem GJ{W:World}{g:Nat}{x y z:Value}{t:TypeId}(h:Blk W (g+1+1) #[.nilIface] t):Blk (JO W g x y z) (g+1+1) #[.nilIface] t:=by
 have A:Blk (((W.setCell ⟨g+1,0,none⟩ x).setCell ⟨g+1,1,none⟩ y).setCell ⟨g+1,2,none⟩ z) (g+1+1) #[.nilIface] t:=((h.other (by omega) _).other (by omega) _).other (by omega) _;have:=A.set 0 .nilIface;simpa using this
theorem NM(w:World)(A B C:Array Value)(E G z:TypeId):
  Blk (((w.alloc (.cells A E)).alloc (.cells B G)).alloc (.cells C z)) w.heap.size A E∧Blk (((w.alloc (.cells A E)).alloc (.cells B G)).alloc (.cells C z)) (w.heap.size+1) B G∧Blk (((w.alloc (.cells A E)).alloc (.cells B G)).alloc (.cells C z)) (w.heap.size+1+1) C z∧Below w.heap.size w (((w.alloc (.cells A E)).alloc (.cells B G)).alloc (.cells C z))∧(((w.alloc (.cells A E)).alloc (.cells B G)).alloc (.cells C z)).heap.size=w.heap.size+3:=by
 obtain⟨I,J,K,N⟩:=sj w A B E G;generalize (w.alloc (.cells A E)).alloc (.cells B G)=W at I J K N;have M:=dQ W C z;have L:=nAl W (.cells C z);have O:(W.alloc (.cells C z)).heap.size=W.heap.size+1:=OG _ _;rw[N] at M;exact⟨I.below L I.lt,J.below L J.lt,M,K.trans (L.mono K.size),by omega⟩
theorem rN(tmps:Array Value)(z E:Nat)(X:World)(G I x2 e:Value)(J:tmps.getD 6 undef=pP z)(K:tmps.getD 7 undef=pP E)(A:Blk X z #[G,I,x2] 127)(L:Blk X E #[e] 75):
  (results Tryz.f115 tmps).run prog X= .ok (.tuple #[.agg #[G,I,x2],e]) X:=by
 obtain⟨M,N,O⟩:=A.c3;have Q:X.cell? ⟨E,0,none⟩=some e:=L.cell 0;rw[Array.getD_eq_getD_getElem?] at J K;simp[results,results115,go_sem,M,N,O,Q,J,K]
section
variable {σ:Type} {f:FuncId} {gm:Nat} {S:Nat→Prop} {step:Bool→List (List UInt8)→σ→Option σ} {Ok:Nat→σ→Prop} {w:World} {s0:σ} {Fin:World→σ→Prop} {Bad:World→Prop}
theorem ui{nm:BA}{a:OA}{cap:Nat}{d:LN}{X:World}{tmps:Array Value}(J:tmps.getD 6 undef=pP (w.heap.size+1))(K:tmps.getD 7 undef=pP (w.heap.size+1+1))(G:Blk X w.heap.size #[.string nm] 9)(I:Blk X (w.heap.size+1) #[.string ⟨#[]⟩,sN,.int .i64 0] 127)(z:Blk X (w.heap.size+1+1) #[.nilIface] 75)(E:im S w.heap.size w X)(L:ofS step (dP d).1 s0=none)(t:BA)(A:Bad (X.setCell ⟨w.heap.size+1+1,0,none⟩ (gB nm t))):
  bodyPostD prog Tryz.f115 (xQ S step Ok w s0 Fin Bad nm a cap d) (.panic [{v:= .iface 120 (.string t),recovered:=false}]) {tmps:=tmps,defers:=[{target:= .fn (.func 139) #[pP w.heap.size,pP (w.heap.size+1+1)],args:= #[]}]} X:=by
 refine leaves_cons (f:=139) (args:= #[pP w.heap.size,pP (w.heap.size+1+1)]) (by simp) (by simp[go_sem]) ?_;refine(CG ⟨w.heap.size,0,none⟩ ⟨w.heap.size+1+1,0,none⟩ .nilIface nm t X (G.cell 0) (z.cell 0) (z.fz 0)).mono ?_;rintro e N M ⟨rfl,rfl,rfl⟩;refine⟨_,rN tmps (w.heap.size+1) (w.heap.size+1+1) _ _ _ _ (gB nm t) J K (I.other (by omega) _) ?_,Or.inr ⟨L,t,rfl,E.high (by omega) _,A⟩⟩;have:=z.set 0 (gB nm t);simpa using this
theorem Ni{nm:BA}{a:OA}{cap:Nat}{d:LN}{X:World}{tmps:Array Value}{s':σ}(G:tmps.getD 6 undef=pP (w.heap.size+1))(I:tmps.getD 7 undef=pP (w.heap.size+1+1))(A:Blk X (w.heap.size+1) #[.string nm,.slice a d.length cap,.int .i64 ((dP d).2:Int)] 127)(E:Blk X (w.heap.size+1+1) #[.nilIface] 75)(L:ofS step (dP d).1 s0=some s')(J:Fin X s')(K:∃n,n≤40000∧Ok n s')(z:im S w.heap.size w X):
  Leaves prog Tryz.f115 tmps (xQ S step Ok w s0 Fin Bad nm a cap d) [{target:= .fn (.func 139) #[pP w.heap.size,pP (w.heap.size+1+1)],args:= #[]}] .returning X:=by
 refine leaves_cons (f:=139) (args:= #[pP w.heap.size,pP (w.heap.size+1+1)]) (by simp) (by simp[go_sem]) ?_;refine(CJ ⟨w.heap.size,0,none⟩ ⟨w.heap.size+1+1,0,none⟩ X).mono ?_;rintro e N M ⟨rfl,rfl,rfl⟩;exact⟨_,rN tmps (w.heap.size+1) (w.heap.size+1+1) _ _ _ _ .nilIface G I A E,Or.inl ⟨s',L,rfl,J,K,z⟩⟩
end
theorem nV{σ:Type}{f:FuncId}{gm:Nat}{S:Nat→Prop}{step:Bool→List (List UInt8)→σ→Option σ}{Ok:Nat→σ→Prop}{w:World}{M:σ}{Fin:World→σ→Prop}{am:World→Prop}(R:xU σ f gm S step Ok w M Fin am)(nm:BA)(a:OA)(cap:Nat)(d:LN)(ht:fV w a cap d):
  Calls prog 115 #[.string nm,.slice a d.length cap,.func (.func f) #[pP gm] #[]] w (xQ S step Ok w M Fin am nm a cap d):=by
 have aX:∀(fn:Fn) (first cap:Array Value) (w:World),(Instr.makeFunc fn first cap).run prog w= .ok (.func fn first cap) w:=fun _ _ _ _=>rfl;obtain⟨L1,L2,L3,hA,hz⟩:=NM w #[.string nm] #[.string ⟨#[]⟩,sN,.int .i64 0] #[.nilIface] 9 127 75;have CU:=a8 (IU (ht.below hA));have HA:=a8 hA;have hent:=R.enter;have HZ:=a8 hz;have H1:=a8 L1;have H2:=a8 L2;have H3:=a8 L3;clear ht hA hz L1 L2 L3
 go_enter_defers func115,ntmps115
 go_wp2_with fail;generalize ((w.alloc (.cells #[.string nm] 9)).alloc (.cells #[.string ⟨#[]⟩,sN,.int .i64 0] 127)).alloc (.cells #[.nilIface] 75)=w3 at H1 H2 H3 HA CU HZ⊢;refine CU.mono ?_;rintro e K ⟨a1,c1,vs,rfl,ho,ab⟩;have N:=a8 (show∃z E,dP d=(z,E) from⟨_,_,rfl⟩);obtain⟨z,E,ad⟩:=N.out;have HL:=a8 (fun i hi=>yU (d:=d) i hi);have hn:(dP d).1.length≤40000:=(by have:=j2 d;omega);have N:=a8 ad;rw[ad] at ho hn HL;simp only[ad];simp only at ho hn HL;have ak:=nAl K (.cells #[.slice a1 z.length c1,iI E] 58);have H4:=a8 (dQ K #[.slice a1 z.length c1,iI E] 58);have J:=ab.trans (ak.mono ab.size);have A:=bTr HA J;have O:=a8 (H1.below J H1.lt);have Q:=a8 (H2.below J H2.lt);have U:=a8 (H3.below J H3.lt);have HO:=a8 (ho.below ak (OV _));have aN:=a8 (show w3.heap.size≤K.heap.size from ab.size);clear ad ho ab J ak H1 H2 H3 HA CU;go_upto_region 3 with fail;generalize K.alloc (.cells #[.slice a1 z.length c1,iI E] 58)=W at H4 A O Q U HO⊢;have l0:W.cell? ⟨K.heap.size,0,none⟩=some (.slice a1 z.length c1):=H4.cell 0;by_cases h0:z=[]
 ·subst h0;simp only[PM] at l0;have aM:=a8 (show ofS step (dP d).1 M=none by rw[N.out];rfl);have HF:=a8 (show im S w.heap.size w W from⟨A.os,A.tape,A.output,A.size,fun k hk _=>A.block k hk⟩);go_wp2;exact ui rfl rfl O Q U HF aM _ (R.badS _ (R.badI (R.start W A)) (by omega))
 ·have hp:0<z.length:=List.length_pos_iff.2 h0;have aZ:((z.length:Int)==0)=false:=(by simp;omega);have ao:=a8 h0;have aI:=a8 (R.start W A);have aJ:=a8 R.ok0;have G:=a8 (show w.heap.size+3≤K.heap.size∧K.heap.size<W.heap.size from⟨by have:=HZ.out;have:=aN.out;omega,OT H4⟩);clear h0;go_wp2;clear l0;go_loopw [9,10,11,23] (fun _ _ _ i wr=>∃(j:Nat) (s:σ),j≤z.length∧i=iI j∧Hid (R.Inv W.heap.size W wr s)∧Hid (Ok j s)∧Hid (goS step (decide (j=0)) (z.drop j) s=goS step true z M)) (fun _ _ _ i _=>z.length-(intOf i).toNat)
  case atStart=>exact⟨0,M,O4 _,rfl,aI,aJ,a8 rfl⟩
  case round=>
   obtain⟨j,s,hj,rfl,HI,HK,af⟩:=hrel;have L:=a8 (R.frame HI);by_cases ac:j<z.length
   ·have aW:(j:Int)<(z.length:Int):=(by omega);obtain⟨b0,o0,e0,aA⟩:=(lp.rows ⟨vs,GE HO (L.out.out (OV _) (lo:=w3.heap.size) (fun k hk=>by have:=R.low k hk;have:=HZ.out;omega)) (OV _)⟩) (by omega)
    subst e0;obtain⟨ai,ci,k0,al⟩:=aA j ac;have aV:=HL.out j ac;have CW:=a8 (Co ai ci z[j] wr (by omega) al (R.env wr (L.from A (by have:=G.out;omega))));have au:=a8 (fun first c'=>IE (step:=step) (first:=first) (c:=s) (c':=c') ac);have aq:=a8 (fun first=>M2 (step:=step) (first:=first) (c:=s) ac);generalize z[j]=r at k0 CW au aq aV;clear aA al;go_wp2_with fail;refine CW.mono ?_;rintro e w2 ⟨gw,ws,rfl,aU,aC,ae,J⟩;have aw:=a8 (show∀y∈ws,y.size≤40000 from fun y hy=>by
     have h1:=iW (b:=32) (t:=(fw r).data.toList) (w:=y.data.toList) (by rw[show e9 32 (fw r).data.toList=gK r from rfl,←ae];exact List.mem_map_of_mem hy);have h2:(fw r).data.toList.length=r.length:=i7 r;have h3:y.data.toList.length=y.size:=rfl;omega)
    have av:=a8 (show(gK r).length≤40001 from by
     have h1:=lX 32 (fw r).data.toList;have h2:(fw r).data.toList.length=r.length:=i7 r;have h3:(gK r).length≤(fw r).data.toList.length+1:=h1;omega)
    have CF:=a8 (R.call j W.heap.size gw W w2 s ws (R.below HI J) HK aC (by have:=R.sz HI.out;omega) aw (by have h:=OL List.length ae;rw[OW] at h;rw[h];exact av.out) (by omega) (fun w' h=>R.env w' (h.from A (by have:=G.out;omega))));rw[ae] at CF;have an:=a8 (fun(X:World) (hX:im S W.heap.size W X)=>(⟨eA O (hX.block _ (OT O) (fun h=>by have:=R.low _ h;omega)),eA Q (hX.block _ (OT Q) (fun h=>by have:=R.low _ h;omega)),eA U (hX.block _ (OT U) (fun h=>by have:=R.low _ h;omega)),hX.from A (by have:=G.out;omega)⟩:Blk X w.heap.size #[.string nm] 9∧Blk X (w.heap.size+1) #[.string ⟨#[]⟩,sN,.int .i64 0] 127∧Blk X (w.heap.size+1+1) #[.nilIface] 75∧im S w.heap.size w X));have ap:=a8 (fun(h:step (decide (j=0)) (gK r) s=none)=>show ofS step (dP d).1 M=none from by
     unfold ofS;rw[N.out];simp only;rw[OR ao.out,←af.out];exact aq.out _ h)
    clear aU aC ae J CW k0 aw;go_wp2_with fail;refine CF.mono ?_;rintro e w4 (⟨s',rr,rfl,ax,ay,Z⟩|⟨⟨t,rfl⟩,Z,aD,az⟩)
    ·have CE:=a8 (KD gw rr w4 ay);have ag:=a8 ax;have aa:=a8 Z;clear ax ay Z CF;go_wp2_with fail;refine CE.mono ?_;rintro e w5 ⟨rfl,⟨Y,rfl⟩|⟨Y,t,rfl⟩⟩
     ·have ar:=a8 (show step (decide (j=0)) (gK r) s=some s' by rw[aa.out,OS Y]);have aF:=a8 ((au.out _ _ ar).symm.trans af);have aK:=a8 (R.okS ar av HK);clear Y CE aa;go_wp2;go_roundw
      case rel=>exact⟨j+1,s',by omega,by go_num,ag,aK,a8 aF⟩
      case measure=>simp[intOf];omega
     ·have ah:=a8 (ap.out (by rw[aa.out,OR Y]));have I:=a8 (an.out _ (R.frame ag));clear Y CE aa;go_wp2;exact ui rfl rfl I.1 I.2.1 I.2.2.1 I.2.2.2 ah _ (R.badS _ (R.badI ag) (by omega))
    ·have ah:=a8 (ap.out Z);have I:=a8 (an.out _ aD);have aG:=a8 az;clear Z aD CF az;go_wp2;exact ui rfl rfl I.1 I.2.1 I.2.2.1 I.2.2.2 ah _ (R.badS _ aG (by omega))
   ·have aB:j=z.length:=(by omega);have aY:¬((j:Int)<(z.length:Int)):=(by omega);have aE:=a8 (show ofS step (dP d).1 M=some s from by
     unfold ofS;rw[N.out];simp only;rw[OR ao.out,←af.out,aB,PO];rfl)
    have aS:=a8 (eA O (L.block _ (OT O) (fun h=>by have:=R.low _ h;omega)));have V:=a8 (eA Q (L.block _ (OT Q) (fun h=>by have:=R.low _ h;omega)));have aj:=a8 (eA U (L.block _ (OT U) (fun h=>by have:=R.low _ h;omega)));have aT:=a8 (eA H4 (L.block _ (OT H4) (fun h=>by have:=R.low _ h;have:=G.out;omega)));have n0:wr.cell? ⟨w.heap.size,0,none⟩=some (.string nm):=aS.cell 0;obtain⟨q0,q1,q2⟩:=V.c3;have fq:=fun j=>V.fz j;have z0:wr.cell? ⟨w.heap.size+1+1,0,none⟩=some .nilIface:=aj.cell 0;have fz:=fun j=>aj.fz j;obtain⟨-,g1⟩:=aT.c2;have aH:=a8 (show(dP d).2=E by rw[N.out]);have aL:=a8 (show∃n,n≤40000∧Ok n s from⟨j,by omega,HK⟩);have aR:=a8 (((((Out.refl w.heap.size W.heap.size wr).setO (j:=0) (g:=w.heap.size+1) (by omega) (by have:=G.out;omega) (.string nm)).setO (j:=1) (g:=w.heap.size+1) (by omega) (by have:=G.out;omega) (.slice a d.length cap)).setO (j:=2) (g:=w.heap.size+1) (by omega) (by have:=G.out;omega) (iI E)).setO (j:=0) (g:=w.heap.size+1+1) (by omega) (by have:=G.out;omega) .nilIface);have aO:=a8 (show Blk (JO wr w.heap.size (.string nm) (.slice a d.length cap) (iI E)) (w.heap.size+1) #[.string nm,.slice a d.length cap,iI E] 127 from(N4 V).other (by omega) _);have aP:=a8 (show Blk (JO wr w.heap.size (.string nm) (.slice a d.length cap) (iI E)) (w.heap.size+1+1) #[.nilIface] 75 from GJ aj);have aQ:=a8 (show im S w.heap.size w _ from(((((L.from A (by have:=G.out;omega)).high (j:=0) (g:=w.heap.size+1) (by omega) (.string nm)).high (j:=1) (g:=w.heap.size+1) (by omega) (.slice a d.length cap)).high (j:=2) (g:=w.heap.size+1) (by omega) (iI E)).high (j:=0) (g:=w.heap.size+1+1) (by omega) .nilIface));clear aB;go_wp2;refine Ni (s':=s) rfl rfl ?_ ?_ aE (R.fin HI A rfl aR) aL aQ.out
    ·rw[aH.out];exact aO
    ·exact aP
end Go.Proofs.YtkkdfgnnlpohlaaGreatDoor
