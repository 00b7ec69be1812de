import Derived.Test.YtpdbolihakojcaaGreatDoorPkj
import Derived.Deep.RegionLaw
namespace Go.Proofs.YtpdbolihakojcaaGreatDoor
set_option maxRecDepth 20000
set_option linter.unusedVariables false
set_option linter.unusedSimpArgs false
set_option maxHeartbeats 4000000
open Go.RowKit
variable {W Y w w' w0 wr : World} {b : List UInt8} {A B at_ base' c cap e f g gs i j k lo m n u z : Nat} {R d is l : List Nat} {E G I J K L M N O v0 v1 v2 v3 v4 v5 v6 x y : Value} {o : Oper} {Q : Exit → Act → World → Prop} {bvs xs : List Value} {t : TypeId} {cs tmps : Array Value} {p : Addr} {a : Option Addr} {first ok : Bool} {s : ByteArray} {rs : List (List Nat)}
def fS(w:World)(g:Nat)(x y:Value):Prop:=w.heap[g]? =some (.cells #[x,y] 176 (0,0))
theorem fS.c0(h:fS w g x y):w.cell? ⟨g,0,none⟩=some x:=by rw[cell_of_row w g 0 _ _ (0,0) h];rfl
theorem fS.c1(h:fS w g x y):w.cell? ⟨g,1,none⟩=some y:=by rw[cell_of_row w g 1 _ _ (0,0) h];rfl
theorem fS.fz(h:fS w g x y)(j:Nat):w.frozen? ⟨g,j,none⟩=false:=frozen_of_row w g j _ _ h
theorem fS.set0(h:fS w g x y)(u:Value):fS (w.setCell ⟨g,0,none⟩ u) g u y:=heap_setCell_same w g 0 _ _ u h
theorem fS.set1(h:fS w g x y)(u:Value):fS (w.setCell ⟨g,1,none⟩ u) g x u:=heap_setCell_same w g 1 _ _ u h
theorem fS.other{g':Nat}(h:fS w g x y)(z:g≠g')(u:Value):fS (w.setCell ⟨g',j,none⟩ u) g x y:=by
 unfold fS;rw[Below.heap_setCell w ⟨g',j,none⟩ u g z];exact h
theorem fS.lt(h:fS w g x y):g<w.heap.size:=lt_of_block h
theorem fS.below(h:fS w g x y)(z:Below B w w')(A:g<B):fS w' g x y:=(z.block g A).trans h
theorem fS.grown{z:Option Nat}(h:fS w g x y)(E:w.grownBy w' z)(A:some g≠z):fS w' g x y:=(E.block g h.lt A).trans h
theorem fL{fn:Func}{p:Tmp}(B:Nat)(W:World)(x y:Value)(A:fn.results= #[.cell p 176])(E:tmps.getD p undef= .pointer (some ⟨B,0,none⟩))(z:fS W B x y):
  (results fn tmps).run Tryz.prog W= .ok (.agg #[x,y]) W:=
 results_cell_row (P:=Tryz.prog) A _ _ B _ _ _ _ E z Tryz.underlying176 rfl (by kernel_rfl)
def kH(w':World)(lo:Nat)(v:Value):Option (List (Nat×Nat×List Nat))→Prop
 |none=>v= .agg #[.bool false,.slice none 0 0]
 |some l=>∃lv vs,v= .agg #[.bool true,lv]∧vs.map (fun x:S3=>(x.1,x.2.1))=l.map (fun x=>(x.1,x.2.1))∧gq w' lo lv vs (l.map (·.2.2))
def i6(d:List Nat)(w:World)(e:Ending)(w':World):Prop:=∃v,e= .returned v∧kH w' w.heap.size v (iy d)∧Below w.heap.size w w'
structure Spl(w wr:World)(lo2:Nat)(sv v:Value)(R:List Nat)(vs:List S3)(ls:List (List Nat)):Prop where
 b0:fS wr w.heap.size (.bool false) (.slice none 0 0)
 b1:fS wr (w.heap.size+1) (.bool true) v
 st:kX wr (w.heap.size+2) sv R
 stlt:∀g,sv.ownBlock=some g→g<lo2
 os:gq wr lo2 v vs ls
 bel:Below w.heap.size w wr
 sz:lo2≤wr.heap.size
 lo:w.heap.size+2≤lo2
theorem Spl.below{W':World}{v:Value}{I:List S3}{E:List (List Nat)}(h:Spl w W A G v R I E)(z:Below W.heap.size W W'):Spl w W' A G v R I E:=
 ⟨h.b0.below z h.b0.lt,h.b1.below z h.b1.lt,h.st.below z (MH _),h.stlt,h.os.below z (MH _),h.bel.trans (z.mono h.bel.size),MN h.sz z.size,h.lo⟩
theorem iR(h:40000<d.length∨(0<d.length∧(dG (d9 d)).head?≠some 0)∨∃k,k<(dG (d9 d)).length∧eh (f9 d (dG (d9 d)) k)=false):iy d=none:=by unfold iy;rw[if_pos h]
theorem oA(G:d.length≤40000)(z:¬(0<d.length∧(dG (d9 d)).head?≠some 0))(A:∀k,k<(dG (d9 d)).length→eh (f9 d (dG (d9 d)) k)=true):iy d=some ((List.range (dG (d9 d)).length).map (mN d (dG (d9 d)))):=by
 unfold iy;rw[if_neg];rintro(h|h|⟨k,E,h⟩)
 ·omega
 ·exact z h
 ·rw[A k E] at h;cases h
theorem sh(b A cap:Nat)(d:List Nat)(w:World)(E:40000<d.length)(G:d.length≤1048576):
  Calls Tryz.prog 152 #[.slice (some ⟨b,A,none⟩) d.length cap] w (i6 d w):=by
 have I:(40000:Int)<(d.length:Int):=(by omega);have z:fS (w.alloc (.cells #[.bool false,.slice none 0 0] 176)) w.heap.size (.bool false) (.slice none 0 0):=heap_alloc_new w _;go_enter Tryz.func152,Tryz.ntmps152;go_wp2;exact bodyPost_ret (fL w.heap.size _ _ _ rfl rfl z) rfl ⟨_,rfl,by rw[iR (Or.inl E)];exact rfl,(MJ _ _).alloc (MH _) _⟩
structure A7(w w3:World)(lo2:Nat)(sv v:Value)(R:List Nat):Prop where
 b0:fS w3 w.heap.size (.bool false) (.slice none 0 0)
 b1:fS w3 (w.heap.size+1) (.bool true) v
 st:kX w3 (w.heap.size+2) sv R
 bel:Below w.heap.size w w3
 sz:lo2≤w3.heap.size
theorem kb{v:Value}(h:w.ownsRow z e k v n xs)(A:w'.heap=w.heap):w'.ownsRow z e k v n xs:=kg h fun g _ _=>by rw[A]
theorem vo{v:Value}{E:List S3}{A:List (List Nat)}(h:gq w lo v E A)(z:w'.heap=w.heap):gq w' lo v E A:=by
 refine⟨h.len,kb h.row z,fun i G=> ?_,h.apart⟩;obtain⟨x,J,I⟩:=h.body i G;exact⟨x,J,kb I z⟩
def LH(w w2:World)(lo2:Nat)(sv v u:Value)(p q:Nat)(R:List Nat)(vs:List S3)(ls:List (List Nat))(U:List Nat):Prop:=
 ∀Y:World,Y.heap=(w2.alloc (.cells #[.int .i64 (p:Int),.int .i64 (q:Int),u] 179)).heap→Y.os=w2.os→Y.tape=w2.tape→Y.output=w2.output→
  gq Y lo2 v vs ls∧Y.cell? ⟨w2.heap.size,0,none⟩=some (iv p)∧Y.cell? ⟨w2.heap.size,1,none⟩=some (iv q)∧Y.cell? ⟨w2.heap.size,2,none⟩=some u∧dO Y lo2 u U∧lo2≤Y.heap.size∧∀w3,Y.grownBy w3 v.ownBlock→A7 w w3 lo2 sv v R
theorem DA{z A:World}{E:Nat}{v u:Value}{p q:Nat}{O:List S3}{N:List (List Nat)}{U:List Nat}(h:LH w z E G v u p q R O N U)(M:Y.grownBy A v.ownBlock)(I:Y.heap=(z.alloc (.cells #[.int .i64 (p:Int),.int .i64 (q:Int),u] 179)).heap:=by rfl)(J:Y.os=z.os:=by rfl)(K:Y.tape=z.tape:=by rfl)(L:Y.output=z.output:=by rfl):A7 w A E G v R:=
 (h Y I J K L).2.2.2.2.2.2 A M
theorem Dz{E:World}{A v:Value}{I:List S3}{G:List (List Nat)}(h:A7 w E z A v R)(J:w.heap.size+2≤z)(L:∀g,A.ownBlock=some g→g<z)(K:gq E z v3 I G):Spl w (E.setCell ⟨w.heap.size+1,1,none⟩ v3) z A v3 R I G:=
 ⟨h.b0.other (show w.heap.size≠w.heap.size+1 by omega) _,h.b1.set1 _,ownsRow_setCell_below h.st (show w.heap.size+1<w.heap.size+2 by omega) _,L,K.other (show w.heap.size+1<z by omega) _,h.bel.setCell (p:=⟨w.heap.size+1,1,none⟩) (by simp) _,by simpa using h.sz,J⟩
theorem IV{A:World}{V:Nat}{Z v:Value}{vs:List S3}{ls:List (List Nat)}(S:Spl w A V Z v R vs ls)(b o n c p q:Nat)(U:List Nat)(hn:U.length=n)(hU:U.length≤1048576)(hc:U.length≤c)(ag:c≤9223372036854775807)(hT:d8 A b o U)(af:b<A.heap.size)(hb:∀x∈U,x<256):
  ∀W:World,W.heap=A.heap→W.os=A.os→W.tape=A.tape→W.output=A.output→Calls Tryz.prog 183 #[.slice (some ⟨b,o,none⟩) n c] W fun e J=>∃E G,e= .returned (.slice E (dX U).length G)∧(∀y∈vs,y.2.2.ownBlock=none∨y.2.2.ownBlock≠(Value.slice E (dX U).length G).ownBlock)∧
   LH w J V Z v (.slice E (dX U).length G) p q R vs ls (dX U)∧J.cell? ⟨w.heap.size+1,1,none⟩=some v∧w.heap.size+1<J.heap.size:=by
 intro W M e2 e3 e4;subst hn;have ae:d8 W b o U:=fun i hi=>(by rw[←hT i hi];exact World.cell?_of_block (by rw[M]));refine(qZ b o c U W hU hc ag ae (by rw[M];exact af) hb).mono ?_;rintro e J ⟨v2,rfl,O,N⟩;obtain⟨E,G,rfl⟩:=O.slice;rw[M] at O;have hB:Below A.heap.size A J:=⟨N.os.trans e2,N.tape.trans e3,N.output.trans e4,by rw[←M];exact N.size,fun k hk=>by rw[←M];exact N.block k (by rw[M];exact hk)⟩
 have K:=S.below hB;have al:=hB.size;refine⟨E,G,rfl,S.os.ne_new O,?_,K.b1.c1,K.b1.lt⟩;have ab:=nAl J (.cells #[.int .i64 (p:Int),.int .i64 (q:Int),.slice E (dX U).length G] 179);have I:=K.below ab;have ai:dO _ V (.slice E (dX U).length G) (dX U):=(O.below ab (MH _)).mono S.sz;have aj:=heap_alloc_new J (.cells #[.int .i64 (p:Int),.int .i64 (q:Int),.slice E (dX U).length G] 179);intro Y z y2 y3 y4;have aa:Y.heap[J.heap.size]? =some (.cells #[.int .i64 (p:Int),.int .i64 (q:Int),.slice E (dX U).length G] 179 (0,0)):=(by rw[z];exact aj);have Q:∀g,v.ownBlock=some g→V≤g:=fun g L=>(World.ownsRow.lt K.os.row g L).1;refine⟨vo I.os z,by rw[cell_of_row _ _ _ _ _ _ aa];rfl,by rw[cell_of_row _ _ _ _ _ _ aa];rfl,by rw[cell_of_row _ _ _ _ _ _ aa];rfl,kb ai z,by rw[z];exact I.sz,fun w3 L=> ?_⟩;have c0:fS Y w.heap.size (.bool false) (.slice none 0 0):=(by unfold fS;rw[z];exact I.b0);have c1:fS Y (w.heap.size+1) (.bool true) v:=(by unfold fS;rw[z];exact I.b1);have ad:kX Y (w.heap.size+2) Z R:=kb I.st z;have ak:=S.lo;refine⟨c0.grown L (fun e=>by have:=Q _ e.symm;omega),c1.grown L (fun e=>by have:=Q _ e.symm;omega),World.ownsRow.kept ad L ?_,?_,MN (by rw[z];exact I.sz) L.size⟩
 ·cases hb':Z.ownBlock with
  |none=>exact .inl rfl
  |some g=>exact .inr fun e=>by have:=Q g e.symm;have:=S.stlt g hb';omega
 ·have ac:Below w.heap.size w Y:=⟨y2.trans K.bel.os,y3.trans K.bel.tape,y4.trans K.bel.output,by rw[z];exact I.bel.size,fun k hk=>by rw[z];exact I.bel.block k hk⟩
  exact ac.grown L (by have:=ac.size;omega) (fun g ah=>by have:=Q g ah;omega)
theorem Kc(v:Value)(w:World):(callFunc 183 #[v]).run Tryz.prog w= .ok (.enter 183 #[v]) w:=by
 kernel_rfl
theorem nW{G:Array Oper}{z:Act}{K:Act→World→Prop}{E:Prop}(x:Operand)(ts:Array TypeId)(A:o.guard=none)
  (I:o.op= .call {callee:= .value (.func 183),args:= #[x],argTypes:=ts}) (v:Value) (M:z.eval x=v) (h:Calls Tryz.prog 183 #[v] w fun e w'=>∃u,e= .returned u∧K (z.put o.dst u) w'):
  if Region.wanted o (yielded G z.tmps)=true then Oper.wp Tryz.prog o z w K Q else E:=by
 have L:Region.wanted o (yielded G z.tmps)=true:=(by simp[Region.wanted,A]);rw[if_pos L];obtain⟨R,V,Y,U,N,O⟩:=o;simp only at I A;subst I;unfold Oper.wp;rw[execOp_call_go];simp only[List.map_toArray,M0,Ns,M,List.append_toArray,Nq,Nn,Kc,Oper.upon_enter];refine h.mono ?_;rintro e w' ⟨u,rfl,J⟩;exact J
theorem ug(b N cap:Nat)(d:List Nat)(w:World)(hd:d.length≤40000)(aG:d.length≤cap)(aL:cap≤9223372036854775807)(hT:d8 w b N d)(aC:b<w.heap.size)(hb:∀x∈d,x<256):
  Calls Tryz.prog 152 #[.slice (some ⟨b,N,none⟩) d.length cap] w (i6 d w):=by
 have hi:¬(40000:Int)<(d.length:Int):=(by omega);have b0:fS ((w.alloc (.cells #[.bool false,.slice none 0 0] 176)).alloc (.cells #[.bool true,.slice none 0 0] 176)) w.heap.size (.bool false) (.slice none 0 0):=(Below.heap_alloc _ _ _ (by simp)).trans (heap_alloc_new w _);have b1:fS ((w.alloc (.cells #[.bool false,.slice none 0 0] 176)).alloc (.cells #[.bool true,.slice none 0 0] 176)) (w.heap.size+1) (.bool true) (.slice none 0 0):=by
  have h:=heap_alloc_new (w.alloc (.cells #[.bool false,.slice none 0 0] 176)) (.cells #[.bool true,.slice none 0 0] 176);simpa[fS] using h
 have bw:Below w.heap.size w ((w.alloc (.cells #[.bool false,.slice none 0 0] 176)).alloc (.cells #[.bool true,.slice none 0 0] 176)):=((MJ _ _).alloc (MH _) _).alloc (by simp) _;have I:((w.alloc (.cells #[.bool false,.slice none 0 0] 176)).alloc (.cells #[.bool true,.slice none 0 0] 176)).heap.size=w.heap.size+2:=(by simp);go_enter Tryz.func152,Tryz.ntmps152;go_wp2_with fail;generalize (w.alloc (.cells #[.bool false,.slice none 0 0] 176)).alloc (.cells #[.bool true,.slice none 0 0] 176)=W1 at b0 b1 bw I⊢;refine(qW b N cap d W1 (by omega) aG aL (hT.below bw aC) hb).mono ?_;rintro e W2 ⟨sv,rfl,ao,ag⟩;obtain⟨sa,sc,rfl⟩:=ao.slice;have aH:=ag.size;have J:Spl w W2 W2.heap.size (.slice sa (dG (d9 d)).length sc) (.slice none 0 0) (dG (d9 d)) [] []:=
  ⟨b0.below ag b0.lt,b1.below ag b1.lt,by rw[I] at ao;exact ao,fun g hg=>(World.ownsRow.lt ao g hg).2,gq.nil _ _,bw.trans (ag.mono bw.size),MH _,by omega⟩
 have aB:(dG (d9 d)).length≤40000:=MN (mP _) (MN (pQ d) hd);have Z:=qK d;have ac:=a8 (fun h:0<d.length∧(dG (d9 d)).head?≠some 0=>iR (d:=d) (Or.inr (Or.inl h)));have V:=a8 (fun(k:Nat) (hk:k<(dG (d9 d)).length) (h:eh (f9 d (dG (d9 d)) k)=false)=>iR (d:=d) (Or.inr (Or.inr ⟨k,hk,h⟩)));have Y:=a8 (oA (d:=d) hd);clear b0 b1 bw I ao ag aH;generalize hR:dG (d9 d)=R at J aB Z ac V Y⊢;clear hR;have p0:=J.b0.c0;have p1:=J.b0.c1;have f0:=J.b0.fz 0;have f1:=J.b0.fz 1;have q0:=J.b1.c0;have q1:=J.b1.c1;have ab:=a8 J;by_cases az:0<d.length
 ·have aF:(0:Int)<(d.length:Int):=(by omega);cases hRc:R with
  |nil=>
   subst hRc;have Q:=a8 (ac.out ⟨az,by simp⟩);clear ac V Y J Z;go_wp2;exact bodyPost_ret (fL w.heap.size _ _ _ rfl rfl ((ab.out.b0.set0 _).set1 _)) rfl ⟨_,rfl,by rw[Q.out];exact rfl,(ab.out.bel.setCell (p:=⟨w.heap.size,0,none⟩) (MH _) _).setCell (p:=⟨w.heap.size,1,none⟩) (MH _) _⟩
  |cons r0 rs=>
   subst hRc;obtain⟨g1,rfl⟩:∃g1,sa=some ⟨g1,0,none⟩:=by
    rcases J.st.2 with⟨h',hn⟩|⟨g,aR,aT,h',_⟩
    ·simp at hn
    ·simp only[MR] at h';exact⟨g,h'.1⟩
   have s0:W2.cell? ⟨g1,0,none⟩=some (.int .i64 (r0:Int)):=J.st.cell 0 (by simp);have aQ:((rs.length:Int)+1==0)=false:=(by simp;omega);by_cases aE:r0=0
   ·subst aE;clear J ac p0 p1 f0 f1 q0 q1;obtain⟨R,hR⟩:∃R,R=0::rs:=⟨_,rfl⟩
    have aU:R.length=rs.length+1:=(by rw[hR];rfl);have aK:R.head? =some 0:=(by rw[hR];rfl);rw[←hR] at ab V Y Z aB;go_wp2;clear s0 hR;go_loopw [5,6,7,8,9,34] (fun _ _ _ _ _ i wr=>∃(k:Nat) (v:Value) (vs:List S3) (K:List (List Nat)),k≤R.length∧i= .int .i64 (k:Int)∧Spl w wr W2.heap.size (.slice (some ⟨g1,0,none⟩) R.length sc) v R vs K∧Hid (vs.map (fun x:S3=>(x.1,x.2.1))=(List.range k).map (eY R d.length))∧Hid (K=(List.range k).map (fun j=>dX (ed (f9 d R j))))∧Hid (∀j,j<k→eh (f9 d R j)=true)) (fun _ _ _ _ _ i _=>R.length-(intOf i).toNat)
    case atStart=>exact⟨0,_,[],[],MQ _,rfl,ab.out,rfl,rfl,fun j hj=>absurd hj (Nat.not_lt_zero _)⟩
    case round=>
     obtain⟨k,v,vs,K,hk,rfl,S,HV,HL,HO⟩:=hrel;obtain⟨va,vc,rfl⟩:=S.os.slice;clear ab;by_cases am:k<R.length
     ·obtain⟨aD,aP⟩:=Z k am;have sk:=S.st.cell k am;have ay:(eY R d.length k).1=R[k]:=(by unfold eY;simp[List.getD,am]);rw[←ay] at sk;have ar:∀h:k+1<R.length,wr.cell? ⟨g1,k+1,none⟩=some (.int .i64 ((eY R d.length k).2:Int)):=fun h=>by
       have hq:(eY R d.length k).2=R[k+1]:=(by unfold eY;simp[List.getD,h]);rw[hq];exact S.st.cell (k+1) h
      have aq:¬k+1<R.length→(eY R d.length k).2=d.length:=fun h=>(by unfold eY;simp[h]);have O:(f9 d R k).length=(eY R d.length k).2-(eY R d.length k).1:=(by unfold f9;rw[MZ,MU];omega);have L:=gW (hT.below S.bel aC) (eY R d.length k).1 ((eY R d.length k).2-(eY R d.length k).1);have ap:(d.drop (eY R d.length k).1).take ((eY R d.length k).2-(eY R d.length k).1)=f9 d R k:=rfl;rw[ap] at L;have aa:∀x∈f9 d R k,x<256:=fun x hx=>hb x (M7 (M4 hx));have aA:=a8 (show mN d R k=((eY R d.length k).1,(eY R d.length k).2,dX (ed (f9 d R k))) from rfl);have HE:=a8 (show eY R d.length k=((eY R d.length k).1,(eY R d.length k).2) from rfl);generalize (eY R d.length k).1=p at aD ay sk O L aA HE ap;generalize (eY R d.length k).2=q at aD aP ar aq O L aA HE ap;have A:=a8 S;clear ay ap S;have aM:(k:Int)<(rs.length:Int)+1:=(by omega);have aX:(p:Int)≤(q:Int):=(by omega);have aY:(q:Int)≤(cap:Int):=(by omega);have aW:¬cap=p:=(by omega);by_cases h1:k+1<R.length
      ·have aZ:=ar h1;have aI:(k:Int)+1<(rs.length:Int)+1:=(by omega);clear ar aq;go_wp2_with fail;by_cases E:eh (f9 d R k)=true
       ·have IG:=si b (N+p) (cap-p) (f9 d R k) wr (by omega) (by omega) L (by have:=A.out.bel.size;omega) aa E;rw[O] at IG;refine IG.mono ?_;rintro e W3 ⟨rfl,M⟩;have z:=a8 (A.out.below M);have av:=(iH E).1;have ad:ed (f9 d R k)=((f9 d R k).drop 10).take ((f9 d R k).length-11):=rfl;have ae:d8 W3 b (N+p+10) (ed (f9 d R k)):=by
         have h:=(gW (L.drop 10) 0 ((f9 d R k).length-11)).below M (by have:=A.out.bel.size;omega);rw[ad];simpa using h
        have ak:(ed (f9 d R k)).length=q-p-10-1:=(by rw[ad,MZ,MU,O];omega);have ah:∀x∈ed (f9 d R k),x<256:=fun x hx=>aa x (M7 (M4 hx));have ai:=IV z.out b (N+p+10) (q-p-10-1) (cap-p-10) p q (ed (f9 d R k)) ak (by omega) (by omega) (by omega) ae (by have:=z.out.bel.size;omega) ah;have HN:=a8 (show(∀j,j<k+1→eh (f9 d R j)=true) from fun j hj=>by
         by_cases e:j<k
         ·exact HO.out j e
         ·obtain rfl:j=k:=(by omega);exact E)
        have ax:K.length≤1048576:=(by have:=congrArg List.length HL.out;rw[MI,List.length_range] at this;omega);have q1:=z.out.b1.c1;generalize af:dX (ed (f9 d R k))=U at ai;have HU:=a8 af;clear af ah ak ae ad IG M L aa O A HO E sk av;go_wp2;go_region_law (first
         |(refine nW (.tmp 66) #[52] (by rfl) (by rfl) (.slice (some ⟨b,N+p+10,none⟩) (q-p-10-1) (cap-p-10)) (by rfl) ?_;refine(ai _ ?_ ?_ ?_ ?_).mono ?_;(exact rfl);(exact rfl);(exact rfl);(exact rfl);rintro e w2 ⟨a2,c2,rfl,al,ha,p1,l2⟩;have au:=a8 al;have G:=a8 ha;clear al ha;refine⟨_,rfl,?_⟩)
         |(refine jx _ (by rfl) (.tmp 63) (.tmp 69) (by rfl) W2.heap.size (.slice va K.length vc) vs K p q (.slice a2 U.length c2) U w2.heap.size 1 (by rfl) (by rfl) ?_ ?_ ?_ ?_ ?_ ?_ ?_ ?_ ?_;(refine(G.out _ ?_ ?_ ?_ ?_).1<;>rfl);(refine(G.out _ ?_ ?_ ?_ ?_).2.1<;>rfl);(refine(G.out _ ?_ ?_ ?_ ?_).2.2.1<;>rfl);(refine(G.out _ ?_ ?_ ?_ ?_).2.2.2.1<;>rfl);(refine(G.out _ ?_ ?_ ?_ ?_).2.2.2.2.1<;>rfl);(exact au.out);(exact ax);(refine(G.out _ ?_ ?_ ?_ ?_).2.2.2.2.2.1<;>rfl);intro v3 w3 an aw;have I:=DA G.out aw;obtain⟨a3,c3,rfl⟩:=an.slice;have p3:=I.b1.c0;have f3:=I.b1.fz 0;have p4:=I.b1.c1;have f4:=I.b1.fz 1))
        all_goals
         have aj:=Dz I z.out.lo z.out.stlt an;rw[show(K++[U]).length=K.length+1 from by simp] at aj;go_wp2;go_roundw
         case rel=>
          refine⟨k+1,_,_,_,by omega,by go_num,aj,?_,?_,HN.out⟩
          ·show _=_;rw[List.range_succ,MS,MS,HV.out,List.map_singleton,List.map_singleton,HE.out]
          ·show _=_;rw[List.range_succ,MS,←HL.out,List.map_singleton,HU.out]
         case measure=>simp[intOf];omega
       ·have IB:=vq b (N+p) (cap-p) (f9 d R k) wr (by omega) (by omega) L (by have:=A.out.bel.size;omega) aa (by simpa using E);rw[O] at IB;refine IB.mono ?_;rintro e W3 ⟨v3,rfl,M⟩;have z:=a8 (A.out.below M);have Q:=a8 (V.out k am (by simpa using E));have p0:=z.out.b0.c0;have p1:=z.out.b0.c1;have f0:=z.out.b0.fz 0;have f1:=z.out.b0.fz 1;clear IB M L aa O A HO E sk V Y HV HL Z;go_wp2;exact bodyPost_ret (fL w.heap.size _ _ _ rfl rfl ((z.out.b0.set0 _).set1 _)) rfl ⟨_,rfl,by rw[Q.out];exact rfl,(z.out.bel.setCell (p:=⟨w.heap.size,0,none⟩) (MH _) _).setCell (p:=⟨w.heap.size,1,none⟩) (MH _) _⟩
      ·have aO:=aq h1;subst aO;have aI:¬(k:Int)+1<(rs.length:Int)+1:=(by omega);clear ar aq;go_wp2_with fail;by_cases E:eh (f9 d R k)=true
       ·have IG:=si b (N+p) (cap-p) (f9 d R k) wr (by omega) (by omega) L (by have:=A.out.bel.size;omega) aa E;rw[O] at IG;refine IG.mono ?_;rintro e W3 ⟨rfl,M⟩;have z:=a8 (A.out.below M);have av:=(iH E).1;have ad:ed (f9 d R k)=((f9 d R k).drop 10).take ((f9 d R k).length-11):=rfl;have ae:d8 W3 b (N+p+10) (ed (f9 d R k)):=by
         have h:=(gW (L.drop 10) 0 ((f9 d R k).length-11)).below M (by have:=A.out.bel.size;omega);rw[ad];simpa using h
        have ak:(ed (f9 d R k)).length=d.length-p-10-1:=(by rw[ad,MZ,MU,O];omega);have ah:∀x∈ed (f9 d R k),x<256:=fun x hx=>aa x (M7 (M4 hx));have ai:=IV z.out b (N+p+10) (d.length-p-10-1) (cap-p-10) p d.length (ed (f9 d R k)) ak (by omega) (by omega) (by omega) ae (by have:=z.out.bel.size;omega) ah;have HN:=a8 (show(∀j,j<k+1→eh (f9 d R j)=true) from fun j hj=>by
         by_cases e:j<k
         ·exact HO.out j e
         ·obtain rfl:j=k:=(by omega);exact E)
        have ax:K.length≤1048576:=(by have:=congrArg List.length HL.out;rw[MI,List.length_range] at this;omega);have q1:=z.out.b1.c1;generalize af:dX (ed (f9 d R k))=U at ai;have HU:=a8 af;clear af ah ak ae ad IG M L aa O A HO E sk av;go_wp2;go_region_law (first
         |(refine nW (.tmp 66) #[52] (by rfl) (by rfl) (.slice (some ⟨b,N+p+10,none⟩) (d.length-p-10-1) (cap-p-10)) (by rfl) ?_;refine(ai _ ?_ ?_ ?_ ?_).mono ?_;(exact rfl);(exact rfl);(exact rfl);(exact rfl);rintro e w2 ⟨a2,c2,rfl,al,ha,p1,l2⟩;have au:=a8 al;have G:=a8 ha;clear al ha;refine⟨_,rfl,?_⟩)
         |(refine jx _ (by rfl) (.tmp 63) (.tmp 69) (by rfl) W2.heap.size (.slice va K.length vc) vs K p d.length (.slice a2 U.length c2) U w2.heap.size 1 (by rfl) (by rfl) ?_ ?_ ?_ ?_ ?_ ?_ ?_ ?_ ?_;(refine(G.out _ ?_ ?_ ?_ ?_).1<;>rfl);(refine(G.out _ ?_ ?_ ?_ ?_).2.1<;>rfl);(refine(G.out _ ?_ ?_ ?_ ?_).2.2.1<;>rfl);(refine(G.out _ ?_ ?_ ?_ ?_).2.2.2.1<;>rfl);(refine(G.out _ ?_ ?_ ?_ ?_).2.2.2.2.1<;>rfl);(exact au.out);(exact ax);(refine(G.out _ ?_ ?_ ?_ ?_).2.2.2.2.2.1<;>rfl);intro v3 w3 an aw;have I:=DA G.out aw;obtain⟨a3,c3,rfl⟩:=an.slice;have p3:=I.b1.c0;have f3:=I.b1.fz 0;have p4:=I.b1.c1;have f4:=I.b1.fz 1))
        all_goals
         have aj:=Dz I z.out.lo z.out.stlt an;rw[show(K++[U]).length=K.length+1 from by simp] at aj;go_wp2;go_roundw
         case rel=>
          refine⟨k+1,_,_,_,by omega,by go_num,aj,?_,?_,HN.out⟩
          ·show _=_;rw[List.range_succ,MS,MS,HV.out,List.map_singleton,List.map_singleton,HE.out]
          ·show _=_;rw[List.range_succ,MS,←HL.out,List.map_singleton,HU.out]
         case measure=>simp[intOf];omega
       ·have IB:=vq b (N+p) (cap-p) (f9 d R k) wr (by omega) (by omega) L (by have:=A.out.bel.size;omega) aa (by simpa using E);rw[O] at IB;refine IB.mono ?_;rintro e W3 ⟨v3,rfl,M⟩;have z:=a8 (A.out.below M);have Q:=a8 (V.out k am (by simpa using E));have p0:=z.out.b0.c0;have p1:=z.out.b0.c1;have f0:=z.out.b0.fz 0;have f1:=z.out.b0.fz 1;clear IB M L aa O A HO E sk V Y HV HL Z;go_wp2;exact bodyPost_ret (fL w.heap.size _ _ _ rfl rfl ((z.out.b0.set0 _).set1 _)) rfl ⟨_,rfl,by rw[Q.out];exact rfl,(z.out.bel.setCell (p:=⟨w.heap.size,0,none⟩) (MH _) _).setCell (p:=⟨w.heap.size,1,none⟩) (MH _) _⟩
     ·obtain rfl:k=R.length:=(by omega);have Q:=a8 (Y.out (by rw[aK];simp) HO.out);have p0:=S.b0.c0;have p1:=S.b0.c1;have f0:=S.b0.fz 0;have f1:=S.b0.fz 1;have q0:=S.b1.c0;have q1:=S.b1.c1;have A:=a8 S;have aM:¬(R.length:Int)<(rs.length:Int)+1:=(by omega);clear Y V S Z;go_wp2;refine bodyPost_ret (fL w.heap.size _ _ _ rfl rfl ((A.out.b0.set0 _).set1 _)) rfl ⟨_,rfl,?_,(A.out.bel.setCell (p:=⟨w.heap.size,0,none⟩) (MH _) _).setCell (p:=⟨w.heap.size,1,none⟩) (MH _) _⟩;rw[Q.out];refine⟨_,vs,rfl,?_,?_⟩
      ·rw[HV.out,NC];rfl
      ·have aN:((List.range R.length).map (mN d R)).map (·.2.2)=K:=(by rw[HL.out,NC];rfl);rw[aN];have aV:=A.out.lo;exact((A.out.os.other (show w.heap.size<W2.heap.size by omega) _).other (show w.heap.size<W2.heap.size by omega) _).mono (by omega)
   ·have aS:((r0:Int) !=0)=true:=(by simp;omega);have Q:=a8 (ac.out ⟨az,by simp;exact aE⟩);clear ac V Y J Z;go_wp2;exact bodyPost_ret (fL w.heap.size _ _ _ rfl rfl ((ab.out.b0.set0 _).set1 _)) rfl ⟨_,rfl,by rw[Q.out];exact rfl,(ab.out.bel.setCell (p:=⟨w.heap.size,0,none⟩) (MH _) _).setCell (p:=⟨w.heap.size,1,none⟩) (MH _) _⟩
 ·have aF:¬(0:Int)<(d.length:Int):=(by omega);have aJ:R=[]:=by
   cases R with
   |nil=>rfl
   |cons r0 rs=>have:=Z 0 (by simp);omega
  subst aJ;have Q:=a8 (Y.out (by omega) (fun k hk=>by simp at hk));clear ac V Y J Z;go_wp2;go_loopw [34] (fun i wr=>i= .int .i64 0∧wr=W2) (fun _ _=>0)
  case atStart=>exact⟨rfl,rfl⟩
  case round=>
   obtain⟨rfl,rfl⟩:=hrel;go_wp2;refine bodyPost_ret (fL w.heap.size _ _ _ rfl rfl ((ab.out.b0.set0 _).set1 _)) rfl ⟨_,rfl,?_,(ab.out.bel.setCell (p:=⟨w.heap.size,0,none⟩) (MH _) _).setCell (p:=⟨w.heap.size,1,none⟩) (MH _) _⟩;rw[Q.out];exact⟨_,[],rfl,rfl,gq.nil _ _⟩
structure Spg(w wr:World)(lo2:Nat)(sv v:Value)(ex nx:Nat)(xs:List Value)(vs:List S3)(ls:List (List Nat)):Prop where
 b0:fS wr w.heap.size (.bool false) (.slice none 0 0)
 b1:fS wr (w.heap.size+1) (.bool true) v
 st:World.ownsRow wr (w.heap.size+2) ex 1 sv nx xs
 stlt:∀g,sv.ownBlock=some g→g<lo2
 os:gq wr lo2 v vs ls
 bel:Below w.heap.size w wr
 sz:lo2≤wr.heap.size
 lo:w.heap.size+2≤lo2
theorem Spg.below{W':World}{v:Value}{E I:Nat}{K:List S3}{G:List (List Nat)}(h:Spg w W A J v E I xs K G)(z:Below W.heap.size W W'):Spg w W' A J v E I xs K G:=
 ⟨h.b0.below z h.b0.lt,h.b1.below z h.b1.lt,kg h.st (fun g _ L=>z.block g L),h.stlt,h.os.below z (MH _),h.bel.trans (z.mono h.bel.size),MN h.sz z.size,h.lo⟩
structure A6(w w3:World)(lo2:Nat)(sv v:Value)(ex nx:Nat)(xs:List Value):Prop where
 b0:fS w3 w.heap.size (.bool false) (.slice none 0 0)
 b1:fS w3 (w.heap.size+1) (.bool true) v
 st:World.ownsRow w3 (w.heap.size+2) ex 1 sv nx xs
 bel:Below w.heap.size w w3
 sz:lo2≤w3.heap.size
def LG(w w2:World)(lo2:Nat)(sv v u:Value)(p q:Nat)(ex nx:Nat)(xs:List Value)(vs:List S3)(ls:List (List Nat))(U:List Nat):Prop:=
 ∀Y:World,Y.heap=(w2.alloc (.cells #[.int .i64 (p:Int),.int .i64 (q:Int),u] 179)).heap→Y.os=w2.os→Y.tape=w2.tape→Y.output=w2.output→
  gq Y lo2 v vs ls∧Y.cell? ⟨w2.heap.size,0,none⟩=some (iv p)∧Y.cell? ⟨w2.heap.size,1,none⟩=some (iv q)∧Y.cell? ⟨w2.heap.size,2,none⟩=some u∧dO Y lo2 u U∧lo2≤Y.heap.size∧∀w3,Y.grownBy w3 v.ownBlock→A6 w w3 lo2 sv v ex nx xs
theorem Ke{z A:World}{E:Nat}{v u:Value}{p q:Nat}{G I:Nat}{R:List S3}{Q:List (List Nat)}{U:List Nat}(h:LG w z E J v u p q G I xs R Q U)(O:Y.grownBy A v.ownBlock)(K:Y.heap=(z.alloc (.cells #[.int .i64 (p:Int),.int .i64 (q:Int),u] 179)).heap:=by rfl)(L:Y.os=z.os:=by rfl)(M:Y.tape=z.tape:=by rfl)(N:Y.output=z.output:=by rfl):A6 w A E J v G I xs:=
 (h Y K L M N).2.2.2.2.2.2 A O
theorem Kd{E:World}{A v:Value}{G J:Nat}{K:List S3}{I:List (List Nat)}(h:A6 w E z A v G J xs)(L:w.heap.size+2≤z)(N:∀g,A.ownBlock=some g→g<z)(M:gq E z v3 K I):Spg w (E.setCell ⟨w.heap.size+1,1,none⟩ v3) z A v3 G J xs K I:=
 ⟨h.b0.other (show w.heap.size≠w.heap.size+1 by omega) _,h.b1.set1 _,ownsRow_setCell_below h.st (show w.heap.size+1<w.heap.size+2 by omega) _,N,M.other (show w.heap.size+1<z by omega) _,h.bel.setCell (p:=⟨w.heap.size+1,1,none⟩) (by simp) _,by simpa using h.sz,L⟩
theorem Kj{A:World}{R:Nat}{V v:Value}{ex nx:Nat}{vs:List S3}{ls:List (List Nat)}(S:Spg w A R V v ex nx xs vs ls)(b o n c p q:Nat)(U:List Nat)(hn:U.length=n)(hU:U.length≤1048576)(hc:U.length≤c)(hT:d8 A b o U)(ae:b<A.heap.size)(hb:∀x∈U,x<256):
  ∀W:World,W.heap=A.heap→W.os=A.os→W.tape=A.tape→W.output=A.output→Calls Tryz.prog 163 #[.slice (some ⟨b,o,none⟩) n c] W fun e J=>∃E G,e= .returned (.slice E (dX U).length G)∧(∀y∈vs,y.2.2.ownBlock=none∨y.2.2.ownBlock≠(Value.slice E (dX U).length G).ownBlock)∧
   LG w J R V v (.slice E (dX U).length G) p q ex nx xs vs ls (dX U)∧J.cell? ⟨w.heap.size+1,1,none⟩=some v∧w.heap.size+1<J.heap.size:=by
 intro W M e2 e3 e4;subst hn;have ad:d8 W b o U:=fun i hi=>(by rw[←hT i hi];exact World.cell?_of_block (by rw[M]));refine(rg b o c U W hU hc ad (by rw[M];exact ae) hb).mono ?_;rintro e J ⟨v2,rfl,O,N⟩;obtain⟨E,G,rfl⟩:=O.slice;rw[M] at O;have hB:Below A.heap.size A J:=⟨N.os.trans e2,N.tape.trans e3,N.output.trans e4,by rw[←M];exact N.size,fun k hk=>by rw[←M];exact N.block k (by rw[M];exact hk)⟩
 have K:=S.below hB;have aj:=hB.size;refine⟨E,G,rfl,S.os.ne_new O,?_,K.b1.c1,K.b1.lt⟩;have aa:=nAl J (.cells #[.int .i64 (p:Int),.int .i64 (q:Int),.slice E (dX U).length G] 179);have I:=K.below aa;have ag:dO _ R (.slice E (dX U).length G) (dX U):=(O.below aa (MH _)).mono S.sz;have ah:=heap_alloc_new J (.cells #[.int .i64 (p:Int),.int .i64 (q:Int),.slice E (dX U).length G] 179);intro Y z y2 y3 y4;have Z:Y.heap[J.heap.size]? =some (.cells #[.int .i64 (p:Int),.int .i64 (q:Int),.slice E (dX U).length G] 179 (0,0)):=(by rw[z];exact ah);have Q:∀g,v.ownBlock=some g→R≤g:=fun g L=>(World.ownsRow.lt K.os.row g L).1;refine⟨vo I.os z,by rw[cell_of_row _ _ _ _ _ _ Z];rfl,by rw[cell_of_row _ _ _ _ _ _ Z];rfl,by rw[cell_of_row _ _ _ _ _ _ Z];rfl,kb ag z,by rw[z];exact I.sz,fun w3 L=> ?_⟩;have c0:fS Y w.heap.size (.bool false) (.slice none 0 0):=(by unfold fS;rw[z];exact I.b0);have c1:fS Y (w.heap.size+1) (.bool true) v:=(by unfold fS;rw[z];exact I.b1);have ac:World.ownsRow Y (w.heap.size+2) ex 1 V nx xs:=kb I.st z;have ai:=S.lo;refine⟨c0.grown L (fun e=>by have:=Q _ e.symm;omega),c1.grown L (fun e=>by have:=Q _ e.symm;omega),World.ownsRow.kept ac L ?_,?_,MN (by rw[z];exact I.sz) L.size⟩
 ·cases hb':V.ownBlock with
  |none=>exact .inl rfl
  |some g=>exact .inr fun e=>by have:=Q g e.symm;have:=S.stlt g hb';omega
 ·have ab:Below w.heap.size w Y:=⟨y2.trans K.bel.os,y3.trans K.bel.tape,y4.trans K.bel.output,by rw[z];exact I.bel.size,fun k hk=>by rw[z];exact I.bel.block k hk⟩
  exact ab.grown L (by have:=ab.size;omega) (fun g af=>by have:=Q g af;omega)
theorem Ip(v:Value)(w:World):(callFunc 163 #[v]).run Tryz.prog w= .ok (.enter 163 #[v]) w:=by
 kernel_rfl
theorem tv{G:Array Oper}{z:Act}{K:Act→World→Prop}{E:Prop}(x:Operand)(ts:Array TypeId)(A:o.guard=none)
  (I:o.op= .call {callee:= .value (.func 163),args:= #[x],argTypes:=ts}) (v:Value) (M:z.eval x=v) (h:Calls Tryz.prog 163 #[v] w fun e w'=>∃u,e= .returned u∧K (z.put o.dst u) w'):
  if Region.wanted o (yielded G z.tmps)=true then Oper.wp Tryz.prog o z w K Q else E:=by
 have L:Region.wanted o (yielded G z.tmps)=true:=(by simp[Region.wanted,A]);rw[if_pos L];obtain⟨R,V,Y,U,N,O⟩:=o;simp only at I A;subst I;unfold Oper.wp;rw[execOp_call_go];simp only[List.map_toArray,M0,Ns,M,List.append_toArray,Nq,Nn,Ip,Oper.upon_enter];refine h.mono ?_;rintro e w' ⟨u,rfl,J⟩;exact J
theorem zb(z:∀x∈l,x<256):((fC (l.take 10)).toList==[70,114,111,109,32,109,97,105,108,10])=decide (l.take 10=f5):=by
 have h:=pn (l:=l.take 10) (m:=f5) (fun x A=>z x (M4 A)) (by decide);rw[nB f5] at h;exact h
theorem vn(A:d8 W g 0 l)(z:10≤l.length):(convert 52 9 (.slice (some ⟨g,0,none⟩) 10 c)).run Tryz.prog W= .ok (.string (fC (l.take 10))) W:=by
 have h:=fH W (some ⟨g,0,none⟩) c (l.take 10) (eD (by have:=gW A 0 10;simpa using this));rw[MZ,Nat.min_eq_left z] at h;exact h
theorem vz(z:d8 W g 0 l)(m:Nat)(A:l.length=m+1):∃x:Nat,W.cell? ⟨g,m,none⟩=some (.int .u8 (x:Int))∧(x=10↔l.drop (l.length-1)=[10]):=by
 have h:=z m (by omega);refine⟨l[m]'(by omega),by simpa using h,?_⟩;rw[show l.length-1=m from by omega,Nl (by omega),List.drop_of_length_le (by omega)];simp
theorem xN(b z cap n:Nat)(d:List Nat)(w:World)(G:d.length=n)(E:n≤1048576)(A:d8 w b z d):
  Calls Tryz.prog 96 #[.slice (some ⟨b,z,none⟩) n cap] w fun e w'=>e= .returned (.bool (jH d))∧w'=w:=by
 subst G;exact xQ b z cap d w E A
theorem sj(z:d8 W g 0 l):d8 W g 10 (ed l):=by
 have h:=gW (z.drop 10) 0 (l.length-11);unfold ed;simpa using h
theorem vt(h:10<l.length):(ed l).length=l.length-1-10:=by
 unfold ed;rw[MZ,MU];omega
theorem qB(B1 g c en:Nat)(l:List Nat)(W:World)(V:l.length≤1048576)(hc:l.length≤c)(A:d8 W g 0 l)(K:∀x∈l,x<256)(z:eh l=false):
  Calls Tryz.prog 129 #[.pointer (some ⟨B1,0,none⟩),.slice (some ⟨g,0,none⟩) l.length c,.int .i64 (en:Int)] W fun e w'=>e= .returned (.bool false)∧w'=W:=by
 by_cases aa:l.length≤10
 ·have M:(l.length:Int)≤10:=(by omega);go_enter Tryz.func129,Tryz.ntmps129;go_wp2;go_ret;exact⟨rfl,rfl⟩
 ·have M:¬(l.length:Int)≤10:=(by omega);obtain⟨m,E⟩:∃m,l.length=m+1:=⟨l.length-1,by omega⟩
  have Q:=vn (c:=c) A (by omega);have L:=zb K;have ab:(10:Int)≤(c:Int):=(by omega);obtain⟨x,hx,I⟩:=vz A m E;by_cases G:l.take 10=f5
  ·rw[decide_eq_true G] at L;generalize fC (l.take 10)=S at Q L;by_cases O:x=10
   ·have U:=sj A;have R:=vt (l:=l) (by omega);have N:jH (ed l)=true:=by
     unfold eh at z;rw[decide_eq_true (⟨by omega,G,I.1 O⟩:10<l.length∧l.take 10=f5∧l.drop (l.length-1)=[10])] at z;simpa using z
    have J:=xN g 10 (c-10) (l.length-1-10) (ed l) W R (by omega) U;rw[N] at J;have Z:((x:Int) !=10)=false:=(by rw[O];rfl);rw[E] at J⊢;rw[E] at M V;have ae:¬c=10:=(by omega);have ac:(10:Int)≤(m:Int):=(by omega);have ad:(m:Int)≤(c:Int):=(by omega);have Y:m+1-1=m:=(by omega);rw[Y] at J;clear U R N I z K A E G;go_enter Tryz.func129,Tryz.ntmps129;go_wp2_with fail;refine J.mono ?_;rintro e w' ⟨rfl,rfl⟩;go_wp2;go_ret;exact⟨rfl,rfl⟩
   ·have Z:((x:Int) !=10)=true:=(by simp;omega);rw[E];rw[E] at M V;clear I z K A G;go_enter Tryz.func129,Tryz.ntmps129;go_wp2;go_ret;exact⟨rfl,rfl⟩
  ·rw[decide_eq_false G] at L;generalize fC (l.take 10)=S at Q L;clear I z K A hx;go_enter Tryz.func129,Tryz.ntmps129;go_wp2;go_ret;exact⟨rfl,rfl⟩
def gE(d:List Nat)(cs at_:Nat):List Nat:=(d.drop cs).take (at_-cs)
def pk(d:List Nat)(cs at_:Nat):Nat×Nat×List Nat:=(cs,at_,dX (ed (gE d cs at_)))
def ir(d:List Nat)(x:Nat×Nat):Bool:=eT (dR d x)&&decide (fG (dR d x)=0)
def eC(d:List Nat):List (Nat×Nat)→Nat→Nat→Option (List (Nat×Nat×List Nat))
 |[],cs,at_=>if 0<at_ then(if eh (gE d cs at_)=true then some [pk d cs at_] else none) else some []
 |x::r,cs,at_=>if ir d x=true∧0<at_ then(if eh (gE d cs at_)=true then(eC d r at_ (at_+x.2)).map (pk d cs at_::·) else none) else eC d r cs (at_+x.2)
def qa(d:List Nat):Option (List (Nat×Nat×List Nat)):=if 40000<d.length then none else eC d (eG d) 0 0
def ju(n:Nat):Nat→List Nat→List (Nat×Nat)
 |cs,[]=>[(cs,n)]
 |cs,h::t=>(cs,h)::ju n h t
theorem Bp(s:Nat)(R:List Nat)(n k:Nat):eY (s::R) n (k+1)=eY R n k:=by
 unfold eY;simp[List.getD]
theorem qF(n:Nat):∀(cs:Nat) (H:List Nat),(List.range (cs::H).length).map (eY (cs::H) n)=ju n cs H
 |cs,[]=>by simp[ju,eY,List.getD]
 |cs,h::t=>by
  rw[M2,List.range_succ_eq_map,M0,NC];have e:(eY (cs::h::t) n∘Nat.succ)=eY (h::t) n:=(by funext k;exact Bp cs (h::t) n k);rw[e,qF n h t];simp[ju,eY,List.getD]
def oO(d:List Nat)(ps:List (Nat×Nat)):Option (List (Nat×Nat×List Nat)):=if∀p∈ps,eh (gE d p.1 p.2)=true then some (ps.map fun p=>pk d p.1 p.2) else none
theorem lM(d:List Nat)(p:Nat×Nat)(G:List (Nat×Nat)):oO d (p::G)=if eh (gE d p.1 p.2)=true then(oO d G).map (pk d p.1 p.2::·) else none:=by
 unfold oO;by_cases z:eh (gE d p.1 p.2)=true
 ·rw[if_pos z];by_cases A:∀q∈G,eh (gE d q.1 q.2)=true
  ·rw[if_pos A,if_pos (fun q E=>(M1.1 E).elim (fun e=>e▸z) (A q))];rfl
  ·rw[if_neg A,if_neg (fun h=>A fun q E=>h q (MV _ E))];rfl
 ·rw[if_neg z,if_neg (fun h=>z (h p (Nm ..)))]
theorem pZ(d:List Nat):∀(xs:List (Nat×Nat)) (cs at_:Nat),kG d at_ xs→0<at_→eC d xs cs at_=oO d (ju d.length cs ((xs.filter (ir d)).map (·.1)))
 |[],cs,at_,hc,h0=>by
  have e:at_=d.length:=hc
  subst e;simp only[eC,List.filter_nil,Ns,ju];rw[if_pos h0,lM];by_cases h:eh (gE d cs d.length)=true
  ·rw[if_pos h,if_pos h];simp[oO]
  ·rw[if_neg h,if_neg h]
 |x::r,cs,at_,hc,h0=>by
  obtain⟨E,G,A⟩:=hc;simp only[eC];by_cases z:ir d x=true
  ·rw[if_pos ⟨z,h0⟩,List.filter_cons_of_pos z,M0,ju,lM,E,pZ d r at_ (at_+x.2) A (by omega)]
  ·rw[if_neg (fun h=>z h.1),NF z,pZ d r cs (at_+x.2) A (by omega)]
theorem pm(d:List Nat):∀(xs:List (Nat×Nat)) (s:Nat),kG d s xs→dG (eX d s xs)=(xs.filter (ir d)).map (·.1)
 |[],s,_=>rfl
 |x::r,s,hc=>by
  obtain⟨G,L,I⟩:=hc;have K:=pm d r (s+x.2) I;have J:∀a b:List (Nat×Nat),dG (a++b)=dG a++dG b:=fun a b=>(by unfold dG;rw[List.filter_append,MS]);rw[eX,J,K];by_cases z:eT (dR d x)=true
  ·rw[if_pos z];by_cases E:fG (dR d x)=0
   ·have A:ir d x=true:=(by unfold ir;rw[z,E];rfl);rw[List.filter_cons_of_pos A,M0,G,E];rfl
   ·have A:¬ir d x=true:=(by unfold ir;rw[z,decide_eq_false E];simp);rw[NF A];unfold dG;rw[NF (by simpa using E)];rfl
  ·have A:¬ir d x=true:=(by unfold ir;simp[z]);rw[if_neg z,NF A];rfl
theorem Bm(d:List Nat)(h:d.take 10=f5):fO d=10:=by
 obtain⟨t,rfl⟩:∃t,d=f5++t:=⟨d.drop 10,by rw[←h,Nk]⟩
 simp[f5,fO]
theorem Br(d:List Nat)(h:d.take 10=f5):ir d (0,fO d)=true:=by
 unfold ir dR;rw[Bm d h,List.drop_zero];show(eT (d.take 10)&&decide (fG (d.take 10)=0))=true;rw[h];decide
theorem FV{d:List Nat}{s:Nat}{xs:List (Nat×Nat)}(h:kG d s xs):∀x∈xs,s≤x.1:=by
 induction xs generalizing s with
 |nil=>intro x z;cases z
 |cons y r ih=>
  obtain⟨E,G,A⟩:=h;intro x z;rcases M1.1 z with rfl|z
  ·omega
  ·have:=ih A x z;omega
theorem Ay(d:List Nat)(h:0<d.length):∃r,eG d=(0,fO d)::r:=by
 obtain⟨n,z⟩:∃n,d.length=n+1:=⟨d.length-1,by omega⟩
 unfold eG;rw[z,fU,if_neg (by omega)];exact⟨_,rfl⟩
theorem rT(d:List Nat)(H:List Nat)(h:¬ir d (0,fO d)=true):oO d (ju d.length 0 H)=none:=by
 have E:∀e,¬eh (gE d 0 e)=true:=fun e G=>by
  obtain⟨A,z,_,_⟩:=iH G;unfold gE at A z;rw[List.drop_zero,Nat.sub_zero] at A z;rw[MZ] at A;rw[List.take_take,Nat.min_eq_left (by omega)] at z;exact h (Br d z)
 cases H with
 |nil=>rw[ju,lM,if_neg (E _)]
 |cons a t=>rw[ju,lM,if_neg (E _)]
theorem IA(d:List Nat):qa d=iy d:=by
 unfold qa;by_cases N:40000<d.length
 ·rw[if_pos N,iR (Or.inl N)]
 ·rw[if_neg N];have J:=jk d;have z:dG (d9 d)=((eG d).filter (ir d)).map (·.1):=pm d (eG d) 0 J;by_cases M:0<d.length
  ·obtain⟨r,hr⟩:=Ay d M;rw[hr] at J z⊢;obtain⟨_,Q,K⟩:=J;have R:=jm d M;simp only[Ng] at Q K;have V:eC d ((0,fO d)::r) 0 0=oO d (ju d.length 0 ((r.filter (ir d)).map (·.1))):=by
    rw[eC,if_neg (by omega),Ng];exact pZ d r 0 (fO d) K R
   rw[V];by_cases O:ir d (0,fO d)=true
   ·rw[List.filter_cons_of_pos O,M0] at z;generalize (r.filter (ir d)).map (·.1)=H at z;have L:=qF d.length 0 H;have E:dG (d9 d)=0::H:=z;by_cases G:∀p∈ju d.length 0 H,eh (gE d p.1 p.2)=true
    ·unfold oO;rw[if_pos G,oA (by omega) (by rw[E];simp) (fun k A=>by
      rw[E] at A⊢;exact G (eY (0::H) d.length k) (by rw[←L];exact Na.2 ⟨k,List.mem_range.2 A,rfl⟩)),E,←L,NC]
     rfl
    ·unfold oO;rw[if_neg G];obtain⟨p,I,Y⟩:∃p,p∈ju d.length 0 H∧eh (gE d p.1 p.2)=false:=by
      apply Classical.byContradiction;intro hn;refine G fun p I=> ?_;cases e:eh (gE d p.1 p.2) with
      |true=>rfl
      |false=>exact absurd ⟨p,I,e⟩ hn
     rw[←L] at I;obtain⟨k,A,rfl⟩:=Na.1 I;exact(iR (Or.inr (Or.inr ⟨k,by rw[E];exact List.mem_range.1 A,by rw[E];exact Y⟩))).symm
   ·rw[rT d _ O];rw[NF O] at z;refine(iR (Or.inr (Or.inl ⟨M,?_⟩))).symm;rw[z];intro U;have hm:=List.mem_of_head? U;obtain⟨x,hx,aa⟩:=Na.1 hm;have:=FV K x (List.mem_filter.1 hx).1;omega
  ·have Z:d=[]:=Nt (by omega);subst Z;rw[oA (by simp) (by simp) (fun k A=>by
    rw[z] at A;simp[eG,fU] at A),z]
   simp[eG,fU,eC]
theorem oW{R:Nat}{sv v:Value}{ex nx:Nat}{vs:List S3}{E:List (List Nat)}(K:Spg w W R sv v ex nx xs vs E)(g c st A:Nat)(l:List Nat)(an:A=st+l.length)(ax:A≤1048576)(hc:l.length≤c)(M:d8 W g 0 l)(hg:g<W.heap.size)(V:∀x∈l,x<256)(I:eh l=true)(ar:E.length≤1048576):
  Calls Tryz.prog 129 #[.pointer (some ⟨w.heap.size+1,0,none⟩),.slice (some ⟨g,0,none⟩) l.length c,.int .i64 (A:Int)] W fun e w'=>∃v3 u,e= .returned (.bool true)∧Spg w w' R sv v3 ex nx xs (vs++[(st,A,u)]) (E++[dX (ed l)]):=by
 obtain⟨al,hh,_,aa⟩:=iH I;have hi:¬(l.length:Int)≤10:=(by omega);obtain⟨m,N⟩:∃m,l.length=m+1:=⟨l.length-1,by omega⟩
 have ae:=vn (c:=c) M (by omega);have Y:=zb V;rw[decide_eq_true hh] at Y;have am:(10:Int)≤(c:Int):=(by omega);obtain⟨x,Z,ai⟩:=vz M m N;have ab:x=10:=ai.2 (by
  unfold eh at I;simp only[Bool.and_eq_true,decide_eq_true_eq] at I;exact I.1.2.2)
 have aw:((x:Int) !=10)=false:=(by rw[ab];rfl);have Q:=sj M;have O:=vt (l:=l) (by omega);have ad:∀x∈ed l,x<256:=fun x Z=>V x (M7 (M4 Z));have J:=xN g 10 (c-10) (l.length-1-10) (ed l) W O (by omega) Q;rw[aa] at J;have G:=Kj K g 10 (l.length-1-10) (c-10) st A (ed l) O (by omega) (by omega) Q hg ad;generalize dX (ed l)=U at G;generalize fC (l.take 10)=S at ae Y;obtain⟨va,vc,rfl⟩:=K.os.slice;have q1:=K.b1.c1;have ac:=a8 K;have az:(A:Int)-((m:Int)+1)=(st:Int):=(by omega);have ay:(st:Int)≤1048576:=(by omega);have aA:IntKind.i64.wrap (st:Int)=(st:Int):=(by rw[IntKind.wrap_i64];omega);have av:¬c=10:=(by omega);have ap:(10:Int)≤(m:Int):=(by omega);have aq:(m:Int)≤(c:Int):=(by omega);have au:m+1≤1048576:=(by omega);rw[N] at J G⊢;rw[N] at hi;rw[show m+1-1=m from by omega] at J G;clear ad O Q ai I V M N hh aa K ab an al hc;go_enter Tryz.func129,Tryz.ntmps129;go_wp2_with fail;refine J.mono ?_;rintro e w' ⟨rfl,rfl⟩;have aj:=a8 G;clear J G ae Y Z aw av ap aq hi am au;go_wp2;go_region_law (first
  |(refine tv (.tmp 43) #[52] (by rfl) (by rfl) (.slice (some ⟨g,10,none⟩) (m-10) (c-10)) (by simp[go_sem]) ?_;refine(aj.out _ ?_ ?_ ?_ ?_).mono ?_;(exact rfl);(exact rfl);(exact rfl);(exact rfl);rintro e w2 ⟨a2,c2,rfl,ag,ha,p1,l2⟩;have ak:=a8 ag;have z:=a8 ha;clear ag ha;refine⟨_,rfl,?_⟩)
  |(refine jx _ (by rfl) (.tmp 37) (.tmp 46) (by rfl) R (.slice va E.length vc) vs E st A (.slice a2 U.length c2) U w2.heap.size 1 (by simp[go_sem]) (by simp[go_sem]) ?_ ?_ ?_ ?_ ?_ ?_ ?_ ?_ ?_;(refine(z.out _ ?_ ?_ ?_ ?_).1<;>rfl);(refine(z.out _ ?_ ?_ ?_ ?_).2.1<;>rfl);(refine(z.out _ ?_ ?_ ?_ ?_).2.2.1<;>rfl);(refine(z.out _ ?_ ?_ ?_ ?_).2.2.2.1<;>rfl);(refine(z.out _ ?_ ?_ ?_ ?_).2.2.2.2.1<;>rfl);(exact ak.out);(exact ar);(refine(z.out _ ?_ ?_ ?_ ?_).2.2.2.2.2.1<;>rfl);intro v3 w3 ah ao;have L:=Ke z.out ao;obtain⟨a3,c3,rfl⟩:=ah.slice;have p3:=L.b1.c0;have f3:=L.b1.fz 0;have p4:=L.b1.c1;have f4:=L.b1.fz 1))
 all_goals
  have af:=Kd L ac.out.lo ac.out.stlt ah;rw[show(E++[U]).length=E.length+1 from by simp] at af;go_wp2;go_ret;exact⟨_,_,rfl,af⟩
theorem zI(l:List Nat):(iw l==0)=(eT l&&decide (fG l=0)):=by
 unfold iw;by_cases h:eT l=true
 ·rw[if_pos h,h];by_cases z:fG l=0
  ·rw[z];rfl
  ·rw[decide_eq_false z];simp;omega
 ·rw[if_neg h];simp[h]
theorem gq.kept{v:Value}{A:List S3}{I:List (List Nat)}{z:Option Nat}(h:gq w lo v A I)(E:w.grownBy w' z)(J:v.ownBlock=none∨v.ownBlock≠z)(K:∀y∈A,y.2.2.ownBlock=none∨y.2.2.ownBlock≠z):gq w' lo v A I:=by
 refine⟨h.len,World.ownsRow.kept h.row E J,fun i L=> ?_,h.apart⟩;obtain⟨x,G,M⟩:=h.body i L;exact⟨x,G,World.ownsRow.kept M E (K x (List.mem_of_getElem? G))⟩
theorem Spg.kept{w W W':World}{G:Nat}{I v:Value}{K M:Nat}{xs:List Value}{J:List S3}{L:List (List Nat)}{A:Option Nat}(h:Spg w W G I v K M xs J L)(z:W.grownBy W' A)(E:∀g,A=some g→G≤g)(N:v.ownBlock=none∨v.ownBlock≠A)(O:∀y∈J,y.2.2.ownBlock=none∨y.2.2.ownBlock≠A):Spg w W' G I v K M xs J L:=by
 have Q:=h.lo;have R:=h.sz;refine⟨h.b0.grown z (fun e=>by have:=E _ e.symm;omega),h.b1.grown z (fun e=>by have:=E _ e.symm;omega),World.ownsRow.kept h.st z ?_,h.stlt,h.os.kept z N O,h.bel.grown z (by omega) (fun g e=>by have:=E g e;omega),MN h.sz z.size,h.lo⟩;cases hb:I.ownBlock with
 |none=>exact .inl rfl
 |some g=>exact .inr fun e=>by have:=E g e.symm;have:=h.stlt g hb;omega
theorem Fe(f p:Nat)(d:List Nat):∀x∈fU f p d,0<x.2:=by
 induction f generalizing p d with
 |zero=>intro x z;simp[fU] at z
 |succ f ih=>
  intro x z;rw[fU] at z;split at z
  ·cases z
  ·rcases M1.1 z with rfl|z
   ·exact jm d (by omega)
   ·exact ih _ _ x z
theorem Iq{cs:Nat}{x:Nat×Nat}(z:x.1=at_)(A:cs≤at_):gE d cs at_++dR d x=gE d cs (at_+x.2):=by
 unfold gE dR;rw[z,show at_+x.2-cs=(at_-cs)+x.2 from by omega,List.take_add,List.drop_drop,show cs+(at_-cs)=at_ from by omega]
theorem Dx{cs:Nat}(z:cs≤at_)(A:at_≤d.length):(gE d cs at_).length=at_-cs:=by
 unfold gE;rw[MZ,MU];omega
theorem dO.text(h:dO w z (.slice (some ⟨g,0,none⟩) n cap) l):d8 w g 0 l:=fun i E=>by
 obtain⟨b,G,e,A⟩:=h.row (by omega);simp only[MK,Np,and_true] at e;obtain⟨rfl,rfl⟩:=e;exact A i E
theorem dO.at0{v:Value}(h:dO w z v l)(J:0<l.length):∃g c,v= .slice (some ⟨g,0,none⟩) l.length c∧z≤g∧g<w.heap.size∧l.length≤c:=by
 rcases h.2 with⟨_,K⟩|⟨g,cap,I,rfl,A,G,E,_⟩
 ·omega
 ·refine⟨g,cap,rfl,A,lt_of_block G,?_⟩;exact E
structure uN(w wr:World)(lo2:Nat)(lv v cur:Value)(d:List Nat)(xs:List Value)(xsL:List (Nat×Nat))(k cs at_ lc:Nat)(vs:List S3)(acc:List (Nat×Nat×List Nat)):Prop where
 sg:Spg w wr lo2 lv v 52 xsL.length xs vs (acc.map (·.2.2))
 cu:dO wr lc cur (gE d cs at_)
 lc1:lo2≤lc
 lc2:lc≤wr.heap.size
 ap:∀y∈vs,∀g,y.2.2.ownBlock=some g→g<lc
 cov:kG d at_ (xsL.drop k)
 pos:(at_=0∧cs=0)∨cs<at_
 vm:vs.map (fun x:S3=>(x.1,x.2.1))=acc.map (fun x=>(x.1,x.2.1))
 go:(eC d (xsL.drop k) cs at_).map (acc++·)=eC d xsL 0 0
 al:acc.length≤k
theorem uB(b A cap:Nat)(d:List Nat)(w:World)(E:40000<d.length)(G:d.length≤1048576):
  Calls Tryz.prog 95 #[.slice (some ⟨b,A,none⟩) d.length cap] w (i6 d w):=by
 have I:(40000:Int)<(d.length:Int):=(by omega);have z:fS (w.alloc (.cells #[.bool false,.slice none 0 0] 176)) w.heap.size (.bool false) (.slice none 0 0):=heap_alloc_new w _;go_enter Tryz.func95,Tryz.ntmps95;go_wp2;exact bodyPost_ret (fL w.heap.size _ _ _ rfl rfl z) rfl ⟨_,rfl,by rw[iR (Or.inl E)];exact rfl,(MJ _ _).alloc (MH _) _⟩
theorem AF{z:List (Nat×Nat)}{x:Nat×Nat}{r:List (Nat×Nat)}{cs:Nat}{A:List (Nat×Nat×List Nat)}(E:(eC d (x::r) cs at_).map (A++·)=eC d z 0 0)(hcut:ir d x=true∧0<at_)(G:eh (gE d cs at_)=false):eC d z 0 0=none:=by
 rw[←E,eC,if_pos hcut,if_neg (by rw[G];simp)];rfl
theorem xX{d:List Nat}{A:List (Nat×Nat)}{x:Nat×Nat}{r:List (Nat×Nat)}{cs at_:Nat}{z:List (Nat×Nat×List Nat)}(E:(eC d (x::r) cs at_).map (z++·)=eC d A 0 0)(hcut:ir d x=true∧0<at_)(G:eh (gE d cs at_)=true):(eC d r at_ (at_+x.2)).map ((z++[pk d cs at_])++·)=eC d A 0 0:=by
 rw[←E,eC,if_pos hcut,if_pos G];cases eC d r at_ (at_+x.2) with
 |none=>rfl
 |some l=>simp
theorem AG{z:List (Nat×Nat)}{cs:Nat}{A:List (Nat×Nat×List Nat)}(E:(eC d [] cs at_).map (A++·)=eC d z 0 0)(I:0<at_)(G:eh (gE d cs at_)=false):eC d z 0 0=none:=by
 rw[←E,eC,if_pos I,if_neg (by rw[G];simp)];rfl
theorem xY{A:List (Nat×Nat)}{cs:Nat}{z:List (Nat×Nat×List Nat)}(E:(eC d [] cs at_).map (z++·)=eC d A 0 0)(I:0<at_)(G:eh (gE d cs at_)=true):eC d A 0 0=some (z++[pk d cs at_]):=by
 rw[←E,eC,if_pos I,if_pos G];rfl
theorem uD{A:List (Nat×Nat)}{cs:Nat}{z:List (Nat×Nat×List Nat)}(E:(eC d [] cs at_).map (z++·)=eC d A 0 0)(G:¬0<at_):eC d A 0 0=some z:=by
 rw[←E,eC,if_neg G];simp
theorem G6{E w6:World}{G:Nat}{v u:Value}{z:List (Nat×Nat)}{cs V:Nat}{K:List S3}{A:List (Nat×Nat×List Nat)}{x:Nat×Nat}
  (S:uN w wr G J v N d xs z k cs at_ V K A) (Q:x.1=at_) (Y:0<x.2) (R:kG d (at_+x.2) (z.drop (k+1)))
  (O:(eC d (z.drop (k+1)) at_ (at_+x.2)).map ((A++[pk d cs at_])++·)=eC d z 0 0)
  (I:Spg w E G J v3 52 z.length xs (K++[(cs,at_,u)]) (A.map (·.2.2)++[dX (ed (gE d cs at_))]))
  (M:dO w6 E.heap.size v6 ([]++dR d x)) (L:E.grownBy w6 (Value.slice none 0 0).ownBlock):
  uN w w6 G J v3 v6 d xs z (k+1) at_ (at_+x.2) E.heap.size (K++[(cs,at_,u)]) (A++[pk d cs at_]):=by
 refine⟨?_,?_,I.sz,L.size,fun y U g e=>I.os.lt y U g e,R,Or.inr (by omega),?_,O,by rw[MT];have:=S.al;simp;omega⟩
 ·rw[MS];exact I.kept L (fun g e=>by cases e) (by
   cases e:v3.ownBlock with
   |none=>exact .inl rfl
   |some g=>exact .inr (by simp[Value.ownBlock])) (fun y _=>by
   cases e:y.2.2.ownBlock with
   |none=>exact .inl rfl
   |some g=>exact .inr (by simp[Value.ownBlock]))
 ·rw[Nq] at M;have e:gE d at_ (at_+x.2)=dR d x:=by
   unfold gE dR;rw[Q,show at_+x.2-at_=x.2 from by omega]
  rw[e];exact M
 ·rw[MS,MS,S.vm];rfl
theorem EG{w M w6:World}{J:Nat}{K v G v6:Value}{d:List Nat}{xs:List Value}{z:List (Nat×Nat)}{k cs at_ E:Nat}{L:List S3}{A:List (Nat×Nat×List Nat)}{x:Nat×Nat}
  (S:uN w M J K v G d xs z k cs at_ E L A) (O:x.1=at_) (Y:0<x.2) (Q:kG d (at_+x.2) (z.drop (k+1)))
  (N:(eC d (z.drop (k+1)) cs (at_+x.2)).map (A++·)=eC d z 0 0)
  (U:dO w6 E v6 (gE d cs at_++dR d x)) (I:M.grownBy w6 G.ownBlock):
  uN w w6 J K v v6 d xs z (k+1) cs (at_+x.2) E L A:=by
 refine⟨S.sg.kept I (fun g e=>by have:=(World.ownsRow.lt S.cu g e).1;have:=S.lc1;omega) (lJ S.sg.os.row S.cu (by decide)) (fun y V=> ?_),by rw[←Iq O (by have:=S.pos;omega)];exact U,S.lc1,MN S.lc2 I.size,S.ap,Q,Or.inr (by have:=S.pos;omega),S.vm,N,by have:=S.al;omega⟩;cases e:y.2.2.ownBlock with
 |none=>exact .inl rfl
 |some g=>exact .inr fun R=>by have:=S.ap y V g e;have:=(World.ownsRow.lt S.cu g R.symm).1;omega
theorem DB{v:Value}{E I:Nat}{A:List S3}{l:List (Nat×Nat×List Nat)}(S:Spg w W z J v E I xs A (l.map (·.2.2)))(G:A.map (fun x:S3=>(x.1,x.2.1))=l.map (fun x=>(x.1,x.2.1))):
  kH ((W.setCell ⟨w.heap.size,0,none⟩ (.bool true)).setCell ⟨w.heap.size,1,none⟩ v) w.heap.size (.agg #[.bool true,v]) (some l):=by
 have K:=S.lo;exact⟨v,A,rfl,G,((S.os.other (show w.heap.size<z by omega) _).other (show w.heap.size<z by omega) _).mono (by omega)⟩
theorem xS(b J cap:Nat)(d:List Nat)(w:World)(hd:d.length≤40000)(aT:d.length≤cap)(hT:d8 w b J d)(aw:b<w.heap.size)(hb:∀x∈d,x<256):
  Calls Tryz.prog 95 #[.slice (some ⟨b,J,none⟩) d.length cap] w (i6 d w):=by
 have hi:¬(40000:Int)<(d.length:Int):=(by omega);have b0:fS ((w.alloc (.cells #[.bool false,.slice none 0 0] 176)).alloc (.cells #[.bool true,.slice none 0 0] 176)) w.heap.size (.bool false) (.slice none 0 0):=(Below.heap_alloc _ _ _ (by simp)).trans (heap_alloc_new w _);have b1:fS ((w.alloc (.cells #[.bool false,.slice none 0 0] 176)).alloc (.cells #[.bool true,.slice none 0 0] 176)) (w.heap.size+1) (.bool true) (.slice none 0 0):=by
  have h:=heap_alloc_new (w.alloc (.cells #[.bool false,.slice none 0 0] 176)) (.cells #[.bool true,.slice none 0 0] 176);simpa[fS] using h
 have bw:Below w.heap.size w ((w.alloc (.cells #[.bool false,.slice none 0 0] 176)).alloc (.cells #[.bool true,.slice none 0 0] 176)):=((MJ _ _).alloc (MH _) _).alloc (by simp) _;have Q:((w.alloc (.cells #[.bool false,.slice none 0 0] 176)).alloc (.cells #[.bool true,.slice none 0 0] 176)).heap.size=w.heap.size+2:=(by simp);have ac:=a8 (show iy d=eC d (eG d) 0 0 by rw[←IA];unfold qa;rw[if_neg (by omega)]);have HB:=a8 hb;have HT:=a8 hT;clear hb hT;go_enter Tryz.func95,Tryz.ntmps95;go_wp2_with fail;generalize (w.alloc (.cells #[.bool false,.slice none 0 0] 176)).alloc (.cells #[.bool true,.slice none 0 0] 176)=W1 at b0 b1 bw Q⊢;refine(qA b J cap d W1 (by omega) aT (HT.out.below bw aw) (by have:=bw.size;omega)).mono ?_;rintro e W2 ⟨lv,rfl,ab,ah⟩;have ap:=jk d;have ay:=Az d (jk d);have an:=Fe d.length 0 d;have ba:(eG d).length≤d.length:=ox _ _ _;rw[show fU d.length 0 d=eG d from rfl] at an;generalize eG d=G at ab ap ay an ba ac;obtain⟨la,aE,rfl⟩:=In ab;have aV:=ah.size;have S0:uN w W2 W2.heap.size (.slice la G.length aE) (.slice none 0 0) (.slice none 0 0) d (G.map (lnV b J cap)) G 0 0 0 W2.heap.size [] []:=
  ⟨⟨b0.below ah b0.lt,b1.below ah b1.lt,by rw[Q] at ab;exact ab,fun g hg=>(World.ownsRow.lt ab g hg).2,gq.nil _ _,bw.trans (ah.mono bw.size),MH _,by omega⟩,by show dO _ _ _ (gE d 0 0);simpa[gE] using dO.nil _ _,MH _,MH _,fun y Z=>(by cases Z),(by simpa using ap),Or.inl ⟨rfl,rfl⟩,rfl,by simp,MH _⟩
 have aI:=a8 S0;have aX:=a8 an;have bd:=a8 ay;clear b0 b1 bw Q ab ah aV ap S0 an ay;go_wp2;go_loopw [4,5,7,16] (fun a c _ i wr=>∃(k cs at_ lc:Nat) (v:Value) (vs:List S3) (ag:List (Nat×Nat×List Nat)),k≤G.length∧i= .int .i64 (k:Int)∧a= .int .i64 (at_:Int)∧uN w wr W2.heap.size (.slice la G.length aE) v c d (G.map (lnV b J cap)) G k cs at_ lc vs ag) (fun _ _ _ i _=>G.length-(intOf i).toNat)
 case atStart=>exact⟨0,0,0,W2.heap.size,_,[],[],MQ _,rfl,rfl,aI.out⟩
 case round=>
  obtain⟨k,cs,at_,lc,v,vs,ag,hk,rfl,rfl,z⟩:=hrel;obtain⟨va,vc,bb⟩:=z.sg.os.slice;subst bb;clear aI;have aQ:=FW z.cov;have be:=z.al;by_cases az:k<G.length
  ·have aN:=z.cov;have I:=z.go;rw[Nl az] at aN I;obtain⟨aj,bc,aD⟩:=aN;have aC:=aX.out _ (MO az);obtain⟨g1,aZ,hc⟩:=uQ (k:=k) z.sg.st (MM (by simpa using az)) (by omega);subst aZ;rw[MY] at hc;generalize G[k]=x at I aj bc aD aC hc;simp only[lnV] at hc;rw[aj] at hc;have aL:=HT.out.below z.sg.bel aw;have av:d8 wr b (J+at_) (dR d x):=(by rw[←aj];exact kQ (fun _=>aL) x (by omega));have aA:=nz d x (by omega);have aM:∀y∈dR d x,y<256:=fun y Z=>HB.out y (np Z);have hM:=a8 (vw b (J+at_) (cap-at_) x.2 (dR d x) wr aA (by omega) (by omega) av aM);have Q:(iw (dR d x)==0)=ir d x:=zI (dR d x);generalize iw (dR d x)=mv at hM Q;have aH:=a8 (eD av);have ae:=Dx (d:=d) (cs:=cs) (at_:=at_) (by have:=z.pos;omega) aQ;have af:=a8 I;have E:=a8 z;have aK:=a8 aD;have am:=a8 aj;have aa:=a8 aA;clear I aL av z aM aD aA aj;go_wp2_with fail;refine(hM.out).mono ?_;rintro e w2 ⟨rfl,rfl⟩;clear hM;by_cases hcut:ir d x=true∧0<at_
   ·rw[hcut.1] at Q;have ao:(0:Int)<(at_:Int):=(by have:=hcut.2;omega);have aF:=a8 hcut;clear hcut;have aS:cs<at_:=by have:=E.out.pos;omega
    obtain⟨gc,cc,aq,aU,ar,ad⟩:=E.out.cu.at0 (by omega);have ak:=a8 E.out.cu;have L:∀y∈gE d cs at_,y<256:=fun y Z=>HB.out y (M7 (M4 Z))
    subst aq;have M:=ak.out.text;by_cases K:eh (gE d cs at_)=true
    ·have Y:=a8 (oW E.out.sg gc cc cs at_ (gE d cs at_) (by omega) (by omega) ad M ar L K (by rw[MI];omega));have HG:=a8 (xX af.out aF.out K);clear K M L af;rw[ae] at Y⊢;go_wp2_with fail;refine(Y.out).mono ?_;rintro e w3 ⟨v3,u,rfl,O⟩;have A:=a8 O;have aW:=a8 (fun v6 w6 h6 N=>G6 (v6:=v6) (w6:=w6) E.out am.out aC aK.out HG.out O h6 N);have aY:=a8 (show dW w3 (some ⟨b,J+at_,none⟩) (dR d x) by rw[←am.out];exact eD (kQ (fun _=>HT.out.below O.bel aw) x (by have:=am.out;omega)));clear Y O HG;go_wp2_with (at_builtin;refine fd _ rfl (.tmp 32) (.tmp 33) rfl w3.heap.size (.slice none 0 0) [] (dR d x) x.2 aa.out rfl (dO.nil _ _) ⟨b,J+at_,none⟩ (cap-at_) rfl aY.out (by have:=aa.out;simp;omega) (MH _) ?_;intro v6 w6 ai N)
     go_roundw
     case rel=>exact⟨k+1,at_,at_+x.2,w3.heap.size,_,_,_,by omega,by go_num,by go_num,aW.out _ _ ai N⟩
     case measure=>simp[intOf];omega
    ·have R:eh (gE d cs at_)=false:=(by simpa using K);have V:=a8 (qB (w.heap.size+1) gc cc at_ (gE d cs at_) w2 (by omega) ad M L R);have U:=a8 (AF af.out aF.out R);have p0:=E.out.sg.b0.c0;have p1:=E.out.sg.b0.c1;have f0:=E.out.sg.b0.fz 0;have f1:=E.out.sg.b0.fz 1;clear K R M L af;rw[ae] at V⊢;go_wp2_with fail;refine(V.out).mono ?_;rintro e w3 ⟨rfl,rfl⟩;clear V;go_wp2;exact bodyPost_ret (fL w.heap.size _ _ _ rfl rfl ((E.out.sg.b0.set0 _).set1 _)) rfl ⟨_,rfl,by rw[ac.out,U.out];exact rfl,(E.out.sg.bel.setCell (p:=⟨w.heap.size,0,none⟩) (MH _) _).setCell (p:=⟨w.heap.size,1,none⟩) (MH _) _⟩
   ·have au:(eC d (G.drop (k+1)) cs (at_+x.2)).map (ag++·)=eC d G 0 0:=(by have h:=af.out;rw[eC,if_neg hcut] at h;exact h);have aG:=a8 (fun v6 w6 h6 N=>EG (v6:=v6) (w6:=w6) E.out am.out aC aK.out au h6 N);have aP:=E.out.lc2;have ak:=a8 E.out.cu;by_cases hh:ir d x=true
    ·have ao:¬(0:Int)<(at_:Int):=(by have:¬0<at_:=fun h=>hcut ⟨hh,h⟩;omega);rw[hh] at Q;clear hcut au hh;go_wp2_with (at_builtin;refine fd _ rfl (.tmp 32) (.tmp 33) rfl lc u5 (gE d cs at_) (dR d x) x.2 aa.out rfl ak.out ⟨b,J+at_,none⟩ (cap-at_) rfl aH.out (by have:=aa.out;omega) aP ?_;intro v6 w6 ai N)
     go_roundw
     case rel=>exact⟨k+1,cs,at_+x.2,lc,_,_,_,by omega,by go_num,by go_num,aG.out _ _ ai N⟩
     case measure=>simp[intOf];omega
    ·have aO:ir d x=false:=(by simpa using hh);rw[aO] at Q;clear hcut au hh aO;go_wp2_with (at_builtin;refine fd _ rfl (.tmp 32) (.tmp 33) rfl lc u5 (gE d cs at_) (dR d x) x.2 aa.out rfl ak.out ⟨b,J+at_,none⟩ (cap-at_) rfl aH.out (by have:=aa.out;omega) aP ?_;intro v6 w6 ai N)
     go_roundw
     case rel=>exact⟨k+1,cs,at_+x.2,lc,_,_,_,by omega,by go_num,by go_num,aG.out _ _ ai N⟩
     case measure=>simp[intOf];omega
  ·obtain rfl:k=G.length:=(by omega);have I:=z.go;rw[Nx] at I;have aJ:=a8 z.vm;by_cases h0:0<at_
   ·have ao:(0:Int)<(at_:Int):=(by omega);have aS:cs<at_:=by have:=z.pos;omega
    have ae:=Dx (d:=d) (cs:=cs) (at_:=at_) (by omega) aQ;obtain⟨gc,cc,aq,aU,ar,ad⟩:=z.cu.at0 (by omega);have ax:=z.cu;subst aq;have M:=ax.text;have L:∀y∈gE d cs at_,y<256:=fun y Z=>HB.out y (M7 (M4 Z))
    by_cases K:eh (gE d cs at_)=true
    ·have Y:=a8 (oW z.sg gc cc cs at_ (gE d cs at_) (by omega) (by omega) ad M ar L K (by rw[MI];omega));have U:=a8 (xY I h0 K);clear K M L I z ax;rw[ae] at Y⊢;go_wp2_with fail;refine(Y.out).mono ?_;rintro e w3 ⟨v3,u,rfl,O⟩;obtain⟨a3,c3,aR⟩:=O.os.slice;rw[MT,MI,List.length_singleton] at aR;subst aR;have A:=a8 (show Spg w w3 W2.heap.size (.slice la G.length aE) (.slice a3 (ag.length+1) c3) 52 G.length (G.map (lnV b J cap)) (vs++[(cs,at_,u)]) ((ag++[pk d cs at_]).map (·.2.2)) by rw[MS];exact O);clear Y O;have p0:=A.out.b0.c0;have p1:=A.out.b0.c1;have f0:=A.out.b0.fz 0;have f1:=A.out.b0.fz 1;have q0:=A.out.b1.c0;have q1:=A.out.b1.c1;go_wp2;exact bodyPost_ret (fL w.heap.size _ _ _ rfl rfl ((A.out.b0.set0 _).set1 _)) rfl ⟨_,rfl,by rw[ac.out,U.out];exact DB A.out (by rw[MS,MS,aJ.out];rfl),(A.out.bel.setCell (p:=⟨w.heap.size,0,none⟩) (MH _) _).setCell (p:=⟨w.heap.size,1,none⟩) (MH _) _⟩
    ·have R:eh (gE d cs at_)=false:=(by simpa using K);have V:=a8 (qB (w.heap.size+1) gc cc at_ (gE d cs at_) wr (by omega) ad M L R);have U:=a8 (AG I h0 R);have p0:=z.sg.b0.c0;have p1:=z.sg.b0.c1;have f0:=z.sg.b0.fz 0;have f1:=z.sg.b0.fz 1;have E:=a8 z;clear K R M L I z ax;rw[ae] at V⊢;go_wp2_with fail;refine(V.out).mono ?_;rintro e w3 ⟨rfl,rfl⟩;clear V;go_wp2;exact bodyPost_ret (fL w.heap.size _ _ _ rfl rfl ((E.out.sg.b0.set0 _).set1 _)) rfl ⟨_,rfl,by rw[ac.out,U.out];exact rfl,(E.out.sg.bel.setCell (p:=⟨w.heap.size,0,none⟩) (MH _) _).setCell (p:=⟨w.heap.size,1,none⟩) (MH _) _⟩
   ·have ao:¬(0:Int)<(at_:Int):=(by omega);have U:=a8 (uD I h0);have aB:=z.sg;rw[MI] at aB;have A:=a8 aB;clear I z aB;have p0:=A.out.b0.c0;have p1:=A.out.b0.c1;have f0:=A.out.b0.fz 0;have f1:=A.out.b0.fz 1;have q0:=A.out.b1.c0;have q1:=A.out.b1.c1;go_wp2;exact bodyPost_ret (fL w.heap.size _ _ _ rfl rfl ((A.out.b0.set0 _).set1 _)) rfl ⟨_,rfl,by rw[ac.out,U.out];exact DB A.out aJ.out,(A.out.bel.setCell (p:=⟨w.heap.size,0,none⟩) (MH _) _).setCell (p:=⟨w.heap.size,1,none⟩) (MH _) _⟩
abbrev SP:=Nat×Nat×List Nat
def ry(w:World)(lo:Nat)(v:Value)(vs:List S3)(xs:List SP):Prop:=vs.map (fun x:S3=>(x.1,x.2.1))=xs.map (fun x=>(x.1,x.2.1))∧gq w lo v vs (xs.map (·.2.2))
theorem ry.below{v:Value}{z:List S3}{xs:List SP}(h:ry w lo v z xs)(E:Below B w w')(A:w.heap.size≤B):ry w' lo v z xs:=⟨h.1,h.2.below E A⟩
theorem ry.len{v:Value}{z:List S3}{xs:List SP}(h:ry w lo v z xs):z.length=xs.length:=by have:=h.2.len;simpa using this
theorem ry.pair{v:Value}{z:List S3}{xs:List SP}(h:ry w lo v z xs)(i:Nat)(A:i<xs.length):∃x:S3,z[i]? =some x∧x.1=xs[i].1∧x.2.1=xs[i].2.1∧dO w lo x.2.2 xs[i].2.2:=by
 obtain⟨x,E,G⟩:=h.2.body i (by simpa using A);rw[MY] at G;refine⟨x,E,?_,?_,G⟩
 ·have e:(z.map (fun x:S3=>(x.1,x.2.1)))[i]? =(xs.map (fun x=>(x.1,x.2.1)))[i]? :=(by rw[h.1]);rw[Nr,Nr,E,MM A] at e;simp at e;exact e.1
 ·have e:(z.map (fun x:S3=>(x.1,x.2.1)))[i]? =(xs.map (fun x=>(x.1,x.2.1)))[i]? :=(by rw[h.1]);rw[Nr,Nr,E,MM A] at e;simp at e;exact e.2
theorem ry.cells{z:List S3}{xs:List SP}(h:ry w lo (.slice a n cap) z xs)(Y:0<xs.length):∃g,a=some ⟨g,0,none⟩∧n=xs.length∧∀i (K:i<xs.length),∃x:S3,z[i]? =some x∧w.cell? ⟨g,i*3,none⟩=some (.int .i64 (xs[i].1:Int))∧w.cell? ⟨g,i*3+1,none⟩=some (.int .i64 (xs[i].2.1:Int))∧w.cell? ⟨g,i*3+2,none⟩=some x.2.2∧dO w lo x.2.2 xs[i].2.2:=by
 rcases h.2.row.2 with⟨_,L⟩|⟨g,Z,aa,J,_⟩
 ·simp at L;simp[L] at Y
 ·simp only[MR] at J;obtain⟨rfl,rfl,rfl⟩:=J;refine⟨g,rfl,by simp,fun i K=> ?_⟩;obtain⟨x,A,Q,R,V⟩:=h.pair i K;have hl:=h.len;have U:z[i]'(by omega)=x:=(by rw[MM (by omega)] at A;simpa using A);obtain⟨M,N,O⟩:=rI z i (by omega);rw[U] at M N O;have E:=World.ownsRow.cells h.2.row (g:=g) rfl (i*3) _ M;have G:=World.ownsRow.cells h.2.row (g:=g) rfl (i*3+1) _ N;have I:=World.ownsRow.cells h.2.row (g:=g) rfl (i*3+2) _ O;rw[ej,Ng] at E G I;exact⟨x,A,by rw[←Q];exact E,by rw[←R];exact G,I,V⟩
end Go.Proofs.YtpdbolihakojcaaGreatDoor
