import Derived.Test.YtpdbolihakojcaaGreatDoorPkf
import Derived.Test.YtpdbolihakojcaaGreatDoorPke
import Derived.Test.YtpdbolihakojcaaGreatDoorPkh
import Derived.Deep.Cut
namespace Go.Proofs.YtpdbolihakojcaaGreatDoor
set_option maxRecDepth 20000
set_option linter.unusedVariables false
set_option linter.unusedSimpArgs false
set_option maxHeartbeats 4000000
open Go.RowKit
variable {W Y w w' w0 wr : World} {b : List UInt8} {A B at_ base' c cap e f g gs i j k lo m n u z : Nat} {R d is l : List Nat} {E G I J K L M N O v0 v1 v2 v3 v4 v5 v6 x y : Value} {o : Oper} {Q : Exit → Act → World → Prop} {bvs xs : List Value} {t : TypeId} {cs tmps : Array Value} {p : Addr} {a : Option Addr} {first ok : Bool} {s : ByteArray} {rs : List (List Nat)}
section
open Go.Maps
def kS(s:ByteArray):Lit:= .string s.data.toList
def kN(n:Int):Lit:= .int .i64 n
theorem lQ:Keyed Tryz.prog 9:=string_keyed Tryz.underlying9
theorem pC(w:World):(zeroValue 3).run Tryz.prog w= .ok (.int .i64 0) w:=by kernel_rfl
theorem GW(s:ByteArray)(h:s.size≤maxLen):keyOf Tryz.prog 9 (.string s)=some (kS s):=by
 rw[keyOf_string Tryz.underlying9];simp[mapKey,Tryz.underlying9,h,kS]
theorem Lg(n:Int)(h:(Lit.int .i64 n).wf=true):keyOf Tryz.prog 3 (.int .i64 n)=some (kN n):=keyOf_int_mk Tryz.underlying3 h
abbrev DU:=DataW Unit
structure Lst(w:World)(b1 b2 n:Nat)(D1 D2:DU):Prop where
 o1:w.ownsMap Tryz.prog 9 (plainElem Tryz.prog 3) b1 n D1
 o2:w.ownsMap Tryz.prog 3 unitElem b2 n D2
 ne:b1≠b2
def kE(b1 b2:Nat):Value:= .agg #[.map (some b1),.map (some b2)]
theorem Lst.below{B:Nat}{w w':World}{b1 b2 n:Nat}{z A:DU}(h:Lst w b1 b2 n z A)(E:Below B w w')(G:b1<B)(I:b2<B):Lst w' b1 b2 n z A:=⟨jE h.o1 E G,jE h.o2 E I,h.ne⟩
structure Off(b1 b2:Nat)(w w':World):Prop where
 os:w'.os=w.os
 tape:w'.tape=w.tape
 output:w'.output=w.output
 size:w.heap.size≤w'.heap.size
 block:∀k,k<w.heap.size→k≠b1→k≠b2→w'.heap[k]? =w.heap[k]?
theorem Off.trans{b1 b2:Nat}{a b c:World}(h:Off b1 b2 a b)(k:Off b1 b2 b c):Off b1 b2 a c:=
 ⟨k.os.trans h.os,k.tape.trans h.tape,k.output.trans h.output,MN h.size k.size,fun j E z A=>(k.block j (MW E h.size) z A).trans (h.block j E z A)⟩
theorem Off.of_below{b1 b2:Nat}{w w':World}(h:Below w.heap.size w w'):Off b1 b2 w w':=⟨h.os,h.tape,h.output,h.size,fun k z _ _=>h.block k z⟩
theorem Off.of_grown{b1 b2 b:Nat}{w w':World}(h:w.grownBy w' (some b))(z:b=b1∨b=b2):Off b1 b2 w w':=
 ⟨h.os,h.tape,h.output,h.size,fun k A E G=>h.block k A (fun e=>by simp only[MK] at e;rcases z with rfl|rfl<;>omega)⟩
theorem Off.below{b1 b2 B:Nat}{w w':World}(h:Off b1 b2 w w')(z:B≤b1)(A:B≤b2)(E:B≤w.heap.size):Below B w w':=
 ⟨h.os,h.tape,h.output,h.size,fun k G=>h.block k (by omega) (by omega) (by omega)⟩
theorem dZ.off{b1 b2 g:Nat}{w w':World}{cs:Array Value}{t:TypeId}(h:dZ w g cs t)(E:Off b1 b2 w w')(z:g≠b1)(A:g≠b2):dZ w' g cs t:=(E.block g h.lt z A).trans h
def FA(w:World)(b1 b2 n:Nat)(D1 D2:DU)(s:ByteArray)(e:Ending)(w':World):Prop:=∃v,e= .returned v∧∃D1' D2',Lst w' b1 b2 n D1' D2'∧Off b1 b2 w w'∧
 ((Maps.has D1 (kS s)=false∧D1'=D1∧D2'=D2)∨(Maps.has D1 (kS s)=true∧∃c:Int,D1.atKey (kS s) (.lit (.int .i64 0))= .lit (.int .i64 c)∧D1'=D1.del (kS s)∧D2'=D2.del (kN c)))
theorem F9(b1 b2 n:Nat)(z D2:DU)(s:ByteArray)(w:World)(hs:s.size≤1048576)(E:Lst w b1 b2 n z D2):
  Calls Tryz.prog 134 #[kE b1 b2,.string s] w (FA w b1 b2 n z D2 s):=by
 have J:=GW s (by unfold maxLen;omega);have I:=nAl w (.cells #[.map (some b1),.map (some b2)] 191);have V:=dZ.new w #[.map (some b1),.map (some b2)] 191;have M:=E.below I E.o1.lt E.o2.lt;unfold kE;have U:=a8 I;have HLA:=a8 M;have A:=a8 E;have K:=a8 V;clear I M E V;have aa:=A.out.o1.lt;have ab:=A.out.o2.lt;cases hh:Maps.has z (kS s) with
 |false=>
  go_enter Tryz.func134,Tryz.ntmps134;go_wp2_with (at_lookup;refine wpList_lookup_own_ok_int _ rfl _ _ 189 rfl 9 3 .i64 lQ Tryz.underlying189 Tryz.underlying3 (pC _) b1 n z rfl HLA.out.o1 _ _ rfl J ?_;intro c G R)
  go_end0
  exact⟨_,rfl,z,D2,HLA.out,Off.of_below U.out,.inl ⟨hh,rfl,rfl⟩⟩
 |true=>
  have N:∀w3:World,(w.alloc (.cells #[.map (some b1),.map (some b2)] 191)).mapTurned w3 b2→w3.cell? ⟨w.heap.size,0,none⟩=some (.map (some b1)):=fun w3 ht=>by
   have h:dZ w3 w.heap.size #[.map (some b1),.map (some b2)] 191:=(ht.grown.block w.heap.size K.out.lt (fun e=>by simp at e;omega)).trans K.out;exact h.cell 0
  have HMV:=a8 N;have HH:=a8 hh;clear N;go_enter Tryz.func134,Tryz.ntmps134;go_wp2_with (first
   |(at_lookup;refine wpList_lookup_own_ok_int _ rfl _ _ 189 rfl 9 3 .i64 lQ Tryz.underlying189 Tryz.underlying3 (pC _) b1 n z rfl HLA.out.o1 _ _ rfl J ?_;intro c G R;have Y:=a8 G;have hkc:=Lg c R;clear G)
   |(at_delete;refine wpList_delete_own _ rfl _ _ 186 3 rfl 187 lP Tryz.underlying186 unitElem b2 n D2 rfl HLA.out.o2 _ _ rfl hkc ?_;intro w3 ho3 ht3;have HO3:=a8 ho3;have HT3:=a8 ht3;have q0:=HMV.out w3 ht3;have HP3:=a8 (HLA.out.o1.kept ht3.grown (fun e=>A.out.ne (by simpa using e)));clear ho3 ht3)
   |(at_delete;refine wpList_delete_own _ rfl _ _ 189 9 rfl 3 lQ Tryz.underlying189 (plainElem Tryz.prog 3) b1 n z rfl HP3.out _ _ rfl J ?_;intro w4 O Q;have Z:=a8 O;have L:=a8 Q;clear O Q))
  go_end0
  refine⟨_,rfl,_,_,⟨Z.out,HO3.out.kept L.out.grown (fun e=>A.out.ne (by simpa using e.symm)),A.out.ne⟩,?_,.inr ⟨HH.out,c,Y.out,rfl,rfl⟩⟩;exact((Off.of_below U.out).trans (Off.of_grown HT3.out.grown (.inr rfl))).trans (Off.of_grown L.out.grown (.inl rfl))
end
section
open Go.Maps
structure LE(es:List EN):Prop where
 g1:∀s n m,(s,n)∈es→(s,m)∈es→n=m
 g2:∀s t n,(s,n)∈es→(t,n)∈es→s=t
structure kt(D1 D2:DU)(es:List EN):Prop where
 m1:IsMap D1
 ti:Tidy D1
 sz:Maps.size D1=es.length
 m2:IsMap D2
 r1:∀s n,(s,n)∈es→Maps.has D1 (kS s)=true∧D1.atKey (kS s) (.lit (.int .i64 0))= .lit (.int .i64 n)
 r2:∀s,Maps.has D1 (kS s)=true→∃n,(s,n)∈es
 r3:∀n,Maps.has D2 (kN n)=true↔∃s,(s,n)∈es
theorem su{s t:ByteArray}(h:kS s=kS t):s=t:=by
 unfold kS at h;simp only[Lit.string.injEq] at h;cases s;cases t;simpa using h
theorem xb{n m:Int}(h:kN n=kN m):n=m:=by
 unfold kN at h;simpa using h
theorem eK{z:List EN}{s t:ByteArray}{n:Int}:(t,n)∈noName z s↔(t,n)∈z∧t≠s:=by
 unfold noName;simp
theorem i7{l:List EN}{nm s:ByteArray}{nd n:Int}:(s,n)∈jI l nm nd↔(s=nm∧n=nd)∨(s,n)∈l:=by
 unfold jI;rw[Nb,M1];constructor
 ·rintro(h|h|h)
  ·exact .inr (M4 h)
  ·exact .inl (by simpa using h)
  ·exact .inr (M7 h)
 ·rintro(⟨rfl,rfl⟩|h)
  ·exact .inr (.inl rfl)
  ·rw[←Nk (im l nm) l,Nb] at h;rcases h with h|h
   ·exact .inl h
   ·exact .inr (.inr h)
def gY(es:List EN):Prop:=es.Pairwise fun x y=>x.1≠y.1∧x.2≠y.2
theorem gY.good{L:List EN}(h:gY L):LE L:=by
 have I:=M8.1 h;refine⟨fun s n m J K=> ?_,fun s t n J K=> ?_⟩
 ·obtain⟨i,E,A⟩:=Nd J;obtain⟨j,G,z⟩:=Nd K;rcases Nat.lt_trichotomy i j with c|c|c
  ·have:=(I i j E G c).1;rw[A,z] at this;exact absurd rfl this
  ·subst c;rw[A] at z;simpa using congrArg Prod.snd z
  ·have:=(I j i G E c).1;rw[A,z] at this;exact absurd rfl this
 ·obtain⟨i,E,A⟩:=Nd J;obtain⟨j,G,z⟩:=Nd K;rcases Nat.lt_trichotomy i j with c|c|c
  ·have:=(I i j E G c).2;rw[A,z] at this;exact absurd rfl this
  ·subst c;rw[A] at z;simpa using congrArg Prod.fst z
  ·have:=(I j i G E c).2;rw[A,z] at this;exact absurd rfl this
theorem mH{z:List EN}{s:ByteArray}(h:∀n,(s,n)∉z):noName z s=z:=by
 unfold noName;rw[List.filter_eq_self];intro e E;simp only[ne_eq,decide_not,Bool.not_eq_eq_eq_not,Bool.not_true,decide_eq_false_iff_not];intro A;exact h e.2 (by rw[←A];exact E)
theorem BT{z:List EN}(h:gY z){s:ByteArray}{n:Int}(E:(s,n)∈z):(noName z s).length+1=z.length:=by
 induction z with
 |nil=>cases E
 |cons x r ih=>
  obtain⟨I,J⟩:=List.pairwise_cons.1 h;by_cases e:x.1=s
  ·have K:noName r s=r:=mH (fun m G=>(I _ G).1 e);have:noName (x::r) s=noName r s:=(by unfold noName;rw[NF (by simpa using e)]);rw[this,K];rfl
  ·have:noName (x::r) s=x::noName r s:=(by unfold noName;rw[List.filter_cons_of_pos (by simpa using e)]);rw[this,M2,M2];have:=ih J (by
    rcases M1.1 E with A|A
    ·exact absurd (by rw[←A]) e
    ·exact A)
   omega
theorem zi(l:List EN)(nm:ByteArray)(nd:Int):(jI l nm nd).length=l.length+1:=by
 unfold jI;rw[MT,M2,MZ,MU];have:im l nm≤l.length:=List.findIdx_le_length;omega
theorem gY.noName{z:List EN}(h:gY z)(s:ByteArray):gY (noName z s):=List.Pairwise.sublist List.filter_sublist h
theorem gY.ins{l:List EN}(h:gY l){nm:ByteArray}{nd:Int}(E:∀n,(nm,n)∉l)(G:∀s,(s,nd)∉l):gY (jI l nm nd):=by
 have I:(jI l nm nd).Perm ((nm,nd)::l):=by
  have:=(List.perm_middle (a:=((nm,nd):EN)) (l₁:=l.take (im l nm)) (l₂:=l.drop (im l nm)))
  rw[Nk] at this;exact this
 refine(I.pairwise_iff (fun{x y} h=>⟨fun e=>h.1 e.symm,fun e=>h.2 e.symm⟩)).2 ?_;exact List.pairwise_cons.2 ⟨fun y A=>⟨fun e=>E y.2 (by have z:nm=y.1:=e;rw[z];exact A),fun e=>G y.1 (by have z:nd=y.2:=e;rw[z];exact A)⟩,h⟩
theorem kt.del{I M:DU}{K:List EN}{s:ByteArray}{c:Int}(h:kt I M K)(N:gY K)(Q:Maps.has I (kS s)=true)(V:I.atKey (kS s) (.lit (.int .i64 0))= .lit (.int .i64 c)):kt (I.del (kS s)) (M.del (kN c)) (noName K s):=by
 have g:=N.good;obtain⟨R,G⟩:=h.r2 s Q;have e:=(h.r1 s R G).2;rw[V] at e;have O:c=R:=(by simpa using e);subst O;refine⟨h.m1.del _,h.ti.del _,by have U:=size_del (k:=kS s) h.ti;rw[Q,if_pos rfl,h.sz] at U;have O:=BT N G;omega,h.m2.del _,fun t n z=> ?_,fun t z=> ?_,fun n=>⟨fun E=> ?_,fun E=> ?_⟩⟩
 ·obtain⟨J,L⟩:=eK.1 z;have A:kS t≠kS s:=fun e=>L (su e);rw[has_del_other A,atKey_del_other A];exact h.r1 t n J
 ·have A:t≠s:=fun e=>(by rw[e,has_del_same] at z;cases z);rw[has_del_other (fun e=>A (su e))] at z;obtain⟨n,E⟩:=h.r2 t z;exact⟨n,eK.2 ⟨E,A⟩⟩
 ·have A:n≠c:=fun e=>(by rw[e,has_del_same] at E;cases E);rw[has_del_other (fun e=>A (xb e))] at E;obtain⟨t,z⟩:=(h.r3 n).1 E;exact⟨t,eK.2 ⟨z,fun e=>A (g.g1 s n c (by rw[←e];exact z) G)⟩⟩
 ·obtain⟨t,z⟩:=E;obtain⟨J,L⟩:=eK.1 z;have A:n≠c:=fun e=>L (g.g2 t s c (by rw[←e];exact J) G);rw[has_del_other (fun e=>A (xb e))];exact(h.r3 n).2 ⟨t,J⟩
theorem kt.same{z A:DU}{E:List EN}{s:ByteArray}(h:kt z A E)(G:Maps.has z (kS s)=false):kt z A (noName E s):=by
 rw[mH (fun n I=>by rw[(h.r1 s n I).1] at G;cases G)];exact h
theorem kt.put{G K:DU}{l:List EN}{nm:ByteArray}{nd:Int}(h:kt G K l)(I:WideAt.IsKeyLit (kS nm))(M:WideAt.IsKeyLit (kN nd))(L:∀n,(nm,n)∉l):kt (G.put (kS nm) (.lit (.int .i64 nd))) (K.put (kN nd) (.agg [])) (jI l nm nd):=by
 have N:Maps.has G (kS nm)=false:=by
  cases e:Maps.has G (kS nm) with
  |false=>rfl
  |true=>obtain⟨n,A⟩:=h.r2 nm e;exact absurd A (L n)
 refine⟨h.m1.put _ _,h.ti.put I _,by rw[size_put h.ti,N,zi,h.sz];rfl,h.m2.put _ _,fun t n z=> ?_,fun t z=> ?_,fun n=>⟨fun A=> ?_,fun A=> ?_⟩⟩
 ·rcases i7.1 z with⟨rfl,rfl⟩|z
  ·exact⟨has_put_same h.m1 I _,atKey_put_same h.m1 I _ _⟩
  ·have J:kS t≠kS nm:=fun e=>L n (by rw[←su e];exact z);rw[has_put_other J,atKey_put_other J];exact h.r1 t n z
 ·by_cases e:t=nm
  ·exact⟨nd,i7.2 (.inl ⟨e,rfl⟩)⟩
  ·rw[has_put_other (fun E=>e (su E))] at z;obtain⟨n,A⟩:=h.r2 t z;exact⟨n,i7.2 (.inr A)⟩
 ·by_cases e:n=nd
  ·exact⟨nm,i7.2 (.inl ⟨rfl,e⟩)⟩
  ·rw[has_put_other (fun E=>e (xb E))] at A;obtain⟨t,z⟩:=(h.r3 n).1 A;exact⟨t,i7.2 (.inr z)⟩
 ·obtain⟨t,z⟩:=A;by_cases e:n=nd
  ·subst e;exact has_put_same h.m2 M _
  ·rw[has_put_other (fun E=>e (xb E))];rcases i7.1 z with⟨_,E⟩|z
   ·exact absurd E e
   ·exact(h.r3 n).2 ⟨t,z⟩
def fM(w:World)(b1 b2 n:Nat)(es:List EN):Prop:=∃D1 D2,Lst w b1 b2 n D1 D2∧kt D1 D2 es
theorem pK(b1 b2 n:Nat)(z:List EN)(s:ByteArray)(w:World)(O:s.size≤1048576)(L:fM w b1 b2 n z)(g:gY z):
  Calls Tryz.prog 134 #[kE b1 b2,.string s] w fun e w'=>(∃v,e= .returned v)∧fM w' b1 b2 n (noName z s)∧Off b1 b2 w w':=by
 obtain⟨J,K,N,I⟩:=L;refine(F9 b1 b2 n J K s w O N).mono ?_;rintro e w' ⟨v,rfl,Q,R,E,G,⟨A,rfl,rfl⟩|⟨A,c,M,rfl,rfl⟩⟩
 ·exact⟨⟨v,rfl⟩,⟨_,_,E,I.same A⟩,G⟩
 ·exact⟨⟨v,rfl⟩,⟨_,_,E,I.del g A M⟩,G⟩
theorem GI(b1 b2 n:Nat)(E:List EN)(s:ByteArray)(w:World)(Z:s.size≤1048576)(N:fM w b1 b2 n E):
  Calls Tryz.prog 165 #[kE b1 b2,.string s] w fun e w'=>(∃r:Bool,e= .returned (.bool r)∧(r=true↔∃m,(s,m)∈E))∧Below w.heap.size w w':=by
 obtain⟨A,V,z,I⟩:=N;have O:=GW s (by unfold maxLen;omega);have G:=nAl w (.cells #[.map (some b1),.map (some b2)] 191);have J:=z.below G z.o1.lt z.o2.lt;have K:=a8 (show Maps.has A (kS s)=true↔∃m,(s,m)∈E from⟨I.r2 s,fun⟨m,Q⟩=>(I.r1 s m Q).1⟩);have M:=a8 G;have L:=a8 J;unfold kE;clear G J z I;generalize Y:Maps.has A (kS s)=q at K;go_enter Tryz.func165,Tryz.ntmps165;go_wp2_with (at_lookup;refine wpList_lookup_own_ok_int _ rfl _ _ 189 rfl 9 3 .i64 lQ Tryz.underlying189 Tryz.underlying3 (pC _) b1 n A rfl L.out.o1 _ _ rfl O ?_;intro c R U)
 go_ret;exact⟨⟨q,rfl,K.out⟩,M.out⟩
theorem GQ(s:ByteArray):WideAt.IsKeyLit (kS s):=trivial
theorem Lc(n:Int):WideAt.IsKeyLit (kN n):=trivial
theorem Lst.mono{w:World}{b1 b2 n m:Nat}{z A:DU}(h:Lst w b1 b2 n z A)(E:n≤m):Lst w b1 b2 m z A:=⟨h.o1.mono E,h.o2.mono E,h.ne⟩
theorem pF(b1 b2 n:Nat)(z:List EN)(s:ByteArray)(nd:Int)(w:World)(hs:s.size≤1048576)(Z:(Lit.int .i64 nd).wf=true)(hn:n≤1048576)(L:fM w b1 b2 n z)(g:gY z):
  Calls Tryz.prog 132 #[kE b1 b2,.string s,.int .i64 nd] w fun e w'=>(∃v,e= .returned v)∧fM w' b1 b2 (n+1) (jI (noName z s) s nd)∧Off b1 b2 w w':=by
 have hk:=GW s (by unfold maxLen;omega);have ae:=Lg nd Z;have hpe:plainElem (H:=Unit) Tryz.prog 3 (.int .i64 nd)=some (.lit (.int .i64 nd),[]):=plainElem_int Tryz.underlying3 Z;have K:=nAl w (.cells #[.map (some b1),.map (some b2)] 191);have Y:=dZ.new w #[.map (some b1),.map (some b2)] 191;have R:b1<w.heap.size∧b2<w.heap.size:=(by obtain⟨D1,E,G,_⟩:=L;exact⟨G.o1.lt,G.o2.lt⟩);have N:fM (w.alloc (.cells #[.map (some b1),.map (some b2)] 191)) b1 b2 n z:=by
  obtain⟨D1,E,G,hr⟩:=L;exact⟨D1,E,G.below K R.1 R.2,hr⟩
 have J:=a8 (pK b1 b2 n z s _ hs N g);have HA:=a8 K;have aa:=a8 Y;clear K Y N L;unfold kE at J⊢;go_enter Tryz.func132,Tryz.ntmps132;go_wp2_with fail;refine(J.out).mono ?_;rintro e w2 ⟨⟨v,rfl⟩,⟨D1,E,Q,V⟩,I⟩;have A:=aa.out.off I (by omega) (by omega);have q0:w2.cell? ⟨w.heap.size,0,none⟩=some (.map (some b1)):=A.cell 0;have ac:=a8 ((Off.of_below HA.out).trans I);have af:=a8 A;have HLL:=a8 Q;have ad:=a8 V;have HMV:=a8 (fun(w3:World) (h3:w2.grownBy w3 (some b1))=>(show w3.cell? ⟨w.heap.size,1,none⟩=some (.map (some b2)) from(A.off (Off.of_grown (b1:=b1) (b2:=b2) h3 (.inl rfl)) (by omega) (by omega)).cell 1));clear A Q V I J;go_wp2_with (first
  |(at_mapUpdate;refine wpList_mapUpdate_own _ rfl _ _ _ 189 rfl 9 3 lQ Tryz.underlying189 (plainElem Tryz.prog 3) b1 n D1 rfl HLL.out.o1 (by unfold maxLen;omega) _ _ _ rfl rfl hk _ [] hpe ?_;intro w3 ho3 hg3;have HO3:=a8 ho3;have HG3:=a8 hg3;have q1:=HMV.out w3 hg3;have HP3:=a8 (HLL.out.o2.kept hg3 (fun e=>HLL.out.ne (by simpa using e.symm)));clear ho3 hg3)
  |(at_mapUpdate;refine wpList_mapUpdate_own _ rfl _ _ _ 186 rfl 3 187 lP Tryz.underlying186 unitElem b2 n E rfl HP3.out (by unfold maxLen;omega) _ _ _ rfl rfl ae _ [] unitElem_mk ?_;intro w4 U O;have ab:=a8 U;have M:=a8 O;clear U O)
  |go_in)
 go_end0
 refine⟨⟨_,rfl⟩,⟨_,_,⟨HO3.out.kept M.out (fun e=>HLL.out.ne (by simpa using e)),ab.out,HLL.out.ne⟩,ad.out.put (GQ s) (Lc nd) (fun m hm=>(eK.1 hm).2 rfl)⟩,(ac.out.trans (Off.of_grown HG3.out (.inl rfl))).trans (Off.of_grown M.out (.inr rfl))⟩
end
section
open Go.Maps
theorem iW{z:List EN}{s:ByteArray}{n:Int}(h:fF z s=some n):(s,n)∈z:=by
 unfold fF at h;cases hf:z.find? (fun e=>decide (e.1=s)) with
 |none=>rw[hf] at h;cases h
 |some e=>
  rw[hf] at h;have A:=List.find?_some hf;have E:=List.mem_of_find?_eq_some hf;simp at h A;rw[←A,←h];exact E
theorem EU{z:List EN}{s:ByteArray}(h:fF z s=none):∀n,(s,n)∉z:=by
 intro n A;unfold fF at h;simp only[Option.map_eq_none_iff] at h;have:=List.find?_eq_none.1 h _ A;simp at this
theorem lU{z:List EN}(g:LE z){s:ByteArray}{n:Int}:fF z s=some n↔(s,n)∈z:=by
 refine⟨iW,fun h=> ?_⟩;cases e:fF z s with
 |none=>exact absurd h (EU e n)
 |some m=>rw[g.g1 s m n (iW e) h]
theorem Ig{nodes:Int}{E l:List EN}{o:DO}(g:gY E)(h:hZ nodes E o=some l):gY l:=by
 unfold hZ at h;split at h
 ·split at h
  ·next c=>
   simp only[MK] at h;subst h;exact(g.noName _).ins (fun n z=>(eK.1 z).2 rfl) (fun s A=>c.2.2.2.2 _ (eK.1 A).1 rfl)
  ·cases h
 ·split at h
  ·split at h
   ·cases h
   ·next n0 hn0=>
    split at h
    ·simp only[MK] at h;subst h;refine((g.noName _).noName _).ins (fun n z=>(eK.1 z).2 rfl) (fun s A=> ?_);obtain⟨G,_⟩:=eK.1 A;obtain⟨I,J⟩:=eK.1 G;exact J (g.good.g2 s _ n0 I (iW hn0))
    ·cases h
  ·split at h
   ·split at h
    ·cases h
    ·split at h
     ·simp only[MK] at h;subst h;exact g.noName _
     ·cases h
   ·cases h
def rB(w:World)(R:Option (List EN))(e:Ending)(w':World):Prop:=∃r:Bool,e= .returned (.bool r)∧r=R.isSome∧Below w.heap.size w w'
theorem iB{w w':World}{R:Option (List EN)}(h:R=none)(z:Below w.heap.size w w'):rB w R (.returned (.bool false)) w':=⟨false,rfl,by rw[h];rfl,z⟩
theorem tG{w w':World}{R:Option (List EN)}{l:List EN}(h:R=some l)(z:Below w.heap.size w w'):rB w R (.returned (.bool true)) w':=⟨true,rfl,by rw[h];rfl,z⟩
theorem Cu(b1 b2 n:Nat)(E:List EN)(I:Int)(nm z:ByteArray)(nd nodes:Int)(w:World)(am:nm.size≤1048576)(aq:z.size≤1048576)(hw:(Lit.int .i64 nd).wf=true)(hL:fM w b1 b2 n E)(g:gY E):
  Calls Tryz.prog 133 #[kE b1 b2,.agg #[.int .i64 I,.string nm,.string z,.int .i64 nd],.int .i64 nodes] w (rB w (hZ nodes E (I,nm,z,nd))):=by
 have ao:=Lg nd hw;have hA:Below w.heap.size w ((w.alloc (.cells #[.map (some b1),.map (some b2)] 191)).alloc (.cells #[.int .i64 I,.string nm,.string z,.int .i64 nd] 95)):=((MJ _ _).alloc (MH _) _).alloc (by simp) _;have al:b1<w.heap.size∧b2<w.heap.size:=(by obtain⟨D1,D2,V,_⟩:=hL;exact⟨V.o1.lt,V.o2.lt⟩);have ah:fM ((w.alloc (.cells #[.map (some b1),.map (some b2)] 191)).alloc (.cells #[.int .i64 I,.string nm,.string z,.int .i64 nd] 95)) b1 b2 n E:=by
  obtain⟨D1,D2,V,hr⟩:=hL;exact⟨D1,D2,V.below hA al.1 al.2,hr⟩
 have hz:((w.alloc (.cells #[.map (some b1),.map (some b2)] 191)).alloc (.cells #[.int .i64 I,.string nm,.string z,.int .i64 nd] 95)).heap.size=w.heap.size+2:=(by simp);have L0:dZ ((w.alloc (.cells #[.map (some b1),.map (some b2)] 191)).alloc (.cells #[.int .i64 I,.string nm,.string z,.int .i64 nd] 95)) w.heap.size #[.map (some b1),.map (some b2)] 191:=dZ.below (B:=w.heap.size+1) (dZ.new w _ _) ((MJ _ _).alloc (by simp) _) (by omega);have U:=dZ.new (w.alloc (.cells #[.map (some b1),.map (some b2)] 191)) #[.int .i64 I,.string nm,.string z,.int .i64 nd] 95;rw[show(w.alloc (.cells #[.map (some b1),.map (some b2)] 191)).heap.size=w.heap.size+1 from World.size_alloc ..] at U;unfold kE;go_enter Tryz.func133,Tryz.ntmps133;go_upto_region 1 with fail;generalize (w.alloc (.cells #[.map (some b1),.map (some b2)] 191)).alloc (.cells #[.int .i64 I,.string nm,.string z,.int .i64 nd] 95)=W at hA ah hz L0 U⊢;obtain⟨q0,q1⟩:=L0.c2;obtain⟨p0,p1,p2,p3⟩:=U.c4;have Y:=a8 (fun s (hs:s.size≤1048576)=>GI b1 b2 n E s W hs ah);obtain⟨D1,D2,V,hr⟩:=ah;have ae:=a8 (hr.r3 nd);have HL:=a8 V;have HA:=a8 hA;have ad:=a8 U;have HG:=a8 g;clear hA V hr L0 U hL g;by_cases k1:I=1
 ·subst k1;have hR:=Lo nodes E nm z nd;have N:=a8 hR;clear hR Y;generalize ar:Maps.has D2 (kN nd)=tw at ae;go_wp2_with (at_lookup;refine wpList_lookup_own_unit _ rfl _ _ 186 rfl 3 187 lP Tryz.underlying186 (mY _) b2 n D2 rfl HL.out.o2 _ _ rfl ao ?_)
  refine(j6 nm _ (by omega)).mono ?_;rintro e Q ⟨rfl,O⟩;have ai:Below W.heap.size W Q:=(nAl W _).trans (O.mono (by simp));have M:=ad.out.below ai (by omega);obtain⟨-,-,t2,t3⟩:=M.c4;have J:=bTr HA ai;clear O ai M q0 q1 p0 p1 p2 p3;by_cases R:eO nm=true
  ·rw[R];by_cases G:z.toList=[]
   ·have ag:(z.toList==[])=true:=(by simpa using G);by_cases K:0≤nd
    ·by_cases c4:nd<nodes
     ·cases tw with
      |true=>
       have A:=a8 (show hZ nodes E (1,nm,z,nd)=none by
        rw[N.out,if_neg];intro h;obtain⟨s,hs⟩:=ae.out.1 rfl;exact h.2.2.2.2 _ hs rfl)
       go_wp2;go_ret;exact iB A.out J.out
      |false=>
       have A:=a8 (show hZ nodes E (1,nm,z,nd)=some (jI (noName E nm) nm nd) by
        rw[N.out,if_pos ⟨R,G,K,c4,fun e he e2=>by
         have:=ae.out.2 ⟨e.1,by rw[←e2];exact he⟩;cases this⟩])
       go_wp2;go_ret;exact tG A.out J.out
     ·have A:=a8 (N.out.trans (if_neg (fun h=>c4 h.2.2.2.1)));go_wp2;go_ret;exact iB A.out J.out
    ·have A:=a8 (N.out.trans (if_neg (fun h=>K h.2.2.1)));go_wp2;go_ret;exact iB A.out J.out
   ·have ag:(z.toList==[])=false:=(by simpa using G);have A:=a8 (N.out.trans (if_neg (fun h=>G h.2.1)));go_wp2;go_ret;exact iB A.out J.out
  ·have af:eO nm=false:=(by simpa using R);rw[af];have A:=a8 (N.out.trans (if_neg (fun h=>R h.1)));go_wp2;go_ret;exact iB A.out J.out
 ·have au:(I==1)=false:=(by simpa using k1);by_cases k4:I=4
  ·subst k4;have N:=a8 (Lp nodes E nm z nd);go_wp2_with fail;refine(Y.out nm am).mono ?_;rintro e Q ⟨⟨r,rfl,aa⟩,O⟩;have M:=ad.out.below O (by omega);obtain⟨-,t1,t2,t3⟩:=M.c4;have J:=bTr HA O;have an:=a8 M;have ap:=O.size;have Z:=a8 aa;clear O M q0 q1 p0 p1 p2 p3 aa Y;cases r with
   |false=>
    have A:=a8 (show hZ nodes E (4,nm,z,nd)=none by
     rw[N.out];cases e:fF E nm with
     |none=>rfl
     |some m=>exact absurd (Z.out.2 ⟨m,iW e⟩) (by simp))
    go_wp2;go_ret;exact iB A.out J.out
   |true=>
    obtain⟨m,hm⟩:=Z.out.1 rfl;have A:=a8 (show hZ nodes E (4,nm,z,nd)=if eO z=true∧z≠nm∧nd=0 then some (jI (noName (noName E nm) z) z m) else none by rw[N.out,(lU HG.out.good).2 hm]);clear hm;go_wp2_with fail;refine(j6 z Q (by omega)).mono ?_;rintro e w3 ⟨rfl,aj⟩;have ac:=an.out.below aj (by omega);obtain⟨-,s1,s2,s3⟩:=ac.c4;have ab:=bTr J aj;clear aj ac t1 t2 t3;by_cases R:eO z=true
    ·rw[R];by_cases G:z=nm
     ·have hq:=jg G;have L:=a8 (A.out.trans (if_neg (fun h=>h.2.1 G)));clear G;go_wp2;go_ret;exact iB L.out ab.out
     ·have hq:=jh G;by_cases K:nd=0
      ·have L:=a8 (A.out.trans (if_pos ⟨R,G,K⟩));have ak:(nd==0)=true:=(by simpa using K);clear G K;go_wp2;go_ret;exact tG L.out ab.out
      ·have L:=a8 (A.out.trans (if_neg (fun h=>K h.2.2)));have ak:(nd==0)=false:=(by simpa using K);clear G;go_wp2;go_ret;exact iB L.out ab.out
    ·have af:eO z=false:=(by simpa using R);rw[af];have L:=a8 (A.out.trans (if_neg (fun h=>R h.1)));go_wp2;go_ret;exact iB L.out ab.out
  ·have av:(I==4)=false:=(by simpa using k4);by_cases k5:I=5
   ·subst k5;have N:=a8 (Lq nodes E nm z nd);go_wp2_with fail;refine(Y.out nm am).mono ?_;rintro e Q ⟨⟨r,rfl,aa⟩,O⟩;have M:=ad.out.below O (by omega);obtain⟨-,-,t2,t3⟩:=M.c4;have J:=bTr HA O;have Z:=a8 aa;clear O M q0 q1 p0 p1 p2 p3 aa Y;cases r with
    |false=>
     have A:=a8 (show hZ nodes E (5,nm,z,nd)=none by
      rw[N.out];cases e:fF E nm with
      |none=>rfl
      |some m=>exact absurd (Z.out.2 ⟨m,iW e⟩) (by simp))
     go_wp2;go_ret;exact iB A.out J.out
    |true=>
     obtain⟨m,hm⟩:=Z.out.1 rfl;have A:=a8 (show hZ nodes E (5,nm,z,nd)=if z.toList=[]∧nd=0 then some (noName E nm) else none by rw[N.out,(lU HG.out.good).2 hm]);clear hm;by_cases G:z.toList=[]
     ·have ag:(z.toList==[])=true:=(by simpa using G);by_cases K:nd=0
      ·have L:=a8 (A.out.trans (if_pos ⟨G,K⟩));have ak:(nd==0)=true:=(by simpa using K);clear K;go_wp2;go_ret;exact tG L.out J.out
      ·have L:=a8 (A.out.trans (if_neg (fun h=>K h.2)));have ak:(nd==0)=false:=(by simpa using K);go_wp2;go_ret;exact iB L.out J.out
     ·have ag:(z.toList==[])=false:=(by simpa using G);have L:=a8 (A.out.trans (if_neg (fun h=>G h.1)));go_wp2;go_ret;exact iB L.out J.out
   ·have aw:(I==5)=false:=(by simpa using k5);have A:=a8 (show hZ nodes E (I,nm,z,nd)=none by unfold hZ;simp only;rw[if_neg k1,if_neg k4,if_neg k5]);go_wp2;go_ret;exact iB A.out HA.out
end
section
open Go.Maps
def wm(w:World)(b1 b2 n:Nat)(es:List EN):Option (List EN)→Ending→World→Prop
 |none,e,w'=>e= .returned (.bool false)∧fM w' b1 b2 (n+1) es∧Off b1 b2 w w'
 |some l,e,w'=>e= .returned (.bool true)∧fM w' b1 b2 (n+1) l∧Off b1 b2 w w'
theorem Lt{w w':World}{b1 b2 n:Nat}{z:List EN}{R:Option (List EN)}(h:R=none)(A:fM w' b1 b2 (n+1) z)(E:Off b1 b2 w w'):wm w b1 b2 n z R (.returned (.bool false)) w':=by subst h;exact⟨rfl,A,E⟩
theorem xK{w w':World}{b1 b2 n:Nat}{z l:List EN}{R:Option (List EN)}(h:R=some l)(A:fM w' b1 b2 (n+1) l)(E:Off b1 b2 w w'):wm w b1 b2 n z R (.returned (.bool true)) w':=by subst h;exact⟨rfl,A,E⟩
theorem fM.below{B:Nat}{w w':World}{b1 b2 n:Nat}{z:List EN}(h:fM w b1 b2 n z)(J:Below B w w')(G:b1<B)(I:b2<B):fM w' b1 b2 n z:=by
 obtain⟨A,E,K,L⟩:=h;exact⟨A,E,K.below J G I,L⟩
theorem fM.mono{w:World}{b1 b2 n m:Nat}{z:List EN}(h:fM w b1 b2 n z)(I:n≤m):fM w b1 b2 m z:=by
 obtain⟨A,E,G,J⟩:=h;exact⟨A,E,G.mono I,J⟩
theorem fM.lt{w:World}{b1 b2 n:Nat}{A:List EN}(h:fM w b1 b2 n A):b1<w.heap.size∧b2<w.heap.size:=by
 obtain⟨E,G,z,_⟩:=h;exact⟨z.o1.lt,z.o2.lt⟩
theorem Mi{nodes:Int}{z:List EN}{nm A:ByteArray}{nd:Int}(h:(hZ nodes z (1,nm,A,nd)).isSome=true):hZ nodes z (1,nm,A,nd)=some (jI (noName z nm) nm nd):=by
 rw[Lo] at h⊢;split at h
 ·next c=>rw[if_pos c]
 ·cases h
theorem Mj{nodes:Int}{z:List EN}{nm A:ByteArray}{nd:Int}(h:(hZ nodes z (4,nm,A,nd)).isSome=true):∃m,fF z nm=some m∧hZ nodes z (4,nm,A,nd)=some (jI (noName (noName z nm) A) A m):=by
 rw[Lp] at h⊢;cases e:fF z nm with
 |none=>rw[e] at h;cases h
 |some m=>
  rw[e] at h;simp only at h⊢;split at h
  ·next c=>exact⟨m,rfl,by rw[if_pos c]⟩
  ·cases h
theorem Mk{nodes:Int}{z:List EN}{nm A:ByteArray}{nd:Int}(h:(hZ nodes z (5,nm,A,nd)).isSome=true):hZ nodes z (5,nm,A,nd)=some (noName z nm):=by
 rw[Lq] at h⊢;cases e:fF z nm with
 |none=>rw[e] at h;cases h
 |some m=>
  rw[e] at h;simp only at h⊢;split at h
  ·next c=>rw[if_pos c]
  ·cases h
theorem Kf{nodes:Int}{I:List EN}{z:Int}{nm J:ByteArray}{nd:Int}(h:(hZ nodes I (z,nm,J,nd)).isSome=true):z=1∨z=4∨z=5:=by
 unfold hZ at h;simp only at h;by_cases A:z=1
 ·exact .inl A
 ·by_cases E:z=4
  ·exact .inr (.inl E)
  ·by_cases G:z=5
   ·exact .inr (.inr G)
   ·rw[if_neg A,if_neg E,if_neg G] at h;cases h
theorem Ah(b1 b2 n:Nat)(A:List EN)(E:Int)(nm z:ByteArray)(nd nodes:Int)(w:World)(ab:nm.size≤1048576)(aj:z.size≤1048576)(hn:n≤1048570)(hw:(Lit.int .i64 nd).wf=true)(hL:fM w b1 b2 n A)(g:gY A):
  Calls Tryz.prog 104 #[kE b1 b2,.agg #[.int .i64 E,.string nm,.string z,.int .i64 nd],.int .i64 nodes] w (wm w b1 b2 n A (hZ nodes A (E,nm,z,nd))):=by
 have hA:Below w.heap.size w ((w.alloc (.cells #[.map (some b1),.map (some b2)] 191)).alloc (.cells #[.int .i64 E,.string nm,.string z,.int .i64 nd] 95)):=((MJ _ _).alloc (MH _) _).alloc (by simp) _;obtain⟨am,an⟩:=hL.lt;have aa:=hL.below hA am an;have hz:((w.alloc (.cells #[.map (some b1),.map (some b2)] 191)).alloc (.cells #[.int .i64 E,.string nm,.string z,.int .i64 nd] 95)).heap.size=w.heap.size+2:=(by simp);have L0:dZ ((w.alloc (.cells #[.map (some b1),.map (some b2)] 191)).alloc (.cells #[.int .i64 E,.string nm,.string z,.int .i64 nd] 95)) w.heap.size #[.map (some b1),.map (some b2)] 191:=dZ.below (B:=w.heap.size+1) (dZ.new w _ _) ((MJ _ _).alloc (by simp) _) (by omega);have L1:=dZ.new (w.alloc (.cells #[.map (some b1),.map (some b2)] 191)) #[.int .i64 E,.string nm,.string z,.int .i64 nd] 95;rw[show(w.alloc (.cells #[.map (some b1),.map (some b2)] 191)).heap.size=w.heap.size+1 from World.size_alloc ..] at L1;unfold kE;go_enter Tryz.func104,Tryz.ntmps104;go_wp2_with fail;generalize (w.alloc (.cells #[.map (some b1),.map (some b2)] 191)).alloc (.cells #[.int .i64 E,.string nm,.string z,.int .i64 nd] 95)=W at hA aa hz L0 L1⊢;refine(Cu b1 b2 n A E nm z nd nodes W ab aj hw aa g).mono ?_;rintro e I ⟨r,rfl,Y,V⟩;have af:=aa.below V (by omega) (by omega);have K0:=L0.below V (by omega);have O:=L1.below V (by omega);have ai:Off b1 b2 w I:=(Off.of_below hA).trans (Off.of_below V);obtain⟨q0,q1⟩:=K0.c2;obtain⟨p0,p1,p2,p3⟩:=O.c4;have HG:=a8 g;have U:=a8 af;have Z:=a8 ai;have ap:=a8 K0;have aq:=a8 O;clear hA aa L0 L1 hL g V af ai K0 O;cases r with
 |false=>
  have N:=a8 (show hZ nodes A (E,nm,z,nd)=none by
   cases e:hZ nodes A (E,nm,z,nd) with
   |none=>rfl
   |some l=>rw[e] at Y;cases Y)
  clear Y;go_wp2;go_ret;exact Lt N.out (U.out.mono (by omega)) Z.out
 |true=>
  have K:=Y.symm;clear Y;rcases Kf K with k|k|k
  ·subst k;have N:=a8 (Mi K);have L:=a8 (pF b1 b2 n A nm nd I ab hw (by omega) U.out HG.out);unfold kE at L;clear K;go_wp2_with fail;refine(L.out).mono ?_;rintro e Q ⟨⟨v,rfl⟩,J,G⟩;have ac:=a8 J;have R:=a8 (Z.out.trans G);clear J G L;go_wp2;go_ret;exact xK N.out ac.out R.out
  ·subst k;obtain⟨m,hm,ae⟩:=Mj K;have N:=a8 ae;have HM:=a8 (iW hm);clear K hm ae;have hk:=GW nm (by unfold maxLen;omega);have M:=a8 (pK b1 b2 n A nm I ab U.out HG.out);unfold kE at M;obtain⟨D1,D2,hl,hr⟩:=U.out;have ak:=a8 (hr.r1 nm m HM.out).2;have au:=a8 hl.o1;clear hl hr;go_wp2_with (at_lookup;refine wpList_lookup_own_int _ rfl _ _ 189 rfl 9 3 .i64 lQ Tryz.underlying189 Tryz.underlying3 (pC _) b1 n D1 rfl au.out _ _ rfl hk ?_;intro c ag av;have ao:=a8 (show m=c by have h:=ak.out;rw[ag] at h;simp at h;exact h.symm);clear ag)
   refine(M.out).mono ?_;rintro e Q ⟨⟨v,rfl⟩,J,G⟩;have J0:=ap.out.off G (by omega) (by omega);have J1:=aq.out.off G (by omega) (by omega);obtain⟨s0,s1⟩:=J0.c2;obtain⟨-,-,s2⟩:=J1.c3;have L:=a8 (pF b1 b2 n (noName A nm) z c Q aj av (by omega) J (HG.out.noName nm));unfold kE at L;have R:=a8 (Z.out.trans G);clear J G M J0 J1 q0 q1 p0 p1 p2 p3;go_wp2_with fail;refine(L.out).mono ?_;rintro e w4 ⟨⟨v4,rfl⟩,ah,ad⟩;have ar:=a8 ah;have al:=a8 (R.out.trans ad);clear ah ad L;go_wp2;go_ret;exact xK (by rw[N.out,ao.out]) ar.out al.out
  ·subst k;have N:=a8 (Mk K);have M:=a8 (pK b1 b2 n A nm I ab U.out HG.out);unfold kE at M;clear K;go_wp2_with fail;refine(M.out).mono ?_;rintro e Q ⟨⟨v,rfl⟩,J,G⟩;have ac:=a8 (J.mono (show n≤n+1 by omega));have R:=a8 (Z.out.trans G);clear J G M;go_wp2;go_ret;exact xK N.out ac.out R.out
end
section
open Go.Maps
theorem kt.mem{G I:DU}{l E:List EN}(h:kt G I l)(A:∀s n,(s,n)∈l↔(s,n)∈E)(J:l.length=E.length):kt G I E:=
 ⟨h.m1,h.ti,h.sz.trans J,h.m2,fun s n K=>h.r1 s n ((A s n).2 K),fun s z=>by obtain⟨n,L⟩:=h.r2 s z;exact⟨n,(A s n).1 L⟩,fun n=>(h.r3 n).trans ⟨fun⟨s,z⟩=>⟨s,(A s n).1 z⟩,fun⟨s,z⟩=>⟨s,(A s n).2 z⟩⟩⟩
theorem fM.mem{w:World}{b1 b2 n:Nat}{l z:List EN}(h:fM w b1 b2 n l)(I:∀s n,(s,n)∈l↔(s,n)∈z)(A:l.length=z.length):fM w b1 b2 n z:=by
 obtain⟨E,G,J,K⟩:=h;exact⟨E,G,J,K.mem I A⟩
theorem gY.take{z:List EN}(h:gY z)(k:Nat):gY (z.take k):=List.Pairwise.sublist (List.take_sublist k z) h
theorem Fo{z:List EN}(h:gY z)(k:Nat)(G:k<z.length):∀s n,(s,n)∈jI (noName (z.take k) z[k].1) z[k].1 z[k].2↔(s,n)∈z.take (k+1):=by
 intro s n;rw[i7,eK,MP G,Nb,M9];constructor
 ·rintro(⟨rfl,rfl⟩|⟨A,_⟩)
  ·exact .inr rfl
  ·exact .inl A
 ·rintro(A|A)
  ·refine .inr ⟨A,fun e=> ?_⟩;obtain⟨i,I,E⟩:=Nd A;rw[MZ] at I;rw[List.getElem_take] at E;have:=(M8.1 h i k (by omega) G (by omega)).1;rw[E] at this;exact this e
  ·left;rw[←A];exact⟨rfl,rfl⟩
theorem IP{z:List EN}(h:gY z)(k:Nat)(G:k<z.length):(jI (noName (z.take k) z[k].1) z[k].1 z[k].2).length=(z.take (k+1)).length:=by
 rw[zi,mH,MZ,MZ]
 ·omega
 ·intro n I;obtain⟨i,E,A⟩:=Nd I;rw[MZ] at E;rw[List.getElem_take] at A;have:=(M8.1 h i k (by omega) G (by omega)).1;rw[A] at this;exact this rfl
theorem J8{fn:Func}{tmps:Array Value}{p:Tmp}(B:Nat)(W:World)(x y:Value)(A:fn.results= #[.cell p 191])(E:tmps.getD p undef= .pointer (some ⟨B,0,none⟩))(z:dZ W B #[x,y] 191):
  (results fn tmps).run Tryz.prog W= .ok (.agg #[x,y]) W:=
 results_cell_row (P:=Tryz.prog) A _ _ B _ _ _ _ E z Tryz.underlying191 rfl (by kernel_rfl)
theorem fM.setCell{w:World}{b1 b2 n:Nat}{A:List EN}(h:fM w b1 b2 n A){p:Addr}(I:b1≠p.block)(J:b2≠p.block)(u:Value):fM (w.setCell p u) b1 b2 n A:=by
 obtain⟨E,G,z,K⟩:=h;exact⟨E,G,⟨z.o1.setCell I u,z.o2.setCell J u,z.ne⟩,K⟩
theorem E6:kt (.map []) (.map []) []:=⟨isMap_empty,tidy_empty,rfl,isMap_empty,(fun s n h=>by cases h),(fun s h=>by cases h),fun n=>⟨(fun h=>by cases h),(fun⟨s,h⟩=>by cases h)⟩⟩
def sF(w:World):World:=(((w.alloc (.cells #[.map none,.map none] 191)).alloc (.map #[] 0)).alloc (.map #[] 0)).alloc (.cells #[.map (some (w.heap.size+1)),.map (some (w.heap.size+1+1))] 191)
theorem BM(w:World):Below w.heap.size w (sF w):=(((MJ _ _).alloc (MH _) _).alloc (by simp) _).alloc (by simp;omega) _|>.alloc (by simp;omega) _
theorem JF(w:World):dZ (sF w) w.heap.size #[.map none,.map none] 191:=by
 have z:=dZ.new w #[.map none,.map none] 191;have A:Below (w.heap.size+1) (w.alloc (.cells #[.map none,.map none] 191)) (sF w):=(((MJ _ _).alloc (by simp) _).alloc (by simp) _).alloc (by simp) _;exact z.below A (by omega)
theorem JG(w:World):dZ (sF w) (w.heap.size+1+1+1) #[.map (some (w.heap.size+1)),.map (some (w.heap.size+1+1))] 191:=by
 have h:=dZ.new (((w.alloc (.cells #[.map none,.map none] 191)).alloc (.map #[] 0)).alloc (.map #[] 0)) #[.map (some (w.heap.size+1)),.map (some (w.heap.size+1+1))] 191;have z:(((w.alloc (.cells #[.map none,.map none] 191)).alloc (.map #[] 0)).alloc (.map #[] 0)).heap.size=w.heap.size+1+1+1:=(by simp);rw[z] at h;exact h
theorem G7(w:World):fM (sF w) (w.heap.size+1) (w.heap.size+1+1) 0 []:=by
 have z:=World.ownsMap_made (H:=Unit) (w.alloc (.cells #[.map none,.map none] 191)) Tryz.prog 9 (plainElem Tryz.prog 3);have A:=World.ownsMap_made (H:=Unit) ((w.alloc (.cells #[.map none,.map none] 191)).alloc (.map #[] 0)) Tryz.prog 3 unitElem;rw[show(w.alloc (.cells #[.map none,.map none] 191)).heap.size=w.heap.size+1 from World.size_alloc ..] at z;rw[show((w.alloc (.cells #[.map none,.map none] 191)).alloc (.map #[] 0)).heap.size=w.heap.size+1+1 from by simp] at A;exact⟨_,_,⟨(z.alloc _).alloc _,A.alloc _,by omega⟩,E6⟩
theorem uo(a:Option Addr)(cap:Nat)(z:List EN)(w:World)(hn:z.length≤1048570)(hs:∀e∈z,e.1.size≤1048576)(hw:∀e∈z,(Lit.int .i64 e.2).wf=true)(aa:gY z)(hr:fi w a z):
  Calls Tryz.prog 103 #[.slice a z.length cap] w fun e w'=>∃b1 b2,e= .returned (kE b1 b2)∧w.heap.size≤b1∧w.heap.size≤b2∧fM w' b1 b2 z.length z∧Below w.heap.size w w':=by
 have al:= @run_makeMap Tryz.prog;have HS:=a8 hs;have HW:=a8 hw;have O:=a8 aa;have HR:=a8 hr;clear hs hw aa hr;go_enter Tryz.func103,Tryz.ntmps103;go_wp2;clear al;have Z:=JF w;have m3:=JG w;have ml:=G7 w;have mb:=BM w;change Code.wp _ _ _ _ (sF w);generalize sF w=W at Z m3 ml mb⊢;go_loopw [5,11] (fun _ i wr=>∃k:Nat,k≤z.length∧i= .int .i64 (k:Int)∧fM wr (w.heap.size+1) (w.heap.size+1+1) k (z.take k)∧dZ wr w.heap.size #[.map none,.map none] 191∧dZ wr (w.heap.size+1+1+1) #[.map (some (w.heap.size+1)),.map (some (w.heap.size+1+1))] 191∧Below w.heap.size w wr) (fun _ i _=>z.length-(intOf i).toNat)
 case atStart=>exact⟨0,MQ _,rfl,by rw[List.take_zero];exact ml,Z,m3,mb⟩
 case round=>
  obtain⟨k,hk,rfl,G,A,I,E⟩:=hrel;clear Z m3 ml mb;obtain⟨q0,q1⟩:=I.c2;have ao:=I.lt;by_cases K:k<z.length
  ·obtain⟨b,ar,rfl,hc⟩:=(HR.out.below E) (by omega)
   obtain⟨c0,c1⟩:=hc k K;have ad:=HS.out _ (MO K);have ae:=HW.out _ (MO K);have V:=a8 (Fo O.out k K);have U:=a8 (IP O.out k K);generalize z[k].1=L at c0 ad V U;generalize z[k].2=M at c1 ae V U;have J:=nAl wr (.cells #[.string L,.int .i64 M] 93);have ac:=G.below J G.lt.1 G.lt.2;have Y:=a8 (pF (w.heap.size+1) (w.heap.size+1+1) k (z.take k) L M _ ad ae (by omega) ac (O.out.take k));unfold kE at Y;have Q:=a8 (A.below J A.lt);have R:=a8 (I.below J I.lt);have af:=a8 (E.trans (J.mono E.size));have ap:=a8 (dZ.new wr #[.string L,.int .i64 M] 93);have aq:=E.size;obtain⟨am,an⟩:=R.out.c2;clear hc G A I E J ac;go_wp2_with fail;refine(Y.out).mono ?_;rintro e w6 ⟨⟨v,rfl⟩,ab,N⟩;have ah:=a8 (ab.mem V.out U.out);have ai:=a8 (Q.out.off N (by omega) (by omega));have aj:=a8 (R.out.off N (by omega) (by omega));have ak:=a8 (af.out.trans (N.below (B:=w.heap.size) (by omega) (by omega) (by simp;omega)));clear ab N Y am an q0 q1;go_wp2;go_roundw
   case rel=>exact⟨k+1,by omega,by go_num,ah.out,ai.out,aj.out,ak.out⟩
   case measure=>simp[intOf];omega
  ·obtain rfl:k=z.length:=(by omega);rw[NE] at G;have f0:wr.frozen? ⟨w.heap.size,0,none⟩=false:=frozen_of_row wr w.heap.size 0 _ _ A;have f1:wr.frozen? ⟨w.heap.size,1,none⟩=false:=frozen_of_row wr w.heap.size 1 _ _ A;obtain⟨z0,z1⟩:=A.c2;have HL:=a8 G;have Q:=a8 A;have ag:=a8 E;clear G A I E;go_wp2;exact bodyPost_ret (J8 w.heap.size _ _ _ rfl rfl ((Q.out.set 0 _).set 1 _)) rfl ⟨w.heap.size+1,w.heap.size+1+1,rfl,by omega,by omega,(HL.out.setCell (p:=⟨w.heap.size,0,none⟩) (by simp) (by simp;omega) _).setCell (p:=⟨w.heap.size,1,none⟩) (by simp) (by simp;omega) _,(ag.out.setCell (p:=⟨w.heap.size,0,none⟩) (MH _) _).setCell (p:=⟨w.heap.size,1,none⟩) (MH _) _⟩
end
def szS:Value→Nat
 | .string t=>t.size
 |_=>0
theorem D6{t a c:List UInt8}{b:UInt8}(h:oC t b a c ok):(ok=true→eR b t=a::eR b c∧c.length+1≤t.length)∧(ok=false→eR b t=[a]):=by
 rcases h with⟨A,z,E⟩|⟨A,z,E,G⟩
 ·refine⟨fun _=>⟨?_,?_⟩,(fun h=>by rw[A] at h;cases h)⟩
  ·rw[z,oy E]
  ·rw[z];simp
 ·refine⟨(fun h=>by rw[A] at h;cases h),fun _=> ?_⟩;rw[E,oz z]
theorem mG(a:Option Addr)(cap:Nat)(l:List Nat)(w:World)(hs:l.length≤1048575)(hr:dW w a l):
  Calls Tryz.prog 61 #[.slice a l.length cap] w fun e w'=>∃v ws,e= .returned v∧gZ w' w.heap.size v ws∧ws.map (·.data.toList)=eR 32 (fC l).data.toList∧Below w.heap.size w w':=by
 have V:=fH w a cap l hr;have ab:(fC l).size≤1048575:=(by rw[iY];exact hs);clear hr;generalize fC l=s at V ab⊢;go_enter Tryz.func61,Tryz.ntmps61;go_wp2;clear V;go_loopw [3,4,5,6,7] (fun ov N _ _ _ wr=>∃(t:ByteArray) (ws:List ByteArray),N= .string t∧gZ wr w.heap.size ov ws∧ws.length+t.size≤s.size∧ws.map (·.data.toList)++eR 32 t.data.toList=eR 32 s.data.toList∧Below w.heap.size w wr) (fun _ N _ _ _ _=>szS N)
 case atStart=>exact⟨s,[],rfl,gZ.nil _ _,by simp,by simp,MJ _ _⟩
 case round=>
  obtain⟨t,ws,rfl,ho,hz,Y,hb⟩:=hrel;have Z:=a8 ho;have U:=a8 Y;have HB:=a8 hb;clear ho Y hb;go_wp2_with fail;refine(pU t 32 wr (by omega)).mono ?_;rintro e w2 ⟨x,y,ok,rfl,hcut,E,rfl⟩;have L:=a8 (D6 hcut);have M:=a8 (below_drewN HB.out E);have G:=a8 (show gZ (wr.drewN E) w.heap.size u3 ws from Z.out);clear hcut;have J:((wr.drewN E).alloc (.cells #[.string x] 9)).cell? ⟨wr.heap.size,0,none⟩=some (.string x):=by
   have:=cell_of_row _ _ 0 _ _ _ (heap_alloc_new (wr.drewN E) (.cells #[.string x] 9));exact this
  generalize hW:wr.drewN E=W at M G J;have af:wr.heap.size=W.heap.size:=(by rw[←hW];rfl);rw[af] at J;have Q:=a8 J;have z:=a8 (M.out.alloc M.out.size (.cells #[.string x] 9));have R:=a8 (show gZ (W.alloc (.cells #[.string x] 9)) w.heap.size u3 ws from World.ownsRow.alloc G.out _);have O:=a8 (fun j hj=>(World.ownsRow.lt G.out j hj).1);clear J Z G;cases ok with
  |false=>
   have A:=a8 (L.out.2 rfl);clear L;go_wp2_with (first
    |(at_builtin;refine iL _ rfl (.tmp 16) (.tmp 18) rfl w.heap.size u3 ws x W.heap.size 1 rfl rfl ?_ ?_ ?_ ?_ ?_;(exact R.out);(exact Q.out);(omega);(exact z.out.size);intro v4 w4 K I)
    |go_in)
   go_ret;exact⟨v4,ws++[x],rfl,K,by rw[MS,←U.out,A.out];rfl,z.out.grown I z.out.size O.out⟩
  |true=>
   have A:=a8 (L.out.1 rfl);clear L;have ah:y.data.toList.length=y.size:=rfl;have ag:t.data.toList.length=t.size:=rfl;have aa:=A.out.2;have HZ:=a8 (show(ws++[x]).length+y.size≤s.size by rw[MT];simp;omega);have HE:=a8 (show(ws++[x]).map (·.data.toList)++eR 32 y.data.toList=eR 32 s.data.toList by rw[←U.out,A.out.1,MS];simp);have ae:y.size<t.size:=(by omega);clear aa ah ag A;go_wp2_with (first
    |(at_builtin;refine iL _ rfl (.tmp 16) (.tmp 18) rfl w.heap.size u3 ws x W.heap.size 1 rfl rfl ?_ ?_ ?_ ?_ ?_;(exact R.out);(exact Q.out);(omega);(exact z.out.size);intro v4 w4 K I;have ad:=a8 K;have ac:=a8 I;clear K I)
    |go_in)
   go_roundw
   case rel=>exact⟨y,ws++[x],rfl,ad.out,HZ.out,HE.out,z.out.grown ac.out z.out.size O.out⟩
   case measure=>exact ae
end Go.Proofs.YtpdbolihakojcaaGreatDoor
