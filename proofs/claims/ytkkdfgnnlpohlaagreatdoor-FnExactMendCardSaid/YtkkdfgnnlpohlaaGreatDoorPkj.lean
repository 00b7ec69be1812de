import Derived.Test.YtkkdfgnnlpohlaaGreatDoorPkf
import Derived.Test.YtkkdfgnnlpohlaaGreatDoorPke
import Derived.Deep.Cut
namespace Go.Proofs.YtkkdfgnnlpohlaaGreatDoor
set_option maxRecDepth 20000
set_option linter.unusedVariables false
set_option linter.unusedSimpArgs false
set_option maxHeartbeats 4000000
open Go.RowKit Go.Proofs.Tryz
variable {W X Y w w' w0 wr : World} {A B at_ b b2 base' c cap e f g go gs hi i j k lo m n s u val z : Nat} {E G I J K L M N O u0 u1 u2 v0 v1 v2 v3 v4 v5 v6 x y : Value} {o : Oper} {Q : Exit → Act → World → Prop} {cs tmps : Array Value} {t : TypeId} {p : Addr} {l : List Nat} {bvs xs : List Value} {a : List UInt8} {first ok : Bool}
section
open Go.Maps
def kS(s:BA):Lit:= .string s.data.toList
def kN(n:Int):Lit:= .int .i64 n
theorem kw:Keyed prog 9:=string_keyed underlying9
theorem qD(w:World):(zeroValue 3).run prog w= .ok (.int .i64 0) w:=by kernel_rfl
theorem AJ(s:BA)(h:s.size≤maxLen):keyOf prog 9 (.string s)=some (kS s):=by
 rw[keyOf_string underlying9];simp[mapKey,underlying9,h,kS]
theorem Ng(n:Int)(h:(Lit.int .i64 n).wf=true):keyOf prog 3 (.int .i64 n)=some (kN n):=keyOf_int_mk underlying3 h
abbrev DU:=DataW Unit
structure Lst(w:World)(b1 b2 n:Nat)(D1 D2:DU):Prop where
 o1:w.ownsMap prog 9 (plainElem prog 3) b1 n D1
 o2:w.ownsMap prog 3 unitElem b2 n D2
 ne:b1≠b2
def lF(b1 b2:Nat):Value:= .agg #[.map (some b1),.map (some b2)]
theorem Lst.below{B:Nat}{w w':World}{b1 b2 n:Nat}{z A:DU}(h:Lst w b1 b2 n z A)(E:Below B w w')(G:b1<B)(I:b2<B):Lst w' b1 b2 n z A:=⟨j7 h.o1 E G,j7 h.o2 E I,h.ne⟩
structure Off(b1 b2:Nat)(w w':World):Prop where
 os:w'.os=w.os
 tape:w'.tape=w.tape
 output:w'.output=w.output
 size:w.heap.size≤w'.heap.size
 block:∀k,k<w.heap.size→k≠b1→k≠b2→w'.heap[k]? =w.heap[k]?
theorem Off.trans{b1 b2:Nat}{a b c:World}(h:Off b1 b2 a b)(k:Off b1 b2 b c):Off b1 b2 a c:=
 ⟨k.os.trans h.os,k.tape.trans h.tape,k.output.trans h.output,O0 h.size k.size,fun j E z A=>(k.block j (Pb E h.size) z A).trans (h.block j E z A)⟩
theorem Off.of_below{b1 b2:Nat}{w w':World}(h:Below w.heap.size w w'):Off b1 b2 w w':=⟨h.os,h.tape,h.output,h.size,fun k z _ _=>h.block k z⟩
theorem Off.of_grown{b1 b2 b:Nat}{w w':World}(h:w.grownBy w' (some b))(z:b=b1∨b=b2):Off b1 b2 w w':=
 ⟨h.os,h.tape,h.output,h.size,fun k A E G=>h.block k A (fun e=>by simp only[OY] at e;rcases z with rfl|rfl<;>omega)⟩
theorem Off.below{b1 b2 B:Nat}{w w':World}(h:Off b1 b2 w w')(z:B≤b1)(A:B≤b2)(E:B≤w.heap.size):Below B w w':=
 ⟨h.os,h.tape,h.output,h.size,fun k G=>h.block k (by omega) (by omega) (by omega)⟩
theorem ed.off{b1 b2 g:Nat}{w w':World}{cs:Array Value}{t:TypeId}(h:ed w g cs t)(E:Off b1 b2 w w')(z:g≠b1)(A:g≠b2):ed w' g cs t:=(E.block g h.lt z A).trans h
def Hj(w:World)(b1 b2 n:Nat)(D1 D2:DU)(s:BA)(e:Ending)(w':World):Prop:=∃v,e= .returned v∧∃D1' D2',Lst w' b1 b2 n D1' D2'∧Off b1 b2 w w'∧
 ((Maps.has D1 (kS s)=false∧D1'=D1∧D2'=D2)∨(Maps.has D1 (kS s)=true∧∃c:Int,D1.atKey (kS s) (.lit (.int .i64 0))= .lit (.int .i64 c)∧D1'=D1.del (kS s)∧D2'=D2.del (kN c)))
theorem Ih(b1 b2 n:Nat)(z D2:DU)(s:BA)(w:World)(hs:s.size≤1048576)(E:Lst w b1 b2 n z D2):
  Calls prog 136 #[lF b1 b2,.string s] w (Hj w b1 b2 n z D2 s):=by
 have J:=AJ s (by unfold maxLen;omega);have I:=nAl w (.cells #[.map (some b1),.map (some b2)] 191);have V:=ed.new w #[.map (some b1),.map (some b2)] 191;have M:=E.below I E.o1.lt E.o2.lt;unfold lF;have U:=a8 I;have HLA:=a8 M;have A:=a8 E;have K:=a8 V;clear I M E V;have aa:=A.o1.lt;have ab:=A.o2.lt;cases hh:Maps.has z (kS s) with
 |false=>
  go_enter func136,ntmps136;go_wp2_with (at_lookup;refine wpList_lookup_own_ok_int _ rfl _ _ 189 rfl 9 3 .i64 kw underlying189 underlying3 (qD _) b1 n z rfl HLA.o1 _ _ rfl J ?_;intro c G R)
  go_end0
  exact⟨_,rfl,z,D2,HLA,Off.of_below U,.inl ⟨hh,rfl,rfl⟩⟩
 |true=>
  have N:∀w3:World,(w.alloc (.cells #[.map (some b1),.map (some b2)] 191)).mapTurned w3 b2→w3.cell? ⟨w.heap.size,0,none⟩=some (.map (some b1)):=fun w3 ht=>by
   have h:ed w3 w.heap.size #[.map (some b1),.map (some b2)] 191:=(ht.grown.block w.heap.size K.lt (fun e=>by simp at e;omega)).trans K.out;exact h.cell 0
  have HMV:=a8 N;have HH:=a8 hh;clear N;go_enter func136,ntmps136;go_wp2_with (first
   |(at_lookup;refine wpList_lookup_own_ok_int _ rfl _ _ 189 rfl 9 3 .i64 kw underlying189 underlying3 (qD _) b1 n z rfl HLA.o1 _ _ rfl J ?_;intro c G R;have Y:=a8 G;have hkc:=Ng c R;clear G)
   |(at_delete;refine wpList_delete_own _ rfl _ _ 188 3 rfl 128 mS underlying188 unitElem b2 n D2 rfl HLA.o2 _ _ rfl hkc ?_;intro w3 ho3 ht3;have HO3:=a8 ho3;have HT3:=a8 ht3;have q0:=HMV.out w3 ht3;have HP3:=a8 (HLA.o1.kept ht3.grown (fun e=>A.ne (by simpa using e)));clear ho3 ht3)
   |(at_delete;refine wpList_delete_own _ rfl _ _ 189 9 rfl 3 kw underlying189 (plainElem prog 3) b1 n z rfl HP3 _ _ rfl J ?_;intro w4 O Q;have Z:=a8 O;have L:=a8 Q;clear O Q))
  go_end0
  refine⟨_,rfl,_,_,⟨Z,HO3.kept L.grown (fun e=>A.ne (by simpa using e.symm)),A.ne⟩,?_,.inr ⟨HH,c,Y,rfl,rfl⟩⟩;exact((Off.of_below U).trans (Off.of_grown HT3.grown (.inr rfl))).trans (Off.of_grown L.grown (.inl rfl))
end
section
open Go.Maps
structure NE(es:List EN):Prop where
 g1:∀s n m,(s,n)∈es→(s,m)∈es→n=m
 g2:∀s t n,(s,n)∈es→(t,n)∈es→s=t
structure lr(D1 D2:DU)(es:List EN):Prop where
 m1:IsMap D1
 ti:Tidy D1
 sz:Maps.size D1=es.length
 m2:IsMap D2
 r1:∀s n,(s,n)∈es→Maps.has D1 (kS s)=true∧D1.atKey (kS s) (.lit (.int .i64 0))= .lit (.int .i64 n)
 r2:∀s,Maps.has D1 (kS s)=true→∃n,(s,n)∈es
 r3:∀n,Maps.has D2 (kN n)=true↔∃s,(s,n)∈es
theorem qU{s t:BA}(h:kS s=kS t):s=t:=by
 unfold kS at h;simp only[Lit.string.injEq] at h;cases s;cases t;simpa using h
theorem yx{n m:Int}(h:kN n=kN m):n=m:=by
 unfold kN at h;simpa using h
theorem eT{z:List EN}{s t:BA}{n:Int}:(t,n)∈noName z s↔(t,n)∈z∧t≠s:=by
 unfold noName;simp
theorem jz{l:List EN}{nm s:BA}{nd n:Int}:(s,n)∈kh l nm nd↔(s=nm∧n=nd)∨(s,n)∈l:=by
 unfold kh;rw[Pj,Pd];constructor
 ·rintro(h|h|h)
  ·exact .inr (Pi h)
  ·exact .inl (by simpa using h)
  ·exact .inr (Pk h)
 ·rintro(⟨rfl,rfl⟩|h)
  ·exact .inr (.inl rfl)
  ·rw[←Pz (iL l nm) l,Pj] at h;rcases h with h|h
   ·exact .inl h
   ·exact .inr (.inr h)
def iy(es:List EN):Prop:=es.Pairwise fun x y=>x.1≠y.1∧x.2≠y.2
theorem iy.good{K:List EN}(h:iy K):NE K:=by
 have G:=Pn.1 h;refine⟨fun s n m I J=> ?_,fun s t n I J=> ?_⟩
 ·obtain⟨i,hi,A⟩:=Pr I;obtain⟨j,E,z⟩:=Pr J;rcases Nat.lt_trichotomy i j with c|c|c
  ·have:=(G i j hi E c).1;rw[A,z] at this;exact OH rfl this
  ·subst c;rw[A] at z;simpa using OL Prod.snd z
  ·have:=(G j i E hi c).1;rw[A,z] at this;exact OH rfl this
 ·obtain⟨i,hi,A⟩:=Pr I;obtain⟨j,E,z⟩:=Pr J;rcases Nat.lt_trichotomy i j with c|c|c
  ·have:=(G i j hi E c).2;rw[A,z] at this;exact OH rfl this
  ·subst c;rw[A] at z;simpa using OL Prod.fst z
  ·have:=(G j i E hi c).2;rw[A,z] at this;exact OH rfl this
theorem nT{z:List EN}{s:BA}(h:∀n,(s,n)∉z):noName z s=z:=by
 unfold noName;rw[List.filter_eq_self];intro e E;simp only[ne_eq,decide_not,Bool.not_eq_eq_eq_not,Bool.not_true,decide_eq_false_iff_not];intro A;exact h e.2 (by rw[←A];exact E)
theorem DN{z:List EN}(h:iy z){s:BA}{n:Int}(E:(s,n)∈z):(noName z s).length+1=z.length:=by
 induction z with
 |nil=>cases E
 |cons x r ih=>
  obtain⟨I,J⟩:=List.pairwise_cons.1 h;by_cases e:x.1=s
  ·have K:noName r s=r:=nT (fun m G=>(I _ G).1 e);have:noName (x::r) s=noName r s:=(by unfold noName;rw[PY (by simpa using e)]);rw[this,K];rfl
  ·have:noName (x::r) s=x::noName r s:=(by unfold noName;rw[List.filter_cons_of_pos (by simpa using e)]);rw[this,Pf,Pf];have:=ih J (by
    rcases Pd.1 E with A|A
    ·exact OH (by rw[←A]) e
    ·exact A)
   omega
theorem AB(l:List EN)(nm:BA)(nd:Int):(kh l nm nd).length=l.length+1:=by
 unfold kh;rw[O1,Pf,Pa,O9];have:iL l nm≤l.length:=List.findIdx_le_length;omega
theorem iy.noName{z:List EN}(h:iy z)(s:BA):iy (noName z s):=List.Pairwise.sublist List.filter_sublist h
theorem iy.ins{l:List EN}(h:iy l){nm:BA}{nd:Int}(E:∀n,(nm,n)∉l)(G:∀s,(s,nd)∉l):iy (kh l nm nd):=by
 have I:(kh l nm nd).Perm ((nm,nd)::l):=by
  have:=(List.perm_middle (a:=((nm,nd):EN)) (l₁:=l.take (iL l nm)) (l₂:=l.drop (iL l nm)))
  rw[Pz] at this;exact this
 refine(I.pairwise_iff (fun{x y} h=>⟨fun e=>h.1 e.symm,fun e=>h.2 e.symm⟩)).2 ?_;exact List.pairwise_cons.2 ⟨fun y A=>⟨fun e=>E y.2 (by have z:nm=y.1:=e;rw[z];exact A),fun e=>G y.1 (by have z:nd=y.2:=e;rw[z];exact A)⟩,h⟩
theorem lr.del{I M:DU}{K:List EN}{s:BA}{c:Int}(h:lr I M K)(N:iy K)(Q:Maps.has I (kS s)=true)(V:I.atKey (kS s) (.lit (.int .i64 0))= .lit (.int .i64 c)):lr (I.del (kS s)) (M.del (kN c)) (noName K s):=by
 have g:=N.good;obtain⟨R,G⟩:=h.r2 s Q;have e:=(h.r1 s R G).2;rw[V] at e;have O:c=R:=(by simpa using e);subst O;refine⟨h.m1.del _,h.ti.del _,by have U:=size_del (k:=kS s) h.ti;rw[Q,OS rfl,h.sz] at U;have O:=DN N G;omega,h.m2.del _,fun t n z=> ?_,fun t z=> ?_,fun n=>⟨fun E=> ?_,fun E=> ?_⟩⟩
 ·obtain⟨J,L⟩:=eT.1 z;have A:kS t≠kS s:=fun e=>L (qU e);rw[has_del_other A,atKey_del_other A];exact h.r1 t n J
 ·have A:t≠s:=fun e=>(by rw[e,has_del_same] at z;cases z);rw[has_del_other (fun e=>A (qU e))] at z;obtain⟨n,E⟩:=h.r2 t z;exact⟨n,eT.2 ⟨E,A⟩⟩
 ·have A:n≠c:=fun e=>(by rw[e,has_del_same] at E;cases E);rw[has_del_other (fun e=>A (yx e))] at E;obtain⟨t,z⟩:=(h.r3 n).1 E;exact⟨t,eT.2 ⟨z,fun e=>A (g.g1 s n c (by rw[←e];exact z) G)⟩⟩
 ·obtain⟨t,z⟩:=E;obtain⟨J,L⟩:=eT.1 z;have A:n≠c:=fun e=>L (g.g2 t s c (by rw[←e];exact J) G);rw[has_del_other (fun e=>A (yx e))];exact(h.r3 n).2 ⟨t,J⟩
theorem lr.same{z A:DU}{E:List EN}{s:BA}(h:lr z A E)(G:Maps.has z (kS s)=false):lr z A (noName E s):=by
 rw[nT (fun n I=>by rw[(h.r1 s n I).1] at G;cases G)];exact h
theorem lr.put{G K:DU}{l:List EN}{nm:BA}{nd:Int}(h:lr G K l)(I:WideAt.IsKeyLit (kS nm))(M:WideAt.IsKeyLit (kN nd))(L:∀n,(nm,n)∉l):lr (G.put (kS nm) (.lit (.int .i64 nd))) (K.put (kN nd) (.agg [])) (kh l nm nd):=by
 have N:Maps.has G (kS nm)=false:=by
  cases e:Maps.has G (kS nm) with
  |false=>rfl
  |true=>obtain⟨n,A⟩:=h.r2 nm e;exact OH A (L n)
 refine⟨h.m1.put _ _,h.ti.put I _,by rw[size_put h.ti,N,AB,h.sz];rfl,h.m2.put _ _,fun t n z=> ?_,fun t z=> ?_,fun n=>⟨fun A=> ?_,fun A=> ?_⟩⟩
 ·rcases jz.1 z with⟨rfl,rfl⟩|z
  ·exact⟨has_put_same h.m1 I _,atKey_put_same h.m1 I _ _⟩
  ·have J:kS t≠kS nm:=fun e=>L n (by rw[←qU e];exact z);rw[has_put_other J,atKey_put_other J];exact h.r1 t n z
 ·by_cases e:t=nm
  ·exact⟨nd,jz.2 (.inl ⟨e,rfl⟩)⟩
  ·rw[has_put_other (fun E=>e (qU E))] at z;obtain⟨n,A⟩:=h.r2 t z;exact⟨n,jz.2 (.inr A)⟩
 ·by_cases e:n=nd
  ·exact⟨nm,jz.2 (.inl ⟨rfl,e⟩)⟩
  ·rw[has_put_other (fun E=>e (yx E))] at A;obtain⟨t,z⟩:=(h.r3 n).1 A;exact⟨t,jz.2 (.inr z)⟩
 ·obtain⟨t,z⟩:=A;by_cases e:n=nd
  ·subst e;exact has_put_same h.m2 M _
  ·rw[has_put_other (fun E=>e (yx E))];rcases jz.1 z with⟨_,E⟩|z
   ·exact OH E e
   ·exact(h.r3 n).2 ⟨t,z⟩
def gg(w:World)(b1 b2 n:Nat)(es:List EN):Prop:=∃D1 D2,Lst w b1 b2 n D1 D2∧lr D1 D2 es
theorem qL(b1 b2 n:Nat)(z:List EN)(s:BA)(w:World)(O:s.size≤1048576)(L:gg w b1 b2 n z)(g:iy z):
  Calls prog 136 #[lF b1 b2,.string s] w fun e w'=>(∃v,e= .returned v)∧gg w' b1 b2 n (noName z s)∧Off b1 b2 w w':=by
 obtain⟨J,K,N,I⟩:=L;refine(Ih b1 b2 n J K s w O N).mono ?_;rintro e w' ⟨v,rfl,Q,R,E,G,⟨A,rfl,rfl⟩|⟨A,c,M,rfl,rfl⟩⟩
 ·exact⟨⟨v,rfl⟩,⟨_,_,E,I.same A⟩,G⟩
 ·exact⟨⟨v,rfl⟩,⟨_,_,E,I.del g A M⟩,G⟩
theorem IN(b1 b2 n:Nat)(E:List EN)(s:BA)(w:World)(Z:s.size≤1048576)(N:gg w b1 b2 n E):
  Calls prog 166 #[lF b1 b2,.string s] w fun e w'=>(∃r:Bool,e= .returned (.bool r)∧(r=true↔∃m,(s,m)∈E))∧Below w.heap.size w w':=by
 obtain⟨A,V,z,I⟩:=N;have O:=AJ s (by unfold maxLen;omega);have G:=nAl w (.cells #[.map (some b1),.map (some b2)] 191);have J:=z.below G z.o1.lt z.o2.lt;have K:=a8 (show Maps.has A (kS s)=true↔∃m,(s,m)∈E from⟨I.r2 s,fun⟨m,Q⟩=>(I.r1 s m Q).1⟩);have M:=a8 G;have L:=a8 J;unfold lF;clear G J z I;generalize Y:Maps.has A (kS s)=q at K;go_enter func166,ntmps166;go_wp2_with (at_lookup;refine wpList_lookup_own_ok_int _ rfl _ _ 189 rfl 9 3 .i64 kw underlying189 underlying3 (qD _) b1 n A rfl L.o1 _ _ rfl O ?_;intro c R U)
 go_ret;exact⟨⟨q,rfl,K⟩,M⟩
theorem Do(s:BA):WideAt.IsKeyLit (kS s):=trivial
theorem Nc(n:Int):WideAt.IsKeyLit (kN n):=trivial
theorem Lst.mono{w:World}{b1 b2 n m:Nat}{z A:DU}(h:Lst w b1 b2 n z A)(E:n≤m):Lst w b1 b2 m z A:=⟨h.o1.mono E,h.o2.mono E,h.ne⟩
theorem qG(b1 b2 n:Nat)(z:List EN)(s:BA)(nd:Int)(w:World)(hs:s.size≤1048576)(Z:(Lit.int .i64 nd).wf=true)(hn:n≤1048576)(L:gg w b1 b2 n z)(g:iy z):
  Calls prog 134 #[lF b1 b2,.string s,.int .i64 nd] w fun e w'=>(∃v,e= .returned v)∧gg w' b1 b2 (n+1) (kh (noName z s) s nd)∧Off b1 b2 w w':=by
 have hk:=AJ s (by unfold maxLen;omega);have ae:=Ng nd Z;have hpe:plainElem (H:=Unit) prog 3 (.int .i64 nd)=some (.lit (.int .i64 nd),[]):=plainElem_int underlying3 Z;have K:=nAl w (.cells #[.map (some b1),.map (some b2)] 191);have Y:=ed.new w #[.map (some b1),.map (some b2)] 191;have R:b1<w.heap.size∧b2<w.heap.size:=(by obtain⟨D1,E,G,_⟩:=L;exact⟨G.o1.lt,G.o2.lt⟩);have N:gg (w.alloc (.cells #[.map (some b1),.map (some b2)] 191)) b1 b2 n z:=by
  obtain⟨D1,E,G,hr⟩:=L;exact⟨D1,E,G.below K R.1 R.2,hr⟩
 have J:=a8 (qL b1 b2 n z s _ hs N g);have HA:=a8 K;have aa:=a8 Y;clear K Y N L;unfold lF at J⊢;go_enter func134,ntmps134;go_wp2_with fail;refine(J.out).mono ?_;rintro e w2 ⟨⟨v,rfl⟩,⟨D1,E,Q,V⟩,I⟩;have A:=aa.off I (by omega) (by omega);have q0:w2.cell? ⟨w.heap.size,0,none⟩=some (.map (some b1)):=A.cell 0;have ac:=a8 ((Off.of_below HA).trans I);have af:=a8 A;have HLL:=a8 Q;have ad:=a8 V;have HMV:=a8 (fun(w3:World) (h3:w2.grownBy w3 (some b1))=>(show w3.cell? ⟨w.heap.size,1,none⟩=some (.map (some b2)) from(A.off (Off.of_grown (b1:=b1) (b2:=b2) h3 (.inl rfl)) (by omega) (by omega)).cell 1));clear A Q V I J;go_wp2_with (first
  |(at_mapUpdate;refine wpList_mapUpdate_own _ rfl _ _ _ 189 rfl 9 3 kw underlying189 (plainElem prog 3) b1 n D1 rfl HLL.o1 (by unfold maxLen;omega) _ _ _ rfl rfl hk _ [] hpe ?_;intro w3 ho3 hg3;have HO3:=a8 ho3;have HG3:=a8 hg3;have q1:=HMV.out w3 hg3;have HP3:=a8 (HLL.o2.kept hg3 (fun e=>HLL.ne (by simpa using e.symm)));clear ho3 hg3)
  |(at_mapUpdate;refine wpList_mapUpdate_own _ rfl _ _ _ 188 rfl 3 128 mS underlying188 unitElem b2 n E rfl HP3 (by unfold maxLen;omega) _ _ _ rfl rfl ae _ [] unitElem_mk ?_;intro w4 U O;have ab:=a8 U;have M:=a8 O;clear U O)
  |go_in)
 go_end0
 refine⟨⟨_,rfl⟩,⟨_,_,⟨HO3.kept M (fun e=>HLL.ne (by simpa using e)),ab,HLL.ne⟩,ad.put (Do s) (Nc nd) (fun m hm=>(eT.1 hm).2 rfl)⟩,(ac.trans (Off.of_grown HG3.out (.inl rfl))).trans (Off.of_grown M.out (.inr rfl))⟩
end
section
open Go.Maps
theorem jt{z:List EN}{s:BA}{n:Int}(h:fT z s=some n):(s,n)∈z:=by
 unfold fT at h;cases hf:z.find? (fun e=>decide (e.1=s)) with
 |none=>rw[hf] at h;cases h
 |some e=>
  rw[hf] at h;have A:=List.find?_some hf;have E:=List.mem_of_find?_eq_some hf;simp at h A;rw[←A,←h];exact E
theorem Gy{z:List EN}{s:BA}(h:fT z s=none):∀n,(s,n)∉z:=by
 intro n A;unfold fT at h;simp only[Option.map_eq_none_iff] at h;have:=List.find?_eq_none.1 h _ A;simp at this
theorem mU{z:List EN}(g:NE z){s:BA}{n:Int}:fT z s=some n↔(s,n)∈z:=by
 refine⟨jt,fun h=> ?_⟩;cases e:fT z s with
 |none=>exact OH h (Gy e n)
 |some m=>rw[g.g1 s m n (jt e) h]
theorem JS{nodes:Int}{E l:List EN}{o:DO}(g:iy E)(h:iB nodes E o=some l):iy l:=by
 unfold iB at h;split at h
 ·split at h
  ·next c=>
   simp only[OY] at h;subst h;exact(g.noName _).ins (fun n z=>(eT.1 z).2 rfl) (fun s A=>c.2.2.2.2 _ (eT.1 A).1 rfl)
  ·cases h
 ·split at h
  ·split at h
   ·cases h
   ·next n0 hn0=>
    split at h
    ·simp only[OY] at h;subst h;refine((g.noName _).noName _).ins (fun n z=>(eT.1 z).2 rfl) (fun s A=> ?_);obtain⟨G,_⟩:=eT.1 A;obtain⟨I,J⟩:=eT.1 G;exact J (g.good.g2 s _ n0 I (jt hn0))
    ·cases h
  ·split at h
   ·split at h
    ·cases h
    ·split at h
     ·simp only[OY] at h;subst h;exact g.noName _
     ·cases h
   ·cases h
def sY(w:World)(R:Option (List EN))(e:Ending)(w':World):Prop:=∃r:Bool,e= .returned (.bool r)∧r=R.isSome∧Below w.heap.size w w'
theorem i8{w w':World}{R:Option (List EN)}(h:R=none)(z:Below w.heap.size w w'):sY w R (.returned (.bool false)) w':=⟨false,rfl,by rw[h];rfl,z⟩
theorem vg{w w':World}{R:Option (List EN)}{l:List EN}(h:R=some l)(z:Below w.heap.size w w'):sY w R (.returned (.bool true)) w':=⟨true,rfl,by rw[h];rfl,z⟩
theorem Eo(b1 b2 n:Nat)(E:List EN)(I:Int)(nm z:BA)(nd nodes:Int)(w:World)(am:nm.size≤1048576)(aq:z.size≤1048576)(hw:(Lit.int .i64 nd).wf=true)(hL:gg w b1 b2 n E)(g:iy E):
  Calls prog 135 #[lF b1 b2,.agg #[.int .i64 I,.string nm,.string z,.int .i64 nd],.int .i64 nodes] w (sY w (iB nodes E (I,nm,z,nd))):=by
 have ao:=Ng nd hw;have hA:Below w.heap.size w ((w.alloc (.cells #[.map (some b1),.map (some b2)] 191)).alloc (.cells #[.int .i64 I,.string nm,.string z,.int .i64 nd] 111)):=((OX _ _).alloc (OV _) _).alloc (by simp) _;have al:b1<w.heap.size∧b2<w.heap.size:=(by obtain⟨D1,D2,V,_⟩:=hL;exact⟨V.o1.lt,V.o2.lt⟩);have ah:gg ((w.alloc (.cells #[.map (some b1),.map (some b2)] 191)).alloc (.cells #[.int .i64 I,.string nm,.string z,.int .i64 nd] 111)) b1 b2 n E:=by
  obtain⟨D1,D2,V,hr⟩:=hL;exact⟨D1,D2,V.below hA al.1 al.2,hr⟩
 have hz:((w.alloc (.cells #[.map (some b1),.map (some b2)] 191)).alloc (.cells #[.int .i64 I,.string nm,.string z,.int .i64 nd] 111)).heap.size=w.heap.size+2:=(by simp);have L0:ed ((w.alloc (.cells #[.map (some b1),.map (some b2)] 191)).alloc (.cells #[.int .i64 I,.string nm,.string z,.int .i64 nd] 111)) w.heap.size #[.map (some b1),.map (some b2)] 191:=ed.below (B:=w.heap.size+1) (ed.new w _ _) ((OX _ _).alloc (by simp) _) (by omega);have U:=ed.new (w.alloc (.cells #[.map (some b1),.map (some b2)] 191)) #[.int .i64 I,.string nm,.string z,.int .i64 nd] 111;rw[show(w.alloc (.cells #[.map (some b1),.map (some b2)] 191)).heap.size=w.heap.size+1 from OG ..] at U;unfold lF;go_enter func135,ntmps135;go_upto_region 1 with fail;generalize (w.alloc (.cells #[.map (some b1),.map (some b2)] 191)).alloc (.cells #[.int .i64 I,.string nm,.string z,.int .i64 nd] 111)=W at hA ah hz L0 U⊢;obtain⟨q0,q1⟩:=L0.c2;obtain⟨p0,p1,p2,p3⟩:=U.c4;have Y:=a8 (fun s (hs:s.size≤1048576)=>IN b1 b2 n E s W hs ah);obtain⟨D1,D2,V,hr⟩:=ah;have ae:=a8 (hr.r3 nd);have HL:=a8 V;have HA:=a8 hA;have ad:=a8 U;have HG:=a8 g;clear hA V hr L0 U hL g;by_cases k1:I=1
 ·subst k1;have hR:=Np nodes E nm z nd;have N:=a8 hR;clear hR Y;generalize ar:Maps.has D2 (kN nd)=tw at ae;go_wp2_with (at_lookup;refine wpList_lookup_own_unit _ rfl _ _ 188 rfl 3 128 mS underlying188 (mJ _) b2 n D2 rfl HL.o2 _ _ rfl ao ?_)
  refine(kQ nm _ (by omega)).mono ?_;rintro e Q ⟨rfl,O⟩;have ai:Below W.heap.size W Q:=(nAl W _).trans (O.mono (by simp));have M:=ad.below ai (by omega);obtain⟨-,-,t2,t3⟩:=M.c4;have J:=bTr HA ai;clear O ai M q0 q1 p0 p1 p2 p3;by_cases R:eX nm=true
  ·rw[R];by_cases G:z.toList=[]
   ·have ag:(z.toList==[])=true:=(by simpa using G);by_cases K:0≤nd
    ·by_cases c4:nd<nodes
     ·cases tw with
      |true=>
       have A:=a8 (show iB nodes E (1,nm,z,nd)=none by
        rw[N.out,OR];intro h;obtain⟨s,hs⟩:=ae.1 rfl;exact h.2.2.2.2 _ hs rfl)
       go_wp2;go_ret;exact i8 A J.out
      |false=>
       have A:=a8 (show iB nodes E (1,nm,z,nd)=some (kh (noName E nm) nm nd) by
        rw[N.out,OS ⟨R,G,K,c4,fun e he e2=>by
         have:=ae.2 ⟨e.1,by rw[←e2];exact he⟩;cases this⟩])
       go_wp2;go_ret;exact vg A J.out
     ·have A:=a8 (N.trans (OR (fun h=>c4 h.2.2.2.1)));go_wp2;go_ret;exact i8 A J.out
    ·have A:=a8 (N.trans (OR (fun h=>K h.2.2.1)));go_wp2;go_ret;exact i8 A J.out
   ·have ag:(z.toList==[])=false:=(by simpa using G);have A:=a8 (N.trans (OR (fun h=>G h.2.1)));go_wp2;go_ret;exact i8 A J.out
  ·have af:eX nm=false:=(by simpa using R);rw[af];have A:=a8 (N.trans (OR (fun h=>R h.1)));go_wp2;go_ret;exact i8 A J.out
 ·have au:(I==1)=false:=(by simpa using k1);by_cases k4:I=4
  ·subst k4;have N:=a8 (Nq nodes E nm z nd);go_wp2_with fail;refine(Y.out nm am).mono ?_;rintro e Q ⟨⟨r,rfl,aa⟩,O⟩;have M:=ad.below O (by omega);obtain⟨-,t1,t2,t3⟩:=M.c4;have J:=bTr HA O;have an:=a8 M;have ap:=O.size;have Z:=a8 aa;clear O M q0 q1 p0 p1 p2 p3 aa Y;cases r with
   |false=>
    have A:=a8 (show iB nodes E (4,nm,z,nd)=none by
     rw[N.out];cases e:fT E nm with
     |none=>rfl
     |some m=>exact OH (Z.2 ⟨m,jt e⟩) (by simp))
    go_wp2;go_ret;exact i8 A J.out
   |true=>
    obtain⟨m,hm⟩:=Z.1 rfl;have A:=a8 (show iB nodes E (4,nm,z,nd)=if eX z=true∧z≠nm∧nd=0 then some (kh (noName (noName E nm) z) z m) else none by rw[N.out,(mU HG.good).2 hm]);clear hm;go_wp2_with fail;refine(kQ z Q (by omega)).mono ?_;rintro e w3 ⟨rfl,aj⟩;have ac:=an.below aj (by omega);obtain⟨-,s1,s2,s3⟩:=ac.c4;have ab:=bTr J aj;clear aj ac t1 t2 t3;by_cases R:eX z=true
    ·rw[R];by_cases G:z=nm
     ·have hq:=iE G;have L:=a8 (A.trans (OR (fun h=>h.2.1 G)));clear G;go_wp2;go_ret;exact i8 L ab.out
     ·have hq:=iF G;by_cases K:nd=0
      ·have L:=a8 (A.trans (OS ⟨R,G,K⟩));have ak:(nd==0)=true:=(by simpa using K);clear G K;go_wp2;go_ret;exact vg L ab.out
      ·have L:=a8 (A.trans (OR (fun h=>K h.2.2)));have ak:(nd==0)=false:=(by simpa using K);clear G;go_wp2;go_ret;exact i8 L ab.out
    ·have af:eX z=false:=(by simpa using R);rw[af];have L:=a8 (A.trans (OR (fun h=>R h.1)));go_wp2;go_ret;exact i8 L ab.out
  ·have av:(I==4)=false:=(by simpa using k4);by_cases k5:I=5
   ·subst k5;have N:=a8 (Nr nodes E nm z nd);go_wp2_with fail;refine(Y.out nm am).mono ?_;rintro e Q ⟨⟨r,rfl,aa⟩,O⟩;have M:=ad.below O (by omega);obtain⟨-,-,t2,t3⟩:=M.c4;have J:=bTr HA O;have Z:=a8 aa;clear O M q0 q1 p0 p1 p2 p3 aa Y;cases r with
    |false=>
     have A:=a8 (show iB nodes E (5,nm,z,nd)=none by
      rw[N.out];cases e:fT E nm with
      |none=>rfl
      |some m=>exact OH (Z.2 ⟨m,jt e⟩) (by simp))
     go_wp2;go_ret;exact i8 A J.out
    |true=>
     obtain⟨m,hm⟩:=Z.1 rfl;have A:=a8 (show iB nodes E (5,nm,z,nd)=if z.toList=[]∧nd=0 then some (noName E nm) else none by rw[N.out,(mU HG.good).2 hm]);clear hm;by_cases G:z.toList=[]
     ·have ag:(z.toList==[])=true:=(by simpa using G);by_cases K:nd=0
      ·have L:=a8 (A.trans (OS ⟨G,K⟩));have ak:(nd==0)=true:=(by simpa using K);clear K;go_wp2;go_ret;exact vg L J.out
      ·have L:=a8 (A.trans (OR (fun h=>K h.2)));have ak:(nd==0)=false:=(by simpa using K);go_wp2;go_ret;exact i8 L J.out
     ·have ag:(z.toList==[])=false:=(by simpa using G);have L:=a8 (A.trans (OR (fun h=>G h.1)));go_wp2;go_ret;exact i8 L J.out
   ·have aw:(I==5)=false:=(by simpa using k5);have A:=a8 (show iB nodes E (I,nm,z,nd)=none by unfold iB;simp only;rw[OR k1,OR k4,OR k5]);go_wp2;go_ret;exact i8 A HA.out
end
section
open Go.Maps
def xX(w:World)(b1 b2 n:Nat)(es:List EN):Option (List EN)→Ending→World→Prop
 |none,e,w'=>e= .returned (.bool false)∧gg w' b1 b2 (n+1) es∧Off b1 b2 w w'
 |some l,e,w'=>e= .returned (.bool true)∧gg w' b1 b2 (n+1) l∧Off b1 b2 w w'
theorem Nu{w w':World}{b1 b2 n:Nat}{z:List EN}{R:Option (List EN)}(h:R=none)(A:gg w' b1 b2 (n+1) z)(E:Off b1 b2 w w'):xX w b1 b2 n z R (.returned (.bool false)) w':=by subst h;exact⟨rfl,A,E⟩
theorem y9{w w':World}{b1 b2 n:Nat}{z l:List EN}{R:Option (List EN)}(h:R=some l)(A:gg w' b1 b2 (n+1) l)(E:Off b1 b2 w w'):xX w b1 b2 n z R (.returned (.bool true)) w':=by subst h;exact⟨rfl,A,E⟩
theorem gg.below{B:Nat}{w w':World}{b1 b2 n:Nat}{z:List EN}(h:gg w b1 b2 n z)(J:Below B w w')(G:b1<B)(I:b2<B):gg w' b1 b2 n z:=by
 obtain⟨A,E,K,L⟩:=h;exact⟨A,E,K.below J G I,L⟩
theorem gg.mono{w:World}{b1 b2 n m:Nat}{z:List EN}(h:gg w b1 b2 n z)(I:n≤m):gg w b1 b2 m z:=by
 obtain⟨A,E,G,J⟩:=h;exact⟨A,E,G.mono I,J⟩
theorem gg.lt{w:World}{b1 b2 n:Nat}{A:List EN}(h:gg w b1 b2 n A):b1<w.heap.size∧b2<w.heap.size:=by
 obtain⟨E,G,z,_⟩:=h;exact⟨z.o1.lt,z.o2.lt⟩
theorem N8{nodes:Int}{z:List EN}{nm A:BA}{nd:Int}(h:(iB nodes z (1,nm,A,nd)).isSome=true):iB nodes z (1,nm,A,nd)=some (kh (noName z nm) nm nd):=by
 rw[Np] at h⊢;split at h
 ·next c=>rw[OS c]
 ·cases h
theorem N9{nodes:Int}{z:List EN}{nm A:BA}{nd:Int}(h:(iB nodes z (4,nm,A,nd)).isSome=true):∃m,fT z nm=some m∧iB nodes z (4,nm,A,nd)=some (kh (noName (noName z nm) A) A m):=by
 rw[Nq] at h⊢;cases e:fT z nm with
 |none=>rw[e] at h;cases h
 |some m=>
  rw[e] at h;simp only at h⊢;split at h
  ·next c=>exact⟨m,rfl,by rw[OS c]⟩
  ·cases h
theorem Oa{nodes:Int}{z:List EN}{nm A:BA}{nd:Int}(h:(iB nodes z (5,nm,A,nd)).isSome=true):iB nodes z (5,nm,A,nd)=some (noName z nm):=by
 rw[Nr] at h⊢;cases e:fT z nm with
 |none=>rw[e] at h;cases h
 |some m=>
  rw[e] at h;simp only at h⊢;split at h
  ·next c=>rw[OS c]
  ·cases h
theorem Ma{nodes:Int}{I:List EN}{z:Int}{nm J:BA}{nd:Int}(h:(iB nodes I (z,nm,J,nd)).isSome=true):z=1∨z=4∨z=5:=by
 unfold iB at h;simp only at h;by_cases A:z=1
 ·exact .inl A
 ·by_cases E:z=4
  ·exact .inr (.inl E)
  ·by_cases G:z=5
   ·exact .inr (.inr G)
   ·rw[OR A,OR E,OR G] at h;cases h
theorem BD(b1 b2 n:Nat)(A:List EN)(E:Int)(nm z:BA)(nd nodes:Int)(w:World)(ab:nm.size≤1048576)(aj:z.size≤1048576)(hn:n≤1048570)(hw:(Lit.int .i64 nd).wf=true)(hL:gg w b1 b2 n A)(g:iy A):
  Calls prog 109 #[lF b1 b2,.agg #[.int .i64 E,.string nm,.string z,.int .i64 nd],.int .i64 nodes] w (xX w b1 b2 n A (iB nodes A (E,nm,z,nd))):=by
 have hA:Below w.heap.size w ((w.alloc (.cells #[.map (some b1),.map (some b2)] 191)).alloc (.cells #[.int .i64 E,.string nm,.string z,.int .i64 nd] 111)):=((OX _ _).alloc (OV _) _).alloc (by simp) _;obtain⟨am,an⟩:=hL.lt;have aa:=hL.below hA am an;have hz:((w.alloc (.cells #[.map (some b1),.map (some b2)] 191)).alloc (.cells #[.int .i64 E,.string nm,.string z,.int .i64 nd] 111)).heap.size=w.heap.size+2:=(by simp);have L0:ed ((w.alloc (.cells #[.map (some b1),.map (some b2)] 191)).alloc (.cells #[.int .i64 E,.string nm,.string z,.int .i64 nd] 111)) w.heap.size #[.map (some b1),.map (some b2)] 191:=ed.below (B:=w.heap.size+1) (ed.new w _ _) ((OX _ _).alloc (by simp) _) (by omega);have L1:=ed.new (w.alloc (.cells #[.map (some b1),.map (some b2)] 191)) #[.int .i64 E,.string nm,.string z,.int .i64 nd] 111;rw[show(w.alloc (.cells #[.map (some b1),.map (some b2)] 191)).heap.size=w.heap.size+1 from OG ..] at L1;unfold lF;go_enter func109,ntmps109;go_wp2_with fail;generalize (w.alloc (.cells #[.map (some b1),.map (some b2)] 191)).alloc (.cells #[.int .i64 E,.string nm,.string z,.int .i64 nd] 111)=W at hA aa hz L0 L1⊢;refine(Eo b1 b2 n A E nm z nd nodes W ab aj hw aa g).mono ?_;rintro e I ⟨r,rfl,Y,V⟩;have af:=aa.below V (by omega) (by omega);have K0:=L0.below V (by omega);have O:=L1.below V (by omega);have ai:Off b1 b2 w I:=(Off.of_below hA).trans (Off.of_below V);obtain⟨q0,q1⟩:=K0.c2;obtain⟨p0,p1,p2,p3⟩:=O.c4;have HG:=a8 g;have U:=a8 af;have Z:=a8 ai;have ap:=a8 K0;have aq:=a8 O;clear hA aa L0 L1 hL g V af ai K0 O;cases r with
 |false=>
  have N:=a8 (show iB nodes A (E,nm,z,nd)=none by
   cases e:iB nodes A (E,nm,z,nd) with
   |none=>rfl
   |some l=>rw[e] at Y;cases Y)
  clear Y;go_wp2;go_ret;exact Nu N (U.mono (by omega)) Z.out
 |true=>
  have K:=Y.symm;clear Y;rcases Ma K with k|k|k
  ·subst k;have N:=a8 (N8 K);have L:=a8 (qG b1 b2 n A nm nd I ab hw (by omega) U HG);unfold lF at L;clear K;go_wp2_with fail;refine(L.out).mono ?_;rintro e Q ⟨⟨v,rfl⟩,J,G⟩;have ac:=a8 J;have R:=a8 (Z.trans G);clear J G L;go_wp2;go_ret;exact y9 N ac R.out
  ·subst k;obtain⟨m,hm,ae⟩:=N9 K;have N:=a8 ae;have HM:=a8 (jt hm);clear K hm ae;have hk:=AJ nm (by unfold maxLen;omega);have M:=a8 (qL b1 b2 n A nm I ab U HG);unfold lF at M;obtain⟨D1,D2,hl,hr⟩:=U.out;have ak:=a8 (hr.r1 nm m HM).2;have au:=a8 hl.o1;clear hl hr;go_wp2_with (at_lookup;refine wpList_lookup_own_int _ rfl _ _ 189 rfl 9 3 .i64 kw underlying189 underlying3 (qD _) b1 n D1 rfl au _ _ rfl hk ?_;intro c ag av;have ao:=a8 (show m=c by have h:=ak.out;rw[ag] at h;simp at h;exact h.symm);clear ag)
   refine(M.out).mono ?_;rintro e Q ⟨⟨v,rfl⟩,J,G⟩;have J0:=ap.off G (by omega) (by omega);have J1:=aq.off G (by omega) (by omega);obtain⟨s0,s1⟩:=J0.c2;obtain⟨-,-,s2⟩:=J1.c3;have L:=a8 (qG b1 b2 n (noName A nm) z c Q aj av (by omega) J (HG.noName nm));unfold lF at L;have R:=a8 (Z.trans G);clear J G M J0 J1 q0 q1 p0 p1 p2 p3;go_wp2_with fail;refine(L.out).mono ?_;rintro e w4 ⟨⟨v4,rfl⟩,ah,ad⟩;have ar:=a8 ah;have al:=a8 (R.trans ad);clear ah ad L;go_wp2;go_ret;exact y9 (by rw[N.out,ao.out]) ar.out al.out
  ·subst k;have N:=a8 (Oa K);have M:=a8 (qL b1 b2 n A nm I ab U HG);unfold lF at M;clear K;go_wp2_with fail;refine(M.out).mono ?_;rintro e Q ⟨⟨v,rfl⟩,J,G⟩;have ac:=a8 (J.mono (show n≤n+1 by omega));have R:=a8 (Z.trans G);clear J G M;go_wp2;go_ret;exact y9 N ac R.out
end
section
open Go.Maps
theorem lr.mem{G I:DU}{l E:List EN}(h:lr G I l)(A:∀s n,(s,n)∈l↔(s,n)∈E)(J:l.length=E.length):lr G I E:=
 ⟨h.m1,h.ti,h.sz.trans J,h.m2,fun s n K=>h.r1 s n ((A s n).2 K),fun s z=>by obtain⟨n,L⟩:=h.r2 s z;exact⟨n,(A s n).1 L⟩,fun n=>(h.r3 n).trans ⟨fun⟨s,z⟩=>⟨s,(A s n).1 z⟩,fun⟨s,z⟩=>⟨s,(A s n).2 z⟩⟩⟩
theorem gg.mem{w:World}{b1 b2 n:Nat}{l z:List EN}(h:gg w b1 b2 n l)(I:∀s n,(s,n)∈l↔(s,n)∈z)(A:l.length=z.length):gg w b1 b2 n z:=by
 obtain⟨E,G,J,K⟩:=h;exact⟨E,G,J,K.mem I A⟩
theorem iy.take{z:List EN}(h:iy z)(k:Nat):iy (z.take k):=List.Pairwise.sublist (List.take_sublist k z) h
theorem G8{z:List EN}(h:iy z)(k:Nat)(G:k<z.length):∀s n,(s,n)∈kh (noName (z.take k) z[k].1) z[k].1 z[k].2↔(s,n)∈z.take (k+1):=by
 intro s n;rw[jz,eT,O5 G,Pj,Ph];constructor
 ·rintro(⟨rfl,rfl⟩|⟨A,_⟩)
  ·exact .inr rfl
  ·exact .inl A
 ·rintro(A|A)
  ·refine .inr ⟨A,fun e=> ?_⟩;obtain⟨i,hi,E⟩:=Pr A;rw[Pa] at hi;rw[List.getElem_take] at E;have:=(Pn.1 h i k (by omega) G (by omega)).1;rw[E] at this;exact this e
  ·left;rw[←A];exact⟨rfl,rfl⟩
theorem Kr{z:List EN}(h:iy z)(k:Nat)(E:k<z.length):(kh (noName (z.take k) z[k].1) z[k].1 z[k].2).length=(z.take (k+1)).length:=by
 rw[AB,nT,Pa,Pa]
 ·omega
 ·intro n G;obtain⟨i,hi,A⟩:=Pr G;rw[Pa] at hi;rw[List.getElem_take] at A;have:=(Pn.1 h i k (by omega) E (by omega)).1;rw[A] at this;exact this rfl
theorem LW{fn:Func}{tmps:Array Value}{p:Tmp}(B:Nat)(W:World)(x y:Value)(A:fn.results= #[.cell p 191])(E:tmps.getD p undef=pP B)(z:ed W B #[x,y] 191):
  (results fn tmps).run prog W= .ok (.agg #[x,y]) W:=
 results_cell_row (P:=prog) A _ _ B _ _ _ _ E z underlying191 rfl (by kernel_rfl)
theorem gg.setCell{w:World}{b1 b2 n:Nat}{A:List EN}(h:gg w b1 b2 n A){p:Addr}(I:b1≠p.block)(J:b2≠p.block)(u:Value):gg (w.setCell p u) b1 b2 n A:=by
 obtain⟨E,G,z,K⟩:=h;exact⟨E,G,⟨z.o1.setCell I u,z.o2.setCell J u,z.ne⟩,K⟩
theorem GL:lr (.map []) (.map []) []:=⟨isMap_empty,tidy_empty,rfl,isMap_empty,(fun s n h=>by cases h),(fun s h=>by cases h),fun n=>⟨(fun h=>by cases h),(fun⟨s,h⟩=>by cases h)⟩⟩
def uj(w:World):World:=(((w.alloc (.cells #[.map none,.map none] 191)).alloc (.map #[] 0)).alloc (.map #[] 0)).alloc (.cells #[.map (some (w.heap.size+1)),.map (some (w.heap.size+1+1))] 191)
theorem DC(w:World):Below w.heap.size w (uj w):=(((OX _ _).alloc (OV _) _).alloc (by simp) _).alloc (by simp;omega) _|>.alloc (by simp;omega) _
theorem Lp(w:World):ed (uj w) w.heap.size #[.map none,.map none] 191:=by
 have z:=ed.new w #[.map none,.map none] 191;have A:Below (w.heap.size+1) (w.alloc (.cells #[.map none,.map none] 191)) (uj w):=(((OX _ _).alloc (by simp) _).alloc (by simp) _).alloc (by simp) _;exact z.below A (by omega)
theorem Lq(w:World):ed (uj w) (w.heap.size+1+1+1) #[.map (some (w.heap.size+1)),.map (some (w.heap.size+1+1))] 191:=by
 have h:=ed.new (((w.alloc (.cells #[.map none,.map none] 191)).alloc (.map #[] 0)).alloc (.map #[] 0)) #[.map (some (w.heap.size+1)),.map (some (w.heap.size+1+1))] 191;have z:(((w.alloc (.cells #[.map none,.map none] 191)).alloc (.map #[] 0)).alloc (.map #[] 0)).heap.size=w.heap.size+1+1+1:=(by simp);rw[z] at h;exact h
theorem Jf(w:World):gg (uj w) (w.heap.size+1) (w.heap.size+1+1) 0 []:=by
 have z:=World.ownsMap_made (H:=Unit) (w.alloc (.cells #[.map none,.map none] 191)) prog 9 (plainElem prog 3);have A:=World.ownsMap_made (H:=Unit) ((w.alloc (.cells #[.map none,.map none] 191)).alloc (.map #[] 0)) prog 3 unitElem;rw[show(w.alloc (.cells #[.map none,.map none] 191)).heap.size=w.heap.size+1 from OG ..] at z;rw[show((w.alloc (.cells #[.map none,.map none] 191)).alloc (.map #[] 0)).heap.size=w.heap.size+1+1 from by simp] at A;exact⟨_,_,⟨(z.alloc _).alloc _,A.alloc _,by omega⟩,GL⟩
theorem vM(a:OA)(cap:Nat)(z:List EN)(w:World)(hn:z.length≤1048570)(hs:∀e∈z,e.1.size≤1048576)(hw:∀e∈z,(Lit.int .i64 e.2).wf=true)(aa:iy z)(hr:fI w a z):
  Calls prog 108 #[.slice a z.length cap] w fun e w'=>∃b1 b2,e= .returned (lF b1 b2)∧w.heap.size≤b1∧w.heap.size≤b2∧gg w' b1 b2 z.length z∧Below w.heap.size w w':=by
 have al:= @run_makeMap prog;have HS:=a8 hs;have HW:=a8 hw;have O:=a8 aa;have HR:=a8 hr;clear hs hw aa hr;go_enter func108,ntmps108;go_wp2;clear al;have Z:=Lp w;have m3:=Lq w;have ml:=Jf w;have mb:=DC w;change Code.wp _ _ _ _ (uj w);generalize uj w=W at Z m3 ml mb⊢;go_loopw [5,11] (fun _ i wr=>∃k:Nat,k≤z.length∧i=iI k∧gg wr (w.heap.size+1) (w.heap.size+1+1) k (z.take k)∧ed wr w.heap.size #[.map none,.map none] 191∧ed wr (w.heap.size+1+1+1) #[.map (some (w.heap.size+1)),.map (some (w.heap.size+1+1))] 191∧Below w.heap.size w wr) (fun _ i _=>z.length-(intOf i).toNat)
 case atStart=>exact⟨0,O4 _,rfl,by rw[List.take_zero];exact ml,Z,m3,mb⟩
 case round=>
  obtain⟨k,hk,rfl,G,A,I,E⟩:=hrel;clear Z m3 ml mb;obtain⟨q0,q1⟩:=I.c2;have ao:=I.lt;by_cases K:k<z.length
  ·obtain⟨b,ar,rfl,hc⟩:=(HR.below E) (by omega)
   obtain⟨c0,c1⟩:=hc k K;have ad:=HS.out _ (O6 K);have ae:=HW.out _ (O6 K);have V:=a8 (G8 O k K);have U:=a8 (Kr O k K);generalize z[k].1=L at c0 ad V U;generalize z[k].2=M at c1 ae V U;have J:=nAl wr (.cells #[.string L,.int .i64 M] 63);have ac:=G.below J G.lt.1 G.lt.2;have Y:=a8 (qG (w.heap.size+1) (w.heap.size+1+1) k (z.take k) L M _ ad ae (by omega) ac (O.take k));unfold lF at Y;have Q:=a8 (A.below J A.lt);have R:=a8 (I.below J I.lt);have af:=a8 (E.trans (J.mono E.size));have ap:=a8 (ed.new wr #[.string L,.int .i64 M] 63);have aq:=E.size;obtain⟨am,an⟩:=R.c2;clear hc G A I E J ac;go_wp2_with fail;refine(Y.out).mono ?_;rintro e w6 ⟨⟨v,rfl⟩,ab,N⟩;have ah:=a8 (ab.mem V U);have ai:=a8 (Q.off N (by omega) (by omega));have aj:=a8 (R.off N (by omega) (by omega));have ak:=a8 (af.trans (N.below (B:=w.heap.size) (by omega) (by omega) (by simp;omega)));clear ab N Y am an q0 q1;go_wp2;go_roundw
   case rel=>exact⟨k+1,by omega,by go_num,ah,ai,aj,ak⟩
   case measure=>simp[intOf];omega
  ·obtain rfl:k=z.length:=(by omega);rw[PA] at G;have f0:wr.frozen? ⟨w.heap.size,0,none⟩=false:=OO wr w.heap.size 0 _ _ A;have f1:wr.frozen? ⟨w.heap.size,1,none⟩=false:=OO wr w.heap.size 1 _ _ A;obtain⟨z0,z1⟩:=A.c2;have HL:=a8 G;have Q:=a8 A;have ag:=a8 E;clear G A I E;go_wp2;exact OJ (LW w.heap.size _ _ _ rfl rfl ((Q.set 0 _).set 1 _)) rfl ⟨w.heap.size+1,w.heap.size+1+1,rfl,by omega,by omega,(HL.setCell (p:=⟨w.heap.size,0,none⟩) (by simp) (by simp;omega) _).setCell (p:=⟨w.heap.size,1,none⟩) (by simp) (by simp;omega) _,(ag.setCell (p:=⟨w.heap.size,0,none⟩) (OV _) _).setCell (p:=⟨w.heap.size,1,none⟩) (OV _) _⟩
end
end Go.Proofs.YtkkdfgnnlpohlaaGreatDoor
