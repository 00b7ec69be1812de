import Derived.Test.YtkkdfgnnlpohlaaGreatDoorPkj
import Derived.Test.YtkkdfgnnlpohlaaGreatDoorPkl
import Derived.Test.YtkkdfgnnlpohlaaGreatDoorShelfI
import Derived.Maps.RangeWalk
import Derived.Maps.AppendAt
import Derived.Deep.RegionLaw
import Derived.Laws.ResultCell
namespace Go.Proofs.YtkkdfgnnlpohlaaGreatDoor
set_option maxRecDepth 20000
set_option linter.unusedVariables false
set_option linter.unusedSimpArgs false
set_option maxHeartbeats 4000000
open Go.RowKit Go.Proofs.Tryz
variable {W X Y w w' w0 wr : World} {A B at_ b b2 base' c cap e f g go gs hi i j k lo m n s u val z : Nat} {E G I J K L M N O u0 u1 u2 v0 v1 v2 v3 v4 v5 v6 x y : Value} {o : Oper} {Q : Exit → Act → World → Prop} {cs tmps : Array Value} {t : TypeId} {p : Addr} {l : List Nat} {bvs xs : List Value} {a : List UInt8} {first ok : Bool}
section
open Go.Maps
def jb(es:List EN):Prop:=es.Pairwise fun x y=>Op.bytesLess x.1.toList y.1.toList=true
theorem iR:∀x:List UInt8,Op.bytesLess x x=false
 |[]=>rfl
 |a::x=>by
  simp only[Op.bytesLess,iR x,Bool.and_false,Bool.or_false,decide_eq_false_iff_not];exact UInt8.lt_irrefl a
theorem ue:∀x y:List UInt8,Op.bytesLess x y=false→x≠y→Op.bytesLess y x=true
 |[],[],_,h=>OH rfl h
 |[],_::_,h,_=>by simp[Op.bytesLess] at h
 |_::_,[],_,_=>rfl
 |a::x,b::y,h1,h2=>by
  simp only[Op.bytesLess,Bool.or_eq_false_iff,decide_eq_false_iff_not,Bool.and_eq_false_iff] at h1;simp only[Op.bytesLess,Bool.or_eq_true,decide_eq_true_eq,Bool.and_eq_true,beq_iff_eq];by_cases e:a=b
  ·subst e;refine .inr ⟨rfl,ue x y ?_ (fun e=>h2 (by rw[e]))⟩;rcases h1.2 with h|h
   ·simp at h
   ·exact h
  ·left;have:¬a<b:=h1.1;have z:a.toNat≠b.toNat:=fun h=>e (UInt8.toNat_inj.1 h);have A:¬a.toNat<b.toNat:=fun h=>this (UInt8.lt_iff_toNat_lt.2 h);exact UInt8.lt_iff_toNat_lt.2 (by omega)
theorem uT{l:List EN}(h:jb l){nm:BA}{nd:Int}(N:∀n,(nm,n)∉l):jb (kh l nm nd):=by
 have J:∀x∈l.take (iL l nm),Op.bytesLess x.1.toList nm.toList=true:=fun x A=>by
  obtain⟨i,M,rfl⟩:=Pr A;have hi:i<iL l nm∧i<l.length:=(by rw[Pa] at M;omega);rw[List.getElem_take];have z:=List.not_of_lt_findIdx (p:=fun e:EN=>gtB e.1 nm) (xs:=l) (i:=i) hi.1;unfold gtB at z;simp only[Bool.not_eq_false',Bool.or_eq_true,beq_iff_eq] at z;rcases z with z|z
  ·exact z
  ·have L:l[i]'hi.2∈l:=O6 hi.2;have e:=pB z;generalize l[i]'hi.2=y at L e;exact OH (by rw[←e];exact L) (N y.2)
 have I:∀x∈l.drop (iL l nm),Op.bytesLess nm.toList x.1.toList=true:=fun x A=>by
  obtain⟨i,hi,rfl⟩:=Pr A;rw[O9] at hi;rw[List.getElem_drop];have E:iL l nm<l.length:=(by omega);have z:gtB (l[iL l nm]'E).1 nm=true:=List.findIdx_getElem (p:=fun e:EN=>gtB e.1 nm) (w:=E);unfold gtB at z;simp only[Bool.not_eq_true',Bool.or_eq_false_iff] at z;have K:=ue _ _ z.1 (fun e=>by rw[e] at z;simp at z);by_cases e:i=0
  ·subst e;exact K
  ·exact hV _ _ _ K (Pn.1 h (iL l nm) (iL l nm+i) E (by omega) (by omega))
 unfold kh jb;refine PS.2 ⟨List.Pairwise.sublist (List.take_sublist _ _) h,List.pairwise_cons.2 ⟨fun x A=>I x A,List.Pairwise.sublist (List.drop_sublist _ _) h⟩,fun x A y G=> ?_⟩;rcases Pd.1 G with rfl|G
 ·exact J x A
 ·exact hV _ _ _ (J x A) (I y G)
theorem jb.noName{z:List EN}(h:jb z)(s:BA):jb (noName z s):=List.Pairwise.sublist List.filter_sublist h
theorem D3{nodes:Int}{E l:List EN}{o:DO}(A:jb E)(h:iB nodes E o=some l):jb l:=by
 unfold iB at h;split at h
 ·split at h
  ·simp only[OY] at h;subst h;exact uT (A.noName _) (fun n z=>(eT.1 z).2 rfl)
  ·cases h
 ·split at h
  ·split at h
   ·cases h
   ·split at h
    ·simp only[OY] at h;subst h;exact uT ((A.noName _).noName _) (fun n z=>(eT.1 z).2 rfl)
    ·cases h
  ·split at h
   ·split at h
    ·cases h
    ·split at h
     ·simp only[OY] at h;subst h;exact A.noName _
     ·cases h
   ·cases h
def o7:Prop:=∀(b1 b2 n:Nat) (es:List EN) (W:World),n≤1048576→es.length≤300→iy es→jb es→(∀e∈es,e.1.size≤1048576)→gg W b1 b2 n es→
 Calls prog 111 #[lF b1 b2] W fun e w'=>∃v,e= .returned v∧ib w' W.heap.size v es∧Below W.heap.size W w'
theorem Jq{E l:List EN}{nodes:Int}{o:DO}(h:iB nodes E o=some l)(A:∀e∈E,e.1.size≤1048576)(G:o.2.1.size≤1048576)(I:o.2.2.1.size≤1048576):∀e∈l,e.1.size≤1048576:=by
 rintro⟨s,n⟩ z;unfold iB at h;split at h
 ·split at h
  ·simp only[OY] at h;subst h;rcases jz.1 z with⟨rfl,_⟩|z
   ·exact G
   ·exact A _ (eT.1 z).1
  ·cases h
 ·split at h
  ·split at h
   ·cases h
   ·split at h
    ·simp only[OY] at h;subst h;rcases jz.1 z with⟨rfl,_⟩|z
     ·exact I
     ·exact A _ (eT.1 (eT.1 z).1).1
    ·cases h
  ·split at h
   ·split at h
    ·cases h
    ·split at h
     ·simp only[OY] at h;subst h;exact A _ (eT.1 z).1
     ·cases h
   ·cases h
theorem fX{nodes:Int}{z:List EN}(h:eU nodes z=true):iy z∧jb z∧z.length≤300∧∀e∈z,0≤e.2∧e.2<nodes:=by
 unfold eU at h;obtain⟨K,J⟩:=OU h;have I:∀i j (hi:i<z.length) (A:j<z.length),i<j→Op.bytesLess z[i].1.toList z[j].1.toList=true∧z[i].2≠z[j].2:=fun i j hi A E=>by
  have G:=(J j A).2 i E;unfold apart at G;exact OU G
 refine⟨Pn.2 fun i j hi A E=>⟨fun e=> ?_,(I i j hi A E).2⟩,Pn.2 fun i j hi A E=>(I i j hi A E).1,K,fun e L=> ?_⟩
 ·have:=(I i j hi A E).1;rw[e,iR] at this;cases this
 ·obtain⟨i,hi,rfl⟩:=Pr L;have G:=(J i hi).1;unfold mB at G;exact(OU G).2
end
def zG(w:World)(a:OA)(xs:List BA):Prop:=0<xs.length→∃b off,a=some ⟨b,off,none⟩∧∀i (h:i<xs.length),w.cell? ⟨b,off+i,none⟩=some (.string xs[i])
theorem jO(s:BA)(w:World):Calls prog 138 #[.string s] w fun e w'=>e= .returned (.bool false)∧w'=w:=by
 have h:(s.toList==s.toList)=true:=(by simp);go_enter func138,ntmps138;go_wp2;go_ret;exact⟨rfl,rfl⟩
theorem D9(s:BA)(w:World):Calls prog 193 #[.string s] w fun e w'=>e= .returned (.bool false)∧w'=w:=by
 have h:(s.toList==s.toList)=true:=(by simp);go_enter func193,ntmps193;go_wp2;go_ret;exact⟨rfl,rfl⟩
theorem zU(x y:BA)(w:World):Calls prog 192 #[.string x,.string y] w fun e w'=>e= .returned (.bool (Op.bytesLess x.toList y.toList))∧w'=w:=by
 generalize z:Op.bytesLess x.toList y.toList=q;go_enter func192,ntmps192;go_wp2_with fail;refine(jO x w).mono ?_;rintro e A ⟨rfl,rfl⟩;go_wp2;go_ret;exact⟨rfl,rfl⟩
theorem GS{xs:List BA}{t:BA}(A:xs.Pairwise fun x y=>Op.bytesLess x.toList y.toList=true)(E:m<xs.length)(h:Op.bytesLess xs[m].toList t.toList=true):∀k (z:k<xs.length),k<m+1→Op.bytesLess xs[k].toList t.toList=true:=by
 intro k z G;by_cases e:k=m
 ·subst e;exact h
 ·exact hV _ _ _ (Pn.1 A k m z E (by omega)) h
theorem GR{xs:List BA}{t:BA}(E:xs.Pairwise fun x y=>Op.bytesLess x.toList y.toList=true)(G:m<xs.length)(h:Op.bytesLess xs[m].toList t.toList=false):∀k (A:k<xs.length),m≤k→Op.bytesLess xs[k].toList t.toList=false:=by
 intro k A I;by_cases e:k=m
 ·subst e;exact h
 ·cases e2:Op.bytesLess xs[k].toList t.toList with
  |false=>rfl
  |true=>
   have z:=hV _ _ _ (Pn.1 E m k G A (by omega)) e2;rw[h] at z;cases z
def Mz(xs:List BA)(t:BA)(e:Ending):Prop:=∃(i:Nat) (f:Bool),e= .returned (.tuple #[.int .i64 (i:Int),.bool f])∧i≤xs.length∧(∀k (h:k<xs.length),k<i→Op.bytesLess xs[k].toList t.toList=true)∧(∀k (h:k<xs.length),i≤k→Op.bytesLess xs[k].toList t.toList=false)
theorem zO(a:OA)(cap:Nat)(xs:List BA)(t:BA)(w:World)(hn:xs.length≤1048576)(V:zG w a xs)(U:xs.Pairwise fun x y=>Op.bytesLess x.toList y.toList=true):
  Calls prog 167 #[.slice a xs.length cap,.string t] w fun e w'=>Mz xs t e∧w'=w:=by
 have N:=a8 U;clear U;go_enter func167,ntmps167;go_wp2;go_loopw [7,8,9] (fun i j _ wr=>∃(p q:Nat),p≤q∧q≤xs.length∧i=iI p∧j=iI q∧(∀k (h:k<xs.length),k<p→Op.bytesLess xs[k].toList t.toList=true)∧(∀k (h:k<xs.length),q≤k→Op.bytesLess xs[k].toList t.toList=false)∧wr=w) (fun i j _ _=>(intOf j).toNat-(intOf i).toNat)
 case atStart=>exact⟨0,xs.length,O4 _,OV _,rfl,rfl,fun k _ h=>by omega,fun k h h'=>by omega,rfl⟩
 case round=>
  obtain⟨p,q,ai,G,rfl,rfl,Q,O,rfl⟩:=hrel;have E:=a8 Q;have A:=a8 O;clear Q O;by_cases ae:p<q
  ·have R:(p:Int)<(q:Int):=(by omega);obtain⟨m,hm⟩:∃m,m=(p+q)/2:=⟨_,rfl⟩
   have af:p≤m∧m<q:=(by omega);have ag:((p:Int)+(q:Int))/2=(m:Int):=(by omega);clear hm;obtain⟨b,ad,rfl,z⟩:=V (by omega);have J:m<xs.length:=(by omega);have I:=z m J;have ah:(m:Int)<(xs.length:Int):=(by omega);have M:=a8 (GS (t:=t) N J);have L:=a8 (GR (t:=t) N J);generalize ab:xs[m]=Y at I M L;clear z ab;go_wp2_with fail;refine(zU Y t wr).mono ?_;rintro e w2 ⟨rfl,rfl⟩;cases hq2:Op.bytesLess Y.toList t.toList with
   |true=>
    have K:=a8 (M.out hq2);go_wp2;go_roundw
    case rel=>exact⟨m+1,q,by omega,G,by go_num,rfl,K,A,by trivial⟩
    case measure=>simp[intOf];omega
   |false=>
    have K:=a8 (L.out hq2);go_wp2;go_roundw
    case rel=>exact⟨p,m,by omega,by omega,rfl,by go_num,E,K,by trivial⟩
    case measure=>simp[intOf];omega
  ·obtain rfl:p=q:=(by omega);by_cases aa:p<xs.length
   ·have R:(p:Int)<(xs.length:Int):=(by omega);obtain⟨b,ad,rfl,z⟩:=V (by omega);have I:=z p aa;generalize ac:xs[p]=Z at I;clear z ac;by_cases e:Z=t
    ·have hb:=iE e;clear e;go_wp2;go_ret2;exact⟨⟨p,true,rfl,G,E,A⟩,rfl⟩
    ·have hb:=iF e;clear e;go_wp2_with fail;refine(D9 Z wr).mono ?_;rintro e w2 ⟨rfl,rfl⟩;go_wp2;go_ret2;exact⟨⟨p,false,rfl,G,E,A⟩,rfl⟩
   ·have R:¬(p:Int)<(xs.length:Int):=(by omega);go_wp2;go_ret2;exact⟨⟨p,false,rfl,G,E,A⟩,rfl⟩
def lq(w:World)(base:Nat)(v:Value)(xs:List BA):Prop:=w.ownsRow base 9 1 v xs.length (xs.map Value.string)
theorem lq.at{E:Nat}{a:OA}{xs:List BA}(h:lq w E (.slice a n cap) xs):zG w a xs:=fun M=>by
 rcases h.2 with⟨_,L⟩|⟨g,K,G,z,_,I,_,_,_,J⟩
 ·omega
 ·simp only[O3] at z;refine⟨g,0,z.1,fun i hi=> ?_⟩;rw[OK w g _ _ _ (0,0) I];have A:(G.toList.take (xs.length*1))[i]? =some (.string xs[i]):=(by rw[J];simp[hi]);rw[List.getElem?_take_of_lt (by omega)] at A;simpa using A
def wu:Prop:=∀(base:Nat) (a:OA) (cap i:Nat) (xs:List BA) (t:BA) (w:World),xs.length≤1048576→i≤xs.length→base≤w.heap.size→lq w base (.slice a xs.length cap) xs→
  Calls prog 168 #[.slice a xs.length cap,.int .i64 (i:Int),sS w.heap.size 1 1] (w.alloc (.cells #[.string t] 9)) fun e w'=>∃v,e= .returned v∧lq w' base v (xs.take i++t::xs.drop i)∧Below base w w'
theorem Dn(U:wu)(z:Nat)(a:OA)(cap:Nat)(xs:List BA)(t:BA)(w:World)(J:xs.length≤1048576)(V:z≤w.heap.size)(K:lq w z (.slice a xs.length cap) xs)(G:xs.Pairwise fun x y=>Op.bytesLess x.toList y.toList=true):
  Calls prog 137 #[.slice a xs.length cap,.string t] w fun e w'=>∃v i,e= .returned v∧lq w' z v (xs.take i++t::xs.drop i)∧(∀k (h:k<xs.length),k<i→Op.bytesLess xs[k].toList t.toList=true)∧(∀k (h:k<xs.length),i≤k→Op.bytesLess xs[k].toList t.toList=false)∧Below z w w':=by
 have I:=a8 (zO a cap xs t w J K.at G);clear G;go_enter func137,ntmps137;go_wp2_with fail;refine I.mono ?_;rintro e Y ⟨⟨i,f,rfl,hi,E,A⟩,rfl⟩;have O:=a8 E;have N:=a8 A;clear E A I;go_wp2_with fail;refine(U z a cap i xs t Y J hi V K).mono ?_;rintro e Z ⟨v,rfl,L,M⟩;have Q:=a8 L;have R:=a8 M;clear L M;go_wp2;go_ret;exact⟨v,i,rfl,Q,O,N,R⟩
theorem i6{b:Nat}{t:TypeId}:∀(E:List Value) (o:Nat) (w:World) (cur:Array Value),w.heap[b]? =some (.cells cur t (0,0))→∃z,(w.setCells b o E).heap[b]? =some (.cells z t (0,0))∧z.size=cur.size∧∀j,j<cur.size→z[j]? =if o≤j∧j<o+E.length then E[j-o]? else cur[j]?
 |[],o,w,cur,h=>⟨cur,h,rfl,fun j A=>by rw[OR (by simp)]⟩
 |v::r,o,w,cur,h=>by
  obtain⟨I,J,L,K⟩:=i6 r (o+1) (w.setCell ⟨b,o,none⟩ v) (cur.setIfInBounds o v) (heap_setCell_same w b o _ _ v h);refine⟨I,J,by rw[L];simp,fun j A=> ?_⟩;rw[K j (by simpa using A)];by_cases e:o=j
  ·subst e;rw[OR (by omega),OS (by simp)];simp[A]
  ·rw[Array.getElem?_setIfInBounds_ne e];by_cases G:o+1≤j∧j<o+1+r.length
   ·rw[OS G,OS (by simp;omega),show j-o=(j-(o+1))+1 by omega,Px]
   ·rw[OR G,OR (by simp;omega)]
theorem LQ{z:Array Value}{ys:List BA}(G:A≤g)(J:w.heap[g]? =some (.cells z 9 (0,0)))(L:ys.length≤cap)(K:cap≤maxLen)(M:z.size=cap)(I:∀j (h:j<ys.length),z[j]? =some (.string ys[j])):lq w A (sS g ys.length cap) ys:=by
 refine⟨by simp,.inr ⟨g,cap,z,rfl,G,J,L,K,by omega,?_⟩⟩;apply List.ext_getElem?;intro j;by_cases E:j<ys.length
 ·rw[List.getElem?_take_of_lt (by omega)];simp[E,I j E]
 ·rw[Pt (by simp;omega),Pt (by simp;omega)]
theorem Na(xs:List BA)(t:BA)(i:Nat)(hi:i≤xs.length)(j:Nat):(xs.take i++t::xs.drop i)[j]? =if j<i then xs[j]? else if j=i then some t else xs[j-1]? :=by
 by_cases z:j<i
 ·rw[OS z,List.getElem?_append_left (by simp;omega),List.getElem?_take_of_lt z]
 ·rw[OR z,PW (by simp;omega)];have E:(xs.take i).length=i:=(by simp;omega);rw[E];by_cases A:j=i
  ·rw[OS A,A];simp
  ·rw[OR A,show j-i=(j-i-1)+1 by omega,Px,List.getElem?_drop,show i+(j-i-1)=j-1 by omega]
theorem LD(xs:List BA):∀v∈xs.map Value.string,v.oneCell'=true:=by
 intro v z;obtain⟨x,_,rfl⟩:=Pg.1 z;rfl
theorem wT(W:World)(z cap:Nat)(xs:List BA)(t:BA)(I:xs.length≤1048576)(G:z≤W.heap.size):
  lq (W.drew.alloc (.cells ((xs.map Value.string++[Value.string t]).toArray++Builtin.zeroCells (Value.string ⟨#[]⟩).cells (grownCap W (xs.length+1) cap 9-(xs.length+1))) 9)) z (sS W.heap.size (xs.length+1) (grownCap W (xs.length+1) cap 9)) (xs.take xs.length++t::xs.drop xs.length):=by
 have E:=grownCap_ge W (xs.length+1) cap 9;have A:grownCap W (xs.length+1) cap 9≤maxLen:=grownCap_le_maxLen W _ _ 9 (by unfold maxLen;omega);have e:xs.take xs.length++t::xs.drop xs.length=xs++[t]:=(by simp);rw[e];refine⟨by simp,.inr ⟨W.heap.size,_,_,by simp,G,OP W.drew _,by simpa using E,A,?_,?_⟩⟩
 ·simp[size_zeroCells,Value.cells];omega
 ·rw[Array.toList_append,O7];exact List.take_left' (by simp)
theorem jm{B b:Nat}{a:World}(z:B≤b):∀(A:List Value) (o:Nat) (w:World),Below B a w→Below B a (w.setCells b o A)
 |[],_,_,h=>h
 |v::r,o,_,h=>jm z r (o+1) _ (h.setCell (p:=⟨b,o,none⟩) z v)
theorem yu{z:Array Value}{xs:List BA}{t:BA}(hi:i≤xs.length)(J:A≤g)(L:w.heap[g]? =some (.cells z 9 (0,0)))(R:xs.length+1≤cap)(O:cap≤maxLen)(Q:z.size=cap)
  (K:∀j,j<xs.length+1→z[j]? =if j<i then xs[j]?.map Value.string else if j=i then some (.string t) else xs[j-1]?.map Value.string):lq w A (sS g (xs.length+1) cap) (xs.take i++t::xs.drop i):=by
 have N:(xs.take i++t::xs.drop i).length=xs.length+1:=(by simp;omega);have h:=LQ (ys:=xs.take i++t::xs.drop i) J L (by omega) O Q (fun j M=>by
  have I:=K j (by omega);have E:=Na xs t i hi j;rw[OZ M] at E;rw[I];have G:=OL (Option.map Value.string) E;rw[Option.map_some] at G;rw[G];split
  ·rfl
  ·split<;>rfl)
 rw[N] at h;exact h
theorem yv:wu:=by
 intro L a cap i xs t w hn hi hb ho;have N:∀v∈[Value.string t],v.oneCell'=true:=(by simp[Value.oneCell']);have ap:=LD xs;have ac:(w.alloc (.cells #[.string t] 9)).heap[w.heap.size]? =some (.cells #[.string t] 9 (0,0)):=OP w _;have R:∀j v,[Value.string t][j]? =some v→(w.alloc (.cells #[.string t] 9)).cell? ⟨w.heap.size,0+j,none⟩=some v:=by
  intro j v h;rw[OK _ w.heap.size (0+j) _ _ (0,0) ac];rcases j with _|j
  ·simpa using h
  ·simp at h
 have M:Below L w (w.alloc (.cells #[.string t] 9)):=(OX L w).alloc hb _;have E:L≤(w.alloc (.cells #[.string t] 9)).heap.size:=(by simp;omega);rcases ho.2 with⟨Z,h0⟩|⟨g,ay,G,Z,O,hg,am,ae,az,ah⟩
 ·obtain rfl:xs=[]:=Pp.1 h0;simp only[O3] at Z;obtain⟨rfl,-,rfl⟩:=Z;obtain rfl:i=0:=(by simpa using hi);refine(Any2.slices_Insert_string_end_grow laysNm222 none 0 0 w.heap.size 0 1 1 [] [.string t] _ (by omega) (by omega) (by omega) (by omega) rfl rfl (fun _=>rfl) (fun _ h=>by cases h) R N).mono ?_;rintro e w' ⟨rfl,rfl⟩;exact⟨_,rfl,wT _ L 0 [] t hn E,(OI M 1).alloc E _⟩
 ·simp only[O3] at Z;obtain⟨rfl,-,rfl⟩:=Z;have ar:g<w.heap.size:=by
   rcases PV g w.heap.size with K|K
   ·exact K
   ·rw[Array.getElem?_eq_none K] at hg;cases hg
  have I:(w.alloc (.cells #[.string t] 9)).heap[g]? =some (.cells G 9 (0,0)):=(heap_alloc_old w _ ar).trans hg;have af:∀j v,(xs.map Value.string)[j]? =some v→(w.alloc (.cells #[.string t] 9)).cell? ⟨g,0+j,none⟩=some v:=by
   intro j v h;rw[OK _ g (0+j) _ _ (0,0) I,Ps];rw[←ah] at h;have A:j<xs.length:=by
    rcases PV j xs.length with K|K
    ·exact K
    ·rw[Pt (by simp;omega)] at h;cases h
   rw[List.getElem?_take_of_lt (by omega)] at h;simpa using h
  have ai:∀j,j<xs.length→G[j]? =xs[j]?.map Value.string:=by
   intro j A;have h:=OL (fun l=>l[j]?) ah;simp only[PE] at h;rw[List.getElem?_take_of_lt (by omega)] at h;simpa using h
  by_cases aa:xs.length+1≤cap
  ·have ao:∀j,j<xs.length+1→((w.alloc (.cells #[.string t] 9)).cell? ⟨g,0+j,none⟩).isSome=true:=by
    intro j A;rw[OK _ g (0+j) _ _ (0,0) I];simp;omega
   have ak:∀j,(w.alloc (.cells #[.string t] 9)).frozen? ⟨g,j,none⟩=false:=fun j=>(by simp[World.frozen?,I]);have aj:∀j,(w.alloc (.cells #[.string t] 9)).frozen? ⟨w.heap.size,j,none⟩=false:=fun j=>(by simp only[World.frozen?,ac];simp);have av:(w.alloc (.cells #[.string t] 9)).shape? g=some (9,G.size):=(by simp[World.shape?,I]);have aw:(w.alloc (.cells #[.string t] 9)).shape? w.heap.size=some (9,1):=(by simp only[World.shape?,ac];simp);have al:cap≤9223372036854775807:=(by unfold maxLen at ae;omega);by_cases ag:i=xs.length
   ·subst ag;refine(Any2.slices_Insert_string_end_room laysNm222 g 0 xs.length cap w.heap.size 0 1 1 [.string t] _ (by omega) aa al rfl (fun j A=>by rw[Nat.add_assoc];exact ao _ (by omega)) (fun j A=>ak _) R N).mono ?_;rintro e w' ⟨rfl,rfl⟩;obtain⟨J,U,ab,Q⟩:=i6 [.string t] (0+xs.length) _ G I;refine⟨_,rfl,yu (OV _) O U aa ae (by omega) (fun j A=> ?_),jm O _ _ _ M⟩;rw[Q j (by omega)];by_cases z:j<xs.length
    ·rw[OR (by omega),OS z,ai j z]
    ·obtain rfl:j=xs.length:=(by omega);simp
   ·refine(Any2.slices_Insert_string_shift laysNm222 g 0 xs.length cap i w.heap.size 0 1 1 (xs.map .string) [.string t] _ (by omega) (by omega) aa al (by omega) (by simp) rfl af ao (fun j _=>ak _) R ap N 9 9 1 G.size aw av (by omega) (aj _) (aj _)).mono ?_;rintro e w' ⟨rfl,rfl⟩;obtain⟨J,U,ab,Q⟩:=i6 ((xs.map Value.string).drop i) (0+(i+1)) (w.alloc (.cells #[.string t] 9)).drew G I;obtain⟨c3,h3,an,ad⟩:=i6 [.string t] (0+i) _ J U;refine⟨_,rfl,yu hi O h3 aa ae (by omega) (fun j A=> ?_),jm O _ _ _ (jm O _ _ _ (OI M 1))⟩;rw[ad j (by omega),Q j (by omega)];by_cases z:j<i
    ·rw[OR (by omega),OR (by omega),OS z,ai j (by omega)]
    ·by_cases Y:j=i
     ·subst Y;simp
     ·rw[OR (by simp;omega),OS (by simp;omega),OR z,OR Y,List.getElem?_drop,PE,show i+(j-(0+(i+1)))=j-1 by omega]
  ·by_cases ag:i=xs.length
   ·subst ag;refine(Any2.slices_Insert_string_end_grow laysNm222 (some ⟨g,0,none⟩) xs.length cap w.heap.size 0 1 1 (xs.map .string) [.string t] _ (by omega) am (by omega) (by omega) (by simp) rfl (fun h=>by cases h) (fun a h j v A=>by cases h;rw[Addr.add_lit];exact af j v A) R N).mono ?_;rintro e w' ⟨rfl,rfl⟩;exact⟨_,rfl,wT _ L cap xs t hn E,(OI M 1).alloc E _⟩
   ·refine(Any2.slices_Insert_string_grow laysNm222 g 0 xs.length cap i w.heap.size 0 1 1 (xs.map .string) [.string t] _ (by omega) (by omega) am (by omega) (by omega) (by simp) rfl af R ap N).mono ?_;rintro e w' ⟨rfl,rfl⟩;have aq:=grownCap_ge (w.alloc (.cells #[.string t] 9)) (xs.length+1) cap 9;have au:grownCap (w.alloc (.cells #[.string t] 9)) (xs.length+1) cap 9≤maxLen:=grownCap_le_maxLen _ _ _ 9 (by unfold maxLen;omega);generalize hW:w.alloc (.cells #[.string t] 9)=W at*;obtain⟨J,U,ab,Q⟩:=i6 [.string t] i (W.alloc (.cells (((xs.map Value.string).take i).toArray++Builtin.zeroCells (Value.string ⟨#[]⟩).cells (xs.length+1-i)++Builtin.zeroCells (Value.string ⟨#[]⟩).cells (grownCap W (xs.length+1) cap 9-(xs.length+1))) 9)).drew _ (OP W _);have ax:=fun(V:World) (h:V.heap[W.heap.size]? =some (.cells J 9 (0,0)))=>i6 ((xs.map Value.string).drop i) (i+1) V.drew J h;obtain⟨c3,h3,an,ad⟩:=ax _ U;refine⟨_,rfl,yu hi E h3 aq au ?_ (fun j A=> ?_),jm E _ _ _ (OI (jm E _ _ _ (OI (M.alloc E _) 1)) 1)⟩
    ·show _=grownCap W (xs.length+1) cap 9;rw[an,ab];simp[size_zeroCells,Value.cells];omega
    ·have hC:J.size=grownCap W (xs.length+1) cap 9:=(by rw[ab];simp[size_zeroCells,Value.cells];omega);rw[ad j (by omega),Q j (by omega)];by_cases z:j<i
     ·rw[OR (by omega),OR (by omega),OS z,Array.append_assoc,Array.getElem?_append_left (by simp;omega)];simp[z]
     ·by_cases Y:j=i
      ·subst Y;rw[OR (by omega)];simp
      ·rw[OS (by simp;omega),OR z,OR Y,List.getElem?_drop,PE,show i+(j-(i+1))=j-1 by omega]
section
open Go.Maps
theorem oT{P:Program}{k:TypeId}(E:P.underlying k=some .string){z:Value}{A:Lit}(h:keyOf P k z=some A):∃s:BA,z= .string s∧A= .string s.data.toList∧s.size≤maxLen:=by
 cases z<;>simp[keyOf,E,mapKey] at h;exact⟨_,rfl,h.2.symm,h.1⟩
theorem nw{H:Type}{P:Program}(w:World){L:Array Oper}{J:List Oper}{o:Oper}{a:Act}{Q:Exit→Act→World→Prop}
  (hg:o.guard=none) (M:Operand) (ad:o.op=Op.next M false) (k e:TypeId) (G:IntKind) (K:Keyed P k) (O:P.underlying k=some .string) (he:P.underlying e=some (.int G))
  (b r n:Nat) (D:DataW H) (left:Lit→Bool) (E:Nat) (aa:a.eval M=pP r) (h:w.ranges P k (plainElem P e) b r n D left E)
  (U:E=0→(∀N,left N=false)→wpList P L Q J (a.put o.dst (.tuple #[.bool false])) w)
  (V:∀(x:BA) (c:Int) (w':World) (A:Nat),x.size≤maxLen→left (.string x.data.toList)=true→w'.ranges P k (plainElem P e) b r n D (fun z=>left z&& !z.sameKey (.string x.data.toList)) A→A<E→
   w.grownBy w' (some r)→w'.heap.size=w.heap.size→(Instr.entry (pP r)).run P w'= .ok (.tuple #[.string x,.int G c]) w'→wpList P L Q J (a.put o.dst (.tuple #[.bool true,.string x,.int G c])) w'):
  wpList P L Q (o::J) a w:=
 wpList_next_ranges w hg M ad k K (plainElem P e) Value.string (Value.int G) (fun ai N I=>by obtain⟨x,rfl,_⟩:=oT O I;exact⟨x,rfl⟩) (fun v y R=>by obtain⟨c,rfl,_⟩:=plainElem_int_inv he R;exact⟨c,rfl⟩)
  b r n D left E aa h U (fun x c N y w' A I ab R ah ae ac Z af Y=>by
   obtain⟨x',ex,rfl,ag⟩:=oT O I;cases ex;exact V x c w' A ag ab ae ac Z af Y)
def py(xs:List BA):Prop:=xs.Pairwise fun x y=>Op.bytesLess x.toList y.toList=true
theorem uS:∀{xs ys:List BA},py xs→py ys→(∀s,s∈xs↔s∈ys)→xs=ys
 |[],[],_,_,_=>rfl
 |[],y::_,_,_,h=>OH ((h y).2 (.head _)) (by simp)
 |x::_,[],_,_,h=>OH ((h x).1 (.head _)) (by simp)
 |x::xs,y::ys,h1,h2,h=>by
  obtain⟨E,G⟩:=List.pairwise_cons.1 h1;obtain⟨b1,b2⟩:=List.pairwise_cons.1 h2;have e:x=y:=by
   rcases Pd.1 ((h x).1 (.head _)) with e|I
   ·exact e
   ·rcases Pd.1 ((h y).2 (.head _)) with e|J
    ·exact e.symm
    ·exact OH (hV _ _ _ (b1 _ I) (E _ J)) (by rw[iR];decide)
  subst e;rw[uS G b2 fun s=>⟨fun z=> ?_,fun z=> ?_⟩]
  ·rcases Pd.1 ((h s).1 (.tail _ z)) with e|A
   ·exact OH (E _ z) (by rw[e,iR];decide)
   ·exact A
  ·rcases Pd.1 ((h s).2 (.tail _ z)) with e|A
   ·exact OH (b1 _ z) (by rw[e,iR];decide)
   ·exact A
theorem Ed{xs:List BA}{t:BA}{i:Nat}(h:py xs)(M:t∉xs)(K:∀k (h:k<xs.length),k<i→Op.bytesLess xs[k].toList t.toList=true)(J:∀k (h:k<xs.length),i≤k→Op.bytesLess xs[k].toList t.toList=false):py (xs.take i++t::xs.drop i):=by
 have G:∀x∈xs.take i,Op.bytesLess x.toList t.toList=true:=fun x z=>by
  obtain⟨k,A,rfl⟩:=Pr z;rw[Pa] at A;rw[List.getElem_take];exact K k (by omega) (by omega)
 have I:∀x∈xs.drop i,Op.bytesLess t.toList x.toList=true:=fun x z=>by
  obtain⟨k,A,rfl⟩:=Pr z;rw[O9] at A;rw[List.getElem_drop];have L:xs[i+k]'(by omega)∈xs:=O6 _;exact ue _ _ (J (i+k) (by omega) (by omega)) (fun e=>M (by rw[←pB e];exact L))
 refine PS.2 ⟨h.sublist (List.take_sublist _ _),List.pairwise_cons.2 ⟨I,h.sublist (List.drop_sublist _ _)⟩,fun x z y E=> ?_⟩;rcases Pd.1 E with rfl|E
 ·exact G x z
 ·exact hV _ _ _ (G x z) (I y E)
theorem Lw{xs:List BA}{t s:BA}{i:Nat}:s∈xs.take i++t::xs.drop i↔s=t∨s∈xs:=by
 rw[Pj,Pd];constructor
 ·rintro(h|h|h)
  ·exact .inr (Pi h)
  ·exact .inl h
  ·exact .inr (Pk h)
 ·rintro(h|h)
  ·exact .inr (.inl h)
  ·rw[←Pz i xs,Pj] at h;rcases h with h|h
   ·exact .inl h
   ·exact .inr (.inr h)
structure xN(D1:DU)(left:Lit→Bool)(xs:List BA):Prop where
 so:py xs
 sub:∀s,left (kS s)=true→Maps.has D1 (kS s)=true
 mem:∀s,s∈xs↔Maps.has D1 (kS s)=true∧left (kS s)=false
theorem xN.start(z:DU):xN z (Maps.has z) []:=⟨.nil,fun _ h=>h,fun s=>⟨(fun h=>by cases h),fun h=>by rw[h.1] at h;exact OH h.2 (by decide)⟩⟩
theorem xN.more{I:DU}{left:Lit→Bool}{xs:List BA}{t:BA}{i:Nat}(h:xN I left xs)(G:left (kS t)=true)(M:∀k (h:k<xs.length),k<i→Op.bytesLess xs[k].toList t.toList=true)(L:∀k (h:k<xs.length),i≤k→Op.bytesLess xs[k].toList t.toList=false):xN I (fun z=>left z&& !z.sameKey (kS t)) (xs.take i++t::xs.drop i):=by
 have O:t∉xs:=fun N=>(by rw[((h.mem t).1 N).2] at G;cases G);refine⟨Ed h.so O M L,fun s K=>h.sub s (by simp only[Bool.and_eq_true] at K;exact K.1),fun s=> ?_⟩;rw[Lw,h.mem];have J:(kS s).sameKey (kS t)=true↔s=t:=⟨fun e=>qU (WideAt.sameKey_eq e),fun e=>by rw[e];exact WideAt.sameKey_self (Do t)⟩
 constructor
 ·rintro(rfl|⟨E,A⟩)
  ·exact⟨h.sub _ G,by rw[J.2 rfl];simp⟩
  ·exact⟨E,by rw[A];rfl⟩
 ·rintro⟨E,A⟩;by_cases e:s=t
  ·exact .inl e
  ·right;refine⟨E,?_⟩;cases hl:left (kS s) with
   |false=>rfl
   |true=>
    rw[hl] at A;simp only[Bool.true_and,Bool.not_eq_false'] at A;exact OH (J.1 A) e
theorem xN.done{E I:DU}{left:Lit→Bool}{xs:List BA}{z:List EN}(h:xN E left xs)(J:∀M,left M=false)(G:lr E I z)(L:jb z):xs=z.map Prod.fst:=by
 refine uS h.so (List.pairwise_map.2 L) fun s=> ?_;rw[h.mem,Pg];constructor
 ·rintro⟨K,_⟩;obtain⟨n,A⟩:=G.r2 s K;exact⟨(s,n),A,rfl⟩
 ·rintro⟨⟨s',n⟩,A,rfl⟩;exact⟨(G.r1 _ _ A).1,J _⟩
end
section
open Go.Maps
theorem Lo{w:World}{b1 b2 n:Nat}{A:List EN}(h:gg w b1 b2 n A):∀z,(Builtin.len_ #[189] z #[.map (some b1)]).run prog w= .ok (.int .i64 (A.length:Nat)) w:=fun z=>by
 obtain⟨J,K,G,I⟩:=h;have E:=G.o1.len underlying189 z;rw[I.sz] at E;exact E
theorem Mq{n:Int}(z:0≤n)(A:n≤1048576):(Lit.int .i64 n).wf=true:=WalkArith.wf_i64 (by omega)
theorem JM(HE:o7)(Z N a3 Q:OA)(c1 U c3 c4:Nat)(ns:List (LN×Int))(nm A:List EN)(z:List DO)(qt:Int)(w:World)(bP:ns.length≤600)(bc:eU (ns.length:Int) A=true)(aK:∀e∈A,e.1.size≤1048576)(bf:∀o∈z,o.2.1.size≤1048576∧o.2.2.1.size≤1048576)(bi:∀o∈z,(Lit.int .i64 o.2.2.2).wf=true)(h2:fI w N nm)(h3:fI w a3 A)(h4:o9 w Q z):
  Calls prog 86 #[.agg #[.slice Z ns.length c1,.slice N nm.length U,.slice a3 A.length c3,.slice Q z.length c4,.int .i64 qt]] w (oj w (z.length≤1000∧gO (ns.length:Int) A z=some nm)):=by
 obtain⟨aM,bj,bD,aN⟩:=fX bc;have af:Below w.heap.size w (w.alloc (.cells #[.slice Z ns.length c1,.slice N nm.length U,.slice a3 A.length c3,.slice Q z.length c4,.int .i64 qt] 34)):=(OX _ _).alloc (OV _) _;have L0:=ed.new w #[.slice Z ns.length c1,.slice N nm.length U,.slice a3 A.length c3,.slice Q z.length c4,.int .i64 qt] 34;have aD:=a8 (vM a3 c3 A _ (by omega) aK (fun e he=>Mq (aN e he).1 (by have:=(aN e he).2;omega)) aM (h3.below af));have aR:=a8 (h2.below af);have aS:=a8 (h4.below af);have O:=a8 af;have al:=a8 L0;have bu:=a8 aK;have bw:=a8 bf;have bx:=a8 bi;have bm:=a8 aM;have bn:=a8 bj;clear bc af L0 h2 h3 h4 aK bf bi aM bj aN;by_cases g4:(1000:Int)<(z.length:Int)
 ·go_enter func86,ntmps86;go_wp2;go_ret;exact ii (fun h=>by omega) O.out
 have an:=a8 (show(z.length≤1000∧gO (ns.length:Int) A z=some nm)=(gO (ns.length:Int) A z=some nm) from propext ⟨fun h=>h.2,fun h=>⟨by omega,h⟩⟩);generalize (z.length≤1000∧gO (ns.length:Int) A z=some nm)=V at an⊢;go_enter func86,ntmps86;go_wp2_with fail;generalize w.alloc (.cells #[.slice Z ns.length c1,.slice N nm.length U,.slice a3 A.length c3,.slice Q z.length c4,.int .i64 qt] 34)=W0 at aD aR aS O al⊢;refine(aD.out).mono ?_;rintro e M ⟨b1,b2,rfl,ba,bb,ah,ac⟩;have ao:=al.below ac al.lt;obtain⟨-,-,-,r3⟩:=ao.c4;have bM:=al.lt;have hA:=nAl M (.cells #[.map (some b1),.map (some b2)] 191);have bk:(M.alloc (.cells #[.map (some b1),.map (some b2)] 191)).cell? ⟨w.heap.size,3,none⟩=some (.slice Q z.length c4):=(hA.cell (p:=⟨w.heap.size,3,none⟩) (dG r3)).trans r3;have aC:=a8 (ah.below hA ah.lt.1 ah.lt.2);have ad:=a8 (ed.new M #[.map (some b1),.map (some b2)] 191);have ax:=a8 (ao.below hA ao.lt);have aA:=a8 (ac.trans (hA.mono ac.size));have bH:=ah.lt;have bO:=ac.size;unfold lF;clear ah ac ao aD;go_wp2;generalize hW:M.alloc (.cells #[.map (some b1),.map (some b2)] 191)=W at aC ad ax aA bk⊢;clear hW hA r3;go_loopw [5,16] (fun _ i wr=>∃(k:Nat) (E:List EN),k≤z.length∧i=iI k∧gg wr b1 b2 (A.length+k) E∧iy E∧jb E∧E.length≤300∧(∀e∈E,e.1.size≤1048576)∧gO (ns.length:Int) A z=gO (ns.length:Int) E (z.drop k)∧ed wr w.heap.size #[.slice Z ns.length c1,.slice N nm.length U,.slice a3 A.length c3,.slice Q z.length c4,.int .i64 qt] 34∧ed wr M.heap.size #[.map (some b1),.map (some b2)] 191∧Below W0.heap.size W0 wr) (fun _ i _=>z.length-(intOf i).toNat)
 case atStart=>exact⟨0,A,O4 _,rfl,aC,bm,bn,bD,bu,rfl,ax,ad,aA⟩
 case round=>
  obtain⟨k,E,hk,rfl,hl,aZ,bg,bA,bh,bd,aq,ag,ap⟩:=hrel;obtain⟨u0,u1⟩:=aq.c2;obtain⟨m0,m1⟩:=ag.c2;have bN:=ag.lt;have ak:=hl.lt;have bK:=ap.size;have aE:=a8 bd;have HL:=a8 hl;have az:=a8 aZ;have aW:=a8 bg;have aX:=a8 bh;have aT:=a8 aq;have aU:=a8 ag;have aB:=a8 ap;have bz:=bTr O ap;have bI:=O.size;clear bd hl aZ bg bh aq ag ap aC ad ax aA bk;by_cases ar:k<z.length
  ·have aH:=aE.out;rw[Pv ar,gO] at aH;obtain⟨b,bQ,rfl,hc⟩:=(aS.below aB) (by omega)
   obtain⟨d0,d1,d2,d3⟩:=hc k ar;obtain⟨au,av⟩:=bw.out _ (O6 ar);have aL:=bx.out _ (O6 ar);have ab:=a8 aH;clear aH hc aE;generalize bB:z[k]=oo at d0 d1 d2 d3 au av aL ab;obtain⟨K,I,J,G⟩:=oo;clear bB;simp only at d0 d1 d2 d3 au av aL ab;have ae:=nAl wr (.cells #[.int .i64 K,.string I,.string J,.int .i64 G] 111);have am:=a8 (BD b1 b2 (A.length+k) E K I J G (ns.length:Int) _ au av (by omega) aL (HL.below ae ak.1 ak.2) az);unfold lF at am;have aw:=a8 (aT.below ae aT.lt);have aj:=a8 (aU.below ae aU.lt);have aF:=bTr aB ae;have bG:(wr.alloc (.cells #[.int .i64 K,.string I,.string J,.int .i64 G] 111)).cell? ⟨w.heap.size,0,none⟩=some (.slice Z ns.length c1):=aw.cell 0;obtain⟨bE,bF⟩:=aj.c2;have bC:(wr.alloc (.cells #[.int .i64 K,.string I,.string J,.int .i64 G] 111)).heap.size=wr.heap.size+1:=OG ..;clear ae;go_wp2_with fail;generalize wr.alloc (.cells #[.int .i64 K,.string I,.string J,.int .i64 G] 111)=W5 at am aw aj aF bG bE bF bC⊢;refine(am.out).mono ?_;intro e w6 hp;clear am u0 u1 m0 m1 d0 d1 d2 d3;have aV:=a8 (fun L (h:iB (ns.length:Int) E (K,I,J,G)=some L)=>Jq h aX au av);have aO:=a8 (fun L (h:iB (ns.length:Int) E (K,I,J,G)=some L)=>JS az h);have aP:=a8 (fun L (h:iB (ns.length:Int) E (K,I,J,G)=some L)=>D3 aW h);generalize iB (ns.length:Int) E (K,I,J,G)=R at ab hp aV aO aP;cases R with
   |none=>
    obtain⟨rfl,ai,Y⟩:=hp;have HN:=a8 (show¬V by rw[an.out,ab.out];simp);have aa:=a8 (O.trans ((aF.trans (Y.below (B:=W0.heap.size) ba bb (by omega))).mono O.size));clear ai Y;go_wp2;go_ret;exact ii HN aa.out
   |some L=>
    obtain⟨rfl,ai,Y⟩:=hp;have aG:=aj.off Y (by omega) (by omega);have n0:w6.cell? ⟨M.heap.size,0,none⟩=some (.map (some b1)):=aG.cell 0;have bL:=Lo ai;have bo:=a8 ai;have aY:=a8 (aF.trans (Y.below (B:=W0.heap.size) ba bb (by omega)));have bp:=a8 (aw.off Y (by omega) (by omega));have ad:=a8 aG;clear ai Y aG;by_cases bJ:(300:Int)<(L.length:Int)
    ·have HN:=a8 (show¬V by rw[an.out,ab.out];simp only;rw[OS (by omega)];simp);have aa:=a8 (O.trans (aY.mono O.size));go_wp2;go_ret;exact ii HN aa.out
    ·have br:=a8 (show gO (ns.length:Int) A z=gO (ns.length:Int) L (z.drop (k+1)) by rw[ab.out];simp only;rw[OR (by omega)]);go_wp2;go_roundw
     case rel=>exact⟨k+1,L,by omega,by go_num,bo,aO.out L rfl,aP.out L rfl,by omega,aV.out L rfl,br,bp,ad,aY⟩
     case measure=>simp[intOf];omega
  ·obtain rfl:k=z.length:=(by omega);have ay:=aE.out;rw[PO,gO] at ay;have bl:=a8 ay;have aQ:=a8 (fun(X:World) (hX:Below wr.heap.size wr X)=>HE b1 b2 (A.length+z.length) E X (by omega) bA az aW aX (HL.below hX ak.1 ak.2));unfold lF at aQ;clear ay;go_wp2;go_region_with (first
    |(go_at_call 111;refine(aQ.out _ (OX _ _).drew).mono ?_;rintro e w6 ⟨v6,rfl,aJ,aI⟩;obtain⟨a6,c6,rfl⟩:=aJ.slice;have bR:w6.cell? ⟨w.heap.size,1,none⟩=some (.slice N nm.length U):=(aI.cell (p:=⟨w.heap.size,1,none⟩) (dG u1)).trans u1;have bq:=a8 aJ;have aa:=a8 (((OX wr.heap.size wr).drew).trans aI);clear aJ aI)
    |(go_at_call 110;refine(De a6 N c6 U E nm w6 (by omega) bq.at ((aR.below aB).below aa)).mono ?_;rintro e w7 ⟨⟨r,rfl,be⟩,n7,rfl⟩;have bt:=a8 be;clear be))
   all_goals
    go_wp2;go_ret;exact⟨r,rfl,by rw[bt.out,an.out,bl.out];simp,OI (bz.trans (aa.mono (by omega))) _⟩
end
section
open Go.Maps
theorem yP{H:Type}{P:Program}{w w':World}{k:TypeId}{R:Value→Option (DataW H×List MemPlace)}{b r n:Nat}{D:DataW H}{left:Lit→Bool}{z:Nat}(h:w.ranges P k R b r n D left z)(K:w'.heap[b]? =w.heap[b]?)(L:w'.heap[r]? =w.heap[r]?):w'.ranges P k R b r n D left z:=by
 obtain⟨M,A,E,I,J,O,F,U,N,Q,G⟩:=h;exact⟨M,A,E,I,J,K.trans O,F,U,N,L.trans Q,G⟩
theorem lq.grown{w w':World}{z r:Nat}{v:Value}{xs:List BA}(h:lq w z v xs)(K:w.grownBy w' (some r))(M:r<z):lq w' z v xs:=by
 refine⟨h.1,?_⟩;rcases h.2 with I|⟨g,cap,G,L,J,A,E⟩
 ·exact .inl I
 ·exact .inr ⟨g,cap,G,L,J,(K.block g (OT A) (fun e=>by simp only[OY] at e;omega)).trans A,E⟩
theorem lq.slice{w:World}{z:Nat}{v:Value}{xs:List BA}(h:lq w z v xs):∃a cap,v= .slice a xs.length cap:=by
 rcases h.2 with⟨A,E⟩|⟨g,cap,I,G,_⟩
 ·exact⟨none,0,by rw[E];exact A⟩
 ·exact⟨_,cap,G⟩
theorem zG.below{w w':World}{a:OA}{xs:List BA}(h:zG w a xs)(E:Below w.heap.size w w'):zG w' a xs:=fun G=>by
 obtain⟨b,z,rfl,A⟩:=h G;exact⟨b,z,rfl,fun i hi=>by rw[E.cell (p:=⟨b,z+i,none⟩) (dG (A i hi))];exact A i hi⟩
theorem qz{E:Array Oper}{A:List Oper}{o:Oper}{z:Act}{Q:Exit→Act→World→Prop}(w:World)(J:o.guard=none)(s x:Operand)
  (N:o.op=Op.makeSlice 31 s x) (n:Nat) (O:z.eval s= .int .i64 0) (R:z.eval x= .int .i64 (n:Int)) (Y:n≤1048576)
  (h:∀w',ib w' w.heap.size (sS w.heap.size 0 n) []→Below w.heap.size w w'→wpList prog E Q A (z.put o.dst (sS w.heap.size 0 n)) w'):wpList prog E Q (o::A) z w:=by
 obtain⟨U,hi,K,L,M⟩:=info_parts qT;refine wpList_make_own w J s x 31 N w.heap.size 63 U (.agg #[.string ByteArray.empty,.int .i64 0]) 2 underlying31 hi K L .i64 .i64 _ n O R rfl (by rw[M];omega) (by unfold maxLen;omega) (OV _) ?_;intro V I G;exact h V I ((OX _ _).grown G (OV _) (fun k h=>by cases h))
theorem vy:o7:=by
 intro b1 b2 n z W hn hl bh aV aW hL;obtain⟨L,D2,J,hr⟩:=hL;have hA:=nAl W (.cells #[.map (some b1),.map (some b2)] 191);have L0:=ed.new W #[.map (some b1),.map (some b2)] 191;have aL:=J.below hA J.o1.lt J.o2.lt;have br:=J.o1.lt;have hz:(W.alloc (.cells #[.map (some b1),.map (some b2)] 191)).heap.size=W.heap.size+1:=OG ..;have aI:=a8 aL.o1;have HA:=a8 hA;have aH:=a8 L0;have HR:=a8 hr;have aJ:=a8 aV;have be:=a8 aW;clear hA L0 aL J hr aV aW bh;unfold lF;go_enter func111,ntmps111;go_wp2_with (first|(at_range;refine wpList_range_own _ rfl _ 189 rfl 9 3 kw underlying189 (plainElem prog 3) b1 n L rfl aI ?_;intro w0 aa ag aU)|go_in)
 go_frame
 rw[hz] at aa aU⊢;have aC:=a8 (HA.grown ag (by simp) (fun k h=>by cases h));have aG:=a8 (show ed w0 W.heap.size #[.map (some b1),.map (some b2)] 191 from(ag.block W.heap.size (by rw[hz];omega) (by simp)).trans aH);have aw:=a8 aa;clear aa ag HA aH aI;go_loopw [3,4] (fun nv _ wr=>∃(left:Lit→Bool) (ae:Nat) (xs:List BA) (a:OA) (cap:Nat),wr.ranges prog 9 (plainElem prog 3) b1 (W.heap.size+1) n L left ae∧xN L left xs∧xs.length+ae≤z.length∧nv= .slice a xs.length cap∧lq wr (W.heap.size+2) (.slice a xs.length cap) xs∧ed wr W.heap.size #[.map (some b1),.map (some b2)] 191∧Below W.heap.size W wr∧W.heap.size+2≤wr.heap.size) (fun _ _ wr=>wr.rangeLeft b1 (W.heap.size+1))
 case atStart=>exact⟨_,_,[],none,0,aw,xN.start L,by rw[HR.sz];simp,rfl,⟨rfl,.inl ⟨rfl,rfl⟩⟩,aG,aC,by omega⟩
 case round=>
  obtain⟨left,ae,xs,a,cap,aT,am,bb,rfl,aA,an,az,bj⟩:=hrel;clear aw aG aC aU;have Q:=a8 aT;have M:=a8 am;have HO:=a8 aA;have I:=a8 an;have G:=a8 az;clear aT am aA an az;go_wp2_with (first|(at_next;refine nw _ rfl _ rfl 9 3 .i64 kw underlying9 underlying3 b1 (W.heap.size+1) n _ _ _ rfl Q ?_ ?_;intro bk aR;rotate_left;intro x c w1 ba bw bm aB ai Y bt bl;rotate_right)|(at_make;refine qz _ rfl _ _ rfl xs.length rfl rfl (by omega) ?_;intro w3 Z R)|fail)
  rotate_left
  ·
   have ap:=HO.grown Y (by omega);have aF:=a8 (fun i h1 h2=>M.more (t:=x) (i:=i) bm h1 h2);have ax:=a8 aB;have ar:=a8 (G.grown Y (by omega) (fun k h=>by simp only[OY] at h;omega));have av:=a8 (show ed w1 W.heap.size #[.map (some b1),.map (some b2)] 191 from(Y.block W.heap.size (by omega) (by simp)).trans I);refine(Dn yv (W.heap.size+2) a cap xs x w1 (by omega) (by omega) ap M.so).mono ?_;rintro e w2 ⟨v,i,rfl,hv,aS,aO,A⟩;obtain⟨a2,aZ,rfl⟩:=hv.slice;have ao:(xs.take i++x::xs.drop i).length=xs.length+1:=(by rw[O1,Pf,Pa,O9];omega);have ay:=a8 (yP ax (A.block b1 (by omega)) (A.block (W.heap.size+1) (by omega)));have aY:=a8 (show ed w2 W.heap.size #[.map (some b1),.map (some b2)] 191 from(A.block W.heap.size (by omega)).trans av);have aX:=a8 (ar.trans (A.mono (by omega)));have aE:=a8 (aF.out i aS aO);have HV:=a8 hv;have bq:=A.size;clear hv aS aO A ap aB Y bl aF HO M ar av I G ax;generalize xs.take i++x::xs.drop i=ys at HV aE ao;go_wp2;go_roundw
   case rel=>exact⟨_,ba,ys,a2,aZ,ay,aE,by omega,by rw[ao],HV,aY,aX,by omega⟩
   case measure=>rw[ay.left_eq,Q.left_eq];omega
  have al:=M.done aR HR aJ.out;have bp:xs.length=z.length:=(by rw[al,OW]);have aK:=a8 HO.at;have ac:=a8 Q.owns;have aq:=a8 (fun N (hb:Below wr.heap.size wr N)=>And.intro (aK.below hb) (And.intro (j7 ac hb ac.lt) (And.intro (I.below hb (OT I)) (G.trans (hb.mono G.size)))));have bf:=a8 al;clear al aR HO Q M aJ bk bb aK ac I G;rw[bp] at Z⊢;have au:=a8 R.size;generalize wr.heap.size=B at aq au Z R bj⊢;go_loopw [5,7,23] (fun lv _ i N=>∃k:Nat,k≤z.length∧i=iI k∧ib N B lv (z.take k)∧B≤N.heap.size∧Below B wr N) (fun _ _ i _=>z.length-(intOf i).toNat)
  case atStart=>exact⟨0,O4 _,rfl,by rw[List.take_zero];exact Z,au,R⟩
  case round=>
   obtain⟨k,hk,rfl,K,V,U⟩:=hrel;clear Z R;obtain⟨ak,aj,ah,af⟩:=aq.out wr U;by_cases ai:k<z.length
   ·obtain⟨gb,bx,rfl,hc⟩:=ak (by omega);have aM:=hc k (by omega);have aQ:xs[k]'(by omega)=z[k].1:=by
     have:=bf.out;subst this;simp
    rw[aQ] at aM;have E:(z[k].1,z[k].2)∈z:=O6 ai;have ab:=a8 (HR.r1 _ _ E).2;have bo:z[k].1.size≤1048576:=be.out _ E;have aP:=AJ z[k].1 (by unfold maxLen;omega);have ad:=a8 (show z.take (k+1)=z.take k++[(z[k].1,z[k].2)] from O5 ai);have bg:=a8 aj;have qv:wr.cell? ⟨W.heap.size,0,none⟩=some (.map (some b1)):=ah.cell 0;generalize z[k].1=x0 at aM aP ab bo ad E;generalize z[k].2=x1 at ab ad E;have O:=a8 K;have bc:=a8 U;have aD:=a8 (pH wr x0 x1);clear hc aQ K U E ah ak aj af;go_wp2_with (first
     |(at_lookup;refine wpList_lookup_own_int _ rfl _ _ 189 rfl 9 3 .i64 kw underlying189 underlying3 (qD _) b1 n L rfl bg.out _ _ rfl aP ?_;intro c bi bu;obtain rfl:x1=c:=by(have h:=ab.out;rw[bi] at h;simp at h;exact h.symm))
     |(at_builtin;refine e8 _ rfl (.tmp 27) (.tmp 34) rfl B u5 (z.take k) (x0,x1) wr.heap.size 1 rfl rfl ?_ ?_ ?_ ?_ ?_ ?_;(exact ir O _);(exact aD.1);(exact aD.2);(rw[Pa];omega);(exact O0 V (by simp));intro v4 w4 bn aN)
     |go_in)
    exact⟨⟨k+1,by omega,by go_num,by rw[ad.out];exact bn,O0 V (O0 (by simp) aN.size),(bc.alloc V _).grown aN (O0 V (by simp)) (fun j hj=>(OF O j hj).1)⟩,by simp[intOf];omega⟩
   ·obtain rfl:k=z.length:=(by omega);rw[PA] at K;have O:=a8 (K.mono (show W.heap.size≤B by omega));have bd:=a8 af;clear K af ak aj ah U;go_wp2;go_ret;exact⟨_,rfl,O,bd⟩
end
def qJ(x y:BA):Int:=if Op.bytesLess x.toList y.toList then-1 else if x.toList=y.toList then 0 else 1
theorem KW(x y:BA):qJ x y<0↔Op.bytesLess x.toList y.toList=true:=by
 unfold qJ;constructor
 ·intro h;by_cases e:Op.bytesLess x.toList y.toList=true
  ·exact e
  ·rw[OR e] at h;split at h<;>omega
 ·intro h;rw[OS h];decide
theorem Fv(x y:BA):qJ x y=0↔x=y:=by
 unfold qJ;constructor
 ·intro h;by_cases e:Op.bytesLess x.toList y.toList=true
  ·rw[OS e] at h;omega
  ·rw[OR e] at h;by_cases z:x.toList=y.toList
   ·exact pB z
   ·rw[OR z] at h;omega
 ·rintro rfl;rw[iR];simp
theorem tm(x y:BA)(w:World):Calls prog 114 #[.string x,.string y] w fun e w'=>e= .returned (.int .i64 (qJ x y))∧w'=w:=by
 have z:=a8 (show qJ x y=if Op.bytesLess x.toList y.toList then-1 else if x.toList=y.toList then 0 else 1 from rfl);cases h1:Op.bytesLess x.toList y.toList with
 |true=>
  have E:Hid (qJ x y= -1):=a8 (by rw[z.out,h1];rfl);clear z;go_enter func114,ntmps114;go_wp2_with fail;refine(jO x w).mono ?_;rintro e G ⟨rfl,rfl⟩;go_wp2_with fail;refine(jO y G).mono ?_;rintro e I ⟨rfl,rfl⟩;go_wp2;go_ret;exact⟨by rw[E.out];rfl,rfl⟩
 |false=>
  by_cases A:x.toList=y.toList
  ·have E:Hid (qJ x y=0):=a8 (by rw[z.out,h1,OR (by decide),OS A]);have J:(x.toList==y.toList)=true:=(by rw[A];simp);clear z A;go_enter func114,ntmps114;go_wp2_with fail;refine(jO x w).mono ?_;rintro e G ⟨rfl,rfl⟩;go_wp2_with fail;refine(jO y G).mono ?_;rintro e I ⟨rfl,rfl⟩;go_wp2;go_ret;exact⟨by rw[E.out];rfl,rfl⟩
  ·have E:Hid (qJ x y=1):=a8 (by rw[z.out,h1,OR (by decide),OR A]);have J:(x.toList==y.toList)=false:=beq_eq_false_iff_ne.2 A;clear z A;go_enter func114,ntmps114;go_wp2_with fail;refine(jO x w).mono ?_;rintro e G ⟨rfl,rfl⟩;go_wp2_with fail;refine(jO y G).mono ?_;rintro e I ⟨rfl,rfl⟩;go_wp2;go_ret;exact⟨by rw[E.out];rfl,rfl⟩
theorem ES(s:BA)(n:Int)(t:BA)(w:World):Calls prog 113 #[.agg #[.string s,.int .i64 n],.string t] w fun e w'=>e= .returned (.int .i64 (qJ s t))∧Below w.heap.size w w':=by
 have z:=a8 (nAl w (.cells #[.string s,.int .i64 n] 63));generalize A:qJ s t=q;go_enter func113,ntmps113;go_wp2_with fail;generalize w.alloc (.cells #[.string s,.int .i64 n] 63)=E at z⊢;refine(tm s t E).mono ?_;rintro e G ⟨rfl,rfl⟩;rw[A];clear A;go_wp2;go_ret;exact⟨rfl,z⟩
section
open Go.Maps
theorem Bn{ns:List (LN×Int)}(h:gz ns=true):ns.length≤600:=(OU h).1
theorem vG(HE:o7)(E G I U:OA)(J O Q Y:Nat)(D:dO)(w:World)(hM:l6 D)(ai:∀o∈D.pend,(Lit.int .i64 o.2.2.2).wf=true)(h1:ja w E D.nodes)(h2:fI w G D.names)(h3:fI w I D.kept)(h4:o9 w U D.pend):
  Calls prog 56 #[.agg (dkA E J G O I Q U Y D)] w (oj w (eM D)):=by
 have R:Below w.heap.size w (w.alloc (.cells (dkA E J G O I Q U Y D) 34)):=(OX _ _).alloc (OV _) _;have L0:=ed.new w (dkA E J G O I Q U Y D) 34;obtain⟨ns,nm,A,K,L⟩:=D;obtain⟨m1,m2,m3,m4,af,aj,ak,al⟩:=hM;simp only at m1 m2 m3 m4 af aj ak al h1 h2 h3 h4 R L0 ai⊢;have N:=a8 (show eM ⟨ns,nm,A,K,L⟩=(0≤L∧L≤1000000∧K.length≤1000∧gz ns=true∧eU (ns.length:Int) nm=true∧eU (ns.length:Int) A=true∧gO (ns.length:Int) A K=some nm) from rfl);generalize eM ⟨ns,nm,A,K,L⟩=V at N⊢;have aA:=a8 aj;have ap:=a8 ak;have aB:=a8 al;have aF:=a8 ai;have am:=a8 (h1.below R);have ag:=a8 (h2.below R);have ah:=a8 (h3.below R);have an:=a8 (h4.below R);have M:=a8 R;have aa:=a8 L0;clear aj ak al h1 h2 h3 h4 R L0 ai;by_cases g1:0≤L
 ·by_cases g2:L≤1000000
  ·go_enter func56,ntmps56;go_wp2_with fail;generalize w.alloc (.cells #[.slice E ns.length J,.slice G nm.length O,.slice I A.length Q,.slice U K.length Y,.int .i64 L] 34)=W0 at am ag ah an M aa⊢;have ae:=aa.lt;refine(yL E J ns W0 (by omega) (fun e he=>O0 (sQ ns e he) af) af am).mono ?_;rintro e w1 ⟨rfl,ac⟩;have z:=aa.below ac ae;obtain⟨p0,p1⟩:=z.c2;have ar:=a8 ac;have aD:=bTr M ac;have aK:=ac.size;clear z ac;by_cases Z:gz ns=true
   ·rw[Z];have aG:=Bn Z;go_wp2_with fail;refine(rI G O nm (ns.length:Int) w1 (by omega) (by omega) (fun e he=>by have:=aA.out e he;omega) (ag.below ar)).mono ?_;rintro e w2 ⟨rfl,au⟩;have ad:=bTr ar au;have z:=aa.below ad ae;obtain⟨q0,-,q2⟩:=z.c3;have aE:=a8 (M.trans (ad.mono M.size));clear z au p0 p1;by_cases o1:eU (ns.length:Int) nm=true
    ·rw[o1];go_wp2_with fail;refine(rI I Q A (ns.length:Int) w2 (by omega) (by omega) (fun e he=>by have:=ap.out e he;omega) (ah.below ad)).mono ?_;rintro e w3 ⟨rfl,av⟩;have ab:=bTr ad av;have z:=aa.below ab ae;obtain⟨r0,r1,r2,r3,r4⟩:=z.c5;have aq:=a8 (M.trans (ab.mono M.size));clear z av q0 q2;by_cases o2:eU (ns.length:Int) A=true
     ·rw[o2];have ao:=a8 (JM HE E G I U J O Q Y ns nm A K L w3 aG o2 ap aB aF (ag.below ab) (ah.below ab) (an.below ab));have aC:=a8 (show V=(K.length≤1000∧gO (ns.length:Int) A K=some nm) by
       rw[N.out];exact propext ⟨fun h=>⟨h.2.2.1,h.2.2.2.2.2.2⟩,fun h=>⟨g1,g2,h.1,Z,o1,o2,h.2⟩⟩)
      clear N Z o1 o2;go_wp2_with fail;refine(ao.out).mono ?_;rintro e w4 ⟨r,rfl,ax,aw⟩;have az:=a8 ax;have ay:=bTr aq aw;clear ax aw ao;go_wp2;go_ret;exact⟨r,rfl,by rw[aC.out];exact az.out,ay⟩
     ·have aJ:eU (ns.length:Int) A=false:=(by simpa using o2);rw[aJ];go_wp2;go_ret;exact ii (by rw[N.out];exact fun h=>o2 h.2.2.2.2.2.1) aq.out
    ·have aI:eU (ns.length:Int) nm=false:=(by simpa using o1);rw[aI];go_wp2;go_ret;exact ii (by rw[N.out];exact fun h=>o1 h.2.2.2.2.1) aE.out
   ·have aH:gz ns=false:=(by simpa using Z);rw[aH];go_wp2;go_ret;exact ii (by rw[N.out];exact fun h=>Z h.2.2.2.1) aD.out
  ·have HN:=a8 (show¬V by rw[N.out];exact fun h=>g2 h.2.1);go_enter func56,ntmps56;go_wp2;go_ret;exact ii HN M.out
 ·have HN:=a8 (show¬V by rw[N.out];exact fun h=>g1 h.1);go_enter func56,ntmps56;go_wp2;go_ret;exact ii HN M.out
end
def My(es:List EN)(t:BA)(e:Ending):Prop:=∃(i:Nat) (f:Bool),e= .returned (.tuple #[.int .i64 (i:Int),.bool f])∧(f=true→∃h:i<es.length,es[i].1=t)∧(f=false→∀m,(t,m)∉es)
theorem EF{z:List EN}{t:BA}{p:Nat}(L:∀k (h:k<z.length),k<p→Op.bytesLess z[k].1.toList t.toList=true)(K:∀k (h:k<z.length),p≤k→Op.bytesLess z[k].1.toList t.toList=false)(N:jb z)(M:∀h:p<z.length,z[p].1≠t):∀m,(t,m)∉z:=by
 intro m O;obtain⟨k,E,e⟩:=Pr O;have A:z[k].1=t:=(by rw[e]);rcases Nat.lt_trichotomy k p with h|h|h
 ·have:=L k E h;rw[A,iR] at this;cases this
 ·subst h;exact M E A
 ·have J:p<z.length:=(by omega);have G:=Pn.1 N p k J E h;rw[A] at G;have I:=K p J (OV _);rw[G] at I;cases I
theorem Ec{z:List EN}{t:BA}(E:jb z)(G:m<z.length)(h:Op.bytesLess z[m].1.toList t.toList=true):∀k (A:k<z.length),k<m+1→Op.bytesLess z[k].1.toList t.toList=true:=by
 intro k A I;by_cases e:k=m
 ·subst e;exact h
 ·exact hV _ _ _ (Pn.1 E k m A G (by omega)) h
theorem Eb{z:List EN}{t:BA}(G:jb z)(I:m<z.length)(h:Op.bytesLess z[m].1.toList t.toList=false):∀k (E:k<z.length),m≤k→Op.bytesLess z[k].1.toList t.toList=false:=by
 intro k E J;by_cases e:k=m
 ·subst e;exact h
 ·cases e2:Op.bytesLess z[k].1.toList t.toList with
  |false=>rfl
  |true=>
   have A:=hV _ _ _ (Pn.1 G m k I E (by omega)) e2;rw[h] at A;cases A
theorem x7(a:OA)(cap:Nat)(z:List EN)(t:BA)(w:World)(hn:z.length≤1048576)(hr:fI w a z)(aj:jb z):
  Calls prog 112 #[.slice a z.length cap,.string t,.func (.func 113) #[] #[]] w fun e w'=>My z t e∧Below w.heap.size w w':=by
 have Y:=a8 aj;have HR:=a8 hr;clear aj hr;go_enter func112,ntmps112;go_wp2;go_loopw [9,10,11] (fun i j _ wr=>∃(p q:Nat),p≤q∧q≤z.length∧i=iI p∧j=iI q∧(∀k (h:k<z.length),k<p→Op.bytesLess z[k].1.toList t.toList=true)∧(∀k (h:k<z.length),q≤k→Op.bytesLess z[k].1.toList t.toList=false)∧Below w.heap.size w wr) (fun i j _ _=>(intOf j).toNat-(intOf i).toNat)
 case atStart=>exact⟨0,z.length,O4 _,OV _,rfl,rfl,fun k _ h=>by omega,fun k h h'=>by omega,OX _ _⟩
 case round=>
  obtain⟨p,q,aw,hq,rfl,rfl,ah,ag,K⟩:=hrel;have ab:=a8 ah;have aa:=a8 ag;have Z:=a8 K;clear ah ag;by_cases aq:p<q
  ·have ai:(p:Int)<(q:Int):=(by omega);obtain⟨m,hm⟩:∃m,m=(p+q)/2:=⟨_,rfl⟩
   have ar:p≤m∧m<q:=(by omega);have au:((p:Int)+(q:Int))/2=(m:Int):=(by omega);clear hm;obtain⟨b,an,rfl,Q⟩:=(HR.below K) (by omega)
   have ae:m<z.length:=(by omega);obtain⟨I,J⟩:=Q m ae;have av:(m:Int)<(z.length:Int):=(by omega);have V:=a8 (Ec (t:=t) Y ae);have U:=a8 (Eb (t:=t) Y ae);generalize z[m].1=R at I V U;generalize z[m].2=xn at J;clear Q K;go_wp2_with fail;refine(ES R xn t wr).mono ?_;rintro e w2 ⟨rfl,A⟩;have G:=bTr Z A;have L:=a8 (KW R t);clear A I J;generalize qJ R t=O at L;cases hq2:Op.bytesLess R.toList t.toList with
   |true=>
    have al:O<0:=L.2 hq2;have HN:=a8 (V.out hq2);clear V U L hq2;go_wp2;go_roundw
    case rel=>exact⟨m+1,q,by omega,hq,by go_num,rfl,HN,aa,G⟩
    case measure=>simp[intOf];omega
   |false=>
    have al:¬O<0:=fun h=>(by rw[L.1 h] at hq2;cases hq2);have HN:=a8 (U.out hq2);clear V U L hq2;go_wp2;go_roundw
    case rel=>exact⟨p,m,by omega,by omega,rfl,by go_num,ab,HN,G⟩
    case measure=>simp[intOf];omega
  ·obtain rfl:p=q:=(by omega);by_cases af:p<z.length
   ·have ai:(p:Int)<(z.length:Int):=(by omega);obtain⟨b,an,rfl,Q⟩:=(HR.below K) (by omega)
    obtain⟨I,J⟩:=Q p af;have ac:=a8 (fun(h:z[p].1≠t)=>EF ab aa Y (fun _=>h));have ad:=a8 (fun(h:z[p].1=t)=>(⟨af,h⟩:∃h:p<z.length,z[p].1=t));have M:=a8 (Fv z[p].1 t);have E:=a8 (fun(W:World)=>ES z[p].1 z[p].2 t W);generalize qJ z[p].1 t=O at M E;generalize ak:z[p].1=R at I E;generalize am:z[p].2=xn at J E;have ao:=a8 ak;clear Q ak am K;by_cases h0:O=0
    ·have N:=a8 (ad.out (M.1 h0));clear M ad ac;subst h0;go_wp2_with fail;refine(E.out wr).mono ?_;rintro e w2 ⟨rfl,A⟩;have G:=bTr Z A;clear A I J E;go_wp2;go_ret2;exact⟨⟨p,true,rfl,fun _=>N.out,fun h=>by cases h⟩,G⟩
    ·have N:=a8 (ac.out (fun h=>h0 (M.2 h)));clear M ad ac;go_wp2_with fail;refine(E.out wr).mono ?_;rintro e w2 ⟨rfl,A⟩;have G:=bTr Z A;have ap:(O==0)=false:=(by simpa using h0);clear A I J E;go_wp2;go_ret2;exact⟨⟨p,false,rfl,(fun h=>by cases h),fun _=>N.out⟩,G⟩
   ·have ai:¬(p:Int)<(z.length:Int):=(by omega);have N:=a8 (EF ab aa Y (fun h=>OH h af));clear K;go_wp2;go_ret2;exact⟨⟨p,false,rfl,(fun h=>by cases h),fun _=>N.out⟩,Z⟩
section
open Go.Maps
theorem up:∀{z:List (BA×Int)} {e:BA×Int},e∈z→e.1.size≤kl z
 |x::r,e,h=>by
  rcases Pd.1 h with rfl|h
  ·simp only[kl];omega
  ·have:=up h;simp only[kl];omega
theorem Bb:∀{z:List (Int×BA×BA×Int)} {e:Int×BA×BA×Int},e∈z→e.2.1.size+e.2.2.1.size≤lD z
 |x::r,e,h=>by
  rcases Pd.1 h with rfl|h
  ·simp only[lD];omega
  ·have:=Bb h;simp only[lD];omega
structure nA(w:World)(v:Value)(D:dO):Prop where
 at_:ji w v D
 n1:D.nodes.length≤9223372036854775807
 n2:D.names.length≤9223372036854775807
 n3:D.kept.length≤9223372036854775807
 n4:D.pend.length≤9223372036854775807
 h1:∀e∈D.nodes,e.1.length≤9223372036854775807
 h2:∀e∈D.names,e.1.size≤9223372036854775807
 h3:∀e∈D.kept,e.1.size≤9223372036854775807
 h4:∀e∈D.pend,e.2.1.size≤9223372036854775807∧e.2.2.1.size≤9223372036854775807
 wf:∀o∈D.pend,(Lit.int .i64 o.2.2.2).wf=true
def zA(D:dO):Nat:=szD D.nodes D.names D.kept D.pend
theorem Gu{D:dO}(h:zA D≤1048576):l6 D:=by
 unfold zA szD at h;exact⟨by omega,by omega,by omega,by omega,by omega,fun e z=>by have:=up z;omega,fun e z=>by have:=up z;omega,fun o A=>by have:=Bb A;omega⟩
theorem Bk{D:dO}(h:zA D≤1048576):∀e∈D.nodes,e.1.length≤1048576:=fun e z=>by
 have:=sQ D.nodes e z;unfold zA szD at h;omega
theorem Km{w:World}{v:Value}{D:dO}(h:nA w v D):
  Calls prog 4 #[v,.int .i64 1048576] w fun e w'=>e= .returned (.int .i64 (mZ 1048576 (zA D)))∧Below w.heap.size w w':=by
 obtain⟨⟨z,I,A,J,E,K,G,L,rfl,Z,r2,r3,r4⟩,R,U,V,Y,M,N,O,Q,wf⟩:=h;exact El z A E G I J K L D.quota D.nodes D.names D.kept D.pend w R U V Y M N O Q Z r2 r3 r4
theorem B1{w:World}{v:Value}{D:dO}(h:ji w v D)(M:l6 D):Calls prog 43 #[v] w (oj w (eM D)):=by
 obtain⟨z,I,A,J,E,K,G,L,rfl,N,O,Q,R⟩:=h;exact wg z A E G I J K L D w M N O Q R
theorem Ay{w:World}{v:Value}{D:dO}(h:ji w v D)(M:l6 D)(N:∀o∈D.pend,(Lit.int .i64 o.2.2.2).wf=true):Calls prog 56 #[v] w (oj w (eM D)):=by
 obtain⟨z,I,A,J,E,K,G,L,rfl,O,Q,R,U⟩:=h;exact vG vy z A E G I J K L D w M N O Q R U
theorem nA.below{w w':World}{v:Value}{D:dO}(h:nA w v D)(z:Below w.heap.size w w'):nA w' v D:={h with at_:=h.at_.below z}
theorem nA.shape{w:World}{v:Value}{D:dO}(h:nA w v D):∃z M I A N J E O K G Q L q,v= .agg #[.slice z M I,.slice A N J,.slice E O K,.slice G Q L,.int .i64 q]:=by
 obtain⟨⟨z,I,A,J,E,K,G,L,rfl,_⟩,_⟩:=h;exact⟨_,_,_,_,_,_,_,_,_,_,_,_,_,rfl⟩
theorem ji.shape{w:World}{v:Value}{D:dO}(h:ji w v D):∃z M I A N J E O K G Q L q,v= .agg #[.slice z M I,.slice A N J,.slice E O K,.slice G Q L,.int .i64 q]:=by
 obtain⟨z,I,A,J,E,K,G,L,rfl,_⟩:=h;exact⟨_,_,_,_,_,_,_,_,_,_,_,_,_,rfl⟩
end
theorem pn{D:dO}{nm:BA}{n:Int}(h:fT D.names nm=some n)(z:n=(k:Int))(A:k<D.nodes.length):b9 D nm=(true,(D.nodes[k]).1):=by
 unfold b9;rw[h];subst z;simp[List.getD,A]
theorem uK{D:dO}{nm:BA}(h:fT D.names nm=none):b9 D nm=(false,[]):=by
 unfold b9;rw[h]
theorem vQ{z:List EN}{nm:BA}(h:∀m,(nm,m)∉z):fT z nm=none:=by
 cases e:fT z nm with
 |none=>rfl
 |some n=>exact OH (jt e) (h n)
structure fV(w:World)(a:OA)(c:Nat)(d:LN):Prop where
 row:dW w a d
 room:d.length≤c
 cap:c≤9223372036854775807
 byte:∀x∈d,x<256
 nl:a=none→c=0
 spot:∀p,a=some p→p.spot=none
theorem fV.below{a:OA}{d:LN}(h:fV w a c d)(z:Below w.heap.size w w'):fV w' a c d:=⟨h.row.below z,h.room,h.cap,h.byte,h.nl,h.spot⟩
theorem fV.cases{w:World}{a:OA}{c:Nat}{d:LN}(h:fV w a c d):(a=none∧c=0∧d=[])∨∃b z,a=some ⟨b,z,none⟩:=by
 cases a with
 |none=>
  have A:=h.nl rfl;have E:=h.room;exact .inl ⟨rfl,A,Pp.1 (by omega)⟩
 |some p=>
  obtain⟨b,z,G⟩:=p;have:=h.spot _ rfl;simp only at this;subst this;exact .inr ⟨b,z,rfl⟩
theorem fV.nil(w:World):fV w none 0 []:=⟨fun h=>OH h (Nat.lt_irrefl _),OV _,by omega,(fun x z=>by cases z),fun _=>rfl,fun p h=>by cases h⟩
def sU(w:World)(a:OA)(es:List (LN×Int)):Prop:=
 0<es.length→∃b off,a=some ⟨b,off,none⟩∧∀i (h:i<es.length),∃ai ci,w.cell? ⟨b,off+i*2,none⟩=some (.slice ai es[i].1.length ci)∧w.cell? ⟨b,off+i*2+1,none⟩=some (.int .i64 es[i].2)∧fV w ai ci es[i].1
theorem sU.below{a:OA}{E:List (LN×Int)}(h:sU w a E)(A:Below w.heap.size w w'):sU w' a E:=fun N=>by
 obtain⟨b,z,rfl,M⟩:=h N;refine⟨b,z,rfl,fun i hi=> ?_⟩;obtain⟨J,K,G,I,L⟩:=M i hi;exact⟨J,K,by rw[A.cell (p:=⟨b,z+i*2,none⟩) (dG G)];exact G,by rw[A.cell (p:=⟨b,z+i*2+1,none⟩) (dG I)];exact I,L.below A⟩
theorem sU.at{a:OA}{z:List (LN×Int)}(h:sU w a z):ja w a z:=fun M=>by
 obtain⟨b,A,rfl,L⟩:=h M;refine⟨b,A,rfl,fun i hi=> ?_⟩;obtain⟨E,G,I,J,K⟩:=L i hi;exact⟨E,G,I,J,K.row⟩
def kJ(w:World)(v:Value)(D:dO):Prop:=∃a1 c1 a2 c2 a3 c3 a4 c4,v= .agg #[.slice a1 D.nodes.length c1,.slice a2 D.names.length c2,.slice a3 D.kept.length c3,.slice a4 D.pend.length c4,.int .i64 D.quota]∧sU w a1 D.nodes∧fI w a2 D.names∧fI w a3 D.kept∧o9 w a4 D.pend
theorem kJ.at{v:Value}{D:dO}(h:kJ w v D):ji w v D:=by
 obtain⟨z,I,A,J,E,K,G,L,rfl,M,N,O,Q⟩:=h;exact⟨z,I,A,J,E,K,G,L,rfl,M.at,N,O,Q⟩
theorem kJ.below{v:Value}{D:dO}(h:kJ w v D)(z:Below w.heap.size w w'):kJ w' v D:=by
 obtain⟨A,J,E,K,G,L,I,M,rfl,N,O,Q,R⟩:=h;exact⟨A,J,E,K,G,L,I,M,rfl,N.below z,O.below z,Q.below z,R.below z⟩
theorem qd{fn:Func}{p:Tmp}(B:Nat)(W:World)(x y:Value)(A:fn.results= #[.cell p 54])(E:tmps.getD p undef=pP B)(z:Blk W B #[x,y] 54):
  (results fn tmps).run prog W= .ok (.agg #[x,y]) W:=results_cell_row (P:=prog) A _ _ B _ _ _ _ E z underlying54 rfl (by kernel_rfl)
theorem mW(h:Blk W B #[x,y] 54)(z A:Value):Blk ((W.setCell ⟨B,0,none⟩ z).setCell ⟨B,1,none⟩ A) B #[z,A] 54:=(h.set 0 z).set 1 A
theorem sj(w:World)(A B:Array Value)(t u:TypeId):Blk ((w.alloc (.cells A t)).alloc (.cells B u)) w.heap.size A t∧Blk ((w.alloc (.cells A t)).alloc (.cells B u)) (w.heap.size+1) B u∧Below w.heap.size w ((w.alloc (.cells A t)).alloc (.cells B u))∧((w.alloc (.cells A t)).alloc (.cells B u)).heap.size=w.heap.size+2:=by
 refine⟨(dQ w A t).below (B:=w.heap.size+1) ((OX _ _).alloc (by simp) _) (by omega),?_,((OX _ _).alloc (OV _) _).alloc (by simp) _,by simp⟩;have h:=dQ (w.alloc (.cells A t)) B u;rw[OG] at h;exact h
def KH(w w':World):Prop:=∀g t n,Raw w g t n→Raw w' g t n
def mq(w:World)(lo hi:Nat)(t:TypeId)(sz:Nat)(v:Value):Prop:=v=sN∨∃g n cap m,v=sS g n cap∧Raw w g t m∧n*sz≤m∧lo≤g∧g<hi∧n≤1048576
def ww(w:World)(lo hi:Nat)(v:Value):Prop:=v=sN∨∃g n cap m vs,v=sS g n cap∧j9 w lo hi g n m vs∧n≤1048576
theorem mq.turn{v:Value}(h:mq w lo hi t z v)(E:KH w w'):mq w' lo hi t z v:=by
 rcases h with rfl|⟨g,n,cap,m,e,r,A⟩
 ·exact .inl rfl
 ·exact .inr ⟨g,n,cap,m,e,E _ _ _ r,A⟩
theorem ww.below{v:Value}(h:ww w lo hi v)(z:Below w.heap.size w w'):ww w' lo hi v:=by
 rcases h with rfl|⟨g,n,cap,m,E,e,r,A⟩
 ·exact .inl rfl
 ·exact .inr ⟨g,n,cap,m,E,e,r.turn (fun _ _ _ h=>h.of_eq (z.block _ h.lt)) (fun j _=>ef (z.block _ r.raw.lt)),A⟩
theorem mq.below{v:Value}(h:mq w lo hi t z v)(A:Below w.heap.size w w'):mq w' lo hi t z v:=h.turn (fun _ _ _ h=>h.of_eq (A.block _ h.lt))
theorem Jh(lo hi k:Nat)(v:Value)(w:World)(G:k≤1048576)(h:ww w lo hi v):
  Calls prog 34 #[v,.int .i64 (k:Int)] w fun e w'=>(∃z:Nat,e= .returned (.int .i64 (z:Int))∧z≤k+1099512676352)∧KH w w'∧Out lo hi w w':=by
 rcases h with rfl|⟨g,n,cap,m,J,rfl,r,I⟩
 ·refine(Gm k w).mono ?_;rintro e w' ⟨rfl,rfl⟩;exact⟨⟨k,rfl,by omega⟩,fun _ _ _ h=>h,Out.refl _ _ _⟩
 ·refine(Gn lo hi g n cap m k J w I G r).mono ?_;rintro e w' ⟨⟨z,rfl,K⟩,A,E⟩;exact⟨⟨z,rfl,by omega⟩,A,E⟩
theorem AZ(lo hi k:Nat)(v:Value)(w:World)(I:k≤1125899906842624)(h:mq w lo hi 63 2 v):
  Calls prog 35 #[v,.int .i64 (k:Int)] w fun e w'=>(∃z:Nat,e= .returned (.int .i64 (z:Int))∧z≤k+2097152)∧KH w w'∧Out lo hi w w':=by
 rcases h with rfl|⟨g,n,cap,m,rfl,r,K,J,G,L⟩
 ·refine(Gk k w).mono ?_;rintro e w' ⟨rfl,rfl⟩;exact⟨⟨k,rfl,by omega⟩,fun _ _ _ h=>h,Out.refl _ _ _⟩
 ·refine(Gl lo hi g n cap m k w L I r K J G).mono ?_;rintro e w' ⟨rfl,A,E⟩;exact⟨⟨_,rfl,by omega⟩,A,E⟩
theorem Ji(lo hi k:Nat)(v:Value)(w:World)(I:k≤1125899906842624)(h:mq w lo hi 111 4 v):
  Calls prog 36 #[v,.int .i64 (k:Int)] w fun e w'=>(∃z:Nat,e= .returned (.int .i64 (z:Int))∧z≤k+4194304)∧KH w w'∧Out lo hi w w':=by
 rcases h with rfl|⟨g,n,cap,m,rfl,r,K,J,G,L⟩
 ·refine(Gp k w).mono ?_;rintro e w' ⟨rfl,rfl⟩;exact⟨⟨k,rfl,by omega⟩,fun _ _ _ h=>h,Out.refl _ _ _⟩
 ·refine(Gq lo hi g n cap m k w L I r K J G).mono ?_;rintro e w' ⟨rfl,A,E⟩;exact⟨⟨_,rfl,by omega⟩,A,E⟩
structure px(w:World)(lo hi:Nat)(v:Value):Prop where
 ex:∃a1 m1 c1 a2 m2 c2 a3 m3 c3 a4 m4 c4 q,v= .agg #[.slice a1 m1 c1,.slice a2 m2 c2,.slice a3 m3 c3,.slice a4 m4 c4,.int .i64 q]∧ww w lo hi (.slice a1 m1 c1)∧mq w lo hi 63 2 (.slice a2 m2 c2)∧mq w lo hi 63 2 (.slice a3 m3 c3)∧mq w lo hi 111 4 (.slice a4 m4 c4)
theorem px.below{v:Value}(h:px w lo hi v)(z:Below w.heap.size w w'):px w' lo hi v:=by
 obtain⟨A,N,J,E,O,K,G,Q,L,I,R,M,q,e,U,V,Y,Z⟩:=h.ex;exact⟨A,N,J,E,O,K,G,Q,L,I,R,M,q,e,U.below z,V.below z,Y.below z,Z.below z⟩
theorem LJ{v:Value}{l:LN}(h:dR w A v l)(J:l.length≤1048576):ND w A w.heap.size v:=by
 rcases h.2 with⟨z,N⟩|⟨g,cap,E,z,I,G,M,K,L,O⟩
 ·exact .inl z
 ·exact .inr ⟨g,l.length,cap,E.size,z,⟨E,G,rfl⟩,by omega,I,OT G,J⟩
theorem EZ{E:Nat}{v:Value}{A:List (BA×Int)}(h:ib w E v A)(M:A.length≤1048576):mq w E w.heap.size 63 2 v:=by
 rcases h.2 with⟨z,O⟩|⟨g,cap,G,z,L,J,I,N,K,Q⟩
 ·exact .inl z
 ·rw[OW] at z I;exact .inr ⟨g,A.length,cap,G.size,z,⟨G,J,rfl⟩,by rw[K];exact PN _ I,L,OT J,M⟩
theorem LP{E:Nat}{v:Value}{A:List (Int×BA×BA×Int)}(h:mL w E v A)(M:A.length≤1048576):mq w E w.heap.size 111 4 v:=by
 rcases h.2 with⟨z,O⟩|⟨g,cap,G,z,L,J,I,N,K,Q⟩
 ·exact .inl z
 ·rw[OW] at z I;exact .inr ⟨g,A.length,cap,G.size,z,⟨G,J,rfl⟩,by rw[K];exact PN _ I,L,OT J,M⟩
theorem LL{G:Nat}{v:Value}{ns:List (LN×Int)}(h:nr w G v ns)(V:ns.length≤1048576)(O:∀e∈ns,e.1.length≤1048576):ww w G w.heap.size v:=by
 obtain⟨E,M,K,hi⟩:=h;have J:=K;rcases K.2 with⟨z,hn⟩|⟨g,cap,I,z,U,L,Z,Y,N,hx⟩
 ·exact .inl z
 ·refine .inr ⟨g,ns.length,cap,I.size,fun j=>(E.getD j (sN,sN)).1,by rw[z,M],⟨⟨I,L,rfl⟩,by rw[N];exact PN _ (by omega),U,OT L,fun j A=> ?_,fun j A=> ?_⟩,V⟩
  ·rw[z] at J;have:=(fJ.cells J j (by omega)).1;rw[this];simp[List.getD,show j<E.length by omega]
  ·obtain⟨x,Q,R⟩:=hi j A;have e:(E.getD j (sN,sN)).1=x:=(by simp[List.getD,Q]);rw[e];exact LJ R (O _ (O6 A))
theorem JL{v:Value}{D:dO}(h:Hm w A v D)(z:l6 D):px w A w.heap.size v:=by
 obtain⟨v1,v2,v3,v4,rfl,E,G,I,J⟩:=h;have L:=LL E z.n1 (fun e K=>by have:=sQ D.nodes e K;have:=z.sum;omega);have M:=EZ G z.n2;have N:=EZ I z.n3;have O:=LP J z.n4;obtain⟨Q,Y,rfl⟩:=E.slice;obtain⟨R,Z,rfl⟩:=G.slice;obtain⟨U,c3,rfl⟩:=I.slice;obtain⟨V,c4,rfl⟩:=J.slice;exact⟨_,_,_,_,_,_,_,_,_,_,_,_,_,rfl,L,M,N,O⟩
theorem yI(lo hi:Nat)(v:Value)(w:World)(ad:hi≤w.heap.size)(h:px w lo hi v):
  Calls prog 10 #[v,.int .i64 1] w fun e w'=>(∃k':Nat,e= .returned (.int .i64 (k':Int)))∧Out lo hi w w':=by
 obtain⟨U,Y,V,E,N,J,G,O,K,I,Q,L,q,rfl,r1,r2,r3,r4⟩:=h.ex;have M:=nAl w (.cells #[.slice U Y V,.slice E N J,.slice G O K,.slice I Q L,.int .i64 q] 34);have L0:=ed.new w #[.slice U Y V,.slice E N J,.slice G O K,.slice I Q L,.int .i64 q] 34;have HN:=a8 (Jh lo hi 1 _ _ (by omega) (r1.below M));have z:=a8 (show Out lo hi w _ from Out.of_below M);have ac:=a8 (r2.below M);have Z:=a8 (r3.below M);have A:=a8 (r4.below M);clear h r1 r2 r3 r4;go_enter func10,ntmps10;go_wp2_with fail;generalize w.alloc (.cells #[.slice U Y V,.slice E N J,.slice G O K,.slice I Q L,.int .i64 q] 34)=w0 at M L0 HN z ac Z A⊢;refine HN.mono ?_;rintro e w1 ⟨⟨k1,rfl,ak⟩,aa,ae⟩;have L1:ed w1 w.heap.size #[.slice U Y V,.slice E N J,.slice G O K,.slice I Q L,.int .i64 q] 34:=(ae.block w.heap.size L0.lt (.inr ad)).trans L0;obtain⟨-,t1⟩:=L1.c2;have R:=a8 (AZ lo hi k1 _ w1 (by omega) (ac.turn aa));replace Z:=a8 (Z.turn aa);replace A:=a8 (A.turn aa);replace z:=a8 (z.trans ae);clear HN ac aa ae L0 M;go_wp2_with fail;refine R.mono ?_;rintro e w2 ⟨⟨k2,rfl,al⟩,ab,af⟩;have L2:ed w2 w.heap.size #[.slice U Y V,.slice E N J,.slice G O K,.slice I Q L,.int .i64 q] 34:=(af.block w.heap.size L1.lt (.inr ad)).trans L1;obtain⟨-,-,t2⟩:=L2.c3;replace R:=a8 (AZ lo hi k2 _ w2 (by omega) (Z.turn ab));replace A:=a8 (A.turn ab);replace z:=a8 (z.trans af);clear Z ab af L1 t1;go_wp2_with fail;refine R.mono ?_;rintro e w3 ⟨⟨k3,rfl,am⟩,ah,ag⟩;have L3:ed w3 w.heap.size #[.slice U Y V,.slice E N J,.slice G O K,.slice I Q L,.int .i64 q] 34:=(ag.block w.heap.size L2.lt (.inr ad)).trans L2;obtain⟨-,-,-,t3⟩:=L3.c4;replace R:=a8 (Ji lo hi k3 _ w3 (by omega) (A.turn ah));replace z:=a8 (z.trans ag);clear A ah ag L2 t2 L3;go_wp2_with fail;refine R.mono ?_;rintro e w4 ⟨⟨k4,rfl,an⟩,aj,ai⟩;replace z:=a8 (z.trans ai);clear aj ai t3 R;go_wp2;go_ret;exact⟨⟨k4,rfl⟩,z⟩
structure Fr(S:Nat→Prop)(w w':World):Prop where
 os:w'.os=w.os
 tape:w'.tape=w.tape
 output:w'.output=w.output
 size:w.heap.size≤w'.heap.size
 block:∀g,g<w.heap.size→¬S g→w'.heap[g]? =w.heap[g]?
theorem Fr.of_grown{S:Nat→Prop}{z:Option Nat}(h:w.grownBy w' z)(G:∀k,z=some k→S k):Fr S w w':=
 ⟨h.os,h.tape,h.output,h.size,fun g A E=>h.block g A (fun e=>E (G g e.symm))⟩
theorem Fr.below{S:Nat→Prop}(h:Fr S w w')(E:∀g,S g→B≤g)(z:B≤w.heap.size):Below B w w':=
 (Out.below (lo:=B) (hi:=w.heap.size) ⟨h.os,h.tape,h.output,h.size,fun k A G=>h.block k A (fun e=>by have:=E k e;omega)⟩ (OV _) z)
def NK(a b:Value):Prop:=a.ownBlock=none∨a.ownBlock≠b.ownBlock
theorem LS{S:Nat→Prop}{v:Value}(h:w.ownsRow z e k v n xs)(f:Fr S w w')(K:∀g,v.ownBlock=some g→¬S g):w'.ownsRow z e k v n xs:=by
 refine⟨h.1,?_⟩;rcases h.2 with J|⟨g,cap,I,rfl,E,A,G⟩
 ·exact .inl J
 ·exact .inr ⟨g,cap,I,rfl,E,(f.block g (OT A) (K g rfl)).trans A,G⟩
theorem mD{b1 E L M N O:Nat}{v:Value}{ys:List Value}(G:w.ownsRow b1 A L v N xs)(I:w.ownsRow b2 E M x O ys)(J:A≠E):NK v x:=by
 rcases G.2 with⟨rfl,_⟩|⟨g,cap,U,rfl,_,K,_⟩
 ·exact .inl rfl
 ·refine .inr fun e=> ?_;rcases I.2 with⟨rfl,_⟩|⟨g',Q,R,rfl,_,z,_⟩
  ·simp[Value.ownBlock] at e
  ·simp only[Value.ownBlock,OY] at e;subst e;rw[K] at z;simp only[OY,Obj.cells.injEq] at z;exact J z.2.1

theorem gy.put{l:List V4}(h:gy w A e (sS g n cap) l)(j i:Nat)(u:Value)(z:List V4)(J:(gD l).set (j*4+i) u=gD z)(G:z.length=l.length):gy (w.setCell ⟨g,j*4+i,none⟩ u) A e (sS g n cap) z:=by
 obtain⟨a,c,E⟩:=h.slice;simp only[O3] at E;obtain⟨_,rfl,rfl⟩:=E;have I:=(World.ownsRow.stored h (j*4+i) u).1;unfold gy;rw[G,←J];exact I
theorem Iz(l:List V4)(i:Nat)(u:Value)(h:i<l.length):
  (gD l).set (i*4) u=gD (l.set i (u,l[i].2))∧(gD l).set (i*4+1) u=gD (l.set i (l[i].1,u,l[i].2.2))∧(gD l).set (i*4+2) u=gD (l.set i (l[i].1,l[i].2.1,u,l[i].2.2.2))∧(gD l).set (i*4+3) u=gD (l.set i (l[i].1,l[i].2.1,l[i].2.2.1,u)):=by
 induction l generalizing i with
 |nil=>simp at h
 |cons p l ih=>
  cases i with
  |zero=>simp[fR]
  |succ i=>
   obtain⟨z,A,E,G⟩:=ih i (by simpa using h);rw[fR,show(i+1)*4+3=(i*4+3)+1+1+1+1 from by omega,show(i+1)*4+2=(i*4+2)+1+1+1+1 from by omega,show(i+1)*4+1=(i*4+1)+1+1+1+1 from by omega,show(i+1)*4=i*4+1+1+1+1 from by omega];simp only[PU,fR,PR];rw[z,A,E,G];exact⟨rfl,rfl,rfl,rfl⟩





theorem pm{v:Value}(h:w.ownsRow b e k v n xs)(z:v.ownBlock=some g):b≤g∧g<w.heap.size:=OF h g z

theorem fZ(f:FuncId)(J:∀(v:Value) (w:World),(callFunc f #[v]).run prog w= .ok (.enter f #[v]) w){G:Array Oper}{z:Act}{K:Act→World→Prop}{E:Prop}(x:Operand)(ts:Array TypeId)(A:o.guard=none)
  (I:o.op= .call {callee:= .value (.func f),args:= #[x],argTypes:=ts}) (v:Value) (N:z.eval x=v) (h:Calls prog f #[v] w fun e w'=>∃u,e= .returned u∧K (z.put o.dst u) w'):
  if Region.wanted o (yielded G z.tmps)=true then Oper.wp prog o z w K Q else E:=by
 have M:Region.wanted o (yielded G z.tmps)=true:=(by simp[Region.wanted,A]);rw[OS M];obtain⟨U,Y,Z,V,O,R⟩:=o;simp only at I A;subst I;unfold Oper.wp;rw[execOp_call_go];simp only[List.map_toArray,Pe,PD,N,List.append_toArray,PC,Pm,J,Oper.upon_enter];refine h.mono ?_;rintro e w' ⟨u,rfl,L⟩;exact L
theorem LR{a:OA}(h:w.ownsRow A e k (.slice a n cap) m xs):n≤cap:=by
 rcases h.2 with⟨z,_⟩|⟨g,c,E,z,_,_,G,_⟩
 ·simp only[O3] at z;omega
 ·simp only[O3] at z;omega
theorem qg{a:OA}{d:LN}(h:fV w a c d)(z:n≤d.length):(Instr.sliceAt 52 (.slice a d.length c) none (some (.int .i64 (n:Int))) none).run prog W= .ok (.slice a n c) W:=by
 have E:=h.room;have G:(n:Int)≤(c:Int):=(by omega);rcases h.cases with⟨rfl,rfl,rfl⟩|⟨b,A,rfl⟩
 ·have:n=0:=(by simpa using z);subst this;go_simp
 ·go_simp


abbrev OpV:=Int×BA×BA×LN
def fK:BA:=⟨#[]⟩


theorem Aq(l m:List V4):gD (l++m)=gD l++gD m:=by simp[gD]
def nB(w:World)(g t:Nat):Prop:=∃cs fr,w.heap[g]? =some (.cells cs t fr)
theorem uz{v:Value}(h:w.ownsRow b e k v n xs)(z:v.ownBlock=some g):nB w g e:=by
 rcases h.2 with⟨rfl,_⟩|⟨g',cap,E,rfl,_,A,_⟩
 ·cases z
 ·simp only[Value.ownBlock,OY] at z;subst z;exact⟨_,_,A⟩
theorem nB.ne{t:Nat}(h:nB w g s)(k:nB w g t):s=t:=by
 obtain⟨_,_,h⟩:=h;obtain⟨_,_,k⟩:=k;rw[h] at k;simp only[OY,Obj.cells.injEq] at k;exact k.2.1
theorem E0{S:Nat→Prop}{v:Value}(h:w.ownsRow b e k v n xs)(f:Fr S w w')(z:∀g,S g→∃t,nB w g t∧t≠e):w'.ownsRow b e k v n xs:=
 LS h f (fun g A E=>by
  obtain⟨t,G,I⟩:=z g E;exact I (G.ne (uz h A)))
theorem MU(w:World)(A B:Array Value)(a b:TypeId):ed ((w.alloc (.cells A a)).alloc (.cells B b)) w.heap.size A a∧ed ((w.alloc (.cells A a)).alloc (.cells B b)) (w.heap.size+1) B b∧Below w.heap.size w ((w.alloc (.cells A a)).alloc (.cells B b))∧((w.alloc (.cells A a)).alloc (.cells B b)).heap.size=w.heap.size+2:=by
 have z:=ed.new w A a;have E:=ed.new (w.alloc (.cells A a)) B b;have b2:=(OX (w.alloc (.cells A a)).heap.size (w.alloc (.cells A a))).alloc (OV _) (.cells B b);have s1:(w.alloc (.cells A a)).heap.size=w.heap.size+1:=OG ..;rw[s1] at E;exact⟨z.below b2 z.lt,E,((OX _ _).alloc (OV _) _).alloc (by simp) _,by rw[OG,s1]⟩
theorem KS(a:OA)(cap:Nat)(l:LN)(w:World)(G:l.length≤1048576)(I:dW w a l):
  Calls prog 78 #[.slice a l.length cap] w fun e w'=>∃v,e= .returned v∧dR w' w.heap.size v l∧Below w.heap.size w w':=
 (lQ a cap l w G I).mono fun _ _ ⟨z,A,E⟩=>⟨_,z,A,E⟩



def lI(w:World)(a:OA)(os:List OpV):Prop:=
 0<os.length→∃b off,a=some ⟨b,off,none⟩∧∀i (h:i<os.length),∃ai ci,w.cell? ⟨b,off+i*4,none⟩=some (.int .i64 os[i].1)∧w.cell? ⟨b,off+i*4+1,none⟩=some (.string os[i].2.1)∧w.cell? ⟨b,off+i*4+2,none⟩=some (.string os[i].2.2.1)∧w.cell? ⟨b,off+i*4+3,none⟩=some (.slice ai os[i].2.2.2.length ci)∧dW w ai os[i].2.2.2
theorem lI.low{a:OA}{os:List OpV}(h:lI w a os)(V:Below B w w')(hB:w.heap.size≤B):lI w' a os:=fun hp=>by
 obtain⟨b,J,rfl,Y⟩:=h hp;refine⟨b,J,rfl,fun i hi=> ?_⟩;obtain⟨K,L,N,O,Q,R,U⟩:=Y i hi;have z:∀(p:Addr) {v:Value},w.cell? p=some v→w'.cell? p=some v:=fun p v A=>by
  have aa:p.block<w.heap.size:=by
   rcases PV p.block w.heap.size with h|h
   ·exact h
   ·simp[World.cell?,Array.getElem?_eq_none h] at A
  rw[V.cell (p:=p) (by omega)];exact A
 refine⟨K,L,z _ N,z _ O,z _ Q,z _ R,fun I=> ?_⟩;obtain⟨b2,E,M,G⟩:=U I;exact⟨b2,E,M,fun j Z=>z _ (G j Z)⟩
theorem lI.below{a:OA}{os:List OpV}(h:lI w a os)(z:Below w.heap.size w w'):lI w' a os:=h.low z (OV _)
end Go.Proofs.YtkkdfgnnlpohlaaGreatDoor
