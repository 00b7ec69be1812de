import Derived.Test.YtpdbolihakojcaaGreatDoorPki
import Derived.Test.YtpdbolihakojcaaGreatDoorPkk
import Derived.Test.YtpdbolihakojcaaGreatDoorShelfI
import Derived.Test.YtpdbolihakojcaaGreatDoorPkl
import Derived.Maps.RangeWalk
import Derived.Maps.AppendAt
namespace Go.Proofs.YtpdbolihakojcaaGreatDoor
set_option maxRecDepth 20000
set_option linter.unusedVariables false
set_option linter.unusedSimpArgs false
set_option maxHeartbeats 4000000
open Go.RowKit
variable {W Y w w' w0 wr : World} {b : List UInt8} {A B at_ base' c cap e f g gs i j k lo m n u z : Nat} {R d is l : List Nat} {E G I J K L M N O v0 v1 v2 v3 v4 v5 v6 x y : Value} {o : Oper} {Q : Exit → Act → World → Prop} {bvs xs : List Value} {t : TypeId} {cs tmps : Array Value} {p : Addr} {a : Option Addr} {first ok : Bool} {s : ByteArray} {rs : List (List Nat)}
section
open Go.Maps
def iD(es:List EN):Prop:=es.Pairwise fun x y=>Op.bytesLess x.1.toList y.1.toList=true
theorem iu:∀x:List UInt8,Op.bytesLess x x=false
 |[]=>rfl
 |a::x=>by
  simp only[Op.bytesLess,iu x,Bool.and_false,Bool.or_false,decide_eq_false_iff_not];exact UInt8.lt_irrefl a
theorem sy:∀x y:List UInt8,Op.bytesLess x y=false→x≠y→Op.bytesLess y x=true
 |[],[],_,h=>absurd rfl h
 |[],_::_,h,_=>by simp[Op.bytesLess] at h
 |_::_,[],_,_=>rfl
 |a::x,b::y,h1,h2=>by
  simp only[Op.bytesLess,Bool.or_eq_false_iff,decide_eq_false_iff_not,Bool.and_eq_false_iff] at h1;simp only[Op.bytesLess,Bool.or_eq_true,decide_eq_true_eq,Bool.and_eq_true,beq_iff_eq];by_cases e:a=b
  ·subst e;refine .inr ⟨rfl,sy x y ?_ (fun e=>h2 (by rw[e]))⟩;rcases h1.2 with h|h
   ·simp at h
   ·exact h
  ·left;have:¬a<b:=h1.1;have z:a.toNat≠b.toNat:=fun h=>e (UInt8.toNat_inj.1 h);have A:¬a.toNat<b.toNat:=fun h=>this (UInt8.lt_iff_toNat_lt.2 h);exact UInt8.lt_iff_toNat_lt.2 (by omega)
theorem tq{l:List EN}(h:iD l){nm:ByteArray}{nd:Int}(O:∀n,(nm,n)∉l):iD (jI l nm nd):=by
 have K:∀x∈l.take (im l nm),Op.bytesLess x.1.toList nm.toList=true:=fun x A=>by
  obtain⟨i,N,rfl⟩:=Nd A;have E:i<im l nm∧i<l.length:=(by rw[MZ] at N;omega);rw[List.getElem_take];have z:=List.not_of_lt_findIdx (p:=fun e:EN=>gtB e.1 nm) (xs:=l) (i:=i) E.1;unfold gtB at z;simp only[Bool.not_eq_false',Bool.or_eq_true,beq_iff_eq] at z;rcases z with z|z
  ·exact z
  ·have M:l[i]'E.2∈l:=MO E.2;have e:=oH z;generalize l[i]'E.2=y at M e;exact absurd (by rw[←e];exact M) (O y.2)
 have J:∀x∈l.drop (im l nm),Op.bytesLess nm.toList x.1.toList=true:=fun x A=>by
  obtain⟨i,E,rfl⟩:=Nd A;rw[MU] at E;rw[List.getElem_drop];have G:im l nm<l.length:=(by omega);have z:gtB (l[im l nm]'G).1 nm=true:=List.findIdx_getElem (p:=fun e:EN=>gtB e.1 nm) (w:=G);unfold gtB at z;simp only[Bool.not_eq_true',Bool.or_eq_false_iff] at z;have L:=sy _ _ z.1 (fun e=>by rw[e] at z;simp at z);by_cases e:i=0
  ·subst e;exact L
  ·exact gy _ _ _ L (M8.1 h (im l nm) (im l nm+i) G (by omega) (by omega))
 unfold jI iD;refine List.pairwise_append.2 ⟨List.Pairwise.sublist (List.take_sublist _ _) h,List.pairwise_cons.2 ⟨fun x A=>J x A,List.Pairwise.sublist (List.drop_sublist _ _) h⟩,fun x A y I=> ?_⟩;rcases M1.1 I with rfl|I
 ·exact K x A
 ·exact gy _ _ _ (K x A) (J y I)
theorem iD.noName{z:List EN}(h:iD z)(s:ByteArray):iD (noName z s):=List.Pairwise.sublist List.filter_sublist h
theorem Ca{nodes:Int}{E l:List EN}{o:DO}(A:iD E)(h:hZ nodes E o=some l):iD l:=by
 unfold hZ at h;split at h
 ·split at h
  ·simp only[MK] at h;subst h;exact tq (A.noName _) (fun n z=>(eK.1 z).2 rfl)
  ·cases h
 ·split at h
  ·split at h
   ·cases h
   ·split at h
    ·simp only[MK] at h;subst h;exact tq ((A.noName _).noName _) (fun n z=>(eK.1 z).2 rfl)
    ·cases h
  ·split at h
   ·split at h
    ·cases h
    ·split at h
     ·simp only[MK] at h;subst h;exact A.noName _
     ·cases h
   ·cases h
def nZ:Prop:=∀(b1 b2 n:Nat) (es:List EN) (W:World),n≤1048576→es.length≤300→gY es→iD es→(∀e∈es,e.1.size≤1048576)→fM W b1 b2 n es→
 Calls Tryz.prog 106 #[kE b1 b2] W fun e w'=>∃v,e= .returned v∧gB w' W.heap.size v es∧Below W.heap.size W w'
theorem Hj{E l:List EN}{nodes:Int}{o:DO}(h:hZ nodes E o=some l)(A:∀e∈E,e.1.size≤1048576)(G:o.2.1.size≤1048576)(I:o.2.2.1.size≤1048576):∀e∈l,e.1.size≤1048576:=by
 rintro⟨s,n⟩ z;unfold hZ at h;split at h
 ·split at h
  ·simp only[MK] at h;subst h;rcases i7.1 z with⟨rfl,_⟩|z
   ·exact G
   ·exact A _ (eK.1 z).1
  ·cases h
 ·split at h
  ·split at h
   ·cases h
   ·split at h
    ·simp only[MK] at h;subst h;rcases i7.1 z with⟨rfl,_⟩|z
     ·exact I
     ·exact A _ (eK.1 (eK.1 z).1).1
    ·cases h
  ·split at h
   ·split at h
    ·cases h
    ·split at h
     ·simp only[MK] at h;subst h;exact A _ (eK.1 z).1
     ·cases h
   ·cases h
theorem gR{nodes:Int}{z:List EN}(h:eL nodes z=true):gY z∧iD z∧z.length≤300∧∀e∈z,0≤e.2∧e.2<nodes:=by
 unfold eL at h;obtain⟨L,K⟩:=of_decide_eq_true h;have J:∀i j (A:i<z.length) (E:j<z.length),i<j→Op.bytesLess z[i].1.toList z[j].1.toList=true∧z[i].2≠z[j].2:=fun i j A E G=>by
  have I:=(K j E).2 i G;unfold apart at I;exact of_decide_eq_true I
 refine⟨M8.2 fun i j A E G=>⟨fun e=> ?_,(J i j A E G).2⟩,M8.2 fun i j A E G=>(J i j A E G).1,L,fun e M=> ?_⟩
 ·have:=(J i j A E G).1;rw[e,iu] at this;cases this
 ·obtain⟨i,A,rfl⟩:=Nd M;have I:=(K i A).1;unfold lA at I;exact(of_decide_eq_true I).2
end
def yk(w:World)(a:Option Addr)(xs:List ByteArray):Prop:=0<xs.length→∃b off,a=some ⟨b,off,none⟩∧∀i (h:i<xs.length),w.cell? ⟨b,off+i,none⟩=some (.string xs[i])
theorem jp(s:ByteArray)(w:World):Calls Tryz.prog 136 #[.string s] w fun e w'=>e= .returned (.bool false)∧w'=w:=by
 have h:(s.toList==s.toList)=true:=(by simp);go_enter Tryz.func136,Tryz.ntmps136;go_wp2;go_ret;exact⟨rfl,rfl⟩
theorem Cg(s:ByteArray)(w:World):Calls Tryz.prog 193 #[.string s] w fun e w'=>e= .returned (.bool false)∧w'=w:=by
 have h:(s.toList==s.toList)=true:=(by simp);go_enter Tryz.func193,Tryz.ntmps193;go_wp2;go_ret;exact⟨rfl,rfl⟩
theorem yy(x y:ByteArray)(w:World):Calls Tryz.prog 192 #[.string x,.string y] w fun e w'=>e= .returned (.bool (Op.bytesLess x.toList y.toList))∧w'=w:=by
 generalize z:Op.bytesLess x.toList y.toList=q;go_enter Tryz.func192,Tryz.ntmps192;go_wp2_with fail;refine(jp x w).mono ?_;rintro e A ⟨rfl,rfl⟩;go_wp2;go_ret;exact⟨rfl,rfl⟩
theorem Fc{xs:List ByteArray}{t:ByteArray}(A:xs.Pairwise fun x y=>Op.bytesLess x.toList y.toList=true)(E:m<xs.length)(h:Op.bytesLess xs[m].toList t.toList=true):∀k (z:k<xs.length),k<m+1→Op.bytesLess xs[k].toList t.toList=true:=by
 intro k z G;by_cases e:k=m
 ·subst e;exact h
 ·exact gy _ _ _ (M8.1 A k m z E (by omega)) h
theorem Fb{xs:List ByteArray}{t:ByteArray}(E:xs.Pairwise fun x y=>Op.bytesLess x.toList y.toList=true)(G:m<xs.length)(h:Op.bytesLess xs[m].toList t.toList=false):∀k (A:k<xs.length),m≤k→Op.bytesLess xs[k].toList t.toList=false:=by
 intro k A I;by_cases e:k=m
 ·subst e;exact h
 ·cases e2:Op.bytesLess xs[k].toList t.toList with
  |false=>rfl
  |true=>
   have z:=gy _ _ _ (M8.1 E m k G A (by omega)) e2;rw[h] at z;cases z
def KF(xs:List ByteArray)(t:ByteArray)(e:Ending):Prop:=∃(i:Nat) (f:Bool),e= .returned (.tuple #[.int .i64 (i:Int),.bool f])∧i≤xs.length∧(∀k (h:k<xs.length),k<i→Op.bytesLess xs[k].toList t.toList=true)∧(∀k (h:k<xs.length),i≤k→Op.bytesLess xs[k].toList t.toList=false)
theorem yr(a:Option Addr)(cap:Nat)(xs:List ByteArray)(t:ByteArray)(w:World)(hn:xs.length≤1048576)(V:yk w a xs)(U:xs.Pairwise fun x y=>Op.bytesLess x.toList y.toList=true):
  Calls Tryz.prog 166 #[.slice a xs.length cap,.string t] w fun e w'=>KF xs t e∧w'=w:=by
 have N:=a8 U;clear U;go_enter Tryz.func166,Tryz.ntmps166;go_wp2;go_loopw [7,8,9] (fun i j _ wr=>∃(p q:Nat),p≤q∧q≤xs.length∧i= .int .i64 (p:Int)∧j= .int .i64 (q:Int)∧(∀k (h:k<xs.length),k<p→Op.bytesLess xs[k].toList t.toList=true)∧(∀k (h:k<xs.length),q≤k→Op.bytesLess xs[k].toList t.toList=false)∧wr=w) (fun i j _ _=>(intOf j).toNat-(intOf i).toNat)
 case atStart=>exact⟨0,xs.length,MQ _,MH _,rfl,rfl,fun k _ h=>by omega,fun k h h'=>by omega,rfl⟩
 case round=>
  obtain⟨p,q,ai,G,rfl,rfl,Q,O,rfl⟩:=hrel;have E:=a8 Q;have A:=a8 O;clear Q O;by_cases ae:p<q
  ·have R:(p:Int)<(q:Int):=(by omega);obtain⟨m,hm⟩:∃m,m=(p+q)/2:=⟨_,rfl⟩
   have af:p≤m∧m<q:=(by omega);have ag:((p:Int)+(q:Int))/2=(m:Int):=(by omega);clear hm;obtain⟨b,ad,rfl,z⟩:=V (by omega);have J:m<xs.length:=(by omega);have I:=z m J;have ah:(m:Int)<(xs.length:Int):=(by omega);have M:=a8 (Fc (t:=t) N.out J);have L:=a8 (Fb (t:=t) N.out J);generalize ab:xs[m]=Y at I M L;clear z ab;go_wp2_with fail;refine(yy Y t wr).mono ?_;rintro e w2 ⟨rfl,rfl⟩;cases hq2:Op.bytesLess Y.toList t.toList with
   |true=>
    have K:=a8 (M.out hq2);go_wp2;go_roundw
    case rel=>exact⟨m+1,q,by omega,G,by go_num,rfl,K.out,A.out,by trivial⟩
    case measure=>simp[intOf];omega
   |false=>
    have K:=a8 (L.out hq2);go_wp2;go_roundw
    case rel=>exact⟨p,m,by omega,by omega,rfl,by go_num,E.out,K.out,by trivial⟩
    case measure=>simp[intOf];omega
  ·obtain rfl:p=q:=(by omega);by_cases aa:p<xs.length
   ·have R:(p:Int)<(xs.length:Int):=(by omega);obtain⟨b,ad,rfl,z⟩:=V (by omega);have I:=z p aa;generalize ac:xs[p]=Z at I;clear z ac;by_cases e:Z=t
    ·have hb:=jg e;clear e;go_wp2;go_ret2;exact⟨⟨p,true,rfl,G,E.out,A.out⟩,rfl⟩
    ·have hb:=jh e;clear e;go_wp2_with fail;refine(Cg Z wr).mono ?_;rintro e w2 ⟨rfl,rfl⟩;go_wp2;go_ret2;exact⟨⟨p,false,rfl,G,E.out,A.out⟩,rfl⟩
   ·have R:¬(p:Int)<(xs.length:Int):=(by omega);go_wp2;go_ret2;exact⟨⟨p,false,rfl,G,E.out,A.out⟩,rfl⟩
def kq(w:World)(base:Nat)(v:Value)(xs:List ByteArray):Prop:=w.ownsRow base 9 1 v xs.length (xs.map Value.string)
theorem kq.at{E:Nat}{xs:List ByteArray}(h:kq w E (.slice a n cap) xs):yk w a xs:=fun N=>by
 rcases h.2 with⟨_,M⟩|⟨g,L,G,z,_,I,_,_,_,K⟩
 ·omega
 ·simp only[MR] at z;refine⟨g,0,z.1,fun i J=> ?_⟩;rw[cell_of_row w g _ _ _ (0,0) I];have A:(G.toList.take (xs.length*1))[i]? =some (.string xs[i]):=(by rw[K];simp[J]);rw[List.getElem?_take_of_lt (by omega)] at A;simpa using A
def uK:Prop:=∀(base:Nat) (a:Option Addr) (cap i:Nat) (xs:List ByteArray) (t:ByteArray) (w:World),xs.length≤1048576→i≤xs.length→base≤w.heap.size→kq w base (.slice a xs.length cap) xs→
  Calls Tryz.prog 167 #[.slice a xs.length cap,.int .i64 (i:Int),.slice (some ⟨w.heap.size,0,none⟩) 1 1] (w.alloc (.cells #[.string t] 9)) fun e w'=>∃v,e= .returned v∧kq w' base v (xs.take i++t::xs.drop i)∧Below base w w'
theorem Bz(U:uK)(z:Nat)(a:Option Addr)(cap:Nat)(xs:List ByteArray)(t:ByteArray)(w:World)(J:xs.length≤1048576)(V:z≤w.heap.size)(K:kq w z (.slice a xs.length cap) xs)(G:xs.Pairwise fun x y=>Op.bytesLess x.toList y.toList=true):
  Calls Tryz.prog 135 #[.slice a xs.length cap,.string t] w fun e w'=>∃v i,e= .returned v∧kq w' z v (xs.take i++t::xs.drop i)∧(∀k (h:k<xs.length),k<i→Op.bytesLess xs[k].toList t.toList=true)∧(∀k (h:k<xs.length),i≤k→Op.bytesLess xs[k].toList t.toList=false)∧Below z w w':=by
 have I:=a8 (yr a cap xs t w J K.at G);clear G;go_enter Tryz.func135,Tryz.ntmps135;go_wp2_with fail;refine I.out.mono ?_;rintro e Z ⟨⟨i,f,rfl,Y,E,A⟩,rfl⟩;have O:=a8 E;have N:=a8 A;clear E A I;go_wp2_with fail;refine(U z a cap i xs t Z J Y V K).mono ?_;rintro e w2 ⟨v,rfl,L,M⟩;have Q:=a8 L;have R:=a8 M;clear L M;go_wp2;go_ret;exact⟨v,i,rfl,Q.out,O.out,N.out,R.out⟩
theorem iA{b:Nat}{t:TypeId}:∀(E:List Value) (o:Nat) (w:World) (cur:Array Value),w.heap[b]? =some (.cells cur t (0,0))→∃z,(w.setCells b o E).heap[b]? =some (.cells z t (0,0))∧z.size=cur.size∧∀j,j<cur.size→z[j]? =if o≤j∧j<o+E.length then E[j-o]? else cur[j]?
 |[],o,w,cur,h=>⟨cur,h,rfl,fun j A=>by rw[if_neg (by simp)]⟩
 |v::r,o,w,cur,h=>by
  obtain⟨I,J,L,K⟩:=iA r (o+1) (w.setCell ⟨b,o,none⟩ v) (cur.setIfInBounds o v) (heap_setCell_same w b o _ _ v h);refine⟨I,J,by rw[L];simp,fun j A=> ?_⟩;rw[K j (by simpa using A)];by_cases e:o=j
  ·subst e;rw[if_neg (by omega),if_pos (by simp)];simp[A]
  ·rw[Array.getElem?_setIfInBounds_ne e];by_cases G:o+1≤j∧j<o+1+r.length
   ·rw[if_pos G,if_pos (by simp;omega),show j-o=(j-(o+1))+1 by omega,Ni]
   ·rw[if_neg G,if_neg (by simp;omega)]
theorem J4{z:Array Value}{ys:List ByteArray}(G:A≤g)(J:w.heap[g]? =some (.cells z 9 (0,0)))(L:ys.length≤cap)(K:cap≤maxLen)(M:z.size=cap)(I:∀j (h:j<ys.length),z[j]? =some (.string ys[j])):kq w A (.slice (some ⟨g,0,none⟩) ys.length cap) ys:=by
 refine⟨by simp,.inr ⟨g,cap,z,rfl,G,J,L,K,by omega,?_⟩⟩;apply List.ext_getElem?;intro j;by_cases E:j<ys.length
 ·rw[List.getElem?_take_of_lt (by omega)];simp[E,I j E]
 ·rw[Nf (by simp;omega),Nf (by simp;omega)]
theorem La(xs:List ByteArray)(t:ByteArray)(i:Nat)(G:i≤xs.length)(j:Nat):(xs.take i++t::xs.drop i)[j]? =if j<i then xs[j]? else if j=i then some t else xs[j-1]? :=by
 by_cases z:j<i
 ·rw[if_pos z,List.getElem?_append_left (by simp;omega),List.getElem?_take_of_lt z]
 ·rw[if_neg z,List.getElem?_append_right (by simp;omega)];have E:(xs.take i).length=i:=(by simp;omega);rw[E];by_cases A:j=i
  ·rw[if_pos A,A];simp
  ·rw[if_neg A,show j-i=(j-i-1)+1 by omega,Ni,List.getElem?_drop,show i+(j-i-1)=j-1 by omega]
theorem JT(xs:List ByteArray):∀v∈xs.map Value.string,v.oneCell'=true:=by
 intro v z;obtain⟨x,_,rfl⟩:=Na.1 z;rfl
theorem ve(W:World)(z cap:Nat)(xs:List ByteArray)(t:ByteArray)(I:xs.length≤1048576)(G:z≤W.heap.size):
  kq (W.drew.alloc (.cells ((xs.map Value.string++[Value.string t]).toArray++Builtin.zeroCells (Value.string ⟨#[]⟩).cells (grownCap W (xs.length+1) cap 9-(xs.length+1))) 9)) z (.slice (some ⟨W.heap.size,0,none⟩) (xs.length+1) (grownCap W (xs.length+1) cap 9)) (xs.take xs.length++t::xs.drop xs.length):=by
 have E:=grownCap_ge W (xs.length+1) cap 9;have A:grownCap W (xs.length+1) cap 9≤maxLen:=grownCap_le_maxLen W _ _ 9 (by unfold maxLen;omega);have e:xs.take xs.length++t::xs.drop xs.length=xs++[t]:=(by simp);rw[e];refine⟨by simp,.inr ⟨W.heap.size,_,_,by simp,G,heap_alloc_new W.drew _,by simpa using E,A,?_,?_⟩⟩
 ·simp[size_zeroCells,Value.cells];omega
 ·rw[Array.toList_append,MS];exact List.take_left' (by simp)
theorem iS{B b:Nat}{a:World}(z:B≤b):∀(A:List Value) (o:Nat) (w:World),Below B a w→Below B a (w.setCells b o A)
 |[],_,_,h=>h
 |v::r,o,_,h=>iS z r (o+1) _ (h.setCell (p:=⟨b,o,none⟩) z v)
theorem wY{z:Array Value}{xs:List ByteArray}{t:ByteArray}(M:i≤xs.length)(J:A≤g)(L:w.heap[g]? =some (.cells z 9 (0,0)))(U:xs.length+1≤cap)(Q:cap≤maxLen)(R:z.size=cap)
  (K:∀j,j<xs.length+1→z[j]? =if j<i then xs[j]?.map Value.string else if j=i then some (.string t) else xs[j-1]?.map Value.string):kq w A (.slice (some ⟨g,0,none⟩) (xs.length+1) cap) (xs.take i++t::xs.drop i):=by
 have O:(xs.take i++t::xs.drop i).length=xs.length+1:=(by simp;omega);have h:=J4 (ys:=xs.take i++t::xs.drop i) J L (by omega) Q R (fun j N=>by
  have I:=K j (by omega);have E:=La xs t i M j;rw[MM N] at E;rw[I];have G:=congrArg (Option.map Value.string) E;rw[Option.map_some] at G;rw[G];split
  ·rfl
  ·split<;>rfl)
 rw[O] at h;exact h
theorem wZ:uK:=by
 intro L a cap i xs t w hn hi hb ho;have N:∀v∈[Value.string t],v.oneCell'=true:=(by simp[Value.oneCell']);have ap:=JT xs;have ac:(w.alloc (.cells #[.string t] 9)).heap[w.heap.size]? =some (.cells #[.string t] 9 (0,0)):=heap_alloc_new w _;have R:∀j v,[Value.string t][j]? =some v→(w.alloc (.cells #[.string t] 9)).cell? ⟨w.heap.size,0+j,none⟩=some v:=by
  intro j v h;rw[cell_of_row _ w.heap.size (0+j) _ _ (0,0) ac];rcases j with _|j
  ·simpa using h
  ·simp at h
 have M:Below L w (w.alloc (.cells #[.string t] 9)):=(MJ L w).alloc hb _;have E:L≤(w.alloc (.cells #[.string t] 9)).heap.size:=(by simp;omega);rcases ho.2 with⟨Z,h0⟩|⟨g,ay,G,Z,O,hg,am,ae,az,ah⟩
 ·obtain rfl:xs=[]:=Nc.1 h0;simp only[MR] at Z;obtain⟨rfl,-,rfl⟩:=Z;obtain rfl:i=0:=(by simpa using hi);refine(Any2.slices_Insert_string_end_grow Tryz.laysNm222 none 0 0 w.heap.size 0 1 1 [] [.string t] _ (by omega) (by omega) (by omega) (by omega) rfl rfl (fun _=>rfl) (fun _ h=>by cases h) R N).mono ?_;rintro e w' ⟨rfl,rfl⟩;exact⟨_,rfl,ve _ L 0 [] t hn E,(below_drewN M 1).alloc E _⟩
 ·simp only[MR] at Z;obtain⟨rfl,-,rfl⟩:=Z;have ar:g<w.heap.size:=by
   rcases NB g w.heap.size with K|K
   ·exact K
   ·rw[Array.getElem?_eq_none K] at hg;cases hg
  have I:(w.alloc (.cells #[.string t] 9)).heap[g]? =some (.cells G 9 (0,0)):=(heap_alloc_old w _ ar).trans hg;have af:∀j v,(xs.map Value.string)[j]? =some v→(w.alloc (.cells #[.string t] 9)).cell? ⟨g,0+j,none⟩=some v:=by
   intro j v h;rw[cell_of_row _ g (0+j) _ _ (0,0) I,Ng];rw[←ah] at h;have A:j<xs.length:=by
    rcases NB j xs.length with K|K
    ·exact K
    ·rw[Nf (by simp;omega)] at h;cases h
   rw[List.getElem?_take_of_lt (by omega)] at h;simpa using h
  have ai:∀j,j<xs.length→G[j]? =xs[j]?.map Value.string:=by
   intro j A;have h:=congrArg (fun l=>l[j]?) ah;simp only[Nr] at h;rw[List.getElem?_take_of_lt (by omega)] at h;simpa using h
  by_cases aa:xs.length+1≤cap
  ·have ao:∀j,j<xs.length+1→((w.alloc (.cells #[.string t] 9)).cell? ⟨g,0+j,none⟩).isSome=true:=by
    intro j A;rw[cell_of_row _ g (0+j) _ _ (0,0) I];simp;omega
   have ak:∀j,(w.alloc (.cells #[.string t] 9)).frozen? ⟨g,j,none⟩=false:=fun j=>(by simp[World.frozen?,I]);have aj:∀j,(w.alloc (.cells #[.string t] 9)).frozen? ⟨w.heap.size,j,none⟩=false:=fun j=>(by simp only[World.frozen?,ac];simp);have av:(w.alloc (.cells #[.string t] 9)).shape? g=some (9,G.size):=(by simp[World.shape?,I]);have aw:(w.alloc (.cells #[.string t] 9)).shape? w.heap.size=some (9,1):=(by simp only[World.shape?,ac];simp);have al:cap≤9223372036854775807:=(by unfold maxLen at ae;omega);by_cases ag:i=xs.length
   ·subst ag;refine(Any2.slices_Insert_string_end_room Tryz.laysNm222 g 0 xs.length cap w.heap.size 0 1 1 [.string t] _ (by omega) aa al rfl (fun j A=>by rw[Nat.add_assoc];exact ao _ (by omega)) (fun j A=>ak _) R N).mono ?_;rintro e w' ⟨rfl,rfl⟩;obtain⟨J,U,ab,Q⟩:=iA [.string t] (0+xs.length) _ G I;refine⟨_,rfl,wY (MH _) O U aa ae (by omega) (fun j A=> ?_),iS O _ _ _ M⟩;rw[Q j (by omega)];by_cases z:j<xs.length
    ·rw[if_neg (by omega),if_pos z,ai j z]
    ·obtain rfl:j=xs.length:=(by omega);simp
   ·refine(Any2.slices_Insert_string_shift Tryz.laysNm222 g 0 xs.length cap i w.heap.size 0 1 1 (xs.map .string) [.string t] _ (by omega) (by omega) aa al (by omega) (by simp) rfl af ao (fun j _=>ak _) R ap N 9 9 1 G.size aw av (by omega) (aj _) (aj _)).mono ?_;rintro e w' ⟨rfl,rfl⟩;obtain⟨J,U,ab,Q⟩:=iA ((xs.map Value.string).drop i) (0+(i+1)) (w.alloc (.cells #[.string t] 9)).drew G I;obtain⟨c3,h3,an,ad⟩:=iA [.string t] (0+i) _ J U;refine⟨_,rfl,wY hi O h3 aa ae (by omega) (fun j A=> ?_),iS O _ _ _ (iS O _ _ _ (below_drewN M 1))⟩;rw[ad j (by omega),Q j (by omega)];by_cases z:j<i
    ·rw[if_neg (by omega),if_neg (by omega),if_pos z,ai j (by omega)]
    ·by_cases Y:j=i
     ·subst Y;simp
     ·rw[if_neg (by simp;omega),if_pos (by simp;omega),if_neg z,if_neg Y,List.getElem?_drop,Nr,show i+(j-(0+(i+1)))=j-1 by omega]
  ·by_cases ag:i=xs.length
   ·subst ag;refine(Any2.slices_Insert_string_end_grow Tryz.laysNm222 (some ⟨g,0,none⟩) xs.length cap w.heap.size 0 1 1 (xs.map .string) [.string t] _ (by omega) am (by omega) (by omega) (by simp) rfl (fun h=>by cases h) (fun a h j v A=>by cases h;rw[Addr.add_lit];exact af j v A) R N).mono ?_;rintro e w' ⟨rfl,rfl⟩;exact⟨_,rfl,ve _ L cap xs t hn E,(below_drewN M 1).alloc E _⟩
   ·refine(Any2.slices_Insert_string_grow Tryz.laysNm222 g 0 xs.length cap i w.heap.size 0 1 1 (xs.map .string) [.string t] _ (by omega) (by omega) am (by omega) (by omega) (by simp) rfl af R ap N).mono ?_;rintro e w' ⟨rfl,rfl⟩;have aq:=grownCap_ge (w.alloc (.cells #[.string t] 9)) (xs.length+1) cap 9;have au:grownCap (w.alloc (.cells #[.string t] 9)) (xs.length+1) cap 9≤maxLen:=grownCap_le_maxLen _ _ _ 9 (by unfold maxLen;omega);generalize hW:w.alloc (.cells #[.string t] 9)=W at*;obtain⟨J,U,ab,Q⟩:=iA [.string t] i (W.alloc (.cells (((xs.map Value.string).take i).toArray++Builtin.zeroCells (Value.string ⟨#[]⟩).cells (xs.length+1-i)++Builtin.zeroCells (Value.string ⟨#[]⟩).cells (grownCap W (xs.length+1) cap 9-(xs.length+1))) 9)).drew _ (heap_alloc_new W _);have ax:=fun(V:World) (h:V.heap[W.heap.size]? =some (.cells J 9 (0,0)))=>iA ((xs.map Value.string).drop i) (i+1) V.drew J h;obtain⟨c3,h3,an,ad⟩:=ax _ U;refine⟨_,rfl,wY hi E h3 aq au ?_ (fun j A=> ?_),iS E _ _ _ (below_drewN (iS E _ _ _ (below_drewN (M.alloc E _) 1)) 1)⟩
    ·show _=grownCap W (xs.length+1) cap 9;rw[an,ab];simp[size_zeroCells,Value.cells];omega
    ·have hC:J.size=grownCap W (xs.length+1) cap 9:=(by rw[ab];simp[size_zeroCells,Value.cells];omega);rw[ad j (by omega),Q j (by omega)];by_cases z:j<i
     ·rw[if_neg (by omega),if_neg (by omega),if_pos z,Array.append_assoc,Array.getElem?_append_left (by simp;omega)];simp[z]
     ·by_cases Y:j=i
      ·subst Y;rw[if_neg (by omega)];simp
      ·rw[if_pos (by simp;omega),if_neg z,if_neg Y,List.getElem?_drop,Nr,show i+(j-(i+1))=j-1 by omega]
section
open Go.Maps
theorem nR{P:Program}{k:TypeId}(E:P.underlying k=some .string){z:Value}{A:Lit}(h:keyOf P k z=some A):∃s:ByteArray,z= .string s∧A= .string s.data.toList∧s.size≤maxLen:=by
 cases z<;>simp[keyOf,E,mapKey] at h;exact⟨_,rfl,h.2.symm,h.1⟩
theorem mo{H:Type}{P:Program}(w:World){L:Array Oper}{J:List Oper}{o:Oper}{a:Act}{Q:Exit→Act→World→Prop}
  (hg:o.guard=none) (M:Operand) (ad:o.op=Op.next M false) (k e:TypeId) (G:IntKind) (K:Keyed P k) (O:P.underlying k=some .string) (he:P.underlying e=some (.int G))
  (b r n:Nat) (D:DataW H) (left:Lit→Bool) (E:Nat) (aa:a.eval M= .pointer (some ⟨r,0,none⟩)) (h:w.ranges P k (plainElem P e) b r n D left E)
  (U:E=0→(∀N,left N=false)→wpList P L Q J (a.put o.dst (.tuple #[.bool false])) w)
  (V:∀(x:ByteArray) (c:Int) (w':World) (A:Nat),x.size≤maxLen→left (.string x.data.toList)=true→w'.ranges P k (plainElem P e) b r n D (fun z=>left z&& !z.sameKey (.string x.data.toList)) A→A<E→
   w.grownBy w' (some r)→w'.heap.size=w.heap.size→(Instr.entry (.pointer (some ⟨r,0,none⟩))).run P w'= .ok (.tuple #[.string x,.int G c]) w'→wpList P L Q J (a.put o.dst (.tuple #[.bool true,.string x,.int G c])) w'):
  wpList P L Q (o::J) a w:=
 wpList_next_ranges w hg M ad k K (plainElem P e) Value.string (Value.int G) (fun ai N I=>by obtain⟨x,rfl,_⟩:=nR O I;exact⟨x,rfl⟩) (fun v y R=>by obtain⟨c,rfl,_⟩:=plainElem_int_inv he R;exact⟨c,rfl⟩)
  b r n D left E aa h U (fun x c N y w' A I ab R ah ae ac Z af Y=>by
   obtain⟨x',ex,rfl,ag⟩:=nR O I;cases ex;exact V x c w' A ag ab ae ac Z af Y)
def oE(xs:List ByteArray):Prop:=xs.Pairwise fun x y=>Op.bytesLess x.toList y.toList=true
theorem tn:∀{xs ys:List ByteArray},oE xs→oE ys→(∀s,s∈xs↔s∈ys)→xs=ys
 |[],[],_,_,_=>rfl
 |[],y::_,_,_,h=>absurd ((h y).2 (.head _)) (by simp)
 |x::_,[],_,_,h=>absurd ((h x).1 (.head _)) (by simp)
 |x::xs,y::ys,h1,h2,h=>by
  obtain⟨E,G⟩:=List.pairwise_cons.1 h1;obtain⟨b1,b2⟩:=List.pairwise_cons.1 h2;have e:x=y:=by
   rcases M1.1 ((h x).1 (.head _)) with e|I
   ·exact e
   ·rcases M1.1 ((h y).2 (.head _)) with e|J
    ·exact e.symm
    ·exact absurd (gy _ _ _ (b1 _ I) (E _ J)) (by rw[iu];decide)
  subst e;rw[tn G b2 fun s=>⟨fun z=> ?_,fun z=> ?_⟩]
  ·rcases M1.1 ((h s).1 (.tail _ z)) with e|A
   ·exact absurd (E _ z) (by rw[e,iu];decide)
   ·exact A
  ·rcases M1.1 ((h s).2 (.tail _ z)) with e|A
   ·exact absurd (b1 _ z) (by rw[e,iu];decide)
   ·exact A
theorem Ck{xs:List ByteArray}{t:ByteArray}{i:Nat}(h:oE xs)(M:t∉xs)(K:∀k (h:k<xs.length),k<i→Op.bytesLess xs[k].toList t.toList=true)(J:∀k (h:k<xs.length),i≤k→Op.bytesLess xs[k].toList t.toList=false):oE (xs.take i++t::xs.drop i):=by
 have G:∀x∈xs.take i,Op.bytesLess x.toList t.toList=true:=fun x z=>by
  obtain⟨k,A,rfl⟩:=Nd z;rw[MZ] at A;rw[List.getElem_take];exact K k (by omega) (by omega)
 have I:∀x∈xs.drop i,Op.bytesLess t.toList x.toList=true:=fun x z=>by
  obtain⟨k,A,rfl⟩:=Nd z;rw[MU] at A;rw[List.getElem_drop];have L:xs[i+k]'(by omega)∈xs:=MO _;exact sy _ _ (J (i+k) (by omega) (by omega)) (fun e=>M (by rw[←oH e];exact L))
 refine List.pairwise_append.2 ⟨h.sublist (List.take_sublist _ _),List.pairwise_cons.2 ⟨I,h.sublist (List.drop_sublist _ _)⟩,fun x z y E=> ?_⟩;rcases M1.1 E with rfl|E
 ·exact G x z
 ·exact gy _ _ _ (G x z) (I y E)
theorem JL{xs:List ByteArray}{t s:ByteArray}{i:Nat}:s∈xs.take i++t::xs.drop i↔s=t∨s∈xs:=by
 rw[Nb,M1];constructor
 ·rintro(h|h|h)
  ·exact .inr (M4 h)
  ·exact .inl h
  ·exact .inr (M7 h)
 ·rintro(h|h)
  ·exact .inr (.inl h)
  ·rw[←Nk i xs,Nb] at h;rcases h with h|h
   ·exact .inl h
   ·exact .inr (.inr h)
structure vV(D1:DU)(left:Lit→Bool)(xs:List ByteArray):Prop where
 so:oE xs
 sub:∀s,left (kS s)=true→Maps.has D1 (kS s)=true
 mem:∀s,s∈xs↔Maps.has D1 (kS s)=true∧left (kS s)=false
theorem vV.start(z:DU):vV z (Maps.has z) []:=⟨.nil,fun _ h=>h,fun s=>⟨(fun h=>by cases h),fun h=>by rw[h.1] at h;exact absurd h.2 (by decide)⟩⟩
theorem vV.more{I:DU}{left:Lit→Bool}{xs:List ByteArray}{t:ByteArray}{i:Nat}(h:vV I left xs)(G:left (kS t)=true)(M:∀k (h:k<xs.length),k<i→Op.bytesLess xs[k].toList t.toList=true)(L:∀k (h:k<xs.length),i≤k→Op.bytesLess xs[k].toList t.toList=false):vV I (fun z=>left z&& !z.sameKey (kS t)) (xs.take i++t::xs.drop i):=by
 have O:t∉xs:=fun N=>(by rw[((h.mem t).1 N).2] at G;cases G);refine⟨Ck h.so O M L,fun s K=>h.sub s (by simp only[Bool.and_eq_true] at K;exact K.1),fun s=> ?_⟩;rw[JL,h.mem];have J:(kS s).sameKey (kS t)=true↔s=t:=⟨fun e=>su (WideAt.sameKey_eq e),fun e=>by rw[e];exact WideAt.sameKey_self (GQ t)⟩
 constructor
 ·rintro(rfl|⟨E,A⟩)
  ·exact⟨h.sub _ G,by rw[J.2 rfl];simp⟩
  ·exact⟨E,by rw[A];rfl⟩
 ·rintro⟨E,A⟩;by_cases e:s=t
  ·exact .inl e
  ·right;refine⟨E,?_⟩;cases hl:left (kS s) with
   |false=>rfl
   |true=>
    rw[hl] at A;simp only[Bool.true_and,Bool.not_eq_false'] at A;exact absurd (J.1 A) e
theorem vV.done{E I:DU}{left:Lit→Bool}{xs:List ByteArray}{z:List EN}(h:vV E left xs)(J:∀M,left M=false)(G:kt E I z)(L:iD z):xs=z.map Prod.fst:=by
 refine tn h.so (List.pairwise_map.2 L) fun s=> ?_;rw[h.mem,Na];constructor
 ·rintro⟨K,_⟩;obtain⟨n,A⟩:=G.r2 s K;exact⟨(s,n),A,rfl⟩
 ·rintro⟨⟨s',n⟩,A,rfl⟩;exact⟨(G.r1 _ _ A).1,J _⟩
end
section
open Go.Maps
theorem JE{w:World}{b1 b2 n:Nat}{A:List EN}(h:fM w b1 b2 n A):∀z,(Builtin.len_ #[189] z #[.map (some b1)]).run Tryz.prog w= .ok (.int .i64 (A.length:Nat)) w:=fun z=>by
 obtain⟨J,K,G,I⟩:=h;have E:=G.o1.len Tryz.underlying189 z;rw[I.sz] at E;exact E
theorem Kv{n:Int}(z:0≤n)(A:n≤1048576):(Lit.int .i64 n).wf=true:=WalkArith.wf_i64 (by omega)
theorem Ib(HE:nZ)(Z N a3 Q:Option Addr)(c1 U c3 c4:Nat)(ns:List (List Nat×Int))(nm A:List EN)(z:List DO)(qt:Int)(w:World)(bP:ns.length≤600)(bc:eL (ns.length:Int) A=true)(aK:∀e∈A,e.1.size≤1048576)(bf:∀o∈z,o.2.1.size≤1048576∧o.2.2.1.size≤1048576)(bi:∀o∈z,(Lit.int .i64 o.2.2.2).wf=true)(h2:fi w N nm)(h3:fi w a3 A)(h4:ob w Q z):
  Calls Tryz.prog 73 #[.agg #[.slice Z ns.length c1,.slice N nm.length U,.slice a3 A.length c3,.slice Q z.length c4,.int .i64 qt]] w (nb w (z.length≤1000∧gg (ns.length:Int) A z=some nm)):=by
 obtain⟨aM,bj,bD,aN⟩:=gR bc;have af:Below w.heap.size w (w.alloc (.cells #[.slice Z ns.length c1,.slice N nm.length U,.slice a3 A.length c3,.slice Q z.length c4,.int .i64 qt] 37)):=(MJ _ _).alloc (MH _) _;have L0:=dZ.new w #[.slice Z ns.length c1,.slice N nm.length U,.slice a3 A.length c3,.slice Q z.length c4,.int .i64 qt] 37;have aD:=a8 (uo a3 c3 A _ (by omega) aK (fun e he=>Kv (aN e he).1 (by have:=(aN e he).2;omega)) aM (h3.below af));have aR:=a8 (h2.below af);have aS:=a8 (h4.below af);have O:=a8 af;have al:=a8 L0;have bu:=a8 aK;have bw:=a8 bf;have bx:=a8 bi;have bm:=a8 aM;have bn:=a8 bj;clear bc af L0 h2 h3 h4 aK bf bi aM bj aN;by_cases g4:(1000:Int)<(z.length:Int)
 ·go_enter Tryz.func73,Tryz.ntmps73;go_wp2;go_ret;exact gG (fun h=>by omega) O.out
 have an:=a8 (show(z.length≤1000∧gg (ns.length:Int) A z=some nm)=(gg (ns.length:Int) A z=some nm) from propext ⟨fun h=>h.2,fun h=>⟨by omega,h⟩⟩);generalize (z.length≤1000∧gg (ns.length:Int) A z=some nm)=V at an⊢;go_enter Tryz.func73,Tryz.ntmps73;go_wp2_with fail;generalize w.alloc (.cells #[.slice Z ns.length c1,.slice N nm.length U,.slice a3 A.length c3,.slice Q z.length c4,.int .i64 qt] 37)=W0 at aD aR aS O al⊢;refine(aD.out).mono ?_;rintro e M ⟨b1,b2,rfl,ba,bb,ah,ac⟩;have ao:=al.out.below ac al.out.lt;obtain⟨-,-,-,r3⟩:=ao.c4;have bM:=al.out.lt;have hA:=nAl M (.cells #[.map (some b1),.map (some b2)] 191);have bk:(M.alloc (.cells #[.map (some b1),.map (some b2)] 191)).cell? ⟨w.heap.size,3,none⟩=some (.slice Q z.length c4):=(hA.cell (p:=⟨w.heap.size,3,none⟩) (dH r3)).trans r3;have aC:=a8 (ah.below hA ah.lt.1 ah.lt.2);have ad:=a8 (dZ.new M #[.map (some b1),.map (some b2)] 191);have ax:=a8 (ao.below hA ao.lt);have aA:=a8 (ac.trans (hA.mono ac.size));have bH:=ah.lt;have bO:=ac.size;unfold kE;clear ah ac ao aD;go_wp2;generalize hW:M.alloc (.cells #[.map (some b1),.map (some b2)] 191)=W at aC ad ax aA bk⊢;clear hW hA r3;go_loopw [5,16] (fun _ i wr=>∃(k:Nat) (E:List EN),k≤z.length∧i= .int .i64 (k:Int)∧fM wr b1 b2 (A.length+k) E∧gY E∧iD E∧E.length≤300∧(∀e∈E,e.1.size≤1048576)∧gg (ns.length:Int) A z=gg (ns.length:Int) E (z.drop k)∧dZ wr w.heap.size #[.slice Z ns.length c1,.slice N nm.length U,.slice a3 A.length c3,.slice Q z.length c4,.int .i64 qt] 37∧dZ wr M.heap.size #[.map (some b1),.map (some b2)] 191∧Below W0.heap.size W0 wr) (fun _ i _=>z.length-(intOf i).toNat)
 case atStart=>exact⟨0,A,MQ _,rfl,aC.out,bm.out,bn.out,bD,bu.out,rfl,ax.out,ad.out,aA.out⟩
 case round=>
  obtain⟨k,E,hk,rfl,hl,aZ,bg,bA,bh,bd,aq,ag,ap⟩:=hrel;obtain⟨u0,u1⟩:=aq.c2;obtain⟨m0,m1⟩:=ag.c2;have bN:=ag.lt;have ak:=hl.lt;have bK:=ap.size;have aE:=a8 bd;have HL:=a8 hl;have az:=a8 aZ;have aW:=a8 bg;have aX:=a8 bh;have aT:=a8 aq;have aU:=a8 ag;have aB:=a8 ap;have bz:=bTr O ap;have bI:=O.out.size;clear bd hl aZ bg bh aq ag ap aC ad ax aA bk;by_cases ar:k<z.length
  ·have aH:=aE.out;rw[Nl ar,gg] at aH;obtain⟨b,bQ,rfl,hc⟩:=(aS.out.below aB.out) (by omega)
   obtain⟨d0,d1,d2,d3⟩:=hc k ar;obtain⟨au,av⟩:=bw.out _ (MO ar);have aL:=bx.out _ (MO ar);have ab:=a8 aH;clear aH hc aE;generalize bB:z[k]=oo at d0 d1 d2 d3 au av aL ab;obtain⟨K,I,J,G⟩:=oo;clear bB;simp only at d0 d1 d2 d3 au av aL ab;have ae:=nAl wr (.cells #[.int .i64 K,.string I,.string J,.int .i64 G] 95);have am:=a8 (Ah b1 b2 (A.length+k) E K I J G (ns.length:Int) _ au av (by omega) aL (HL.out.below ae ak.1 ak.2) az.out);unfold kE at am;have aw:=a8 (aT.out.below ae aT.out.lt);have aj:=a8 (aU.out.below ae aU.out.lt);have aF:=bTr aB ae;have bG:(wr.alloc (.cells #[.int .i64 K,.string I,.string J,.int .i64 G] 95)).cell? ⟨w.heap.size,0,none⟩=some (.slice Z ns.length c1):=aw.out.cell 0;obtain⟨bE,bF⟩:=aj.out.c2;have bC:(wr.alloc (.cells #[.int .i64 K,.string I,.string J,.int .i64 G] 95)).heap.size=wr.heap.size+1:=World.size_alloc ..;clear ae;go_wp2_with fail;generalize wr.alloc (.cells #[.int .i64 K,.string I,.string J,.int .i64 G] 95)=W5 at am aw aj aF bG bE bF bC⊢;refine(am.out).mono ?_;intro e w6 hp;clear am u0 u1 m0 m1 d0 d1 d2 d3;have aV:=a8 (fun L (h:hZ (ns.length:Int) E (K,I,J,G)=some L)=>Hj h aX.out au av);have aO:=a8 (fun L (h:hZ (ns.length:Int) E (K,I,J,G)=some L)=>Ig az.out h);have aP:=a8 (fun L (h:hZ (ns.length:Int) E (K,I,J,G)=some L)=>Ca aW.out h);generalize hZ (ns.length:Int) E (K,I,J,G)=R at ab hp aV aO aP;cases R with
   |none=>
    obtain⟨rfl,ai,Y⟩:=hp;have HN:=a8 (show¬V by rw[an.out,ab.out];simp);have aa:=a8 (O.out.trans ((aF.out.trans (Y.below (B:=W0.heap.size) ba bb (by omega))).mono O.out.size));clear ai Y;go_wp2;go_ret;exact gG HN.out aa.out
   |some L=>
    obtain⟨rfl,ai,Y⟩:=hp;have aG:=aj.out.off Y (by omega) (by omega);have n0:w6.cell? ⟨M.heap.size,0,none⟩=some (.map (some b1)):=aG.cell 0;have bL:=JE ai;have bo:=a8 ai;have aY:=a8 (aF.out.trans (Y.below (B:=W0.heap.size) ba bb (by omega)));have bp:=a8 (aw.out.off Y (by omega) (by omega));have ad:=a8 aG;clear ai Y aG;by_cases bJ:(300:Int)<(L.length:Int)
    ·have HN:=a8 (show¬V by rw[an.out,ab.out];simp only;rw[if_pos (by omega)];simp);have aa:=a8 (O.out.trans (aY.out.mono O.out.size));go_wp2;go_ret;exact gG HN.out aa.out
    ·have br:=a8 (show gg (ns.length:Int) A z=gg (ns.length:Int) L (z.drop (k+1)) by rw[ab.out];simp only;rw[if_neg (by omega)]);go_wp2;go_roundw
     case rel=>exact⟨k+1,L,by omega,by go_num,bo.out,aO.out L rfl,aP.out L rfl,by omega,aV.out L rfl,br.out,bp.out,ad.out,aY.out⟩
     case measure=>simp[intOf];omega
  ·obtain rfl:k=z.length:=(by omega);have ay:=aE.out;rw[Nx,gg] at ay;have bl:=a8 ay;have aQ:=a8 (fun(X:World) (hX:Below wr.heap.size wr X)=>HE b1 b2 (A.length+z.length) E X (by omega) bA az.out aW.out aX.out (HL.out.below hX ak.1 ak.2));unfold kE at aQ;clear ay;go_wp2;go_region_with (first
    |(go_at_call 106;refine(aQ.out _ (MJ _ _).drew).mono ?_;rintro e w6 ⟨v6,rfl,aJ,aI⟩;obtain⟨a6,c6,rfl⟩:=aJ.slice;have bR:w6.cell? ⟨w.heap.size,1,none⟩=some (.slice N nm.length U):=(aI.cell (p:=⟨w.heap.size,1,none⟩) (dH u1)).trans u1;have bq:=a8 aJ;have aa:=a8 (((MJ wr.heap.size wr).drew).trans aI);clear aJ aI)
    |(go_at_call 105;refine(Bq a6 N c6 U E nm w6 (by omega) bq.out.at ((aR.out.below aB.out).below aa.out)).mono ?_;rintro e w7 ⟨⟨r,rfl,be⟩,n7,rfl⟩;have bt:=a8 be;clear be))
   all_goals
    go_wp2;go_ret;exact⟨r,rfl,by rw[bt.out,an.out,bl.out];simp,below_drewN (bz.out.trans (aa.out.mono (by omega))) _⟩
end
section
open Go.Maps
theorem xA{H:Type}{P:Program}{w w':World}{k:TypeId}{R:Value→Option (DataW H×List MemPlace)}{b r n:Nat}{D:DataW H}{left:Lit→Bool}{z:Nat}(h:w.ranges P k R b r n D left z)(K:w'.heap[b]? =w.heap[b]?)(L:w'.heap[r]? =w.heap[r]?):w'.ranges P k R b r n D left z:=by
 obtain⟨M,A,E,I,J,O,F,U,N,Q,G⟩:=h;exact⟨M,A,E,I,J,K.trans O,F,U,N,L.trans Q,G⟩
theorem kq.grown{w w':World}{z r:Nat}{v:Value}{xs:List ByteArray}(h:kq w z v xs)(K:w.grownBy w' (some r))(M:r<z):kq w' z v xs:=by
 refine⟨h.1,?_⟩;rcases h.2 with I|⟨g,cap,G,L,J,A,E⟩
 ·exact .inl I
 ·exact .inr ⟨g,cap,G,L,J,(K.block g (lt_of_block A) (fun e=>by simp only[MK] at e;omega)).trans A,E⟩
theorem kq.slice{w:World}{z:Nat}{v:Value}{xs:List ByteArray}(h:kq w z v xs):∃a cap,v= .slice a xs.length cap:=by
 rcases h.2 with⟨A,E⟩|⟨g,cap,I,G,_⟩
 ·exact⟨none,0,by rw[E];exact A⟩
 ·exact⟨_,cap,G⟩
theorem yk.below{w w':World}{a:Option Addr}{xs:List ByteArray}(h:yk w a xs)(G:Below w.heap.size w w'):yk w' a xs:=fun I=>by
 obtain⟨b,z,rfl,A⟩:=h I;exact⟨b,z,rfl,fun i E=>by rw[G.cell (p:=⟨b,z+i,none⟩) (dH (A i E))];exact A i E⟩
theorem pz{E:Array Oper}{A:List Oper}{o:Oper}{z:Act}{Q:Exit→Act→World→Prop}(w:World)(J:o.guard=none)(s x:Operand)
  (O:o.op=Op.makeSlice 34 s x) (n:Nat) (R:z.eval s= .int .i64 0) (U:z.eval x= .int .i64 (n:Int)) (Z:n≤1048576)
  (h:∀w',gB w' w.heap.size (.slice (some ⟨w.heap.size,0,none⟩) 0 n) []→Below w.heap.size w w'→wpList Tryz.prog E Q A (z.put o.dst (.slice (some ⟨w.heap.size,0,none⟩) 0 n)) w'):wpList Tryz.prog E Q (o::A) z w:=by
 obtain⟨V,N,K,L,M⟩:=info_parts Tryz.infoEntry;refine wpList_make_own w J s x 34 O w.heap.size 93 V (.agg #[.string ByteArray.empty,.int .i64 0]) 2 Tryz.underlying34 N K L .i64 .i64 _ n R U rfl (by rw[M];omega) (by unfold maxLen;omega) (MH _) ?_;intro Y I G;exact h Y I ((MJ _ _).grown G (MH _) (fun k h=>by cases h))
theorem tW:nZ:=by
 intro b1 b2 n z W hn hl bh aV aW hL;obtain⟨L,D2,J,hr⟩:=hL;have hA:=nAl W (.cells #[.map (some b1),.map (some b2)] 191);have L0:=dZ.new W #[.map (some b1),.map (some b2)] 191;have aL:=J.below hA J.o1.lt J.o2.lt;have br:=J.o1.lt;have hz:(W.alloc (.cells #[.map (some b1),.map (some b2)] 191)).heap.size=W.heap.size+1:=World.size_alloc ..;have aI:=a8 aL.o1;have HA:=a8 hA;have aH:=a8 L0;have HR:=a8 hr;have aJ:=a8 aV;have be:=a8 aW;clear hA L0 aL J hr aV aW bh;unfold kE;go_enter Tryz.func106,Tryz.ntmps106;go_wp2_with (first|(at_range;refine wpList_range_own _ rfl _ 189 rfl 9 3 lQ Tryz.underlying189 (plainElem Tryz.prog 3) b1 n L rfl aI.out ?_;intro w0 aa ag aU)|go_in)
 go_frame
 rw[hz] at aa aU⊢;have aC:=a8 (HA.out.grown ag (by simp) (fun k h=>by cases h));have aG:=a8 (show dZ w0 W.heap.size #[.map (some b1),.map (some b2)] 191 from(ag.block W.heap.size (by rw[hz];omega) (by simp)).trans aH.out);have aw:=a8 aa;clear aa ag HA aH aI;go_loopw [3,4] (fun nv _ wr=>∃(left:Lit→Bool) (ae:Nat) (xs:List ByteArray) (a:Option Addr) (cap:Nat),wr.ranges Tryz.prog 9 (plainElem Tryz.prog 3) b1 (W.heap.size+1) n L left ae∧vV L left xs∧xs.length+ae≤z.length∧nv= .slice a xs.length cap∧kq wr (W.heap.size+2) (.slice a xs.length cap) xs∧dZ wr W.heap.size #[.map (some b1),.map (some b2)] 191∧Below W.heap.size W wr∧W.heap.size+2≤wr.heap.size) (fun _ _ wr=>wr.rangeLeft b1 (W.heap.size+1))
 case atStart=>exact⟨_,_,[],none,0,aw.out,vV.start L,by rw[HR.out.sz];simp,rfl,⟨rfl,.inl ⟨rfl,rfl⟩⟩,aG.out,aC.out,by omega⟩
 case round=>
  obtain⟨left,ae,xs,a,cap,aT,am,bb,rfl,aA,an,az,bj⟩:=hrel;clear aw aG aC aU;have Q:=a8 aT;have M:=a8 am;have HO:=a8 aA;have I:=a8 an;have G:=a8 az;clear aT am aA an az;go_wp2_with (first|(at_next;refine mo _ rfl _ rfl 9 3 .i64 lQ Tryz.underlying9 Tryz.underlying3 b1 (W.heap.size+1) n _ _ _ rfl Q.out ?_ ?_;intro bk aR;rotate_left;intro x c w1 ba bw bm aB ai Y bt bl;rotate_right)|(at_make;refine pz _ rfl _ _ rfl xs.length rfl rfl (by omega) ?_;intro w3 Z R)|fail)
  rotate_left
  ·
   have ap:=HO.out.grown Y (by omega);have aF:=a8 (fun i h1 h2=>M.out.more (t:=x) (i:=i) bm h1 h2);have ax:=a8 aB;have ar:=a8 (G.out.grown Y (by omega) (fun k h=>by simp only[MK] at h;omega));have av:=a8 (show dZ w1 W.heap.size #[.map (some b1),.map (some b2)] 191 from(Y.block W.heap.size (by omega) (by simp)).trans I.out);refine(Bz wZ (W.heap.size+2) a cap xs x w1 (by omega) (by omega) ap M.out.so).mono ?_;rintro e w2 ⟨v,i,rfl,hv,aS,aO,A⟩;obtain⟨a2,aZ,rfl⟩:=hv.slice;have ao:(xs.take i++x::xs.drop i).length=xs.length+1:=(by rw[MT,M2,MZ,MU];omega);have ay:=a8 (xA ax.out (A.block b1 (by omega)) (A.block (W.heap.size+1) (by omega)));have aY:=a8 (show dZ w2 W.heap.size #[.map (some b1),.map (some b2)] 191 from(A.block W.heap.size (by omega)).trans av.out);have aX:=a8 (ar.out.trans (A.mono (by omega)));have aE:=a8 (aF.out i aS aO);have HV:=a8 hv;have bq:=A.size;clear hv aS aO A ap aB Y bl aF HO M ar av I G ax;generalize xs.take i++x::xs.drop i=ys at HV aE ao;go_wp2;go_roundw
   case rel=>exact⟨_,ba,ys,a2,aZ,ay.out,aE.out,by omega,by rw[ao],HV.out,aY.out,aX.out,by omega⟩
   case measure=>rw[ay.out.left_eq,Q.out.left_eq];omega
  have al:=M.out.done aR HR.out aJ.out;have bp:xs.length=z.length:=(by rw[al,MI]);have aK:=a8 HO.out.at;have ac:=a8 Q.out.owns;have aq:=a8 (fun N (hb:Below wr.heap.size wr N)=>And.intro (aK.out.below hb) (And.intro (jE ac.out hb ac.out.lt) (And.intro (I.out.below hb (lt_of_block I.out)) (G.out.trans (hb.mono G.out.size)))));have bf:=a8 al;clear al aR HO Q M aJ bk bb aK ac I G;rw[bp] at Z⊢;have au:=a8 R.size;generalize wr.heap.size=B at aq au Z R bj⊢;go_loopw [5,7,23] (fun lv _ i N=>∃k:Nat,k≤z.length∧i= .int .i64 (k:Int)∧gB N B lv (z.take k)∧B≤N.heap.size∧Below B wr N) (fun _ _ i _=>z.length-(intOf i).toNat)
  case atStart=>exact⟨0,MQ _,rfl,by rw[List.take_zero];exact Z,au.out,R⟩
  case round=>
   obtain⟨k,hk,rfl,K,V,U⟩:=hrel;clear Z R;obtain⟨ak,aj,ah,af⟩:=aq.out wr U;by_cases ai:k<z.length
   ·obtain⟨gb,bx,rfl,hc⟩:=ak (by omega);have aM:=hc k (by omega);have aQ:xs[k]'(by omega)=z[k].1:=by
     have:=bf.out;subst this;simp
    rw[aQ] at aM;have E:(z[k].1,z[k].2)∈z:=MO ai;have ab:=a8 (HR.out.r1 _ _ E).2;have bo:z[k].1.size≤1048576:=be.out _ E;have aP:=GW z[k].1 (by unfold maxLen;omega);have ad:=a8 (show z.take (k+1)=z.take k++[(z[k].1,z[k].2)] from MP ai);have bg:=a8 aj;have qv:wr.cell? ⟨W.heap.size,0,none⟩=some (.map (some b1)):=ah.cell 0;generalize z[k].1=x0 at aM aP ab bo ad E;generalize z[k].2=x1 at ab ad E;have O:=a8 K;have bc:=a8 U;have aD:=a8 (oN wr x0 x1);clear hc aQ K U E ah ak aj af;go_wp2_with (first
     |(at_lookup;refine wpList_lookup_own_int _ rfl _ _ 189 rfl 9 3 .i64 lQ Tryz.underlying189 Tryz.underlying3 (pC _) b1 n L rfl bg.out _ _ rfl aP ?_;intro c bi bu;obtain rfl:x1=c:=by(have h:=ab.out;rw[bi] at h;simp at h;exact h.symm))
     |(at_builtin;refine eQ _ rfl (.tmp 27) (.tmp 34) rfl B u5 (z.take k) (x0,x1) wr.heap.size 1 rfl rfl ?_ ?_ ?_ ?_ ?_ ?_;(exact gT O.out _);(exact aD.out.1);(exact aD.out.2);(rw[MZ];omega);(exact MN V (by simp));intro v4 w4 bn aN)
     |go_in)
    exact⟨⟨k+1,by omega,by go_num,by rw[ad.out];exact bn,MN V (MN (by simp) aN.size),(bc.out.alloc V _).grown aN (MN V (by simp)) (fun j hj=>(World.ownsRow.lt O.out j hj).1)⟩,by simp[intOf];omega⟩
   ·obtain rfl:k=z.length:=(by omega);rw[NE] at K;have O:=a8 (K.mono (show W.heap.size≤B by omega));have bd:=a8 af;clear K af ak aj ah U;go_wp2;go_ret;exact⟨_,rfl,O.out,bd.out⟩
end
def pI(x y:ByteArray):Int:=if Op.bytesLess x.toList y.toList then-1 else if x.toList=y.toList then 0 else 1
theorem Jg(x y:ByteArray):pI x y<0↔Op.bytesLess x.toList y.toList=true:=by
 unfold pI;constructor
 ·intro h;by_cases e:Op.bytesLess x.toList y.toList=true
  ·exact e
  ·rw[if_neg e] at h;split at h<;>omega
 ·intro h;rw[if_pos h];decide
theorem DY(x y:ByteArray):pI x y=0↔x=y:=by
 unfold pI;constructor
 ·intro h;by_cases e:Op.bytesLess x.toList y.toList=true
  ·rw[if_pos e] at h;omega
  ·rw[if_neg e] at h;by_cases z:x.toList=y.toList
   ·exact oH z
   ·rw[if_neg z] at h;omega
 ·rintro rfl;rw[iu];simp
theorem rJ(x y:ByteArray)(w:World):Calls Tryz.prog 109 #[.string x,.string y] w fun e w'=>e= .returned (.int .i64 (pI x y))∧w'=w:=by
 have z:=a8 (show pI x y=if Op.bytesLess x.toList y.toList then-1 else if x.toList=y.toList then 0 else 1 from rfl);cases h1:Op.bytesLess x.toList y.toList with
 |true=>
  have E:Hid (pI x y= -1):=a8 (by rw[z.out,h1];rfl);clear z;go_enter Tryz.func109,Tryz.ntmps109;go_wp2_with fail;refine(jp x w).mono ?_;rintro e G ⟨rfl,rfl⟩;go_wp2_with fail;refine(jp y G).mono ?_;rintro e I ⟨rfl,rfl⟩;go_wp2;go_ret;exact⟨by rw[E.out];rfl,rfl⟩
 |false=>
  by_cases A:x.toList=y.toList
  ·have E:Hid (pI x y=0):=a8 (by rw[z.out,h1,if_neg (by decide),if_pos A]);have J:(x.toList==y.toList)=true:=(by rw[A];simp);clear z A;go_enter Tryz.func109,Tryz.ntmps109;go_wp2_with fail;refine(jp x w).mono ?_;rintro e G ⟨rfl,rfl⟩;go_wp2_with fail;refine(jp y G).mono ?_;rintro e I ⟨rfl,rfl⟩;go_wp2;go_ret;exact⟨by rw[E.out];rfl,rfl⟩
  ·have E:Hid (pI x y=1):=a8 (by rw[z.out,h1,if_neg (by decide),if_neg A]);have J:(x.toList==y.toList)=false:=beq_eq_false_iff_ne.2 A;clear z A;go_enter Tryz.func109,Tryz.ntmps109;go_wp2_with fail;refine(jp x w).mono ?_;rintro e G ⟨rfl,rfl⟩;go_wp2_with fail;refine(jp y G).mono ?_;rintro e I ⟨rfl,rfl⟩;go_wp2;go_ret;exact⟨by rw[E.out];rfl,rfl⟩
theorem Do(s:ByteArray)(n:Int)(t:ByteArray)(w:World):Calls Tryz.prog 108 #[.agg #[.string s,.int .i64 n],.string t] w fun e w'=>e= .returned (.int .i64 (pI s t))∧Below w.heap.size w w':=by
 have z:=a8 (nAl w (.cells #[.string s,.int .i64 n] 93));generalize A:pI s t=q;go_enter Tryz.func108,Tryz.ntmps108;go_wp2_with fail;generalize w.alloc (.cells #[.string s,.int .i64 n] 93)=E at z⊢;refine(rJ s t E).mono ?_;rintro e G ⟨rfl,rfl⟩;rw[A];clear A;go_wp2;go_ret;exact⟨rfl,z.out⟩
section
open Go.Maps
theorem zT{ns:List (List Nat×Int)}(h:fT ns=true):ns.length≤600:=(of_decide_eq_true h).1
theorem uh(HE:nZ)(E G I U:Option Addr)(J O Q Y:Nat)(D:dQ)(w:World)(hM:kW D)(ai:∀o∈D.pend,(Lit.int .i64 o.2.2.2).wf=true)(h1:iC w E D.nodes)(h2:fi w G D.names)(h3:fi w I D.kept)(h4:ob w U D.pend):
  Calls Tryz.prog 42 #[.agg #[.slice E D.nodes.length J,.slice G D.names.length O,.slice I D.kept.length Q,.slice U D.pend.length Y,.int .i64 D.quota]] w (nb w (eP D)):=by
 have R:Below w.heap.size w (w.alloc (.cells #[.slice E D.nodes.length J,.slice G D.names.length O,.slice I D.kept.length Q,.slice U D.pend.length Y,.int .i64 D.quota] 37)):=(MJ _ _).alloc (MH _) _;have L0:=dZ.new w #[.slice E D.nodes.length J,.slice G D.names.length O,.slice I D.kept.length Q,.slice U D.pend.length Y,.int .i64 D.quota] 37;obtain⟨ns,nm,A,K,L⟩:=D;obtain⟨m1,m2,m3,m4,af,aj,ak,al⟩:=hM;simp only at m1 m2 m3 m4 af aj ak al h1 h2 h3 h4 R L0 ai⊢;have N:=a8 (show eP ⟨ns,nm,A,K,L⟩=(0≤L∧L≤1000000∧K.length≤1000∧fT ns=true∧eL (ns.length:Int) nm=true∧eL (ns.length:Int) A=true∧gg (ns.length:Int) A K=some nm) from rfl);generalize eP ⟨ns,nm,A,K,L⟩=V at N⊢;have aA:=a8 aj;have ap:=a8 ak;have aB:=a8 al;have aF:=a8 ai;have am:=a8 (h1.below R);have ag:=a8 (h2.below R);have ah:=a8 (h3.below R);have an:=a8 (h4.below R);have M:=a8 R;have aa:=a8 L0;clear aj ak al h1 h2 h3 h4 R L0 ai;by_cases g1:0≤L
 ·by_cases g2:L≤1000000
  ·go_enter Tryz.func42,Tryz.ntmps42;go_wp2_with fail;generalize w.alloc (.cells #[.slice E ns.length J,.slice G nm.length O,.slice I A.length Q,.slice U K.length Y,.int .i64 L] 37)=W0 at am ag ah an M aa⊢;have ae:=aa.out.lt;refine(xv E J ns W0 (by omega) (fun e he=>MN (rq ns e he) af) af am.out).mono ?_;rintro e w1 ⟨rfl,ac⟩;have z:=aa.out.below ac ae;obtain⟨p0,p1⟩:=z.c2;have ar:=a8 ac;have aD:=bTr M ac;have aK:=ac.size;clear z ac;by_cases Z:fT ns=true
   ·rw[Z];have aG:=zT Z;go_wp2_with fail;refine(qz G O nm (ns.length:Int) w1 (by omega) (by omega) (fun e he=>by have:=aA.out e he;omega) (ag.out.below ar.out)).mono ?_;rintro e w2 ⟨rfl,au⟩;have ad:=bTr ar au;have z:=aa.out.below ad.out ae;obtain⟨q0,-,q2⟩:=z.c3;have aE:=a8 (M.out.trans (ad.out.mono M.out.size));clear z au p0 p1;by_cases o1:eL (ns.length:Int) nm=true
    ·rw[o1];go_wp2_with fail;refine(qz I Q A (ns.length:Int) w2 (by omega) (by omega) (fun e he=>by have:=ap.out e he;omega) (ah.out.below ad.out)).mono ?_;rintro e w3 ⟨rfl,av⟩;have ab:=bTr ad av;have z:=aa.out.below ab.out ae;obtain⟨r0,r1,r2,r3,r4⟩:=z.c5;have aq:=a8 (M.out.trans (ab.out.mono M.out.size));clear z av q0 q2;by_cases o2:eL (ns.length:Int) A=true
     ·rw[o2];have ao:=a8 (Ib HE E G I U J O Q Y ns nm A K L w3 aG o2 ap.out aB.out aF.out (ag.out.below ab.out) (ah.out.below ab.out) (an.out.below ab.out));have aC:=a8 (show V=(K.length≤1000∧gg (ns.length:Int) A K=some nm) by
       rw[N.out];exact propext ⟨fun h=>⟨h.2.2.1,h.2.2.2.2.2.2⟩,fun h=>⟨g1,g2,h.1,Z,o1,o2,h.2⟩⟩)
      clear N Z o1 o2;go_wp2_with fail;refine(ao.out).mono ?_;rintro e w4 ⟨r,rfl,ax,aw⟩;have az:=a8 ax;have ay:=bTr aq aw;clear ax aw ao;go_wp2;go_ret;exact⟨r,rfl,by rw[aC.out];exact az.out,ay.out⟩
     ·have aJ:eL (ns.length:Int) A=false:=(by simpa using o2);rw[aJ];go_wp2;go_ret;exact gG (by rw[N.out];exact fun h=>o2 h.2.2.2.2.2.1) aq.out
    ·have aI:eL (ns.length:Int) nm=false:=(by simpa using o1);rw[aI];go_wp2;go_ret;exact gG (by rw[N.out];exact fun h=>o1 h.2.2.2.2.1) aE.out
   ·have aH:fT ns=false:=(by simpa using Z);rw[aH];go_wp2;go_ret;exact gG (by rw[N.out];exact fun h=>Z h.2.2.2.1) aD.out
  ·have HN:=a8 (show¬V by rw[N.out];exact fun h=>g2 h.2.1);go_enter Tryz.func42,Tryz.ntmps42;go_wp2;go_ret;exact gG HN.out M.out
 ·have HN:=a8 (show¬V by rw[N.out];exact fun h=>g1 h.1);go_enter Tryz.func42,Tryz.ntmps42;go_wp2;go_ret;exact gG HN.out M.out
end
def KE(es:List EN)(t:ByteArray)(e:Ending):Prop:=∃(i:Nat) (f:Bool),e= .returned (.tuple #[.int .i64 (i:Int),.bool f])∧(f=true→∃h:i<es.length,es[i].1=t)∧(f=false→∀m,(t,m)∉es)
theorem Dc{z:List EN}{t:ByteArray}{p:Nat}(L:∀k (h:k<z.length),k<p→Op.bytesLess z[k].1.toList t.toList=true)(K:∀k (h:k<z.length),p≤k→Op.bytesLess z[k].1.toList t.toList=false)(N:iD z)(M:∀h:p<z.length,z[p].1≠t):∀m,(t,m)∉z:=by
 intro m O;obtain⟨k,E,e⟩:=Nd O;have A:z[k].1=t:=(by rw[e]);rcases Nat.lt_trichotomy k p with h|h|h
 ·have:=L k E h;rw[A,iu] at this;cases this
 ·subst h;exact M E A
 ·have J:p<z.length:=(by omega);have G:=M8.1 N p k J E h;rw[A] at G;have I:=K p J (MH _);rw[G] at I;cases I
theorem Cj{z:List EN}{t:ByteArray}(E:iD z)(G:m<z.length)(h:Op.bytesLess z[m].1.toList t.toList=true):∀k (A:k<z.length),k<m+1→Op.bytesLess z[k].1.toList t.toList=true:=by
 intro k A I;by_cases e:k=m
 ·subst e;exact h
 ·exact gy _ _ _ (M8.1 E k m A G (by omega)) h
theorem Ci{z:List EN}{t:ByteArray}(G:iD z)(I:m<z.length)(h:Op.bytesLess z[m].1.toList t.toList=false):∀k (E:k<z.length),m≤k→Op.bytesLess z[k].1.toList t.toList=false:=by
 intro k E J;by_cases e:k=m
 ·subst e;exact h
 ·cases e2:Op.bytesLess z[k].1.toList t.toList with
  |false=>rfl
  |true=>
   have A:=gy _ _ _ (M8.1 G m k I E (by omega)) e2;rw[h] at A;cases A
theorem wu(a:Option Addr)(cap:Nat)(z:List EN)(t:ByteArray)(w:World)(hn:z.length≤1048576)(hr:fi w a z)(aj:iD z):
  Calls Tryz.prog 107 #[.slice a z.length cap,.string t,.func (.func 108) #[] #[]] w fun e w'=>KE z t e∧Below w.heap.size w w':=by
 have Y:=a8 aj;have HR:=a8 hr;clear aj hr;go_enter Tryz.func107,Tryz.ntmps107;go_wp2;go_loopw [9,10,11] (fun i j _ wr=>∃(p q:Nat),p≤q∧q≤z.length∧i= .int .i64 (p:Int)∧j= .int .i64 (q:Int)∧(∀k (h:k<z.length),k<p→Op.bytesLess z[k].1.toList t.toList=true)∧(∀k (h:k<z.length),q≤k→Op.bytesLess z[k].1.toList t.toList=false)∧Below w.heap.size w wr) (fun i j _ _=>(intOf j).toNat-(intOf i).toNat)
 case atStart=>exact⟨0,z.length,MQ _,MH _,rfl,rfl,fun k _ h=>by omega,fun k h h'=>by omega,MJ _ _⟩
 case round=>
  obtain⟨p,q,aw,hq,rfl,rfl,ah,ag,K⟩:=hrel;have ab:=a8 ah;have aa:=a8 ag;have Z:=a8 K;clear ah ag;by_cases aq:p<q
  ·have ai:(p:Int)<(q:Int):=(by omega);obtain⟨m,hm⟩:∃m,m=(p+q)/2:=⟨_,rfl⟩
   have ar:p≤m∧m<q:=(by omega);have au:((p:Int)+(q:Int))/2=(m:Int):=(by omega);clear hm;obtain⟨b,an,rfl,Q⟩:=(HR.out.below K) (by omega)
   have ae:m<z.length:=(by omega);obtain⟨I,J⟩:=Q m ae;have av:(m:Int)<(z.length:Int):=(by omega);have V:=a8 (Cj (t:=t) Y.out ae);have U:=a8 (Ci (t:=t) Y.out ae);generalize z[m].1=R at I V U;generalize z[m].2=xn at J;clear Q K;go_wp2_with fail;refine(Do R xn t wr).mono ?_;rintro e w2 ⟨rfl,A⟩;have G:=bTr Z A;have L:=a8 (Jg R t);clear A I J;generalize pI R t=O at L;cases hq2:Op.bytesLess R.toList t.toList with
   |true=>
    have al:O<0:=L.out.2 hq2;have HN:=a8 (V.out hq2);clear V U L hq2;go_wp2;go_roundw
    case rel=>exact⟨m+1,q,by omega,hq,by go_num,rfl,HN.out,aa.out,G.out⟩
    case measure=>simp[intOf];omega
   |false=>
    have al:¬O<0:=fun h=>(by rw[L.out.1 h] at hq2;cases hq2);have HN:=a8 (U.out hq2);clear V U L hq2;go_wp2;go_roundw
    case rel=>exact⟨p,m,by omega,by omega,rfl,by go_num,ab.out,HN.out,G.out⟩
    case measure=>simp[intOf];omega
  ·obtain rfl:p=q:=(by omega);by_cases af:p<z.length
   ·have ai:(p:Int)<(z.length:Int):=(by omega);obtain⟨b,an,rfl,Q⟩:=(HR.out.below K) (by omega)
    obtain⟨I,J⟩:=Q p af;have ac:=a8 (fun(h:z[p].1≠t)=>Dc ab.out aa.out Y.out (fun _=>h));have ad:=a8 (fun(h:z[p].1=t)=>(⟨af,h⟩:∃h:p<z.length,z[p].1=t));have M:=a8 (DY z[p].1 t);have E:=a8 (fun(W:World)=>Do z[p].1 z[p].2 t W);generalize pI z[p].1 t=O at M E;generalize ak:z[p].1=R at I E;generalize am:z[p].2=xn at J E;have ao:=a8 ak;clear Q ak am K;by_cases h0:O=0
    ·have N:=a8 (ad.out (M.out.1 h0));clear M ad ac;subst h0;go_wp2_with fail;refine(E.out wr).mono ?_;rintro e w2 ⟨rfl,A⟩;have G:=bTr Z A;clear A I J E;go_wp2;go_ret2;exact⟨⟨p,true,rfl,fun _=>N.out,fun h=>by cases h⟩,G.out⟩
    ·have N:=a8 (ac.out (fun h=>h0 (M.out.2 h)));clear M ad ac;go_wp2_with fail;refine(E.out wr).mono ?_;rintro e w2 ⟨rfl,A⟩;have G:=bTr Z A;have ap:(O==0)=false:=(by simpa using h0);clear A I J E;go_wp2;go_ret2;exact⟨⟨p,false,rfl,(fun h=>by cases h),fun _=>N.out⟩,G.out⟩
   ·have ai:¬(p:Int)<(z.length:Int):=(by omega);have N:=a8 (Dc ab.out aa.out Y.out (fun h=>absurd h af));clear K;go_wp2;go_ret2;exact⟨⟨p,false,rfl,(fun h=>by cases h),fun _=>N.out⟩,Z.out⟩
section
open Go.Maps
theorem sJ:∀{z:List (ByteArray×Int)} {e:ByteArray×Int},e∈z→e.1.size≤jL z
 |x::r,e,h=>by
  rcases M1.1 h with rfl|h
  ·simp only[jL];omega
  ·have:=sJ h;simp only[jL];omega
theorem zK:∀{z:List (Int×ByteArray×ByteArray×Int)} {e:Int×ByteArray×ByteArray×Int},e∈z→e.2.1.size+e.2.2.1.size≤kB z
 |x::r,e,h=>by
  rcases M1.1 h with rfl|h
  ·simp only[kB];omega
  ·have:=zK h;simp only[kB];omega
structure mq(w:World)(v:Value)(D:dQ):Prop where
 at_:iN w v D
 n1:D.nodes.length≤9223372036854775807
 n2:D.names.length≤9223372036854775807
 n3:D.kept.length≤9223372036854775807
 n4:D.pend.length≤9223372036854775807
 h1:∀e∈D.nodes,e.1.length≤9223372036854775807
 h2:∀e∈D.names,e.1.size≤9223372036854775807
 h3:∀e∈D.kept,e.1.size≤9223372036854775807
 h4:∀e∈D.pend,e.2.1.size≤9223372036854775807∧e.2.2.1.size≤9223372036854775807
 wf:∀o∈D.pend,(Lit.int .i64 o.2.2.2).wf=true
def ye(D:dQ):Nat:=szD D.nodes D.names D.kept D.pend
theorem ES{D:dQ}(h:ye D≤1048576):kW D:=by
 unfold ye szD at h;exact⟨by omega,by omega,by omega,by omega,by omega,fun e z=>by have:=sJ z;omega,fun e z=>by have:=sJ z;omega,fun o A=>by have:=zK A;omega⟩
theorem zQ{D:dQ}(h:ye D≤1048576):∀e∈D.nodes,e.1.length≤1048576:=fun e z=>by
 have:=rq D.nodes e z;unfold ye szD at h;omega
theorem IJ{w:World}{v:Value}{D:dQ}(h:mq w v D):
  Calls Tryz.prog 4 #[v,.int .i64 1048576] w fun e w'=>e= .returned (.int .i64 (l5 1048576 (ye D)))∧Below w.heap.size w w':=by
 obtain⟨⟨z,I,A,J,E,K,G,L,rfl,Z,r2,r3,r4⟩,R,U,V,Y,M,N,O,Q,wf⟩:=h;exact Cr z A E G I J K L D.quota D.nodes D.names D.kept D.pend w R U V Y M N O Q Z r2 r3 r4
theorem AC{w:World}{v:Value}{D:dQ}(h:iN w v D)(M:kW D):Calls Tryz.prog 35 #[v] w (nb w (eP D)):=by
 obtain⟨z,I,A,J,E,K,G,L,rfl,N,O,Q,R⟩:=h;exact uC z A E G I J K L D w M N O Q R
theorem zf{w:World}{v:Value}{D:dQ}(h:iN w v D)(M:kW D)(N:∀o∈D.pend,(Lit.int .i64 o.2.2.2).wf=true):Calls Tryz.prog 42 #[v] w (nb w (eP D)):=by
 obtain⟨z,I,A,J,E,K,G,L,rfl,O,Q,R,U⟩:=h;exact uh tW z A E G I J K L D w M N O Q R U
theorem mq.below{w w':World}{v:Value}{D:dQ}(h:mq w v D)(z:Below w.heap.size w w'):mq w' v D:={h with at_:=h.at_.below z}
theorem mq.shape{w:World}{v:Value}{D:dQ}(h:mq w v D):∃z M I A N J E O K G Q L q,v= .agg #[.slice z M I,.slice A N J,.slice E O K,.slice G Q L,.int .i64 q]:=by
 obtain⟨⟨z,I,A,J,E,K,G,L,rfl,_⟩,_⟩:=h;exact⟨_,_,_,_,_,_,_,_,_,_,_,_,_,rfl⟩
theorem iN.shape{w:World}{v:Value}{D:dQ}(h:iN w v D):∃z M I A N J E O K G Q L q,v= .agg #[.slice z M I,.slice A N J,.slice E O K,.slice G Q L,.int .i64 q]:=by
 obtain⟨z,I,A,J,E,K,G,L,rfl,_⟩:=h;exact⟨_,_,_,_,_,_,_,_,_,_,_,_,_,rfl⟩
end
theorem ow{D:dQ}{nm:ByteArray}{n:Int}(h:fF D.names nm=some n)(z:n=(k:Int))(A:k<D.nodes.length):dI D nm=(true,(D.nodes[k]).1):=by
 unfold dI;rw[h];subst z;simp[List.getD,A]
theorem tf{D:dQ}{nm:ByteArray}(h:fF D.names nm=none):dI D nm=(false,[]):=by
 unfold dI;rw[h]
theorem uu{z:List EN}{nm:ByteArray}(h:∀m,(nm,m)∉z):fF z nm=none:=by
 cases e:fF z nm with
 |none=>rfl
 |some n=>exact absurd (iW e) (h n)
structure fX(w:World)(a:Option Addr)(c:Nat)(d:List Nat):Prop where
 row:dW w a d
 room:d.length≤c
 cap:c≤9223372036854775807
 byte:∀x∈d,x<256
 nl:a=none→c=0
 spot:∀p,a=some p→p.spot=none
theorem fX.below(h:fX w a c d)(z:Below w.heap.size w w'):fX w' a c d:=⟨h.row.below z,h.room,h.cap,h.byte,h.nl,h.spot⟩
theorem fX.cases{w:World}{a:Option Addr}{c:Nat}{d:List Nat}(h:fX w a c d):(a=none∧c=0∧d=[])∨∃b z,a=some ⟨b,z,none⟩:=by
 cases a with
 |none=>
  have A:=h.nl rfl;have E:=h.room;exact .inl ⟨rfl,A,Nc.1 (by omega)⟩
 |some p=>
  obtain⟨b,z,G⟩:=p;have:=h.spot _ rfl;simp only at this;subst this;exact .inr ⟨b,z,rfl⟩
theorem fX.nil(w:World):fX w none 0 []:=⟨fun h=>absurd h (Nat.lt_irrefl _),MH _,by omega,(fun x z=>by cases z),fun _=>rfl,fun p h=>by cases h⟩
def rx(w:World)(a:Option Addr)(es:List (List Nat×Int)):Prop:=
 0<es.length→∃b off,a=some ⟨b,off,none⟩∧∀i (h:i<es.length),∃ai ci,w.cell? ⟨b,off+i*2,none⟩=some (.slice ai es[i].1.length ci)∧w.cell? ⟨b,off+i*2+1,none⟩=some (.int .i64 es[i].2)∧fX w ai ci es[i].1
theorem rx.below{E:List (List Nat×Int)}(h:rx w a E)(A:Below w.heap.size w w'):rx w' a E:=fun O=>by
 obtain⟨b,z,rfl,M⟩:=h O;refine⟨b,z,rfl,fun i N=> ?_⟩;obtain⟨J,K,G,I,L⟩:=M i N;exact⟨J,K,by rw[A.cell (p:=⟨b,z+i*2,none⟩) (dH G)];exact G,by rw[A.cell (p:=⟨b,z+i*2+1,none⟩) (dH I)];exact I,L.below A⟩
theorem rx.at{z:List (List Nat×Int)}(h:rx w a z):iC w a z:=fun N=>by
 obtain⟨b,A,rfl,L⟩:=h N;refine⟨b,A,rfl,fun i M=> ?_⟩;obtain⟨E,G,I,J,K⟩:=L i M;exact⟨E,G,I,J,K.row⟩
def km(w:World)(v:Value)(D:dQ):Prop:=∃a1 c1 a2 c2 a3 c3 a4 c4,v= .agg #[.slice a1 D.nodes.length c1,.slice a2 D.names.length c2,.slice a3 D.kept.length c3,.slice a4 D.pend.length c4,.int .i64 D.quota]∧rx w a1 D.nodes∧fi w a2 D.names∧fi w a3 D.kept∧ob w a4 D.pend
theorem km.at{v:Value}{D:dQ}(h:km w v D):iN w v D:=by
 obtain⟨z,I,A,J,E,K,G,L,rfl,M,N,O,Q⟩:=h;exact⟨z,I,A,J,E,K,G,L,rfl,M.at,N,O,Q⟩
theorem km.below{v:Value}{D:dQ}(h:km w v D)(z:Below w.heap.size w w'):km w' v D:=by
 obtain⟨A,J,E,K,G,L,I,M,rfl,N,O,Q,R⟩:=h;exact⟨A,J,E,K,G,L,I,M,rfl,N.below z,O.below z,Q.below z,R.below z⟩
theorem pj{fn:Func}{p:Tmp}(B:Nat)(W:World)(x y:Value)(A:fn.results= #[.cell p 88])(E:tmps.getD p undef= .pointer (some ⟨B,0,none⟩))(z:Blk W B #[x,y] 88):
  (results fn tmps).run Tryz.prog W= .ok (.agg #[x,y]) W:=results_cell_row (P:=Tryz.prog) A _ _ B _ _ _ _ E z Tryz.underlying88 rfl (by kernel_rfl)
theorem lW(h:Blk W B #[x,y] 88)(z A:Value):Blk ((W.setCell ⟨B,0,none⟩ z).setCell ⟨B,1,none⟩ A) B #[z,A] 88:=(h.set 0 z).set 1 A
theorem nE(w:World)(A B:Array Value)(t u:TypeId):Blk ((w.alloc (.cells A t)).alloc (.cells B u)) w.heap.size A t∧Blk ((w.alloc (.cells A t)).alloc (.cells B u)) (w.heap.size+1) B u∧Below w.heap.size w ((w.alloc (.cells A t)).alloc (.cells B u))∧((w.alloc (.cells A t)).alloc (.cells B u)).heap.size=w.heap.size+2:=by
 refine⟨(dN w A t).below (B:=w.heap.size+1) ((MJ _ _).alloc (by simp) _) (by omega),?_,((MJ _ _).alloc (MH _) _).alloc (by simp) _,by simp⟩;have h:=dN (w.alloc (.cells A t)) B u;rw[World.size_alloc] at h;exact h
def kI(d:List Nat)(w:World)(e:Ending)(w':World):Prop:=∃a c vs,e= .returned (.agg #[.slice a (dP d).1.length c,.int .i64 ((dP d).2:Int)])∧eF w' w.heap.size (.slice a (dP d).1.length c) vs (dP d).1∧Below w.heap.size w w'
theorem l8{e:Ending}(h:∃v,e= .returned v∧yj w' w.heap.size v (dP d)∧Below w.heap.size w w'):kI d w e w':=by
 obtain⟨v,rfl,⟨G,E,rfl,z⟩,A⟩:=h;obtain⟨a,c,rfl⟩:=z.slice;exact⟨a,c,E,rfl,z,A⟩
theorem zv(w:World):Calls Tryz.prog 91 #[.slice none 0 0] w fun e w'=>e= .returned (.tuple #[.slice none 0 0,.bool false])∧w'=w:=by
 go_enter Tryz.func91,Tryz.ntmps91;go_wp2;go_ret2;exact⟨rfl,rfl⟩
theorem AB(w:World):Calls Tryz.prog 59 #[.slice none 0 0] w (kI [] w):=by
 obtain⟨z,A,E,G⟩:=nE w #[.slice none 0 0,.int .i64 0] #[.slice none 0 0,.int .i64 0] 116 116;have J:=a8 (fun(X:World) (h:Below w.heap.size w X)=>show kI [] w (.returned (.agg #[.slice none 0 0,.int .i64 0])) X from⟨none,0,[],rfl,eF.nil _ _,h⟩);go_enter Tryz.func59,Tryz.ntmps59;go_wp2;generalize (w.alloc (.cells #[.slice none 0 0,.int .i64 0] 116)).alloc (.cells #[.slice none 0 0,.int .i64 0] 116)=W at z A E G⊢;go_loopw [4] (fun _ wr=>wr=W) (fun _ _=>0)
 case atStart=>rfl
 case round=>
  obtain rfl:=hrel;obtain⟨M,N⟩:=A.c2;obtain⟨K,L⟩:=z.c2;have O:=fun j=>z.fz j;have I:=a8 E;clear z A E G;go_wp2_with fail;refine(zv wr).mono ?_;rintro e Q ⟨rfl,rfl⟩;go_wp2;exact bodyPost_ret (v:= .agg #[.slice none 0 0,.int .i64 0]) (by simp[results,Tryz.results59,go_sem,K,L]) rfl (J.out _ ((I.out.setCell (p:=⟨w.heap.size,0,none⟩) (MH _) _).setCell (p:=⟨w.heap.size,1,none⟩) (MH _) _))
theorem zd(w:World):Calls Tryz.prog 138 #[.slice none 0 0] w (kI [] w):=by
 obtain⟨z,A,E,G⟩:=nE w #[.slice none 0 0,.int .i64 0] #[.slice none 0 0,.int .i64 0] 116 116;have J:=a8 (fun(X:World) (h:Below w.heap.size w X)=>show kI [] w (.returned (.agg #[.slice none 0 0,.int .i64 0])) X from⟨none,0,[],rfl,eF.nil _ _,h⟩);go_enter Tryz.func138,Tryz.ntmps138;go_wp2
 go_step3
 go_wp2
 go_step3
 go_wp2;generalize (w.alloc (.cells #[.slice none 0 0,.int .i64 0] 116)).alloc (.cells #[.slice none 0 0,.int .i64 0] 116)=W at z A E G⊢;go_loopw [4] (fun _ wr=>wr=W) (fun _ _=>0)
 case atStart=>rfl
 case round=>
  obtain rfl:=hrel;obtain⟨M,N⟩:=A.c2;obtain⟨K,L⟩:=z.c2;have O:=fun j=>z.fz j;have I:=a8 E;clear z A E G;go_wp2;rw[Exit.noGoto_ret];exact bodyPost_ret (v:= .agg #[.slice none 0 0,.int .i64 0]) (by simp[results,Tryz.results138,go_sem,K,L]) rfl (J.out _ ((I.out.setCell (p:=⟨w.heap.size,0,none⟩) (MH _) _).setCell (p:=⟨w.heap.size,1,none⟩) (MH _) _))
theorem pl(h:fX w a c d):Calls Tryz.prog 59 #[.slice a d.length c] w (kI d w):=by
 rcases h.cases with⟨rfl,rfl,rfl⟩|⟨b,z,rfl⟩
 ·exact AB w
 ·by_cases A:40000<d.length
  ·exact(qb b z c d w A).mono fun e w' h=>l8 h
  ·exact(rf b z c d w (by omega) h.room h.row h.byte).mono fun e w' h=>l8 h
theorem GO(h:fX w a c d):Calls Tryz.prog 138 #[.slice a d.length c] w (kI d w):=by
 rcases h.cases with⟨rfl,rfl,rfl⟩|⟨b,z,rfl⟩
 ·exact zd w
 ·by_cases A:40000<d.length
  ·exact(pT b z c d w A).mono fun e w' h=>l8 h
  ·exact(qY b z c d w (by omega) h.room h.cap h.row h.byte).mono fun e w' h=>l8 h
def I6(w w':World):Prop:=∀g t n,Raw w g t n→Raw w' g t n
def lp(w:World)(lo hi:Nat)(t:TypeId)(sz:Nat)(v:Value):Prop:=v= .slice none 0 0∨∃g n cap m,v= .slice (some ⟨g,0,none⟩) n cap∧Raw w g t m∧n*sz≤m∧lo≤g∧g<hi∧n≤1048576
def uL(w:World)(lo hi:Nat)(v:Value):Prop:=v= .slice none 0 0∨∃g n cap m vs,v= .slice (some ⟨g,0,none⟩) n cap∧jG w lo hi g n m vs∧n≤1048576
theorem lp.turn{v:Value}(h:lp w lo z t A v)(G:I6 w w'):lp w' lo z t A v:=by
 rcases h with rfl|⟨g,n,cap,m,e,r,E⟩
 ·exact .inl rfl
 ·exact .inr ⟨g,n,cap,m,e,G _ _ _ r,E⟩
theorem uL.below{v:Value}(h:uL w lo A v)(z:Below w.heap.size w w'):uL w' lo A v:=by
 rcases h with rfl|⟨g,n,cap,m,G,e,r,E⟩
 ·exact .inl rfl
 ·exact .inr ⟨g,n,cap,m,G,e,r.turn (fun _ _ _ h=>h.of_eq (z.block _ h.lt)) (fun j _=>d5 (z.block _ r.raw.lt)),E⟩
theorem lp.below{v:Value}(h:lp w lo z t A v)(E:Below w.heap.size w w'):lp w' lo z t A v:=h.turn (fun _ _ _ h=>h.of_eq (E.block _ h.lt))
theorem Hb(lo A k:Nat)(v:Value)(w:World)(I:k≤1048576)(h:uL w lo A v):
  Calls Tryz.prog 27 #[v,.int .i64 (k:Int)] w fun e w'=>(∃z:Nat,e= .returned (.int .i64 (z:Int))∧z≤k+1099512676352)∧I6 w w'∧Out lo A w w':=by
 rcases h with rfl|⟨g,n,cap,m,K,rfl,r,J⟩
 ·refine(EL k w).mono ?_;rintro e w' ⟨rfl,rfl⟩;exact⟨⟨k,rfl,by omega⟩,fun _ _ _ h=>h,Out.refl _ _ _⟩
 ·refine(EM lo A g n cap m k K w J I r).mono ?_;rintro e w' ⟨⟨z,rfl,L⟩,E,G⟩;exact⟨⟨z,rfl,by omega⟩,E,G⟩
theorem zF(lo z k:Nat)(v:Value)(w:World)(J:k≤1125899906842624)(h:lp w lo z 93 2 v):
  Calls Tryz.prog 28 #[v,.int .i64 (k:Int)] w fun e w'=>(∃A:Nat,e= .returned (.int .i64 (A:Int))∧A≤k+2097152)∧I6 w w'∧Out lo z w w':=by
 rcases h with rfl|⟨g,n,cap,m,rfl,r,L,K,I,M⟩
 ·refine(EJ k w).mono ?_;rintro e w' ⟨rfl,rfl⟩;exact⟨⟨k,rfl,by omega⟩,fun _ _ _ h=>h,Out.refl _ _ _⟩
 ·refine(EK lo z g n cap m k w M J r L K I).mono ?_;rintro e w' ⟨rfl,E,G⟩;exact⟨⟨_,rfl,by omega⟩,E,G⟩
theorem Hc(lo z k:Nat)(v:Value)(w:World)(J:k≤1125899906842624)(h:lp w lo z 95 4 v):
  Calls Tryz.prog 29 #[v,.int .i64 (k:Int)] w fun e w'=>(∃A:Nat,e= .returned (.int .i64 (A:Int))∧A≤k+4194304)∧I6 w w'∧Out lo z w w':=by
 rcases h with rfl|⟨g,n,cap,m,rfl,r,L,K,I,M⟩
 ·refine(EO k w).mono ?_;rintro e w' ⟨rfl,rfl⟩;exact⟨⟨k,rfl,by omega⟩,fun _ _ _ h=>h,Out.refl _ _ _⟩
 ·refine(EP lo z g n cap m k w M J r L K I).mono ?_;rintro e w' ⟨rfl,E,G⟩;exact⟨⟨_,rfl,by omega⟩,E,G⟩
structure oD(w:World)(lo hi:Nat)(v:Value):Prop where
 ex:∃a1 m1 c1 a2 m2 c2 a3 m3 c3 a4 m4 c4 q,v= .agg #[.slice a1 m1 c1,.slice a2 m2 c2,.slice a3 m3 c3,.slice a4 m4 c4,.int .i64 q]∧uL w lo hi (.slice a1 m1 c1)∧lp w lo hi 93 2 (.slice a2 m2 c2)∧lp w lo hi 93 2 (.slice a3 m3 c3)∧lp w lo hi 95 4 (.slice a4 m4 c4)
theorem oD.below{v:Value}(h:oD w lo A v)(z:Below w.heap.size w w'):oD w' lo A v:=by
 obtain⟨E,O,K,G,Q,L,I,R,M,J,U,N,q,e,V,Y,Z,r4⟩:=h.ex;exact⟨E,O,K,G,Q,L,I,R,M,J,U,N,q,e,V.below z,Y.below z,Z.below z,r4.below z⟩
theorem JZ{v:Value}(h:dO w A v l)(J:l.length≤1048576):LD w A w.heap.size v:=by
 rcases h.2 with⟨z,N⟩|⟨g,cap,E,z,I,G,M,K,L,O⟩
 ·exact .inl z
 ·exact .inr ⟨g,l.length,cap,E.size,z,⟨E,G,rfl⟩,by omega,I,lt_of_block G,J⟩
theorem Dv{E:Nat}{v:Value}{A:List (ByteArray×Int)}(h:gB w E v A)(M:A.length≤1048576):lp w E w.heap.size 93 2 v:=by
 rcases h.2 with⟨z,O⟩|⟨g,cap,G,z,L,J,I,N,K,Q⟩
 ·exact .inl z
 ·rw[MI] at z I;exact .inr ⟨g,A.length,cap,G.size,z,⟨G,J,rfl⟩,by rw[K];exact Ny _ I,L,lt_of_block J,M⟩
theorem J3{E:Nat}{v:Value}{A:List (Int×ByteArray×ByteArray×Int)}(h:lH w E v A)(M:A.length≤1048576):lp w E w.heap.size 95 4 v:=by
 rcases h.2 with⟨z,O⟩|⟨g,cap,G,z,L,J,I,N,K,Q⟩
 ·exact .inl z
 ·rw[MI] at z I;exact .inr ⟨g,A.length,cap,G.size,z,⟨G,J,rfl⟩,by rw[K];exact Ny _ I,L,lt_of_block J,M⟩
theorem J2{G:Nat}{v:Value}{ns:List (List Nat×Int)}(h:mg w G v ns)(Y:ns.length≤1048576)(O:∀e∈ns,e.1.length≤1048576):uL w G w.heap.size v:=by
 obtain⟨E,M,K,V⟩:=h;have J:=K;rcases K.2 with⟨z,hn⟩|⟨g,cap,I,z,U,L,aa,Z,N,hx⟩
 ·exact .inl z
 ·refine .inr ⟨g,ns.length,cap,I.size,fun j=>(E.getD j (.slice none 0 0,.slice none 0 0)).1,by rw[z,M],⟨⟨I,L,rfl⟩,by rw[N];exact Ny _ (by omega),U,lt_of_block L,fun j A=> ?_,fun j A=> ?_⟩,Y⟩
  ·rw[z] at J;have:=(fj.cells J j (by omega)).1;rw[this];simp[List.getD,show j<E.length by omega]
  ·obtain⟨x,Q,R⟩:=V j A;have e:(E.getD j (.slice none 0 0,.slice none 0 0)).1=x:=(by simp[List.getD,Q]);rw[e];exact JZ R (O _ (MO A))
theorem H8{v:Value}{D:dQ}(h:FE w A v D)(z:kW D):oD w A w.heap.size v:=by
 obtain⟨v1,v2,v3,v4,rfl,E,G,I,J⟩:=h;have L:=J2 E z.n1 (fun e K=>by have:=rq D.nodes e K;have:=z.sum;omega);have M:=Dv G z.n2;have N:=Dv I z.n3;have O:=J3 J z.n4;obtain⟨Q,Y,rfl⟩:=E.slice;obtain⟨R,Z,rfl⟩:=G.slice;obtain⟨U,c3,rfl⟩:=I.slice;obtain⟨V,c4,rfl⟩:=J.slice;exact⟨_,_,_,_,_,_,_,_,_,_,_,_,_,rfl,L,M,N,O⟩
theorem xr(lo A:Nat)(v:Value)(w:World)(ae:A≤w.heap.size)(h:oD w lo A v):
  Calls Tryz.prog 10 #[v,.int .i64 1] w fun e w'=>(∃k':Nat,e= .returned (.int .i64 (k':Int)))∧Out lo A w w':=by
 obtain⟨V,Z,Y,G,O,K,I,Q,L,J,R,M,q,rfl,r1,r2,r3,r4⟩:=h.ex;have N:=nAl w (.cells #[.slice V Z Y,.slice G O K,.slice I Q L,.slice J R M,.int .i64 q] 37);have L0:=dZ.new w #[.slice V Z Y,.slice G O K,.slice I Q L,.slice J R M,.int .i64 q] 37;have HN:=a8 (Hb lo A 1 _ _ (by omega) (r1.below N));have z:=a8 (show Out lo A w _ from Out.of_below N);have ad:=a8 (r2.below N);have aa:=a8 (r3.below N);have E:=a8 (r4.below N);clear h r1 r2 r3 r4;go_enter Tryz.func10,Tryz.ntmps10;go_wp2_with fail;generalize w.alloc (.cells #[.slice V Z Y,.slice G O K,.slice I Q L,.slice J R M,.int .i64 q] 37)=w0 at N L0 HN z ad aa E⊢;refine HN.out.mono ?_;rintro e w1 ⟨⟨k1,rfl,al⟩,ab,af⟩;have L1:dZ w1 w.heap.size #[.slice V Z Y,.slice G O K,.slice I Q L,.slice J R M,.int .i64 q] 37:=(af.block w.heap.size L0.lt (.inr ae)).trans L0;obtain⟨-,t1⟩:=L1.c2;have U:=a8 (zF lo A k1 _ w1 (by omega) (ad.out.turn ab));replace aa:=a8 (aa.out.turn ab);replace E:=a8 (E.out.turn ab);replace z:=a8 (z.out.trans af);clear HN ad ab af L0 N;go_wp2_with fail;refine U.out.mono ?_;rintro e w2 ⟨⟨k2,rfl,am⟩,ac,ag⟩;have L2:dZ w2 w.heap.size #[.slice V Z Y,.slice G O K,.slice I Q L,.slice J R M,.int .i64 q] 37:=(ag.block w.heap.size L1.lt (.inr ae)).trans L1;obtain⟨-,-,t2⟩:=L2.c3;replace U:=a8 (zF lo A k2 _ w2 (by omega) (aa.out.turn ac));replace E:=a8 (E.out.turn ac);replace z:=a8 (z.out.trans ag);clear aa ac ag L1 t1;go_wp2_with fail;refine U.out.mono ?_;rintro e w3 ⟨⟨k3,rfl,an⟩,ai,ah⟩;have L3:dZ w3 w.heap.size #[.slice V Z Y,.slice G O K,.slice I Q L,.slice J R M,.int .i64 q] 37:=(ah.block w.heap.size L2.lt (.inr ae)).trans L2;obtain⟨-,-,-,t3⟩:=L3.c4;replace U:=a8 (Hc lo A k3 _ w3 (by omega) (E.out.turn ai));replace z:=a8 (z.out.trans ah);clear E ai ah L2 t2 L3;go_wp2_with fail;refine U.out.mono ?_;rintro e w4 ⟨⟨k4,rfl,ao⟩,ak,aj⟩;replace z:=a8 (z.out.trans aj);clear ak aj t3 U;go_wp2;go_ret;exact⟨⟨k4,rfl⟩,z.out⟩










theorem Ce(v:Value)(w:World):(callFunc 17 #[v]).run Tryz.prog w= .ok (.enter 17 #[v]) w:=by
 kernel_rfl
theorem ii(f:FuncId)(J:∀(v:Value) (w:World),(callFunc f #[v]).run Tryz.prog w= .ok (.enter f #[v]) w){G:Array Oper}{z:Act}{K:Act→World→Prop}{E:Prop}(x:Operand)(ts:Array TypeId)(A:o.guard=none)
  (I:o.op= .call {callee:= .value (.func f),args:= #[x],argTypes:=ts}) (v:Value) (N:z.eval x=v) (h:Calls Tryz.prog f #[v] w fun e w'=>∃u,e= .returned u∧K (z.put o.dst u) w'):
  if Region.wanted o (yielded G z.tmps)=true then Oper.wp Tryz.prog o z w K Q else E:=by
 have M:Region.wanted o (yielded G z.tmps)=true:=(by simp[Region.wanted,A]);rw[if_pos M];obtain⟨U,Y,Z,V,O,R⟩:=o;simp only at I A;subst I;unfold Oper.wp;rw[execOp_call_go];simp only[List.map_toArray,M0,Ns,N,List.append_toArray,Nq,Nn,J,Oper.upon_enter];refine h.mono ?_;rintro e w' ⟨u,rfl,L⟩;exact L
theorem J5(h:w.ownsRow A e k (.slice a n cap) m xs):n≤cap:=by
 rcases h.2 with⟨z,_⟩|⟨g,c,E,z,_,_,G,_⟩
 ·simp only[MR] at z;omega
 ·simp only[MR] at z;omega
end Go.Proofs.YtpdbolihakojcaaGreatDoor
