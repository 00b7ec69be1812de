import Derived.Calls
namespace Go.Proofs.YtkkdfgnnlpohlaaGreatDoor
set_option maxRecDepth 20000
set_option linter.unusedVariables false
set_option linter.unusedSimpArgs false
set_option maxHeartbeats 4000000
set_option linter.unusedSectionVars false
section
variable {α:Type}
def swp(xs:List α)(i j:Nat):List α:=match xs[i]?,xs[j]? with
 |some x,some y=>(xs.set i y).set j x
 |_,_=>xs
theorem Ek{xs:List α}{i j:Nat}(hi:i<xs.length)(z:j<xs.length):swp xs i j=(xs.set i xs[j]).set j xs[i]:=by
 unfold swp;rw[List.getElem?_eq_getElem hi,List.getElem?_eq_getElem z]
theorem qk{xs:List α}{i j:Nat}(hi:i<xs.length)(E:j<xs.length)(k:Nat):(swp xs i j)[k]? =if k=j then xs[i]? else if k=i then xs[j]? else xs[k]? :=by
 rw[Ek hi E,List.getElem?_set,List.getElem?_set,List.length_set];by_cases z:j=k
 ·subst z;rw[if_pos rfl,if_pos rfl,if_pos E,List.getElem?_eq_getElem hi]
 ·rw[if_neg z,if_neg (Ne.symm z)];by_cases A:i=k
  ·subst A;rw[if_pos rfl,if_pos rfl,if_pos hi,List.getElem?_eq_getElem E]
  ·rw[if_neg A,if_neg (Ne.symm A)]
theorem Kk{xs:List α}{i j:Nat}(hi:i<xs.length)(z:j<xs.length):(swp xs i j).Perm xs:=by
 rw[Ek hi z];exact List.set_set_perm hi z
structure Seg(a b:Nat)(xs ys:List α):Prop where
 perm:ys.Perm xs
 out:∀i,(i<a∨b≤i)→ys[i]? =xs[i]?
 into:∀i,a≤i→i<b→∃j,a≤j∧j<b∧ys[i]? =xs[j]?
theorem Seg.refl(a b:Nat)(xs:List α):Seg a b xs xs:=⟨.refl _,fun _ _=>rfl,fun i z A=>⟨i,z,A,rfl⟩⟩
theorem Seg.trans{a b:Nat}{xs ys z:List α}(h:Seg a b xs ys)(k:Seg a b ys z):Seg a b xs z:=
 ⟨k.perm.trans h.perm,fun i hi=>(k.out i hi).trans (h.out i hi),fun i E G=>by
  obtain⟨j,I,J,e⟩:=k.into i E G;obtain⟨l,K,L,A⟩:=h.into j I J;exact⟨l,K,L,e.trans A⟩⟩
theorem Seg.mono{a b z A:Nat}{xs ys:List α}(h:Seg a b xs ys)(J:z≤a)(K:b≤A):Seg z A xs ys:=
 ⟨h.perm,fun i hi=>h.out i (by omega),fun i G I=>by
  by_cases E:a≤i∧i<b
  ·obtain⟨j,L,M,e⟩:=h.into i E.1 E.2;exact⟨j,by omega,by omega,e⟩
  ·exact⟨i,G,I,h.out i (by omega)⟩⟩
theorem zd{a b i j:Nat}{xs:List α}(hi:i<xs.length)(z:j<xs.length)(G:a≤i)(I:i<b)(J:a≤j)(K:j<b):Seg a b xs (swp xs i j):=
 ⟨Kk hi z,fun k N=>by rw[qk hi z,if_neg (by omega),if_neg (by omega)],fun k L M=>by
  rw[qk hi z];by_cases A:k=j
  ·rw[if_pos A];exact⟨i,G,I,rfl⟩
  ·rw[if_neg A];by_cases E:k=i
   ·rw[if_pos E];exact⟨j,J,K,rfl⟩
   ·rw[if_neg E];exact⟨k,L,M,rfl⟩⟩
variable (key:α→Nat)
def ky(xs:List α)(i:Nat):Nat:=match xs[i]? with
 |some x=>key x
 |none=>0
theorem kF{xs ys:List α}{i j:Nat}(h:ys[i]? =xs[j]?):ky key ys i=ky key xs j:=by unfold ky;rw[h]
theorem I9{xs:List α}{i:Nat}(h:i<xs.length):ky key xs i=key xs[i]:=by unfold ky;rw[List.getElem?_eq_getElem h]
def fC(xs:List α)(a b:Nat):Prop:=∀i j,a≤i→i≤j→j<b→ky key xs i≤ky key xs j
theorem fC.out{a b c d:Nat}{xs ys:List α}(h:fC key xs c d)(s:Seg a b xs ys)(G:d≤a∨b≤c):fC key ys c d:=fun i j z A E=>by
 rw[kF key (s.out i (by omega)),kF key (s.out j (by omega))];exact h i j z A E
def rq(xs:List α)(a m b:Nat):Prop:=∀i j,a≤i→i<m→m≤j→j<b→ky key xs i≤ky key xs j
theorem uU{xs:List α}{a m b:Nat}(G:fC key xs a m)(I:fC key xs m b)(h:rq key xs a m b):fC key xs a b:=fun i j z A E=>by
 by_cases J:j<m
 ·exact G i j z A J
 ·by_cases hi:i<m
  ·exact h i j z hi (by omega) E
  ·exact I i j (by omega) A E
theorem rq.left{xs ys:List α}{a m b:Nat}(h:rq key xs a m b)(s:Seg a m xs ys):rq key ys a m b:=fun i j z A E G=>by
 obtain⟨k,I,J,e⟩:=s.into i z A;rw[kF key e,kF key (s.out j (by omega))];exact h k j I J E G
theorem rq.right{xs ys:List α}{a m b:Nat}(h:rq key xs a m b)(s:Seg m b xs ys):rq key ys a m b:=fun i j z A E G=>by
 obtain⟨k,I,J,e⟩:=s.into j E G;rw[kF key e,kF key (s.out i (by omega))];exact h i k z A I J
def swG(f:Nat→Option α)(a b n:Nat)(k:Nat):Option α:=if a≤k∧k<a+n then f (k-a+b) else if b≤k∧k<b+n then f (k-b+a) else f k
def mG(f:Nat→Option α)(a m b:Nat)(k:Nat):Option α:=if a≤k∧k<a+(b-m) then f (k+(m-a)) else if a+(b-m)≤k∧k<b then f (k-(b-m)) else f k
theorem Kj(f:Nat→Option α)(a b k:Nat):swG f a b 0 k=f k:=by
 unfold swG;rw[if_neg (by omega),if_neg (by omega)]
theorem Ki{xs ys:List α}{a b n k:Nat}(K:ys.length=xs.length)(h:∀k,ys[k]? =swG (xs[·]?) a b n k)(I:a+n<b)(J:b+n<xs.length):(swp ys (a+n) (b+n))[k]? =swG (xs[·]?) a b (n+1) k:=by
 rw[qk (by omega) (by omega),h,h,h];unfold swG;by_cases E:k=b+n
 ·subst E;rw[if_pos rfl,if_neg (by omega),if_neg (by omega),if_neg (by omega),if_pos (by omega)];congr 1;omega
 ·rw[if_neg E];by_cases G:k=a+n
  ·subst G;rw[if_pos rfl,if_neg (by omega),if_neg (by omega),if_pos (by omega)];congr 1;omega
  ·rw[if_neg G];by_cases z:a≤k∧k<a+n
   ·rw[if_pos z,if_pos (by omega)]
   ·rw[if_neg z,if_neg (show¬(a≤k∧k<a+(n+1)) by omega)];by_cases A:b≤k∧k<b+n
    ·rw[if_pos A,if_pos (by omega)]
    ·rw[if_neg A,if_neg (by omega)]
theorem JW{f g:Nat→Option α}{m i j:Nat}(hi:i≤m)(z:j<i)(J:0<j)(h:∀k,g k=swG f (m-i) m j k)(k:Nat):mG g (m-i+j) m (m+j) k=mG f (m-i) m (m+j) k:=by
 unfold mG;simp only[h];unfold swG;by_cases A:k<m-i
 ·rw[if_neg (by omega),if_neg (by omega),if_neg (by omega),if_neg (by omega),if_neg (by omega),if_neg (by omega)]
 by_cases E:k<m-i+j
 ·rw[if_neg (by omega),if_neg (by omega),if_pos (by omega),if_pos (by omega)];congr 1;omega
 by_cases G:k<m-i+j+j
 ·rw[if_pos (by omega),if_neg (by omega),if_pos (by omega),if_neg (by omega),if_pos (by omega)];congr 1;omega
 by_cases I:k<m+j
 ·rw[if_neg (by omega),if_pos (by omega),if_neg (by omega),if_neg (by omega),if_neg (by omega),if_pos (by omega)]
 ·rw[if_neg (by omega),if_neg (by omega),if_neg (by omega),if_neg (by omega),if_neg (by omega),if_neg (by omega)]
theorem JV{f g:Nat→Option α}{m i j:Nat}(hi:i≤m)(z:i<j)(J:0<i)(h:∀k,g k=swG f (m-i) (m+j-i) i k)(k:Nat):mG g (m-i) m (m+(j-i)) k=mG f (m-i) m (m+j) k:=by
 unfold mG;simp only[h];unfold swG;by_cases A:k<m-i
 ·rw[if_neg (by omega),if_neg (by omega),if_neg (by omega),if_neg (by omega),if_neg (by omega),if_neg (by omega)]
 by_cases E:k<m-i+(j-i)
 ·rw[if_pos (by omega),if_neg (by omega),if_neg (by omega),if_pos (by omega)]
 by_cases G:k<m+(j-i)
 ·rw[if_neg (by omega),if_pos (by omega),if_pos (by omega),if_pos (by omega)];congr 1;omega
 by_cases I:k<m+j
 ·rw[if_neg (by omega),if_neg (by omega),if_neg (by omega),if_pos (by omega),if_neg (by omega),if_pos (by omega)];congr 1;omega
 ·rw[if_neg (by omega),if_neg (by omega),if_neg (by omega),if_neg (by omega),if_neg (by omega),if_neg (by omega)]
theorem JX{f g:Nat→Option α}{m i:Nat}(hi:i≤m)(h:∀k,g k=swG f (m-i) m i k)(k:Nat):g k=mG f (m-i) m (m+i) k:=by
 rw[h];unfold mG swG;by_cases z:k<m-i
 ·rw[if_neg (by omega),if_neg (by omega),if_neg (by omega),if_neg (by omega)]
 by_cases A:k<m
 ·rw[if_pos (by omega),if_pos (by omega)];congr 1;omega
 by_cases E:k<m+i
 ·rw[if_neg (by omega),if_pos (by omega),if_neg (by omega),if_pos (by omega)];congr 1;omega
 ·rw[if_neg (by omega),if_neg (by omega),if_neg (by omega),if_neg (by omega)]
theorem JU{f:Nat→Option α}{a m b:Nat}(h:a=m∨m=b)(z:a≤m)(A:m≤b)(k:Nat):mG f a m b k=f k:=by
 unfold mG;split
 ·congr 1;omega
 ·split
  ·congr 1;omega
  ·rfl
structure NC(xs:List α)(a m b mid st en:Nat):Prop where
 midI:mid=(a+b)/2
 sum:st+en=mid+m
 sa:a≤st
 sm:st≤m
 eb:en≤b
 em:m≤en
 lo:a<st→en<b→ky key xs (st-1)≤ky key xs en
 hi:st<m→m<en→ky key xs (en-1)≤ky key xs st
theorem Ia{xs ys:List α}{a m b A st z:Nat}(c:NC key xs a m b A st z)(G:fC key xs a m)(I:fC key xs m b)(L:∀k,ys[k]? =mG (xs[·]?) st m z k):
  fC key ys a st∧fC key ys st A∧fC key ys A z∧fC key ys z b∧rq key ys a A b:=by
 obtain⟨q1,q2,q3,q4,q5,q6,q7,q8⟩:=c;have O:∀k,k<st→ky key ys k=ky key xs k:=fun k U=>kF key (by rw[L];unfold mG;rw[if_neg (by omega),if_neg (by omega)]);have Q:∀k,st≤k→k<A→ky key ys k=ky key xs (k+(m-st)):=fun k U V=>kF key (by rw[L];unfold mG;rw[if_pos (by omega)]);have J:∀k,A≤k→k<z→ky key ys k=ky key xs (k-(z-m)):=fun k U V=>kF key (by rw[L];unfold mG;rw[if_neg (by omega),if_pos (by omega)]);have K:∀k,z≤k→ky key ys k=ky key xs k:=fun k U=>kF key (by rw[L];unfold mG;rw[if_neg (by omega),if_neg (by omega)]);refine⟨fun i j M E N=> ?_,fun i j M E N=> ?_,fun i j M E N=> ?_,fun i j M E N=> ?_,fun i j M E N i4=> ?_⟩
 ·rw[O i (by omega),O j (by omega)];exact G i j (by omega) E (by omega)
 ·rw[Q i (by omega) (by omega),Q j (by omega) (by omega)];exact I _ _ (by omega) (by omega) (by omega)
 ·rw[J i (by omega) (by omega),J j (by omega) (by omega)];exact G _ _ (by omega) (by omega) (by omega)
 ·rw[K i (by omega),K j (by omega)];exact I i j (by omega) E (by omega)
 ·by_cases hi:i<st
  ·rw[O i hi];by_cases R:j<z
   ·rw[J j (by omega) R];exact G _ _ (by omega) (by omega) (by omega)
   ·rw[K j (by omega)];have Y:=G i (st-1) (by omega) (by omega) (by omega);have Z:=q7 (by omega) (by omega);have g3:=I z j (by omega) (by omega) (by omega);omega
  ·rw[Q i (by omega) (by omega)];by_cases R:j<z
   ·rw[J j (by omega) R];have Y:=I (i+(m-st)) (z-1) (by omega) (by omega) (by omega);have Z:=q8 (by omega) (by omega);have g3:=G st (j-(z-m)) (by omega) (by omega) (by omega);omega
   ·rw[K j (by omega)];exact I _ _ (by omega) (by omega) (by omega)
def upG(f:Nat→Option α)(a i:Nat)(k:Nat):Option α:=if k=i then f a else if a≤k∧k<i then f (k+1) else f k
theorem Mi(f:Nat→Option α)(a k:Nat):upG f a a k=f k:=by
 unfold upG;split
 ·next h=>rw[h]
 ·rw[if_neg (by omega)]
theorem Mh{xs ys:List α}{a i k:Nat}(G:ys.length=xs.length)(h:∀k,ys[k]? =upG (xs[·]?) a i k)(E:a≤i)(hi:i+1<xs.length):(swp ys i (i+1))[k]? =upG (xs[·]?) a (i+1) k:=by
 rw[qk (by omega) (by omega),h,h,h];unfold upG;by_cases z:k=i+1
 ·rw[if_pos z,if_pos rfl,if_pos z]
 ·rw[if_neg z,if_neg z];by_cases A:k=i
  ·subst A;rw[if_pos rfl,if_neg (by omega),if_neg (by omega),if_pos (by omega)]
  ·rw[if_neg A,if_neg A];by_cases c:a≤k∧k<i
   ·rw[if_pos c,if_pos (by omega)]
   ·rw[if_neg c,if_neg (by omega)]
def dnG(f:Nat→Option α)(m i:Nat)(k:Nat):Option α:=if k=i then f m else if i<k∧k≤m then f (k-1) else f k
theorem K6(f:Nat→Option α)(m k:Nat):dnG f m m k=f k:=by
 unfold dnG;split
 ·next h=>rw[h]
 ·rw[if_neg (by omega)]
theorem K5{xs ys:List α}{m i k:Nat}(G:ys.length=xs.length)(h:∀k,ys[k]? =dnG (xs[·]?) m (i+1) k)(E:i+1≤m)(I:m<xs.length):(swp ys (i+1) i)[k]? =dnG (xs[·]?) m i k:=by
 rw[qk (by omega) (by omega),h,h,h];unfold dnG;by_cases z:k=i
 ·rw[if_pos z,if_pos rfl,if_pos z]
 ·rw[if_neg z,if_neg z];by_cases A:k=i+1
  ·subst A;rw[if_pos rfl,if_neg (by omega),if_neg (by omega),if_pos (by omega)];rfl
  ·rw[if_neg A,if_neg A];by_cases c:i+1<k∧k≤m
   ·rw[if_pos c,if_pos (by omega)]
   ·rw[if_neg c,if_neg (by omega)]
theorem Ny{xs ys:List α}{a b i:Nat}(Q:a<i)(R:i≤b)(h:fC key xs (a+1) b)(L:∀k,a+1≤k→k<i→ky key xs k≤ky key xs a)(K:∀k,i≤k→k<b→ky key xs a≤ky key xs k)(G:∀k,ys[k]? =upG (xs[·]?) a (i-1) k):fC key ys a b:=by
 have A:ky key ys (i-1)=ky key xs a:=kF key (by rw[G];unfold upG;rw[if_pos rfl]);have J:∀k,a≤k→k<i-1→ky key ys k=ky key xs (k+1):=fun k E M=>kF key (by rw[G];unfold upG;rw[if_neg (by omega),if_pos (by omega)]);have z:∀k,i≤k→ky key ys k=ky key xs k:=fun k E=>kF key (by rw[G];unfold upG;rw[if_neg (by omega),if_neg (by omega)]);intro x y E M U;by_cases N:x<i-1
 ·rw[J x E N];by_cases O:y<i-1
  ·rw[J y (by omega) O];exact h _ _ (by omega) (by omega) (by omega)
  ·by_cases I:y=i-1
   ·subst I;rw[A];exact L _ (by omega) (by omega)
   ·rw[z y (by omega)];exact h _ _ (by omega) (by omega) (by omega)
 ·by_cases x2:x=i-1
  ·subst x2;rw[A];by_cases I:y=i-1
   ·subst I;rw[A];exact Nat.le_refl _
   ·rw[z y (by omega)];exact K _ (by omega) (by omega)
  ·rw[z x (by omega),z y (by omega)];exact h _ _ (by omega) (by omega) (by omega)
theorem M1{xs ys:List α}{a m i:Nat}(Q:a≤i)(R:i≤m)(h:fC key xs a m)(L:∀k,a≤k→k<i→ky key xs k≤ky key xs m)(K:∀k,i≤k→k<m→ky key xs m≤ky key xs k)(E:∀k,ys[k]? =dnG (xs[·]?) m i k):fC key ys a (m+1):=by
 have A:ky key ys i=ky key xs m:=kF key (by rw[E];unfold dnG;rw[if_pos rfl]);have z:∀k,i<k→k≤m→ky key ys k=ky key xs (k-1):=fun k J M=>kF key (by rw[E];unfold dnG;rw[if_neg (by omega),if_pos (by omega)]);have I:∀k,k<i→ky key ys k=ky key xs k:=fun k J=>kF key (by rw[E];unfold dnG;rw[if_neg (by omega),if_neg (by omega)]);intro x y J M U;by_cases N:x<i
 ·rw[I x N];by_cases O:y<i
  ·rw[I y O];exact h _ _ (by omega) (by omega) (by omega)
  ·by_cases G:y=i
   ·subst G;rw[A];exact L _ (by omega) (by omega)
   ·rw[z y (by omega) (by omega)];exact h _ _ (by omega) (by omega) (by omega)
 ·by_cases x2:x=i
  ·subst x2;rw[A];by_cases G:y=x
   ·subst G;rw[A];exact Nat.le_refl _
   ·rw[z y (by omega) (by omega)];exact K _ (by omega) (by omega)
  ·rw[z x (by omega) (by omega),z y (by omega) (by omega)];exact h _ _ (by omega) (by omega) (by omega)
end
end Go.Proofs.YtkkdfgnnlpohlaaGreatDoor
