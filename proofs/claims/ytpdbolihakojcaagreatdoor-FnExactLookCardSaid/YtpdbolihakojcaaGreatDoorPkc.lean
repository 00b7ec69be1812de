import Derived.Calls
namespace Go.Proofs.YtpdbolihakojcaaGreatDoor
set_option maxRecDepth 20000
set_option linter.unusedVariables false
set_option linter.unusedSimpArgs false
set_option maxHeartbeats 4000000
set_option linter.unusedSectionVars false
section
variable {α:Type}
def swp(xs:List α)(i j:Nat):List α:=match xs[i]?,xs[j]? with
 |some x,some y=>(xs.set i y).set j x
 |_,_=>xs
theorem Cq{xs:List α}{i j:Nat}(z:i<xs.length)(A:j<xs.length):swp xs i j=(xs.set i xs[j]).set j xs[i]:=by
 unfold swp;rw[List.getElem?_eq_getElem z,List.getElem?_eq_getElem A]
theorem po{xs:List α}{i j:Nat}(E:i<xs.length)(G:j<xs.length)(k:Nat):(swp xs i j)[k]? =if k=j then xs[i]? else if k=i then xs[j]? else xs[k]? :=by
 rw[Cq E G,List.getElem?_set,List.getElem?_set,List.length_set];by_cases z:j=k
 ·subst z;rw[if_pos rfl,if_pos rfl,if_pos G,List.getElem?_eq_getElem E]
 ·rw[if_neg z,if_neg (Ne.symm z)];by_cases A:i=k
  ·subst A;rw[if_pos rfl,if_pos rfl,if_pos E,List.getElem?_eq_getElem G]
  ·rw[if_neg A,if_neg (Ne.symm A)]
theorem IH{xs:List α}{i j:Nat}(z:i<xs.length)(A:j<xs.length):(swp xs i j).Perm xs:=by
 rw[Cq z A];exact List.set_set_perm z A
structure Seg(a b:Nat)(xs ys:List α):Prop where
 perm:ys.Perm xs
 out:∀i,(i<a∨b≤i)→ys[i]? =xs[i]?
 into:∀i,a≤i→i<b→∃j,a≤j∧j<b∧ys[i]? =xs[j]?
theorem Seg.refl(a b:Nat)(xs:List α):Seg a b xs xs:=⟨.refl _,fun _ _=>rfl,fun i z A=>⟨i,z,A,rfl⟩⟩
theorem Seg.trans{a b:Nat}{xs ys A:List α}(h:Seg a b xs ys)(k:Seg a b ys A):Seg a b xs A:=
 ⟨k.perm.trans h.perm,fun i z=>(k.out i z).trans (h.out i z),fun i G I=>by
  obtain⟨j,J,K,e⟩:=k.into i G I;obtain⟨l,L,M,E⟩:=h.into j J K;exact⟨l,L,M,e.trans E⟩⟩
theorem Seg.mono{a b z A:Nat}{xs ys:List α}(h:Seg a b xs ys)(J:z≤a)(K:b≤A):Seg z A xs ys:=
 ⟨h.perm,fun i L=>h.out i (by omega),fun i G I=>by
  by_cases E:a≤i∧i<b
  ·obtain⟨j,M,N,e⟩:=h.into i E.1 E.2;exact⟨j,by omega,by omega,e⟩
  ·exact⟨i,G,I,h.out i (by omega)⟩⟩
theorem xO{a b i j:Nat}{xs:List α}(z:i<xs.length)(A:j<xs.length)(I:a≤i)(J:i<b)(K:a≤j)(L:j<b):Seg a b xs (swp xs i j):=
 ⟨IH z A,fun k O=>by rw[po z A,if_neg (by omega),if_neg (by omega)],fun k M N=>by
  rw[po z A];by_cases E:k=j
  ·rw[if_pos E];exact⟨i,I,J,rfl⟩
  ·rw[if_neg E];by_cases G:k=i
   ·rw[if_pos G];exact⟨j,K,L,rfl⟩
   ·rw[if_neg G];exact⟨k,M,N,rfl⟩⟩
variable (key:α→Nat)
def ky(xs:List α)(i:Nat):Nat:=match xs[i]? with
 |some x=>key x
 |none=>0
theorem jV{xs ys:List α}{i j:Nat}(h:ys[i]? =xs[j]?):ky key ys i=ky key xs j:=by unfold ky;rw[h]
theorem GX{xs:List α}{i:Nat}(h:i<xs.length):ky key xs i=key xs[i]:=by unfold ky;rw[List.getElem?_eq_getElem h]
def e9(xs:List α)(a b:Nat):Prop:=∀i j,a≤i→i≤j→j<b→ky key xs i≤ky key xs j
theorem e9.out{a b c d:Nat}{xs ys:List α}(h:e9 key xs c d)(s:Seg a b xs ys)(G:d≤a∨b≤c):e9 key ys c d:=fun i j z A E=>by
 rw[jV key (s.out i (by omega)),jV key (s.out j (by omega))];exact h i j z A E
def qk(xs:List α)(a m b:Nat):Prop:=∀i j,a≤i→i<m→m≤j→j<b→ky key xs i≤ky key xs j
theorem tr{xs:List α}{a m b:Nat}(G:e9 key xs a m)(I:e9 key xs m b)(h:qk key xs a m b):e9 key xs a b:=fun i j z A E=>by
 by_cases K:j<m
 ·exact G i j z A K
 ·by_cases J:i<m
  ·exact h i j z J (by omega) E
  ·exact I i j (by omega) A E
theorem qk.left{xs ys:List α}{a m b:Nat}(h:qk key xs a m b)(s:Seg a m xs ys):qk key ys a m b:=fun i j z A E G=>by
 obtain⟨k,I,J,e⟩:=s.into i z A;rw[jV key e,jV key (s.out j (by omega))];exact h k j I J E G
theorem qk.right{xs ys:List α}{a m b:Nat}(h:qk key xs a m b)(s:Seg m b xs ys):qk key ys a m b:=fun i j z A E G=>by
 obtain⟨k,I,J,e⟩:=s.into j E G;rw[jV key e,jV key (s.out i (by omega))];exact h i k z A I J
def swG(f:Nat→Option α)(a b n:Nat)(k:Nat):Option α:=if a≤k∧k<a+n then f (k-a+b) else if b≤k∧k<b+n then f (k-b+a) else f k
def lD(f:Nat→Option α)(a m b:Nat)(k:Nat):Option α:=if a≤k∧k<a+(b-m) then f (k+(m-a)) else if a+(b-m)≤k∧k<b then f (k-(b-m)) else f k
theorem IF(f:Nat→Option α)(a b k:Nat):swG f a b 0 k=f k:=by
 unfold swG;rw[if_neg (by omega),if_neg (by omega)]
theorem IE{xs ys:List α}{a b n k:Nat}(K:ys.length=xs.length)(h:∀k,ys[k]? =swG (xs[·]?) a b n k)(I:a+n<b)(J:b+n<xs.length):(swp ys (a+n) (b+n))[k]? =swG (xs[·]?) a b (n+1) k:=by
 rw[po (by omega) (by omega),h,h,h];unfold swG;by_cases E:k=b+n
 ·subst E;rw[if_pos rfl,if_neg (by omega),if_neg (by omega),if_neg (by omega),if_pos (by omega)];congr 1;omega
 ·rw[if_neg E];by_cases G:k=a+n
  ·subst G;rw[if_pos rfl,if_neg (by omega),if_neg (by omega),if_pos (by omega)];congr 1;omega
  ·rw[if_neg G];by_cases z:a≤k∧k<a+n
   ·rw[if_pos z,if_pos (by omega)]
   ·rw[if_neg z,if_neg (show¬(a≤k∧k<a+(n+1)) by omega)];by_cases A:b≤k∧k<b+n
    ·rw[if_pos A,if_pos (by omega)]
    ·rw[if_neg A,if_neg (by omega)]
theorem Ik{f g:Nat→Option α}{m i j:Nat}(J:i≤m)(z:j<i)(K:0<j)(h:∀k,g k=swG f (m-i) m j k)(k:Nat):lD g (m-i+j) m (m+j) k=lD f (m-i) m (m+j) k:=by
 unfold lD;simp only[h];unfold swG;by_cases A:k<m-i
 ·rw[if_neg (by omega),if_neg (by omega),if_neg (by omega),if_neg (by omega),if_neg (by omega),if_neg (by omega)]
 by_cases E:k<m-i+j
 ·rw[if_neg (by omega),if_neg (by omega),if_pos (by omega),if_pos (by omega)];congr 1;omega
 by_cases G:k<m-i+j+j
 ·rw[if_pos (by omega),if_neg (by omega),if_pos (by omega),if_neg (by omega),if_pos (by omega)];congr 1;omega
 by_cases I:k<m+j
 ·rw[if_neg (by omega),if_pos (by omega),if_neg (by omega),if_neg (by omega),if_neg (by omega),if_pos (by omega)]
 ·rw[if_neg (by omega),if_neg (by omega),if_neg (by omega),if_neg (by omega),if_neg (by omega),if_neg (by omega)]
theorem Ij{f g:Nat→Option α}{m i j:Nat}(J:i≤m)(z:i<j)(K:0<i)(h:∀k,g k=swG f (m-i) (m+j-i) i k)(k:Nat):lD g (m-i) m (m+(j-i)) k=lD f (m-i) m (m+j) k:=by
 unfold lD;simp only[h];unfold swG;by_cases A:k<m-i
 ·rw[if_neg (by omega),if_neg (by omega),if_neg (by omega),if_neg (by omega),if_neg (by omega),if_neg (by omega)]
 by_cases E:k<m-i+(j-i)
 ·rw[if_pos (by omega),if_neg (by omega),if_neg (by omega),if_pos (by omega)]
 by_cases G:k<m+(j-i)
 ·rw[if_neg (by omega),if_pos (by omega),if_pos (by omega),if_pos (by omega)];congr 1;omega
 by_cases I:k<m+j
 ·rw[if_neg (by omega),if_neg (by omega),if_neg (by omega),if_pos (by omega),if_neg (by omega),if_pos (by omega)];congr 1;omega
 ·rw[if_neg (by omega),if_neg (by omega),if_neg (by omega),if_neg (by omega),if_neg (by omega),if_neg (by omega)]
theorem Il{f g:Nat→Option α}{m i:Nat}(G:i≤m)(h:∀k,g k=swG f (m-i) m i k)(k:Nat):g k=lD f (m-i) m (m+i) k:=by
 rw[h];unfold lD swG;by_cases z:k<m-i
 ·rw[if_neg (by omega),if_neg (by omega),if_neg (by omega),if_neg (by omega)]
 by_cases A:k<m
 ·rw[if_pos (by omega),if_pos (by omega)];congr 1;omega
 by_cases E:k<m+i
 ·rw[if_neg (by omega),if_pos (by omega),if_neg (by omega),if_pos (by omega)];congr 1;omega
 ·rw[if_neg (by omega),if_neg (by omega),if_neg (by omega),if_neg (by omega)]
theorem Ii{f:Nat→Option α}{a m b:Nat}(h:a=m∨m=b)(z:a≤m)(A:m≤b)(k:Nat):lD f a m b k=f k:=by
 unfold lD;split
 ·congr 1;omega
 ·split
  ·congr 1;omega
  ·rfl
structure LC(xs:List α)(a m b mid st en:Nat):Prop where
 midI:mid=(a+b)/2
 sum:st+en=mid+m
 sa:a≤st
 sm:st≤m
 eb:en≤b
 em:m≤en
 lo:a<st→en<b→ky key xs (st-1)≤ky key xs en
 hi:st<m→m<en→ky key xs (en-1)≤ky key xs st
theorem FZ{xs ys:List α}{a m b A st z:Nat}(c:LC key xs a m b A st z)(G:e9 key xs a m)(I:e9 key xs m b)(L:∀k,ys[k]? =lD (xs[·]?) st m z k):
  e9 key ys a st∧e9 key ys st A∧e9 key ys A z∧e9 key ys z b∧qk key ys a A b:=by
 obtain⟨q1,q2,q3,q4,q5,q6,q7,q8⟩:=c;have O:∀k,k<st→ky key ys k=ky key xs k:=fun k U=>jV key (by rw[L];unfold lD;rw[if_neg (by omega),if_neg (by omega)]);have Q:∀k,st≤k→k<A→ky key ys k=ky key xs (k+(m-st)):=fun k U V=>jV key (by rw[L];unfold lD;rw[if_pos (by omega)]);have J:∀k,A≤k→k<z→ky key ys k=ky key xs (k-(z-m)):=fun k U V=>jV key (by rw[L];unfold lD;rw[if_neg (by omega),if_pos (by omega)]);have K:∀k,z≤k→ky key ys k=ky key xs k:=fun k U=>jV key (by rw[L];unfold lD;rw[if_neg (by omega),if_neg (by omega)]);refine⟨fun i j M E N=> ?_,fun i j M E N=> ?_,fun i j M E N=> ?_,fun i j M E N=> ?_,fun i j M E N i4=> ?_⟩
 ·rw[O i (by omega),O j (by omega)];exact G i j (by omega) E (by omega)
 ·rw[Q i (by omega) (by omega),Q j (by omega) (by omega)];exact I _ _ (by omega) (by omega) (by omega)
 ·rw[J i (by omega) (by omega),J j (by omega) (by omega)];exact G _ _ (by omega) (by omega) (by omega)
 ·rw[K i (by omega),K j (by omega)];exact I i j (by omega) E (by omega)
 ·by_cases hi:i<st
  ·rw[O i hi];by_cases R:j<z
   ·rw[J j (by omega) R];exact G _ _ (by omega) (by omega) (by omega)
   ·rw[K j (by omega)];have Y:=G i (st-1) (by omega) (by omega) (by omega);have Z:=q7 (by omega) (by omega);have g3:=I z j (by omega) (by omega) (by omega);omega
  ·rw[Q i (by omega) (by omega)];by_cases R:j<z
   ·rw[J j (by omega) R];have Y:=I (i+(m-st)) (z-1) (by omega) (by omega) (by omega);have Z:=q8 (by omega) (by omega);have g3:=G st (j-(z-m)) (by omega) (by omega) (by omega);omega
   ·rw[K j (by omega)];exact I _ _ (by omega) (by omega) (by omega)
def upG(f:Nat→Option α)(a i:Nat)(k:Nat):Option α:=if k=i then f a else if a≤k∧k<i then f (k+1) else f k
theorem Ko(f:Nat→Option α)(a k:Nat):upG f a a k=f k:=by
 unfold upG;split
 ·next h=>rw[h]
 ·rw[if_neg (by omega)]
theorem Kn{xs ys:List α}{a i k:Nat}(I:ys.length=xs.length)(h:∀k,ys[k]? =upG (xs[·]?) a i k)(E:a≤i)(G:i+1<xs.length):(swp ys i (i+1))[k]? =upG (xs[·]?) a (i+1) k:=by
 rw[po (by omega) (by omega),h,h,h];unfold upG;by_cases z:k=i+1
 ·rw[if_pos z,if_pos rfl,if_pos z]
 ·rw[if_neg z,if_neg z];by_cases A:k=i
  ·subst A;rw[if_pos rfl,if_neg (by omega),if_neg (by omega),if_pos (by omega)]
  ·rw[if_neg A,if_neg A];by_cases c:a≤k∧k<i
   ·rw[if_pos c,if_pos (by omega)]
   ·rw[if_neg c,if_neg (by omega)]
def dnG(f:Nat→Option α)(m i:Nat)(k:Nat):Option α:=if k=i then f m else if i<k∧k≤m then f (k-1) else f k
theorem Jm(f:Nat→Option α)(m k:Nat):dnG f m m k=f k:=by
 unfold dnG;split
 ·next h=>rw[h]
 ·rw[if_neg (by omega)]
theorem Jl{xs ys:List α}{m i k:Nat}(G:ys.length=xs.length)(h:∀k,ys[k]? =dnG (xs[·]?) m (i+1) k)(E:i+1≤m)(I:m<xs.length):(swp ys (i+1) i)[k]? =dnG (xs[·]?) m i k:=by
 rw[po (by omega) (by omega),h,h,h];unfold dnG;by_cases z:k=i
 ·rw[if_pos z,if_pos rfl,if_pos z]
 ·rw[if_neg z,if_neg z];by_cases A:k=i+1
  ·subst A;rw[if_pos rfl,if_neg (by omega),if_neg (by omega),if_pos (by omega)];rfl
  ·rw[if_neg A,if_neg A];by_cases c:i+1<k∧k≤m
   ·rw[if_pos c,if_pos (by omega)]
   ·rw[if_neg c,if_neg (by omega)]
theorem Lx{xs ys:List α}{a b i:Nat}(Q:a<i)(R:i≤b)(h:e9 key xs (a+1) b)(L:∀k,a+1≤k→k<i→ky key xs k≤ky key xs a)(K:∀k,i≤k→k<b→ky key xs a≤ky key xs k)(G:∀k,ys[k]? =upG (xs[·]?) a (i-1) k):e9 key ys a b:=by
 have A:ky key ys (i-1)=ky key xs a:=jV key (by rw[G];unfold upG;rw[if_pos rfl]);have J:∀k,a≤k→k<i-1→ky key ys k=ky key xs (k+1):=fun k E M=>jV key (by rw[G];unfold upG;rw[if_neg (by omega),if_pos (by omega)]);have z:∀k,i≤k→ky key ys k=ky key xs k:=fun k E=>jV key (by rw[G];unfold upG;rw[if_neg (by omega),if_neg (by omega)]);intro x y E M U;by_cases N:x<i-1
 ·rw[J x E N];by_cases O:y<i-1
  ·rw[J y (by omega) O];exact h _ _ (by omega) (by omega) (by omega)
  ·by_cases I:y=i-1
   ·subst I;rw[A];exact L _ (by omega) (by omega)
   ·rw[z y (by omega)];exact h _ _ (by omega) (by omega) (by omega)
 ·by_cases x2:x=i-1
  ·subst x2;rw[A];by_cases I:y=i-1
   ·subst I;rw[A];exact Nat.le_refl _
   ·rw[z y (by omega)];exact K _ (by omega) (by omega)
  ·rw[z x (by omega),z y (by omega)];exact h _ _ (by omega) (by omega) (by omega)
theorem K6{xs ys:List α}{a m i:Nat}(Q:a≤i)(R:i≤m)(h:e9 key xs a m)(L:∀k,a≤k→k<i→ky key xs k≤ky key xs m)(K:∀k,i≤k→k<m→ky key xs m≤ky key xs k)(E:∀k,ys[k]? =dnG (xs[·]?) m i k):e9 key ys a (m+1):=by
 have A:ky key ys i=ky key xs m:=jV key (by rw[E];unfold dnG;rw[if_pos rfl]);have z:∀k,i<k→k≤m→ky key ys k=ky key xs (k-1):=fun k J M=>jV key (by rw[E];unfold dnG;rw[if_neg (by omega),if_pos (by omega)]);have I:∀k,k<i→ky key ys k=ky key xs k:=fun k J=>jV key (by rw[E];unfold dnG;rw[if_neg (by omega),if_neg (by omega)]);intro x y J M U;by_cases N:x<i
 ·rw[I x N];by_cases O:y<i
  ·rw[I y O];exact h _ _ (by omega) (by omega) (by omega)
  ·by_cases G:y=i
   ·subst G;rw[A];exact L _ (by omega) (by omega)
   ·rw[z y (by omega) (by omega)];exact h _ _ (by omega) (by omega) (by omega)
 ·by_cases x2:x=i
  ·subst x2;rw[A];by_cases G:y=x
   ·subst G;rw[A];exact Nat.le_refl _
   ·rw[z y (by omega) (by omega)];exact K _ (by omega) (by omega)
  ·rw[z x (by omega) (by omega),z y (by omega) (by omega)];exact h _ _ (by omega) (by omega) (by omega)
end
end Go.Proofs.YtpdbolihakojcaaGreatDoor
