import Derived.Calls
namespace Go.Proofs.YtkkdfgnnlpohlaaGreatDoor
set_option maxRecDepth 20000
set_option linter.unusedVariables false
set_option linter.unusedSimpArgs false
set_option maxHeartbeats 4000000
section
variable {α:Type} (key len:α→Nat)
def jj(m:α):List α→Option (List α)
 |[]=>some [m]
 |x::xs=>if key x=key m then none else if key m<key x then some (m::x::xs) else(jj m xs).map (x::·)
def stepG(m:α)(s:Nat×List α):Option (Nat×List α):=
 if key m=4294967295∨8000<len m then none
 else match jj key m s.2 with
  |none=>none
  |some ms=>if 100<ms.length then none else some (if s.1≤key m then key m+1 else s.1,ms)
def goG:List α→Nat×List α→Option (Nat×List α)
 |[],s=>some s
 |m::r,s=>match stepG key len m s with
  |none=>none
  |some s'=>goG r s'
def iU:List α→Nat×List α→Option (Nat×List α)
 |[],s=>some s
 |c::r,s=>if key c=4294967295 then none else if s.2.length=100 then none else if(s.2.getLast?.map key)=some (key c) then none else iU r (max s.1 (key c+1),s.2++[c])
def mxG(n:Nat)(l:List α):Nat:=l.foldl (fun n c=>max n (key c+1)) n
def NeG(l:List α):Prop:=l.Pairwise (fun x y=>key x≠key y)
def LtG(l:List α):Prop:=l.Pairwise (fun x y=>key x<key y)
def LeG(l:List α):Prop:=l.Pairwise (fun x y=>key x≤key y)
theorem LtG.ne{l:List α}(h:LtG key l):NeG key l:=h.imp (fun h=>by omega)
theorem pW{l k:List α}(h:l.Perm k)(z:NeG key l):NeG key k:=(h.pairwise_iff (fun h=>Ne.symm h)).1 z
theorem pM{m:α}:∀{ms:List α},LtG key ms→(∀x∈ms,key x≠key m)→∃A,jj key m ms=some A∧LtG key A∧A.Perm (m::ms)
 |[],_,_=>⟨[m],rfl,List.pairwise_singleton _ _,.refl _⟩
 |x::r,h,hn=>by
  unfold LtG at h;rw[List.pairwise_cons] at h;have J:=hn x (by simp);unfold jj;rw[if_neg J];by_cases E:key m<key x
  ·rw[if_pos E];refine⟨_,rfl,?_,.refl _⟩;unfold LtG;rw[List.pairwise_cons,List.pairwise_cons];refine⟨?_,h⟩;intro y z;rcases List.mem_cons.1 z with rfl|z
   ·exact E
   ·exact Nat.lt_trans E (h.1 y z)
  ·rw[if_neg E];obtain⟨A,e,I,G⟩:=pM (m:=m) (ms:=r) h.2 (fun y z=>hn y (List.mem_cons_of_mem _ z));refine⟨x::A,by rw[e];rfl,?_,?_⟩
   ·unfold LtG;rw[List.pairwise_cons];refine⟨fun y z=> ?_,I⟩;rcases List.mem_cons.1 (G.mem_iff.1 z) with rfl|z
    ·omega
    ·exact h.1 y z
   ·exact(G.cons x).trans (List.Perm.swap m x r)
theorem yt{m:α}:∀{ms ms':List α},LtG key ms→jj key m ms=some ms'→∀x∈ms,key x≠key m
 |[],_,_,_=>(fun x z=>by cases z)
 |y::r,ms',h,e=>by
  unfold LtG at h;rw[List.pairwise_cons] at h;unfold jj at e;by_cases z:key y=key m
  ·rw[if_pos z] at e;cases e
  rw[if_neg z] at e;intro x A;rcases List.mem_cons.1 A with rfl|A
  ·exact z
  by_cases E:key m<key y
  ·have:=h.1 x A;omega
  ·rw[if_neg E] at e;cases e2:jj key m r with
   |none=>rw[e2] at e;cases e
   |some r'=>exact yt h.2 e2 x A
theorem II:∀{l ms:List α} {n:Nat},LtG key ms→(∀c∈l,key c≠4294967295∧len c≤8000)→NeG key (l++ms)→(l++ms).length≤100→∃A,goG key len l (n,ms)=some (mxG key n l,A)∧LtG key A∧A.Perm (l++ms)
 |[],ms,n,h,_,_,_=>⟨ms,rfl,h,.refl _⟩
 |c::r,ms,n,h,hc,hn,hl=>by
  have z:=hn;unfold NeG at z;rw[List.cons_append,List.pairwise_cons] at z;obtain⟨E,L,N,J⟩:=pM key (m:=c) h (fun x G=>Ne.symm (z.1 x (List.mem_append_right _ G)));have R:=hc c (by simp);have U:E.length≤100:=by
   have:=J.length_eq;simp only[List.length_append,List.length_cons] at hl this;omega
  have I:(r++E).Perm (c::(r++ms)):=(J.append_left r).trans List.perm_middle;obtain⟨K,M,O,Q⟩:=II (l:=r) (ms:=E) (n:=if n≤key c then key c+1 else n) N (fun x G=>hc x (List.mem_cons_of_mem _ G)) (pW key I.symm hn) (by rw[I.length_eq];exact hl);refine⟨K,?_,O,Q.trans I⟩;unfold goG stepG;rw[if_neg (by omega)];simp only[L];rw[if_neg (by omega)];simp only[M];unfold mxG;rw[List.foldl_cons];congr 3;split<;>omega
theorem IH:∀{l ms:List α} {n:Nat} {s:Nat×List α},LtG key ms→ms.length≤100→goG key len l (n,ms)=some s→(∀c∈l,key c≠4294967295∧len c≤8000)∧NeG key (l++ms)∧(l++ms).length≤100
 |[],ms,n,s,h,hl,_=>⟨(fun c z=>by cases z),h.ne key,hl⟩
 |c::r,ms,n,s,h,hl,e=>by
  unfold goG stepG at e;by_cases z:key c=4294967295∨8000<len c
  ·rw[if_pos z] at e;cases e
  rw[if_neg z] at e;cases e1:jj key c ms with
  |none=>simp only[e1] at e;cases e
  |some ms1=>
   simp only[e1] at e;have K:=yt key h e1;obtain⟨J,E,O,Q⟩:=pM key (m:=c) h K;rw[e1] at E;obtain rfl:ms1=J:=Option.some.inj E;by_cases G:100<ms1.length
   ·rw[if_pos G] at e;cases e
   rw[if_neg G] at e;simp only at e;obtain⟨L,M,N⟩:=IH (l:=r) O (by omega) e;have I:(r++ms1).Perm (c::(r++ms)):=(Q.append_left r).trans List.perm_middle;refine⟨fun x A=> ?_,pW key I M,?_⟩
   ·rcases List.mem_cons.1 A with rfl|A
    ·omega
    ·exact L x A
   ·have:=I.length_eq;simp only[List.length_append,List.length_cons] at N this⊢;omega
theorem zb:∀{ys ms:List α} {n:Nat},(∀c∈ys,key c≠4294967295)→LtG key (ms++ys)→(ms++ys).length≤100→iU key ys (n,ms)=some (mxG key n ys,ms++ys)
 |[],ms,n,_,_,_=>by unfold iU mxG;simp
 |c::r,ms,n,hc,hlt,hl=>by
  have e:ms++c::r=(ms++[c])++r:=(by simp);unfold iU;rw[if_neg (hc c (by simp)),if_neg (by simp only[List.length_append,List.length_cons] at hl;simp only;omega),if_neg]
  ·rw[zb (fun x z=>hc x (List.mem_cons_of_mem _ z)) (by rw[←e];exact hlt) (by rw[←e];exact hl),←e];rfl
  ·intro h;unfold LtG at hlt;rw[List.pairwise_append] at hlt;simp only[Option.map_eq_some_iff] at h;obtain⟨x,z,A⟩:=h;have:=hlt.2.2 x (List.mem_of_getLast? z) c (by simp);omega
theorem E2:∀{ys ms:List α} {n:Nat} {s:Nat×List α},LtG key ms→LeG key (ms++ys)→ms.length≤100→iU key ys (n,ms)=some s→(∀c∈ys,key c≠4294967295)∧LtG key (ms++ys)∧(ms++ys).length≤100
 |[],ms,n,s,h,_,hl,_=>⟨(fun c E=>by cases E),by simpa using h,by simpa using hl⟩
 |c::r,ms,n,s,h,hle,hl,e=>by
  have I:ms++c::r=(ms++[c])++r:=(by simp);unfold iU at e;by_cases E:key c=4294967295
  ·rw[if_pos E] at e;cases e
  rw[if_neg E] at e;by_cases J:ms.length=100
  ·rw[if_pos J] at e;cases e
  rw[if_neg J] at e;by_cases G:(ms.getLast?.map key)=some (key c)
  ·rw[if_pos G] at e;cases e
  rw[if_neg G] at e;have L:LtG key (ms++[c]):=by
   unfold LtG LeG at*;rw[List.pairwise_append] at hle⊢;refine⟨h,List.pairwise_singleton _ _,fun x A y K=> ?_⟩;rw[List.mem_singleton] at K;subst K;have U:=hle.2.2 x A y (by simp);by_cases R:key x=key y
   ·exfalso;cases hg:ms.getLast? with
    |none=>rw[List.getLast?_eq_none_iff] at hg;subst hg;cases A
    |some z=>
     have Y:=hle.2.2 z (List.mem_of_getLast? hg) y (by simp);rw[hg] at G;have M:key z≠key y:=fun e=>G (by rw[←e];rfl);obtain⟨V,rfl⟩:=List.getLast?_eq_some_iff.1 hg;rw[List.pairwise_append] at h;rcases List.mem_append.1 A with A|A
     ·have:=h.2.2 x A z (by simp);omega
     ·rw[List.mem_singleton] at A;subst A;exact M R
   ·omega
  obtain⟨N,O,Q⟩:=E2 (ys:=r) L (by rw[←I];exact hle) (by rw[List.length_append];simp only[List.length_singleton];omega) e;refine⟨fun x A=> ?_,by rw[I];exact O,by rw[I];exact Q⟩;rcases List.mem_cons.1 A with rfl|A
  ·exact E
  ·exact N x A
theorem ET:∀{l k:List α},LtG key l→LtG key k→l.Perm k→l=k
 |[],k,_,_,p=>by rw[List.nil_perm] at p;exact p.symm
 |x::r,[],_,_,p=>by rw[List.perm_nil] at p;exact p
 |x::r,y::q,h1,h2,p=>by
  unfold LtG at h1 h2;rw[List.pairwise_cons] at h1 h2;have E:x=y:=by
   have z:x∈y::q:=p.mem_iff.1 (by simp);have A:y∈x::r:=p.mem_iff.2 (by simp);rcases List.mem_cons.1 z with e|z
   ·exact e
   rcases List.mem_cons.1 A with e|A
   ·exact e.symm
   have b1:=h2.1 x z;have b2:=h1.1 y A;omega
  subst E;rw[ET h1.2 h2.2 (List.Perm.cons_inv p)]
theorem LA{l k:List α}(p:l.Perm k)(n:Nat):mxG key n l=mxG key n k:=by
 unfold mxG;exact p.foldl_eq' (fun x _ y _ z=>by omega) n
theorem AY:∀{l:List α},LeG key l→NeG key l→LtG key l:=fun{l} z A=>by
 unfold LeG NeG LtG at*;exact(z.and A).imp (fun h=>by omega)
theorem Lu{l ys:List α}{n:Nat}(p:ys.Perm l)(K:LeG key ys):goG key len l (n,[])=match iU key ys (n,[]) with
  |none=>none
  |some s=>if s.2.all (fun c=>decide (len c≤8000))=true then some s else none:=by
 by_cases z:(∀c∈l,key c≠4294967295∧len c≤8000)∧NeG key l∧l.length≤100
 ·obtain⟨I,M,N⟩:=z;have L:LtG key ys:=AY key K (pW key p.symm M);obtain⟨ms,e,V,O⟩:=II key len (l:=l) (ms:=[]) (n:=n) List.Pairwise.nil I (by simpa using M) (by simpa using N);have J:=zb key (ys:=ys) (ms:=[]) (n:=n) (fun c z=>(I c (p.mem_iff.1 z)).1) (by simpa using L) (by rw[List.nil_append,p.length_eq];exact N);rw[e,J];have U:ms=ys:=ET key V L (by rw[List.append_nil] at O;exact O.trans p.symm);subst U;simp only[List.nil_append];rw[if_pos,LA key p];rw[List.all_eq_true];intro c z;exact decide_eq_true (I c (p.mem_iff.1 z)).2
 ·have R:goG key len l (n,[])=none:=by
   cases e:goG key len l (n,[]) with
   |none=>rfl
   |some s=>
    obtain⟨G,A,E⟩:=IH key len (ms:=[]) List.Pairwise.nil (by simp) e;exact absurd ⟨G,by simpa using A,by simpa using E⟩ z
  rw[R];cases e:iU key ys (n,[]) with
  |none=>rfl
  |some s=>
   obtain⟨G,A,E⟩:=E2 key (ms:=[]) (ys:=ys) List.Pairwise.nil (by simpa using K) (by simp) e;rw[List.nil_append] at A E;have J:=zb key (ys:=ys) (ms:=[]) (n:=n) G (by simpa using A) (by simpa using E);rw[J] at e;obtain rfl:=Option.some.inj e;simp only[List.nil_append];rw[if_neg];intro Q;rw[List.all_eq_true] at Q;refine z ⟨fun c z=>⟨G c (p.mem_iff.2 z),of_decide_eq_true (Q c (p.mem_iff.2 z))⟩,pW key p (LtG.ne key A),by rw[←p.length_eq];exact E⟩
end
section
variable {α:Type} (key:α→Nat)
def fmG:List α→List Nat→Option (List α)
 |all,[]=>some []
 |all,u::us=>match all.dropWhile (fun c=>decide (key c<u)) with
  |c::r=>if key c=u∧(r.head?.map key)≠some u then(fmG (c::r) us).map (c::·) else none
  |[]=>none
def pX(l:List α):List Nat→Option (List α)
 |[]=>some []
 |u::us=>match l.filter (fun c=>key c==u) with
  |[c]=>(pX l us).map (c::·)
  |_=>none
theorem Ac(u:Nat):∀(l:List α),∃pre,l=pre++l.dropWhile (fun c=>decide (key c<u))∧(∀x∈pre,key x<u)∧∀c r,l.dropWhile (fun c=>decide (key c<u))=c::r→u≤key c
 |[]=>⟨[],rfl,(fun x z=>by cases z),(fun c r h=>by cases h)⟩
 |x::l=>by
  by_cases z:key x<u
  ·obtain⟨pre,E,G,I⟩:=Ac u l;rw[List.dropWhile_cons,if_pos (decide_eq_true z)];refine⟨x::pre,by rw[List.cons_append,←E],?_,I⟩;intro y A;rcases List.mem_cons.1 A with rfl|A
   ·exact z
   ·exact G y A
  ·rw[List.dropWhile_cons,if_neg (by simpa using z)];refine⟨[],rfl,(fun x z=>by cases z),fun c r h=> ?_⟩;cases h;omega
theorem Bo{l ys:List α}(p:ys.Perm l):∀us,pX key l us=pX key ys us
 |[]=>rfl
 |u::us=>by
  unfold pX;have hp:(ys.filter (fun c=>key c==u)).Perm (l.filter (fun c=>key c==u)):=p.filter _;rw[Bo p us];generalize ys.filter (fun c=>key c==u)=A at hp⊢;generalize l.filter (fun c=>key c==u)=B at hp⊢
  match B,hp with
  |[],hp=>rw[List.perm_nil] at hp;subst hp;rfl
  |[c],hp=>rw[List.perm_singleton] at hp;subst hp;rfl
  |c::d::r,hp=>
   have z:=hp.length_eq
   match A,z with
   |a::b::q,_=>rfl
theorem EJ:∀{us:List Nat} {pre all:List α},us.Pairwise (·<·)→LeG key (pre++all)→(∀x∈pre,∀u∈us,key x<u)→fmG key all us=pX key (pre++all) us
 |[],_,_,_,_,_=>rfl
 |u::us,pre,all,hu,hle,hp=>by
  rw[List.pairwise_cons] at hu;obtain⟨G,z,K,N⟩:=Ac key u all;unfold fmG pX;have L:∀I,all.dropWhile (fun c=>decide (key c<u))=I→(pre++all).filter (fun c=>key c==u)=I.filter (fun c=>key c==u):=by
   intro I e;rw[e] at z;rw[z,←List.append_assoc,List.filter_append];have:(pre++G).filter (fun c=>key c==u)=[]:=by
    rw[List.filter_eq_nil_iff];intro x hx;have:key x<u:=by
     rcases List.mem_append.1 hx with hx|hx
     ·exact hp x hx u (by simp)
     ·exact K x hx
    simp;omega
   rw[this,List.nil_append]
  cases hz:all.dropWhile (fun c=>decide (key c<u)) with
  |nil=>
   rw[L _ hz];rfl
  |cons c r=>
   rw[L _ hz];have Y:=N c r hz;rw[hz] at z;have Q:LeG key (c::r):=by
    unfold LeG at hle⊢;rw[z,←List.append_assoc,List.pairwise_append] at hle;exact hle.2.1
   have hs':=Q;unfold LeG at hs';rw[List.pairwise_cons] at hs';simp only;by_cases A:key c=u
   ·have O:(c::r).filter (fun c=>key c==u)=c::r.filter (fun c=>key c==u):=by
     rw[List.filter_cons_of_pos (by simpa using A)]
    rw[O];by_cases hh:(r.head?.map key)=some u
    ·rw[if_neg (by rintro⟨_,h⟩;exact h hh)]
     match r,hh with
     |d::q,hh=>
      simp only[List.head?_cons,Option.map_some,Option.some.injEq] at hh;rw[List.filter_cons_of_pos (by simpa using hh)]
    ·rw[if_pos ⟨A,hh⟩];have E:r.filter (fun c=>key c==u)=[]:=by
      rw[List.filter_eq_nil_iff];intro x hx
      match r,hh,hx,hs' with
      |d::q,hh,hx,hs'=>
       simp only[List.head?_cons,Option.map_some,Option.some.injEq] at hh;have U:=hs'.1 d (by simp);have J:=hs'.2;rw[List.pairwise_cons] at J;have V:key d≤key x:=by
        rcases List.mem_cons.1 hx with rfl|hx
        ·exact Nat.le_refl _
        ·exact J.1 x hx
       simp;omega
     rw[E];simp only;have e:pre++all=(pre++G)++(c::r):=(by rw[z,List.append_assoc]);rw[EJ (us:=us) (pre:=pre++G) (all:=c::r) hu.2 (by rw[←e];exact hle),←e];intro x hx v M;have R:=hu.1 v M;rcases List.mem_append.1 hx with hx|hx
     ·exact hp x hx v (List.mem_cons_of_mem _ M)
     ·have:=K x hx;omega
   ·rw[if_neg (by rintro⟨h,_⟩;exact A h)];have E:(c::r).filter (fun c=>key c==u)=[]:=by
     rw[List.filter_eq_nil_iff];intro x hx;have:key c≤key x:=by
      rcases List.mem_cons.1 hx with rfl|hx
      ·exact Nat.le_refl _
      ·exact hs'.1 x hx
     simp;omega
    rw[E]
theorem Ly{l ys:List α}{us:List Nat}(p:ys.Perm l)(z:LeG key ys)(A:us.Pairwise (·<·)):fmG key ys us=pX key l us:=by
 rw[Bo key p,EJ key (pre:=[]) (all:=ys) A (by simpa using z) (fun x E=>by cases E)];rfl
end
end Go.Proofs.YtkkdfgnnlpohlaaGreatDoor
