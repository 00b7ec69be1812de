import Derived.Test.YtkkdfgnnlpohlaaGreatDoorPkm
import Derived.Test.YtkkdfgnnlpohlaaGreatDoorPkn
import Derived.Test.YtkkdfgnnlpohlaaGreatDoorPkk
import Derived.Test.YtkkdfgnnlpohlaaGreatDoorPkl
import Derived.Test.YtkkdfgnnlpohlaaGreatDoorPkb
namespace Go.Proofs.YtkkdfgnnlpohlaaGreatDoor
set_option maxRecDepth 20000
set_option linter.unusedVariables false
set_option linter.unusedSimpArgs false
set_option maxHeartbeats 4000000
open Go.RowKit Go.Proofs.Tryz
variable {W X Y w w' w0 wr : World} {A B at_ b b2 base' c cap e f g go gs hi i j k lo m n s u val z : Nat} {E G I J K L M N O u0 u1 u2 v0 v1 v2 v3 v4 v5 v6 x y : Value} {o : Oper} {Q : Exit → Act → World → Prop} {cs tmps : Array Value} {t : TypeId} {p : Addr} {l : List Nat} {bvs xs : List Value} {a : List UInt8} {first ok : Bool}
section
open Go.Lib
def Jw(a b c:BA):BA:=⟨#[99,117,114,47]⟩++a++⟨#[46]⟩++b++⟨#[58,50,44]⟩++c
def jS(u:Nat)(s:Int)(f:Nat):BA:=if u=0∨s<0∨1000000000000<s then⟨#[]⟩ else Jw (jd u) (jd s.toNat) (fw (eD f))
theorem om(u:Nat)(h:u<18446744073709551616):(jd u).size≤20:=by
 show(Lib.decDigits u).toArray.size≤20;rw[List.size_toArray,Lib.decDigits_length];exact Gx u h
theorem pS(f:Nat):(fw (eD f)).size≤31:=by
 show((eD f).map UInt8.ofNat).toArray.size≤31;rw[List.size_toArray,OW];exact j6 f 31
theorem pk{u:Nat}{s:Int}(f:Nat)(h:u=0∨s<0∨1000000000000<s):jS u s f=⟨#[]⟩:=OS h
theorem qZ{u s:Nat}(f:Nat)(z:u≠0)(A:s≤1000000000000):jS u (s:Int) f=Jw (jd u) (jd s) (fw (eD f)):=by
 unfold jS;rw[OR (by omega)];rfl
theorem zj(u:Nat)(s:Int)(f:Nat)(w:World)(Z:u<4294967296)(N:f<4294967296):
  Calls prog 82 #[.int .u32 (u:Int),.int .i64 s,.int .u32 (f:Int)] w fun e w'=>e= .returned (.string (jS u s f))∧Below w.heap.size w w':=by
 by_cases M:u=0∨s<0∨1000000000000<s
 ·rw[pk f M];by_cases L:u=0
  ·subst L;go_enter func82,ntmps82;go_wp2;go_ret;exact⟨rfl,OX _ _⟩
  ·have hi:¬(u:Int)=0:=(by omega);by_cases Y:s<0
   ·go_enter func82,ntmps82;go_wp2;go_ret;exact⟨rfl,OX _ _⟩
   ·have K:1000000000000<s:=(by omega);go_enter func82,ntmps82;go_wp2;go_ret;exact⟨rfl,OX _ _⟩
 ·obtain⟨k,rfl⟩:=Int.eq_ofNat_of_zero_le (show 0≤s by omega);have hi:¬(u:Int)=0:=(by omega);have V:¬(k:Int)<0:=(by omega);have K:¬(1000000000000:Int)<(k:Int):=(by omega);rw[qZ f (by omega) (by omega)];have E:=a8 (fun w=>ow u w (by omega));have G:=a8 (fun w=>ow k w (by omega));have I:=a8 (fun w=>kG f w N);have R:=om u (by omega);have z2:=om k (by omega);have U:=pS f;generalize jd u=a at E R⊢;generalize jd k=b at G z2⊢;generalize fw (eD f)=c at I U⊢;go_enter func82,ntmps82;go_wp2_with fail;refine(E.out w).mono ?_;rintro e O ⟨rfl,z⟩;go_wp2_with fail;refine(G.out O).mono ?_;rintro e Q ⟨rfl,A⟩;go_wp2_with fail;refine(I.out Q).mono ?_;rintro e w3 ⟨rfl,J⟩;go_wp2;go_ret;exact⟨rfl,(z.trans (A.mono z.size)).trans (J.mono (O0 z.size A.size))⟩
end
section
open Go.Lib
def mx(is:LN):List UInt8:=is.map fun i=>UInt8.ofNat (fo i)
def nm(u s:Nat)(is:LN):List UInt8:=[99,117,114,47]++(decDigits u++([46]++(decDigits s++([58,50,44]++mx is))))
structure xO(t:List UInt8)(u s:Nat)(is:LN):Prop where
 good:mo is
 u1:1≤u
 u2:u<4294967296
 s2:s≤1000000000000
 eq:t=nm u s is
def o6(t:List UInt8)(ok:Bool)(u s f:Nat):Prop:=(ok=true∧∃is,xO t u s is∧f=orB is)∨(ok=false∧u=0∧s=0∧f=0∧¬∃u s is,xO t u s is)
theorem uf{is:LN}(h:mo is):(mx is).map UInt8.toNat=is.map fo:=by
 unfold mx;rw[PP];refine List.map_congr_left fun i hi=> ?_;have:=ot i (h.2 i hi);show(UInt8.ofNat (fo i)).toNat=fo i;rw[UInt8.toNat_ofNat'];omega
theorem Lk{l:List UInt8}{is:LN}(h:l.map UInt8.toNat=is.map fo):l=mx is:=by
 have z:(l.map UInt8.toNat).map UInt8.ofNat=(is.map fo).map UInt8.ofNat:=(by rw[h]);rw[PP,PP] at z;have A:l.map (UInt8.ofNat∘UInt8.toNat)=l:=by
  conv=>rhs;rw[←List.map_id l]
  refine List.map_congr_left fun x _=> ?_;exact UInt8.ofNat_toNat
 rw[A] at z;exact z
theorem FV{t:List UInt8}{u s I s':Nat}{is z:LN}(h:xO t u s is)(G:xO t I s' z):u=I∧s=s'∧orB is=orB z:=by
 have e:=h.eq.symm.trans G.eq;unfold nm at e;have N:=List.append_cancel_left e;have J:=jo (decDigits u) (decDigits s++([58,50,44]++mx is)) 46 [] (kP EW);have L:=jo (decDigits I) (decDigits s'++([58,50,44]++mx z)) 46 [] (kP EW);rw[N] at J;have A:=J.symm.trans L;simp only[Prod.mk.injEq,and_true] at A;have K:=jo (decDigits s) (mx is) 58 [50,44] (kP Bl);have M:=jo (decDigits s') (mx z) 58 [50,44] (kP Bl);rw[A.2] at K;have E:=K.symm.trans M;simp only[Prod.mk.injEq,and_true] at E;refine⟨pF A.1,pF E.1,?_⟩;have O:is.map fo=z.map fo:=(by rw[←uf h.good,←uf G.good,E.2]);exact(zI (t:=is.map fo) (ok:=true) (ok':=true) (Or.inl ⟨rfl,is,h.good,rfl,rfl⟩) (Or.inl ⟨rfl,z,G.good,O,rfl⟩)).2
theorem wC{t:List UInt8}{ok ok':Bool}{u s f A s' I:Nat}(h:o6 t ok u s f)(J:o6 t ok' A s' I):ok=ok'∧u=A∧s=s'∧f=I:=by
 rcases h with⟨rfl,is,hi,rfl⟩|⟨rfl,rfl,rfl,rfl,N⟩
 ·rcases J with⟨rfl,G,z,rfl⟩|⟨rfl,rfl,rfl,rfl,E⟩
  ·obtain⟨K,L,M⟩:=FV hi z;exact⟨rfl,K,L,M⟩
  ·exact OH ⟨u,s,is,hi⟩ E
 ·rcases J with⟨rfl,G,z,rfl⟩|⟨rfl,rfl,rfl,rfl,E⟩
  ·exact OH ⟨A,s',G,z⟩ N
  ·exact⟨rfl,rfl,rfl,rfl⟩
theorem xu{u s:Nat}{is:LN}(E:1≤u)(z:s≤1000000000000)(A:mo is):(jS u (s:Int) (orB is)).data.toList=nm u s is:=by
 rw[qZ (orB is) (by omega) z,lR A];unfold Jw nm jd fw mx;simp[ByteArray.data_append]
end
theorem tv{t c z c':List UInt8}{b:UInt8}(h:pw t b a c ok)(e:t=z++b::c')(K:b∉z):ok=true∧a=z∧c=c':=by
 rcases h with⟨rfl,h,J⟩|⟨rfl,h,_,_⟩
 ·have E:=jo a c b [] J;have G:=jo z c' b [] K;have I:a++([b]++c)=z++([b]++c'):=by
   have:=h.symm.trans e;simpa using this
  rw[I] at E;have A:=E.symm.trans G;simp only[Prod.mk.injEq,and_true] at A;exact⟨rfl,A.1,A.2⟩
 ·exact OH (by rw[e];simp) h
theorem Iy{t:List UInt8}{is:LN}(h:xO t u s is):4≤t.length∧t.length≤100∧t.take 4=[99,117,114,47]:=by
 have z:=Lib.decDigits_length u;have A:=Lib.decDigits_length s;have E:=Jx 9 u (by have:=h.u2;omega);have G:=Jx 12 s (by have:=h.s2;omega);have I:(mx is).length≤31:=by
  have e:=OL List.length (lR h.good);have l:=j6 (orB is) 31;unfold mx;rw[OW] at e⊢;have:(eD (orB is)).length≤31:=l;omega
 rw[h.eq];unfold nm;refine⟨by simp,?_,rfl⟩;simp only[O1,Pf,PM];omega
theorem FJ{t:List UInt8}{is:LN}(h:xO t u s is):t.drop 4=(Lib.decDigits u++46::Lib.decDigits s)++58::50::44::mx is:=by
 rw[h.eq];unfold nm;simp
theorem An{t:List UInt8}{is:LN}(h:xO t u s is){c:List UInt8}(A:pw (t.drop 4) 58 a c ok):ok=true∧a=Lib.decDigits u++46::Lib.decDigits s∧c=50::44::mx is:=
 tv A (FJ h) (by
  intro z;rcases Pj.1 z with z|z
  ·exact kP Bl z
  ·rcases Pd.1 z with z|z
   ·cases z
   ·exact kP Bl z)
theorem Ix{c:List UInt8}(z:pw (Lib.decDigits u++46::Lib.decDigits s) 46 a c ok):ok=true∧a=Lib.decDigits u∧c=Lib.decDigits s:=tv z rfl (kP EW)
theorem Ap(z:u<10000000000000)(h:wy (Lib.decDigits u) n ok):ok=true∧n=u:=by
 rcases h with⟨rfl,e,_⟩|⟨rfl,h⟩
 ·exact⟨rfl,(pF e).symm⟩
 ·exact OH rfl (h u z)
theorem Ao{is:LN}(z:mo is)(h:kE ((mx is).map UInt8.toNat) ok f):ok=true∧f=orB is:=by
 rw[uf z] at h;exact zI h (Or.inl ⟨rfl,is,z,rfl,rfl⟩)
structure EB(t a c a2 c2:List UInt8)(ok ok2 k1 k2 fok:Bool)(n1 n2 f:Nat):Prop where
 cut:pw (t.drop 4) 58 a c ok
 dot:pw a 46 a2 c2 ok2
 num1:wy a2 n1 k1
 num2:wy c2 n2 k2
 let_:kE ((c.drop 2).map UInt8.toNat) fok f
theorem CX{t c L M:List UInt8}{E G I A:Bool}{J K:Nat}(h:EB t a c L M ok E G I A J K f){is:LN}(z:xO t u s is):E=true∧G=true∧I=true∧A=true∧J=u∧K=s∧f=orB is:=by
 obtain⟨_,rfl,rfl⟩:=An z h.cut;obtain⟨rfl,rfl,rfl⟩:=Ix h.dot;obtain⟨rfl,rfl⟩:=Ap (by have:=z.u2;omega) h.num1;obtain⟨rfl,rfl⟩:=Ap (by have:=z.s2;omega) h.num2;obtain⟨rfl,rfl⟩:=Ao z.good h.let_;exact⟨rfl,rfl,rfl,rfl,rfl,rfl,rfl⟩
theorem Fu{t c M N:List UInt8}{L Q R:Bool}(h:EB t a c M N ok L Q R true z A f)(I:1≤z)(U:z≤4294967295)(J:4≤t.length)(E:(jS z (A:Int) f).data.toList=t):o6 t true z A f:=by
 have G:A≤1000000000000:=by
  by_cases G:A≤1000000000000
  ·exact G
  ·rw[pk f (by omega)] at E;rw[←E] at J;simp at J
 rcases h.let_ with⟨_,is,K,V,rfl⟩|⟨O,_⟩
 ·rw[xu I G K] at E;exact Or.inl ⟨rfl,is,⟨K,I,by omega,G,E.symm⟩,rfl⟩
 ·cases O
theorem zT{t c M N:List UInt8}{I J K G:Bool}{E L:Nat}(h:EB t a c M N ok I J K G E L f)(z:I=false∨J=false∨K=false∨G=false∨E<1∨4294967295<E∨(jS E (L:Int) f).data.toList≠t):o6 t false 0 0 0:=by
 refine Or.inr ⟨rfl,rfl,rfl,rfl,?_⟩;rintro⟨u,s,is,A⟩;obtain⟨O,Q,R,U,V,Y,Z⟩:=CX h A;rcases z with z|z|z|z|z|z|z
 ·rw[O] at z;cases z
 ·rw[Q] at z;cases z
 ·rw[R] at z;cases z
 ·rw[U] at z;cases z
 ·have:=A.u1;omega
 ·have:=A.u2;omega
 ·rw[V,Y,Z] at z;exact z (by rw[xu A.u1 A.s2 A.good];exact A.eq.symm)
theorem DQ{t:List UInt8}(h:100<t.length∨t.length<4∨t.take 4≠[99,117,114,47]):o6 t false 0 0 0:=by
 refine Or.inr ⟨rfl,rfl,rfl,rfl,?_⟩;rintro⟨u,s,is,A⟩;obtain⟨E,G,z⟩:=Iy A;rcases h with h|h|h
 ·omega
 ·omega
 ·exact h z
theorem DP{t c:List UInt8}(G:pw (t.drop 4) 58 a c ok)(h:ok=false∨c.length<2∨c.take 2≠[50,44]):o6 t false 0 0 0:=by
 refine Or.inr ⟨rfl,rfl,rfl,rfl,?_⟩;rintro⟨u,s,is,E⟩;obtain⟨A,I,z⟩:=An E G;rcases h with h|h|h
 ·rw[A] at h;cases h
 ·rw[z] at h;simp at h;omega
 ·rw[z] at h;exact h rfl
section
open Go.Lib
def dT(x:List UInt8)(lo hi:Nat):Option Nat:=if x=decDigits (hZ 0 x)∧lo≤hZ 0 x∧hZ 0 x≤hi then some (hZ 0 x) else none
theorem eE{t:List UInt8}{lo hi n:Nat}(h:ni t lo hi n true):dT t lo hi=some n:=by
 rcases h with⟨_,z,A,E⟩|⟨h,_⟩
 ·have e:hZ 0 t=n:=(by rw[z,oq]);unfold dT;rw[e,OS ⟨z,A,E⟩]
 ·cases h
theorem gt{t:List UInt8}{lo hi n:Nat}(h:ni t lo hi n false):dT t lo hi=none:=by
 rcases h with⟨h,_⟩|⟨_,h⟩
 ·cases h
 ·unfold dT;rw[OR];rintro⟨z,A,E⟩;exact h _ A E z
theorem ey{t:List UInt8}{lo hi n:Nat}(h:dT t lo hi=some n):lo≤n∧n≤hi:=by
 unfold dT at h;split at h
 ·next hc=>simp only[OY] at h;subst h;exact hc.2
 ·cases h
abbrev gH:Nat:=4294967295
def gK(r:LN):List (List UInt8):=e9 32 (fw r).data.toList
structure IM where
 uid:Nat
 stamp:Nat
 flags:Nat
 size:Nat
 bare:Nat
structure IX where
 val:Nat
 next:Nat
 gen:Nat
 mails:List IM
def kv(ws:List (List UInt8))(s:IX):Option IX:=
 match ws with
 |[a,b,c,d]=>if a=[86] then
   (match dT b 1 gH,dT c 1 gH,dT d 0 99999 with
    |some v,some n,some g=>some ⟨v,n,g,s.mails⟩
    |_,_,_=>none) else none
 |_=>none
def jB(ms:List IM)(u:Nat):Option Nat:=ms.findIdx? (fun m=>m.uid==u)
def lB(ms:List IM)(u:Nat):Bool:=match ms.getLast? with
 |some m=>decide (m.uid<u)
 |none=>true
def pg(ws:List (List UInt8))(s:IX):Option IX:=
 match ws with
 |[_,b,c]=>(match dT b 1 gH,dT c 0 2147483647 with
   |some u,some f=>(match jB s.mails u with
    |some i=>some {s with mails:=s.mails.modify i (fun m=>{m with flags:=f})}
    |none=>none)
   |_,_=>none)
 |_=>none
def iQ(ws:List (List UInt8))(s:IX):Option IX:=
 match ws with
 |[_,b,c,d,e,f]=>(match dT b 1 (gH-1),dT c 0 1000000000000,dT d 0 2147483647,dT e 0 40000,dT f 0 1 with
   |some u,some t,some fl,some n,some br=>if lB s.mails u=true then some {s with next:=if s.next≤u then u+1 else s.next,mails:=s.mails++[⟨u,t,fl,n,br⟩]} else none
   |_,_,_,_,_=>none)
 |_=>none
def nh(ws:List (List UInt8))(s:IX):Option IX:=
 if ws.length=3∧ws.head? =some [70] then pg ws s
 else if ws.length=6∧ws.head? =some [65]∧s.mails.length<100 then iQ ws s
 else none
def dV(first:Bool)(ws:List (List UInt8))(s:IX):Option IX:=if first=true then kv ws s else nh ws s
def pN(first:Bool):List (LN)→IX→Option IX
 |[],s=>some s
 |r::rs,s=>match dV first (gK r) s with
  |none=>none
  |some s'=>pN false rs s'
def nN(recs:List (LN)):Option IX:=if recs=[] then none else pN true recs ⟨0,0,0,[]⟩
def dH(ms:List IM):Nat:=(ms.map (·.size)).sum
def eY(m:IM)(x:Nat×Nat×LN):Option (LN):=
 if x.2.1-x.1=m.size then(if m.bare=1 then(if x.2.2.getLast? =some 10 then some x.2.2.dropLast else none) else some x.2.2) else none
def eW(first:Bool)(ws:List (List UInt8))(c:Nat):Option Nat:=
 if first=true then(if ws=[[66]] then some c else none)
 else match ws with
  |[a,b]=>if a=[67] then(match dT b 1 gH with
    |some n=>if c<n then some n else none
    |none=>none) else none
  |_=>none
def sr(first:Bool):List (LN)→Nat→Option Nat
 |[],c=>some c
 |r::rs,c=>match eW first (gK r) c with
  |none=>none
  |some c'=>sr false rs c'
def f5(recs:List (LN)):Option Nat:=if recs=[] then none else sr true recs 0
open Classical in
noncomputable def eR(t:List UInt8):Option (Nat×Nat×Nat):=if h:∃c:Nat×Nat×Nat,o6 t true c.1 c.2.1 c.2.2 then some h.choose else none
theorem Cy{t:List UInt8}{u s f:Nat}(h:o6 t true u s f):eR t=some (u,s,f):=by
 have z:∃c:Nat×Nat×Nat,o6 t true c.1 c.2.1 c.2.2:=⟨(u,s,f),h⟩
 unfold eR;rw[dif_pos z];obtain⟨_,A,E,G⟩:=wC z.choose_spec h;rw[OY];exact Prod.ext A (Prod.ext E G)
theorem Fp{t:List UInt8}{u s f:Nat}(h:o6 t false u s f):eR t=none:=by
 unfold eR;rw[dif_neg];rintro⟨c,z⟩;have:=(wC z h).1;cases this
theorem ly{t:List UInt8}{ok:Bool}{u s f:Nat}(h:o6 t ok u s f):eR t=if ok=true then some (u,s,f) else none:=by
 cases ok with
 |true=>rw[Cy h,OS rfl]
 |false=>rw[Fp h,OR (by simp)]
structure LM where
 uid:Nat
 stamp:Nat
 flags:Nat
 body:LN
noncomputable def jJ(D:dO)(u:Nat):List BA:=(D.names.map (·.1)).filter fun nm=>match eR nm.data.toList with
 |some c=>c.1==u
 |none=>false
structure VW where
 code:Int
 kind:Int
 val:Nat
 next:Nat
 cur:Nat
 mails:List LM
def tb(c:Int):VW:=⟨c,0,0,0,0,[]⟩
def ej(g:Nat):BA:=⟨([109,98,111,120,46]++decDigits g).toArray⟩
structure UX where
 val:Nat
 next:Nat
 dead:LN
def kD(ws:List (List UInt8))(s:UX):Option UX:=
 match ws with
 |[a,b,c]=>if a=[86] then(match dT b 1 gH,dT c 1 gH with
   |some v,some n=>some ⟨v,n,s.dead⟩
   |_,_=>none) else none
 |_=>none
def fG(n:Nat):List (List UInt8)→Nat→LN→Option (LN)
 |[],_,ds=>some ds
 |x::xs,last,ds=>match dT x (last+1) (n-1) with
  |some u=>fG n xs u (ds++[u])
  |none=>none
def oZ(ws:List (List UInt8))(s:UX):Option UX:=
 match ws with
 |a::b::x::xs=>if a=[88] then(match dT b s.next gH with
   |some n=>(match fG n (x::xs) 0 s.dead with
    |some ds=>some ⟨s.val,n,ds⟩
    |none=>none)
   |none=>none) else none
 |_=>none
def d9(first:Bool)(ws:List (List UInt8))(s:UX):Option UX:=if first=true then kD ws s else oZ ws s
def qs(first:Bool):List (LN)→UX→Option UX
 |[],s=>some s
 |r::rs,s=>match d9 first (gK r) s with
  |none=>none
  |some s'=>qs false rs s'
def mm(recs:List (LN)):Option UX:=if recs=[] then none else qs true recs ⟨0,0,[]⟩
end
def Mr(t:List UInt8)(w:World)(e:Ending)(w':World):Prop:=∃(ok:Bool) (u s f:Nat),e= .returned (.agg #[.bool ok,.int .u32 (u:Int),.int .i64 (s:Int),.int .u32 (f:Int)])∧o6 t ok u s f∧Below w.heap.size w w'
theorem eC{fn:Func}{p:Tmp}(B:Nat)(W:World)(ok:Bool)(u s f:Int)(A:fn.results= #[.cell p 104])(E:tmps.getD p undef=pP B)(z:W.heap[B]? =some (.cells #[.bool ok,.int .u32 u,.int .i64 s,.int .u32 f] 104 (0,0))):
  (results fn tmps).run prog W= .ok (.agg #[.bool ok,.int .u32 u,.int .i64 s,.int .u32 f]) W:=
 results_cell_row (P:=prog) A _ _ B _ _ _ _ E z underlying104 rfl (by kernel_rfl)
theorem fQ{z A:Value}(h:w.heap[B]? =some (.cells #[z,A,E,G] 104 (0,0)))(v0 v1 v2 v3:Value):
  ((((w.setCell ⟨B,0,none⟩ v0).setCell ⟨B,1,none⟩ v1).setCell ⟨B,2,none⟩ v2).setCell ⟨B,3,none⟩ v3).heap[B]? =some (.cells #[v0,v1,v2,v3] 104 (0,0)):=by
 have I:=heap_setCell_same w B 0 _ _ v0 h;have J:=heap_setCell_same _ B 1 _ _ v1 I;have K:=heap_setCell_same _ B 2 _ _ v2 J;exact heap_setCell_same _ B 3 _ _ v3 K
structure zH(w W:World):Prop where
 r2:W.heap[w.heap.size]? =some (.cells #[.bool false,.int .u32 0,.int .i64 0,.int .u32 0] 104 (0,0))
 r3:W.heap[w.heap.size+1]? =some (.cells #[.bool false,.int .u32 0,.int .i64 0,.int .u32 0] 104 (0,0))
 bel:Below w.heap.size w W
theorem zH.below{W':World}(h:zH w W)(z:Below W.heap.size W W'):zH w W':=
 ⟨(z.block _ (OT h.r2)).trans h.r2,(z.block _ (OT h.r3)).trans h.r3,h.bel.trans (z.mono h.bel.size)⟩
theorem zH.start(w:World):zH w ((w.alloc (.cells #[.bool false,.int .u32 0,.int .i64 0,.int .u32 0] 104)).alloc (.cells #[.bool false,.int .u32 0,.int .i64 0,.int .u32 0] 104)):=by
 have E:=OP w (.cells #[.bool false,.int .u32 0,.int .i64 0,.int .u32 0] 104);have b1:=nAl w (.cells #[.bool false,.int .u32 0,.int .i64 0,.int .u32 0] 104);have A:(w.alloc (.cells #[.bool false,.int .u32 0,.int .i64 0,.int .u32 0] 104)).heap.size=w.heap.size+1:=(by simp);have z:=OP (w.alloc (.cells #[.bool false,.int .u32 0,.int .i64 0,.int .u32 0] 104)) (.cells #[.bool false,.int .u32 0,.int .i64 0,.int .u32 0] 104);rw[A] at z;refine⟨?_,z,b1.alloc b1.size _⟩;rw[Below.heap_alloc _ _ _ (by rw[A];omega)];exact E
theorem zH.back(h:zH w W)(v0 v1 v2 v3:Value):Below w.heap.size w ((((W.setCell ⟨w.heap.size,0,none⟩ v0).setCell ⟨w.heap.size,1,none⟩ v1).setCell ⟨w.heap.size,2,none⟩ v2).setCell ⟨w.heap.size,3,none⟩ v3):=
 (((h.bel.setCell (p:=⟨w.heap.size,0,none⟩) (OV _) _).setCell (p:=⟨w.heap.size,1,none⟩) (OV _) _).setCell (p:=⟨w.heap.size,2,none⟩) (OV _) _).setCell (p:=⟨w.heap.size,3,none⟩) (OV _) _
theorem Hs{b:List UInt8}:(a==b)=decide (a=b):=by
 by_cases h:a=b
 ·rw[ON h,h];simp
 ·rw[OM h];exact beq_eq_false_iff_ne.2 h
theorem pJ(s:BA)(k:Nat):(s.extract 0 k).toList=s.data.toList.take k:=by
 rw[OC,nJ];simp
theorem Ah(s:BA)(k:Nat):(s.extract k s.size).data.toList=s.data.toList.drop k:=by
 rw[nJ,Pc (by rw[O9,kW];omega)]
theorem pD{z A:Value}(h:W.heap[B]? =some (.cells #[z,A,E,G] 104 (0,0))):W.cell? ⟨B,0,none⟩=some z∧W.cell? ⟨B,1,none⟩=some A∧W.cell? ⟨B,2,none⟩=some E∧W.cell? ⟨B,3,none⟩=some G:=by
 refine⟨?_,?_,?_,?_⟩<;>rw[OK _ _ _ _ _ _ h]<;>rfl
theorem wJ{t c:List UInt8}{b:UInt8}(h:pw t b a c ok):a.length≤t.length∧c.length≤t.length:=by
 rcases h with⟨_,rfl,_⟩|⟨_,_,rfl,rfl⟩
 ·simp;omega
 ·simp
theorem kV(s:BA)(w:World)(hs:s.size≤1048576):
  Calls prog 51 #[.string s] w (Mr s.data.toList w):=by
 have aK:s.data.toList.length=s.size:=rfl;have J:=a8 (zH.start w);go_enter func51,ntmps51;by_cases h1:100<s.size
 ·have hi:(100:Int)<(s.size:Int):=(by omega);go_wp2;exact OJ (eC w.heap.size _ false 0 0 0 rfl rfl J.r2) rfl ⟨false,0,0,0,rfl,DQ (by omega),J.bel⟩
 ·have hi:¬(100:Int)<(s.size:Int):=(by omega);by_cases h4:s.size<4
  ·have aF:(s.size:Int)<4:=(by omega);go_wp2;exact OJ (eC w.heap.size _ false 0 0 0 rfl rfl J.r2) rfl ⟨false,0,0,0,rfl,DQ (by omega),J.bel⟩
  ·have aF:¬(s.size:Int)<4:=(by omega);by_cases hc:s.data.toList.take 4=[99,117,114,47]
   ·have aE:((s.extract 0 4).toList==[99,117,114,47])=true:=(by rw[pJ,hc];rfl);go_wp2_with fail;have L1:=a8 (Ah s 4);have z1:(s.extract 4 s.size).size≤1048576:=(by rw[←kW,L1.out,O9];omega);generalize s.extract 4 s.size=s4 at L1 z1⊢;generalize (w.alloc (.cells #[.bool false,.int .u32 0,.int .i64 0,.int .u32 0] 104)).alloc (.cells #[.bool false,.int .u32 0,.int .i64 0,.int .u32 0] 104)=W0 at J⊢;refine(qW s4 58 W0 z1).mono ?_;rintro e W1 ⟨x,y,ok,rfl,hcut,n,ao⟩;rw[L1.out] at hcut;have V:=J.below (W':=W1) (by rw[ao];exact OI (OX _ _) n);obtain⟨p0,p1,p2,p3⟩:=pD V.r2;obtain⟨q0,q1,q2,q3⟩:=pD V.r3;have fz:=fun j=>OO W1 w.heap.size j _ _ V.r2;have M:=wJ hcut;have zx:x.size≤1048576:=(by rw[←kW];have:=M.1;rw[O9] at this;omega);have zy:y.size≤1048576:=(by rw[←kW];have:=M.2;rw[O9] at this;omega);clear M;have U:=a8 hcut;have L:=a8 V;clear hcut V ao J L1;cases ok with
    |false=>
     go_wp2;exact OJ (eC w.heap.size _ false 0 0 0 rfl rfl (fQ L.r2 _ _ _ _)) rfl ⟨false,0,0,0,rfl,DP U (Or.inl rfl),L.back _ _ _ _⟩
    |true=>
     by_cases aH:y.size<2
     ·have aC:(y.size:Int)<2:=(by omega);go_wp2;exact OJ (eC w.heap.size _ false 0 0 0 rfl rfl (fQ L.r2 _ _ _ _)) rfl ⟨false,0,0,0,rfl,DP U (Or.inr (Or.inl aH)),L.back _ _ _ _⟩
     ·have aC:¬(y.size:Int)<2:=(by omega);by_cases hp:y.data.toList.take 2=[50,44]
      ·have aG:((y.extract 0 2).toList==[50,44])=true:=(by rw[pJ,hp];rfl);clear p0 p1 p2 p3 q0 q1 q2 q3 fz;go_wp2_with fail;refine(qW x 46 W1 zx).mono ?_;rintro e W2 ⟨x2,y2,ab,rfl,ac,n,ap⟩;have aj:=a8 (L.below (W':=W2) (by rw[ap];exact OI (OX _ _) n));have M:=wJ ac;have aI:x2.size≤1048576:=O0 M.1 zx;have aJ:y2.size≤1048576:=O0 M.2 zx;have HD:=a8 ac;clear ap M ac L;go_wp2_with fail;refine(mR x2 W2 aI).mono ?_;rintro e W3 ⟨A,k1,rfl,av,aq⟩;have ah:=a8 av;have ak:=a8 (aj.below aq);clear aj av aq;go_wp2_with fail;refine(mR y2 W3 aJ).mono ?_;rintro e W4 ⟨G,k2,rfl,aw,ar⟩;have ai:=a8 aw;have al:=a8 (ak.below ar);clear ak aw ar;go_wp2_with fail;have L2:=a8 (Ah y 2);have aA:(y.extract 2 y.size).size≤1048576:=(by rw[←kW,L2.out,O9,kW];omega);generalize y.extract 2 y.size=y3 at L2 aA⊢;refine(oK y3 W4 aA).mono ?_;rintro e K ⟨I,f,rfl,ad,au⟩;have am:=al.below au;have Y:=am.below ((OX _ _).alloc (OV _) (.cells #[.bool I,uI f] 154));have ag:kE ((y.data.toList.drop 2).map UInt8.toNat) I f:=(by rw[←L2.out];exact ad);have N:=a8 (EB.mk U HD ah ai ag);have aB:f<4294967296:=by
        rcases ad with⟨_,is,hg,_,rfl⟩|⟨_,rfl,_⟩
        ·exact ux hg
        ·decide
       have af:=OP K (.cells #[.bool I,uI f] 154);have e0:(K.alloc (.cells #[.bool I,uI f] 154)).cell? ⟨K.heap.size,0,none⟩=some (.bool I):=(by rw[OK _ _ _ _ _ _ af];rfl);have e1:(K.alloc (.cells #[.bool I,uI f] 154)).cell? ⟨K.heap.size,1,none⟩=some (uI f):=(by rw[OK _ _ _ _ _ _ af];rfl);obtain⟨p0,p1,p2,p3⟩:=pD Y.r2;obtain⟨q0,q1,q2,q3⟩:=pD Y.r3;have fz:=fun j=>OO _ w.heap.size j _ _ Y.r2;have E:=a8 Y;clear au al am ad ag U HD ah ai L2 Y af;by_cases hg:ab=true∧k1=true∧k2=true∧I=true∧1≤A∧A≤4294967295
       ·obtain⟨rfl,rfl,rfl,rfl,g1,g2⟩:=hg;have an:¬(A:Int)<1:=(by omega);have aD:¬(4294967295:Int)<(A:Int):=(by omega);clear p0 p1 p2 p3 q0 q1 q2 q3 fz;go_wp2_with fail;have ay:(K.alloc (.cells #[.bool true,uI f] 154)).heap.size=K.heap.size+1:=(by simp);have R:=OP (K.alloc (.cells #[.bool true,uI f] 154)) (.cells #[.bool true,uI A,iI G,uI f] 104);rw[ay] at R;have T7:=E.below ((OX _ _).alloc (OV _) (.cells #[.bool true,uI A,iI G,uI f] 104));clear e0 e1 E ay;generalize (K.alloc (.cells #[.bool true,uI f] 154)).alloc (.cells #[.bool true,uI A,iI G,uI f] 104)=W7 at R T7⊢;refine(zj A (G:Int) f W7 (by omega) aB).mono ?_;rintro e W8 ⟨rfl,ae⟩;have Z:=T7.below ae;have az:=(ae.block _ (OT R)).trans R;obtain⟨p0,p1,p2,p3⟩:=pD Z.r2;obtain⟨q0,q1,q2,q3⟩:=pD Z.r3;obtain⟨o0,o1,o2,o3⟩:=pD az;have fz:=fun j=>OO _ w.heap.size j _ _ Z.r2;have aa:=a8 Z;have hq:((jS A (G:Int) f).toList==s.toList)=decide ((jS A (G:Int) f).data.toList=s.data.toList):=(by rw[OC,OC,Hs]);clear T7 Z R az ae;by_cases Q:(jS A (G:Int) f).data.toList=s.data.toList
        ·have HY:=a8 (Fu N g1 g2 (by omega) Q);rw[ON Q] at hq;clear Q N;generalize jS A (G:Int) f=z at hq⊢;go_wp2;exact OJ (eC w.heap.size _ true A G f rfl rfl (fQ aa.r2 _ _ _ _)) rfl ⟨true,A,G,f,rfl,HY,aa.back _ _ _ _⟩
        ·have HY:=a8 (zT N (Or.inr (Or.inr (Or.inr (Or.inr (Or.inr (Or.inr Q)))))));rw[OM Q] at hq;clear Q N;generalize jS A (G:Int) f=z at hq⊢;go_wp2;exact OJ (eC w.heap.size _ false 0 0 0 rfl rfl (fQ aa.r2 _ _ _ _)) rfl ⟨false,0,0,0,rfl,HY,aa.back _ _ _ _⟩
       ·have ax:ab=false∨k1=false∨k2=false∨I=false∨A<1∨4294967295<A:=by
         cases ab<;>cases k1<;>cases k2<;>cases I<;>simp at hg⊢<;>omega
        have O:=a8 (zT N (by
         rcases ax with h|h|h|h|h|h
         ·exact Or.inl h
         ·exact Or.inr (Or.inl h)
         ·exact Or.inr (Or.inr (Or.inl h))
         ·exact Or.inr (Or.inr (Or.inr (Or.inl h)))
         ·exact Or.inr (Or.inr (Or.inr (Or.inr (Or.inl h))))
         ·exact Or.inr (Or.inr (Or.inr (Or.inr (Or.inr (Or.inl h)))))))
        clear ax N;cases ab with
        |false=>
         go_wp2;exact OJ (eC w.heap.size _ false 0 0 0 rfl rfl (fQ E.r2 _ _ _ _)) rfl ⟨false,0,0,0,rfl,O,E.back _ _ _ _⟩
        |true=>
         cases k1 with
         |false=>
          go_wp2;exact OJ (eC w.heap.size _ false 0 0 0 rfl rfl (fQ E.r2 _ _ _ _)) rfl ⟨false,0,0,0,rfl,O,E.back _ _ _ _⟩
         |true=>
          cases k2 with
          |false=>
           go_wp2;exact OJ (eC w.heap.size _ false 0 0 0 rfl rfl (fQ E.r2 _ _ _ _)) rfl ⟨false,0,0,0,rfl,O,E.back _ _ _ _⟩
          |true=>
           cases I with
           |false=>
            go_wp2;exact OJ (eC w.heap.size _ false 0 0 0 rfl rfl (fQ E.r2 _ _ _ _)) rfl ⟨false,0,0,0,rfl,O,E.back _ _ _ _⟩
           |true=>
            by_cases g1:A<1
            ·have an:(A:Int)<1:=(by omega);go_wp2;exact OJ (eC w.heap.size _ false 0 0 0 rfl rfl (fQ E.r2 _ _ _ _)) rfl ⟨false,0,0,0,rfl,O,E.back _ _ _ _⟩
            ·have an:¬(A:Int)<1:=(by omega);have aD:(4294967295:Int)<(A:Int):=(by simp at hg;omega);go_wp2;exact OJ (eC w.heap.size _ false 0 0 0 rfl rfl (fQ E.r2 _ _ _ _)) rfl ⟨false,0,0,0,rfl,O,E.back _ _ _ _⟩
      ·have aG:((y.extract 0 2).toList==[50,44])=false:=(by rw[pJ];exact beq_eq_false_iff_ne.2 hp);go_wp2;exact OJ (eC w.heap.size _ false 0 0 0 rfl rfl (fQ L.r2 _ _ _ _)) rfl ⟨false,0,0,0,rfl,DP U (Or.inr (Or.inr hp)),L.back _ _ _ _⟩
   ·have aE:((s.extract 0 4).toList==[99,117,114,47])=false:=(by rw[pJ];exact beq_eq_false_iff_ne.2 hc);go_wp2;exact OJ (eC w.heap.size _ false 0 0 0 rfl rfl J.r2) rfl ⟨false,0,0,0,rfl,DQ (Or.inr (Or.inr hc)),J.bel⟩
structure XM where
 uid:Nat
 stamp:Nat
 flags:Nat
 body:LN
 entry:LN
 stamp0:Nat
 flags0:Nat
 bare:Nat
 size:Nat
 moved:Bool
 card:BA
def xm0(m:IM):XM:=⟨m.uid,0,0,[],[],m.stamp,m.flags,m.bare,m.size,false,⟨#[]⟩⟩
def EA(text:LN)(m:IM)(x:Nat×Nat×LN)(b:LN):XM:=⟨m.uid,m.stamp,m.flags,b,(text.take x.2.1).drop x.1,m.stamp,m.flags,m.bare,m.size,false,⟨#[]⟩⟩
def ke(text:LN):List IM→List (Nat×Nat×LN)→Option (List XM)
 |[],[]=>some []
 |m::ms,x::xs=>(match eY m x,ke text ms xs with
  |some b,some bs=>some (EA text m x b::bs)
  |_,_=>none)
 |_,_=>none
def fd(ms:List IM)(f:Bool×LN):Option (List XM):=
 if f.1=true∧dH ms≤f.2.length then(match iK (f.2.take (dH ms)) with
  |some xs=>ke f.2 ms xs
  |none=>none) else none
noncomputable def mA(D:dO)(c:Nat)(m:XM):Option XM:=
 if c<m.uid then some m
 else match jJ D m.uid with
  |[nm]=>(match eR nm.data.toList with
   |some k=>some {m with stamp:=k.2.1,flags:=k.2.2,body:=(b9 D nm).2,moved:=true,card:=nm}
   |none=>none)
  |_=>none
noncomputable def gT(D:dO)(c:Nat):List XM→Option (List XM)
 |[]=>some []
 |m::ms=>match mA D c m,gT D c ms with
  |some x,some xs=>some (x::xs)
  |_,_=>none
structure SX where
 code:Int
 kind:Int
 val:Nat
 next:Nat
 cur:Nat
 gen:Nat
 taken:Nat
 mails:List XM
 dead:LN
def gL(c:Int):SX:=⟨c,0,0,0,0,0,0,[],[]⟩
def mf(s:SX):SX:=if s.mails.all (fun m=>decide (m.body.length≤8000))=true then s else gL 3
abbrev fh:BA:=⟨#[99,117,114,115,111,114]⟩
abbrev ixN:BA:=⟨#[105,110,100,101,120]⟩
abbrev uxN:BA:=⟨#[117,105,100,108,105,115,116]⟩
noncomputable def ew(D:dO)(idx:LN):SX:=
 match nN (dP idx).1 with
 |none=>gL 3
 |some s=>match fd s.mails (b9 D (ej s.gen)) with
  |none=>gL 3
  |some ms=>if(b9 D fh).1=true then
    (match f5 (dP (b9 D fh).2).1 with
     |none=>gL 3
     |some c=>match gT D c ms with
      |none=>gL 3
      |some ms'=>mf ⟨0,2,s.val,s.next,c,s.gen,dH s.mails,ms',[]⟩)
   else mf ⟨0,1,s.val,s.next,0,s.gen,dH s.mails,ms,[]⟩
noncomputable def mr(D:dO)(nm:BA)(k:Nat×Nat×Nat):XM:=⟨k.1,k.2.1,k.2.2,(b9 D nm).2,[],0,0,0,0,true,nm⟩
noncomputable def ie(D:dO)(dead:LN)(ns:List BA):List XM:=ns.filterMap fun nm=>match eR nm.data.toList with
 |some k=>if k.1∈dead then none else some (mr D nm k)
 |none=>none
noncomputable def fO(D:dO)(data:LN):SX:=
 match mm (dP data).1 with
 |none=>gL 3
 |some s=>match goG XM.uid (fun m=>m.body.length) (ie D s.dead (D.names.map (·.1))) (s.next,[]) with
  |none=>gL 3
  |some (n,ms)=>⟨0,3,s.val,n,0,0,0,ms,s.dead⟩
open Classical in
noncomputable def eu(D:dO):SX:=
 if eM D then
  (if(b9 D ixN).1=true then ew D (b9 D ixN).2
   else if(b9 D uxN).1=true then fO D (b9 D uxN).2
   else gL 2)
 else gL 1
def lmX(m:XM):LM:=⟨m.uid,m.stamp,m.flags,m.body⟩
def jg(s:SX):VW:=if s.code=0 then⟨0,s.kind,s.val,s.next,s.cur,s.mails.map lmX⟩ else tb s.code
theorem pG{text:LN}:∀{ms:List IM} {xs:List (Nat×Nat×LN)} {r:List XM},ke text ms xs=some r→ms.length=xs.length∧r.length=ms.length
 |[],[],r,h=>by simp only[ke,OY] at h;subst h;exact⟨rfl,rfl⟩
 |[],x::xs,r,h=>by cases h
 |m::ms,[],r,h=>by cases h
 |m::ms,x::xs,r,h=>by
  unfold ke at h;cases hb:eY m x with
  |none=>rw[hb] at h;cases h
  |some b=>
   rw[hb] at h;cases he:ke text ms xs with
   |none=>rw[he] at h;cases h
   |some q=>
    rw[he] at h;simp only[OY] at h;subst h;obtain⟨z,A⟩:=pG he;exact⟨by simp[z],by simp[A]⟩
theorem tE{text:LN}:∀{ms:List IM} {xs:List (Nat×Nat×LN)},ms.length≠xs.length→ke text ms xs=none:=fun{ms xs} h=>by
 cases he:ke text ms xs with
 |none=>rfl
 |some r=>exact OH (pG he).1 h
theorem qM{text:LN}:∀{ms:List IM} {xs:List (Nat×Nat×LN)} {i:Nat} {m:IM} {x:Nat×Nat×LN},ms[i]? =some m→xs[i]? =some x→eY m x=none→ke text ms xs=none
 |[],_,i,m,x,h,_,_=>by simp at h
 |m::ms,[],i,m',x,_,h,_=>by simp at h
 |m::ms,y::xs,0,m',x,h1,h2,hb=>by
  simp only[Py,OY] at h1 h2;subst h1 h2;unfold ke;rw[hb]
 |m::ms,y::xs,i+1,m',x,h1,h2,hb=>by
  simp only[Px] at h1 h2;unfold ke;rw[qM h1 h2 hb];cases eY m y<;>rfl
theorem tC{text:LN}:∀{ms:List IM} {xs:List (Nat×Nat×LN)} {r:List XM},ms.length=xs.length→r.length=ms.length→(∀i (h1:i<ms.length) (h2:i<xs.length) (K:i<r.length),∃b,eY ms[i] xs[i]=some b∧r[i]=EA text ms[i] xs[i] b)→ke text ms xs=some r
 |[],[],[],_,_,_=>rfl
 |[],[],_::_,_,h,_=>by cases h
 |[],_::_,_,h,_,_=>by cases h
 |_::_,[],_,h,_,_=>by cases h
 |_::_,_::_,[],_,h,_=>by cases h
 |m::ms,x::xs,y::r,h1,h2,h=>by
  obtain⟨b,z,A⟩:=h 0 (by simp) (by simp) (by simp);simp only[List.getElem_cons_zero] at z A;have J:=tC (text:=text) (ms:=ms) (xs:=xs) (r:=r) (by simpa using h1) (by simpa using h2) (fun i E G I=>by
   have:=h (i+1) (by simpa using E) (by simpa using G) (by simpa using I);simpa using this)
  unfold ke;rw[z,J,A]
theorem LV{t:List UInt8}(h:Lib.hasPrefix t [99,117,114,47]=true):t=[99,117,114,47]++Lib.trimPrefix t [99,117,114,47]:=by
 unfold Lib.trimPrefix;rw[OS h];unfold Lib.hasPrefix at h;obtain⟨r,z⟩:=List.isPrefixOf_iff_prefix.1 h;rw[←z];simp
theorem JN(r:List UInt8):Lib.hasPrefix ([99,117,114,47]++r) [99,117,114,47]=true∧Lib.trimPrefix ([99,117,114,47]++r) [99,117,114,47]=r:=by
 have h:Lib.hasPrefix ([99,117,114,47]++r) [99,117,114,47]=true:=by
  unfold Lib.hasPrefix;exact List.isPrefixOf_iff_prefix.2 ⟨r,rfl⟩
 refine⟨h,?_⟩;unfold Lib.trimPrefix;rw[OS h];simp
structure zE(t r1 a r2 st le:List UInt8)(b1 d sg:Bool):Prop where
 pre:b1=Lib.hasPrefix t [99,117,114,47]
 rest:r1=Lib.trimPrefix t [99,117,114,47]
 dot:Lib.cut r1 [46]=(a,r2,d)
 sign:Lib.cut r2 [58,50,44]=(st,le,sg)
theorem tP{t N O st I:List UInt8}{b1 d J:Bool}(h:zE t N a O st I b1 d J){is:LN}(M:xO t u s is):b1=true∧d=true∧J=true∧a=Lib.decDigits u∧st=Lib.decDigits s∧I=mx is:=by
 have z:=JN (Lib.decDigits u++([46]++(Lib.decDigits s++([58,50,44]++mx is))));have e:t=[99,117,114,47]++(Lib.decDigits u++([46]++(Lib.decDigits s++([58,50,44]++mx is)))):=M.eq;rw[←e] at z;have K:=jo (Lib.decDigits u) (Lib.decDigits s++([58,50,44]++mx is)) 46 [] (kP EW);have L:=jo (Lib.decDigits s) (mx is) 58 [50,44] (kP Bl);have G:=h.dot;rw[h.rest,z.2] at G;have A:=G.symm.trans K;simp only[Prod.mk.injEq] at A;obtain⟨rfl,rfl,rfl⟩:=A;have E:=h.sign.symm.trans L;simp only[Prod.mk.injEq] at E;obtain⟨rfl,rfl,rfl⟩:=E;exact⟨h.pre.trans z.1,rfl,rfl,rfl,rfl,rfl⟩
theorem IR{t L M st K:List UInt8}{b1 d A:Bool}(h:zE t L a M st K b1 d A)(z:b1=false∨d=false∨A=false):o6 t false 0 0 0:=by
 refine Or.inr ⟨rfl,rfl,rfl,rfl,?_⟩;rintro⟨u,s,is,J⟩;obtain⟨E,G,I,_⟩:=tP h J;rcases z with z|z|z
 ·rw[E] at z;cases z
 ·rw[G] at z;cases z
 ·rw[I] at z;cases z
theorem FR{t R U st J:List UInt8}{b1 d V G I E:Bool}{O Q:Nat}(h:zE t R a U st J b1 d V)(K:vq a 1 4294967295 O G)(L:vq st 0 1000000000000 Q I)(M:kE (J.map UInt8.toNat) E f)(N:G=false∨I=false∨E=false):o6 t false 0 0 0:=by
 refine Or.inr ⟨rfl,rfl,rfl,rfl,?_⟩;rintro⟨u,s,is,A⟩;obtain⟨_,_,_,rfl,rfl,rfl⟩:=tP h A;rcases N with rfl|rfl|rfl
 ·rcases K with⟨z,_⟩|⟨_,_,z⟩
  ·cases z
  ·exact z u A.u1 (by have:=A.u2;omega) rfl
 ·rcases L with⟨z,_⟩|⟨_,_,z⟩
  ·cases z
  ·exact z s (O4 _) A.s2 rfl
 ·have:=(Ao A.good M).1;cases this
theorem Dl{t M G st L:List UInt8}{E:Nat}(h:zE t M a G st L true true true)(Y:vq a 1 4294967295 A true)(Z:vq st 0 1000000000000 E true)(h3:kE (L.map UInt8.toNat) true f):o6 t true A E f∧A≤4294967295∧E≤1000000000000:=by
 rcases Y with⟨_,ha,N,O⟩|⟨z,_⟩
 ·rcases Z with⟨_,R,_,I⟩|⟨z,_⟩
  ·rcases h3 with⟨_,is,hg,Q,rfl⟩|⟨z,_⟩
   ·have J:=LV h.pre.symm;rw[←h.rest] at J;have K:=zY (s:=M) (sep:=[46]) (by rw[h.dot]);rw[h.dot] at K;have U:=zY (s:=G) (sep:=[58,50,44]) (by rw[h.sign]);rw[h.sign] at U;have V:=Lk Q;refine⟨Or.inl ⟨rfl,is,⟨hg,N,by omega,I,?_⟩,rfl⟩,O,I⟩;unfold nm;rw[←ha,←R,←V,J];congr 1;rw[K];show a++([46]++G)=_;congr 2
   ·cases z
  ·cases z
 ·cases z
theorem EH(s sep:List UInt8):(Lib.cut s sep).1.length≤s.length∧(Lib.cut s sep).2.1.length≤s.length:=by
 unfold Lib.cut;split
 ·simp;omega
 ·simp
theorem GN(s p:List UInt8):(Lib.trimPrefix s p).length≤s.length:=by
 unfold Lib.trimPrefix;split<;>simp
structure One(w W:World):Prop where
 r2:W.heap[w.heap.size]? =some (.cells #[.bool false,.int .u32 0,.int .i64 0,.int .u32 0] 104 (0,0))
 bel:Below w.heap.size w W
 env:Env W
theorem One.below{W':World}(h:One w W)(z:Below W.heap.size W W'):One w W':=
 ⟨(z.block _ (OT h.r2)).trans h.r2,h.bel.trans (z.mono h.bel.size),h.env.below z⟩
theorem One.back(h:One w W)(v0 v1 v2 v3:Value):Below w.heap.size w ((((W.setCell ⟨w.heap.size,0,none⟩ v0).setCell ⟨w.heap.size,1,none⟩ v1).setCell ⟨w.heap.size,2,none⟩ v2).setCell ⟨w.heap.size,3,none⟩ v3):=
 (((h.bel.setCell (p:=⟨w.heap.size,0,none⟩) (OV _) _).setCell (p:=⟨w.heap.size,1,none⟩) (OV _) _).setCell (p:=⟨w.heap.size,2,none⟩) (OV _) _).setCell (p:=⟨w.heap.size,3,none⟩) (OV _) _
theorem ym(s:BA)(w:World)(hs:s.size≤1048576)(hE:Env w):
  Calls prog 145 #[.string s] w (Mr s.data.toList w):=by
 have V:One w (w.alloc (.cells #[.bool false,.int .u32 0,.int .i64 0,.int .u32 0] 104)):=
  ⟨OP w _,nAl w _,hE.below (nAl w _)⟩
 go_enter func145,ntmps145;go_wp2_with fail;generalize w.alloc (.cells #[.bool false,.int .u32 0,.int .i64 0,.int .u32 0] 104)=W0 at V⊢;refine(strings_CutPrefix s ⟨#[99,117,114,47]⟩ W0).mono ?_;rintro e W1 ⟨rfl,rfl⟩;have I1:Hid (Lib.hasPrefix s.data.toList [99,117,114,47]=Lib.hasPrefix s.data.toList [99,117,114,47]):=rfl;have l1:=GN s.data.toList [99,117,114,47];rw[kW] at l1;obtain⟨I,R⟩:∃I,I=Lib.trimPrefix s.data.toList [99,117,114,47]:=⟨_,rfl⟩
 obtain⟨b1,ac⟩:∃b1,b1=Lib.hasPrefix s.data.toList [99,117,114,47]:=⟨_,rfl⟩
 rw[←R] at l1;have HR:=a8 R;have HB:=a8 ac;rw[show Lib.trimPrefix s.data.toList (⟨#[99,117,114,47]⟩:BA).data.toList=I from R.symm,show Lib.hasPrefix s.data.toList (⟨#[99,117,114,47]⟩:BA).data.toList=b1 from ac.symm];clear R ac I1 hE;go_wp2_with fail;obtain⟨m,N⟩:=V.env.max;refine(strings_Cut ⟨I.toArray⟩ ⟨#[46]⟩ m W1 (by show I.toArray.size<_;simp;omega) N).mono ?_;rintro e W2 ⟨rfl,n,ai⟩;have O2:=V.below (W':=W2) (by rw[ai];exact OI (OX _ _) n);have l2:=EH I [46];rw[show Lib.cut (⟨I.toArray⟩:BA).data.toList (⟨#[46]⟩:BA).data.toList=Lib.cut I [46] from rfl];obtain⟨⟨a,L,d⟩,ad⟩:∃x,x=Lib.cut I [46]:=⟨_,rfl⟩
 rw[←ad] at l2⊢;have ag:=a8 ad.symm;clear ai ad N m V;simp only[] at l2⊢;go_wp2_with fail;obtain⟨m,N⟩:=O2.env.max;refine(strings_Cut ⟨L.toArray⟩ ⟨#[58,50,44]⟩ m W2 (by show L.toArray.size<_;simp;omega) N).mono ?_;rintro e W3 ⟨rfl,n,aj⟩;have Y:=O2.below (W':=W3) (by rw[aj];exact OI (OX _ _) n);have l3:=EH L [58,50,44];rw[show Lib.cut (⟨L.toArray⟩:BA).data.toList (⟨#[58,50,44]⟩:BA).data.toList=Lib.cut L [58,50,44] from rfl];obtain⟨⟨st,le,sg⟩,ae⟩:∃x,x=Lib.cut L [58,50,44]:=⟨_,rfl⟩
 rw[←ae] at l3⊢;have K:=a8 (zE.mk HB HR ag ae.symm);clear aj ae N m O2 HR HB ag;simp only[] at l3⊢;obtain⟨p0,p1,p2,p3⟩:=pD Y.r2;have fz:=fun j=>OO _ w.heap.size j _ _ Y.r2;have z:=a8 Y;clear Y;by_cases G:b1=true∧d=true∧sg=true
 ·obtain⟨rfl,rfl,rfl⟩:=G;clear p0 p1 p2 p3 fz;go_wp2_with fail;have R1:=kA ⟨a.toArray⟩ 1 4294967295 W3 z.env (by show a.toArray.size≤_;simp;omega) (by omega);refine(show Calls _ _ #[_,.int .u64 1,.int .u64 4294967295] _ _ from R1).mono ?_;rintro e W4 ⟨n1,k1,rfl,an,ak⟩;have O:=a8 (show vq a 1 4294967295 n1 k1 from an);have ab:=a8 (z.below ak);clear an ak z R1;go_wp2_with fail;have R2:=kA ⟨st.toArray⟩ 0 1000000000000 W4 ab.env (by show st.toArray.size≤_;simp;omega) (by omega);refine(show Calls _ _ #[_,.int .u64 0,.int .u64 1000000000000] _ _ from R2).mono ?_;rintro e W5 ⟨n2,k2,rfl,ao,al⟩;have Q:=a8 (show vq st 0 1000000000000 n2 k2 from ao);have ah:=a8 (ab.below al);clear ao al ab R2;go_wp2_with fail;refine(oJ ⟨le.toArray⟩ W5).mono ?_;rintro e M ⟨A,f,rfl,aa,am⟩;have U:=a8 (show kE (le.map UInt8.toNat) A f from aa);have ap:f<4294967296:=by
   rcases aa with⟨_,is,G,_,rfl⟩|⟨_,rfl,_⟩
   ·exact ux G
   ·decide
  have Z:=(ah.below am).below ((OX _ _).alloc (OV _) (.cells #[.bool A,uI f] 154));have af:=OP M (.cells #[.bool A,uI f] 154);have e0:(M.alloc (.cells #[.bool A,uI f] 154)).cell? ⟨M.heap.size,0,none⟩=some (.bool A):=(by rw[OK _ _ _ _ _ _ af];rfl);have e1:(M.alloc (.cells #[.bool A,uI f] 154)).cell? ⟨M.heap.size,1,none⟩=some (uI f):=(by rw[OK _ _ _ _ _ _ af];rfl);obtain⟨p0,p1,p2,p3⟩:=pD Z.r2;have fz:=fun j=>OO _ w.heap.size j _ _ Z.r2;have J:=a8 Z;clear Z af am ah aa;by_cases G:k1=true∧k2=true∧A=true
  ·obtain⟨rfl,rfl,rfl⟩:=G;obtain⟨hA,g1,g2⟩:=Dl K O Q U.out;have E:=a8 hA;have aq:(n1:Int)≤4294967295:=(by omega);have ar:(n2:Int)≤1000000000000:=(by omega);clear hA K O Q U;go_wp2;exact OJ (eC w.heap.size _ true n1 n2 f rfl rfl (fQ J.r2 _ _ _ _)) rfl ⟨true,n1,n2,f,rfl,E,J.back _ _ _ _⟩
  ·have E:=a8 (FR K O Q U (by cases k1<;>cases k2<;>cases A<;>simp at G⊢));clear K O Q U;cases k1 with
   |false=>
    go_wp2;exact OJ (eC w.heap.size _ false 0 0 0 rfl rfl (fQ J.r2 _ _ _ _)) rfl ⟨false,0,0,0,rfl,E,J.back _ _ _ _⟩
   |true=>
    cases k2 with
    |false=>
     go_wp2;exact OJ (eC w.heap.size _ false 0 0 0 rfl rfl (fQ J.r2 _ _ _ _)) rfl ⟨false,0,0,0,rfl,E,J.back _ _ _ _⟩
    |true=>
     cases A with
     |false=>
      go_wp2;exact OJ (eC w.heap.size _ false 0 0 0 rfl rfl (fQ J.r2 _ _ _ _)) rfl ⟨false,0,0,0,rfl,E,J.back _ _ _ _⟩
     |true=>simp at G
 ·have E:=a8 (IR K (by cases b1<;>cases d<;>cases sg<;>simp at G⊢));clear K;cases b1 with
  |false=>
   go_wp2;exact OJ (eC w.heap.size _ false 0 0 0 rfl rfl (fQ z.r2 _ _ _ _)) rfl ⟨false,0,0,0,rfl,E,z.back _ _ _ _⟩
  |true=>
   cases d with
   |false=>
    go_wp2;exact OJ (eC w.heap.size _ false 0 0 0 rfl rfl (fQ z.r2 _ _ _ _)) rfl ⟨false,0,0,0,rfl,E,z.back _ _ _ _⟩
   |true=>
    cases sg with
    |false=>
     go_wp2;exact OJ (eC w.heap.size _ false 0 0 0 rfl rfl (fQ z.r2 _ _ _ _)) rfl ⟨false,0,0,0,rfl,E,z.back _ _ _ _⟩
    |true=>simp at G
section
open Go.Lib
theorem kR(u:Nat)(s:Int)(f:Nat)(w:World)(hu:u<4294967296)(Q:f<4294967296)(A:TabIs prog w "internal/strconv.uint64pow10" .u64 Lib.pow10Tab):
  Calls prog 58 #[.int .u32 (u:Int),.int .i64 s,.int .u32 (f:Int)] w fun e w'=>e= .returned (.string (jS u s f))∧Below w.heap.size w w':=by
 by_cases O:u=0∨s<0∨1000000000000<s
 ·rw[pk f O];by_cases N:u=0
  ·subst N;go_enter func58,ntmps58;go_wp2;go_ret;exact⟨rfl,OX _ _⟩
  ·have hi:¬(u:Int)=0:=(by omega);by_cases hs:s<0
   ·go_enter func58,ntmps58;go_wp2;go_ret;exact⟨rfl,OX _ _⟩
   ·have M:1000000000000<s:=(by omega);go_enter func58,ntmps58;go_wp2;go_ret;exact⟨rfl,OX _ _⟩
 ·obtain⟨k,rfl⟩:=Int.eq_ofNat_of_zero_le (show 0≤s by omega);have hi:¬(u:Int)=0:=(by omega);have Z:¬(k:Int)<0:=(by omega);have M:¬(1000000000000:Int)<(k:Int):=(by omega);rw[qZ f (by omega) (by omega)];have G:=a8 (fun w h=>lY u w (by omega) h);have I:=a8 (fun w h=>rh k w (by omega) h);have J:=a8 (fun w=>oI f w Q);have K:=a8 A;have V:=om u (by omega);have z2:=om k (by omega);have Y:=pS f;clear A;generalize jd u=a at G V⊢;generalize jd k=b at I z2⊢;generalize fw (eD f)=c at J Y⊢;go_enter func58,ntmps58;go_wp2_with fail;refine(G.out w K).mono ?_;rintro e R ⟨rfl,z⟩;go_wp2_with fail;refine(I.out R (se K z)).mono ?_;rintro e U ⟨rfl,E⟩;go_wp2_with fail;refine(J.out U).mono ?_;rintro e w3 ⟨rfl,L⟩;go_wp2;go_ret;exact⟨rfl,(z.trans (E.mono z.size)).trans (L.mono (O0 z.size E.size))⟩
end
end Go.Proofs.YtkkdfgnnlpohlaaGreatDoor
