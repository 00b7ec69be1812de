import Derived.Test.YtpdbolihakojcaaGreatDoorPkk
import Derived.Test.YtpdbolihakojcaaGreatDoorPkj
import Derived.Test.YtpdbolihakojcaaGreatDoorPkb
namespace Go.Proofs.YtpdbolihakojcaaGreatDoor
set_option maxRecDepth 20000
set_option linter.unusedVariables false
set_option linter.unusedSimpArgs false
set_option maxHeartbeats 4000000
open Go.RowKit
variable {W Y w w' w0 wr : World} {b : List UInt8} {A B at_ base' c cap e f g gs i j k lo m n u z : Nat} {R d is l : List Nat} {E G I J K L M N O v0 v1 v2 v3 v4 v5 v6 x y : Value} {o : Oper} {Q : Exit → Act → World → Prop} {bvs xs : List Value} {t : TypeId} {cs tmps : Array Value} {p : Addr} {a : Option Addr} {first ok : Bool} {s : ByteArray} {rs : List (List Nat)}
section
open Go.Lib
def dS(x:List UInt8)(lo hi:Nat):Option Nat:=if x=decDigits (gz 0 x)∧lo≤gz 0 x∧gz 0 x≤hi then some (gz 0 x) else none
theorem ew{t:List UInt8}{lo A n:Nat}(h:mf t lo A n true):dS t lo A=some n:=by
 rcases h with⟨_,z,E,G⟩|⟨h,_⟩
 ·have e:gz 0 t=n:=(by rw[z,ng]);unfold dS;rw[e,if_pos ⟨z,E,G⟩]
 ·cases h
theorem fQ{t:List UInt8}{lo z n:Nat}(h:mf t lo z n false):dS t lo z=none:=by
 rcases h with⟨h,_⟩|⟨_,h⟩
 ·cases h
 ·unfold dS;rw[if_neg];rintro⟨A,E,G⟩;exact h _ E G A
theorem ef{t:List UInt8}{lo z n:Nat}(h:dS t lo z=some n):lo≤n∧n≤z:=by
 unfold dS at h;split at h
 ·next hc=>simp only[MK] at h;subst h;exact hc.2
 ·cases h
abbrev fY:Nat:=4294967295
def gH(r:List Nat):List (List UInt8):=eR 32 (fC r).data.toList
structure IM where
 uid:Nat
 stamp:Nat
 flags:Nat
 size:Nat
 bare:Nat
structure IX where
 val:Nat
 next:Nat
 gen:Nat
 mails:List IM
def jP(ws:List (List UInt8))(s:IX):Option IX:=
 match ws with
 |[a,b,c,d]=>if a=[86] then
   (match dS b 1 fY,dS c 1 fY,dS d 0 99999 with
    |some v,some n,some g=>some ⟨v,n,g,s.mails⟩
    |_,_,_=>none) else none
 |_=>none
def ja(ms:List IM)(u:Nat):Option Nat:=ms.findIdx? (fun m=>m.uid==u)
def kz(ms:List IM)(u:Nat):Bool:=match ms.getLast? with
 |some m=>decide (m.uid<u)
 |none=>true
def ol(ws:List (List UInt8))(s:IX):Option IX:=
 match ws with
 |[_,b,c]=>(match dS b 1 fY,dS c 0 2147483647 with
   |some u,some f=>(match ja s.mails u with
    |some i=>some {s with mails:=s.mails.modify i (fun m=>{m with flags:=f})}
    |none=>none)
   |_,_=>none)
 |_=>none
def it(ws:List (List UInt8))(s:IX):Option IX:=
 match ws with
 |[_,b,c,d,e,f]=>(match dS b 1 (fY-1),dS c 0 1000000000000,dS d 0 2147483647,dS e 0 40000,dS f 0 1 with
   |some u,some t,some fl,some n,some br=>if kz s.mails u=true then some {s with next:=if s.next≤u then u+1 else s.next,mails:=s.mails++[⟨u,t,fl,n,br⟩]} else none
   |_,_,_,_,_=>none)
 |_=>none
def me(ws:List (List UInt8))(s:IX):Option IX:=
 if ws.length=3∧ws.head? =some [70] then ol ws s
 else if ws.length=6∧ws.head? =some [65]∧s.mails.length<100 then it ws s
 else none
def dU(first:Bool)(ws:List (List UInt8))(s:IX):Option IX:=if first=true then jP ws s else me ws s
def oT(first:Bool):List (List Nat)→IX→Option IX
 |[],s=>some s
 |r::rs,s=>match dU first (gH r) s with
  |none=>none
  |some s'=>oT false rs s'
def nI(recs:List (List Nat)):Option IX:=if recs=[] then none else oT true recs ⟨0,0,0,[]⟩
def dF(ms:List IM):Nat:=(ms.map (·.size)).sum
def eS(m:IM)(x:Nat×Nat×List Nat):Option (List Nat):=
 if x.2.1-x.1=m.size then(if m.bare=1 then(if x.2.2.getLast? =some 10 then some x.2.2.dropLast else none) else some x.2.2) else none
def eN(first:Bool)(ws:List (List UInt8))(c:Nat):Option Nat:=
 if first=true then(if ws=[[66]] then some c else none)
 else match ws with
  |[a,b]=>if a=[67] then(match dS b 1 fY with
    |some n=>if c<n then some n else none
    |none=>none) else none
  |_=>none
def qV(first:Bool):List (List Nat)→Nat→Option Nat
 |[],c=>some c
 |r::rs,c=>match eN first (gH r) c with
  |none=>none
  |some c'=>qV false rs c'
def fN(recs:List (List Nat)):Option Nat:=if recs=[] then none else qV true recs 0
open Classical in
noncomputable def fo(t:List UInt8):Option (Nat×Nat×Nat):=if h:∃c:Nat×Nat×Nat,nY t true c.1 c.2.1 c.2.2 then some h.choose else none
theorem Bb{t:List UInt8}{u s f:Nat}(h:nY t true u s f):fo t=some (u,s,f):=by
 have z:∃c:Nat×Nat×Nat,nY t true c.1 c.2.1 c.2.2:=⟨(u,s,f),h⟩
 unfold fo;rw[dif_pos z];obtain⟨_,A,E,G⟩:=uO z.choose_spec h;rw[MK];exact Prod.ext A (Prod.ext E G)
theorem DS{t:List UInt8}{u s f:Nat}(h:nY t false u s f):fo t=none:=by
 unfold fo;rw[dif_neg];rintro⟨c,z⟩;have:=(uO z h).1;cases this
theorem lK{t:List UInt8}{ok:Bool}{u s f:Nat}(h:nY t ok u s f):fo t=if ok=true then some (u,s,f) else none:=by
 cases ok with
 |true=>rw[Bb h,if_pos rfl]
 |false=>rw[DS h,if_neg (by simp)]
structure LM where
 uid:Nat
 stamp:Nat
 flags:Nat
 body:List Nat
noncomputable def jj(D:dQ)(u:Nat):List ByteArray:=(D.names.map (·.1)).filter fun nm=>match fo nm.data.toList with
 |some c=>c.1==u
 |none=>false
structure VW where
 code:Int
 kind:Int
 val:Nat
 next:Nat
 cur:Nat
 mails:List LM
def od(c:Int):VW:=⟨c,0,0,0,0,[]⟩
def eH(g:Nat):ByteArray:=⟨([109,98,111,120,46]++decDigits g).toArray⟩
structure UX where
 val:Nat
 next:Nat
 dead:List Nat
def jT(ws:List (List UInt8))(s:UX):Option UX:=
 match ws with
 |[a,b,c]=>if a=[86] then(match dS b 1 fY,dS c 1 fY with
   |some v,some n=>some ⟨v,n,s.dead⟩
   |_,_=>none) else none
 |_=>none
def fh(n:Nat):List (List UInt8)→Nat→List Nat→Option (List Nat)
 |[],_,ds=>some ds
 |x::xs,last,ds=>match dS x (last+1) (n-1) with
  |some u=>fh n xs u (ds++[u])
  |none=>none
def nX(ws:List (List UInt8))(s:UX):Option UX:=
 match ws with
 |a::b::x::xs=>if a=[88] then(match dS b s.next fY with
   |some n=>(match fh n (x::xs) 0 s.dead with
    |some ds=>some ⟨s.val,n,ds⟩
    |none=>none)
   |none=>none) else none
 |_=>none
def dY(first:Bool)(ws:List (List UInt8))(s:UX):Option UX:=if first=true then jT ws s else nX ws s
def tJ(first:Bool):List (List Nat)→UX→Option UX
 |[],s=>some s
 |r::rs,s=>match dY first (gH r) s with
  |none=>none
  |some s'=>tJ false rs s'
def nK(recs:List (List Nat)):Option UX:=if recs=[] then none else tJ true recs ⟨0,0,[]⟩
end
structure XM where
 uid:Nat
 stamp:Nat
 flags:Nat
 body:List Nat
 entry:List Nat
 stamp0:Nat
 flags0:Nat
 bare:Nat
 size:Nat
 moved:Bool
 card:ByteArray
def xm0(m:IM):XM:=⟨m.uid,0,0,[],[],m.stamp,m.flags,m.bare,m.size,false,⟨#[]⟩⟩
def CY(text:List Nat)(m:IM)(x:Nat×Nat×List Nat)(b:List Nat):XM:=⟨m.uid,m.stamp,m.flags,b,(text.take x.2.1).drop x.1,m.stamp,m.flags,m.bare,m.size,false,⟨#[]⟩⟩
def kD(text:List Nat):List IM→List (Nat×Nat×List Nat)→Option (List XM)
 |[],[]=>some []
 |m::ms,x::xs=>(match eS m x,kD text ms xs with
  |some b,some bs=>some (CY text m x b::bs)
  |_,_=>none)
 |_,_=>none
def eZ(ms:List IM)(f:Bool×List Nat):Option (List XM):=
 if f.1=true∧dF ms≤f.2.length then(match iy (f.2.take (dF ms)) with
  |some xs=>kD f.2 ms xs
  |none=>none) else none
noncomputable def lz(D:dQ)(c:Nat)(m:XM):Option XM:=
 if c<m.uid then some m
 else match jj D m.uid with
  |[nm]=>(match fo nm.data.toList with
   |some k=>some {m with stamp:=k.2.1,flags:=k.2.2,body:=(dI D nm).2,moved:=true,card:=nm}
   |none=>none)
  |_=>none
noncomputable def gC(D:dQ)(c:Nat):List XM→Option (List XM)
 |[]=>some []
 |m::ms=>match lz D c m,gC D c ms with
  |some x,some xs=>some (x::xs)
  |_,_=>none
structure SX where
 code:Int
 kind:Int
 val:Nat
 next:Nat
 cur:Nat
 gen:Nat
 taken:Nat
 mails:List XM
 dead:List Nat
def f8(c:Int):SX:=⟨c,0,0,0,0,0,0,[],[]⟩
def mi(s:SX):SX:=if s.mails.all (fun m=>decide (m.body.length≤8000))=true then s else f8 3
abbrev gN:ByteArray:=⟨#[99,117,114,115,111,114]⟩
abbrev ixN:ByteArray:=⟨#[105,110,100,101,120]⟩
abbrev uxN:ByteArray:=⟨#[117,105,100,108,105,115,116]⟩
noncomputable def eo(D:dQ)(idx:List Nat):SX:=
 match nI (dP idx).1 with
 |none=>f8 3
 |some s=>match eZ s.mails (dI D (eH s.gen)) with
  |none=>f8 3
  |some ms=>if(dI D gN).1=true then
    (match fN (dP (dI D gN).2).1 with
     |none=>f8 3
     |some c=>match gC D c ms with
      |none=>f8 3
      |some ms'=>mi ⟨0,2,s.val,s.next,c,s.gen,dF s.mails,ms',[]⟩)
   else mi ⟨0,1,s.val,s.next,0,s.gen,dF s.mails,ms,[]⟩
noncomputable def lr(D:dQ)(nm:ByteArray)(k:Nat×Nat×Nat):XM:=⟨k.1,k.2.1,k.2.2,(dI D nm).2,[],0,0,0,0,true,nm⟩
noncomputable def gL(D:dQ)(dead:List Nat)(ns:List ByteArray):List XM:=ns.filterMap fun nm=>match fo nm.data.toList with
 |some k=>if k.1∈dead then none else some (lr D nm k)
 |none=>none
noncomputable def fJ(D:dQ)(data:List Nat):SX:=
 match nK (dP data).1 with
 |none=>f8 3
 |some s=>match goG XM.uid (fun m=>m.body.length) (gL D s.dead (D.names.map (·.1))) (s.next,[]) with
  |none=>f8 3
  |some (n,ms)=>⟨0,3,s.val,n,0,0,0,ms,s.dead⟩
open Classical in
noncomputable def fR(D:dQ):SX:=
 if eP D then
  (if(dI D ixN).1=true then eo D (dI D ixN).2
   else if(dI D uxN).1=true then fJ D (dI D uxN).2
   else f8 2)
 else f8 1
def lmX(m:XM):LM:=⟨m.uid,m.stamp,m.flags,m.body⟩
def gA(s:SX):VW:=if s.code=0 then⟨0,s.kind,s.val,s.next,s.cur,s.mails.map lmX⟩ else od s.code
theorem oM{text:List Nat}:∀{ms:List IM} {xs:List (Nat×Nat×List Nat)} {r:List XM},kD text ms xs=some r→ms.length=xs.length∧r.length=ms.length
 |[],[],r,h=>by simp only[kD,MK] at h;subst h;exact⟨rfl,rfl⟩
 |[],x::xs,r,h=>by cases h
 |m::ms,[],r,h=>by cases h
 |m::ms,x::xs,r,h=>by
  unfold kD at h;cases hb:eS m x with
  |none=>rw[hb] at h;cases h
  |some b=>
   rw[hb] at h;cases he:kD text ms xs with
   |none=>rw[he] at h;cases h
   |some q=>
    rw[he] at h;simp only[MK] at h;subst h;obtain⟨z,A⟩:=oM he;exact⟨by simp[z],by simp[A]⟩
theorem rS{text:List Nat}:∀{ms:List IM} {xs:List (Nat×Nat×List Nat)},ms.length≠xs.length→kD text ms xs=none:=fun{ms xs} h=>by
 cases he:kD text ms xs with
 |none=>rfl
 |some r=>exact absurd (oM he).1 h
theorem pM{text:List Nat}:∀{ms:List IM} {xs:List (Nat×Nat×List Nat)} {i:Nat} {m:IM} {x:Nat×Nat×List Nat},ms[i]? =some m→xs[i]? =some x→eS m x=none→kD text ms xs=none
 |[],_,i,m,x,h,_,_=>by simp at h
 |m::ms,[],i,m',x,_,h,_=>by simp at h
 |m::ms,y::xs,0,m',x,h1,h2,hb=>by
  simp only[Nj,MK] at h1 h2;subst h1 h2;unfold kD;rw[hb]
 |m::ms,y::xs,i+1,m',x,h1,h2,hb=>by
  simp only[Ni] at h1 h2;unfold kD;rw[pM h1 h2 hb];cases eS m y<;>rfl
theorem rR{text:List Nat}:∀{ms:List IM} {xs:List (Nat×Nat×List Nat)} {r:List XM},ms.length=xs.length→r.length=ms.length→(∀i (h1:i<ms.length) (h2:i<xs.length) (K:i<r.length),∃b,eS ms[i] xs[i]=some b∧r[i]=CY text ms[i] xs[i] b)→kD text ms xs=some r
 |[],[],[],_,_,_=>rfl
 |[],[],_::_,_,h,_=>by cases h
 |[],_::_,_,h,_,_=>by cases h
 |_::_,[],_,h,_,_=>by cases h
 |_::_,_::_,[],_,h,_=>by cases h
 |m::ms,x::xs,y::r,h1,h2,h=>by
  obtain⟨b,z,A⟩:=h 0 (by simp) (by simp) (by simp);simp only[List.getElem_cons_zero] at z A;have J:=rR (text:=text) (ms:=ms) (xs:=xs) (r:=r) (by simpa using h1) (by simpa using h2) (fun i E G I=>by
   have:=h (i+1) (by simpa using E) (by simpa using G) (by simpa using I);simpa using this)
  unfold kD;rw[z,J,A]
section
open Go.Sort Go.Lib
theorem qc(u:Nat)(w:World)(E:u<9223372036854775808)(z:TabIs Tryz.prog w "internal/strconv.uint64pow10" .u64 Lib.pow10Tab):
  Calls Tryz.prog 79 #[.int .i64 (u:Int),.int .i64 10] w fun e w'=>e= .returned (.string (iG u))∧Below w.heap.size w w':=by
 go_enter Tryz.func79,Tryz.ntmps79;go_wp2_with fail;refine(Tryz.internal_strconv_FormatInt_10 (u:Int) (by omega) (by omega) w z).mono ?_;rintro e G ⟨rfl,k,os,rfl⟩;have A:(⟨(Lib.itoa (u:Int)).toArray⟩:ByteArray)=iG u:=(by rw[Lib.itoa_nonneg];rfl);rw[A];go_wp2;go_ret;exact⟨rfl,qm w k os⟩
end
section
open Go.Lib
theorem j7(u:Nat)(s:Int)(f:Nat)(w:World)(hu:u<4294967296)(Q:f<4294967296)(A:TabIs Tryz.prog w "internal/strconv.uint64pow10" .u64 Lib.pow10Tab):
  Calls Tryz.prog 44 #[.int .u32 (u:Int),.int .i64 s,.int .u32 (f:Int)] w fun e w'=>e= .returned (.string (jq u s f))∧Below w.heap.size w w':=by
 by_cases O:u=0∨s<0∨1000000000000<s
 ·rw[ot f O];by_cases N:u=0
  ·subst N;go_enter Tryz.func44,Tryz.ntmps44;go_wp2;go_ret;exact⟨rfl,MJ _ _⟩
  ·have R:¬(u:Int)=0:=(by omega);by_cases hs:s<0
   ·go_enter Tryz.func44,Tryz.ntmps44;go_wp2;go_ret;exact⟨rfl,MJ _ _⟩
   ·have M:1000000000000<s:=(by omega);go_enter Tryz.func44,Tryz.ntmps44;go_wp2;go_ret;exact⟨rfl,MJ _ _⟩
 ·obtain⟨k,rfl⟩:=Int.eq_ofNat_of_zero_le (show 0≤s by omega);have R:¬(u:Int)=0:=(by omega);have aa:¬(k:Int)<0:=(by omega);have M:¬(1000000000000:Int)<(k:Int):=(by omega);rw[pX f (by omega) (by omega)];have G:=a8 (fun w h=>kR u w (by omega) h);have I:=a8 (fun w h=>qc k w (by omega) h);have J:=a8 (fun w=>nG f w Q);have K:=a8 A;have Y:=nf u (by omega);have z2:=nf k (by omega);have Z:=oY f;clear A;generalize iG u=a at G Y⊢;generalize iG k=b at I z2⊢;generalize fC (eu f)=c at J Z⊢;go_enter Tryz.func44,Tryz.ntmps44;go_wp2_with fail;refine(G.out w K.out).mono ?_;rintro e U ⟨rfl,z⟩;go_wp2_with fail;refine(I.out U (qR K.out z)).mono ?_;rintro e V ⟨rfl,E⟩;go_wp2_with fail;refine(J.out V).mono ?_;rintro e w3 ⟨rfl,L⟩;go_wp2;go_ret;exact⟨rfl,(z.trans (E.mono z.size)).trans (L.mono (MN z.size E.size))⟩
end
end Go.Proofs.YtpdbolihakojcaaGreatDoor
