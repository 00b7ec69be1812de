import Derived.Test.YtpdbolihakojcaaGreatDoorPka
import Derived.RangeFuncNested
import Derived.RangeFuncBound
import Derived.RangeFuncCalls
import Derived.RangeFuncLeaves
import Derived.Shelf.Abstract
import Derived.Shelf.RegionOpen
import Derived.OwnWalkIn
import Derived.TacticsInMore
import Derived.LoopNIn
import Derived.LoopIn
import Derived.Scope
import Derived.Lib.Builder
import Derived.Recover
import Derived.Deep.RegionHeld3
import Derived.Lib.UnsafeStr
import Derived.Lib.FrozenHead
import Derived.Lib.OthersKept
namespace Go.Proofs.YtpdbolihakojcaaGreatDoor
set_option maxRecDepth 20000
set_option linter.unusedVariables false
set_option linter.unusedSimpArgs false
set_option maxHeartbeats 4000000
open Go.RowKit
variable {W Y w w' w0 wr : World} {b : List UInt8} {A B at_ base' c cap e f g gs i j k lo m n u z : Nat} {R d is l : List Nat} {E G I J K L M N O v0 v1 v2 v3 v4 v5 v6 x y : Value} {o : Oper} {Q : Exit → Act → World → Prop} {bvs xs : List Value} {t : TypeId} {cs tmps : Array Value} {p : Addr} {a : Option Addr} {first ok : Bool} {s : ByteArray} {rs : List (List Nat)}
structure jF(n₀ bs:Nat)(W W':World):Prop where
 os:W'.os=W.os
 tape:W'.tape=W.tape
 output:W'.output=W.output
 size:W.heap.size≤W'.heap.size
 low:∀k,k<n₀→W'.heap[k]? =W.heap[k]?
 cells:∀(k:Nat) (o:Obj),W.heap[k]? =some o→o.isCells=true→k≠bs→W'.heap[k]? =some o
theorem jF.alloc(A bs:Nat)(W:World)(E:A≤W.heap.size)(o:Obj):jF A bs W (W.alloc o):=
 ⟨rfl,rfl,rfl,by simp,fun k z=>Below.heap_alloc W o k (by omega),fun k G z _ _=>(Below.heap_alloc W o k (Array.getElem?_eq_some_iff.1 z).1).trans z⟩
theorem jF.putObj{E bs l:Nat}{W:World}{o:Obj}(G:W.heap[l]? =some o)(I:o.isCells=false)(K:E≤l)(J:Obj):jF E bs W (W.putObj l J):=
 ⟨rfl,rfl,rfl,by simp,fun k z=>World.putObj_heap_other (by omega),fun k L z A _=>(World.putObj_heap_other (fun e=>by subst e;rw[G] at z;cases z;rw[I] at A;cases A)).trans z⟩
theorem jF.setCell{A bs:Nat}(W:World)(G:A≤bs)(v:Value):jF A bs W (W.setCell ⟨bs,0,none⟩ v):=
 ⟨rfl,rfl,rfl,by simp,fun k z=>heap_setCell_other W _ k v (by simp;omega),fun k o z _ E=>(heap_setCell_other W _ k v (by simpa using E)).trans z⟩
theorem jF.drew{z bs:Nat}(W:World):jF z bs W W.drew:=⟨rfl,rfl,rfl,MH _,fun _ _=>rfl,fun _ _ h _ _=>h⟩
theorem jF.below{z bs:Nat}{W W':World}(h:jF z bs W W'):Below z W W':=⟨h.os,h.tape,h.output,h.size,h.low⟩
def ko(n₀ bs:Nat)(W W':World):Prop:=Below n₀ W W'∧W'.heap[bs]? =W.heap[bs]?
theorem ko.trans{z bs:Nat}{A B C:World}(h:ko z bs A B)(k:ko z bs B C):ko z bs A C:=⟨h.1.trans k.1,k.2.trans h.2⟩
theorem ko.putObj{z bs l:Nat}(W:World)(A:Obj)(I:z≤l)(E:bs<l):ko z bs W (W.putObj l A):=
 ⟨⟨rfl,rfl,rfl,by simp,fun k G=>World.putObj_heap_other (by omega)⟩,World.putObj_heap_other (by omega)⟩
def K9{α:Type}(n₀ bs:Nat)(I:List α→World→Prop)(xs:List α)(W:World):Exit→Act→World→Prop
 | .normal,_,W'=>KeepsOthers W W'∧ko n₀ bs W W'∧I xs W'
 |_,_,_=>False
variable {F:Fence} {n:Nat} {P:Program}
theorem iX{b:Frame}{a:Act}{k:List Item}{cs:List Frame}{w:World}{c:Code}:step P (lone (b.atR a (.code (.scope c)::k)) cs w)= .next (lone (b.atR a (.code c:: .inScope c::k)) cs w):=
 step_lone_go (by simp[stepG,stepG.exec,Frame.atR])
theorem uF{b:Frame}{a:Act}{k:List Item}{cs:List Frame}{w:World}{c:Code}:step P (lone (b.atR a (.inScope c::k)) cs w)= .next (lone (b.atR a k) cs w):=
 step_lone_go (by simp[stepG,stepG.exec,Frame.atR])
theorem CX{c:Code}{Q:Exit→Act→World→Prop}{a:Act}{w:World}(h:c.wpIn F n P (Exit.noGoto Q) a w):(Code.scope c).wpIn F n P Q a w:=by
 intro b k cs O J L;have A:(lone (b.atR a (.code (.scope c)::k)) cs w).fenced P F:=fenced_calm J L rfl;obtain⟨e,G,I,E,z⟩:=h b (.inScope c::k) cs O J L;cases e with
 |normal=>exact⟨.normal,G,I,E,.head A iX (StepsIn.trans z (.one (fenced_calm J L rfl) uF))⟩
 |exit id=>
  have M:exitTo id (.inScope c::k)=exitTo id k:=(by simp[exitTo]);exact⟨.exit id,G,I,E,fun R K=> .head A iX (z.1 R (by rw[M];exact K)),fun N K=>let ⟨k1,h1,h2⟩:=z.2 N (by rw[M];exact K);⟨k1,h1,.head A iX h2⟩⟩
 |goto l=>exact E.elim
 |ret=>exact⟨_,G,I,E,.of_steps (.one A iX) z⟩
 |panic ch=>exact⟨_,G,I,E,.of_steps (.one A iX) z⟩
 |outgrown=>exact⟨_,G,I,E,.of_steps (.one A iX) z⟩
theorem uI{α:Type}{g:Operand}{ps:Array Tmp}{assign body:Code}{Q:Exit→Act→World→Prop}{a:Act}{w:World}(R bs:Nat)(ao:bs<w.heap.size)(ag:R≤bs)
  (az:F.round=none) (h1:1≤n) {gf:Nat} {lb:Array Value} (hg:a.eval g= .func (.func gf) #[] lb) (am:F.fn gf) (eg:∀args w,(callFunc gf args).run P w= .ok (.enter gf args) w)
  {encs:α→Array Value} (ay:∀x,(encs x).size=ps.size) {S:List α→Prop} (N:Nat)
  (I:List α→World→Prop) (L:∀pre W W',jF R bs W W'→I pre W→I pre W') (h0:I [] w) (a₁:α→Act)
  (ad:∀(l:Nat) (J:List α→World→Prop) (W:World),bs<l→W.heap[bs]? =w.heap[bs]?→Below w.heap.size w W→
   (∀pre z v,J pre z→J pre (z.setCell ⟨bs,0,none⟩ v))→(∀pre z,J pre z→J pre z.drew)→
   (∀pre x z,J pre z→pre.length<N→YieldAt F (n-1-1) P l (encs x) z fun e W'=>e= .returned (.bool true)∧J (pre++[x]) W'∧ko R bs z W')→J [] W→
   CallsIn F (n-1) P gf (#[.func (.yield l) #[] #[]]++lb) W fun e W'=>(∃v,e= .returned v)∧∃xs,S xs∧J xs W')
  (ah:∀(l:Nat) (x:α) (W:World) (K:Act→World→Prop),K (a₁ x) W→
   assign.wpIn (F.inRound l) (n-1-1) P (Exit.then K (fun _ _ _=>False)) {tmps:=(ps.zip (encs x)).foldl (fun t (p,v)=>t.setIfInBounds p v) a.tmps,defers:=[]} W)
  (ac:∀(l:Nat) (pre:List α) (x:α) (W:World),I pre W→pre.length<N→w.heap.size<W.heap.size→body.wpIn (F.inRound l) (n-1-1) P (K9 R bs I (pre++[x]) W) (a₁ x) W)
  (hdone:∀(D:Nat) (xs:List α) (W:World),S xs→I xs W→w.heap.size≤D→W.heap[D]? =some (.deferred (some []))→Q .normal {a with defers:={target:= .collected D,args:= #[]}::a.defers} W):
  (Code.rangeFunc g ps assign body).wpIn F n P Q a w:=by
 refine wpIn_rangeFunc ?_;intro fn ar;rw[az];generalize U:w.heap.size=B at ao ag ad ac hdone;have A:∃rec:LoopState→Loop,∀st,rec st={state:=st,pending:=none,fn:=fn,tmps:=a.tmps,params:=ps,assign:=assign,body:=body,defers:=B}:=⟨fun st=>_,fun st=>rfl⟩
 obtain⟨rec,A⟩:=A;have G:∃z,z=(w.alloc (.deferred (some []))).alloc (.loop (rec .ready)):=⟨_,rfl⟩
 obtain⟨z,G⟩:=G;have Z:(w.alloc (.deferred (some []))).heap.size=B+1:=(by rw[World.size_alloc,U]);have av:z.heap[B+1]? =some (.loop (rec .ready)):=(by rw[G,←Z];exact heap_alloc_new _ _);have ap:z.heap[B]? =some (.deferred (some [])):=(by rw[G,Below.heap_alloc _ _ _ (by rw[Z];omega),←U];exact heap_alloc_new _ _);have aa:Below w.heap.size w z:=(by rw[G];exact((MJ _ w).alloc (MH _) _).alloc (by rw[Z,U];omega) _);have an:I [] z:=by
  rw[G];exact L _ _ _ (jF.alloc R bs _ (by rw[Z];omega) _) (L _ _ _ (jF.alloc R bs w (by rw[U];omega) _) h0)
 refine⟨B+1,[{target:= .collected B,args:= #[]}],z,{target:= .fn (.func gf) lb,args:= #[.func (.yield (B+1)) #[] #[]]},z,gf, #[.func (.yield (B+1)) #[] #[]]++lb,z,?_,?_,?_,?_,fun _=>h1,?_⟩
 ·rw[G,A,←U];exact run_enterLoop_outer _ _ _ _ _
 ·simp only[resolve,hg];simp[go_sem]
 ·intro f' ae;simp[Target.leads] at ae;subst ae;exact am
 ·simp[invoke,go_sem,eg]
 ·refine(ad (B+1) (fun pre W=>I pre W∧W.heap[B+1]? =some (.loop (rec .ready))∧W.heap[B]? =some (.deferred (some []))) z (by omega) (aa.block bs (by omega)) (by rw[U] at aa;exact aa) ?_ ?_ ?_ ⟨an,av,ap⟩).mono ?_
  ·rintro pre W v ⟨O,E,M⟩;exact⟨L _ _ _ (jF.setCell W ag v) O,(heap_setCell_other W _ _ v (by simp;omega)).trans E,(heap_setCell_other W _ _ v (by simp;omega)).trans M⟩
  ·rintro pre W ⟨O,E,M⟩;exact⟨L _ _ _ (jF.drew W) O,E,M⟩
  ·rintro pre x W ⟨O,E,M⟩ hN;have ax:B+1<W.heap.size:=(Array.getElem?_eq_some_iff.1 E).1;have hy:=run_yield (P:=P) (args:=encs x) E (by rw[A];exact ay x);rw[A] at hy;refine⟨fn,_,assign,body,hy,roundIn_of_wpIn ar (ah _ x W _ ⟨_,run_beginRound E (by rw[A]),?_⟩)⟩;have ai:({rec .ready with state:= .busy}:Loop)=rec .busy:=(by rw[A,A]);rw[ai];have aw:(W.putObj (B+1) (.loop (rec .busy))).heap[B+1]? =some (.loop (rec .busy)):=World.putObj_heap_same ax;have hd2:(W.putObj (B+1) (.loop (rec .busy))).heap[B]? =some (.deferred (some [])):=(World.putObj_heap_other (by omega)).trans M;have k2:ko R bs W (W.putObj (B+1) (.loop (rec .busy))):=ko.putObj W _ (by omega) (by omega);refine wpIn_mono (ac _ pre x _ (L _ _ _ (jF.putObj E rfl (by omega) _) O) hN (by simp;omega)) ?_;intro e a3 W3 V;cases e with
   |normal=>
    obtain⟨af,aj,au⟩:=V;have ab:=af.same _ _ aw rfl;have aq:=af.same _ _ hd2 rfl;have Y:=run_endRound (P:=P) none ab;have al:({rec .busy with state:=if(none:Option Code).isNone then .ready else .done,pending:=none}:Loop)=rec .ready:=(by rw[A,A];rfl);rw[al] at Y;have ak:B+1<W3.heap.size:=(Array.getElem?_eq_some_iff.1 ab).1;exact⟨_,_,Y,rfl,⟨L _ _ _ (jF.putObj ab rfl (by omega) _) au,World.putObj_heap_same ak,(World.putObj_heap_other (by omega)).trans aq⟩,(k2.trans aj).trans (ko.putObj W3 _ (by omega) (by omega))⟩
   |ret=>exact V.elim
   |exit id=>exact V.elim
   |goto t=>exact V.elim
   |panic ch=>exact V.elim
   |outgrown=>exact V.elim
  ·rintro e W2 ⟨⟨v,rfl⟩,xs,hS,O,E,M⟩;have Y:=run_endLoop (P:=P) E (by rw[A];simp);rw[show(rec .ready).pending=none from by rw[A]] at Y;exact⟨none,_,Y,hdone _ xs _ hS (L _ _ _ (jF.putObj E rfl (by omega) _) O) (by omega) ((World.putObj_heap_other (by omega)).trans M)⟩
theorem yt(a:Option Addr)(cap:Nat)(ns:List (List Nat×Int))(w:World)(Y:ns.length≤9223372036854775807)(R:ib ns≤1048576)(K:iC w a ns):
  Calls Tryz.prog 101 #[.slice a ns.length cap] w fun e w'=>e= .returned (.int .i64 (ib ns:Int))∧Below w.heap.size w w':=by
 go_enter Tryz.func101,Tryz.ntmps101;go_wp2;go_loopw [3,8] (fun t i wr=>∃k:Nat,k≤ns.length∧i= .int .i64 k∧t= .int .i64 (ib (ns.take k):Int)∧Below w.heap.size w wr) (fun _ i _=>ns.length-(intOf i).toNat)
 case atStart=>exact⟨0,MQ _,rfl,rfl,MJ _ _⟩
 case round=>
  obtain⟨k,V,rfl,rfl,z⟩:=hrel;by_cases E:k<ns.length
  ·obtain⟨b,U,rfl,J⟩:=(K.below z) (by omega)
   obtain⟨N,O,L,M,_⟩:=J k E;have I:=a8 (jd ns k E);have A:=lZ ns (k+1);rw[jd ns k E] at A;have G:=a8 (z.alloc z.size (.cells #[.slice N ns[k].1.length O,.int .i64 ns[k].2] 91));clear J K z;generalize ib (ns.take k)=s0 at A I⊢;generalize ns[k].1.length=Z at L A I G;generalize ns[k].2=sf at M G;go_wp2;go_roundw
   case rel=>exact⟨k+1,by omega,by go_num,fy (by rw[I.out];omega),G.out⟩
   case measure=>simp[intOf];omega
  ·have Q:ns.take k=ns:=MX (by omega);rw[Q];go_wp2;go_ret;exact⟨rfl,z⟩
def kw(e:List Nat×Int):Bool:=decide (e.1.length≤40000∧0≤e.2∧e.2≤e.1.length)
def fT(ns:List (List Nat×Int)):Bool:=decide (ns.length≤600∧(∀i (h:i<ns.length),kw ns[i]=true)∧ib ns≤200000)
theorem sQ{ns:List (List Nat×Int)}(h:i<ns.length)(z:kw ns[i]=false):fT ns=false:=by
 unfold fT;refine decide_eq_false fun A=> ?_;rw[A.2.1 i h] at z;simp at z
theorem xv(a:Option Addr)(cap:Nat)(ns:List (List Nat×Int))(w:World)(hn:ns.length≤9223372036854775807)(K:∀e∈ns,e.1.length≤1048576)(Y:ib ns≤1048576)(I:iC w a ns):
  Calls Tryz.prog 71 #[.slice a ns.length cap] w fun e w'=>e= .returned (.bool (fT ns))∧Below w.heap.size w w':=by
 by_cases h6:600<ns.length
 ·have hf:fT ns=false:=decide_eq_false fun h=>(by omega);rw[hf];go_enter Tryz.func71,Tryz.ntmps71;go_wp2;go_ret;exact⟨rfl,MJ _ _⟩
 go_enter Tryz.func71,Tryz.ntmps71;go_wp2;go_loopw [10] (fun i wr=>∃k:Nat,k≤ns.length∧i= .int .i64 k∧(∀i (h:i<ns.length),i<k→kw ns[i]=true)∧Below w.heap.size w wr) (fun i _=>ns.length-(intOf i).toNat)
 case atStart=>exact⟨0,MQ _,rfl,fun i _ h=>by omega,MJ _ _⟩
 case round=>
  obtain⟨k,hk,rfl,N,z⟩:=hrel;have M:=a8 N;have HR:=a8 I;clear N;by_cases L:k<ns.length
  ·obtain⟨b,ad,rfl,Q⟩:=(I.below z) (by omega)
   obtain⟨ai,ci,aa,ab,_⟩:=Q k L;have ac:=K _ (MO L);have A:=a8 (z.alloc z.size (.cells #[.slice ai ns[k].1.length ci,.int .i64 ns[k].2] 91));have J:=a8 (sQ (ns:=ns) L);have E:=a8 (show kw ns[k]=decide (ns[k].1.length≤40000∧0≤ns[k].2∧ns[k].2≤ns[k].1.length) from rfl);have Z:=a8 (fun(e:kw ns[k]=true) (i:Nat) (h:i<ns.length) (h':i<k+1)=>(by
    by_cases e':i=k
    ·subst e';exact e
    ·exact M.out i h (by omega):kw ns[i]=true))
   clear Q I z K M;generalize ns[k].1.length=R at aa A E ac;generalize ns[k].2=U at ab A E;by_cases g1:40000<R
   ·go_wp2;go_ret;exact⟨eE (J.out (by rw[E.out];exact decide_eq_false fun h=>by omega)).symm,A.out⟩
   by_cases g2:U<0
   ·go_wp2;go_ret;exact⟨eE (J.out (by rw[E.out];exact decide_eq_false fun h=>by omega)).symm,A.out⟩
   by_cases g3:(R:Int)<U
   ·go_wp2;go_ret;exact⟨eE (J.out (by rw[E.out];exact decide_eq_false fun h=>by omega)).symm,A.out⟩
   have V:=a8 (Z.out (by rw[E.out];exact decide_eq_true ⟨by omega,by omega,by omega⟩));go_wp2;go_roundw
   case rel=>exact⟨k+1,by omega,by go_num,V.out,A.out⟩
   case measure=>simp[intOf];omega
  ·go_wp2_with fail;refine(yt a cap ns wr hn Y (HR.out.below z)).mono ?_;rintro e w2 ⟨rfl,O⟩;have A:=a8 (z.trans (O.mono z.size));clear O z I K;have HF:Hid (fT ns=decide (ib ns≤200000)):=by
    unfold fT;by_cases G:ib ns≤200000
    ·rw[decide_eq_true G];exact decide_eq_true ⟨by omega,fun i h=>M.out i h (by omega),G⟩
    ·rw[decide_eq_false G];exact decide_eq_false fun h=>G h.2.2
   go_wp2;go_ret;exact⟨eE (by rw[HF.out];simp;omega),A.out⟩
def hd2(n:Nat):List Nat:=[n/256%256,n%256]
def be4(c:Nat):List Nat:=[c/16777216%256,c/65536%256,c/256%256,c%256]
def fp(r:List Nat):List Nat:=hd2 r.length++be4 (lw (hd2 r.length++r))++r
theorem tZ(r:List Nat):(fp r).length=6+r.length:=by simp[fp,hd2,be4];omega
theorem GJ(n:Nat):∀x∈hd2 n,x<256:=by
 intro x z;simp[hd2] at z;omega
theorem FK{a b:List Nat}(z:∀x∈a,x<256)(A:∀x∈b,x<256):∀x∈a++b,x<256:=by
 intro x E;rcases List.mem_append.1 E with h|h
 ·exact z x h
 ·exact A x h
theorem Jh(a b:List Nat):eV (eV 4294967295 a) b=eV 4294967295 (a++b):=by simp[eV]
def gd(d:List Nat):Nat:=d.getD 0 0*256+d.getD 1 0
def fK(d:List Nat):Option (List Nat):=
 if d.length<6 then none
 else if gd d<1∨2000<gd d∨d.length<6+gd d then none
 else if fp ((d.drop 6).take (gd d))=d.take (6+gd d) then some ((d.drop 6).take (gd d)) else none
theorem lf{d:List Nat}(h:d.length<6):fK d=none:=by simp[fK,h]
theorem qu{d:List Nat}(z:¬d.length<6)(h:gd d<1∨2000<gd d∨d.length<6+gd d):fK d=none:=by
 unfold fK;rw[if_neg z,if_pos h]
theorem rV{d:List Nat}(z:¬d.length<6)(h:¬(gd d<1∨2000<gd d∨d.length<6+gd d))(A:¬fp ((d.drop 6).take (gd d))=d.take (6+gd d)):fK d=none:=by
 unfold fK;rw[if_neg z,if_neg h,if_neg A]
theorem qw{d:List Nat}(z:¬d.length<6)(h:¬(gd d<1∨2000<gd d∨d.length<6+gd d))(A:fp ((d.drop 6).take (gd d))=d.take (6+gd d)):fK d=some ((d.drop 6).take (gd d)):=by
 unfold fK;rw[if_neg z,if_neg h,if_pos A]
theorem mB{d r:List Nat}(h:fK d=some r):1≤r.length∧r.length≤2000∧6+r.length≤d.length:=by
 unfold fK at h;split at h
 ·cases h
 ·split at h
  ·cases h
  ·split at h
   ·simp only[Option.some.injEq] at h;subst h;simp;omega
   ·cases h
def jX(d:List Nat):Nat→List (List Nat)→Nat→List (List Nat)×Nat
 |0,rs,g=>(rs,g)
 |f+1,rs,g=>match fK (d.drop g) with
  |none=>(rs,g)
  |some r=>jX d f (rs++[r]) (g+(6+r.length))
def dP(d:List Nat):List (List Nat)×Nat:=if 40000<d.length then([],0) else jX d d.length [] 0
theorem mT{d:List Nat}{f:Nat}{rs:List (List Nat)}{g:Nat}(h:fK (d.drop g)=none):jX d f rs g=(rs,g):=by
 cases f with
 |zero=>rfl
 |succ f=>simp[jX,h]
theorem AU{d:List Nat}{f:Nat}{rs:List (List Nat)}{g:Nat}{r:List Nat}(E:d.length≤g+f)(h:fK (d.drop g)=some r):∃z,f=z+1∧jX d f rs g=jX d z (rs++[r]) (g+(6+r.length))∧d.length≤g+(6+r.length)+z:=by
 have A:=mB h;simp at A;cases f with
 |zero=>omega
 |succ f=>exact⟨f,rfl,by simp[jX,h],by omega⟩
theorem xJ(w:World)(x:Nat):dW (w.alloc (.cells #[.int .u8 (x:Int)] 5)) (some ⟨w.heap.size,0,none⟩) [x]:=fun _=>by
 refine⟨w.heap.size,0,rfl,fun i z=> ?_⟩;simp at z;subst z;rw[cell_of_row _ _ _ _ 5 (0,0) (heap_alloc_new w _)];rfl
theorem dO.alloc1{v:Value}(h:dO w z v l)(o:Obj):dO (w.alloc o) z v l:=h.below ((MJ _ _).alloc (MH _) _) (MH _)
theorem fd{L:Array Oper}{J:List Oper}{A:Act}(w:World)(U:o.guard=none)(s x:Operand)
  (ho:o.op= .call {callee:= .builtin .append,args:= #[s,x],argTypes:= #[52,52]})
  (z:Nat) (v:Value) (l m:List Nat) (n:Nat) (hn:m.length=n) (hs:A.eval s=v) (R:dO w z v l) (p:Addr) (c:Nat) (hx:A.eval x= .slice (some p) n c) (hr:dW w (some p) m)
  (aa:l.length+m.length≤1099511627776) (N:z≤w.heap.size)
  (h:∀E w',dO w' z E (l++m)→w.grownBy w' v.ownBlock→wpList Tryz.prog L Q J (A.put o.dst E) w'):wpList Tryz.prog L Q (o::J) A w:=by
 obtain⟨i0,hi,V,Y,Z⟩:=info_parts Tryz.info5;subst hn;refine wpList_append_own w U s x 52 ho z 5 i0 (.int .u8 0) 1 1 Tryz.underlying52 hi V Y Z rfl (by decide) v l.length (l.map bv) hs R p m.length c (m.map bv) hx (by simp) ?_ ?_ (by unfold maxLen;omega) (by omega) N ?_
 ·intro j u I;have K:j<m.length:=by
   rcases NB j m.length with G|G
   ·exact G
   ·simp[Nf G] at I
  obtain⟨b,ab,e,hc⟩:=hr (by omega);simp only[MK] at e;subst e;rw[ej,hc j K];simp[K,bv] at I;rw[I]
 ·intro u M;simp only[Na] at M;obtain⟨y,_,rfl⟩:=M;rfl
 ·intro E w' O hg _;refine h E w' ?_ hg;unfold dO;rw[MT,MS];exact O
theorem Cx(v:Value)(D:dQ)(w:World)(ah:D.nodes.length≤1048576)(ai:D.names.length≤1048576)(aj:D.kept.length≤1048576)(ak:D.pend.length≤1048576)(aa:∀e∈D.nodes,e.1.length≤1048576)(hr:iN w v D):
  Calls Tryz.prog 6 #[v] w fun e w'=>∃x,e= .returned x∧FE w' w.heap.size x D∧Below w.heap.size w w':=by
 obtain⟨a1,c1,a2,c2,a3,c3,a4,c4,rfl,Z,r2,r3,r4⟩:=hr;have ad:=a8 Z;have ae:=a8 r2;have af:=a8 r3;have ag:=a8 r4;have ac:=a8 aa;clear Z r2 r3 r4 aa;go_enter Tryz.func6,Tryz.ntmps6;go_wp2_with fail;have z:=a8 (TD.start w #[.slice a1 D.nodes.length c1,.slice a2 D.names.length c2,.slice a3 D.kept.length c3,.slice a4 D.pend.length c4,.int .i64 D.quota] #[.slice none 0 0,.slice none 0 0,.slice none 0 0,.slice none 0 0,.int .i64 0] #[.slice none 0 0,.slice none 0 0,.slice none 0 0,.slice none 0 0,.int .i64 0]);generalize (((w.alloc (.cells #[.slice a1 D.nodes.length c1,.slice a2 D.names.length c2,.slice a3 D.kept.length c3,.slice a4 D.pend.length c4,.int .i64 D.quota] 26)).alloc (.cells #[.slice none 0 0,.slice none 0 0,.slice none 0 0,.slice none 0 0,.int .i64 0] 37)).alloc (.cells #[.slice none 0 0,.slice none 0 0,.slice none 0 0,.slice none 0 0,.int .i64 0] 37))=w1 at z⊢;have A:=a8 (z.out.2.2.2.2);refine(AP a1 c1 D.nodes w1 ah ac.out (ad.out.below z.out.2.2.2.1)).mono ?_;rintro e y1 ⟨rfl,N,I⟩;replace z:=a8 (z.out.below I);have G:=a8 (N.mono (base':=w.heap.size+3) (A.out));generalize w1.heap.size=O at G⊢;clear N I A;have A:=a8 (z.out.2.2.2.2);have U:y1.cell? ⟨w.heap.size+1+1,0,none⟩=some (.slice none 0 0):=(by rw[z.out.2.2.1.cell];rfl);have V:=frozen_of_row y1 (w.heap.size+1+1) 0 _ _ z.out.2.2.1;have Y:y1.cell? ⟨w.heap.size,1,none⟩=some (.slice a2 D.names.length c2):=(by rw[z.out.1.cell];rfl);go_wp2_with fail;clear U V Y;replace z:=a8 (z.out.setOut 0 (.slice (some ⟨O,0,none⟩) D.nodes.length D.nodes.length));replace G:=a8 (G.out.set_low (p:=⟨w.heap.size+1+1,0,none⟩) (by simp) (.slice (some ⟨O,0,none⟩) D.nodes.length D.nodes.length));generalize y1.setCell ⟨w.heap.size+1+1,0,none⟩ (.slice (some ⟨O,0,none⟩) D.nodes.length D.nodes.length)=w2 at z G⊢;clear A;have A:=a8 (z.out.2.2.2.2);refine(pr a2 c2 D.names w2 ai (ae.out.below z.out.2.2.2.1)).mono ?_;rintro e y2 ⟨rfl,N,I⟩;replace z:=a8 (z.out.below I);have J:=a8 (N.mono (base':=w.heap.size+3) (A.out));replace G:=a8 (G.out.below I);generalize w2.heap.size=L at J⊢;clear N I A;have A:=a8 (z.out.2.2.2.2);have U:y2.cell? ⟨w.heap.size+1+1,1,none⟩=some (.slice none 0 0):=(by rw[z.out.2.2.1.cell];rfl);have V:=frozen_of_row y2 (w.heap.size+1+1) 1 _ _ z.out.2.2.1;have Y:y2.cell? ⟨w.heap.size,2,none⟩=some (.slice a3 D.kept.length c3):=(by rw[z.out.1.cell];rfl);go_wp2_with fail;clear U V Y;replace z:=a8 (z.out.setOut 1 (.slice (some ⟨L,0,none⟩) D.names.length D.names.length));replace G:=a8 (G.out.set_low (p:=⟨w.heap.size+1+1,1,none⟩) (by simp) (.slice (some ⟨L,0,none⟩) D.names.length D.names.length));replace J:=a8 (J.out.set_low (p:=⟨w.heap.size+1+1,1,none⟩) (by simp) (.slice (some ⟨L,0,none⟩) D.names.length D.names.length));generalize y2.setCell ⟨w.heap.size+1+1,1,none⟩ (.slice (some ⟨L,0,none⟩) D.names.length D.names.length)=w3 at z G J⊢;clear A;have A:=a8 (z.out.2.2.2.2);refine(pr a3 c3 D.kept w3 aj (af.out.below z.out.2.2.2.1)).mono ?_;rintro e y3 ⟨rfl,N,I⟩;replace z:=a8 (z.out.below I);have Q:=a8 (N.mono (base':=w.heap.size+3) (A.out));replace G:=a8 (G.out.below I);replace J:=a8 (J.out.below I);generalize w3.heap.size=K at Q⊢;clear N I A;have A:=a8 (z.out.2.2.2.2);have U:y3.cell? ⟨w.heap.size+1+1,2,none⟩=some (.slice none 0 0):=(by rw[z.out.2.2.1.cell];rfl);have V:=frozen_of_row y3 (w.heap.size+1+1) 2 _ _ z.out.2.2.1;have Y:y3.cell? ⟨w.heap.size,3,none⟩=some (.slice a4 D.pend.length c4):=(by rw[z.out.1.cell];rfl);go_wp2_with fail;clear U V Y;replace z:=a8 (z.out.setOut 2 (.slice (some ⟨K,0,none⟩) D.kept.length D.kept.length));replace G:=a8 (G.out.set_low (p:=⟨w.heap.size+1+1,2,none⟩) (by simp) (.slice (some ⟨K,0,none⟩) D.kept.length D.kept.length));replace J:=a8 (J.out.set_low (p:=⟨w.heap.size+1+1,2,none⟩) (by simp) (.slice (some ⟨K,0,none⟩) D.kept.length D.kept.length));replace Q:=a8 (Q.out.set_low (p:=⟨w.heap.size+1+1,2,none⟩) (by simp) (.slice (some ⟨K,0,none⟩) D.kept.length D.kept.length));generalize y3.setCell ⟨w.heap.size+1+1,2,none⟩ (.slice (some ⟨K,0,none⟩) D.kept.length D.kept.length)=w4 at z G J Q⊢;clear A;have A:=a8 (z.out.2.2.2.2);refine(yf a4 c4 D.pend w4 ak (ag.out.below z.out.2.2.2.1)).mono ?_;rintro e E ⟨rfl,N,I⟩;replace z:=a8 (z.out.below I);have ab:=a8 (N.mono (base':=w.heap.size+3) (A.out));replace G:=a8 (G.out.below I);replace J:=a8 (J.out.below I);replace Q:=a8 (Q.out.below I);generalize w4.heap.size=M at ab⊢;clear N I A;have A:=a8 (z.out.2.2.2.2);have U:E.cell? ⟨w.heap.size+1+1,3,none⟩=some (.slice none 0 0):=(by rw[z.out.2.2.1.cell];rfl);have V:=frozen_of_row E (w.heap.size+1+1) 3 _ _ z.out.2.2.1;have Y:E.cell? ⟨w.heap.size,4,none⟩=some (.int .i64 D.quota):=(by rw[z.out.1.cell];rfl);have q4:E.cell? ⟨w.heap.size+1+1,4,none⟩=some (.int .i64 0):=(by rw[z.out.2.2.1.cell];rfl);have q5:=frozen_of_row E (w.heap.size+1+1) 4 _ _ z.out.2.2.1;have k0:E.cell? ⟨w.heap.size+1+1,0,none⟩=some (.slice (some ⟨O,0,none⟩) D.nodes.length D.nodes.length):=(by rw[z.out.2.2.1.cell];rfl);have k1:E.cell? ⟨w.heap.size+1+1,1,none⟩=some (.slice (some ⟨L,0,none⟩) D.names.length D.names.length):=(by rw[z.out.2.2.1.cell];rfl);have k2:E.cell? ⟨w.heap.size+1+1,2,none⟩=some (.slice (some ⟨K,0,none⟩) D.kept.length D.kept.length):=(by rw[z.out.2.2.1.cell];rfl);have m0:E.cell? ⟨w.heap.size+1,0,none⟩=some (.slice none 0 0):=(by rw[z.out.2.1.cell];rfl);have n0:=frozen_of_row E (w.heap.size+1) 0 _ _ z.out.2.1;have m1:E.cell? ⟨w.heap.size+1,1,none⟩=some (.slice none 0 0):=(by rw[z.out.2.1.cell];rfl);have n1:=frozen_of_row E (w.heap.size+1) 1 _ _ z.out.2.1;have m2:E.cell? ⟨w.heap.size+1,2,none⟩=some (.slice none 0 0):=(by rw[z.out.2.1.cell];rfl);have n2:=frozen_of_row E (w.heap.size+1) 2 _ _ z.out.2.1;have m3:E.cell? ⟨w.heap.size+1,3,none⟩=some (.slice none 0 0):=(by rw[z.out.2.1.cell];rfl);have n3:=frozen_of_row E (w.heap.size+1) 3 _ _ z.out.2.1;have m4:E.cell? ⟨w.heap.size+1,4,none⟩=some (.int .i64 0):=(by rw[z.out.2.1.cell];rfl);have n4:=frozen_of_row E (w.heap.size+1) 4 _ _ z.out.2.1;go_wp2;have R:=(((((((z.out.setOut 3 (.slice (some ⟨M,0,none⟩) D.pend.length D.pend.length)).setOut 4 (.int .i64 D.quota)).setRes 0 (.slice (some ⟨O,0,none⟩) D.nodes.length D.nodes.length)).setRes 1 (.slice (some ⟨L,0,none⟩) D.names.length D.names.length)).setRes 2 (.slice (some ⟨K,0,none⟩) D.kept.length D.kept.length)).setRes 3 (.slice (some ⟨M,0,none⟩) D.pend.length D.pend.length)).setRes 4 (.int .i64 D.quota))
 have p1:=(((((((G.out.set_low (p:=⟨w.heap.size+1+1,3,none⟩) (by simp) (.slice (some ⟨M,0,none⟩) D.pend.length D.pend.length)).set_low (p:=⟨w.heap.size+1+1,4,none⟩) (by simp) (.int .i64 D.quota)).set_low (p:=⟨w.heap.size+1,0,none⟩) (by simp) (.slice (some ⟨O,0,none⟩) D.nodes.length D.nodes.length)).set_low (p:=⟨w.heap.size+1,1,none⟩) (by simp) (.slice (some ⟨L,0,none⟩) D.names.length D.names.length)).set_low (p:=⟨w.heap.size+1,2,none⟩) (by simp) (.slice (some ⟨K,0,none⟩) D.kept.length D.kept.length)).set_low (p:=⟨w.heap.size+1,3,none⟩) (by simp) (.slice (some ⟨M,0,none⟩) D.pend.length D.pend.length)).set_low (p:=⟨w.heap.size+1,4,none⟩) (by simp) (.int .i64 D.quota))
 have p2:=(((((((J.out.set_low (p:=⟨w.heap.size+1+1,3,none⟩) (by simp) (.slice (some ⟨M,0,none⟩) D.pend.length D.pend.length)).set_low (p:=⟨w.heap.size+1+1,4,none⟩) (by simp) (.int .i64 D.quota)).set_low (p:=⟨w.heap.size+1,0,none⟩) (by simp) (.slice (some ⟨O,0,none⟩) D.nodes.length D.nodes.length)).set_low (p:=⟨w.heap.size+1,1,none⟩) (by simp) (.slice (some ⟨L,0,none⟩) D.names.length D.names.length)).set_low (p:=⟨w.heap.size+1,2,none⟩) (by simp) (.slice (some ⟨K,0,none⟩) D.kept.length D.kept.length)).set_low (p:=⟨w.heap.size+1,3,none⟩) (by simp) (.slice (some ⟨M,0,none⟩) D.pend.length D.pend.length)).set_low (p:=⟨w.heap.size+1,4,none⟩) (by simp) (.int .i64 D.quota))
 have p3:=(((((((Q.out.set_low (p:=⟨w.heap.size+1+1,3,none⟩) (by simp) (.slice (some ⟨M,0,none⟩) D.pend.length D.pend.length)).set_low (p:=⟨w.heap.size+1+1,4,none⟩) (by simp) (.int .i64 D.quota)).set_low (p:=⟨w.heap.size+1,0,none⟩) (by simp) (.slice (some ⟨O,0,none⟩) D.nodes.length D.nodes.length)).set_low (p:=⟨w.heap.size+1,1,none⟩) (by simp) (.slice (some ⟨L,0,none⟩) D.names.length D.names.length)).set_low (p:=⟨w.heap.size+1,2,none⟩) (by simp) (.slice (some ⟨K,0,none⟩) D.kept.length D.kept.length)).set_low (p:=⟨w.heap.size+1,3,none⟩) (by simp) (.slice (some ⟨M,0,none⟩) D.pend.length D.pend.length)).set_low (p:=⟨w.heap.size+1,4,none⟩) (by simp) (.int .i64 D.quota))
 have p4:=(((((((ab.out.set_low (p:=⟨w.heap.size+1+1,3,none⟩) (by simp) (.slice (some ⟨M,0,none⟩) D.pend.length D.pend.length)).set_low (p:=⟨w.heap.size+1+1,4,none⟩) (by simp) (.int .i64 D.quota)).set_low (p:=⟨w.heap.size+1,0,none⟩) (by simp) (.slice (some ⟨O,0,none⟩) D.nodes.length D.nodes.length)).set_low (p:=⟨w.heap.size+1,1,none⟩) (by simp) (.slice (some ⟨L,0,none⟩) D.names.length D.names.length)).set_low (p:=⟨w.heap.size+1,2,none⟩) (by simp) (.slice (some ⟨K,0,none⟩) D.kept.length D.kept.length)).set_low (p:=⟨w.heap.size+1,3,none⟩) (by simp) (.slice (some ⟨M,0,none⟩) D.pend.length D.pend.length)).set_low (p:=⟨w.heap.size+1,4,none⟩) (by simp) (.int .i64 D.quota))
 have r0:=R.2.1.cell 0;have Z:=R.2.1.cell 1;have r2:=R.2.1.cell 2;have r3:=R.2.1.cell 3;have r4:=R.2.1.cell 4;simp at r0 Z r2 r3 r4;refine bodyPost_ret (v:= .agg #[.slice (some ⟨O,0,none⟩) D.nodes.length D.nodes.length,.slice (some ⟨L,0,none⟩) D.names.length D.names.length,.slice (some ⟨K,0,none⟩) D.kept.length D.kept.length,.slice (some ⟨M,0,none⟩) D.pend.length D.pend.length,.int .i64 D.quota]) (by simp[results,Tryz.results6,go_sem,r0,Z,r2,r3,r4]) rfl ⟨_,rfl,⟨_,_,_,_,rfl,p1.mono (by omega),p2.mono (by omega),p3.mono (by omega),p4.mono (by omega)⟩,R.2.2.2.1⟩
theorem wI(s:ByteArray)(n:Int)(w:World):
  Calls Tryz.prog 49 #[.agg #[.string s,.int .i64 n],.agg #[.string s,.int .i64 n]] w fun e w'=>e= .returned (.bool true)∧Below w.heap.size w w':=by
 go_enter Tryz.func49,Tryz.ntmps49;go_wp2;go_ret;exact⟨rfl,((MJ _ _).alloc (MH _) _).alloc (by simp) _⟩
theorem nP(a Q:Option Addr)(cap Y:Nat)(z:List (ByteArray×Int))(w:World)(hl:z.length≤9223372036854775807)(V:fi w a z)(N:fi w Q z):
  Calls Tryz.prog 25 #[.slice a z.length cap,.slice Q z.length Y] w fun e w'=>e= .returned (.bool true)∧Below w.heap.size w w':=by
 go_enter Tryz.func25,Tryz.ntmps25;go_wp2;go_loopw [5] (fun i wr=>∃k:Nat,k≤z.length∧i= .int .i64 k∧Below w.heap.size w wr) (fun i _=>z.length-(intOf i).toNat)
 case atStart=>exact⟨0,MQ _,rfl,MJ _ _⟩
 case round=>
  obtain⟨k,hk,rfl,A⟩:=hrel;by_cases M:k<z.length
  ·obtain⟨b,ab,rfl,U⟩:=(V.below A) (by omega)
   obtain⟨b',aa,rfl,G⟩:=(N.below A) (by omega)
   obtain⟨I,J⟩:=U k M;obtain⟨K,L⟩:=G k M;have O:=a8 A;clear U G V N A;generalize z[k].1=s0 at I K;generalize z[k].2=n0 at J L;go_wp2;go_region_with (go_at_call 49;refine(wI s0 n0 _).mono ?_;rintro e w2 ⟨rfl,R⟩)
   all_goals
    have E:Below w.heap.size w w2:=O.out.drew.trans (R.mono O.out.size);have Z:=a8 E;clear E R I J K L;go_wp2;go_roundw
    case rel=>exact⟨k+1,by omega,by go_num,Z.out⟩
    case measure=>simp[intOf];omega
  ·go_wp2;go_ret;exact⟨rfl,A⟩
theorem wH(k:Int)(s t:ByteArray)(n:Int)(w:World):
  Calls Tryz.prog 50 #[.agg #[.int .i64 k,.string s,.string t,.int .i64 n],.agg #[.int .i64 k,.string s,.string t,.int .i64 n]] w fun e w'=>e= .returned (.bool true)∧Below w.heap.size w w':=by
 go_enter Tryz.func50,Tryz.ntmps50;go_wp2;go_ret;exact⟨rfl,((MJ _ _).alloc (MH _) _).alloc (by simp) _⟩
theorem tX(a V:Option Addr)(cap aa:Nat)(z:List (Int×ByteArray×ByteArray×Int))(w:World)(hl:z.length≤9223372036854775807)(hr:ob w a z)(R:ob w V z):
  Calls Tryz.prog 26 #[.slice a z.length cap,.slice V z.length aa] w fun e w'=>e= .returned (.bool true)∧Below w.heap.size w w':=by
 go_enter Tryz.func26,Tryz.ntmps26;go_wp2;go_loopw [5] (fun i wr=>∃k:Nat,k≤z.length∧i= .int .i64 k∧Below w.heap.size w wr) (fun i _=>z.length-(intOf i).toNat)
 case atStart=>exact⟨0,MQ _,rfl,MJ _ _⟩
 case round=>
  obtain⟨k,hk,rfl,A⟩:=hrel;by_cases Q:k<z.length
  ·obtain⟨b,ad,rfl,Z⟩:=(hr.below A) (by omega)
   obtain⟨b',ac,rfl,G⟩:=(R.below A) (by omega)
   obtain⟨I,J,K,L⟩:=Z k Q;obtain⟨M,N,hd2,O⟩:=G k Q;have U:=a8 A;clear Z G hr R A;generalize z[k].1=k0 at I M;generalize z[k].2.1=s0 at J N;generalize z[k].2.2.1=t0 at K hd2;generalize z[k].2.2.2=n0 at L O;go_wp2;go_region_with (go_at_call 50;refine(wH k0 s0 t0 n0 _).mono ?_;rintro e w2 ⟨rfl,Y⟩)
   all_goals
    have E:Below w.heap.size w w2:=U.out.drew.trans (Y.mono U.out.size);have ab:=a8 E;clear E Y I J K L M N hd2 O;go_wp2;go_roundw
    case rel=>exact⟨k+1,by omega,by go_num,ab.out⟩
    case measure=>simp[intOf];omega
  ·go_wp2;go_ret;exact⟨rfl,A⟩
theorem yN(a A:Option Addr)(l:List Nat)(cap E:Nat)(z:Int)(w:World)(hl:l.length≤9223372036854775807)(V:dW w a l)(Q:dW w A l):
  Calls Tryz.prog 48 #[.agg #[.slice a l.length cap,.int .i64 z],.agg #[.slice A l.length E,.int .i64 z]] w fun e w'=>e= .returned (.bool true)∧Below w.heap.size w w':=by
 have J:∀G I:Obj,Below w.heap.size w ((w.alloc G).alloc I):=fun _ _=>((MJ _ _).alloc (MH _) _).alloc (by simp) _;have U:=a8 (fun G I=>V.below (J G I));have O:=a8 (fun G I=>Q.below (J G I));have R:=a8 J;clear J V Q;go_enter Tryz.func48,Tryz.ntmps48;go_wp2_with fail;refine(qs a A cap E l l _ hl (U.out _ _) (O.out _ _)).mono ?_;rintro e w2 ⟨rfl,n,rfl⟩;rw[decide_eq_true (rfl:l=l)];have Y:dZ ((w.alloc (.cells #[.slice a l.length cap,.int .i64 z] 91)).alloc (.cells #[.slice A l.length E,.int .i64 z] 91)) w.heap.size #[.slice a l.length cap,.int .i64 z] 91:=dZ.below (B:=w.heap.size+1) (dZ.new w _ _) ((MJ _ _).alloc (by simp) _) (by omega);have N:=dZ.new (w.alloc (.cells #[.slice a l.length cap,.int .i64 z] 91)) #[.slice A l.length E,.int .i64 z] 91;rw[show(w.alloc (.cells #[.slice a l.length cap,.int .i64 z] 91)).heap.size=w.heap.size+1 from by simp] at N;have K:=below_drewN (R.out (.cells #[.slice a l.length cap,.int .i64 z] 91) (.cells #[.slice A l.length E,.int .i64 z] 91)) n;have L:dZ (((w.alloc (.cells #[.slice a l.length cap,.int .i64 z] 91)).alloc (.cells #[.slice A l.length E,.int .i64 z] 91)).drewN n) w.heap.size #[.slice a l.length cap,.int .i64 z] 91:=by
  have h:=below_drewN (MJ (w.heap.size+1) ((w.alloc (.cells #[.slice a l.length cap,.int .i64 z] 91)).alloc (.cells #[.slice A l.length E,.int .i64 z] 91))) n;exact Y.below h (by omega)
 have M:dZ (((w.alloc (.cells #[.slice a l.length cap,.int .i64 z] 91)).alloc (.cells #[.slice A l.length E,.int .i64 z] 91)).drewN n) (w.heap.size+1) #[.slice A l.length E,.int .i64 z] 91:=by
  have h:=below_drewN (MJ (w.heap.size+2) ((w.alloc (.cells #[.slice a l.length cap,.int .i64 z] 91)).alloc (.cells #[.slice A l.length E,.int .i64 z] 91))) n;exact N.below h (by omega)
 generalize (((w.alloc (.cells #[.slice a l.length cap,.int .i64 z] 91)).alloc (.cells #[.slice A l.length E,.int .i64 z] 91)).drewN n)=Z at K L M⊢;have q0:Z.cell? ⟨w.heap.size,1,none⟩=some (.int .i64 z):=(by rw[L.cell];rfl);have q1:Z.cell? ⟨w.heap.size+1,1,none⟩=some (.int .i64 z):=(by rw[M.cell];rfl);have HN:=a8 K;clear Y N L M K U O R;go_wp2;go_ret;exact⟨rfl,HN.out⟩
theorem wK(a a':Option Addr)(cap aa:Nat)(z:List (List Nat×Int))(w:World)(hl:z.length≤9223372036854775807)(V:∀e∈z,e.1.length≤9223372036854775807)(hr:iC w a z)(Y:iC w a' z):
  Calls Tryz.prog 24 #[.slice a z.length cap,.slice a' z.length aa] w fun e w'=>e= .returned (.bool true)∧Below w.heap.size w w':=by
 go_enter Tryz.func24,Tryz.ntmps24;go_wp2;go_loopw [5] (fun i wr=>∃k:Nat,k≤z.length∧i= .int .i64 k∧Below w.heap.size w wr) (fun i _=>z.length-(intOf i).toNat)
 case atStart=>exact⟨0,MQ _,rfl,MJ _ _⟩
 case round=>
  obtain⟨k,hk,rfl,A⟩:=hrel;by_cases E:k<z.length
  ·obtain⟨b,af,rfl,hc⟩:=(hr.below A) (by omega)
   obtain⟨b',ae,rfl,M⟩:=(Y.below A) (by omega)
   obtain⟨ai,ci,N,O,Z⟩:=hc k E;obtain⟨ac,ad,Q,R,J⟩:=M k E;have U:=V _ (MO E);have L:=a8 Z;have G:=a8 J;have K:=a8 U;have HN:=a8 A;clear hc M hr Y A Z J U V;generalize z[k].1=l0 at N Q L G K;generalize z[k].2=n0 at O R;go_wp2;go_region_with (go_at_call 48;refine(yN ai ac l0 ci ad n0 _ K.out (L.out.drew 1) (G.out.drew 1)).mono ?_;rintro e w2 ⟨rfl,hb⟩)
   all_goals
    have I:Below w.heap.size w w2:=HN.out.drew.trans (hb.mono HN.out.size);have ab:=a8 I;clear I hb N O Q R;go_wp2;go_roundw
    case rel=>exact⟨k+1,by omega,by go_num,ab.out⟩
    case measure=>simp[intOf];omega
  ·go_wp2;go_ret;exact⟨rfl,A⟩
def TE(w wj:World)(B:Nat)(A A':Array Value):Prop:=dZ wj B A 37∧dZ wj (B+1) A' 37∧Below B w wj
theorem TE.start(w:World)(A z:Array Value):TE w ((w.alloc (.cells A 37)).alloc (.cells z 37)) w.heap.size A z:=by
 refine⟨dZ.below (B:=w.heap.size+1) (dZ.new w _ _) ((MJ _ _).alloc (by simp) _) (by omega),?_,(nAl w _).alloc (by simp) _⟩;have h:=dZ.new (w.alloc (.cells A 37)) z 37;rw[show(w.alloc (.cells A 37)).heap.size=w.heap.size+1 from by simp] at h;exact h
theorem TE.below{G:World}{A I:Array Value}(h:TE w G B A I)(E:Below G.heap.size G w'):TE w w' B A I:=by
 obtain⟨z,J,K⟩:=h;exact⟨z.below E z.lt,J.below E J.lt,K.trans (E.mono (Nat.le_of_lt z.lt))⟩
theorem yL(v v':Value)(D:dQ)(w:World)(al:D.nodes.length≤1048576)(am:D.names.length≤1048576)(an:D.kept.length≤1048576)(ao:D.pend.length≤1048576)(aa:∀e∈D.nodes,e.1.length≤1048576)(hr:iN w v D)(ak:iN w v' D):
  Calls Tryz.prog 9 #[v,v'] w fun e w'=>e= .returned (.bool true)∧Below w.heap.size w w':=by
 obtain⟨Y,Z,I,N,J,O,K,Q,rfl,r1,r2,r3,r4⟩:=hr;obtain⟨b1,d1,b2,R,L,U,M,V,rfl,s1,s2,s3,s4⟩:=ak;have ac:=a8 r1;have ad:=a8 r2;have ae:=a8 r3;have af:=a8 r4;have ag:=a8 s1;have ah:=a8 s2;have ai:=a8 s3;have aj:=a8 s4;have ab:=a8 (fun e he=>MN (aa e he) (by decide:1048576≤9223372036854775807));clear r1 r2 r3 r4 s1 s2 s3 s4 aa;go_enter Tryz.func9,Tryz.ntmps9;go_wp2_with fail;have z:=a8 (TE.start w #[.slice Y D.nodes.length Z,.slice I D.names.length N,.slice J D.kept.length O,.slice K D.pend.length Q,.int .i64 D.quota] #[.slice b1 D.nodes.length d1,.slice b2 D.names.length R,.slice L D.kept.length U,.slice M D.pend.length V,.int .i64 D.quota]);generalize ((w.alloc (.cells #[.slice Y D.nodes.length Z,.slice I D.names.length N,.slice J D.kept.length O,.slice K D.pend.length Q,.int .i64 D.quota] 37)).alloc (.cells #[.slice b1 D.nodes.length d1,.slice b2 D.names.length R,.slice L D.kept.length U,.slice M D.pend.length V,.int .i64 D.quota] 37))=w1 at z⊢;refine(wK Y b1 Z d1 D.nodes w1 (by omega) ab.out (ac.out.below z.out.2.2) (ag.out.below z.out.2.2)).mono ?_;rintro e w2 ⟨rfl,A⟩;replace z:=a8 (z.out.below A);clear A;have E:w2.cell? ⟨w.heap.size,1,none⟩=some (.slice I D.names.length N):=(by rw[z.out.1.cell];rfl);have G:w2.cell? ⟨w.heap.size+1,1,none⟩=some (.slice b2 D.names.length R):=(by rw[z.out.2.1.cell];rfl);go_wp2_with fail;clear E G;refine(nP I b2 N R D.names w2 (by omega) (ad.out.below z.out.2.2) (ah.out.below z.out.2.2)).mono ?_;rintro e w3 ⟨rfl,A⟩;replace z:=a8 (z.out.below A);clear A;have E:w3.cell? ⟨w.heap.size,2,none⟩=some (.slice J D.kept.length O):=(by rw[z.out.1.cell];rfl);have G:w3.cell? ⟨w.heap.size+1,2,none⟩=some (.slice L D.kept.length U):=(by rw[z.out.2.1.cell];rfl);go_wp2_with fail;clear E G;refine(nP J L O U D.kept w3 (by omega) (ae.out.below z.out.2.2) (ai.out.below z.out.2.2)).mono ?_;rintro e w4 ⟨rfl,A⟩;replace z:=a8 (z.out.below A);clear A;have E:w4.cell? ⟨w.heap.size,3,none⟩=some (.slice K D.pend.length Q):=(by rw[z.out.1.cell];rfl);have G:w4.cell? ⟨w.heap.size+1,3,none⟩=some (.slice M D.pend.length V):=(by rw[z.out.2.1.cell];rfl);go_wp2_with fail;clear E G;refine(tX K M Q V D.pend w4 (by omega) (af.out.below z.out.2.2) (aj.out.below z.out.2.2)).mono ?_;rintro e w5 ⟨rfl,A⟩;replace z:=a8 (z.out.below A);clear A;have E:w5.cell? ⟨w.heap.size,4,none⟩=some (.int .i64 D.quota):=(by rw[z.out.1.cell];rfl);have G:w5.cell? ⟨w.heap.size+1,4,none⟩=some (.int .i64 D.quota):=(by rw[z.out.2.1.cell];rfl);go_wp2;go_ret;exact⟨rfl,z.out.2.2⟩
theorem AS(d:List Nat)(f:Nat)(rs:List (List Nat))(g:Nat)(A:rs.length+lj rs≤g)(E:g≤d.length):(jX d f rs g).1.length+lj (jX d f rs g).1≤d.length:=by
 induction f generalizing rs g with
 |zero=>simp only[jX];omega
 |succ f ih=>
  simp only[jX];split
  ·simp only;omega
  ·next r hr=>
   have z:=mB hr;simp at z;refine ih _ _ ?_ (by omega);rw[MT,mR];simp[lj];omega
theorem kj(d:List Nat):(dP d).1.length+lj (dP d).1≤40000:=by
 unfold dP;split
 ·simp[lj]
 ·have:=AS d d.length [] 0 (by simp[lj]) (by omega);omega
def fA(nm t:ByteArray):Value:= .iface 100 (.agg #[.string nm,.iface 98 (.string t)])
theorem yo(t:ByteArray)(w:World):(Instr.typeAssert (.iface 98 (.string t)) 20 64 true).run Tryz.prog w= .ok (.tuple #[.iface 98 (.string t),.bool true]) w:=by kernel_rfl
theorem yp(w:World):(Instr.typeAssert .nilIface 20 64 true).run Tryz.prog w= .ok (.tuple #[.nilIface,.bool false]) w:=by kernel_rfl
theorem Bd(p q:Addr)(x:Value)(nm t:ByteArray)(w:World)(I:w.cell? p=some (.string nm))(G:w.cell? q=some x)(J:w.frozen? q=false):
  CallsD Tryz.prog 137 #[.pointer (some p),.pointer (some q)] (.panicking [{v:= .iface 98 (.string t),recovered:=false}]) w fun e A w'=>
   e= .returned (.tuple #[])∧A= .panicking [{v:= .iface 98 (.string t),recovered:=true}]∧w'=w.setCell q (fA nm t):=by
 refine callsD_of_wpS Tryz.func137 rfl fun E cs z=> ?_;apply wpS_seq;apply wpS_region;simp[wpOpsS,go_sem,recoverD,z,Tryz.ntmps137,Exit.thenS,yo];apply wpS_seq;apply wpS_region;simp[wpOpsS,go_sem,Exit.thenS];refine wpS_cond (t:=true) (by simp[Act.eval,Array.replicate]) ?_;simp only[if_true];refine wpS_of_wp ?_;go_wp2;simp[bodyPostS,results,Tryz.results137,fA]
theorem Be(p q:Addr)(w:World):
  CallsD Tryz.prog 137 #[.pointer (some p),.pointer (some q)] .returning w fun e E w'=>e= .returned (.tuple #[])∧E= .returning∧w'=w:=by
 refine callsD_of_wpS Tryz.func137 rfl fun z cs A=> ?_;apply wpS_seq;apply wpS_region;simp[wpOpsS,go_sem,recoverD,A,Tryz.ntmps137,Exit.thenS,yp];apply wpS_seq;apply wpS_region;simp[wpOpsS,go_sem,Exit.thenS];refine wpS_cond (t:=false) (by simp[Act.eval,Array.replicate]) ?_;simp only[Bool.false_eq_true,if_false];refine wpS_of_wp (wp_skip ?_);cases z;simp_all[bodyPostS,results,Tryz.results137]
section
variable {P:Program} {ops:Array Oper} {Q:Exit→Act→World→Prop} {md:Region.Mode} {S:World→Prop} {k:Nat}
def qT(P:Program)(md:Region.Mode)(ops:Array Oper)(Q:Exit→Act→World→Prop)(S:World→Prop)(k:Nat):Nat→Array Bool→Act→World→Prop
 |0,listed,a,w=>Region.ready md ops listed=[]∧Q .normal a w
 |fuel+1,listed,a,w=>
  (Region.ready md ops listed=[]→Q .normal a w)∧
  ∀i∈Region.ready md ops listed,wpOp P ops Q i (fun a' w'=>((listed.setIfInBounds i true).getD k true=false→S w')∧qT P md ops Q S k fuel (listed.setIfInBounds i true) a' w') a w
theorem yn:∀(fuel:Nat) (z:Array Bool) (a:Act) (w:World),qT P md ops Q S k fuel z a w→wpAny P md ops Q fuel z a w
 |0,_,_,_,h=>h
 |fuel+1,_,_,_,h=>⟨h.1,fun i G=>wpOp_mono (fun A w' E=>yn fuel _ A w' E.2) (h.2 i G)⟩
def na(md:Region.Mode)(ops:Array Oper)(listed:Array Bool):Prop:=∀j o,ops[j]? =some o→listed.getD j true=true→∀e∈o.after,Region.binds md e=true→listed.getD e.on false=true
def wy(md:Region.Mode)(ops:Array Oper)(listed:Array Bool):Bool:=
 (List.range ops.size).all fun j=>match ops[j]? with
  |some o=> !(listed.getD j true)||o.after.all fun e=> !(Region.binds md e)||listed.getD e.on false
  |none=>true
theorem wB{E:Array Bool}(h:wy md ops E=true):na md ops E:=by
 intro j o A L e J I;have K:j<ops.size:=by
  rcases NB j ops.size with h|h
  ·exact h
  ·rw[Array.getElem?_eq_none h] at A;cases A
 have z:=List.all_eq_true.1 h j (List.mem_range.2 K);rw[A] at z;simp only[L,Bool.not_true,Bool.false_or] at z;have G:=Array.all_eq_true'.1 z e J;simpa[I] using G
theorem na.set{z:Array Bool}{i:Nat}(h:na md ops z)(M:i∈Region.ready md ops z):na md ops (z.setIfInBounds i true):=by
 intro j o K J e I G;by_cases A:i=j
 ·subst A;obtain⟨_,N,E,L⟩:=mem_ready.1 M;rw[K] at E;cases E;exact getD_set_true (L e I G)
 ·rw[getD_set_ne true A] at J;exact getD_set_true (h j o K J e I G)
def qe(md:Region.Mode)(ops:Array Oper)(i:Nat):Nat→Nat→Bool
 |0,_=>false
 |n+1,k=>match ops[k]? with
  |some o=>o.after.any fun e=>Region.binds md e&&(e.on==i||qe md ops i n e.on)
  |none=>false
theorem mV{z:Array Bool}{i:Nat}(J:na md ops z):∀(n k:Nat),qe md ops i n k=true→(∀o,ops[k]? =some o→∀e∈o.after,Region.binds md e=true→z.getD e.on false=true)→z.getD i false=true
 |0,_,h,_=>by cases h
 |n+1,k,h,ha=>by
  unfold qe at h;cases ho:ops[k]? with
  |none=>rw[ho] at h;cases h
  |some o=>
   rw[ho] at h;simp only[Array.any_eq_true'] at h;obtain⟨e,O,E⟩:=h;rw[Bool.and_eq_true,Bool.or_eq_true] at E;have I:=ha o ho e O E.1;rcases E.2 with G|G
   ·have:=eq_of_beq G;rw[←this];exact I
   ·refine mV J n e.on G (fun Q M N L K=>J e.on Q M ?_ N L K);rcases NB e.on z.size with A|A
    ·simpa[A] using I
    ·simp[Array.getElem?_eq_none A] at I
theorem A9{i:Nat}{L:Oper}{v:Value}(hi:ops[i]? =some L)(ah:∀(j:Nat) (o:Oper) cs b,ops[j]? =some o→o.op≠.select cs b)
  (hQ:∀c a w,Q (.panic c) (a.put L.dst v) w→Q (.panic c) a w) (n:Nat) (ak:qe md ops i n k=true):
  ∀(fuel:Nat) (z:Array Bool) (a:Act) (w:World),
   (∀j M,ops[j]? =some M→j≠i→z.getD j true=false→(∀e∈M.after,Region.binds md e=true→e.on≠i)→L.apart ops M=true)→
   i∈Region.ready md ops z→YieldsIf P ops S L v a→S w→na md ops z→z.getD k true=false→
   qT P md ops Q S k fuel (z.setIfInBounds i true) (a.put L.dst v) w→qT P md ops Q S k (fuel+1) z a w:=by
 intro fuel
 induction fuel with
 |zero=>
  intro z a w _ E Z O _ _ H;refine⟨fun h=>(by rw[h] at E;cases E),fun j R=> ?_⟩;by_cases I:j=i
  ·subst I;exact Z.wpOp hi O ⟨fun _=>O,H⟩
  ·have:=ready_mono R I;rw[H.1] at this;cases this
 |succ fuel ih=>
  intro z a w ad E Z O ab ai H;refine⟨fun h=>(by rw[h] at E;cases E),fun j R=> ?_⟩;by_cases I:j=i
  ·subst I;exact Z.wpOp hi O ⟨fun _=>O,H⟩
  ·have K:=H.2 j (ready_mono R I);obtain⟨af,M,V,ae⟩:=mem_ready.1 R;have an:∀e∈M.after,Region.binds md e=true→e.on≠i:=fun e he hb ao=>by
    have K:=ae e he hb;have J:=(mem_ready.1 E).1;rw[ao] at K;rcases NB i z.size with A|A
    ·simp[A] at J K;rw[J] at K;cases K
    ·simp[Array.getElem?_eq_none A] at K
   have N:j≠k:=fun e=>by
    have G:=mV ab n k ak (fun o U e' ac aa=>by
     rw[←e,V] at U;cases U;exact ae e' ac aa)
    have J:=(mem_ready.1 E).1;rcases NB i z.size with A|A
    ·simp[A] at J G;rw[J] at G;cases G
    ·simp[Array.getElem?_eq_none A] at G
   have ap:i≠k:=fun e=>by
    subst e;have G:=mV ab n i ak (fun o U e' ac aa=>by
     obtain⟨_,o',av,am⟩:=mem_ready.1 E;rw[av] at U;cases U;exact am e' ac aa)
    have J:=(mem_ready.1 E).1;rcases NB i z.size with A|A
    ·simp[A] at J G;rw[J] at G;cases G
    ·simp[Array.getElem?_eq_none A] at G
   have ar:(z.setIfInBounds j true).getD k true=false:=(by rw[getD_set_ne true N];exact ai);have ag:((z.setIfInBounds i true).setIfInBounds j true).getD k true=false:=(by rw[getD_set_ne true N,getD_set_ne true ap];exact ai);have h2:=wpOp_putIf V (ad j M V I af an) (fun cs b=>ah i L cs b hi) (fun cs b=>ah j M cs b V) hQ Z K;have al:∀k ok,ops[k]? =some ok→k≠i→(z.setIfInBounds j true).getD k true=false→
     (∀e∈ok.after,Region.binds md e=true→e.on≠i)→L.apart ops ok=true:=fun k ok hk aq aj au=>by
    refine ad k ok hk aq ?_ au;by_cases N:j=k
    ·subst N;exact af
    ·rw[getD_set_ne true N] at aj;exact aj
   refine wpOp_mono (fun a' w' Y=>⟨fun _=>Y.2.1 ag,ih (z.setIfInBounds j true) a' w' al (ready_mono E (Ne.symm I)) Y.1 (Y.2.1 ag) (ab.set R) ar ?_⟩) h2;rw[Array.setIfInBounds_comm _ _ I];exact Y.2.2
theorem DN(i:Nat){A:Oper}(v:Value){E:Nat}{z:Array Bool}{a:Act}{w:World}(G:ops[i]? =some A)
  (R:Region.noSelect ops=true) (M:Region.free md ops z i=true) (O:(Region.ready md ops z).contains i=true)
  (J:qe md ops i 16 k=true) (I:wy md ops z=true) (N:z.getD k true=false)
  (K:∀c a w,Q (.panic c) (a.put A.dst v) w→Q (.panic c) a w) (U:YieldsIf P ops S A v a) (L:S w)
  (h:qT P md ops Q S k E (z.setIfInBounds i true) (a.put A.dst v) w):qT P md ops Q S k (E+1) z a w:=
 A9 G (Region.noSelect_spec R) K 16 J E z a w (Region.free_spec G M) (by simpa using O) U L (wB I) N h
theorem d7(i:Nat){A:Oper}(v:Value){E:Nat}{z:Array Bool}{a:Act}{w:World}(M:ops[i]? =some A)(J:∀c a w,Q (.panic c) (a.put A.dst v) w→Q (.panic c) a w)(U:YieldsIf P ops S A v a)(K:S w)(h:qT P md ops Q S k E (z.setIfInBounds i true) (a.put A.dst v) w)(R:Region.noSelect ops=true:=by kernel_rfl)(L:Region.free md ops z i=true:=by kernel_rfl)(O:(Region.ready md ops z).contains i=true:=by kernel_rfl)(I:qe md ops i 16 k=true:=by kernel_rfl)(G:wy md ops z=true:=by kernel_rfl)(N:z.getD k true=false:=by kernel_rfl):qT P md ops Q S k (E+1) z a w:=DN i v M R L O I G N J U K h
theorem dJ(a:Act)(d:Option Tmp)(v:Value):a.put d v=match d with
 |some t=>{a with tmps:=a.tmps.setIfInBounds t v}
 |none=>a:=rfl
theorem dK{α:Type}(l:List α)(i:Nat)(a:α):l.toArray.setIfInBounds i a=(l.set i a).toArray:=Nu ..
theorem dL{α:Type}(x:α)(l:List α)(a:α):(x::l).set 0 a=a::l:=rfl
theorem dM{α:Type}(x:α)(l:List α)(n:Nat)(a:α):(x::l).set (n+1) a=x::l.set n a:=rfl
theorem ee(i:Nat){o:Oper}{E:Nat}{z:Array Bool}{a:Act}{w:World}(R:ops[i]? =some o)(J:Region.ready md ops z=[i])
  (h:∀K:Act→World→Prop,(∀A w',((z.setIfInBounds i true).getD k true=false→S w')→qT P md ops Q S k E (z.setIfInBounds i true) A w'→K A w')→if Region.wanted o (yielded ops a.tmps)=true then Oper.wp P o a w K Q else K (a.put o.dst undef) w):qT P md ops Q S k (E+1) z a w:=by
 refine⟨fun G=>(by rw[J] at G;cases G),fun j I=> ?_⟩;rw[J,M9] at I;subst I;exact wpOp_step R (fun L O=>h L (fun A w' M N=>O A w' ⟨M,N⟩))
theorem fI{z:Array Bool}{a:Act}{w:World}(A:Region.ready md ops z=[])(h:Q .normal a w):
  ∀E,qT P md ops Q S k E z a w
 |0=>⟨A,h⟩
 |_+1=>⟨fun _=>h,by rw[A];simp⟩
theorem gD{A:Nat}{a:Act}{w:World}(z:P.follows .mixedOrders=true)(S:World→Prop)(k:Nat)
  (h:qT P .any ops Q S k ops.size (Array.replicate ops.size false) a w.drew):(Code.region A ops true).wp P Q a w:=
 wp_region_any z (yn _ _ _ _ h)
end
theorem Tryz.sizeBuilder:(Tryz.prog.info? 223).map (·.size)=some 2:=by kernel_rfl
theorem Tryz.liesBuilder:liesAt Tryz.prog Tryz.prog.depth 223 (2/Tryz.prog.cellsOf 223) 0 223 1=true:=by kernel_rfl
theorem Tryz.cellsByte:Tryz.prog.cellsOf 5=1:=by kernel_rfl
theorem qU(b:Nat)(w:World)(I:w.cell? ⟨b,0,none⟩=some (.pointer none))(z:w.shape? b=some (223,2))(G:w.frozen? ⟨b,0,none⟩=false):
  Calls Tryz.prog 160 #[.pointer (some ⟨b,0,none⟩)] w fun e w'=>e= .returned (.tuple #[])∧w'=w.setCell ⟨b,0,none⟩ (.pointer (some ⟨b,0,none⟩)):=by
 obtain⟨j,A,E⟩:=Option.map_eq_some_iff.1 Tryz.sizeBuilder;go_enter Tryz.func160,Tryz.ntmps160;go_wp2;rw[Lib.run_to_unsafe w ⟨b,0,none⟩ Tryz.underlying221 Tryz.underlying154 A (by rw[E];decide) z (Nat.zero_lt_succ 1)];simp only[Result.andThen];rw[Oper.upon_value];go_wp2;rw[run_callFunc_extern Tryz.func190 (by kernel_rfl) (by kernel_rfl) (by kernel_rfl) (e:=Extern.AbiNoEscape.same) (by kernel_rfl)];rw[Lib.run_noEscape];simp only[Result.andThen];rw[Oper.upon_value];go_wp2;rw[Lib.run_from_unsafe w ⟨b,0,none⟩ Tryz.underlying154 Tryz.underlying221 A z Tryz.liesBuilder];simp only[Result.andThen];rw[Oper.upon_value];go_wp2
 go_end0
 exact⟨rfl,rfl⟩
theorem rK(b:Nat)(w:World)(E:w.cell? ⟨b,0,none⟩=some (.pointer (some ⟨b,0,none⟩))):
  Calls Tryz.prog 160 #[.pointer (some ⟨b,0,none⟩)] w fun e w'=>e= .returned (.tuple #[])∧w'=w:=by
 obtain⟨j,z,A⟩:=Option.map_eq_some_iff.1 Tryz.sizeBuilder;go_enter Tryz.func160,Tryz.ntmps160;go_wp2;rw[Lib.run_neq_ptr_same w ⟨b,0,none⟩ Tryz.underlying221 z];simp only[Result.andThen];rw[Oper.upon_value];go_wp2
 go_end0
 exact⟨rfl,rfl⟩
theorem tQ(B b:Nat)(bs:List Value)(w:World)(h:Lib.IsBuilder 223 5 B b bs w):
  Calls Tryz.prog 160 #[.pointer (some ⟨b,0,none⟩)] w fun e w'=>e= .returned (.tuple #[])∧Lib.BuilderAt 223 5 B b (.pointer (some ⟨b,0,none⟩)) bs w'∧Below B w w':=by
 rcases h with h|h
 ·refine(qU b w h.cell0 h.shape h.frozen0).mono ?_;rintro e w' ⟨rfl,rfl⟩;exact⟨rfl,h.used _,(MJ B w).setCell (p:=⟨b,0,none⟩) h.1 _⟩
 ·refine(rK b w h.cell0).mono ?_;rintro e w' ⟨rfl,rfl⟩;exact⟨rfl,h,MJ B _⟩
theorem pE(B:Nat)(v:Value)(l:List Nat)(r:Nat)(w:World)(O:r<128)(A:dO w B v l)(N:l.length≤1048576)(M:B≤w.heap.size):
  Calls Tryz.prog 161 #[v,.int .i32 (r:Int)] w fun e w'=>∃z,e= .returned z∧dO w' B z (l++[r])∧∃o,(w.alloc o).grownBy w' v.ownBlock:=by
 have L:(r:Int)≤127:=(by omega);have K:(0:Int)≤(r:Int):=(by omega);have E:=xJ w r;have J:=A.alloc1 (.cells #[.int .u8 (r:Int)] 5);go_enter Tryz.func161,Tryz.ntmps161;go_wp2_with (at_builtin;refine ez _ rfl _ _ rfl B v l [r] rfl J _ _ rfl E (by simp) (by simp;omega) (by simp;omega) ?_;intro v5 Q I G)
 go_ret;exact⟨v5,rfl,I,_,G⟩
def l9(w:World)(b:Nat)(l:List Nat):Prop:=Lib.IsBuilder 223 5 b b (l.map bv) w∧(l=[]→w.cell? ⟨b,1,none⟩=some (.slice none 0 0))
theorem l9.lt{b:Nat}(h:l9 w b l):b<w.heap.size:=by
 rcases h.1 with h|h<;>exact h.lt
theorem l9.below{b:Nat}(h:l9 w b l)(A:Below w.heap.size w w'):l9 w' b l:=by
 have L:=h.lt;refine⟨?_,fun e=>(A.cell (p:=⟨b,1,none⟩) L).trans (h.2 e)⟩;rcases h.1 with⟨E,v,G,z,I⟩|⟨E,v,G,z,I⟩
 ·refine .inl ⟨E,v,(A.block b L).trans G,?_,I⟩;have J:dO w b v l:=(by unfold dO;rw[MI] at z;exact z);have K:=J.below A (MH _);rw[MI];exact K
 ·refine .inr ⟨E,v,(A.block b L).trans G,?_,I⟩;have J:dO w b v l:=(by unfold dO;rw[MI] at z;exact z);have K:=J.below A (MH _);rw[MI];exact K
theorem rj(b:Nat)(l:List Nat)(r:Nat)(w:World)(Z:r<128)(h:l9 w b l)(Y:l.length≤1048576):
  Calls Tryz.prog 122 #[.pointer (some ⟨b,0,none⟩),.int .i32 (r:Int)] w fun e w'=>e= .returned (.tuple #[.int .i64 1,.nilIface])∧l9 w' b (l++[r])∧Below b w w':=by
 have ab:=h.lt;go_enter Tryz.func122,Tryz.ntmps122;go_wp2_with fail;refine(tQ b b _ w h.1).mono ?_;rintro e E ⟨rfl,U,M⟩;obtain⟨N,v,L,K,R⟩:=U;have A:dO E b v l:=(by unfold dO;rw[MI] at K;exact K);clear K;obtain⟨a,cap,rfl⟩:=A.slice;have c0:E.cell? ⟨b,0,none⟩=some (.pointer (some ⟨b,0,none⟩)):=(by rw[Lib.cell_of_heap L];rfl);have c1:E.cell? ⟨b,1,none⟩=some (.slice a l.length cap):=(by rw[Lib.cell_of_heap L];rfl);have ac:=M.size;go_wp2_with fail;refine(pE b _ l r E Z A Y (by omega)).mono ?_;rintro e J ⟨v',rfl,z,o,G⟩;have Q:b<E.heap.size:=(by omega);have I:J.heap[b]? =some (.cells #[.pointer (some ⟨b,0,none⟩),.slice a l.length cap] 223 (0,0)):=by
  rw[G.block b (by simp;omega) (fun e=>R e.symm),Lib.alloc_old E _ b Q];exact L
 have d0:J.cell? ⟨b,0,none⟩=some (.pointer (some ⟨b,0,none⟩)):=(by rw[Lib.cell_of_heap I];rfl);have d1:J.cell? ⟨b,1,none⟩=some (.slice a l.length cap):=(by rw[Lib.cell_of_heap I];rfl);have f1:J.frozen? ⟨b,1,none⟩=false:=Lib.frozen_of_heap I 1;obtain⟨a',aa,rfl⟩:=z.slice;rw[MT] at z⊢;have O:=a8 (And.intro z (And.intro G A));clear G A z;simp only[M2,List.length_nil,Ng] at O⊢;go_wp2;go_ret2;obtain⟨z,G,A⟩:=O.out;refine⟨?_,⟨Or.inr ?_,fun e=>by simp at e⟩,?_⟩
 ·have e:((l.length:Int)+1-(l.length:Int))=1:=(by omega);simp[e]
 ·exact Lib.BuilderAt.put (T:=223) (e:=5) N I (bs':=(l++[r]).map bv) (by rw[MI];exact z) (by decide)
 ·exact((M.alloc (by omega) _).grown G (by simp;omega) (fun k V=>(World.ownsRow.lt A k V).1)).setCell (p:=⟨b,1,none⟩) N _
theorem dO.cells8{l:List UInt8}:(l.map UInt8.toNat).map bv=Lib.byteCells l:=by simp[Lib.byteCells,bv]
theorem og(b:Nat)(l:List UInt8)(w:World)(h:l9 w b (l.map UInt8.toNat))(J:l≠[]):
  Calls Tryz.prog 123 #[.pointer (some ⟨b,0,none⟩)] w fun e w'=>e= .returned (.string ⟨l.toArray⟩)∧Below b w w':=by
 replace h:=h.1;rw[dO.cells8] at h;obtain⟨p,K,v,E,A,R⟩:∃p,Lib.BuilderAt 223 5 b b p (Lib.byteCells l) w:=by
  rcases h with h|h
  ·exact⟨_,h⟩
  ·exact⟨_,h⟩
 have Q:l.length≠0:=(by simpa using J);rw[Lib.byteCells_length] at A;obtain⟨g,cap,z,rfl,G,L,ac,I,N,M⟩:∃g cap z,v= .slice (some ⟨g,0,none⟩) l.length cap∧b≤g∧w.heap[g]? =some (.cells z 5 (0,0))∧l.length≤cap∧cap≤maxLen∧z.size=cap*1∧z.toList.take (l.length*1)=Lib.byteCells l:=by
  rcases A.2 with⟨_,Z⟩|⟨g,cap,z,V,r⟩
  ·exact absurd Z Q
  ·exact⟨g,cap,z,V,r⟩
 have c1:w.drew.cell? ⟨b,1,none⟩=some (.slice (some ⟨g,0,none⟩) l.length cap):=by
  have:w.drew.heap[b]? =some (.cells #[p,.slice (some ⟨g,0,none⟩) l.length cap] 223 (0,0)):=E;rw[Lib.cell_of_heap this];rfl
 have aa:(Builtin.unsafeSliceData_ #[52] 278 #[.slice (some ⟨g,0,none⟩) l.length cap]).run Tryz.prog w.drew= .ok (.pointer (some ⟨g,0,none⟩)) w.drew:=
  Lib.run_unsafeSliceData_row _ _ _ _ _ _ (by omega)
 have ab:(Builtin.unsafeString_ #[278,3] 9 #[.pointer (some ⟨g,0,none⟩),.int .i64 l.length]).run Tryz.prog w.drew= .ok (.string ⟨l.toArray⟩) (w.drew.freeze ⟨g,0,none⟩ l.length):=by
  refine Lib.run_unsafeString_row w.drew 278 3 9 5 Tryz.underlying278 Tryz.cellsByte g z.size (by have O:w.drew.heap[g]? =some (.cells z 5 (0,0)):=L;simp[World.shape?,O]) l J (by omega) (by unfold maxLen at I;omega) ?_;intro j x Y;have:=World.ownsRow.cells A (g:=g) rfl j (.int .u8 x.toNat) (by simp[Lib.byteCells,Y]);exact this
 have U:=a8 (And.intro G (And.intro K E));clear G K E A R M N I L;go_enter Tryz.func123,Tryz.ntmps123;go_wp2;go_region
 all_goals (go_wp2;go_ret;exact⟨rfl,Lib.below_freeze (Below.drew (MJ b w)) (p:=⟨g,0,none⟩) U.out.1 _⟩)
theorem oe(b:Nat)(w:World)(z:w.cell? ⟨b,1,none⟩=some (.slice none 0 0)):
  Calls Tryz.prog 123 #[.pointer (some ⟨b,0,none⟩)] w fun e w'=>e= .returned (.string ⟨#[]⟩)∧Below b w w':=by
 have E:∀W q,(Builtin.unsafeString_ #[278,3] 9 #[.pointer q,.int .i64 0]).run Tryz.prog W= .ok (.string .empty) W:=fun W q=>Lib.run_unsafeString_none W _ _ _ q;have G:w.drew.cell? ⟨b,1,none⟩=some (.slice none 0 0):=z;have A:(Builtin.unsafeSliceData_ #[52] 278 #[.slice none 0 0]).run Tryz.prog w.drew= .ok (.pointer none) w.drew:=rfl;go_enter Tryz.func123,Tryz.ntmps123;go_wp2;go_region
 all_goals (go_wp2;go_ret;exact⟨rfl,Below.drew (MJ b w)⟩)
theorem oG(b:Nat)(l:List UInt8)(w:World)(h:l9 w b (l.map UInt8.toNat)):
  Calls Tryz.prog 123 #[.pointer (some ⟨b,0,none⟩)] w fun e w'=>e= .returned (.string ⟨l.toArray⟩)∧Below b w w':=by
 cases l with
 |nil=>exact oe b w (h.2 rfl)
 |cons x r=>exact og b (x::r) w h (by simp)
end Go.Proofs.YtpdbolihakojcaaGreatDoor
