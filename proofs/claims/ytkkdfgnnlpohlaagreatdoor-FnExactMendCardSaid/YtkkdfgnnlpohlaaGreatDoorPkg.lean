import Derived.Test.YtkkdfgnnlpohlaaGreatDoorPka
import Derived.RangeFuncNested
import Derived.RangeFuncBound
import Derived.RangeFuncCalls
import Derived.RangeFuncLeaves
import Derived.Shelf.Abstract
import Derived.Shelf.RegionOpen
import Derived.OwnWalkIn
import Derived.TacticsInMore
import Derived.LoopNIn
import Derived.LoopIn
import Derived.Scope
import Derived.Lib.Builder
import Derived.Recover
import Derived.Lib.UnsafeStr
import Derived.Lib.FrozenHead
import Derived.Lib.OthersKept
namespace Go.Proofs.YtkkdfgnnlpohlaaGreatDoor
set_option maxRecDepth 20000
set_option linter.unusedVariables false
set_option linter.unusedSimpArgs false
set_option maxHeartbeats 4000000
open Go.RowKit Go.Proofs.Tryz
variable {W X Y w w' w0 wr : World} {A B at_ b b2 base' c cap e f g go gs hi i j k lo m n s u val z : Nat} {E G I J K L M N O u0 u1 u2 v0 v1 v2 v3 v4 v5 v6 x y : Value} {o : Oper} {Q : Exit → Act → World → Prop} {cs tmps : Array Value} {t : TypeId} {p : Addr} {l : List Nat} {bvs xs : List Value} {a : List UInt8} {first ok : Bool}
structure j8(n₀ bs:Nat)(W W':World):Prop where
 os:W'.os=W.os
 tape:W'.tape=W.tape
 output:W'.output=W.output
 size:W.heap.size≤W'.heap.size
 low:∀k,k<n₀→W'.heap[k]? =W.heap[k]?
 cells:∀(k:Nat) (o:Obj),W.heap[k]? =some o→o.isCells=true→k≠bs→W'.heap[k]? =some o
theorem j8.alloc(A bs:Nat)(W:World)(E:A≤W.heap.size)(o:Obj):j8 A bs W (W.alloc o):=
 ⟨rfl,rfl,rfl,by simp,fun k z=>Below.heap_alloc W o k (by omega),fun k G z _ _=>(Below.heap_alloc W o k (Array.getElem?_eq_some_iff.1 z).1).trans z⟩
theorem j8.putObj{E bs l:Nat}{W:World}{o:Obj}(G:W.heap[l]? =some o)(I:o.isCells=false)(K:E≤l)(J:Obj):j8 E bs W (W.putObj l J):=
 ⟨rfl,rfl,rfl,by simp,fun k z=>World.putObj_heap_other (by omega),fun k L z A _=>(World.putObj_heap_other (fun e=>by subst e;rw[G] at z;cases z;rw[I] at A;cases A)).trans z⟩
theorem j8.setCell{A bs:Nat}(W:World)(G:A≤bs)(v:Value):j8 A bs W (W.setCell ⟨bs,0,none⟩ v):=
 ⟨rfl,rfl,rfl,by simp,fun k z=>OQ W _ k v (by simp;omega),fun k o z _ E=>(OQ W _ k v (by simpa using E)).trans z⟩
theorem j8.drew{z bs:Nat}(W:World):j8 z bs W W.drew:=⟨rfl,rfl,rfl,OV _,fun _ _=>rfl,fun _ _ h _ _=>h⟩
theorem j8.below{z bs:Nat}{W W':World}(h:j8 z bs W W'):Below z W W':=⟨h.os,h.tape,h.output,h.size,h.low⟩
def lm(n₀ bs:Nat)(W W':World):Prop:=Below n₀ W W'∧W'.heap[bs]? =W.heap[bs]?
theorem lm.trans{z bs:Nat}{A B C:World}(h:lm z bs A B)(k:lm z bs B C):lm z bs A C:=⟨h.1.trans k.1,k.2.trans h.2⟩
theorem lm.putObj{z bs l:Nat}(W:World)(A:Obj)(I:z≤l)(E:bs<l):lm z bs W (W.putObj l A):=
 ⟨⟨rfl,rfl,rfl,by simp,fun k G=>World.putObj_heap_other (by omega)⟩,World.putObj_heap_other (by omega)⟩
def M4{α:Type}(n₀ bs:Nat)(I:List α→World→Prop)(xs:List α)(W:World):Exit→Act→World→Prop
 | .normal,_,W'=>KeepsOthers W W'∧lm n₀ bs W W'∧I xs W'
 |_,_,_=>False
variable {F:Fence} {n:Nat} {P:Program}
theorem ju{b:Frame}{a:Act}{k:List Item}{cs:List Frame}{w:World}{c:Code}:step P (lone (b.atR a (.code (.scope c)::k)) cs w)= .next (lone (b.atR a (.code c:: .inScope c::k)) cs w):=
 step_lone_go (by simp[stepG,stepG.exec,Frame.atR])
theorem wk{b:Frame}{a:Act}{k:List Item}{cs:List Frame}{w:World}{c:Code}:step P (lone (b.atR a (.inScope c::k)) cs w)= .next (lone (b.atR a k) cs w):=
 step_lone_go (by simp[stepG,stepG.exec,Frame.atR])
theorem Ez{c:Code}{Q:Exit→Act→World→Prop}{a:Act}{w:World}(h:c.wpIn F n P (Exit.noGoto Q) a w):(Code.scope c).wpIn F n P Q a w:=by
 intro b k cs O J L;have A:(lone (b.atR a (.code (.scope c)::k)) cs w).fenced P F:=fenced_calm J L rfl;obtain⟨e,G,I,E,z⟩:=h b (.inScope c::k) cs O J L;cases e with
 |normal=>exact⟨.normal,G,I,E,.head A ju (StepsIn.trans z (.one (fenced_calm J L rfl) wk))⟩
 |exit id=>
  have M:exitTo id (.inScope c::k)=exitTo id k:=(by simp[exitTo]);exact⟨.exit id,G,I,E,fun R K=> .head A ju (z.1 R (by rw[M];exact K)),fun N K=>let ⟨k1,h1,h2⟩:=z.2 N (by rw[M];exact K);⟨k1,h1,.head A ju h2⟩⟩
 |goto l=>exact E.elim
 |ret=>exact⟨_,G,I,E,.of_steps (.one A ju) z⟩
 |panic ch=>exact⟨_,G,I,E,.of_steps (.one A ju) z⟩
 |outgrown=>exact⟨_,G,I,E,.of_steps (.one A ju) z⟩
theorem wo{α:Type}{g:Operand}{Z:Array Tmp}{assign body:Code}{Q:Exit→Act→World→Prop}{a:Act}{w:World}(O bs:Nat)(ao:bs<w.heap.size)(ag:O≤bs)
  (az:F.round=none) (h1:1≤n) {gf:Nat} {lb:Array Value} (hg:a.eval g= .func (.func gf) #[] lb) (am:F.fn gf) (eg:∀args w,(callFunc gf args).run P w= .ok (.enter gf args) w)
  {encs:α→Array Value} (ay:∀x,(encs x).size=Z.size) {S:List α→Prop} (N:Nat)
  (I:List α→World→Prop) (L:∀pre W W',j8 O bs W W'→I pre W→I pre W') (h0:I [] w) (a₁:α→Act)
  (ad:∀(l:Nat) (J:List α→World→Prop) (W:World),bs<l→W.heap[bs]? =w.heap[bs]?→Below w.heap.size w W→
   (∀pre z v,J pre z→J pre (z.setCell ⟨bs,0,none⟩ v))→(∀pre z,J pre z→J pre z.drew)→
   (∀pre x z,J pre z→pre.length<N→YieldAt F (n-1-1) P l (encs x) z fun e W'=>e= .returned (.bool true)∧J (pre++[x]) W'∧lm O bs z W')→J [] W→
   CallsIn F (n-1) P gf (#[.func (.yield l) #[] #[]]++lb) W fun e W'=>(∃v,e= .returned v)∧∃xs,S xs∧J xs W')
  (ah:∀(l:Nat) (x:α) (W:World) (K:Act→World→Prop),K (a₁ x) W→
   assign.wpIn (F.inRound l) (n-1-1) P (Exit.then K (fun _ _ _=>False)) {tmps:=(Z.zip (encs x)).foldl (fun t (p,v)=>t.setIfInBounds p v) a.tmps,defers:=[]} W)
  (ac:∀(l:Nat) (pre:List α) (x:α) (W:World),I pre W→pre.length<N→w.heap.size<W.heap.size→body.wpIn (F.inRound l) (n-1-1) P (M4 O bs I (pre++[x]) W) (a₁ x) W)
  (hdone:∀(D:Nat) (xs:List α) (W:World),S xs→I xs W→w.heap.size≤D→W.heap[D]? =some (.deferred (some []))→Q .normal {a with defers:={target:= .collected D,args:= #[]}::a.defers} W):
  (Code.rangeFunc g Z assign body).wpIn F n P Q a w:=by
 refine wpIn_rangeFunc ?_;intro fn ar;rw[az];generalize R:w.heap.size=B at ao ag ad ac hdone;have A:∃rec:LoopState→Loop,∀st,rec st={state:=st,pending:=none,fn:=fn,tmps:=a.tmps,params:=Z,assign:=assign,body:=body,defers:=B}:=⟨fun st=>_,fun st=>rfl⟩
 obtain⟨rec,A⟩:=A;have G:∃z,z=(w.alloc (.deferred (some []))).alloc (.loop (rec .ready)):=⟨_,rfl⟩
 obtain⟨z,G⟩:=G;have Y:(w.alloc (.deferred (some []))).heap.size=B+1:=(by rw[OG,R]);have av:z.heap[B+1]? =some (.loop (rec .ready)):=(by rw[G,←Y];exact OP _ _);have ap:z.heap[B]? =some (.deferred (some [])):=(by rw[G,Below.heap_alloc _ _ _ (by rw[Y];omega),←R];exact OP _ _);have aa:Below w.heap.size w z:=(by rw[G];exact((OX _ w).alloc (OV _) _).alloc (by rw[Y,R];omega) _);have an:I [] z:=by
  rw[G];exact L _ _ _ (j8.alloc O bs _ (by rw[Y];omega) _) (L _ _ _ (j8.alloc O bs w (by rw[R];omega) _) h0)
 refine⟨B+1,[{target:= .collected B,args:= #[]}],z,{target:= .fn (.func gf) lb,args:= #[.func (.yield (B+1)) #[] #[]]},z,gf, #[.func (.yield (B+1)) #[] #[]]++lb,z,?_,?_,?_,?_,fun _=>h1,?_⟩
 ·rw[G,A,←R];exact run_enterLoop_outer _ _ _ _ _
 ·simp only[resolve,hg];simp[go_sem]
 ·intro f' ae;simp[Target.leads] at ae;subst ae;exact am
 ·simp[invoke,go_sem,eg]
 ·refine(ad (B+1) (fun pre W=>I pre W∧W.heap[B+1]? =some (.loop (rec .ready))∧W.heap[B]? =some (.deferred (some []))) z (by omega) (aa.block bs (by omega)) (by rw[R] at aa;exact aa) ?_ ?_ ?_ ⟨an,av,ap⟩).mono ?_
  ·rintro pre W v ⟨hi,E,M⟩;exact⟨L _ _ _ (j8.setCell W ag v) hi,(OQ W _ _ v (by simp;omega)).trans E,(OQ W _ _ v (by simp;omega)).trans M⟩
  ·rintro pre W ⟨hi,E,M⟩;exact⟨L _ _ _ (j8.drew W) hi,E,M⟩
  ·rintro pre x W ⟨hi,E,M⟩ hN;have ax:B+1<W.heap.size:=(Array.getElem?_eq_some_iff.1 E).1;have hy:=run_yield (P:=P) (args:=encs x) E (by rw[A];exact ay x);rw[A] at hy;refine⟨fn,_,assign,body,hy,roundIn_of_wpIn ar (ah _ x W _ ⟨_,run_beginRound E (by rw[A]),?_⟩)⟩;have ai:({rec .ready with state:= .busy}:Loop)=rec .busy:=(by rw[A,A]);rw[ai];have aw:(W.putObj (B+1) (.loop (rec .busy))).heap[B+1]? =some (.loop (rec .busy)):=World.putObj_heap_same ax;have hd2:(W.putObj (B+1) (.loop (rec .busy))).heap[B]? =some (.deferred (some [])):=(World.putObj_heap_other (by omega)).trans M;have k2:lm O bs W (W.putObj (B+1) (.loop (rec .busy))):=lm.putObj W _ (by omega) (by omega);refine wpIn_mono (ac _ pre x _ (L _ _ _ (j8.putObj E rfl (by omega) _) hi) hN (by simp;omega)) ?_;intro e a3 W3 U;cases e with
   |normal=>
    obtain⟨af,aj,au⟩:=U;have ab:=af.same _ _ aw rfl;have aq:=af.same _ _ hd2 rfl;have V:=run_endRound (P:=P) none ab;have al:({rec .busy with state:=if(none:Option Code).isNone then .ready else .done,pending:=none}:Loop)=rec .ready:=(by rw[A,A];rfl);rw[al] at V;have ak:B+1<W3.heap.size:=(Array.getElem?_eq_some_iff.1 ab).1;exact⟨_,_,V,rfl,⟨L _ _ _ (j8.putObj ab rfl (by omega) _) au,World.putObj_heap_same ak,(World.putObj_heap_other (by omega)).trans aq⟩,(k2.trans aj).trans (lm.putObj W3 _ (by omega) (by omega))⟩
   |ret=>exact U.elim
   |exit id=>exact U.elim
   |goto t=>exact U.elim
   |panic ch=>exact U.elim
   |outgrown=>exact U.elim
  ·rintro e W2 ⟨⟨v,rfl⟩,xs,hS,hi,E,M⟩;have V:=run_endLoop (P:=P) E (by rw[A];simp);rw[show(rec .ready).pending=none from by rw[A]] at V;exact⟨none,_,V,hdone _ xs _ hS (L _ _ _ (j8.putObj E rfl (by omega) _) hi) (by omega) ((World.putObj_heap_other (by omega)).trans M)⟩
def hd2(n:Nat):List Nat:=[n/256%256,n%256]
def be4(c:Nat):List Nat:=[c/16777216%256,c/65536%256,c/256%256,c%256]
def fN(r:List Nat):List Nat:=hd2 r.length++be4 (mt (hd2 r.length++r))++r
theorem vB(r:List Nat):(fN r).length=6+r.length:=by simp[fN,hd2,be4];omega
theorem IP(n:Nat):∀x∈hd2 n,x<256:=by
 intro x z;simp[hd2] at z;omega
theorem Hq{a b:List Nat}(z:∀x∈a,x<256)(A:∀x∈b,x<256):∀x∈a++b,x<256:=by
 intro x E;rcases List.mem_append.1 E with h|h
 ·exact z x h
 ·exact A x h
theorem KX(a b:List Nat):fk (fk 4294967295 a) b=fk 4294967295 (a++b):=by simp[fk]
def gN(d:List Nat):Nat:=d.getD 0 0*256+d.getD 1 0
def f6(d:List Nat):Option (List Nat):=
 if d.length<6 then none
 else if gN d<1∨2000<gN d∨d.length<6+gN d then none
 else if fN ((d.drop 6).take (gN d))=d.take (6+gN d) then some ((d.drop 6).take (gN d)) else none
theorem mg{d:List Nat}(h:d.length<6):f6 d=none:=by simp[f6,h]
theorem rE{d:List Nat}(z:¬d.length<6)(h:gN d<1∨2000<gN d∨d.length<6+gN d):f6 d=none:=by
 unfold f6;rw[if_neg z,if_pos h]
theorem tH{d:List Nat}(z:¬d.length<6)(h:¬(gN d<1∨2000<gN d∨d.length<6+gN d))(A:¬fN ((d.drop 6).take (gN d))=d.take (6+gN d)):f6 d=none:=by
 unfold f6;rw[if_neg z,if_neg h,if_neg A]
theorem rF{d:List Nat}(z:¬d.length<6)(h:¬(gN d<1∨2000<gN d∨d.length<6+gN d))(A:fN ((d.drop 6).take (gN d))=d.take (6+gN d)):f6 d=some ((d.drop 6).take (gN d)):=by
 unfold f6;rw[if_neg z,if_neg h,if_pos A]
theorem nK{d r:List Nat}(h:f6 d=some r):1≤r.length∧r.length≤2000∧6+r.length≤d.length:=by
 unfold f6 at h;split at h
 ·cases h
 ·split at h
  ·cases h
  ·split at h
   ·simp only[Option.some.injEq] at h;subst h;simp;omega
   ·cases h
def kH(d:List Nat):Nat→List (List Nat)→Nat→List (List Nat)×Nat
 |0,rs,g=>(rs,g)
 |f+1,rs,g=>match f6 (d.drop g) with
  |none=>(rs,g)
  |some r=>kH d f (rs++[r]) (g+(6+r.length))
def dP(d:List Nat):List (List Nat)×Nat:=if 40000<d.length then([],0) else kH d d.length [] 0
theorem oc{d:List Nat}{f:Nat}{rs:List (List Nat)}{g:Nat}(h:f6 (d.drop g)=none):kH d f rs g=(rs,g):=by
 cases f with
 |zero=>rfl
 |succ f=>simp[kH,h]
theorem Cm{d:List Nat}{f:Nat}{rs:List (List Nat)}{g:Nat}{r:List Nat}(E:d.length≤g+f)(h:f6 (d.drop g)=some r):∃z,f=z+1∧kH d f rs g=kH d z (rs++[r]) (g+(6+r.length))∧d.length≤g+(6+r.length)+z:=by
 have A:=nK h;simp at A;cases f with
 |zero=>omega
 |succ f=>exact⟨f,rfl,by simp[kH,h],by omega⟩
theorem yZ(w:World)(x:Nat):dW (w.alloc (.cells #[.int .u8 (x:Int)] 5)) (some ⟨w.heap.size,0,none⟩) [x]:=fun _=>by
 refine⟨w.heap.size,0,rfl,fun i hi=> ?_⟩;simp at hi;subst hi;rw[OK _ _ _ _ 5 (0,0) (OP w _)];rfl
theorem dR.alloc1{v:Value}{l:LN}(h:dR w z v l)(o:Obj):dR (w.alloc o) z v l:=h.below ((OX _ _).alloc (OV _) _) (OV _)
theorem fE{L:Array Oper}{J:List Oper}{A:Act}(w:World)(U:o.guard=none)(s x:Operand)
  (ho:o.op= .call {callee:= .builtin .append,args:= #[s,x],argTypes:= #[52,52]})
  (z:Nat) (v:Value) (l m:LN) (n:Nat) (hn:m.length=n) (hs:A.eval s=v) (R:dR w z v l) (p:Addr) (c:Nat) (hx:A.eval x= .slice (some p) n c) (hr:dW w (some p) m)
  (aa:l.length+m.length≤1099511627776) (N:z≤w.heap.size)
  (h:∀E w',dR w' z E (l++m)→w.grownBy w' v.ownBlock→wpList prog L Q J (A.put o.dst E) w'):wpList prog L Q (o::J) A w:=by
 obtain⟨i0,hi,V,Y,Z⟩:=info_parts EK;subst hn;refine wpList_append_own w U s x 52 ho z 5 i0 (.int .u8 0) 1 1 underlying52 hi V Y Z rfl (by decide) v l.length (l.map bv) hs R p m.length c (m.map bv) hx (by simp) ?_ ?_ (by unfold maxLen;omega) (by omega) N ?_
 ·intro j u I;have K:j<m.length:=by
   rcases PV j m.length with G|G
   ·exact G
   ·simp[Pt G] at I
  obtain⟨b,ab,e,hc⟩:=hr (by omega);simp only[OY] at e;subst e;rw[ez,hc j K];simp[K,bv] at I;rw[I]
 ·intro u M;simp only[Pg] at M;obtain⟨y,_,rfl⟩:=M;rfl
 ·intro E w' O hg _;refine h E w' ?_ hg;unfold dR;rw[O1,O7];exact O
def pw(t:List UInt8)(b:UInt8)(a c:List UInt8)(ok:Bool):Prop:=(ok=true∧t=a++b::c∧b∉a)∨(ok=false∧b∉t∧a=t∧c=[])
theorem nJ(s:BA)(a b:Nat):(s.extract a b).data.toList=(s.data.toList.drop a).take (b-a):=by
 rw[ByteArray.data_extract,Array.toList_extract]
theorem kW(s:BA):s.data.toList.length=s.size:=rfl
theorem FE(w:World)(n m:Nat):(w.drewN n).drewN m=w.drewN (n+m):=by
 unfold World.drewN;simp;omega
def KF(s:BA)(b:UInt8)(w:World)(e:Ending)(w':World):Prop:=∃(x y:BA) (ok:Bool),e= .returned (.tuple #[.string x,.string y,.bool ok])∧pw s.data.toList b x.data.toList y.data.toList ok∧∃n,w'=w.drewN n
theorem qW(s:BA)(b:UInt8)(w:World)(O:s.size≤1048576):
  Calls prog 79 #[.string s,.int .u8 (b.toNat:Int)] w (KF s b w):=by
 go_enter func79,ntmps79;go_wp2;go_loopw [7] (fun i wr=>∃k:Nat,k≤s.size∧i=iI k∧Hid (b∉s.data.toList.take k)∧∃n,wr=w.drewN n) (fun i _=>s.size-(RowKit.intOf i).toNat)
 case atStart=>exact⟨0,O4 _,rfl,by show _∉_;simp,0,rfl⟩
 case round=>
  obtain⟨i,hi,rfl,A,n,rfl⟩:=hrel;by_cases G:i<s.size
  ·by_cases z:s[i]=b
   ·have L:((s[i].toNat:Int)==(b.toNat:Int))=true:=(by rw[z];simp);have M:(i:Int)≤(s.size:Int):=(by omega);have N:(i:Int)+1≤(s.size:Int):=(by omega);go_wp2;go_quiet(fail);go_wp2
    go_ret3
    refine⟨s.extract 0 i,s.extract (i+1) s.size,true,rfl,Or.inl ⟨rfl,?_,?_⟩,n+nq,?_⟩
    ·rw[nJ,nJ];have E:i<s.data.toList.length:=G;have J:s.size=s.data.toList.length:=rfl;rw[J,List.drop_zero,Nat.sub_zero,Pc (l:=s.data.toList.drop (i+1)) (by simp)];have K:s.data.toList[i]=b:=z;rw[←K]
     conv=>lhs;rw[←Pz i s.data.toList,Pv E]
    ·rw[nJ,List.drop_zero,Nat.sub_zero];exact A
    ·exact FE w n nq
   ·have L:((s[i].toNat:Int)==(b.toNat:Int))=false:=by
     have:s[i].toNat≠b.toNat:=fun e=>z (UInt8.toNat_inj.1 e);simp;omega
    go_wp2;go_roundw
    case rel=>
     refine⟨i+1,by omega,by go_num,?_,n,rfl⟩;show b∉s.data.toList.take (i+1);have E:i<s.data.toList.length:=G;rw[O5 E,Pj];intro h;rcases h with h|h
     ·exact A.out h
     ·rw[Ph] at h;exact z h.symm
    case measure=>simp[RowKit.intOf];omega
  ·have I:i=s.size:=(by omega);subst I;go_wp2
   go_ret3
   refine⟨s,⟨#[]⟩,false,rfl,Or.inr ⟨rfl,?_,rfl,rfl⟩,n,rfl⟩;have h:=A.out;rw[Pc (Nat.le_of_eq (kW s))] at h;exact h
def Blk(w:World)(g:Nat)(cs:Array Value)(t:TypeId):Prop:=w.heap[g]? =some (.cells cs t (0,0))
theorem Blk.lt(h:Blk w g cs t):g<w.heap.size:=OT h
theorem Blk.cell(h:Blk w g cs t)(j:Nat):w.cell? ⟨g,j,none⟩=cs[j]? :=OK w g j _ _ (0,0) h
theorem Blk.fz(h:Blk w g cs t)(j:Nat):w.frozen? ⟨g,j,none⟩=false:=by unfold Blk at h;simp[World.frozen?,h]
theorem Blk.set(h:Blk w g cs t)(j:Nat)(u:Value):Blk (w.setCell ⟨g,j,none⟩ u) g (cs.setIfInBounds j u) t:=heap_setCell_same w g j _ _ u h
theorem Blk.other{g':Nat}(h:Blk w g cs t)(z:g≠g')(u:Value):Blk (w.setCell ⟨g',j,none⟩ u) g cs t:=(OQ w ⟨g',j,none⟩ g u (by simpa using z)).trans h
theorem Blk.below(h:Blk w g cs t)(z:Below B w w')(A:g<B):Blk w' g cs t:=(z.block g A).trans h
theorem dQ(w:World)(cs:Array Value)(t:TypeId):Blk (w.alloc (.cells cs t)) w.heap.size cs t:=OP w _
theorem Blk.c2{z A:Value}{r:List Value}(h:Blk w g (z::A::r).toArray t):w.cell? ⟨g,0,none⟩=some z∧w.cell? ⟨g,1,none⟩=some A:=⟨h.cell 0,h.cell 1⟩
theorem Blk.c3{z A:Value}{r:List Value}(h:Blk w g (z::A::E::r).toArray t):w.cell? ⟨g,0,none⟩=some z∧w.cell? ⟨g,1,none⟩=some A∧w.cell? ⟨g,2,none⟩=some E:=⟨h.cell 0,h.cell 1,h.cell 2⟩
theorem Blk.c4{z A:Value}{r:List Value}(h:Blk w g (z::A::E::G::r).toArray t):w.cell? ⟨g,0,none⟩=some z∧w.cell? ⟨g,1,none⟩=some A∧w.cell? ⟨g,2,none⟩=some E∧w.cell? ⟨g,3,none⟩=some G:=⟨h.cell 0,h.cell 1,h.cell 2,h.cell 3⟩
theorem Blk.c5{z A:Value}{r:List Value}(h:Blk w g (z::A::E::G::I::r).toArray t):w.cell? ⟨g,0,none⟩=some z∧w.cell? ⟨g,1,none⟩=some A∧w.cell? ⟨g,2,none⟩=some E∧w.cell? ⟨g,3,none⟩=some G∧w.cell? ⟨g,4,none⟩=some I:=⟨h.cell 0,h.cell 1,h.cell 2,h.cell 3,h.cell 4⟩
theorem Blk.c6{z A:Value}{r:List Value}(h:Blk w g (z::A::E::G::I::J::r).toArray t):w.cell? ⟨g,0,none⟩=some z∧w.cell? ⟨g,1,none⟩=some A∧w.cell? ⟨g,2,none⟩=some E∧w.cell? ⟨g,3,none⟩=some G∧w.cell? ⟨g,4,none⟩=some I∧w.cell? ⟨g,5,none⟩=some J:=⟨h.cell 0,h.cell 1,h.cell 2,h.cell 3,h.cell 4,h.cell 5⟩
theorem Blk.c7{z A:Value}{r:List Value}(h:Blk w g (z::A::E::G::I::J::K::r).toArray t):w.cell? ⟨g,0,none⟩=some z∧w.cell? ⟨g,1,none⟩=some A∧w.cell? ⟨g,2,none⟩=some E∧w.cell? ⟨g,3,none⟩=some G∧w.cell? ⟨g,4,none⟩=some I∧w.cell? ⟨g,5,none⟩=some J∧w.cell? ⟨g,6,none⟩=some K:=⟨h.cell 0,h.cell 1,h.cell 2,h.cell 3,h.cell 4,h.cell 5,h.cell 6⟩
theorem Blk.c8{z A:Value}{r:List Value}(h:Blk w g (z::A::E::G::I::J::K::L::r).toArray t):w.cell? ⟨g,0,none⟩=some z∧w.cell? ⟨g,1,none⟩=some A∧w.cell? ⟨g,2,none⟩=some E∧w.cell? ⟨g,3,none⟩=some G∧w.cell? ⟨g,4,none⟩=some I∧w.cell? ⟨g,5,none⟩=some J∧w.cell? ⟨g,6,none⟩=some K∧w.cell? ⟨g,7,none⟩=some L:=⟨h.cell 0,h.cell 1,h.cell 2,h.cell 3,h.cell 4,h.cell 5,h.cell 6,h.cell 7⟩
theorem Blk.c9{z A:Value}{r:List Value}(h:Blk w g (z::A::E::G::I::J::K::L::M::r).toArray t):w.cell? ⟨g,0,none⟩=some z∧w.cell? ⟨g,1,none⟩=some A∧w.cell? ⟨g,2,none⟩=some E∧w.cell? ⟨g,3,none⟩=some G∧w.cell? ⟨g,4,none⟩=some I∧w.cell? ⟨g,5,none⟩=some J∧w.cell? ⟨g,6,none⟩=some K∧w.cell? ⟨g,7,none⟩=some L∧w.cell? ⟨g,8,none⟩=some M:=⟨h.cell 0,h.cell 1,h.cell 2,h.cell 3,h.cell 4,h.cell 5,h.cell 6,h.cell 7,h.cell 8⟩
theorem Blk.c10{z A:Value}{r:List Value}(h:Blk w g (z::A::E::G::I::J::K::L::M::N::r).toArray t):w.cell? ⟨g,0,none⟩=some z∧w.cell? ⟨g,1,none⟩=some A∧w.cell? ⟨g,2,none⟩=some E∧w.cell? ⟨g,3,none⟩=some G∧w.cell? ⟨g,4,none⟩=some I∧w.cell? ⟨g,5,none⟩=some J∧w.cell? ⟨g,6,none⟩=some K∧w.cell? ⟨g,7,none⟩=some L∧w.cell? ⟨g,8,none⟩=some M∧w.cell? ⟨g,9,none⟩=some N:=⟨h.cell 0,h.cell 1,h.cell 2,h.cell 3,h.cell 4,h.cell 5,h.cell 6,h.cell 7,h.cell 8,h.cell 9⟩
theorem Blk.c11{A z:Value}{r:List Value}(h:Blk w g (A::E::G::I::J::K::L::M::N::O::z::r).toArray t):w.cell? ⟨g,0,none⟩=some A∧w.cell? ⟨g,1,none⟩=some E∧w.cell? ⟨g,2,none⟩=some G∧w.cell? ⟨g,3,none⟩=some I∧w.cell? ⟨g,4,none⟩=some J∧w.cell? ⟨g,5,none⟩=some K∧w.cell? ⟨g,6,none⟩=some L∧w.cell? ⟨g,7,none⟩=some M∧w.cell? ⟨g,8,none⟩=some N∧w.cell? ⟨g,9,none⟩=some O∧w.cell? ⟨g,10,none⟩=some z:=⟨h.cell 0,h.cell 1,h.cell 2,h.cell 3,h.cell 4,h.cell 5,h.cell 6,h.cell 7,h.cell 8,h.cell 9,h.cell 10⟩
theorem Blk.c12{Q z A:Value}{r:List Value}(h:Blk w g (E::G::I::J::K::L::M::N::O::Q::z::A::r).toArray t):w.cell? ⟨g,0,none⟩=some E∧w.cell? ⟨g,1,none⟩=some G∧w.cell? ⟨g,2,none⟩=some I∧w.cell? ⟨g,3,none⟩=some J∧w.cell? ⟨g,4,none⟩=some K∧w.cell? ⟨g,5,none⟩=some L∧w.cell? ⟨g,6,none⟩=some M∧w.cell? ⟨g,7,none⟩=some N∧w.cell? ⟨g,8,none⟩=some O∧w.cell? ⟨g,9,none⟩=some Q∧w.cell? ⟨g,10,none⟩=some z∧w.cell? ⟨g,11,none⟩=some A:=⟨h.cell 0,h.cell 1,h.cell 2,h.cell 3,h.cell 4,h.cell 5,h.cell 6,h.cell 7,h.cell 8,h.cell 9,h.cell 10,h.cell 11⟩
theorem Blk.c13{Q R z A:Value}{r:List Value}(h:Blk w g (G::I::J::K::L::M::N::O::Q::R::z::A::E::r).toArray t):w.cell? ⟨g,0,none⟩=some G∧w.cell? ⟨g,1,none⟩=some I∧w.cell? ⟨g,2,none⟩=some J∧w.cell? ⟨g,3,none⟩=some K∧w.cell? ⟨g,4,none⟩=some L∧w.cell? ⟨g,5,none⟩=some M∧w.cell? ⟨g,6,none⟩=some N∧w.cell? ⟨g,7,none⟩=some O∧w.cell? ⟨g,8,none⟩=some Q∧w.cell? ⟨g,9,none⟩=some R∧w.cell? ⟨g,10,none⟩=some z∧w.cell? ⟨g,11,none⟩=some A∧w.cell? ⟨g,12,none⟩=some E:=⟨h.cell 0,h.cell 1,h.cell 2,h.cell 3,h.cell 4,h.cell 5,h.cell 6,h.cell 7,h.cell 8,h.cell 9,h.cell 10,h.cell 11,h.cell 12⟩
theorem Ck(d:LN)(f:Nat)(rs:List (LN))(g:Nat)(A:rs.length+kB rs≤g)(E:g≤d.length):(kH d f rs g).1.length+kB (kH d f rs g).1≤d.length:=by
 induction f generalizing rs g with
 |zero=>simp only[kH];omega
 |succ f ih=>
  simp only[kH];split
  ·simp only;omega
  ·next r hr=>
   have z:=nK hr;simp at z;refine ih _ _ ?_ (by omega);rw[O1,nZ];simp[kB];omega
theorem j2(d:LN):(dP d).1.length+kB (dP d).1≤40000:=by
 unfold dP;split
 ·simp[kB]
 ·have:=Ck d d.length [] 0 (by simp[kB]) (by omega);omega
def jG(k n:Nat):LN:=(List.range n).map fun i=>(k+i)%256
theorem iY(k n:Nat):(jG k n).length=n:=by simp[jG]
theorem Jj(k n i:Nat)(h:i<(jG k n).length):(jG k n)[i]=(k+i)%256:=by simp[jG]
theorem DF(k n:Nat):jG k (n+1)=jG k n++[(k+n)%256]:=by simp[jG,List.range_succ]
def kx(k:Nat)(l:LN)(i:Nat):LN:=jG k i++l.drop i
theorem A0(k:Nat)(l:LN):kx k l 0=l:=by simp[kx,jG]
theorem DD(k:Nat)(l:LN):kx k l l.length=jG k l.length:=by simp[kx]
theorem vP(k:Nat)(l:LN)(i:Nat)(h:i≤l.length):(kx k l i).length=l.length:=by simp[kx,iY];omega
theorem DE(k:Nat)(l:LN)(i:Nat)(h:i<l.length):(kx k l i).set i ((k+i)%256)=kx k l (i+1):=by
 unfold kx;rw[List.set_append_right _ _ (by simp[iY])];have e:i-(jG k i).length=0:=(by simp[iY]);rw[e,Pv h,PL,DF];simp
theorem KQ(k j:Nat):bv ((k+j)%256)= .int .u8 (((k:Int)+(j:Int))%256):=fM (by omega)
theorem vO(A:Nat)(a:OA)(cap k:Nat)(l:LN)(w:World)(Z:k≤4503599627370496)(hl:l.length≤4503599627370496)(K:dR w A (.slice a l.length cap) l):
  Calls prog 38 #[.slice a l.length cap,.int .i64 (k:Int)] w fun e w'=>e= .returned (.int .i64 ((k+l.length:Nat):Int))∧dR w' A (.slice a l.length cap) (jG k l.length)∧w.grownBy w' (Value.slice a l.length cap).ownBlock∧w'.heap.size=w.heap.size:=by
 go_enter func38,ntmps38;go_wp2;go_loopw [1,5] (fun s i wr=>∃j:Nat,j≤l.length∧i= .int .i64 j∧s= .int .i64 ((k+j:Nat):Int)∧dR wr A (.slice a l.length cap) (kx k l j)∧w.grownBy wr (Value.slice a l.length cap).ownBlock∧wr.heap.size=w.heap.size) (fun _ i _=>l.length-(intOf i).toNat)
 case atStart=>exact⟨0,O4 _,rfl,rfl,by rw[A0];exact K,tL _ _,rfl⟩
 case round=>
  obtain⟨j,U,rfl,rfl,z,J,I⟩:=hrel;clear K;by_cases N:j<l.length
  ·have O:=vP k l j U;obtain⟨b,Q,rfl,R⟩:=z.row (by omega);have M:Q=0:=by
    rcases z.2 with⟨h,_⟩|⟨g,c,V,h,_⟩
    ·simp at h
    ·simp at h;exact h.1.2
   subst M;have L:=z.cellAt j (by omega);have Y:=z.frozenAt j;have E:=z.store j ((k+j)%256);rw[DE k l j N] at E;have G:Hid (dR (wr.setCell ⟨b,j,none⟩ (bv ((k+j)%256))) A (sS b l.length cap) (kx k l (j+1))∧w.grownBy (wr.setCell ⟨b,j,none⟩ (bv ((k+j)%256))) (some b)∧(wr.setCell ⟨b,j,none⟩ (bv ((k+j)%256))).heap.size=w.heap.size):=⟨E.1,As J E.2,by rw[←I];simp⟩
   generalize (kx k l j)[j]'(by omega)=y at L;clear E z J R O I;rw[KQ] at G;go_wp2;go_roundw
   case rel=>exact⟨j+1,by omega,by go_num,fM (by omega),G.1,G.2.1,G.2.2⟩
   case measure=>simp[intOf];omega
  ·obtain rfl:j=l.length:=(by omega);rw[DD] at z;go_wp2;go_ret;exact⟨rfl,z,J,I⟩
theorem vE(a:OA)(cap k n:Nat)(w:World)(M:k≤4503599627370496)(N:n≤4503599627370496)(E:dW w a (jG k n)):
  Calls prog 39 #[.slice a n cap,.int .i64 (k:Int)] w fun e w'=>e= .returned (.int .i64 ((k+n:Nat):Int))∧w'=w:=by
 go_enter func39,ntmps39;go_wp2;go_loop [1,5] (fun s i=>∃j:Nat,j≤n∧i= .int .i64 j∧s= .int .i64 ((k+j:Nat):Int)) (fun _ i=>n-(intOf i).toNat)
 case atStart=>exact⟨0,O4 _,rfl,rfl⟩
 case round=>
  obtain⟨j,L,rfl,rfl⟩:=hrel;by_cases I:j<n
  ·have G:=iY k n;obtain⟨b,K,rfl,A⟩:=E (by omega);have z:=A j (by omega);rw[Jj k n j (by omega)] at z;have e:(((k+j)%256:Nat):Int)=((k:Int)+(j:Int))%256:=(by omega);rw[e] at z;have J:((((k:Int)+(j:Int))%256) !=(((k:Int)+(j:Int))%256))=false:=(by simp);clear A E G e;go_wp2;go_round
   case rel=>exact⟨j+1,by omega,by go_num,fM (by omega)⟩
   case measure=>simp[intOf];omega
  ·obtain rfl:j=n:=(by omega);go_wp2;go_ret;exact⟨rfl,rfl⟩
end Go.Proofs.YtkkdfgnnlpohlaaGreatDoor
namespace Go.Proofs.YtkkdfgnnlpohlaaGreatDoor
set_option maxRecDepth 20000
set_option linter.unusedVariables false
set_option linter.unusedSimpArgs false
set_option maxHeartbeats 4000000
open Go.RowKit Go.Proofs.Tryz
variable {W X Y w w' w0 wr : World} {A B at_ b b2 base' c cap e f g go gs hi i j k lo m n s u val z : Nat} {E G I J K L M N O u0 u1 u2 v0 v1 v2 v3 v4 v5 v6 x y : Value} {o : Oper} {Q : Exit → Act → World → Prop} {cs tmps : Array Value} {t : TypeId} {p : Addr} {l : List Nat} {bvs xs : List Value} {a : List UInt8} {first ok : Bool}
def gB(nm t:BA):Value:= .iface 122 (.agg #[.string nm,.iface 120 (.string t)])
theorem zL(t:BA)(w:World):(Instr.typeAssert (.iface 120 (.string t)) 20 75 true).run prog w= .ok (.tuple #[.iface 120 (.string t),.bool true]) w:=by kernel_rfl
theorem zM(w:World):(Instr.typeAssert .nilIface 20 75 true).run prog w= .ok (.tuple #[.nilIface,.bool false]) w:=by kernel_rfl
theorem CG(p q:Addr)(x:Value)(nm t:BA)(w:World)(I:w.cell? p=some (.string nm))(G:w.cell? q=some x)(J:w.frozen? q=false):
  CallsD prog 139 #[.pointer (some p),.pointer (some q)] (.panicking [{v:= .iface 120 (.string t),recovered:=false}]) w fun e A w'=>
   e= .returned (.tuple #[])∧A= .panicking [{v:= .iface 120 (.string t),recovered:=true}]∧w'=w.setCell q (gB nm t):=by
 refine callsD_of_wpS func139 rfl fun E cs z=> ?_;apply wpS_seq;apply wpS_region;simp[wpOpsS,go_sem,recoverD,z,ntmps139,Exit.thenS,zL];apply wpS_seq;apply wpS_region;simp[wpOpsS,go_sem,Exit.thenS];refine wpS_cond (t:=true) (by simp[Act.eval,Array.replicate]) ?_;simp only[if_true];refine wpS_of_wp ?_;go_wp2;simp[bodyPostS,results,results139,gB]
theorem CJ(p q:Addr)(w:World):
  CallsD prog 139 #[.pointer (some p),.pointer (some q)] .returning w fun e E w'=>e= .returned (.tuple #[])∧E= .returning∧w'=w:=by
 refine callsD_of_wpS func139 rfl fun z cs A=> ?_;apply wpS_seq;apply wpS_region;simp[wpOpsS,go_sem,recoverD,A,ntmps139,Exit.thenS,zM];apply wpS_seq;apply wpS_region;simp[wpOpsS,go_sem,Exit.thenS];refine wpS_cond (t:=false) (by simp[Act.eval,Array.replicate]) ?_;simp only[Bool.false_eq_true,if_false];refine wpS_of_wp (wp_skip ?_);cases z;simp_all[bodyPostS,results,results139]
theorem rT:(prog.info? 221).map (·.size)=some 2:=by kernel_rfl
theorem AU:liesAt prog prog.depth 221 (2/prog.cellsOf 221) 0 221 1=true:=by kernel_rfl
theorem Ft:prog.cellsOf 5=1:=by kernel_rfl
theorem sq(b:Nat)(w:World)(I:w.cell? ⟨b,0,none⟩=some (.pointer none))(z:w.shape? b=some (221,2))(G:w.frozen? ⟨b,0,none⟩=false):
  Calls prog 162 #[pP b] w fun e w'=>e= .returned (.tuple #[])∧w'=w.setCell ⟨b,0,none⟩ (pP b):=by
 obtain⟨j,A,E⟩:=Option.map_eq_some_iff.1 rT;go_enter func162,ntmps162;go_wp2;rw[Lib.run_to_unsafe w ⟨b,0,none⟩ underlying219 underlying287 A (by rw[E];decide) z (Nat.zero_lt_succ 1)];simp only[Result.andThen];rw[Oper.upon_value];go_wp2;rw[run_callFunc_extern func190 (by kernel_rfl) (by kernel_rfl) (by kernel_rfl) (e:=Extern.AbiNoEscape.same) (by kernel_rfl)];rw[Lib.run_noEscape];simp only[Result.andThen];rw[Oper.upon_value];go_wp2;rw[Lib.run_from_unsafe w ⟨b,0,none⟩ underlying287 underlying219 A z AU];simp only[Result.andThen];rw[Oper.upon_value];go_wp2
 go_end0
 exact⟨rfl,rfl⟩
theorem tn(b:Nat)(w:World)(E:w.cell? ⟨b,0,none⟩=some (pP b)):
  Calls prog 162 #[pP b] w fun e w'=>e= .returned (.tuple #[])∧w'=w:=by
 obtain⟨j,z,A⟩:=Option.map_eq_some_iff.1 rT;go_enter func162,ntmps162;go_wp2;rw[Lib.run_neq_ptr_same w ⟨b,0,none⟩ underlying219 z];simp only[Result.andThen];rw[Oper.upon_value];go_wp2
 go_end0
 exact⟨rfl,rfl⟩
theorem vw(B b:Nat)(bs:List Value)(w:World)(h:Lib.IsBuilder 221 5 B b bs w):
  Calls prog 162 #[pP b] w fun e w'=>e= .returned (.tuple #[])∧Lib.BuilderAt 221 5 B b (pP b) bs w'∧Below B w w':=by
 rcases h with h|h
 ·refine(sq b w h.cell0 h.shape h.frozen0).mono ?_;rintro e w' ⟨rfl,rfl⟩;exact⟨rfl,h.used _,(OX B w).setCell (p:=⟨b,0,none⟩) h.1 _⟩
 ·refine(tn b w h.cell0).mono ?_;rintro e w' ⟨rfl,rfl⟩;exact⟨rfl,h,OX B _⟩
theorem qF(B:Nat)(v:Value)(l:LN)(r:Nat)(w:World)(O:r<128)(A:dR w B v l)(N:l.length≤1048576)(M:B≤w.heap.size):
  Calls prog 163 #[v,.int .i32 (r:Int)] w fun e w'=>∃z,e= .returned z∧dR w' B z (l++[r])∧∃o,(w.alloc o).grownBy w' v.ownBlock:=by
 have L:(r:Int)≤127:=(by omega);have K:(0:Int)≤(r:Int):=(by omega);have E:=yZ w r;have J:=A.alloc1 (.cells #[.int .u8 (r:Int)] 5);go_enter func163,ntmps163;go_wp2_with (at_builtin;refine eF _ rfl _ _ rfl B v l [r] rfl J _ _ rfl E (by simp) (by simp;omega) (by simp;omega) ?_;intro v5 Q I G)
 go_ret;exact⟨v5,rfl,I,_,G⟩
def ng(w:World)(b:Nat)(l:LN):Prop:=Lib.IsBuilder 221 5 b b (l.map bv) w∧(l=[]→w.cell? ⟨b,1,none⟩=some (sN))
theorem ng.lt{l:LN}(h:ng w b l):b<w.heap.size:=by
 rcases h.1 with h|h<;>exact h.lt
theorem ng.below{l:LN}(h:ng w b l)(A:Below w.heap.size w w'):ng w' b l:=by
 have L:=h.lt;refine⟨?_,fun e=>(A.cell (p:=⟨b,1,none⟩) L).trans (h.2 e)⟩;rcases h.1 with⟨E,v,G,z,I⟩|⟨E,v,G,z,I⟩
 ·refine .inl ⟨E,v,(A.block b L).trans G,?_,I⟩;have J:dR w b v l:=(by unfold dR;rw[OW] at z;exact z);have K:=J.below A (OV _);rw[OW];exact K
 ·refine .inr ⟨E,v,(A.block b L).trans G,?_,I⟩;have J:dR w b v l:=(by unfold dR;rw[OW] at z;exact z);have K:=J.below A (OV _);rw[OW];exact K
theorem sJ(b:Nat)(l:LN)(r:Nat)(w:World)(Z:r<128)(h:ng w b l)(Y:l.length≤1048576):
  Calls prog 127 #[pP b,.int .i32 (r:Int)] w fun e w'=>e= .returned (.tuple #[.int .i64 1,.nilIface])∧ng w' b (l++[r])∧Below b w w':=by
 have ab:=h.lt;go_enter func127,ntmps127;go_wp2_with fail;refine(vw b b _ w h.1).mono ?_;rintro e E ⟨rfl,U,M⟩;obtain⟨N,v,L,K,R⟩:=U;have A:dR E b v l:=(by unfold dR;rw[OW] at K;exact K);clear K;obtain⟨a,cap,rfl⟩:=A.slice;have c0:E.cell? ⟨b,0,none⟩=some (pP b):=(by rw[Lib.cell_of_heap L];rfl);have c1:E.cell? ⟨b,1,none⟩=some (.slice a l.length cap):=(by rw[Lib.cell_of_heap L];rfl);have ac:=M.size;go_wp2_with fail;refine(qF b _ l r E Z A Y (by omega)).mono ?_;rintro e J ⟨v',rfl,z,o,G⟩;have Q:b<E.heap.size:=(by omega);have I:J.heap[b]? =some (.cells #[pP b,.slice a l.length cap] 221 (0,0)):=by
  rw[G.block b (by simp;omega) (fun e=>R e.symm),Lib.alloc_old E _ b Q];exact L
 have d0:J.cell? ⟨b,0,none⟩=some (pP b):=(by rw[Lib.cell_of_heap I];rfl);have d1:J.cell? ⟨b,1,none⟩=some (.slice a l.length cap):=(by rw[Lib.cell_of_heap I];rfl);have f1:J.frozen? ⟨b,1,none⟩=false:=Lib.frozen_of_heap I 1;obtain⟨a',aa,rfl⟩:=z.slice;rw[O1] at z⊢;have O:=a8 (And.intro z (And.intro G A));clear G A z;simp only[Pf,PM,Ps] at O⊢;go_wp2;go_ret2;obtain⟨z,G,A⟩:=O.out;refine⟨?_,⟨Or.inr ?_,fun e=>by simp at e⟩,?_⟩
 ·have e:((l.length:Int)+1-(l.length:Int))=1:=(by omega);simp[e]
 ·exact Lib.BuilderAt.put (T:=221) (e:=5) N I (bs':=(l++[r]).map bv) (by rw[OW];exact z) (by decide)
 ·exact((M.alloc (by omega) _).grown G (by simp;omega) (fun k V=>(OF A k V).1)).setCell (p:=⟨b,1,none⟩) N _
theorem dR.cells8{l:List UInt8}:(l.map UInt8.toNat).map bv=Lib.byteCells l:=by simp[Lib.byteCells,bv]
theorem pc(b:Nat)(l:List UInt8)(w:World)(h:ng w b (l.map UInt8.toNat))(J:l≠[]):
  Calls prog 128 #[pP b] w fun e w'=>e= .returned (.string ⟨l.toArray⟩)∧Below b w w':=by
 replace h:=h.1;rw[dR.cells8] at h;obtain⟨p,K,v,E,A,R⟩:∃p,Lib.BuilderAt 221 5 b b p (Lib.byteCells l) w:=by
  rcases h with h|h
  ·exact⟨_,h⟩
  ·exact⟨_,h⟩
 have Q:l.length≠0:=(by simpa using J);rw[Lib.byteCells_length] at A;obtain⟨g,cap,z,rfl,G,L,ac,I,N,M⟩:∃g cap z,v=sS g l.length cap∧b≤g∧w.heap[g]? =some (.cells z 5 (0,0))∧l.length≤cap∧cap≤maxLen∧z.size=cap*1∧z.toList.take (l.length*1)=Lib.byteCells l:=by
  rcases A.2 with⟨_,Z⟩|⟨g,cap,z,V,r⟩
  ·exact OH Z Q
  ·exact⟨g,cap,z,V,r⟩
 have c1:w.drew.cell? ⟨b,1,none⟩=some (sS g l.length cap):=by
  have:w.drew.heap[b]? =some (.cells #[p,sS g l.length cap] 221 (0,0)):=E;rw[Lib.cell_of_heap this];rfl
 have aa:(Builtin.unsafeSliceData_ #[52] 259 #[sS g l.length cap]).run prog w.drew= .ok (pP g) w.drew:=
  Lib.run_unsafeSliceData_row _ _ _ _ _ _ (by omega)
 have ab:(Builtin.unsafeString_ #[259,3] 9 #[pP g,.int .i64 l.length]).run prog w.drew= .ok (.string ⟨l.toArray⟩) (w.drew.freeze ⟨g,0,none⟩ l.length):=by
  refine Lib.run_unsafeString_row w.drew 259 3 9 5 underlying259 Ft g z.size (by have O:w.drew.heap[g]? =some (.cells z 5 (0,0)):=L;simp[World.shape?,O]) l J (by omega) (by unfold maxLen at I;omega) ?_;intro j x Y;have:=OD A (g:=g) rfl j (.int .u8 x.toNat) (by simp[Lib.byteCells,Y]);exact this
 have U:=a8 (And.intro G (And.intro K E));clear G K E A R M N I L;go_enter func128,ntmps128;go_wp2;go_region
 all_goals (go_wp2;go_ret;exact⟨rfl,Lib.below_freeze (Below.drew (OX b w)) (p:=⟨g,0,none⟩) U.1 _⟩)
theorem pb(b:Nat)(w:World)(z:w.cell? ⟨b,1,none⟩=some (sN)):
  Calls prog 128 #[pP b] w fun e w'=>e= .returned (.string ⟨#[]⟩)∧Below b w w':=by
 have E:∀W q,(Builtin.unsafeString_ #[259,3] 9 #[.pointer q,.int .i64 0]).run prog W= .ok (.string .empty) W:=fun W q=>Lib.run_unsafeString_none W _ _ _ q;have G:w.drew.cell? ⟨b,1,none⟩=some (sN):=z;have A:(Builtin.unsafeSliceData_ #[52] 259 #[sN]).run prog w.drew= .ok (.pointer none) w.drew:=rfl;go_enter func128,ntmps128;go_wp2;go_region
 all_goals (go_wp2;go_ret;exact⟨rfl,Below.drew (OX b w)⟩)
theorem pA(b:Nat)(l:List UInt8)(w:World)(h:ng w b (l.map UInt8.toNat)):
  Calls prog 128 #[pP b] w fun e w'=>e= .returned (.string ⟨l.toArray⟩)∧Below b w w':=by
 cases l with
 |nil=>exact pb b w (h.2 rfl)
 |cons x r=>exact pc b (x::r) w h (by simp)
end Go.Proofs.YtkkdfgnnlpohlaaGreatDoor
