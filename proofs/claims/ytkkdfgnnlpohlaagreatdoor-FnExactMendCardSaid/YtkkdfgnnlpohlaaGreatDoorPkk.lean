import Derived.Test.YtkkdfgnnlpohlaaGreatDoorPkg
import Derived.Test.YtkkdfgnnlpohlaaGreatDoorPkh
import Derived.Test.YtkkdfgnnlpohlaaGreatDoorPki
import Derived.Deep.RegionLaw
namespace Go.Proofs.YtkkdfgnnlpohlaaGreatDoor
set_option maxRecDepth 20000
set_option linter.unusedVariables false
set_option linter.unusedSimpArgs false
set_option maxHeartbeats 4000000
open Go.RowKit Go.Proofs.Tryz
variable {W X Y w w' w0 wr : World} {A B at_ b b2 base' c cap e f g go gs hi i j k lo m n s u val z : Nat} {E G I J K L M N O u0 u1 u2 v0 v1 v2 v3 v4 v5 v6 x y : Value} {o : Oper} {Q : Exit → Act → World → Prop} {cs tmps : Array Value} {t : TypeId} {p : Addr} {l : List Nat} {bvs xs : List Value} {a : List UInt8} {first ok : Bool}
section
open Go.Shelf
attribute [local go_sem] Oper.semAt_some
abbrev Sp(d:LN):={x:Nat×Nat//x.1+x.2≤d.length}
def eh(W:World)(b off:Nat)(d:LN):Prop:=∀i (h:i<d.length),W.cell? ⟨b,off+i,none⟩=some (.int .u8 ((d[i]:Nat):Int))
theorem eh.below{W W':World}{b z A:Nat}{d:LN}(h:eh W b z d)(E:Below A W W')(G:b<A):eh W' b z d:=fun i hi=>(E.cell (p:=⟨b,z+i,none⟩) G).trans (h i hi)
theorem eh.drop{W:World}{b z:Nat}{d:LN}(h:eh W b z d)(p:Nat):eh W b (z+p) (d.drop p):=fun i hi=>by
 have A:p+i<d.length:=(by rw[O9] at hi;omega);rw[Nat.add_assoc,h (p+i) A];simp
def spV(b off:Nat){d:LN}(x:Sp d):Array Value:= #[.slice (some ⟨b,off+x.1.1,none⟩) x.1.2 x.1.2]
theorem Az(b z cap n:Nat)(l:LN)(w:World)(G:l.length=n)(E:eh w b z l)(A:∀x∈l,x<256):
  Calls prog 238 #[.slice (some ⟨b,z,none⟩) n cap,.int .u8 10] w fun e w'=>e= .returned (.int .i64 (Bg l))∧w'=w:=by
 subst G;exact vH b z cap l w E A
def Dx(wr:World)(bs:Nat):Nat:=match wr.cell? ⟨bs,0,none⟩ with|some (.slice _ n _)=>n|_=>0
theorem qX{wr:World}{bs n c:Nat}{a:OA}(h:wr.cell? ⟨bs,0,none⟩=some (.slice a n c)):Dx wr bs=n:=by unfold Dx;rw[h]
theorem sK{W:World}{bs:Nat}{u:Value}{t:TypeId}(h:W.heap[bs]? =some (.cells #[u] t (0,0)))(v:Value):(W.setCell ⟨bs,0,none⟩ v).heap[bs]? =some (.cells #[v] t (0,0)):=by
 rw[setCell_eq_setRow W bs 0 _ _ _ v h,setRow_heap W bs _ _ _ _ h];rfl
theorem mX{d:LN}{p k:Nat}(G:p<d.length)(A:gh (d.drop p)=k):gA (d.length-p) p (d.drop p)=(p,k)::gA (d.length-(p+k)) (p+k) (d.drop (p+k)):=by
 obtain⟨f,z⟩:∃f,d.length-p=f+1:=⟨d.length-p-1,by omega⟩
 have I:=jM (d.drop p) (by rw[O9];omega);have E:=tr (d.drop p);rw[O9] at E;rw[z];simp only[gA];rw[OR (by rw[O9];omega),A,List.drop_drop];rw[BV f (d.length-(p+k)) _ _ (by rw[O9];omega) (by rw[O9];omega)]
theorem Ga(m l bs Y b E:Nat)(d:LN)(hb:∀x∈d,x<256)(ar:0<d.length→b<Y)(hd:d.length≤1048576)(aq:Y≤bs)(J:List (Sp d)→World→Prop)
  (af:∀pre G v,J pre G→J pre (G.setCell ⟨bs,0,none⟩ v)) (ao:∀pre G,J pre G→J pre G.drew)
  (hY:∀pre x G,J pre G→pre.length<d.length→YieldAt Fence.wide (m-1) prog l (spV b E x) G fun e W'=>e= .returned (.bool true)∧J (pre++[x]) W'∧lm Y bs G W')
  (W:World) (a0:OA) (c0:Nat) (ai:W.heap[bs]? =some (.cells #[.slice a0 d.length c0] 52 (0,0))) (ah:0<d.length→a0=some ⟨b,E,none⟩∧d.length≤c0∧c0≤9223372036854775807) (hT:0<d.length→eh W b E d) (h0:J [] W):
  CallsIn Fence.wide m prog 237 #[.func (.yield l) #[] #[],pP bs] W fun e W'=>(∃v,e= .returned v)∧∃xs:List (Sp d),xs.map (·.1)=eP d∧J xs W':=by
 refine callsIn_of_wp func237 rfl trivial ?_ rfl;simp only[ntmps237,List.size_toArray,Pf,PM,Nat.reduceAdd,Nat.reduceSub,Array.replicate_succ,Array.replicate_zero,List.push_toArray,List.append_toArray,PC,List.cons_append];gi_wp2
 gi_loopw [3,4] (fun _ _ wr=>∃(p:Nat) (pre:List (Sp d)) (a:OA) (c:Nat),p≤d.length∧pre.length≤p∧wr.heap[bs]? =some (.cells #[.slice a (d.length-p) c] 52 (0,0))∧(p<d.length→a=some ⟨b,E+p,none⟩∧d.length-p≤c∧c≤9223372036854775807)∧(0<d.length→eh wr b E d)∧pre.map (·.1)++gA (d.length-p) p (d.drop p)=eP d∧J pre wr) (fun _ _ wr=>Dx wr bs)
 case atStart=>exact⟨0,[],a0,c0,O4 _,OV _,ai,fun h=>ah h,hT,by simp[eP],h0⟩
 case round=>
  obtain⟨p,pre,a,c,hp,aD,V,ha,ht,M,hJ⟩:=hrel;have Q:wr.cell? ⟨bs,0,none⟩=some (.slice a (d.length-p) c):=(by rw[OK _ _ _ _ _ _ V];rfl);by_cases am:p<d.length
  ·have Z:=ar (by omega);obtain⟨rfl,aH,ak⟩:=ha am;have aC:(0:Int)<((d.length-p:Nat):Int):=(by omega);have al:wr.frozen? ⟨bs,0,none⟩=false:=(by simp[World.frozen?,V]);have aw:∀x∈d.drop p,x<256:=fun x hx=>hb x (Pk hx);have az:=(ht (by omega)).drop p;have ap:(d.drop p).length=d.length-p:=O9 ..;have HS:=a8 M;have HJ:=a8 hJ;have HT:=a8 (ht (by omega));have HC:=a8 V;have HM:=a8 (qX Q);have av:=a8 ak;clear M hJ ht V ah hT h0 ai;gi_wp2_with fail;refine⟨trivial,fun h=>(by cases h),(callsIn_wide.2 (Az b (E+p) c _ (d.drop p) wr ap az aw)).mono ?_⟩;rintro e z ⟨rfl,rfl⟩;by_cases ad:10∈d.drop p
   ·obtain⟨k,O⟩:∃k,gh (d.drop p)=k+1:=⟨gh (d.drop p)-1,by have:=jM (d.drop p) (by omega);omega⟩
    have aG:=tr (d.drop p);have aa:Bg (d.drop p)=(k:Int):=(by unfold Bg;rw[OS ad,O];push_cast;omega);rw[aa];have aE:(k:Int)+1≤((d.length-p:Nat):Int):=(by omega);have aF:(k:Int)+1≤(c:Int):=(by omega);have ax:z.drew.cell? ⟨bs,0,none⟩=some (.slice (some ⟨b,E+p,none⟩) (d.length-p) c):=Q;have ay:z.drew.frozen? ⟨bs,0,none⟩=false:=al;have aA:prog.follows Departure.mixedOrders=true:=(by kernel_rfl);gi_wp2
    gi_region_o
    have au:d.length-p-(k+1)=d.length-(p+(k+1)):=(by omega);rw[au];have an:p+(k+1)<d.length→(if c=k+1 then some (⟨b,E+p,none⟩:Addr) else some ⟨b,E+p+(k+1),none⟩)=some ⟨b,E+(p+(k+1)),none⟩:=fun h=>(by rw[OR (by omega),Nat.add_assoc]);generalize (if c=k+1 then some (⟨b,E+p,none⟩:Addr) else some ⟨b,E+p+(k+1),none⟩)=A at an⊢;have N:(z.setCell ⟨bs,0,none⟩ (.slice A (d.length-(p+(k+1))) (c-(k+1)))).drew.heap[bs]? =some (.cells #[.slice A (d.length-(p+(k+1))) (c-(k+1))] 52 (0,0)):=sK HC _;have K:J pre (z.setCell ⟨bs,0,none⟩ (.slice A (d.length-(p+(k+1))) (c-(k+1)))).drew:=ao _ _ (af _ _ _ HJ);have I:Below Y z (z.setCell ⟨bs,0,none⟩ (.slice A (d.length-(p+(k+1))) (c-(k+1)))).drew:=((j8.setCell (bs:=bs) z aq _).below).trans (j8.drew (bs:=bs) _).below;generalize (z.setCell ⟨bs,0,none⟩ (.slice A (d.length-(p+(k+1))) (c-(k+1)))).drew=w2 at N K I⊢;have L:p+(k+1)≤d.length:=(by omega);obtain⟨fn,tmps,assign,body,hy,hR⟩:=hY pre ⟨(p,k+1),L⟩ w2 K (by omega);simp only[spV] at hy;have ac:=a8 N;have ab:=a8 I;clear N I K ax ay Q al ak;gi_wp2;refine⟨fun h=>(by cases h),hR.mono ?_⟩;rintro e w3 ⟨rfl,ae,U⟩;have R:=U.2.trans ac.out;have aj:w3.cell? ⟨bs,0,none⟩=some (.slice A (d.length-(p+(k+1))) (c-(k+1))):=(by rw[OK _ _ _ _ _ _ R];rfl);have ag:=(HT.below ab Z).below U.1 Z;gi_wp2;go_roundw
    case rel=>
     refine⟨p+(k+1),pre++[⟨(p,k+1),L⟩],A,c-(k+1),L,by rw[O1];simp;omega,R,fun h=>⟨an h,by omega,by have:=av.out;omega⟩,fun _=>ag,?_,ae⟩;rw[←HS.out,mX am O];simp
    case measure=>rw[qX aj,HM.out];omega
   ·have O:=tt _ ad;rw[ap] at O;have aa:Bg (d.drop p)= -1:=(by unfold Bg;rw[OR ad]);rw[aa];have N:(z.setCell ⟨bs,0,none⟩ (sN)).heap[bs]? =some (.cells #[sN] 52 (0,0)):=sK HC _;have K:J pre (z.setCell ⟨bs,0,none⟩ (sN)):=af _ _ _ HJ.out;have I:Below Y z (z.setCell ⟨bs,0,none⟩ (sN)):=(j8.setCell (bs:=bs) z aq _).below;have L:p+(d.length-p)≤d.length:=(by omega);obtain⟨fn,tmps,assign,body,hy,hR⟩:=hY pre ⟨(p,d.length-p),L⟩ (z.setCell ⟨bs,0,none⟩ (sN)) K (by omega);simp only[spV] at hy;have aB:((d.length-p:Nat):Int)≤(c:Int):=(by omega);have ac:=a8 N;have ab:=a8 I;have HK:=a8 O;clear N I K ak O aa;gi_wp2;refine⟨fun h=>(by cases h),hR.mono ?_⟩;rintro e w3 ⟨rfl,ae,U⟩;have R:=U.2.trans ac.out;have aj:w3.cell? ⟨bs,0,none⟩=some (sN):=(by rw[OK _ _ _ _ _ _ R];rfl);have ag:=(HT.below ab Z).below U.1 Z;clear Q al;gi_wp2;go_roundw
    case rel=>
     refine⟨d.length,pre++[⟨(p,d.length-p),L⟩],none,0,OV _,by rw[O1];simp;omega,by rw[Nat.sub_self];exact R,fun h=>by omega,fun _=>ag,?_,ae⟩;rw[←HS.out,mX am HK.out,show p+(d.length-p)=d.length from by omega];simp
    case measure=>rw[qX aj,HM.out];omega
  ·obtain rfl:p=d.length:=(by omega);rw[Nat.sub_self] at Q M;rw[iV _ _ _ (by simp),Pm] at M;have HS:=a8 M;have HJ:=a8 hJ;clear M hJ ha ht V ah hT h0 ai hY af ao;gi_wp2
   go_end0
   exact⟨⟨_,rfl⟩,pre,HS,HJ⟩
end
def fW:LN→Nat
 |[]=>0
 |x::r=>if x=62 then fW r+1 else 0
theorem um(l:LN)(k:Nat)(E:k<l.length)(A:∀j (h:j<l.length),j<k→l[j]=62)(z:l[k]≠62):fW l=k:=by
 induction l generalizing k with
 |nil=>simp at E
 |cons x r ih=>
  cases k with
  |zero=>simp at z;simp[fW,z]
  |succ k=>
   have G:x=62:=A 0 (by simp) (by omega);simp only[fW];rw[OS G,ih k (by simpa using E) (fun j J I=>by have:=A (j+1) (by simp;omega) (by omega);simpa using this) (by simpa using z)]
theorem A6(l:LN)(z:∀j (h:j<l.length),l[j]=62):fW l=l.length:=by
 induction l with
 |nil=>rfl
 |cons x r ih=>
  have A:x=62:=z 0 (by simp);simp only[fW,Pf];rw[OS A,ih (fun j E=>by have:=z (j+1) (by simp;omega);simpa using this)]
def lP:LN:=[70,114,111,109,32]
def fi(l:LN):Bool:=decide ((l.drop (fW l)).take lP.length=lP)
theorem tT(l:LN)(z:∀j (h:j<l.length),l[j]=62):fi l=false:=by
 unfold fi;rw[A6 l z];simp[lP]
def dS(d:LN)(x:Nat×Nat):LN:=(d.drop x.1).take x.2
theorem oD(d:LN)(x:Nat×Nat)(h:x.1+x.2≤d.length):(dS d x).length=x.2:=by simp[dS];omega
def nu:List (Nat×Nat)→Nat
 |[]=>0
 |x::r=>x.2+nu r
theorem Ca(a b:List (Nat×Nat)):nu (a++b)=nu a+nu b:=by
 induction a with
 |nil=>simp[nu]
 |cons x r ih=>simp[nu,ih];omega
def fp(d:LN):Nat→List (Nat×Nat)→List (Nat×Nat)
 |_,[]=>[]
 |s,x::r=>(if fi (dS d x) then[(s,fW (dS d x))] else[])++fp d (s+x.2) r
theorem yj(d:LN)(s:Nat)(xs:List (Nat×Nat))(x:Nat×Nat):fp d s (xs++[x])=fp d s xs++(if fi (dS d x) then[(s+nu xs,fW (dS d x))] else[]):=by
 induction xs generalizing s with
 |nil=>simp[fp,nu]
 |cons y r ih=>
  simp only[List.cons_append,fp,nu];rw[ih,PH,Nat.add_assoc]
theorem rG(d:LN)(s:Nat)(xs:List (Nat×Nat)):(fp d s xs).length≤xs.length:=by
 induction xs generalizing s with
 |nil=>simp[fp]
 |cons y r ih=>
  simp only[fp,O1,Pf];have:=ih (s+y.2);split<;>simp<;>omega
def eo(d:LN):List (Nat×Nat):=fp d 0 (eP d)
def frV(p:Nat×Nat):Value×Value:=(.int .i64 (p.1:Int),.int .i64 (p.2:Int))
theorem Mc(d:LN)(xs:List (Sp d)):nu (xs.map (·.1))≤xs.length*d.length:=by
 induction xs with
 |nil=>simp[nu]
 |cons x r ih=>
  have:=x.2;simp only[Pe,nu,Pf,Nat.add_mul];omega
theorem Ci(l m:List (Value×Value)):two (l++m)=two l++two m:=by simp[two]
theorem Br{W':World}{N bs:Nat}{v:Value}(h:W.ownsRow z e A v n xs)(J:j8 N bs W W')(O:bs<z):W'.ownsRow z e A v n xs:=by
 refine⟨h.1,?_⟩;rcases h.2 with L|⟨g,cap,I,M,E,K,G⟩
 ·exact .inl L
 ·exact .inr ⟨g,cap,I,M,E,J.cells g _ K rfl (by omega),G⟩
section
open Go.Shelf
attribute [local go_sem] Oper.semAt_some
theorem Gb(v:Value)(w:World)(A:v.oneCell'=true):
  Calls prog 219 #[v] w fun e w'=>e= .returned (.func (.func 237) #[] #[pP w.heap.size])∧w'=w.alloc (.cells #[v] 52):=by
 have z:∀(fn:Fn) (first cap:Array Value) (w:World),(Instr.makeFunc fn first cap).run prog w= .ok (.func fn first cap) w:=fun _ _ _ _=>rfl;go_enter func219,ntmps219;go_wp2;go_ret;exact⟨rfl,rfl⟩
def oM(w:World)(fs:List (Nat×Nat))(s:Nat)(W:World):Prop:=∃v,W.heap[w.heap.size]? =some (.cells #[v] 299 (0,0))∧fJ W (w.heap.size+1+1+1) 302 v (fs.map frV)∧W.heap[w.heap.size+1]? =some (.cells #[.int .i64 (s:Int)] 3 (0,0))∧Below w.heap.size w W
theorem oM.calm{w:World}{fs:List (Nat×Nat)}{s:Nat}{W W':World}(z:j8 w.heap.size (w.heap.size+1+1) W W')(h:oM w fs s W):oM w fs s W':=by
 obtain⟨v,A,E,G,I⟩:=h;exact⟨v,z.cells _ _ A rfl (by omega),Br E z (by omega),z.cells _ _ G rfl (by omega),I.trans z.below⟩
def wt(w:World)(d:LN)(xs:List (Nat×Nat))(W:World):Prop:=oM w (fp d 0 xs) (nu xs) W
def OnG(w:World)(fs:List (Nat×Nat))(s:Nat)(W W':World):Prop:=(KeepsOthers W W'∧lm w.heap.size (w.heap.size+1+1) W W'∧oM w fs s W')∧w.heap.size+1+1<W'.heap.size
theorem OnG.alloc{w:World}{fs:List (Nat×Nat)}{s:Nat}{W W':World}(h:OnG w fs s W W')(o:Obj):OnG w fs s W (W'.alloc o):=by
 obtain⟨⟨A,z,E⟩,G⟩:=h;exact⟨⟨A.trans (KeepsOthers.alloc _ _),⟨z.1.alloc (by omega) _,(Below.heap_alloc W' o _ G).trans z.2⟩,E.calm (j8.alloc _ _ _ (by omega) _)⟩,by simp;omega⟩
theorem OnG.appended{w:World}{fs gs:List (Nat×Nat)}{s:Nat}{W W' A:World}{v G:Value}(h:OnG w fs s W W')(Q:W'.heap[w.heap.size]? =some (.cells #[v] 299 (0,0)))(O:fJ W' (w.heap.size+1+1+1) 302 v (fs.map frV))
  (L:fJ A (w.heap.size+1+1+1) 302 G (gs.map frV)) (z:W'.grownBy A v.ownBlock):OnG w gs s W (A.setCell ⟨w.heap.size,0,none⟩ G):=by
 obtain⟨⟨h1,M,h3⟩,hz⟩:=h;have E:∀k,k<w.heap.size+1+1+1→some k≠v.ownBlock:=fun k hk e=>(by have:=(OF O k e.symm).1;omega);obtain⟨v0,q1,q2,R,q4⟩:=h3;have V:A.heap[w.heap.size]? =some (.cells #[v] 299 (0,0)):=(z.block _ (OT Q) (E _ (by omega))).trans Q;have Z:KeepsOthers W' A:=KeepsOthers.of_grownBy z (fun j o e N=>by
  rcases O.2 with⟨rfl,_⟩|⟨g,cap,J,rfl,_,I,_⟩
  ·simp[Value.ownBlock] at e
  ·simp only[Value.ownBlock,OY] at e;subst e;rw[I] at N;cases N;rfl)
 have K:Below w.heap.size W' A:=⟨z.os,z.tape,z.output,z.size,fun k hk=>z.block k (by omega) (E k (by omega))⟩
 refine⟨⟨(h1.trans Z).trans (KeepsOthers.setCell _ _ _),⟨(M.1.trans K).setCell (p:=⟨w.heap.size,0,none⟩) (OV _) _,?_⟩,G,?_,?_,?_,?_⟩,?_⟩
 ·rw[OQ _ _ _ _ (by simp;omega),z.block _ hz (E _ (by omega))];exact M.2
 ·exact sK V G
 ·refine⟨L.1,?_⟩;rcases L.2 with hn|⟨g,cap,J,aa,U,I,Y⟩
  ·exact .inl hn
  ·exact .inr ⟨g,cap,J,aa,U,(OQ _ _ _ _ (by simp;omega)).trans I,Y⟩
 ·rw[OQ _ _ _ _ (by simp),z.block _ (OT R) (E _ (by omega))];exact R
 ·exact(q4.trans K).setCell (p:=⟨w.heap.size,0,none⟩) (OV _) _
 ·have:=z.size;simp;omega
theorem OnG.start{w:World}{fs:List (Nat×Nat)}{s n:Nat}{W:World}(h:oM w fs s W)(L:w.heap.size+1+1<W.heap.size):OnG w fs (s+n) W (W.setCell ⟨w.heap.size+1,0,none⟩ (.int .i64 ((s:Int)+(n:Int)))):=by
 obtain⟨v,M,z,N,O⟩:=h;refine⟨⟨KeepsOthers.setCell _ _ _,⟨(OX _ W).setCell (p:=⟨w.heap.size+1,0,none⟩) (by simp) _,OQ _ _ _ _ (by simp)⟩,v,?_,?_,?_,?_⟩,by simpa using L⟩
 ·rw[OQ _ _ _ _ (by simp)];exact M
 ·refine⟨z.1,?_⟩;rcases z.2 with K|⟨g,cap,G,J,A,I,E⟩
  ·exact .inl K
  ·exact .inr ⟨g,cap,G,J,A,(OQ _ _ _ _ (by simp;omega)).trans I,E⟩
 ·rw[sK N];simp
 ·exact O.setCell (p:=⟨w.heap.size+1,0,none⟩) (by simp) _
theorem IZ:(prog.info? 302).map (fun i=>(i.zero,i.size,i.bytes))=some (some (.agg #[.int .i64 0,.int .i64 0]),2,16):=by kernel_rfl
theorem oh{F:Fence}{n:Nat}{K:Array Oper}{J:List Oper}{o:Oper}{E:Act}{Q:Exit→Act→World→Prop}(w:World)(U:o.guard=none)(s x:Operand)
  (ho:o.op= .call {callee:= .builtin .append,args:= #[s,x],argTypes:= #[299,299]})
  (z:Nat) (v:Value) (fs:List (Nat×Nat)) (p q:Nat) (G c:Nat) (hs:E.eval s=v) (hx:E.eval x=sS G 1 c) (R:fJ w z 302 v (fs.map frV))
  (h0:w.cell? ⟨G,0,none⟩=some (.int .i64 (p:Int))) (h1:w.cell? ⟨G,1,none⟩=some (.int .i64 (q:Int))) (aa:fs.length≤1048576) (M:z≤w.heap.size)
  (h:∀I w',fJ w' z 302 I ((fs++[(p,q)]).map frV)→w.grownBy w' v.ownBlock→wpListIn F n prog K Q J (E.put o.dst I) w'):wpListIn F n prog K Q (o::J) E w:=by
 obtain⟨i0,hi,V,Y,Z⟩:=info_parts IZ;have N:w.ownsRow z 302 2 v fs.length (two (fs.map frV)):=(by have:=R;unfold fJ at this;rw[OW] at this;exact this);refine wpListIn_append_own w U s x 299 ho z 302 i0 (.agg #[.int .i64 0,.int .i64 0]) 2 16 underlying299 hi V Y Z rfl (by decide) v fs.length (two (fs.map frV)) hs N ⟨G,0,none⟩ 1 c [iI p,iI q] hx (by simp) ?_ ?_ (by unfold maxLen;omega) (by omega) M ?_
 ·intro j u A;rw[ez]
  match j with
  |0=>simp only[Py,OY] at A;rw[←A];exact h0
  |1=>simp only[Px,Py,OY] at A;rw[←A];exact h1
  |j+2=>simp at A
 ·intro u L;simp only[Pd,Pw,or_false] at L;rcases L with rfl|rfl<;>rfl
 ·intro I w' O hg _;refine h I w' ?_ hg;unfold fJ;rw[OW,O1,O7,Ci];exact O
theorem K9(w:World):dW (w.alloc (.cells #[.int .u8 70,.int .u8 114,.int .u8 111,.int .u8 109,.int .u8 32] 5 (5,6))) (some ⟨w.heap.size,0,none⟩) lP:=fun _=>by
 refine⟨w.heap.size,0,rfl,fun i hi=> ?_⟩;rw[OK _ _ _ _ 5 (5,6) (OP w _)];simp only[lP,Pf,PM] at hi
 match i with
 |0=>rfl
 |1=>rfl
 |2=>rfl
 |3=>rfl
 |4=>rfl
 |i+5=>omega
theorem eJ{W:World}{b z:Nat}{l:LN}(h:eh W b z l):dW W (some ⟨b,z,none⟩) l:=fun _=>⟨b,z,rfl,h⟩
theorem lU{W:World}{b z:Nat}{d:LN}(h:0<d.length→eh W b z d)(x:Nat×Nat)(E:x.1+x.2≤d.length):eh W b (z+x.1) (dS d x):=fun i hi=>by
 have G:=oD d x E;have A:x.1+i<d.length:=(by omega);rw[Nat.add_assoc,h (by omega) (x.1+i) A];simp[dS]
theorem mh(L:OA)(G:Nat)(d:LN)(w:World)(hd:d.length≤1048576)(aD:d.length≤G)(aS:G≤9223372036854775807)(hr:dW w L d)(hb:∀x∈d,x<256):
  Calls prog 203 #[.slice L d.length G] w fun e w'=>∃v,e= .returned v∧fJ w' w.heap.size 302 v ((eo d).map frV)∧Below w.heap.size w w':=by
 refine(callsIn_wide (n:=6)).1 ?_;refine callsIn_of_wp_marks func203 rfl trivial ?_ rfl;simp only[ntmps203,List.size_toArray,Pf,PM,Nat.reduceAdd,Nat.reduceSub,Array.replicate_succ,Array.replicate_zero,List.push_toArray,List.append_toArray,PC,List.cons_append];gi_wp2_with fail;refine Ez ?_;gi_wp2_with fail;refine wpIn_label ?_;gi_wp2_with fail;refine⟨trivial,(callsIn_wide.2 (Gb (.slice L d.length G) _ rfl)).mono ?_⟩;rintro e R ⟨rfl,Y⟩;have O:((w.alloc (.cells #[sN] 299)).alloc (.cells #[.int .i64 0] 3)).heap.size=w.heap.size+1+1:=(by simp);rw[O];have aM:R.heap[w.heap.size]? =some (.cells #[sN] 299 (0,0)):=by
  rw[Y,Below.heap_alloc _ _ _ (by rw[O];omega),Below.heap_alloc _ _ _ (by simp)];exact OP w _
 have aN:R.heap[w.heap.size+1]? =some (.cells #[.int .i64 0] 3 (0,0)):=by
  rw[Y,Below.heap_alloc _ _ _ (by rw[O];omega)];have:=OP (w.alloc (.cells #[sN] 299)) (.cells #[.int .i64 0] 3);simpa using this
 have aO:R.heap[w.heap.size+1+1]? =some (.cells #[.slice L d.length G] 52 (0,0)):=by
  rw[Y,←O];exact OP _ _
 have au:Below w.heap.size w R:=(by rw[Y];exact(((OX _ w).alloc (OV _) _).alloc (by simp) _).alloc (by rw[O];omega) _);have aY:R.heap.size=w.heap.size+1+1+1:=(by rw[Y,OG,O]);clear Y O;obtain⟨b,A,I⟩:∃b A,0<d.length→L=some ⟨b,A,none⟩∧eh w b A d∧b<w.heap.size:=by
  by_cases h0:0<d.length
  ·obtain⟨b,A,e,hc⟩:=hr h0;refine⟨b,A,fun _=>⟨e,hc,dG (hc 0 h0)⟩⟩
  ·exact⟨0,0,fun h=>OH h h0⟩
 have aH:wt w d [] R:=⟨_,aM,World.ownsRow_nil _ _ _ _,aN,au⟩
 gi_wp2;refine wo (α:=Sp d) w.heap.size (w.heap.size+1+1) (by omega) (by omega) rfl (by omega) (gf:=237) (lb:= #[pP (w.heap.size+1+1)]) rfl trivial (enters_of func237 (by kernel_rfl) rfl) (encs:=spV b A) (fun _=>rfl) (S:=fun xs=>xs.map (·.1)=eP d) d.length
  (fun(xs:List (Sp d)) W=>wt w d (xs.map Subtype.val) W) (fun pre W W' hc hi=>oM.calm hc hi) aH
  (fun x=>{tmps:= #[.slice L d.length G,undef,sN,pP w.heap.size,pP (w.heap.size+1),.slice (some ⟨b,A+x.1.1,none⟩) x.1.2 x.1.2,undef,undef,undef,.slice L d.length G,.func (.func 237) #[] #[pP (w.heap.size+1+1)],.slice (some ⟨b,A+x.1.1,none⟩) x.1.2 x.1.2,undef,undef,undef,undef,undef,undef,undef,undef,undef,undef,undef,undef,undef,undef,undef,undef,undef,undef,undef,undef,undef,undef,undef,undef,undef,undef,undef,undef],defers:=[]}) ?seq ?assign ?body ?done
 case seq=>
  intro l J W hl aR aC aK aJ hY aI;have ay:Below w.heap.size R W:=aC.mono (by omega);exact Ga 5 l (w.heap.size+1+1) w.heap.size b A d hb (fun h=>(I h).2.2) hd (by omega) J aK aJ hY W L G (aR.trans aO) (fun h=>⟨(I h).1,aD,aS⟩) (fun h=>((I h).2.1.below au (I h).2.2).below ay (I h).2.2) aI
 case assign=>
  intro l x W K hK;simp only[spV];gi_wp2;exact hK
 case body=>
  rintro l pre x W ⟨v,h1,Q,Z,h4⟩ hN bi;have hx:=x.2;have aE:=Mc d pre;have aW:pre.length*d.length≤1048576*1048576:=Nat.mul_le_mul (by omega) hd;have HS:=a8 (yj d 0 (pre.map Subtype.val) x.1);have ab:Hid (nu ((pre++[x]).map Subtype.val)=nu (pre.map Subtype.val)+x.1.2):=by
   show _=_;rw[O7,Ca];simp[nu]
  have aA:=rG d 0 (pre.map Subtype.val);rw[OW] at aA;have ai:W.cell? ⟨w.heap.size+1,0,none⟩=some (.int .i64 (nu (pre.map Subtype.val):Int)):=(by rw[OK _ _ _ _ _ _ Z];rfl);have ba:W.frozen? ⟨w.heap.size+1,0,none⟩=false:=(by simp[World.frozen?,Z]);generalize aw:nu (pre.map Subtype.val)=z at aE ai ab⊢;have bh:z≤1099511627776:=(by omega);have bj:x.1.2≤1048576:=(by omega);have aU:=oD d x.1 hx;have ac:eh W b (A+x.1.1) (dS d x.1):=lU (fun h=>(I h).2.1.below h4 (I h).2.2) x.1 hx;have aP:0<x.1.2→b<w.heap.size:=fun h=>(I (by omega)).2.2;have hG:oM w (fp d 0 (pre.map Subtype.val)) z W:=⟨v,h1,Q,by rw[←aw];exact Z,h4⟩
  have ao:=OnG.start (n:=x.1.2) hG (by omega);have an:Hid (∀W',fi (dS d x.1)=false→OnG w (fp d 0 (pre.map Subtype.val)) (z+x.1.2) W W'→KeepsOthers W W'∧lm w.heap.size (w.heap.size+1+1) W W'∧wt w d ((pre++[x]).map Subtype.val) W'):=fun W' N h=>by
   refine⟨h.1.1,h.1.2.1,?_⟩;have e:=HS.out;rw[N] at e;simp only[Bool.false_eq_true,if_false,Pm] at e;unfold wt;rw[ab.out,O7];show oM w (fp d 0 (pre.map Subtype.val++[x.1])) _ _;rw[e];exact h.1.2.2
  have az:Hid (∀W' k,fi (dS d x.1)=true→fW (dS d x.1)=k→OnG w (fp d 0 (pre.map Subtype.val)++[(z,k)]) (z+x.1.2) W W'→KeepsOthers W W'∧lm w.heap.size (w.heap.size+1+1) W W'∧wt w d ((pre++[x]).map Subtype.val) W'):=fun W' k N hm h=>by
   refine⟨h.1.1,h.1.2.1,?_⟩;have e:=HS.out;rw[N,hm,aw] at e;simp only[if_true,Ps] at e;unfold wt;rw[ab.out,O7];show oM w (fp d 0 (pre.map Subtype.val++[x.1])) _ _;rw[e];exact h.1.2.2
  have ae:=a8 ao;clear hG ao HS ab;clear h1 Q Z h4;gi_wp2;have V:eh (W.setCell ⟨w.heap.size+1,0,none⟩ (.int .i64 ((z:Int)+(x.1.2:Int)))) b (A+x.1.1) (dS d x.1):=fun i hi=>by
   have:=aP (by omega);rw[World.cell?_setCell_other _ _ _ _ (fun e=>by have:=OL Addr.block e;simp at this;omega)];exact ac i hi
  generalize W.setCell ⟨w.heap.size+1,0,none⟩ (.int .i64 ((z:Int)+(x.1.2:Int)))=W2 at V ae⊢
  gi_loopw [7,8,19] (fun _ _ i wr=>∃k:Nat,k≤x.1.2∧i=iI k∧(∀j (h:j<(dS d x.1).length),j<k→(dS d x.1)[j]=62)∧wr=W2) (fun _ _ i _=>x.1.2-(intOf i).toNat)
  case atStart=>exact⟨0,by omega,rfl,fun j _ h=>by omega,rfl⟩
  case round=>
   obtain⟨k,hk,rfl,M,rfl⟩:=hrel;by_cases bg:k<x.1.2
   ·have aq:k<(dS d x.1).length:=(by omega);have av:=V k aq;by_cases af:(dS d x.1)[k]=62
    ·rw[af] at av;have HA:=a8 M;clear M V ac;gi_wp2;go_roundw
     case rel=>exact⟨k+1,by omega,by go_num,fun j hj be=>by
      by_cases e:j=k
      ·subst e;exact af
      ·exact HA.out j hj (by omega),by simp⟩
     case measure=>simp[intOf];omega
    ·have he:(((dS d x.1)[k]:Int)==62)=false:=(by simp;omega);have hm:=um _ k aq M af;have N:fi (dS d x.1)=decide (((dS d x.1).drop k).take lP.length=lP):=(by unfold fi;rw[hm]);have aV:((dS d x.1).drop k).length=x.1.2-k:=(by rw[O9,aU]);have HR:=a8 (V.drop k);have aT:=fun(w:World) (C:Array Value) (n c:Nat)=>Lib.run_convert_bytes_const (P:=prog) w 52 5 C n c underlying52 underlying5;have bf:(k:Int)≤(x.1.2:Int):=(by omega);have aX:¬x.1.2=k:=(by omega);have HA:=a8 M;clear M V ac;have aQ:∀y∈(dS d x.1).drop k,y<256:=fun y hy=>hb y (Pk (Pi (Pk hy)));gi_wp2_with fail;have aa:=K9 wr;have ad:=(eJ HR).below (nAl wr (.cells #[.int .u8 70,.int .u8 114,.int .u8 111,.int .u8 109,.int .u8 32] 5 (5,6)));have U:=ae.alloc (.cells #[.int .u8 70,.int .u8 114,.int .u8 111,.int .u8 109,.int .u8 32] 5 (5,6));generalize bd:wr.heap.size=g2 at aa⊢;generalize wr.alloc (.cells #[.int .u8 70,.int .u8 114,.int .u8 111,.int .u8 109,.int .u8 32] 5 (5,6))=w3 at ad aa U⊢;refine⟨trivial,(CallsIn.inRound l (callsIn_wide.2 (nL _ _ _ _ (x.1.2-k) 5 ((dS d x.1).drop k) lP w3 aV rfl (OV _) ad aa aQ (by decide)))).mono ?_⟩;rintro e E ⟨rfl,rfl⟩;rw[←N];clear ad aa HR aT av;by_cases hf:fi (dS d x.1)=true
     ·rw[hf];obtain⟨v3,q1,q2,q3,q4⟩:=U.1.2.2;have c3:E.cell? ⟨w.heap.size,0,none⟩=some v3:=(by rw[OK _ _ _ _ _ _ q1];rfl);have ap:=U.alloc (.cells #[iI z,iI k] 302);have ag:=nAl E (.cells #[iI z,iI k] 302);have ax:=(ag.block _ (OT q1)).trans q1;have al:=fJ.below q2 ag (OV _);have e0:(E.alloc (.cells #[iI z,iI k] 302)).cell? ⟨E.heap.size,0,none⟩=some (iI z):=(by rw[OK _ _ _ _ _ _ (OP E _)];rfl);have e1:(E.alloc (.cells #[iI z,iI k] 302)).cell? ⟨E.heap.size,1,none⟩=some (iI k):=(by rw[OK _ _ _ _ _ _ (OP E _)];rfl);have bk:=U.2;have H:=a8 (And.intro ap (And.intro ax al));clear U ap q1 q2 q3 q4 ag ax;gi_wp2_with (gi_at_builtin;refine oh _ rfl _ _ rfl (w.heap.size+1+1+1) v3 _ z k E.heap.size 1 rfl rfl al e0 e1 (by omega) (by simp;omega) ?_;intro v5 w5 ak aj;have ah:=(aj.block _ (OT H.2.1) (fun e=>by have:=(OF al _ e.symm).1;omega)).trans H.2.1;have aZ:w5.cell? ⟨w.heap.size,0,none⟩=some v3:=(by rw[OK _ _ _ _ _ _ ah];rfl);have bb:w5.frozen? ⟨w.heap.size,0,none⟩=false:=(by simp[World.frozen?,ah]);have HF:=a8 (az.out _ k hf hm (OnG.appended H.1 H.2.1 H.2.2 ak aj));obtain⟨a5,c5,rfl⟩:=fJ.slice ak;clear ak aj ah;generalize ((fp d 0 (pre.map Subtype.val)++[(z,k)]).map frV).length=n5 at HF⊢)
      exact HF
     ·simp only[Bool.not_eq_true] at hf;rw[hf];gi_wp2;exact an.out _ hf U
   ·obtain rfl:k=x.1.2:=(by omega);have N:fi (dS d x.1)=false:=tT _ (fun j hj=>M j hj (by omega));clear M V ac;gi_wp2;exact an.out _ N ae.out
 case done=>
  rintro D xs W hS ⟨v,h1,Q,Z,h4⟩ hD hK;have aL:xs.map Subtype.val=eP d:=hS;rw[aL] at Q;have ai:W.cell? ⟨w.heap.size,0,none⟩=some v:=(by rw[OK _ _ _ _ _ _ h1];rfl);have ar:=a8 hK;have H2:=a8 Q;obtain⟨a,cap,rfl⟩:=Q.slice;generalize ((fp d 0 (eP d)).map frV).length=nn at ai H2;clear h1 Q Z hS hK;gi_wp2;refine⟨by simp,.inl ⟨_,_,rfl,run_takeDeferred ar.out,?_⟩⟩;have am:j8 w.heap.size (w.heap.size+1+1) W (W.putObj D (.deferred none)):=j8.putObj ar.out rfl (by omega) _;refine⟨_,results_tmp rfl _ _ _,_,rfl,?_,h4.trans am.below⟩;have h5:fJ (W.putObj D (.deferred none)) (w.heap.size+1+1+1) 302 (.slice a nn cap) ((fp d 0 (eP d)).map frV):=Br H2 am (by omega);refine⟨h5.1,?_⟩;rcases h5.2 with hn|⟨g,aB,aG,hv,bc,aF⟩
  ·exact .inl hn
  ·exact .inr ⟨g,aB,aG,hv,by omega,aF⟩
end
def uGo(d:LN):Nat→List (Nat×Nat)→LN
 |t,[]=>d.drop t
 |t,x::r=>if 0<x.2 then(d.drop t).take (x.1-t)++uGo d (x.1+1) r else uGo d t r
def Ups(n:Nat):Nat→List (Nat×Nat)→Prop
 |_,[]=>True
 |t,x::r=>t≤x.1∧x.1+1≤n∧Ups n (x.1+1) r
theorem Ups.mono{n t z:Nat}{fs:List (Nat×Nat)}(h:Ups n t fs)(A:z≤t):Ups n z fs:=by
 cases fs with
 |nil=>trivial
 |cons x r=>exact⟨O0 A h.1,h.2.1,h.2.2⟩
theorem tU{l:LN}(h:fi l=true):0<l.length:=by
 cases l with
 |nil=>simp[fi,lP,fW] at h
 |cons x r=>simp
def lH(d:LN):Nat→List (Nat×Nat)→Prop
 |s,[]=>s=d.length
 |s,x::r=>x.1=s∧s+x.2≤d.length∧lH d (s+x.2) r
theorem BW(d:LN)(f s:Nat)(E:d.length-s≤f)(G:s≤d.length):lH d s (gA f s (d.drop s)):=by
 induction f generalizing s with
 |zero=>rw[iV _ _ _ (by rw[O9];omega)];show s=d.length;omega
 |succ f ih=>
  simp only[gA];split
  ·next h=>rw[O9] at h;show s=d.length;omega
  ·next h=>
   rw[O9] at h;have A:=jM (d.drop s) (by rw[O9];omega);have z:=tr (d.drop s);rw[O9] at z;rw[List.drop_drop];exact⟨rfl,by omega,ih (s+gh (d.drop s)) (by omega) (by omega)⟩
theorem pp(f p:Nat)(d:LN):(gA f p d).length≤f:=by
 induction f generalizing p d with
 |zero=>simp[gA]
 |succ f ih=>
  simp only[gA];split
  ·simp
  ·have:=ih (p+gh d) (d.drop (gh d));simp;omega
theorem qP(d:LN):(eo d).length≤d.length:=O0 (rG d 0 _) (pp _ _ _)
theorem jK(d:LN):lH d 0 (eP d):=by
 have:=BW d d.length 0 (by omega) (by omega);rwa[List.drop_zero] at this
theorem H7{d:LN}{s:Nat}{xs:List (Nat×Nat)}(h:lH d s xs):s≤d.length:=by
 cases xs with
 |nil=>exact Nat.le_of_eq h
 |cons x r=>have:=h.2.1;omega
theorem nU{d:LN}{x:Nat×Nat}(h:x.1=s):dS d x=(d.drop s).take x.2:=by subst h;rfl
theorem Hd{d:LN}{s:Nat}{xs:List (Nat×Nat)}(h:lH d s xs):Ups d.length s (fp d s xs):=by
 induction xs generalizing s with
 |nil=>trivial
 |cons x r ih=>
  obtain⟨G,I,A⟩:=h;simp only[fp];by_cases z:fi (dS d x)=true
  ·rw[OS z];have E:=tU z;rw[nU G] at E;simp at E;exact⟨OV _,by omega,(ih A).mono (by omega)⟩
  ·rw[OR z];exact(ih A).mono (by omega)
theorem xJ(d:LN)(t s k:Nat)(h:t≤s):(d.drop t).take (s+k-t)=(d.drop t).take (s-t)++(d.drop s).take k:=by
 rw[show s+k-t=(s-t)+k from by omega,List.take_add,List.drop_drop,show t+(s-t)=s from by omega]
def kq(d:LN)(x:Nat×Nat):LN:=if fi (dS d x)&&decide (0<fW (dS d x)) then(dS d x).drop 1 else dS d x
theorem Oz{d:LN}{t s:Nat}{xs:List (Nat×Nat)}(h:lH d s xs)(J:t≤s):uGo d t (fp d s xs)=(d.drop t).take (s-t)++xs.flatMap (kq d):=by
 induction xs generalizing s t with
 |nil=>
  have K:s=d.length:=h;subst K;simp only[fp,uGo,List.flatMap_nil,Pm];rw[Pc (Nat.le_of_eq (O9 ..))]
 |cons x r ih=>
  obtain⟨A,L,G⟩:=h;simp only[fp,List.flatMap_cons];by_cases z:fi (dS d x)=true
  ·rw[OS z];have I:=tU z;rw[nU A] at I;simp at I;simp only[List.cons_append,PC,uGo];by_cases E:0<fW (dS d x)
   ·rw[OS E,ih G (by omega)];unfold kq;rw[z,ON E];simp only[Bool.and_self,if_true];rw[nU A,List.drop_take,List.drop_drop,show s+x.2-(s+1)=x.2-1 from by omega]
   ·rw[OR E,ih G (by omega),xJ d t s x.2 J];unfold kq;rw[z,OM E];simp only[Bool.and_false,Bool.false_eq_true,if_false];rw[nU A,PH]
  ·rw[OR z,PC,ih G (by omega),xJ d t s x.2 J];unfold kq;simp only[Bool.not_eq_true] at z;rw[z];simp only[Bool.false_and,Bool.false_eq_true,if_false];rw[nU A,PH]
def d6(d:LN):LN:=(eP d).flatMap (kq d)
theorem Ew(d:LN):uGo d 0 (eo d)=d6 d:=by have:=Oz (jK d) (OV 0);simpa[d6,eo] using this
theorem Fe(d:LN):Ups d.length 0 (eo d):=Hd (jK d)
theorem Hc(d:LN){s:Nat}{xs:List (Nat×Nat)}(h:lH d s xs):(xs.flatMap (kq d)).length≤d.length-s:=by
 induction xs generalizing s with
 |nil=>simp
 |cons x r ih=>
  obtain⟨A,E,z⟩:=h;have:=ih z;have G:(dS d x).length≤x.2:=(by simp[dS];omega);rw[List.flatMap_cons,O1];have:(kq d x).length≤x.2:=by
   unfold kq;split
   ·rw[O9];omega
   ·omega
  omega
theorem od(d:LN):(d6 d).length≤d.length:=Hc d (jK d)
theorem oy{d:LN}{x:Nat×Nat}{y:Nat}(h:y∈dS d x):y∈d:=Pk (Pi h)
theorem zD(d:LN)(A:∀x∈d,x<256):∀x∈d6 d,x<256:=by
 intro y z;simp only[d6,List.mem_flatMap] at z;obtain⟨x,_,z⟩:=z;unfold kq at z;split at z
 ·exact A y (oy (Pk z))
 ·exact A y (oy z)
theorem iw{d:LN}(h:eh w b z d)(t n:Nat):eh w b (z+t) ((d.drop t).take n):=fun i hi=>by
 have A:t+i<d.length:=(by simp at hi;omega);rw[Nat.add_assoc,h (t+i) A];simp
theorem rb(d:LN)(t n:Nat)(h:t+n≤d.length):((d.drop t).take n).length=n:=by simp;omega
def gJ:LN:=[70,114,111,109,32,109,97,105,108,10]
def ka(d:LN):Bool:=if h:0<d.length then decide (d[d.length-1]≠10) else false
theorem yk(w:World):dW (w.alloc (.cells #[.int .u8 70,.int .u8 114,.int .u8 111,.int .u8 109,.int .u8 32,.int .u8 109,.int .u8 97,.int .u8 105,.int .u8 108,.int .u8 10] 5 (10,11))) (some ⟨w.heap.size,0,none⟩) gJ:=fun _=>by
 refine⟨w.heap.size,0,rfl,fun i hi=> ?_⟩;rw[OK _ _ _ _ 5 (10,11) (OP w _)];simp only[gJ,Pf,PM] at hi
 match i with
 |0=>rfl
 |1=>rfl
 |2=>rfl
 |3=>rfl
 |4=>rfl
 |5=>rfl
 |6=>rfl
 |7=>rfl
 |8=>rfl
 |9=>rfl
 |i+10=>omega
theorem yl(b A cap:Nat)(d:LN)(w:World)(N:d.length≤1048576)(G:eh w b A d):
  Calls prog 206 #[.slice (some ⟨b,A,none⟩) d.length cap] w fun e w'=>e= .returned (.bool (ka d))∧w'=w:=by
 by_cases K:0<d.length
 ·have I:=G (d.length-1) (by omega);obtain⟨n,L⟩:∃n,d.length=n+1:=⟨d.length-1,by omega⟩
  have z:ka d=decide (d[d.length-1]≠10):=(by unfold ka;rw[dif_pos K]);generalize d[d.length-1]=y at I z;rw[show d.length-1=n from by omega] at I;have E:=a8 z;clear z G;rw[L];have hi:(0:Int)≤(n:Int):=(by omega);have O:((n:Int)+1-1)=(n:Int):=(by omega);by_cases J:y=10
  ·subst J;go_enter func206,ntmps206;go_wp2;go_ret;exact⟨by rw[E.out];rfl,rfl⟩
  ·have Q:((y:Int) !=10)=true:=(by simp;omega);go_enter func206,ntmps206;go_wp2;go_ret;exact⟨by rw[E.out,ON J];simp,rfl⟩
 ·have M:d=[]:=PF (by omega);subst M;go_enter func206,ntmps206;go_wp2;go_ret;exact⟨rfl,rfl⟩
theorem zg(b A cap:Nat)(d:LN)(w:World)(N:d.length≤1048576)(G:eh w b A d):
  Calls prog 102 #[.slice (some ⟨b,A,none⟩) d.length cap] w fun e w'=>e= .returned (.bool (ka d))∧w'=w:=by
 by_cases K:0<d.length
 ·have I:=G (d.length-1) (by omega);obtain⟨n,L⟩:∃n,d.length=n+1:=⟨d.length-1,by omega⟩
  have z:ka d=decide (d[d.length-1]≠10):=(by unfold ka;rw[dif_pos K]);generalize d[d.length-1]=y at I z;rw[show d.length-1=n from by omega] at I;have E:=a8 z;clear z G;rw[L];have hi:(0:Int)≤(n:Int):=(by omega);have O:((n:Int)+1-1)=(n:Int):=(by omega);by_cases J:y=10
  ·subst J;go_enter func102,ntmps102;go_wp2;go_ret;exact⟨by rw[E.out];rfl,rfl⟩
  ·have Q:((y:Int) !=10)=true:=(by simp;omega);go_enter func102,ntmps102;go_wp2;go_ret;exact⟨by rw[E.out,ON J];simp,rfl⟩
 ·have M:d=[]:=PF (by omega);subst M;go_enter func102,ntmps102;go_wp2;go_ret;exact⟨rfl,rfl⟩
def et(e:LN):LN:=(e.drop 10).take (e.length-11)
def eB(e:LN):Bool:=decide (10<e.length∧e.take 10=gJ∧e.drop (e.length-1)=[10])&& !ka (et e)
theorem pL(b E cap n:Nat)(G:OA)(K:Nat)(l:LN)(w:World)(R:l.length=n)(M:n≤cap)(O:n≤1048576)(I:eh w b E l)(A:dW w G [10])(J:∀x∈l,x<256):
  Calls prog 207 #[.slice (some ⟨b,E,none⟩) n cap,.slice G 1 K] w fun e w'=>e= .returned (.bool (decide (l.drop (l.length-1)=[10]∧0<l.length)))∧w'=w:=by
 subst R;by_cases h0:0<l.length
 ·obtain⟨m,z⟩:∃m,l.length=m+1:=⟨l.length-1,by omega⟩
  have Q:(l.drop m).length=1:=(by rw[O9];omega);have L:=a8 (wM (some ⟨b,E+m,none⟩) G (cap-m) K (l.drop m) [10] w (eJ (I.drop m)) A (fun x U=>J x (Pk U)) (by decide));rw[Q] at L;have N:Hid (decide (l.drop m=[10])=decide (l.drop (l.length-1)=[10]∧0<l.length)):=by
   show _=_;rw[z,show m+1-1=m from by omega];simp
  have Y:(1:Int)≤(m:Int)+1:=(by omega);have Z:(m:Int)+1-1=(m:Int):=(by omega);have aa:¬cap=m:=(by omega);have ab:m+1-m=1:=(by omega);rw[z];rw[z] at M O;clear I A J;go_enter func207,ntmps207;go_wp2_with fail;refine(L.out).mono ?_;rintro e w' ⟨rfl,rfl⟩;go_wp2;go_ret;exact⟨eN (by have h:=N.out;rw[z] at h;exact h),rfl⟩
 ·have V:l=[]:=PF (by omega);subst V;clear I A J;go_enter func207,ntmps207;go_wp2;go_ret;exact⟨rfl,rfl⟩
theorem EV(w:World):dW (w.alloc (.cells #[.int .u8 10] 5 (1,2))) (some ⟨w.heap.size,0,none⟩) [10]:=fun _=>by
 refine⟨w.heap.size,0,rfl,fun i hi=> ?_⟩;simp at hi;subst hi;rw[OK _ _ _ _ 5 (1,2) (OP w _)];rfl
theorem MR(b z cap n:Nat)(d:LN)(w:World)(G:d.length=n)(E:n≤1048576)(A:eh w b z d):
  Calls prog 206 #[.slice (some ⟨b,z,none⟩) n cap] w fun e w'=>e= .returned (.bool (ka d))∧w'=w:=by
 subst G;exact yl b z cap d w E A
theorem oP(b z cap n:Nat)(A:OA)(l:LN)(w:World)(N:l.length=n)(L:n≤cap)(I:eh w b z l)(E:dW w A gJ)(K:∀x∈l,x<256)(h:l.take 10=gJ):
  Calls prog 205 #[.slice (some ⟨b,z,none⟩) n cap,.slice A 10 10] w fun e w'=>e= .returned (.tuple #[.slice (if cap=10 then some ⟨b,z,none⟩ else some ⟨b,z+10,none⟩) (n-10) (cap-10),.bool true])∧w'=w:=by
 have G:=a8 (nL (some ⟨b,z,none⟩) A cap 10 n 10 l gJ w N rfl L (eJ I) E K (by decide));have J:decide (l.take gJ.length=gJ)=true:=ON h;rw[J] at G;have O:10≤n:=(by have:=OL List.length h;simp[gJ] at this;omega);have hi:(10:Int)≤(n:Int):=(by omega);clear I E K h J;go_enter func205,ntmps205;go_wp2_with fail;refine(G.out).mono ?_;rintro e w' ⟨rfl,rfl⟩;by_cases Q:cap=10
 ·have M:(cap:Int)=10:=(by omega);go_wp2
  all_goals (go_ret2;exact⟨by simp,rfl⟩)
 ·have M:¬(cap:Int)=10:=(by omega);go_wp2
  all_goals (go_ret2;exact⟨by simp,rfl⟩)
theorem yb(b z cap n:Nat)(A:OA)(l:LN)(w:World)(M:l.length=n)(L:n≤cap)(I:eh w b z l)(E:dW w A gJ)(K:∀x∈l,x<256)(h:¬l.take 10=gJ):
  Calls prog 205 #[.slice (some ⟨b,z,none⟩) n cap,.slice A 10 10] w fun e w'=>e= .returned (.tuple #[.slice (some ⟨b,z,none⟩) n cap,.bool false])∧w'=w:=by
 have G:=a8 (nL (some ⟨b,z,none⟩) A cap 10 n 10 l gJ w M rfl L (eJ I) E K (by decide));have J:decide (l.take gJ.length=gJ)=false:=OM h;rw[J] at G;clear I E K h J;go_enter func205,ntmps205;go_wp2_with fail;refine(G.out).mono ?_;rintro e w' ⟨rfl,rfl⟩;go_wp2;go_ret2;exact⟨rfl,rfl⟩
theorem me(b z cap n:Nat)(A:OA)(l:LN)(w:World)(L:l.length=n)(M:n≤cap)(N:n≤1048576)(I:eh w b z l)(E:dW w A [10])(K:∀x∈l,x<256)(O:0<n)(h:l.drop (n-1)=[10]):
  Calls prog 184 #[.slice (some ⟨b,z,none⟩) n cap,.slice A 1 1] w fun e w'=>e= .returned (.tuple #[.slice (some ⟨b,z,none⟩) (n-1) cap,.bool true])∧w'=w:=by
 have G:=a8 (pL b z cap n A 1 l w L M N I E K);have J:decide (l.drop (l.length-1)=[10]∧0<l.length)=true:=ON ⟨by rw[L];exact h,by omega⟩;rw[J] at G;obtain⟨m,rfl⟩:∃m,n=m+1:=⟨n-1,by omega⟩
 have hi:(0:Int)≤(m:Int):=(by omega);have Q:(m:Int)+1-1=(m:Int):=(by omega);have R:(m:Int)≤(cap:Int):=(by omega);clear I E K h J O;go_enter func184,ntmps184;go_wp2_with fail;refine(G.out).mono ?_;rintro e w' ⟨rfl,rfl⟩;go_wp2;go_ret2;exact⟨rfl,rfl⟩
theorem kO(b z cap n:Nat)(A:OA)(l:LN)(w:World)(M:l.length=n)(K:n≤cap)(L:n≤1048576)(I:eh w b z l)(E:dW w A [10])(J:∀x∈l,x<256)(h:¬(l.drop (l.length-1)=[10]∧0<l.length)):
  Calls prog 184 #[.slice (some ⟨b,z,none⟩) n cap,.slice A 1 1] w fun e w'=>e= .returned (.tuple #[.slice (some ⟨b,z,none⟩) n cap,.bool false])∧w'=w:=by
 have G:=a8 (pL b z cap n A 1 l w M K L I E J);rw[OM h] at G;clear I E J h;go_enter func184,ntmps184;go_wp2_with fail;refine(G.out).mono ?_;rintro e w' ⟨rfl,rfl⟩;go_wp2;go_ret2;exact⟨rfl,rfl⟩
def Cr(w:World)(e:Ending)(w':World):Prop:=∃v,e= .returned (.tuple #[v,.bool false])∧Below w.heap.size w w'
theorem yr(b E cap:Nat)(l:LN)(w:World)(U:l.length≤1048576)(L:l.length≤cap)(V:eh w b E l)(Y:b<w.heap.size)(G:∀x∈l,x<256)(O:¬l.take 10=gJ):
  Calls prog 182 #[.slice (some ⟨b,E,none⟩) l.length cap] w (Cr w):=by
 have R:=fun(w:World) (C:Array Value) (n c:Nat)=>Lib.run_convert_bytes_const (P:=prog) w 52 5 C n c underlying52 underlying5;have M:=yk w;have z:=nAl w (.cells #[.int .u8 70,.int .u8 114,.int .u8 111,.int .u8 109,.int .u8 32,.int .u8 109,.int .u8 97,.int .u8 105,.int .u8 108,.int .u8 10] 5 (10,11));go_enter func182,ntmps182;go_wp2_with (go_at_call 205;fail)
 generalize w.alloc (.cells #[.int .u8 70,.int .u8 114,.int .u8 111,.int .u8 109,.int .u8 32,.int .u8 109,.int .u8 97,.int .u8 105,.int .u8 108,.int .u8 10] 5 (10,11))=wA at M z⊢;have N:=V.below z Y;clear V;refine(yb b E cap l.length (some ⟨w.heap.size,0,none⟩) l wA rfl L N M G O).mono ?_;rintro e K ⟨rfl,rfl⟩;have J:=EV K;have Q:=z.alloc z.size (.cells #[.int .u8 10] 5 (1,2));have I:=N.below (nAl K (.cells #[.int .u8 10] 5 (1,2))) (by have:=z.size;omega);clear N M z;by_cases A:l.drop (l.length-1)=[10]∧0<l.length
 ·go_wp2_with fail;refine(me b E cap l.length (some ⟨K.heap.size,0,none⟩) l _ rfl L U I J G A.2 A.1).mono ?_;rintro e Z ⟨rfl,rfl⟩;clear I J A G O R;go_wp2;go_ret2;exact⟨_,rfl,Q⟩
 ·go_wp2_with fail;refine(kO b E cap l.length (some ⟨K.heap.size,0,none⟩) l _ rfl L U I J G A).mono ?_;rintro e Z ⟨rfl,rfl⟩;clear I J A G O R;go_wp2;go_ret2;exact⟨_,rfl,Q⟩
theorem AA(b A cap:Nat)(l:LN)(w:World)(ac:l.length≤1048576)(Y:l.length≤cap)(V:eh w b A l)(Z:b<w.heap.size)(J:∀x∈l,x<256)(I:l.take 10=gJ)(N:¬((l.drop 10).drop ((l.drop 10).length-1)=[10]∧0<(l.drop 10).length)):
  Calls prog 182 #[.slice (some ⟨b,A,none⟩) l.length cap] w (Cr w):=by
 have U:=fun(w:World) (C:Array Value) (n c:Nat)=>Lib.run_convert_bytes_const (P:=prog) w 52 5 C n c underlying52 underlying5;have K:=yk w;have z:=nAl w (.cells #[.int .u8 70,.int .u8 114,.int .u8 111,.int .u8 109,.int .u8 32,.int .u8 109,.int .u8 97,.int .u8 105,.int .u8 108,.int .u8 10] 5 (10,11));have ab:10≤l.length:=(by have:=OL List.length I;simp[gJ] at this;omega);go_enter func182,ntmps182;go_wp2_with (go_at_call 205;fail)
 generalize w.alloc (.cells #[.int .u8 70,.int .u8 114,.int .u8 111,.int .u8 109,.int .u8 32,.int .u8 109,.int .u8 97,.int .u8 105,.int .u8 108,.int .u8 10] 5 (10,11))=wA at K z⊢;have L:=V.below z Z;clear V;refine(oP b A cap l.length (some ⟨w.heap.size,0,none⟩) l wA rfl Y L K J I).mono ?_;rintro e E ⟨rfl,rfl⟩;have G:=EV E;have R:=z.alloc z.size (.cells #[.int .u8 10] 5 (1,2));have M:=(L.drop 10).below (nAl E (.cells #[.int .u8 10] 5 (1,2))) (by have:=z.size;omega);have aa:(l.drop 10).length=l.length-10:=O9 ..;clear L K z;by_cases Q:cap=10
 ·subst Q;have hz:l.length-10=0:=(by omega);rw[OS rfl,hz];have CS:=kO b A 0 0 (some ⟨E.heap.size,0,none⟩) [] (E.alloc (.cells #[.int .u8 10] 5 (1,2))) rfl (OV _) (O4 _) (fun i h=>OH h (Nat.not_lt_zero _)) G (fun x O=>OH O Pw) (fun h=>OH h.2 (Nat.lt_irrefl _));go_wp2_with fail;refine CS.mono ?_;rintro e w2 ⟨rfl,rfl⟩;clear M G N J I U;go_wp2;go_ret2;exact⟨_,rfl,R⟩
 ·rw[OR Q];go_wp2_with fail;refine(kO b (A+10) (cap-10) (l.length-10) (some ⟨E.heap.size,0,none⟩) (l.drop 10) _ aa (by omega) (by omega) M G (fun x O=>J x (Pk O)) N).mono ?_;rintro e w2 ⟨rfl,rfl⟩;clear M G N J I U;go_wp2;go_ret2;exact⟨_,rfl,R⟩
def KL(b off cap:Nat)(l:LN)(w:World)(e:Ending)(w':World):Prop:=e= .returned (.tuple #[.slice (some ⟨b,off+10,none⟩) (l.length-10-1) (cap-10),.bool (!ka (et l))])∧Below w.heap.size w w'
theorem xg(b z cap:Nat)(l:LN)(w:World)(ai:l.length≤1048576)(ab:l.length≤cap)(Z:eh w b z l)(ae:b<w.heap.size)(N:∀x∈l,x<256)(hh:l.take 10=gJ)(V:(l.drop 10).drop ((l.drop 10).length-1)=[10])(ah:10<l.length):
  Calls prog 182 #[.slice (some ⟨b,z,none⟩) l.length cap] w (KL b z cap l w):=by
 have ag:=fun(w:World) (C:Array Value) (n c:Nat)=>Lib.run_convert_bytes_const (P:=prog) w 52 5 C n c underlying52 underlying5;have G:=yk w;have A:=nAl w (.cells #[.int .u8 70,.int .u8 114,.int .u8 111,.int .u8 109,.int .u8 32,.int .u8 109,.int .u8 97,.int .u8 105,.int .u8 108,.int .u8 10] 5 (10,11));go_enter func182,ntmps182;go_wp2_with (go_at_call 205;fail)
 generalize w.alloc (.cells #[.int .u8 70,.int .u8 114,.int .u8 111,.int .u8 109,.int .u8 32,.int .u8 109,.int .u8 97,.int .u8 105,.int .u8 108,.int .u8 10] 5 (10,11))=wA at G A⊢;have I:=Z.below A ae;clear Z;refine(oP b z cap l.length (some ⟨w.heap.size,0,none⟩) l wA rfl ab I G N hh).mono ?_;rintro e O ⟨rfl,rfl⟩;have U:=EV O;have R:=A.alloc A.size (.cells #[.int .u8 10] 5 (1,2));have J:=(I.drop 10).below (nAl O (.cells #[.int .u8 10] 5 (1,2))) (by have:=A.size;omega);have E:(l.drop 10).length=l.length-10:=O9 ..;clear I G A;rw[OR (by omega)];go_wp2_with fail;refine(me b (z+10) (cap-10) (l.length-10) (some ⟨O.heap.size,0,none⟩) (l.drop 10) _ E (by omega) (by omega) J U (fun x hx=>N x (Pk hx)) (by omega) (by rw[←E];exact V)).mono ?_;rintro e Q ⟨rfl,M⟩;have L:et l=(l.drop 10).take (l.length-10-1):=(by unfold et;rw[show l.length-11=l.length-10-1 from by omega]);have ad:eh Q b (z+10) (et l):=(by rw[L,M];have:=iw J 0 (l.length-10-1);simpa using this);have af:(et l).length=l.length-10-1:=(by rw[L,Pa,E];omega);have aa:Below w.heap.size w Q:=(by rw[M];exact R);clear M J U R L ag N hh V E;go_wp2_with fail;refine(MR b (z+10) (cap-10) (l.length-10-1) (et l) Q af (by omega) ad).mono ?_;rintro e w3 ⟨rfl,rfl⟩;obtain⟨Y,K⟩:∃Y,Y=ka (et l):=⟨_,rfl⟩
 rw[←K];have ac:=a8 K;clear K;go_wp2;go_ret2;exact⟨by rw[←ac.out];rfl,aa⟩
theorem uG(p q:Nat)(w:World):
  Calls prog 204 #[.agg #[.int .i64 (p:Int),.int .i64 (q:Int)]] w fun e w'=>e= .returned (.bool (decide (0<q)))∧Below w.heap.size w w':=by
 go_enter func204,ntmps204;go_wp2;go_ret;exact⟨rfl,(OX _ _).alloc (OV _) _⟩
theorem pz{z A:World}(h:Below B w z)(k:Below z.heap.size z A)(E:B≤z.heap.size:=by omega):Below B w A:=h.trans (k.mono E)
theorem sx(b N cap:Nat)(d:LN)(w:World)(hd:d.length≤1048576)(aH:d.length≤cap)(aN:cap≤9223372036854775807)(hT:eh w b N d)(aM:b<w.heap.size)(hb:∀x∈d,x<256):
  Calls prog 183 #[.slice (some ⟨b,N,none⟩) d.length cap] w fun e w'=>∃v,e= .returned v∧dR w' w.heap.size v (d6 d)∧Below w.heap.size w w':=by
 have aB:=od d;go_enter func183,ntmps183;go_wp2_with fail;refine(mh (some ⟨b,N,none⟩) cap d w hd aH aN (eJ hT) hb).mono ?_;rintro e E ⟨v1,rfl,af,J⟩;have ad:=Ew d;have ap:=Fe d;have aP:=qP d;generalize aQ:eo d=fs at af ad ap aP;generalize au:d6 d=R at aB ad;obtain⟨a1,c1,rfl⟩:=af.slice;rw[OW] at af⊢;have av:=hT.below J aM;have aK:=a8 af;have ar:=a8 av;clear hT av aQ;go_wp2;go_loopw [3,4,6,10] (fun v t _ i wr=>∃(k z:Nat) (I:LN),k≤fs.length∧i=iI k∧t=iI z∧z≤d.length∧dR wr E.heap.size v I∧I++uGo d z (fs.drop k)=R∧Ups d.length z (fs.drop k)∧Below E.heap.size E wr) (fun _ _ _ i _=>fs.length-(intOf i).toNat)
 case atStart=>exact⟨0,0,[],O4 _,rfl,rfl,O4 _,dR.nil _ _,by simpa using ad,by simpa using ap,OX _ _⟩
 case round=>
  obtain⟨k,z,I,hk,rfl,rfl,aU,V,A,hu,L⟩:=hrel;clear ad ap;have bb:I.length≤2*d.length:=(by rw[←A,O1] at aB;omega);by_cases az:k<fs.length
  ·rw[Pv az] at A hu;obtain⟨aV,aW,aD⟩:=hu;simp only[uGo] at A;have ah:fJ wr _ _ _ _:=fJ.below aK.out L (OV _);obtain⟨g1,rfl⟩:∃g1,a1=some ⟨g1,0,none⟩:=by
    rcases ah.2 with⟨_,hn⟩|⟨g,aY,ba,h',_⟩
    ·rw[OW] at hn;omega
    ·simp only[O3] at h';exact⟨g,h'.1⟩
   obtain⟨ax,ay⟩:=fJ.cells ah k (by simpa using az);simp only[Po,frV] at ax ay;have K:=a8 A;have HB:=a8 L;have aC:=L.size;have ak:=a8 aD;clear aD A;generalize hs:fs[k].1=st at ax aV aW K ak;generalize fs[k].2=mk at ay K;have aG:=nAl wr (.cells #[iI st,iI mk] 302);have ae:=OP wr (.cells #[iI st,iI mk] 302);have ac:=L.alloc aC (.cells #[iI st,iI mk] 302);have aa:=V.alloc1 (.cells #[iI st,iI mk] 302);have aE:∀g,u3.ownBlock=some g→E.heap.size≤g∧g<wr.heap.size:=fun g h=>OF V g h;clear V L ah aG;go_wp2_with fail;generalize aw:wr.alloc (.cells #[iI st,iI mk] 302)=aF at ae ac aa⊢;have be:aF.heap.size=wr.heap.size+1:=(by rw[←aw];simp);clear aw;refine(uG st mk aF).mono ?_;rintro e w3 ⟨rfl,Q⟩;have al:=(Q.block wr.heap.size (by omega)).trans ae;have aO:w3.cell? ⟨wr.heap.size,0,none⟩=some (iI st):=(by rw[OK _ _ _ _ _ _ al];rfl);have Z:=pz ac Q;have an:=aa.below Q (OV _);have bf:=Q.size;by_cases hm:0<mk
   ·have am:decide (0<mk)=true:=ON hm;rw[am];have M:=K.out;rw[OS hm] at M;have aj:=a8 M;clear M K;have O:=iw (ar.below (Z.mono (OV _)) (by have:=J.size;omega)) z (st-z);have ag:=rb d z (st-z) (by omega);have aT:=eJ O;have aA:¬cap=z:=(by omega);have bc:(z:Int)≤(st:Int):=(by omega);have bd:(st:Int)≤(cap:Int):=(by omega);have aS:(z:Int)≤(d.length:Int):=(by omega);clear O ae ac aa Q;go_wp2_with (at_builtin;refine fE _ rfl (.tmp 16) (.tmp 21) rfl E.heap.size u3 I _ (st-z) ag rfl an ⟨b,N+z,none⟩ (cap-z) rfl aT (by omega) (by omega) ?_;intro v5 G Y U;have aR:=(U.block wr.heap.size (by omega) (fun e=>by have:=(aE _ e.symm).2;omega)).trans al;have aZ:G.cell? ⟨wr.heap.size,0,none⟩=some (iI st):=(by rw[OK _ _ _ _ _ _ aR];rfl);have aL:Below E.heap.size E G:=(Z.grown U (by omega) (fun g h=>(aE g h).1)))
    go_roundw
    case rel=>
     refine⟨k+1,st+1,_,by omega,by go_num,by go_num,by omega,Y,?_,ak,aL⟩;rw[←aj.out];simp
    case measure=>simp[intOf];omega
   ·have am:decide (0<mk)=false:=OM hm;rw[am];have M:=K.out;rw[OR hm] at M;have aj:=a8 M;have aJ:=a8 an;have aI:=a8 Z;clear M K an Z ae ac aa Q aO al;go_wp2;go_roundw
    case rel=>exact⟨k+1,z,I,by omega,by go_num,rfl,aU,aJ,aj,ak.mono (by omega),aI⟩
    case measure=>simp[intOf];omega
  ·obtain rfl:k=fs.length:=(by omega);rw[PO] at A;simp only[uGo] at A;have aC:=L.size;have O:=ar.below (L.mono (OV _)) (by have:=J.size;omega);have ab:=iw O z (d.length-z);have ag:=rb d z (d.length-z) (by omega);have ai:(d.drop z).take (d.length-z)=d.drop z:=Pc (Nat.le_of_eq (O9 ..));rw[ai] at ab ag;have aS:(z:Int)≤(d.length:Int):=(by omega);have K:=a8 A;have aX:=J.trans (L.mono J.size);have aq:∀v5 G,dR G E.heap.size v5 (I++d.drop z)→wr.grownBy G u3.ownBlock→dR G w.heap.size v5 R∧Below w.heap.size w G:=fun v5 G h5 hg=>by
    rw[K.out] at h5;exact⟨h5.mono J.size,aX.grown hg (by have:=J.size;omega) (fun g h=>by have:=(OF V g h).1;have:=J.size;omega)⟩
   by_cases aA:cap=z
   ·obtain rfl:z=d.length:=(by omega);subst aA;have ao:dW wr (some ⟨b,N,none⟩) (d.drop d.length):=fun h=>(by simp at h);clear A O ab ai;go_wp2_with (at_builtin;refine fE _ rfl (.tmp 27) (.tmp 30) rfl E.heap.size u3 I (d.drop d.length) 0 (by simp) rfl V ⟨b,N,none⟩ 0 rfl ao (by simp;omega) (by omega) ?_;intro v5 G Y U)
    go_ret;obtain⟨q1,q2⟩:=aq _ _ Y U;exact⟨_,rfl,by rw[au];exact q1,q2⟩
   ·have ao:=eJ ab;clear A O ab ai;go_wp2_with (at_builtin;refine fE _ rfl (.tmp 27) (.tmp 30) rfl E.heap.size u3 I _ (d.length-z) ag rfl V ⟨b,N+z,none⟩ (cap-z) rfl ao (by omega) (by omega) ?_;intro v5 G Y U)
    go_ret;obtain⟨q1,q2⟩:=aq _ _ Y U;exact⟨_,rfl,by rw[au];exact q1,q2⟩
def iv(x:Nat):Value:= .int .i64 (x:Int)
def l8(w:World)(base:Nat)(v:Value)(l:LN):Prop:=w.ownsRow base 3 1 v l.length (l.map iv)
theorem l8.slice{v:Value}{l:LN}(h:l8 w z v l):∃a cap,v= .slice a l.length cap:=by
 rcases h.2 with⟨rfl,A⟩|⟨g,cap,E,rfl,_⟩
 ·exact⟨none,0,by rw[A]⟩
 ·exact⟨_,cap,rfl⟩
theorem l8.below{v:Value}{l:LN}(h:l8 w z v l)(K:Below B w w')(J:w.heap.size≤B):l8 w' z v l:=by
 refine⟨h.1,?_⟩;rcases h.2 with L|⟨g,cap,I,rfl,E,A,G⟩
 ·exact .inl L
 ·exact .inr ⟨g,cap,I,rfl,E,(K.block g (Pb (OT A) J)).trans A,G⟩
theorem l8.nil(w:World)(z:Nat):l8 w z (sN) []:=World.ownsRow_nil w z 3 1
theorem l8.mono{v:Value}{l:LN}(h:l8 w z v l)(I:base'≤z):l8 w base' v l:=by
 refine⟨h.1,?_⟩;rcases h.2 with J|⟨g,cap,G,rfl,A,E⟩
 ·exact .inl J
 ·exact .inr ⟨g,cap,G,rfl,O0 I A,E⟩
theorem l8.cell{G:Nat}{l:LN}(h:l8 w G (sS g n cap) l)(k:Nat)(K:k<l.length):w.cell? ⟨g,k,none⟩=some (.int .i64 (l[k]:Int)):=by
 rcases h.2 with⟨z,_⟩|⟨g',L,I,z,_,J,M,_,N,E⟩
 ·simp at z
 ·simp only[O3,OY,PG,and_true] at z;obtain⟨rfl,rfl,rfl⟩:=z;rw[OK _ _ _ _ _ _ J];have A:(I.toList.take (l.length*1))[k]? =(l.map iv)[k]? :=(by rw[E]);rw[List.getElem?_take,OS (by omega)] at A;simp[K,iv] at A;simpa using A
theorem NQ:(prog.info? 3).map (fun i=>(i.zero,i.size,i.bytes))=some (some (.int .i64 0),1,8):=by kernel_rfl
theorem qu{K:Array Oper}{J:List Oper}{A:Act}(w:World)(R:o.guard=none)(s x:Operand)
  (ho:o.op= .call {callee:= .builtin .append,args:= #[s,x],argTypes:= #[276,276]})
  (z:Nat) (v:Value) (l:LN) (n:Nat) (G c:Nat) (hs:A.eval s=v) (hx:A.eval x=sS G 1 c) (O:l8 w z v l)
  (Z:w.cell? ⟨G,0,none⟩=some (.int .i64 (n:Int))) (aa:l.length≤1048576) (M:z≤w.heap.size)
  (h:∀E w',l8 w' z E (l++[n])→w.grownBy w' v.ownBlock→wpList prog K Q J (A.put o.dst E) w'):wpList prog K Q (o::J) A w:=by
 obtain⟨i0,hi,U,V,Y⟩:=info_parts NQ;refine wpList_append_own w R s x 276 ho z 3 i0 (.int .i64 0) 1 8 underlying276 hi U V Y rfl (by decide) v l.length (l.map iv) hs O ⟨G,0,none⟩ 1 c [iv n] hx (by simp) ?_ ?_ (by unfold maxLen;omega) (by omega) M ?_
 ·intro j u I;rw[ez]
  match j with
  |0=>simp only[Py,OY] at I;rw[←I];exact Z
  |j+1=>simp at I
 ·intro u L;simp only[Pd,Pw,or_false] at L;subst L;rfl
 ·intro E w' N hg _;refine h E w' ?_ hg;unfold l8;rw[O1,O7];exact N
def dN(fs:List (Nat×Nat)):LN:=(fs.filter fun x=>decide (x.2=0)).map (·.1)
theorem nY(fs:List (Nat×Nat)):(dN fs).length≤fs.length:=by
 unfold dN;rw[OW];exact PK ..
theorem ss(b ad cap:Nat)(d:LN)(w:World)(hd:d.length≤1048575)(aq:d.length≤cap)(aA:cap≤9223372036854775807)(hT:eh w b ad d)(hb:∀x∈d,x<256):
  Calls prog 181 #[.slice (some ⟨b,ad,none⟩) d.length cap] w fun e w'=>∃v,e= .returned v∧l8 w' w.heap.size v (dN (eo d))∧Below w.heap.size w w':=by
 go_enter func181,ntmps181;go_wp2_with fail;refine(mh (some ⟨b,ad,none⟩) cap d w (by omega) aq aA (eJ hT) hb).mono ?_;rintro e G ⟨v1,rfl,Q,aa⟩;have aC:=qP d;generalize ai:eo d=fs at Q aC;have al:=nY fs;generalize ae:dN fs=R at al;obtain⟨a1,c1,rfl⟩:=Q.slice;rw[OW] at Q⊢;have aw:=a8 Q;have au:=a8 ai;clear hT ai;go_wp2;go_loopw [3,5,9] (fun v _ i wr=>∃(k:Nat) (z:LN),k≤fs.length∧i=iI k∧l8 wr G.heap.size v z∧z++dN (fs.drop k)=R∧Below G.heap.size G wr) (fun _ _ i _=>fs.length-(intOf i).toNat)
 case atStart=>exact⟨0,[],O4 _,rfl,l8.nil _ _,by simpa using ae,OX _ _⟩
 case round=>
  obtain⟨k,z,hk,rfl,U,A,L⟩:=hrel;have aK:z.length≤1048575:=(by rw[←A,O1] at al;omega);by_cases ak:k<fs.length
  ·rw[Pv ak] at A;have V:fJ wr _ _ _ _:=fJ.below aw.out L (OV _);obtain⟨g1,rfl⟩:∃g1,a1=some ⟨g1,0,none⟩:=by
    rcases V.2 with⟨_,hn⟩|⟨g,aI,aJ,h',_⟩
    ·rw[OW] at hn;omega
    ·simp only[O3] at h';exact⟨g,h'.1⟩
   obtain⟨ag,ah⟩:=fJ.cells V k (by simpa using ak);simp only[Po,frV] at ag ah;have aG:=L.size;have am:dN (fs[k]::fs.drop (k+1))=(if fs[k].2=0 then[fs[k].1] else[])++dN (fs.drop (k+1)):=by
    unfold dN;by_cases h:fs[k].2=0
    ·rw[List.filter_cons_of_pos (by simpa using h),OS h];rfl
    ·rw[PY (by simpa using h),OR h];rfl
   rw[am] at A;have J:=a8 A;clear A am;generalize fs[k].1=st at ag J;generalize fs[k].2=mk at ah J;have O:=OP wr (.cells #[iI st,iI mk] 302);have N:=L.alloc aG (.cells #[iI st,iI mk] 302);have M:=U.below (nAl wr (.cells #[iI st,iI mk] 302)) (OV _);have aH:∀g,u3.ownBlock=some g→G.heap.size≤g∧g<wr.heap.size:=fun g h=>OF U g h;clear U L V;go_wp2_with fail;generalize af:wr.alloc (.cells #[iI st,iI mk] 302)=ao at O N M⊢;have aL:ao.heap.size=wr.heap.size+1:=(by rw[←af];simp);clear af;refine(uG st mk ao).mono ?_;rintro e K ⟨rfl,I⟩;have aj:=(I.block wr.heap.size (by omega)).trans O;have aB:K.cell? ⟨wr.heap.size,0,none⟩=some (iI st):=(by rw[OK _ _ _ _ _ _ aj];rfl);have Y:=pz N I;have ac:=M.below I (OV _);have aM:=I.size;by_cases hm:0<mk
   ·have ab:decide (0<mk)=true:=ON hm;rw[ab];have E:=J.out;rw[OR (by omega),PC] at E;have Z:=a8 E;have av:=a8 ac;have ar:=a8 Y;clear E J ac Y O N M I aB aj;go_wp2;go_roundw
    case rel=>exact⟨k+1,z,by omega,by go_num,av,Z,ar⟩
    case measure=>simp[intOf];omega
   ·have ab:decide (0<mk)=false:=OM hm;rw[ab];have E:=J.out;rw[OS (by omega)] at E;have Z:=a8 E;have an:=OP K (.cells #[iI st] 3);have az:(K.alloc (.cells #[iI st] 3)).cell? ⟨K.heap.size,0,none⟩=some (iI st):=(by rw[OK _ _ _ _ _ _ an];rfl);have aE:=ac.below (nAl K (.cells #[iI st] 3)) (OV _);have ax:=Y.alloc (by omega) (.cells #[iI st] 3);clear E J O N M I an;go_wp2_with (at_builtin;refine qu _ rfl (.tmp 16) (.tmp 19) rfl G.heap.size u3 z st K.heap.size 1 rfl rfl aE az (by omega) (by simp;omega) ?_;intro v5 w5 aF aD;have ay:Below G.heap.size G w5:=(ax.grown aD (by simp;omega) (fun g h=>(aH g h).1)))
    go_roundw
    case rel=>exact⟨k+1,z++[st],by omega,by go_num,aF,by rw[←Z.out];simp,ay⟩
    case measure=>simp[intOf];omega
  ·obtain rfl:k=fs.length:=(by omega);rw[PO] at A;have ap:z=R:=(by simpa[dN] using A);subst ap;go_wp2;go_ret;exact⟨_,rfl,by rw[au.out,ae];exact U.mono aa.size,aa.trans (L.mono aa.size)⟩
abbrev S3:=Nat×Nat×Value
def kt(vs:List S3):List Value:=vs.flatMap fun x=>[iv x.1,iv x.2.1,x.2.2]
theorem nH(x:S3)(z:List S3):kt (x::z)=iv x.1::iv x.2.1::x.2.2::kt z:=rfl
theorem vu(a b:List S3):kt (a++b)=kt a++kt b:=by unfold kt;rw[PX]
theorem tl(z:List S3)(i:Nat)(h:i<z.length):(kt z)[i*3]? =some (iv z[i].1)∧(kt z)[i*3+1]? =some (iv z[i].2.1)∧(kt z)[i*3+2]? =some z[i].2.2:=by
 induction z generalizing i with
 |nil=>simp at h
 |cons x r ih=>
  cases i with
  |zero=>exact⟨rfl,rfl,rfl⟩
  |succ i=>
   obtain⟨A,E,G⟩:=ih i (by simpa using h);refine⟨?_,?_,?_⟩
   ·rw[nH,show(i+1)*3=i*3+1+1+1 from by omega];simpa using A
   ·rw[nH,show(i+1)*3+1=i*3+1+1+1+1 from by omega];simpa using E
   ·rw[nH,show(i+1)*3+2=i*3+2+1+1+1 from by omega];simpa using G
theorem mN{b1 E L M N O:Nat}{v:Value}{ys:List Value}(G:w.ownsRow b1 A L v N xs)(I:w.ownsRow b2 E M x O ys)(J:A≠E):v.ownBlock=none∨v.ownBlock≠x.ownBlock:=by
 rcases G.2 with⟨rfl,_⟩|⟨g,cap,U,rfl,_,K,_⟩
 ·exact .inl rfl
 ·refine .inr fun e=> ?_;rcases I.2 with⟨rfl,_⟩|⟨g',Q,R,rfl,_,z,_⟩
  ·simp[Value.ownBlock] at e
  ·simp only[Value.ownBlock,OY] at e;subst e;rw[K] at z;simp only[OY,Obj.cells.injEq] at z;exact J z.2.1
theorem lh{v:Value}(h:w.ownsRow z e k v n xs)(J:∀g,z≤g→g<w.heap.size→w'.heap[g]? =w.heap[g]?):w'.ownsRow z e k v n xs:=by
 refine⟨h.1,?_⟩;rcases h.2 with K|⟨g,cap,I,rfl,A,E,G⟩
 ·exact .inl K
 ·exact .inr ⟨g,cap,I,rfl,A,(J g A (OT E)).trans E,G⟩
structure gQ(w:World)(lo:Nat)(v:Value)(vs:List S3)(ls:List (LN)):Prop where
 len:vs.length=ls.length
 row:w.ownsRow lo 182 3 v ls.length (kt vs)
 body:∀i (h:i<ls.length),∃x,vs[i]? =some x∧dR w lo x.2.2 ls[i]
 apart:vs.Pairwise fun x y=>x.2.2.ownBlock=none∨x.2.2.ownBlock≠y.2.2.ownBlock
theorem gQ.nil(w:World)(lo:Nat):gQ w lo (sN) [] []:=⟨rfl,World.ownsRow_nil w lo _ 3,fun i h=>by simp at h,List.Pairwise.nil⟩
theorem gQ.slice{v:Value}{E:List S3}{z:List (LN)}(h:gQ w lo v E z):∃a cap,v= .slice a z.length cap:=by
 rcases h.row.2 with⟨rfl,A⟩|⟨g,cap,G,rfl,_⟩
 ·exact⟨none,0,by rw[A]⟩
 ·exact⟨_,cap,rfl⟩
theorem gQ.below{v:Value}{E:List S3}{A:List (LN)}(h:gQ w lo v E A)(G:Below B w w')(K:w.heap.size≤B):gQ w' lo v E A:=by
 have z:∀g,lo≤g→g<w.heap.size→w'.heap[g]? =w.heap[g]? :=fun g _ L=>G.block g (by omega);refine⟨h.len,lh h.row z,fun i hi=> ?_,h.apart⟩;obtain⟨x,J,I⟩:=h.body i hi;exact⟨x,J,mC I z⟩
theorem gQ.mono{v:Value}{G:List S3}{E:List (LN)}(h:gQ w lo v G E)(A:z≤lo):gQ w z v G E:=by
 refine⟨h.len,⟨h.row.1,?_⟩,fun i hi=> ?_,h.apart⟩
 ·rcases h.row.2 with L|⟨g,cap,K,rfl,I,J⟩
  ·exact .inl L
  ·exact .inr ⟨g,cap,K,rfl,O0 A I,J⟩
 ·obtain⟨x,N,M⟩:=h.body i hi;exact⟨x,N,M.mono A⟩
theorem gQ.other{v:Value}{E:List S3}{A:List (LN)}(h:gQ w lo v E A)(z:g<lo)(u:Value):gQ (w.setCell ⟨g,j,none⟩ u) lo v E A:=by
 refine⟨h.len,ownsRow_setCell_below h.row z u,fun i hi=> ?_,h.apart⟩;obtain⟨x,I,G⟩:=h.body i hi;exact⟨x,I,ownsRow_setCell_below G z u⟩
theorem gQ.lt{v:Value}{A:List S3}{J:List (LN)}(h:gQ w lo v A J):∀x∈A,∀g,x.2.2.ownBlock=some g→g<w.heap.size:=by
 intro x I g E;obtain⟨i,hi,rfl⟩:=Pr I;obtain⟨y,z,G⟩:=h.body i (by have:=h.len;omega);rw[OZ hi] at z;simp only[OY] at z;subst z;exact(OF G g E).2
theorem gQ.ne_new{w I:World}{lo:Nat}{v x:Value}{z:List S3}{G:List (LN)}{l:LN}(h:gQ w lo v z G)(A:dR I w.heap.size x l):∀y∈z,y.2.2.ownBlock=none∨y.2.2.ownBlock≠x.ownBlock:=by
 intro y E;cases hb:y.2.2.ownBlock with
 |none=>exact .inl rfl
 |some g=>
  refine .inr fun e=> ?_;have J:=h.lt y E g hb;have K:=(OF A g e.symm).1;omega
theorem gQ.push{p q:Nat}{v:Value}{E:List S3}{A:List (LN)}{l:LN}(h:gQ w lo v E A)(K:dR w lo x l)(M:∀y∈E,y.2.2.ownBlock=none∨y.2.2.ownBlock≠x.ownBlock)
  (O:w'.ownsRow lo 182 3 L (A.length+1) (kt E++[iv p,iv q,x])) (J:w.grownBy w' v.ownBlock):gQ w' lo L (E++[(p,q,x)]) (A++[l]):=by
 refine⟨by rw[O1,O1,h.len];rfl,by rw[O1,vu];exact O,fun i hi=> ?_,?_⟩
 ·by_cases e:i<A.length
  ·obtain⟨y,G,I⟩:=h.body i e;refine⟨y,by rw[List.getElem?_append_left (by have:=h.len;omega)];exact G,?_⟩;rw[List.getElem_append_left e];exact OE I J (mN I h.row (by decide))
  ·have N:i=A.length:=(by simp at hi;omega);subst N;refine⟨(p,q,x),by rw[PW (by have:=h.len;omega)];simp[h.len],?_⟩;simp only[List.getElem_concat_length];exact OE K J (mN K h.row (by decide))
 ·rw[PS];refine⟨h.apart,by simp,fun y G z Q=> ?_⟩;obtain rfl:z=(p,q,x):=(by simpa using Q);exact M y G
theorem I2:(prog.info? 182).map (fun i=>(i.zero,i.size,i.bytes))=some (some (.agg #[.int .i64 0,.int .i64 0,sN]),3,40):=by kernel_rfl
theorem jX{R:Array Oper}{A:Act}{K:Act→World→Prop}{E:Prop}(w:World)(aa:o.guard=none)(s x:Operand)
  (ho:o.op= .call {callee:= .builtin .append,args:= #[s,x],argTypes:= #[177,177]})
  (lo:Nat) (v:Value) (M:List S3) (J:List (LN)) (p q:Nat) (I:Value) (l:LN) (G c:Nat) (hs:A.eval s=v) (hx:A.eval x=sS G 1 c) (N:gQ w lo v M J)
  (c0:w.cell? ⟨G,0,none⟩=some (iv p)) (c1:w.cell? ⟨G,1,none⟩=some (iv q)) (c2:w.cell? ⟨G,2,none⟩=some I) (O:dR w lo I l)
  (ab:∀y∈M,y.2.2.ownBlock=none∨y.2.2.ownBlock≠I.ownBlock) (af:J.length≤1048576) (Y:lo≤w.heap.size)
  (h:∀L w',gQ w' lo L (M++[(p,q,I)]) (J++[l])→w.grownBy w' v.ownBlock→K (A.put o.dst L) w'):if Region.wanted o (yielded R A.tmps)=true then Oper.wp prog o A w K Q else E:=by
 have hw:Region.wanted o (yielded R A.tmps)=true:=(by simp[Region.wanted,aa]);rw[OS hw];obtain⟨i0,hi,ac,ad,ae⟩:=info_parts I2;refine wp_append_own w s x 177 ho lo 182 i0 (.agg #[.int .i64 0,.int .i64 0,sN]) 3 40 underlying177 hi ac ad ae rfl (by decide) v J.length (kt M) hs N.row ⟨G,0,none⟩ 1 c [iv p,iv q,I] hx (by simp) ?_ ?_ (by unfold maxLen;omega) (by omega) Y ?_
 ·intro j u z;rw[ez]
  match j with
  |0=>simp only[Py,OY] at z;rw[←z];exact c0
  |1=>simp only[Px,Py,OY] at z;rw[←z];exact c1
  |2=>simp only[Px,Py,OY] at z;rw[←z];exact c2
  |j+3=>simp at z
 ·intro u V;simp only[Pd,Pw,or_false] at V;rcases V with rfl|rfl|rfl
  ·rfl
  ·rfl
  ·obtain⟨a,c',rfl⟩:=O.slice;rfl
 ·intro L w' Z U _;exact h L w' (N.push O ab Z U) U
def fy(R:LN)(n k:Nat):Nat×Nat:=(R.getD k 0,if k+1<R.length then R.getD (k+1) 0 else n)
def gM(d R:LN)(k:Nat):LN:=(d.drop (fy R d.length k).1).take ((fy R d.length k).2-(fy R d.length k).1)
def NF(n:Nat)(R:LN):Prop:=∀k,k<R.length→(fy R n k).1<(fy R n k).2∧(fy R n k).2≤n
theorem GZ{n t:Nat}{fs:List (Nat×Nat)}(h:Ups n t fs):(∀x∈dN fs,t≤x∧x<n)∧(dN fs).Pairwise (·<·):=by
 induction fs generalizing t with
 |nil=>exact⟨fun x z=>by simp[dN] at z,by simp[dN]⟩
 |cons y r ih=>
  obtain⟨J,K,I⟩:=h;obtain⟨E,G⟩:=ih I;have e:dN (y::r)=if y.2=0 then y.1::dN r else dN r:=by
   unfold dN;by_cases A:y.2=0
   ·rw[List.filter_cons_of_pos (by simpa using A),OS A];rfl
   ·rw[PY (by simpa using A),OR A]
  rw[e];by_cases A:y.2=0
  ·rw[OS A];refine⟨fun x z=> ?_,List.pairwise_cons.2 ⟨fun x z=> ?_,G⟩⟩
   ·rcases Pd.1 z with rfl|z
    ·omega
    ·have:=E x z;omega
   ·have:=E x z;omega
  ·rw[OR A];exact⟨fun x z=>by have:=E x z;omega,G⟩
theorem LY{n:Nat}{R:LN}(E:∀x∈R,x<n)(I:R.Pairwise (·<·)):NF n R:=by
 intro k z;have A:R.getD k 0=R[k]:=(by simp[List.getD,z]);by_cases h:k+1<R.length
 ·have G:R.getD (k+1) 0=R[k+1]:=(by simp[List.getD,h]);unfold fy;rw[OS h,A,G];exact⟨Pn.1 I k (k+1) z h (by omega),Nat.le_of_lt (E _ (O6 h))⟩
 ·unfold fy;rw[OR h,A];exact⟨E _ (O6 z),OV _⟩
theorem rV(d:LN):NF d.length (dN (eo d)):=by
 obtain⟨z,A⟩:=GZ (Fe d);exact LY (fun x E=>(z x E).2) A
def nW(d R:LN)(k:Nat):Nat×Nat×LN:=((fy R d.length k).1,(fy R d.length k).2,d6 (et (gM d R k)))
def iK(d:LN):Option (List (Nat×Nat×LN)):=
 if 40000<d.length∨(0<d.length∧(dN (eo d)).head?≠some 0)∨∃k,k<(dN (eo d)).length∧eB (gM d (dN (eo d)) k)=false then none
 else some ((List.range (dN (eo d)).length).map (nW d (dN (eo d))))
open Classical in
theorem je{l:LN}(h:eB l=true):10<l.length∧l.take 10=gJ∧(l.drop 10).drop ((l.drop 10).length-1)=[10]∧ka (et l)=false:=by
 unfold eB at h;simp only[Bool.and_eq_true,decide_eq_true_eq,Bool.not_eq_true'] at h;obtain⟨⟨z,A,E⟩,G⟩:=h;refine⟨z,A,?_,G⟩;rw[O9,List.drop_drop,show 10+(l.length-10-1)=l.length-1 from by omega];exact E
theorem tR(b z cap:Nat)(l:LN)(w:World)(G:l.length≤1048576)(A:l.length≤cap)(N:eh w b z l)(E:b<w.heap.size)(Q:∀x∈l,x<256)(I:eB l=true):
  Calls prog 182 #[.slice (some ⟨b,z,none⟩) l.length cap] w fun e w'=>e= .returned (.tuple #[.slice (some ⟨b,z+10,none⟩) (l.length-10-1) (cap-10),.bool true])∧Below w.heap.size w w':=by
 obtain⟨J,K,L,M⟩:=je I;refine(xg b z cap l w G A N E Q K L J).mono ?_;rintro e w' ⟨rfl,O⟩;rw[M];exact⟨rfl,O⟩
theorem xe(b z cap:Nat)(l:LN)(w:World)(J:l.length≤1048576)(G:l.length≤cap)(L:eh w b z l)(I:b<w.heap.size)(M:∀x∈l,x<256)(K:eB l=false):
  Calls prog 182 #[.slice (some ⟨b,z,none⟩) l.length cap] w (Cr w):=by
 by_cases E:l.take 10=gJ
 ·by_cases A:(l.drop 10).drop ((l.drop 10).length-1)=[10]∧0<(l.drop 10).length
  ·have N:10<l.length:=(by have:=A.2;rw[O9] at this;omega);refine(xg b z cap l w J G L I M E A.1 N).mono ?_;rintro e w' ⟨rfl,R⟩;have O:ka (et l)=true:=by
    unfold eB at K;have Q:l.drop (l.length-1)=[10]:=by
     have:=A.1;rw[O9,List.drop_drop,show 10+(l.length-10-1)=l.length-1 from by omega] at this;exact this
    rw[ON (⟨N,E,Q⟩:10<l.length∧l.take 10=gJ∧l.drop (l.length-1)=[10])] at K;simpa using K
   rw[O];exact⟨_,rfl,R⟩
  ·exact AA b z cap l w J G L I M E A
 ·exact yr b z cap l w J G L I M E
def gu(w:World)(g:Nat)(x y:Value):Prop:=w.heap[g]? =some (.cells #[x,y] 179 (0,0))
theorem gu.c0(h:gu w g x y):w.cell? ⟨g,0,none⟩=some x:=by rw[OK w g 0 _ _ (0,0) h];rfl
theorem gu.c1(h:gu w g x y):w.cell? ⟨g,1,none⟩=some y:=by rw[OK w g 1 _ _ (0,0) h];rfl
theorem gu.fz(h:gu w g x y)(j:Nat):w.frozen? ⟨g,j,none⟩=false:=OO w g j _ _ h
theorem gu.set0(h:gu w g x y)(u:Value):gu (w.setCell ⟨g,0,none⟩ u) g u y:=heap_setCell_same w g 0 _ _ u h
theorem gu.set1(h:gu w g x y)(u:Value):gu (w.setCell ⟨g,1,none⟩ u) g x u:=heap_setCell_same w g 1 _ _ u h
theorem gu.other{g':Nat}(h:gu w g x y)(z:g≠g')(u:Value):gu (w.setCell ⟨g',j,none⟩ u) g x y:=by
 unfold gu;rw[Below.heap_setCell w ⟨g',j,none⟩ u g z];exact h
theorem gu.lt(h:gu w g x y):g<w.heap.size:=OT h
theorem gu.below(h:gu w g x y)(z:Below B w w')(A:g<B):gu w' g x y:=(z.block g A).trans h
theorem gu.grown{z:Option Nat}(h:gu w g x y)(E:w.grownBy w' z)(A:some g≠z):gu w' g x y:=(E.block g h.lt A).trans h
theorem f9{fn:Func}{p:Tmp}(B:Nat)(W:World)(x y:Value)(A:fn.results= #[.cell p 179])(E:tmps.getD p undef=pP B)(z:gu W B x y):
  (results fn tmps).run prog W= .ok (.agg #[x,y]) W:=
 results_cell_row (P:=prog) A _ _ B _ _ _ _ E z underlying179 rfl (by kernel_rfl)
def lK(w':World)(lo:Nat)(v:Value):Option (List (Nat×Nat×LN))→Prop
 |none=>v= .agg #[.bool false,sN]
 |some l=>∃lv vs,v= .agg #[.bool true,lv]∧vs.map (fun x:S3=>(x.1,x.2.1))=l.map (fun x=>(x.1,x.2.1))∧gQ w' lo lv vs (l.map (·.2.2))
def jx(d:LN)(w:World)(e:Ending)(w':World):Prop:=∃v,e= .returned v∧lK w' w.heap.size v (iK d)∧Below w.heap.size w w'
structure Spl(w wr:World)(lo2:Nat)(sv v:Value)(R:LN)(vs:List S3)(ls:List (LN)):Prop where
 b0:gu wr w.heap.size (.bool false) (sN)
 b1:gu wr (w.heap.size+1) (.bool true) v
 st:l8 wr (w.heap.size+2) sv R
 stlt:∀g,sv.ownBlock=some g→g<lo2
 os:gQ wr lo2 v vs ls
 bel:Below w.heap.size w wr
 sz:lo2≤wr.heap.size
 lo:w.heap.size+2≤lo2
theorem Spl.below{W':World}{v:Value}{R:LN}{I:List S3}{E:List (LN)}(h:Spl w W A G v R I E)(z:Below W.heap.size W W'):Spl w W' A G v R I E:=
 ⟨h.b0.below z h.b0.lt,h.b1.below z h.b1.lt,h.st.below z (OV _),h.stlt,h.os.below z (OV _),h.bel.trans (z.mono h.bel.size),O0 h.sz z.size,h.lo⟩
theorem jl{d:LN}(h:40000<d.length∨(0<d.length∧(dN (eo d)).head?≠some 0)∨∃k,k<(dN (eo d)).length∧eB (gM d (dN (eo d)) k)=false):iK d=none:=by unfold iK;rw[OS h]
theorem pt{d:LN}(G:d.length≤40000)(z:¬(0<d.length∧(dN (eo d)).head?≠some 0))(A:∀k,k<(dN (eo d)).length→eB (gM d (dN (eo d)) k)=true):iK d=some ((List.range (dN (eo d)).length).map (nW d (dN (eo d)))):=by
 unfold iK;rw[OR];rintro(h|h|⟨k,E,h⟩)
 ·omega
 ·exact z h
 ·rw[A k E] at h;cases h
theorem tQ(b A cap:Nat)(d:LN)(w:World)(E:40000<d.length)(G:d.length≤1048576):
  Calls prog 154 #[.slice (some ⟨b,A,none⟩) d.length cap] w (jx d w):=by
 have hi:(40000:Int)<(d.length:Int):=(by omega);have z:gu (w.alloc (.cells #[.bool false,sN] 179)) w.heap.size (.bool false) (sN):=OP w _;go_enter func154,ntmps154;go_wp2;exact OJ (f9 w.heap.size _ _ _ rfl rfl z) rfl ⟨_,rfl,by rw[jl (Or.inl E)];exact rfl,(OX _ _).alloc (OV _) _⟩
structure Cu(w w3:World)(lo2:Nat)(sv v:Value)(R:LN):Prop where
 b0:gu w3 w.heap.size (.bool false) (sN)
 b1:gu w3 (w.heap.size+1) (.bool true) v
 st:l8 w3 (w.heap.size+2) sv R
 bel:Below w.heap.size w w3
 sz:lo2≤w3.heap.size
theorem kZ{v:Value}(h:w.ownsRow z e k v n xs)(A:w'.heap=w.heap):w'.ownsRow z e k v n xs:=lh h fun g _ _=>by rw[A]
theorem wY{v:Value}{E:List S3}{A:List (LN)}(h:gQ w lo v E A)(z:w'.heap=w.heap):gQ w' lo v E A:=by
 refine⟨h.len,kZ h.row z,fun i hi=> ?_,h.apart⟩;obtain⟨x,I,G⟩:=h.body i hi;exact⟨x,I,kZ G z⟩
def NI(w w2:World)(lo2:Nat)(sv v u:Value)(p q:Nat)(R:LN)(vs:List S3)(ls:List (LN))(U:LN):Prop:=
 ∀Y:World,Y.heap=(w2.alloc (.cells #[.int .i64 (p:Int),.int .i64 (q:Int),u] 182)).heap→Y.os=w2.os→Y.tape=w2.tape→Y.output=w2.output→
  gQ Y lo2 v vs ls∧Y.cell? ⟨w2.heap.size,0,none⟩=some (iv p)∧Y.cell? ⟨w2.heap.size,1,none⟩=some (iv q)∧Y.cell? ⟨w2.heap.size,2,none⟩=some u∧dR Y lo2 u U∧lo2≤Y.heap.size∧∀w3,Y.grownBy w3 v.ownBlock→Cu w w3 lo2 sv v R
theorem E7{z A:World}{E:Nat}{v u:Value}{p q:Nat}{R:LN}{O:List S3}{N:List (LN)}{U:LN}(h:NI w z E G v u p q R O N U)(M:Y.grownBy A v.ownBlock)(I:Y.heap=(z.alloc (.cells #[.int .i64 (p:Int),.int .i64 (q:Int),u] 182)).heap:=by rfl)(J:Y.os=z.os:=by rfl)(K:Y.tape=z.tape:=by rfl)(L:Y.output=z.output:=by rfl):Cu w A E G v R:=
 (h Y I J K L).2.2.2.2.2.2 A M
theorem E6{E:World}{A v:Value}{R:LN}{I:List S3}{G:List (LN)}(h:Cu w E z A v R)(J:w.heap.size+2≤z)(L:∀g,A.ownBlock=some g→g<z)(K:gQ E z v3 I G):Spl w (E.setCell ⟨w.heap.size+1,1,none⟩ v3) z A v3 R I G:=
 ⟨h.b0.other (show w.heap.size≠w.heap.size+1 by omega) _,h.b1.set1 _,ownsRow_setCell_below h.st (show w.heap.size+1<w.heap.size+2 by omega) _,L,K.other (show w.heap.size+1<z by omega) _,h.bel.setCell (p:=⟨w.heap.size+1,1,none⟩) (by simp) _,by simpa using h.sz,J⟩
theorem Kz{A:World}{V:Nat}{Z v:Value}{R:LN}{vs:List S3}{ls:List (LN)}(S:Spl w A V Z v R vs ls)(b o n c p q:Nat)(U:LN)(hn:U.length=n)(hU:U.length≤1048576)(hc:U.length≤c)(ag:c≤9223372036854775807)(hT:eh A b o U)(af:b<A.heap.size)(hb:∀x∈U,x<256):
  ∀W:World,W.heap=A.heap→W.os=A.os→W.tape=A.tape→W.output=A.output→Calls prog 183 #[.slice (some ⟨b,o,none⟩) n c] W fun e J=>∃E G,e= .returned (.slice E (d6 U).length G)∧(∀y∈vs,y.2.2.ownBlock=none∨y.2.2.ownBlock≠(Value.slice E (d6 U).length G).ownBlock)∧
   NI w J V Z v (.slice E (d6 U).length G) p q R vs ls (d6 U)∧J.cell? ⟨w.heap.size+1,1,none⟩=some v∧w.heap.size+1<J.heap.size:=by
 intro W M e2 e3 e4;subst hn;have ae:eh W b o U:=fun i hi=>(by rw[←hT i hi];exact World.cell?_of_block (by rw[M]));refine(sx b o c U W hU hc ag ae (by rw[M];exact af) hb).mono ?_;rintro e J ⟨v2,rfl,O,N⟩;obtain⟨E,G,rfl⟩:=O.slice;rw[M] at O;have hB:Below A.heap.size A J:=⟨N.os.trans e2,N.tape.trans e3,N.output.trans e4,by rw[←M];exact N.size,fun k hk=>by rw[←M];exact N.block k (by rw[M];exact hk)⟩
 have K:=S.below hB;have al:=hB.size;refine⟨E,G,rfl,S.os.ne_new O,?_,K.b1.c1,K.b1.lt⟩;have ab:=nAl J (.cells #[iI p,iI q,.slice E (d6 U).length G] 182);have I:=K.below ab;have ai:dR _ V (.slice E (d6 U).length G) (d6 U):=(O.below ab (OV _)).mono S.sz;have aj:=OP J (.cells #[iI p,iI q,.slice E (d6 U).length G] 182);intro Y z y2 y3 y4;have aa:Y.heap[J.heap.size]? =some (.cells #[iI p,iI q,.slice E (d6 U).length G] 182 (0,0)):=(by rw[z];exact aj);have Q:∀g,v.ownBlock=some g→V≤g:=fun g L=>(OF K.os.row g L).1;refine⟨wY I.os z,by rw[OK _ _ _ _ _ _ aa];rfl,by rw[OK _ _ _ _ _ _ aa];rfl,by rw[OK _ _ _ _ _ _ aa];rfl,kZ ai z,by rw[z];exact I.sz,fun w3 L=> ?_⟩;have c0:gu Y w.heap.size (.bool false) (sN):=(by unfold gu;rw[z];exact I.b0);have c1:gu Y (w.heap.size+1) (.bool true) v:=(by unfold gu;rw[z];exact I.b1);have ad:l8 Y (w.heap.size+2) Z R:=kZ I.st z;have ak:=S.lo;refine⟨c0.grown L (fun e=>by have:=Q _ e.symm;omega),c1.grown L (fun e=>by have:=Q _ e.symm;omega),OE ad L ?_,?_,O0 (by rw[z];exact I.sz) L.size⟩
 ·cases hb':Z.ownBlock with
  |none=>exact .inl rfl
  |some g=>exact .inr fun e=>by have:=Q g e.symm;have:=S.stlt g hb';omega
 ·have ac:Below w.heap.size w Y:=⟨y2.trans K.bel.os,y3.trans K.bel.tape,y4.trans K.bel.output,by rw[z];exact I.bel.size,fun k hk=>by rw[z];exact I.bel.block k hk⟩
  exact ac.grown L (by have:=ac.size;omega) (fun g ah=>by have:=Q g ah;omega)
theorem L6(v:Value)(w:World):(callFunc 183 #[v]).run prog w= .ok (.enter 183 #[v]) w:=by
 kernel_rfl
theorem oY{G:Array Oper}{z:Act}{K:Act→World→Prop}{E:Prop}(x:Operand)(ts:Array TypeId)(A:o.guard=none)
  (I:o.op= .call {callee:= .value (.func 183),args:= #[x],argTypes:=ts}) (v:Value) (M:z.eval x=v) (h:Calls prog 183 #[v] w fun e w'=>∃u,e= .returned u∧K (z.put o.dst u) w'):
  if Region.wanted o (yielded G z.tmps)=true then Oper.wp prog o z w K Q else E:=by
 have L:Region.wanted o (yielded G z.tmps)=true:=(by simp[Region.wanted,A]);rw[OS L];obtain⟨R,V,Y,U,N,O⟩:=o;simp only at I A;subst I;unfold Oper.wp;rw[execOp_call_go];simp only[List.map_toArray,Pe,PD,M,List.append_toArray,PC,Pm,L6,Oper.upon_enter];refine h.mono ?_;rintro e w' ⟨u,rfl,J⟩;exact J
theorem vF(b N cap:Nat)(d:LN)(w:World)(hd:d.length≤40000)(aG:d.length≤cap)(aL:cap≤9223372036854775807)(hT:eh w b N d)(aC:b<w.heap.size)(hb:∀x∈d,x<256):
  Calls prog 154 #[.slice (some ⟨b,N,none⟩) d.length cap] w (jx d w):=by
 have hi:¬(40000:Int)<(d.length:Int):=(by omega);have b0:gu ((w.alloc (.cells #[.bool false,sN] 179)).alloc (.cells #[.bool true,sN] 179)) w.heap.size (.bool false) (sN):=(Below.heap_alloc _ _ _ (by simp)).trans (OP w _);have b1:gu ((w.alloc (.cells #[.bool false,sN] 179)).alloc (.cells #[.bool true,sN] 179)) (w.heap.size+1) (.bool true) (sN):=by
  have h:=OP (w.alloc (.cells #[.bool false,sN] 179)) (.cells #[.bool true,sN] 179);simpa[gu] using h
 have bw:Below w.heap.size w ((w.alloc (.cells #[.bool false,sN] 179)).alloc (.cells #[.bool true,sN] 179)):=((OX _ _).alloc (OV _) _).alloc (by simp) _;have I:((w.alloc (.cells #[.bool false,sN] 179)).alloc (.cells #[.bool true,sN] 179)).heap.size=w.heap.size+2:=(by simp);go_enter func154,ntmps154;go_wp2_with fail;generalize (w.alloc (.cells #[.bool false,sN] 179)).alloc (.cells #[.bool true,sN] 179)=W1 at b0 b1 bw I⊢;refine(ss b N cap d W1 (by omega) aG aL (hT.below bw aC) hb).mono ?_;rintro e W2 ⟨sv,rfl,ao,ag⟩;obtain⟨sa,sc,rfl⟩:=ao.slice;have aH:=ag.size;have J:Spl w W2 W2.heap.size (.slice sa (dN (eo d)).length sc) (sN) (dN (eo d)) [] []:=
  ⟨b0.below ag b0.lt,b1.below ag b1.lt,by rw[I] at ao;exact ao,fun g hg=>(OF ao g hg).2,gQ.nil _ _,bw.trans (ag.mono bw.size),OV _,by omega⟩
 have aB:(dN (eo d)).length≤40000:=O0 (nY _) (O0 (qP d) hd);have Z:=rV d;have ac:=a8 (fun h:0<d.length∧(dN (eo d)).head?≠some 0=>jl (d:=d) (Or.inr (Or.inl h)));have V:=a8 (fun(k:Nat) (hk:k<(dN (eo d)).length) (h:eB (gM d (dN (eo d)) k)=false)=>jl (d:=d) (Or.inr (Or.inr ⟨k,hk,h⟩)));have Y:=a8 (pt (d:=d) hd);clear b0 b1 bw I ao ag aH;generalize hR:dN (eo d)=R at J aB Z ac V Y⊢;clear hR;have p0:=J.b0.c0;have p1:=J.b0.c1;have f0:=J.b0.fz 0;have f1:=J.b0.fz 1;have q0:=J.b1.c0;have q1:=J.b1.c1;have ab:=a8 J;by_cases az:0<d.length
 ·have aF:(0:Int)<(d.length:Int):=(by omega);cases hRc:R with
  |nil=>
   subst hRc;have Q:=a8 (ac.out ⟨az,by simp⟩);clear ac V Y J Z;go_wp2;exact OJ (f9 w.heap.size _ _ _ rfl rfl ((ab.b0.set0 _).set1 _)) rfl ⟨_,rfl,by rw[Q.out];exact rfl,(ab.bel.setCell (p:=⟨w.heap.size,0,none⟩) (OV _) _).setCell (p:=⟨w.heap.size,1,none⟩) (OV _) _⟩
  |cons r0 rs=>
   subst hRc;obtain⟨g1,rfl⟩:∃g1,sa=some ⟨g1,0,none⟩:=by
    rcases J.st.2 with⟨h',hn⟩|⟨g,aR,aT,h',_⟩
    ·simp at hn
    ·simp only[O3] at h';exact⟨g,h'.1⟩
   have s0:W2.cell? ⟨g1,0,none⟩=some (iI r0):=J.st.cell 0 (by simp);have aQ:((rs.length:Int)+1==0)=false:=(by simp;omega);by_cases aE:r0=0
   ·subst aE;clear J ac p0 p1 f0 f1 q0 q1;obtain⟨R,hR⟩:∃R,R=0::rs:=⟨_,rfl⟩
    have aU:R.length=rs.length+1:=(by rw[hR];rfl);have aK:R.head? =some 0:=(by rw[hR];rfl);rw[←hR] at ab V Y Z aB;go_wp2;clear s0 hR;go_loopw [5,6,7,8,9,34] (fun _ _ _ _ _ i wr=>∃(k:Nat) (v:Value) (vs:List S3) (K:List (LN)),k≤R.length∧i=iI k∧Spl w wr W2.heap.size (sS g1 R.length sc) v R vs K∧Hid (vs.map (fun x:S3=>(x.1,x.2.1))=(List.range k).map (fy R d.length))∧Hid (K=(List.range k).map (fun j=>d6 (et (gM d R j))))∧Hid (∀j,j<k→eB (gM d R j)=true)) (fun _ _ _ _ _ i _=>R.length-(intOf i).toNat)
    case atStart=>exact⟨0,_,[],[],O4 _,rfl,ab,rfl,rfl,fun j hj=>OH hj (Nat.not_lt_zero _)⟩
    case round=>
     obtain⟨k,v,vs,K,hk,rfl,S,HV,HL,HO⟩:=hrel;obtain⟨va,vc,rfl⟩:=S.os.slice;clear ab;by_cases am:k<R.length
     ·obtain⟨aD,aP⟩:=Z k am;have sk:=S.st.cell k am;have ay:(fy R d.length k).1=R[k]:=(by unfold fy;simp[List.getD,am]);rw[←ay] at sk;have ar:∀h:k+1<R.length,wr.cell? ⟨g1,k+1,none⟩=some (.int .i64 ((fy R d.length k).2:Int)):=fun h=>by
       have hq:(fy R d.length k).2=R[k+1]:=(by unfold fy;simp[List.getD,h]);rw[hq];exact S.st.cell (k+1) h
      have aq:¬k+1<R.length→(fy R d.length k).2=d.length:=fun h=>(by unfold fy;simp[h]);have O:(gM d R k).length=(fy R d.length k).2-(fy R d.length k).1:=(by unfold gM;rw[Pa,O9];omega);have L:=iw (hT.below S.bel aC) (fy R d.length k).1 ((fy R d.length k).2-(fy R d.length k).1);have ap:(d.drop (fy R d.length k).1).take ((fy R d.length k).2-(fy R d.length k).1)=gM d R k:=rfl;rw[ap] at L;have aa:∀x∈gM d R k,x<256:=fun x hx=>hb x (Pk (Pi hx));have aA:=a8 (show nW d R k=((fy R d.length k).1,(fy R d.length k).2,d6 (et (gM d R k))) from rfl);have HE:=a8 (show fy R d.length k=((fy R d.length k).1,(fy R d.length k).2) from rfl);generalize (fy R d.length k).1=p at aD ay sk O L aA HE ap;generalize (fy R d.length k).2=q at aD aP ar aq O L aA HE ap;have A:=a8 S;clear ay ap S;have aM:(k:Int)<(rs.length:Int)+1:=(by omega);have aX:(p:Int)≤(q:Int):=(by omega);have aY:(q:Int)≤(cap:Int):=(by omega);have aW:¬cap=p:=(by omega);by_cases h1:k+1<R.length
      ·have aZ:=ar h1;have aI:(k:Int)+1<(rs.length:Int)+1:=(by omega);clear ar aq;go_wp2_with fail;by_cases E:eB (gM d R k)=true
       ·have IG:=tR b (N+p) (cap-p) (gM d R k) wr (by omega) (by omega) L (by have:=A.bel.size;omega) aa E;rw[O] at IG;refine IG.mono ?_;rintro e W3 ⟨rfl,M⟩;have z:=a8 (A.below M);have av:=(je E).1;have ad:et (gM d R k)=((gM d R k).drop 10).take ((gM d R k).length-11):=rfl;have ae:eh W3 b (N+p+10) (et (gM d R k)):=by
         have h:=(iw (L.drop 10) 0 ((gM d R k).length-11)).below M (by have:=A.bel.size;omega);rw[ad];simpa using h
        have ak:(et (gM d R k)).length=q-p-10-1:=(by rw[ad,Pa,O9,O];omega);have ah:∀x∈et (gM d R k),x<256:=fun x hx=>aa x (Pk (Pi hx));have ai:=Kz z b (N+p+10) (q-p-10-1) (cap-p-10) p q (et (gM d R k)) ak (by omega) (by omega) (by omega) ae (by have:=z.bel.size;omega) ah;have HN:=a8 (show(∀j,j<k+1→eB (gM d R j)=true) from fun j hj=>by
         by_cases e:j<k
         ·exact HO.out j e
         ·obtain rfl:j=k:=(by omega);exact E)
        have ax:K.length≤1048576:=(by have:=OL List.length HL.out;rw[OW,List.length_range] at this;omega);have q1:=z.b1.c1;generalize af:d6 (et (gM d R k))=U at ai;have HU:=a8 af;clear af ah ak ae ad IG M L aa O A HO E sk av;go_wp2;go_region_law (first
         |(refine oY (.tmp 66) #[52] (by rfl) (by rfl) (.slice (some ⟨b,N+p+10,none⟩) (q-p-10-1) (cap-p-10)) (by rfl) ?_;refine(ai _ ?_ ?_ ?_ ?_).mono ?_;(exact rfl);(exact rfl);(exact rfl);(exact rfl);rintro e w2 ⟨a2,c2,rfl,al,ha,p1,l2⟩;have au:=a8 al;have G:=a8 ha;clear al ha;refine⟨_,rfl,?_⟩)
         |(refine jX _ (by rfl) (.tmp 63) (.tmp 69) (by rfl) W2.heap.size (.slice va K.length vc) vs K p q (.slice a2 U.length c2) U w2.heap.size 1 (by rfl) (by rfl) ?_ ?_ ?_ ?_ ?_ ?_ ?_ ?_ ?_;(refine(G.out _ ?_ ?_ ?_ ?_).1<;>rfl);(refine(G.out _ ?_ ?_ ?_ ?_).2.1<;>rfl);(refine(G.out _ ?_ ?_ ?_ ?_).2.2.1<;>rfl);(refine(G.out _ ?_ ?_ ?_ ?_).2.2.2.1<;>rfl);(refine(G.out _ ?_ ?_ ?_ ?_).2.2.2.2.1<;>rfl);(exact au.out);(exact ax);(refine(G.out _ ?_ ?_ ?_ ?_).2.2.2.2.2.1<;>rfl);intro v3 w3 an aw;have I:=E7 G aw;obtain⟨a3,c3,rfl⟩:=an.slice;have p3:=I.b1.c0;have f3:=I.b1.fz 0;have p4:=I.b1.c1;have f4:=I.b1.fz 1))
        all_goals
         have aj:=E6 I z.lo z.stlt an;rw[show(K++[U]).length=K.length+1 from by simp] at aj;go_wp2;go_roundw
         case rel=>
          refine⟨k+1,_,_,_,by omega,by go_num,aj,?_,?_,HN⟩
          ·show _=_;rw[List.range_succ,O7,O7,HV.out,List.map_singleton,List.map_singleton,HE.out]
          ·show _=_;rw[List.range_succ,O7,←HL.out,List.map_singleton,HU.out]
         case measure=>simp[intOf];omega
       ·have IB:=xe b (N+p) (cap-p) (gM d R k) wr (by omega) (by omega) L (by have:=A.bel.size;omega) aa (by simpa using E);rw[O] at IB;refine IB.mono ?_;rintro e W3 ⟨v3,rfl,M⟩;have z:=a8 (A.below M);have Q:=a8 (V.out k am (by simpa using E));have p0:=z.b0.c0;have p1:=z.b0.c1;have f0:=z.b0.fz 0;have f1:=z.b0.fz 1;clear IB M L aa O A HO E sk V Y HV HL Z;go_wp2;exact OJ (f9 w.heap.size _ _ _ rfl rfl ((z.b0.set0 _).set1 _)) rfl ⟨_,rfl,by rw[Q.out];exact rfl,(z.bel.setCell (p:=⟨w.heap.size,0,none⟩) (OV _) _).setCell (p:=⟨w.heap.size,1,none⟩) (OV _) _⟩
      ·have aO:=aq h1;subst aO;have aI:¬(k:Int)+1<(rs.length:Int)+1:=(by omega);clear ar aq;go_wp2_with fail;by_cases E:eB (gM d R k)=true
       ·have IG:=tR b (N+p) (cap-p) (gM d R k) wr (by omega) (by omega) L (by have:=A.bel.size;omega) aa E;rw[O] at IG;refine IG.mono ?_;rintro e W3 ⟨rfl,M⟩;have z:=a8 (A.below M);have av:=(je E).1;have ad:et (gM d R k)=((gM d R k).drop 10).take ((gM d R k).length-11):=rfl;have ae:eh W3 b (N+p+10) (et (gM d R k)):=by
         have h:=(iw (L.drop 10) 0 ((gM d R k).length-11)).below M (by have:=A.bel.size;omega);rw[ad];simpa using h
        have ak:(et (gM d R k)).length=d.length-p-10-1:=(by rw[ad,Pa,O9,O];omega);have ah:∀x∈et (gM d R k),x<256:=fun x hx=>aa x (Pk (Pi hx));have ai:=Kz z b (N+p+10) (d.length-p-10-1) (cap-p-10) p d.length (et (gM d R k)) ak (by omega) (by omega) (by omega) ae (by have:=z.bel.size;omega) ah;have HN:=a8 (show(∀j,j<k+1→eB (gM d R j)=true) from fun j hj=>by
         by_cases e:j<k
         ·exact HO.out j e
         ·obtain rfl:j=k:=(by omega);exact E)
        have ax:K.length≤1048576:=(by have:=OL List.length HL.out;rw[OW,List.length_range] at this;omega);have q1:=z.b1.c1;generalize af:d6 (et (gM d R k))=U at ai;have HU:=a8 af;clear af ah ak ae ad IG M L aa O A HO E sk av;go_wp2;go_region_law (first
         |(refine oY (.tmp 66) #[52] (by rfl) (by rfl) (.slice (some ⟨b,N+p+10,none⟩) (d.length-p-10-1) (cap-p-10)) (by rfl) ?_;refine(ai _ ?_ ?_ ?_ ?_).mono ?_;(exact rfl);(exact rfl);(exact rfl);(exact rfl);rintro e w2 ⟨a2,c2,rfl,al,ha,p1,l2⟩;have au:=a8 al;have G:=a8 ha;clear al ha;refine⟨_,rfl,?_⟩)
         |(refine jX _ (by rfl) (.tmp 63) (.tmp 69) (by rfl) W2.heap.size (.slice va K.length vc) vs K p d.length (.slice a2 U.length c2) U w2.heap.size 1 (by rfl) (by rfl) ?_ ?_ ?_ ?_ ?_ ?_ ?_ ?_ ?_;(refine(G.out _ ?_ ?_ ?_ ?_).1<;>rfl);(refine(G.out _ ?_ ?_ ?_ ?_).2.1<;>rfl);(refine(G.out _ ?_ ?_ ?_ ?_).2.2.1<;>rfl);(refine(G.out _ ?_ ?_ ?_ ?_).2.2.2.1<;>rfl);(refine(G.out _ ?_ ?_ ?_ ?_).2.2.2.2.1<;>rfl);(exact au.out);(exact ax);(refine(G.out _ ?_ ?_ ?_ ?_).2.2.2.2.2.1<;>rfl);intro v3 w3 an aw;have I:=E7 G aw;obtain⟨a3,c3,rfl⟩:=an.slice;have p3:=I.b1.c0;have f3:=I.b1.fz 0;have p4:=I.b1.c1;have f4:=I.b1.fz 1))
        all_goals
         have aj:=E6 I z.lo z.stlt an;rw[show(K++[U]).length=K.length+1 from by simp] at aj;go_wp2;go_roundw
         case rel=>
          refine⟨k+1,_,_,_,by omega,by go_num,aj,?_,?_,HN⟩
          ·show _=_;rw[List.range_succ,O7,O7,HV.out,List.map_singleton,List.map_singleton,HE.out]
          ·show _=_;rw[List.range_succ,O7,←HL.out,List.map_singleton,HU.out]
         case measure=>simp[intOf];omega
       ·have IB:=xe b (N+p) (cap-p) (gM d R k) wr (by omega) (by omega) L (by have:=A.bel.size;omega) aa (by simpa using E);rw[O] at IB;refine IB.mono ?_;rintro e W3 ⟨v3,rfl,M⟩;have z:=a8 (A.below M);have Q:=a8 (V.out k am (by simpa using E));have p0:=z.b0.c0;have p1:=z.b0.c1;have f0:=z.b0.fz 0;have f1:=z.b0.fz 1;clear IB M L aa O A HO E sk V Y HV HL Z;go_wp2;exact OJ (f9 w.heap.size _ _ _ rfl rfl ((z.b0.set0 _).set1 _)) rfl ⟨_,rfl,by rw[Q.out];exact rfl,(z.bel.setCell (p:=⟨w.heap.size,0,none⟩) (OV _) _).setCell (p:=⟨w.heap.size,1,none⟩) (OV _) _⟩
     ·obtain rfl:k=R.length:=(by omega);have Q:=a8 (Y.out (by rw[aK];simp) HO);have p0:=S.b0.c0;have p1:=S.b0.c1;have f0:=S.b0.fz 0;have f1:=S.b0.fz 1;have q0:=S.b1.c0;have q1:=S.b1.c1;have A:=a8 S;have aM:¬(R.length:Int)<(rs.length:Int)+1:=(by omega);clear Y V S Z;go_wp2;refine OJ (f9 w.heap.size _ _ _ rfl rfl ((A.b0.set0 _).set1 _)) rfl ⟨_,rfl,?_,(A.bel.setCell (p:=⟨w.heap.size,0,none⟩) (OV _) _).setCell (p:=⟨w.heap.size,1,none⟩) (OV _) _⟩;rw[Q.out];refine⟨_,vs,rfl,?_,?_⟩
      ·rw[HV.out,PP];rfl
      ·have aN:((List.range R.length).map (nW d R)).map (·.2.2)=K:=(by rw[HL.out,PP];rfl);rw[aN];have aV:=A.lo;exact((A.os.other (show w.heap.size<W2.heap.size by omega) _).other (show w.heap.size<W2.heap.size by omega) _).mono (by omega)
   ·have aS:((r0:Int) !=0)=true:=(by simp;omega);have Q:=a8 (ac.out ⟨az,by simp;exact aE⟩);clear ac V Y J Z;go_wp2;exact OJ (f9 w.heap.size _ _ _ rfl rfl ((ab.b0.set0 _).set1 _)) rfl ⟨_,rfl,by rw[Q.out];exact rfl,(ab.bel.setCell (p:=⟨w.heap.size,0,none⟩) (OV _) _).setCell (p:=⟨w.heap.size,1,none⟩) (OV _) _⟩
 ·have aF:¬(0:Int)<(d.length:Int):=(by omega);have aJ:R=[]:=by
   cases R with
   |nil=>rfl
   |cons r0 rs=>have:=Z 0 (by simp);omega
  subst aJ;have Q:=a8 (Y.out (by omega) (fun k hk=>by simp at hk));clear ac V Y J Z;go_wp2;go_loopw [34] (fun i wr=>i= .int .i64 0∧wr=W2) (fun _ _=>0)
  case atStart=>exact⟨rfl,rfl⟩
  case round=>
   obtain⟨rfl,rfl⟩:=hrel;go_wp2;refine OJ (f9 w.heap.size _ _ _ rfl rfl ((ab.b0.set0 _).set1 _)) rfl ⟨_,rfl,?_,(ab.bel.setCell (p:=⟨w.heap.size,0,none⟩) (OV _) _).setCell (p:=⟨w.heap.size,1,none⟩) (OV _) _⟩;rw[Q.out];exact⟨_,[],rfl,rfl,gQ.nil _ _⟩
end Go.Proofs.YtkkdfgnnlpohlaaGreatDoor
