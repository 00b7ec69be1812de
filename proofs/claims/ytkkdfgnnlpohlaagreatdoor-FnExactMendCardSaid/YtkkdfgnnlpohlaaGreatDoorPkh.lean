import Derived.Test.YtkkdfgnnlpohlaaGreatDoorPka
import Derived.Lib.BytesEntry
import Derived.Lib.SlBytesConst
import Derived.Deep.RegionHeld3
namespace Go.Proofs.YtkkdfgnnlpohlaaGreatDoor
set_option maxRecDepth 20000
set_option linter.unusedVariables false
set_option linter.unusedSimpArgs false
set_option maxHeartbeats 4000000
open Go.RowKit Go.Proofs.Tryz
variable {W X Y w w' w0 wr : World} {A B at_ b b2 base' c cap e f g go gs hi i j k lo m n s u val z : Nat} {E G I J K L M N O u0 u1 u2 v0 v1 v2 v3 v4 v5 v6 x y : Value} {o : Oper} {Q : Exit → Act → World → Prop} {cs tmps : Array Value} {t : TypeId} {p : Addr} {l : List Nat} {bvs xs : List Value} {a : List UInt8} {first ok : Bool}
def gh:LN→Nat
 |[]=>0
 |x::r=>if x=10 then 1 else gh r+1
theorem tr(l:LN):gh l≤l.length:=by
 induction l with
 |nil=>simp[gh]
 |cons x r ih=>simp only[gh,Pf];split<;>omega
theorem jM(l:LN)(h:0<l.length):0<gh l:=by
 cases l with
 |nil=>simp at h
 |cons x r=>simp only[gh];split<;>omega
theorem tt(l:LN)(h:¬10∈l):gh l=l.length:=by
 induction l with
 |nil=>rfl
 |cons x r ih=>
  simp only[Pd,not_or] at h;simp only[gh,Pf];rw[OR (fun e=>h.1 e.symm),ih h.2]
def gA:Nat→Nat→LN→List (Nat×Nat)
 |0,_,_=>[]
 |f+1,p,d=>if d.length=0 then[] else(p,gh d)::gA f (p+gh d) (d.drop (gh d))
def eP(d:LN):List (Nat×Nat):=gA d.length 0 d
theorem iV(f p:Nat)(d:LN)(h:d.length=0):gA f p d=[]:=by
 cases f with
 |zero=>rfl
 |succ f=>simp[gA,h]
theorem BV(f g p:Nat)(d:LN)(h:d.length≤f)(z:d.length≤g):gA f p d=gA g p d:=by
 induction f generalizing g p d with
 |zero=>rw[iV _ _ _ (by omega),iV _ _ _ (by omega)]
 |succ f ih=>
  cases g with
  |zero=>rw[iV _ _ _ (by omega),iV _ _ _ (by omega)]
  |succ g=>
   simp only[gA];split
   ·rfl
   ·next hz=>
    have A:=jM d (by omega);rw[ih g _ _ (by rw[O9];omega) (by rw[O9];omega)]
def Bg(l:LN):Int:=if 10∈l then(gh l:Int)-1 else-1
theorem N1(l:LN)(E:∀x∈l,x<256):Lib.indexByte (l.map fun n=>UInt8.ofNat n) 10=Bg l:=by
 unfold Bg
 induction l with
 |nil=>rfl
 |cons x r ih=>
  have G:=ih (fun y L=>E y (O8 _ L));have N:=E x (PB ..);simp only[Pe,Lib.indexByte,gh];by_cases e:x=10
  ·subst e;simp
  ·have I:(UInt8.ofNat x==10)=false:=by
    apply beq_eq_false_iff_ne.2;intro h;have J:=OL UInt8.toNat h;simp at J;omega
   rw[I,OR e,G];by_cases z:10∈r
   ·have M:=jM r (List.length_pos_of_mem z);have A:10∈x::r:=O8 _ z;rw[OS z,OS A];have K:(((gh r:Int)-1)== -1)=false:=(by simp;omega);rw[K];simp
   ·have A:¬10∈x::r:=(by simp only[Pd,not_or];exact⟨fun h=>e h.symm,z⟩);rw[OR z,OR A];simp
theorem vH(b z cap:Nat)(l:LN)(w:World)(E:∀i (h:i<l.length),w.cell? ⟨b,z+i,none⟩=some (.int .u8 ((l[i]:Nat):Int)))(A:∀x∈l,x<256):
  Calls prog 238 #[.slice (some ⟨b,z,none⟩) l.length cap,.int .u8 10] w fun e w'=>e= .returned (.int .i64 (Bg l))∧w'=w:=by
 go_enter func238,ntmps238;go_wp2;rw[run_callFunc_extern func245 (by kernel_rfl) (by kernel_rfl) (by kernel_rfl) (e:=Extern.BytealgIndexByte.indexByte) (by kernel_rfl),
  Lib.run_indexByteSlice w b z l.length cap (l.map fun n:Nat=>(n:Int)) (by simp) (fun i hi=>by rw[E i hi];simp[hi]) 10]
 simp only[Result.andThen];rw[Oper.upon_value];go_wp2;go_ret;have e:Lib.bytesOf (l.map fun n:Nat=>(n:Int))=l.map fun n=>UInt8.ofNat n:=by
  unfold Lib.bytesOf;rw[PP];rfl
 refine⟨?_,rfl⟩;show Ending.returned (.int .i64 (Lib.indexByte (Lib.bytesOf (l.map fun n:Nat=>(n:Int))) 10))=_;rw[e,N1 l A]
theorem zP(a:OA)(cap:Nat)(ns:List (LN×Int))(w:World)(Y:ns.length≤9223372036854775807)(R:iC ns≤1048576)(K:ja w a ns):
  Calls prog 106 #[.slice a ns.length cap] w fun e w'=>e= .returned (.int .i64 (iC ns:Int))∧Below w.heap.size w w':=by
 go_enter func106,ntmps106;go_wp2;go_loopw [3,8] (fun t i wr=>∃k:Nat,k≤ns.length∧i= .int .i64 k∧t= .int .i64 (iC (ns.take k):Int)∧Below w.heap.size w wr) (fun _ i _=>ns.length-(intOf i).toNat)
 case atStart=>exact⟨0,O4 _,rfl,rfl,OX _ _⟩
 case round=>
  obtain⟨k,V,rfl,rfl,z⟩:=hrel;by_cases E:k<ns.length
  ·obtain⟨b,U,rfl,J⟩:=(K.below z) (by omega)
   obtain⟨N,O,L,M,_⟩:=J k E;have I:=a8 (jE ns k E);have A:=mY ns (k+1);rw[jE ns k E] at A;have G:=a8 (z.alloc z.size (.cells #[.slice N ns[k].1.length O,.int .i64 ns[k].2] 99));clear J K z;generalize iC (ns.take k)=s0 at A I⊢;generalize ns[k].1.length=Z at L A I G;generalize ns[k].2=sf at M G;go_wp2;go_roundw
   case rel=>exact⟨k+1,by omega,by go_num,fM (by rw[I.out];omega),G⟩
   case measure=>simp[intOf];omega
  ·have Q:ns.take k=ns:=Pc (by omega);rw[Q];go_wp2;go_ret;exact⟨rfl,z⟩
def lz(e:LN×Int):Bool:=decide (e.1.length≤40000∧0≤e.2∧e.2≤e.1.length)
def gz(ns:List (LN×Int)):Bool:=decide (ns.length≤600∧(∀i (h:i<ns.length),lz ns[i]=true)∧iC ns≤200000)
theorem uw{ns:List (LN×Int)}(h:i<ns.length)(z:lz ns[i]=false):gz ns=false:=by
 unfold gz;refine OM fun A=> ?_;rw[A.2.1 i h] at z;simp at z
theorem yL(a:OA)(cap:Nat)(ns:List (LN×Int))(w:World)(hn:ns.length≤9223372036854775807)(K:∀e∈ns,e.1.length≤1048576)(Y:iC ns≤1048576)(I:ja w a ns):
  Calls prog 84 #[.slice a ns.length cap] w fun e w'=>e= .returned (.bool (gz ns))∧Below w.heap.size w w':=by
 by_cases h6:600<ns.length
 ·have hf:gz ns=false:=OM fun h=>(by omega);rw[hf];go_enter func84,ntmps84;go_wp2;go_ret;exact⟨rfl,OX _ _⟩
 go_enter func84,ntmps84;go_wp2;go_loopw [10] (fun i wr=>∃k:Nat,k≤ns.length∧i= .int .i64 k∧(∀i (h:i<ns.length),i<k→lz ns[i]=true)∧Below w.heap.size w wr) (fun i _=>ns.length-(intOf i).toNat)
 case atStart=>exact⟨0,O4 _,rfl,fun i _ h=>by omega,OX _ _⟩
 case round=>
  obtain⟨k,hk,rfl,N,z⟩:=hrel;have M:=a8 N;have HR:=a8 I;clear N;by_cases L:k<ns.length
  ·obtain⟨b,ad,rfl,Q⟩:=(I.below z) (by omega)
   obtain⟨ai,ci,aa,ab,_⟩:=Q k L;have ac:=K _ (O6 L);have A:=a8 (z.alloc z.size (.cells #[.slice ai ns[k].1.length ci,.int .i64 ns[k].2] 99));have J:=a8 (uw (ns:=ns) L);have E:=a8 (show lz ns[k]=decide (ns[k].1.length≤40000∧0≤ns[k].2∧ns[k].2≤ns[k].1.length) from rfl);have Z:=a8 (fun(e:lz ns[k]=true) (i:Nat) (h:i<ns.length) (h':i<k+1)=>(by
    by_cases e':i=k
    ·subst e';exact e
    ·exact M.out i h (by omega):lz ns[i]=true))
   clear Q I z K M;generalize ns[k].1.length=R at aa A E ac;generalize ns[k].2=U at ab A E;by_cases g1:40000<R
   ·go_wp2;go_ret;exact⟨eN (J.out (by rw[E.out];exact OM fun h=>by omega)).symm,A⟩
   by_cases g2:U<0
   ·go_wp2;go_ret;exact⟨eN (J.out (by rw[E.out];exact OM fun h=>by omega)).symm,A⟩
   by_cases g3:(R:Int)<U
   ·go_wp2;go_ret;exact⟨eN (J.out (by rw[E.out];exact OM fun h=>by omega)).symm,A⟩
   have V:=a8 (Z.out (by rw[E.out];exact ON ⟨by omega,by omega,by omega⟩));go_wp2;go_roundw
   case rel=>exact⟨k+1,by omega,by go_num,V,A⟩
   case measure=>simp[intOf];omega
  ·go_wp2_with fail;refine(zP a cap ns wr hn Y (HR.below z)).mono ?_;rintro e w2 ⟨rfl,O⟩;have A:=a8 (z.trans (O.mono z.size));clear O z I K;have HF:Hid (gz ns=decide (iC ns≤200000)):=by
    unfold gz;by_cases G:iC ns≤200000
    ·rw[ON G];exact ON ⟨by omega,fun i h=>M.out i h (by omega),G⟩
    ·rw[OM G];exact OM fun h=>G h.2.2
   go_wp2;go_ret;exact⟨eN (by rw[HF.out];simp;omega),A⟩
theorem eO.push{v:Value}{E:List Value}{A:List (LN)}{l:LN}(h:eO w lo v E A)(L:dR w lo x l)(N:∀y∈E,y.ownBlock=none∨y.ownBlock≠x.ownBlock)
  (V:w'.ownsRow lo 52 1 M (A.length+1) (E++[x])) (K:w.grownBy w' v.ownBlock):eO w' lo M (E++[x]) (A++[l]):=by
 obtain⟨G,Q,R⟩:=h;have U:E.length=A.length:=(by have:=G.1;omega);refine⟨by rw[O1];exact V,fun i hi=> ?_,?_⟩
 ·by_cases e:i<A.length
  ·obtain⟨y,I,J⟩:=Q i e;refine⟨y,by rw[List.getElem?_append_left (by omega)];exact I,?_⟩;rw[List.getElem_append_left e];exact OE J K (nM J G (by decide))
  ·have O:i=A.length:=(by simp at hi;omega);subst O;refine⟨x,by rw[PW (by omega)];simp[U],?_⟩;simp only[List.getElem_concat_length];exact OE L K (nM L G (by decide))
 ·rw[PS];refine⟨R,by simp,fun y I z Y=> ?_⟩;obtain rfl:z=x:=(by simpa using Y);exact N y I
theorem qw{O:Array Oper}{M:List Oper}{A:Act}(w:World)(Z:o.guard=none)(s x:Operand)
  (ho:o.op= .call {callee:= .builtin .append,args:= #[s,x],argTypes:= #[56,56]})
  (lo:Nat) (v:Value) (I:List Value) (E:List (LN)) (z:Value) (l:LN) (J c:Nat) (hs:A.eval s=v) (hx:A.eval x= .slice (some ⟨J,0,none⟩) 1 c) (L:eO w lo v I E) (V:w.cell? ⟨J,0,none⟩=some z) (N:dR w lo z l)
  (aa:∀y∈I,y.ownBlock=none∨y.ownBlock≠z.ownBlock) (ae:E.length≤1048576) (U:lo≤w.heap.size)
  (h:∀G w',eO w' lo G (I++[z]) (E++[l])→w.grownBy w' v.ownBlock→wpList prog O Q M (A.put o.dst G) w'):wpList prog O Q (o::M) A w:=by
 obtain⟨i0,hi,ab,ac,ad⟩:=info_parts IW;refine wpList_append_own w Z s x 56 ho lo 52 i0 (.slice none 0 0) 1 24 underlying56 hi ab ac ad rfl (by decide) v E.length I hs L.1 ⟨J,0,none⟩ 1 c [z] hx (by simp) ?_ ?_ (by unfold maxLen;omega) (by omega) U ?_
 ·intro j u K;cases j with
  |zero=>
   simp only[Py,OY] at K;rw[ez,←K];exact V
  |succ j=>simp at K
 ·intro u hu;obtain rfl:u=z:=(by simpa using hu);obtain⟨a,c',rfl⟩:=N.slice;rfl
 ·intro G w' Y R _;exact h G w' (L.push N aa Y R) R
theorem sF{R:Array Oper}{z:Act}{K:Act→World→Prop}{E:Prop}(w:World)(aa:o.guard=none)(s x:Operand)
  (ho:o.op= .call {callee:= .builtin .append,args:= #[s,x],argTypes:= #[56,56]})
  (lo:Nat) (v:Value) (J:List Value) (G:List (LN)) (A:Value) (l:LN) (L c:Nat) (hs:z.eval s=v) (hx:z.eval x= .slice (some ⟨L,0,none⟩) 1 c) (N:eO w lo v J G) (Y:w.cell? ⟨L,0,none⟩=some A) (O:dR w lo A l)
  (ab:∀y∈J,y.ownBlock=none∨y.ownBlock≠A.ownBlock) (af:G.length≤1048576) (V:lo≤w.heap.size)
  (h:∀I w',eO w' lo I (J++[A]) (G++[l])→w.grownBy w' v.ownBlock→K (z.put o.dst I) w'):if Region.wanted o (yielded R z.tmps)=true then Oper.wp prog o z w K Q else E:=by
 have hw:Region.wanted o (yielded R z.tmps)=true:=(by simp[Region.wanted,aa]);rw[OS hw];obtain⟨i0,hi,ac,ad,ae⟩:=info_parts IW;refine wp_append_own w s x 56 ho lo 52 i0 (.slice none 0 0) 1 24 underlying56 hi ac ad ae rfl (by decide) v G.length J hs N.1 ⟨L,0,none⟩ 1 c [A] hx (by simp) ?_ ?_ (by unfold maxLen;omega) (by omega) V ?_
 ·intro j u M;cases j with
  |zero=>
   simp only[Py,OY] at M;rw[ez,←M];exact Y
  |succ j=>simp at M
 ·intro u hu;obtain rfl:u=A:=(by simpa using hu);obtain⟨a,c',rfl⟩:=O.slice;rfl
 ·intro I w' Z U _;exact h I w' (N.push O ab Z U) U
def gC(w:World)(g:Nat)(x y:Value):Prop:=w.heap[g]? =some (.cells #[x,y] 58 (0,0))
theorem gC.c0(h:gC w g x y):w.cell? ⟨g,0,none⟩=some x:=by rw[OK w g 0 _ _ (0,0) h];rfl
theorem gC.c1(h:gC w g x y):w.cell? ⟨g,1,none⟩=some y:=by rw[OK w g 1 _ _ (0,0) h];rfl
theorem gC.fz(h:gC w g x y)(j:Nat):w.frozen? ⟨g,j,none⟩=false:=OO w g j _ _ h
theorem gC.set0(h:gC w g x y)(u:Value):gC (w.setCell ⟨g,0,none⟩ u) g u y:=by
 have:=heap_setCell_same w g 0 _ _ u h;exact this
theorem gC.set1(h:gC w g x y)(u:Value):gC (w.setCell ⟨g,1,none⟩ u) g x u:=by
 have:=heap_setCell_same w g 1 _ _ u h;exact this
theorem gC.other{g':Nat}(h:gC w g x y)(z:g≠g')(u:Value):gC (w.setCell ⟨g',j,none⟩ u) g x y:=by
 unfold gC;rw[Below.heap_setCell w ⟨g',j,none⟩ u g z];exact h
theorem gC.below(h:gC w g x y)(z:Below B w w')(A:g<B):gC w' g x y:=(z.block g A).trans h
theorem gC.lt(h:gC w g x y):g<w.heap.size:=OT h
theorem gC.grown{z:Option Nat}(h:gC w g x y)(E:w.grownBy w' z)(A:some g≠z):gC w' g x y:=(E.block g h.lt A).trans h
theorem eO.other{v:Value}{E:List Value}{A:List (LN)}(h:eO w lo v E A)(z:g<lo)(u:Value):eO (w.setCell ⟨g,j,none⟩ u) lo v E A:=by
 obtain⟨G,I,J⟩:=h;refine⟨ownsRow_setCell_below G z u,fun i hi=> ?_,J⟩;obtain⟨x,L,K⟩:=I i hi;exact⟨x,L,ownsRow_setCell_below K z u⟩
theorem eO.nil(w:World)(lo:Nat):eO w lo (.slice none 0 0) [] []:=⟨World.ownsRow_nil w lo _ 1,fun i h=>by simp at h,List.Pairwise.nil⟩
theorem eO.slice{E:Nat}{v:Value}{A:List Value}{z:List (LN)}(h:eO w E v A z):∃a cap,v= .slice a z.length cap:=lp.slice ⟨A,h⟩
theorem eO.ne_new{w:World}{lo:Nat}{v:Value}{z:List Value}{G:List (LN)}{I:World}{x:Value}{l:LN}(h:eO w lo v z G)(A:dR I w.heap.size x l):∀y∈z,y.ownBlock=none∨y.ownBlock≠x.ownBlock:=by
 intro y E;cases hb:y.ownBlock with
 |none=>exact .inl rfl
 |some g=>
  refine .inr fun e=> ?_;have J:=h.lt y E g hb;have K:=(OF A g e.symm).1;omega
theorem Es(v:Value)(D:dO)(w:World)(ah:D.nodes.length≤1048576)(ai:D.names.length≤1048576)(aj:D.kept.length≤1048576)(ak:D.pend.length≤1048576)(aa:∀e∈D.nodes,e.1.length≤1048576)(hr:ji w v D):
  Calls prog 6 #[v] w fun e w'=>∃x,e= .returned x∧Hm w' w.heap.size x D∧Below w.heap.size w w':=by
 obtain⟨a1,c1,a2,c2,a3,c3,a4,c4,rfl,Z,r2,r3,r4⟩:=hr;have ad:=a8 Z;have ae:=a8 r2;have af:=a8 r3;have ag:=a8 r4;have ac:=a8 aa;clear Z r2 r3 r4 aa;go_enter func6,ntmps6;go_wp2_with fail;have z:=a8 (TD.start w (dkA a1 c1 a2 c2 a3 c3 a4 c4 D) #[sN,sN,sN,sN,.int .i64 0] #[sN,sN,sN,sN,.int .i64 0]);generalize (((w.alloc (.cells (dkA a1 c1 a2 c2 a3 c3 a4 c4 D) 26)).alloc (.cells #[sN,sN,sN,sN,.int .i64 0] 34)).alloc (.cells #[sN,sN,sN,sN,.int .i64 0] 34))=w1 at z⊢;have A:=a8 (z.2.2.2.2);refine(Ch a1 c1 D.nodes w1 ah ac (ad.below z.2.2.2.1)).mono ?_;rintro e y1 ⟨rfl,N,I⟩;replace z:=a8 (z.below I);have G:=a8 (N.mono (base':=w.heap.size+3) (A.out));generalize w1.heap.size=O at G⊢;clear N I A;have A:=a8 (z.2.2.2.2);have U:y1.cell? ⟨w.heap.size+1+1,0,none⟩=some (sN):=(by rw[z.2.2.1.cell];rfl);have V:=OO y1 (w.heap.size+1+1) 0 _ _ z.2.2.1;have Y:y1.cell? ⟨w.heap.size,1,none⟩=some (.slice a2 D.names.length c2):=(by rw[z.1.cell];rfl);go_wp2_with fail;clear U V Y;replace z:=a8 (z.setOut 0 (sS O D.nodes.length D.nodes.length));replace G:=a8 (G.out.set_low (p:=⟨w.heap.size+1+1,0,none⟩) (by simp) (sS O D.nodes.length D.nodes.length));generalize y1.setCell ⟨w.heap.size+1+1,0,none⟩ (sS O D.nodes.length D.nodes.length)=w2 at z G⊢;clear A;have A:=a8 (z.2.2.2.2);refine(qo a2 c2 D.names w2 ai (ae.below z.2.2.2.1)).mono ?_;rintro e y2 ⟨rfl,N,I⟩;replace z:=a8 (z.below I);have J:=a8 (N.mono (base':=w.heap.size+3) (A.out));replace G:=a8 (G.out.below I);generalize w2.heap.size=L at J⊢;clear N I A;have A:=a8 (z.2.2.2.2);have U:y2.cell? ⟨w.heap.size+1+1,1,none⟩=some (sN):=(by rw[z.2.2.1.cell];rfl);have V:=OO y2 (w.heap.size+1+1) 1 _ _ z.2.2.1;have Y:y2.cell? ⟨w.heap.size,2,none⟩=some (.slice a3 D.kept.length c3):=(by rw[z.1.cell];rfl);go_wp2_with fail;clear U V Y;replace z:=a8 (z.setOut 1 (sS L D.names.length D.names.length));replace G:=a8 (G.out.set_low (p:=⟨w.heap.size+1+1,1,none⟩) (by simp) (sS L D.names.length D.names.length));replace J:=a8 (J.out.set_low (p:=⟨w.heap.size+1+1,1,none⟩) (by simp) (sS L D.names.length D.names.length));generalize y2.setCell ⟨w.heap.size+1+1,1,none⟩ (sS L D.names.length D.names.length)=w3 at z G J⊢;clear A;have A:=a8 (z.2.2.2.2);refine(qo a3 c3 D.kept w3 aj (af.below z.2.2.2.1)).mono ?_;rintro e y3 ⟨rfl,N,I⟩;replace z:=a8 (z.below I);have Q:=a8 (N.mono (base':=w.heap.size+3) (A.out));replace G:=a8 (G.out.below I);replace J:=a8 (J.out.below I);generalize w3.heap.size=K at Q⊢;clear N I A;have A:=a8 (z.2.2.2.2);have U:y3.cell? ⟨w.heap.size+1+1,2,none⟩=some (sN):=(by rw[z.2.2.1.cell];rfl);have V:=OO y3 (w.heap.size+1+1) 2 _ _ z.2.2.1;have Y:y3.cell? ⟨w.heap.size,3,none⟩=some (.slice a4 D.pend.length c4):=(by rw[z.1.cell];rfl);go_wp2_with fail;clear U V Y;replace z:=a8 (z.setOut 2 (sS K D.kept.length D.kept.length));replace G:=a8 (G.out.set_low (p:=⟨w.heap.size+1+1,2,none⟩) (by simp) (sS K D.kept.length D.kept.length));replace J:=a8 (J.out.set_low (p:=⟨w.heap.size+1+1,2,none⟩) (by simp) (sS K D.kept.length D.kept.length));replace Q:=a8 (Q.out.set_low (p:=⟨w.heap.size+1+1,2,none⟩) (by simp) (sS K D.kept.length D.kept.length));generalize y3.setCell ⟨w.heap.size+1+1,2,none⟩ (sS K D.kept.length D.kept.length)=w4 at z G J Q⊢;clear A;have A:=a8 (z.2.2.2.2);refine(zB a4 c4 D.pend w4 ak (ag.below z.2.2.2.1)).mono ?_;rintro e E ⟨rfl,N,I⟩;replace z:=a8 (z.below I);have ab:=a8 (N.mono (base':=w.heap.size+3) (A.out));replace G:=a8 (G.out.below I);replace J:=a8 (J.out.below I);replace Q:=a8 (Q.out.below I);generalize w4.heap.size=M at ab⊢;clear N I A;have A:=a8 (z.2.2.2.2);have U:E.cell? ⟨w.heap.size+1+1,3,none⟩=some (sN):=(by rw[z.2.2.1.cell];rfl);have V:=OO E (w.heap.size+1+1) 3 _ _ z.2.2.1;have Y:E.cell? ⟨w.heap.size,4,none⟩=some (.int .i64 D.quota):=(by rw[z.1.cell];rfl);have q4:E.cell? ⟨w.heap.size+1+1,4,none⟩=some (.int .i64 0):=(by rw[z.2.2.1.cell];rfl);have q5:=OO E (w.heap.size+1+1) 4 _ _ z.2.2.1;have k0:E.cell? ⟨w.heap.size+1+1,0,none⟩=some (sS O D.nodes.length D.nodes.length):=(by rw[z.2.2.1.cell];rfl);have k1:E.cell? ⟨w.heap.size+1+1,1,none⟩=some (sS L D.names.length D.names.length):=(by rw[z.2.2.1.cell];rfl);have k2:E.cell? ⟨w.heap.size+1+1,2,none⟩=some (sS K D.kept.length D.kept.length):=(by rw[z.2.2.1.cell];rfl);have m0:E.cell? ⟨w.heap.size+1,0,none⟩=some (sN):=(by rw[z.2.1.cell];rfl);have n0:=OO E (w.heap.size+1) 0 _ _ z.2.1;have m1:E.cell? ⟨w.heap.size+1,1,none⟩=some (sN):=(by rw[z.2.1.cell];rfl);have n1:=OO E (w.heap.size+1) 1 _ _ z.2.1;have m2:E.cell? ⟨w.heap.size+1,2,none⟩=some (sN):=(by rw[z.2.1.cell];rfl);have n2:=OO E (w.heap.size+1) 2 _ _ z.2.1;have m3:E.cell? ⟨w.heap.size+1,3,none⟩=some (sN):=(by rw[z.2.1.cell];rfl);have n3:=OO E (w.heap.size+1) 3 _ _ z.2.1;have m4:E.cell? ⟨w.heap.size+1,4,none⟩=some (.int .i64 0):=(by rw[z.2.1.cell];rfl);have n4:=OO E (w.heap.size+1) 4 _ _ z.2.1;go_wp2;have R:=(((((((z.setOut 3 (sS M D.pend.length D.pend.length)).setOut 4 (.int .i64 D.quota)).setRes 0 (sS O D.nodes.length D.nodes.length)).setRes 1 (sS L D.names.length D.names.length)).setRes 2 (sS K D.kept.length D.kept.length)).setRes 3 (sS M D.pend.length D.pend.length)).setRes 4 (.int .i64 D.quota))
 have p1:=(((((((G.out.set_low (p:=⟨w.heap.size+1+1,3,none⟩) (by simp) (sS M D.pend.length D.pend.length)).set_low (p:=⟨w.heap.size+1+1,4,none⟩) (by simp) (.int .i64 D.quota)).set_low (p:=⟨w.heap.size+1,0,none⟩) (by simp) (sS O D.nodes.length D.nodes.length)).set_low (p:=⟨w.heap.size+1,1,none⟩) (by simp) (sS L D.names.length D.names.length)).set_low (p:=⟨w.heap.size+1,2,none⟩) (by simp) (sS K D.kept.length D.kept.length)).set_low (p:=⟨w.heap.size+1,3,none⟩) (by simp) (sS M D.pend.length D.pend.length)).set_low (p:=⟨w.heap.size+1,4,none⟩) (by simp) (.int .i64 D.quota))
 have p2:=(((((((J.out.set_low (p:=⟨w.heap.size+1+1,3,none⟩) (by simp) (sS M D.pend.length D.pend.length)).set_low (p:=⟨w.heap.size+1+1,4,none⟩) (by simp) (.int .i64 D.quota)).set_low (p:=⟨w.heap.size+1,0,none⟩) (by simp) (sS O D.nodes.length D.nodes.length)).set_low (p:=⟨w.heap.size+1,1,none⟩) (by simp) (sS L D.names.length D.names.length)).set_low (p:=⟨w.heap.size+1,2,none⟩) (by simp) (sS K D.kept.length D.kept.length)).set_low (p:=⟨w.heap.size+1,3,none⟩) (by simp) (sS M D.pend.length D.pend.length)).set_low (p:=⟨w.heap.size+1,4,none⟩) (by simp) (.int .i64 D.quota))
 have p3:=(((((((Q.out.set_low (p:=⟨w.heap.size+1+1,3,none⟩) (by simp) (sS M D.pend.length D.pend.length)).set_low (p:=⟨w.heap.size+1+1,4,none⟩) (by simp) (.int .i64 D.quota)).set_low (p:=⟨w.heap.size+1,0,none⟩) (by simp) (sS O D.nodes.length D.nodes.length)).set_low (p:=⟨w.heap.size+1,1,none⟩) (by simp) (sS L D.names.length D.names.length)).set_low (p:=⟨w.heap.size+1,2,none⟩) (by simp) (sS K D.kept.length D.kept.length)).set_low (p:=⟨w.heap.size+1,3,none⟩) (by simp) (sS M D.pend.length D.pend.length)).set_low (p:=⟨w.heap.size+1,4,none⟩) (by simp) (.int .i64 D.quota))
 have p4:=(((((((ab.out.set_low (p:=⟨w.heap.size+1+1,3,none⟩) (by simp) (sS M D.pend.length D.pend.length)).set_low (p:=⟨w.heap.size+1+1,4,none⟩) (by simp) (.int .i64 D.quota)).set_low (p:=⟨w.heap.size+1,0,none⟩) (by simp) (sS O D.nodes.length D.nodes.length)).set_low (p:=⟨w.heap.size+1,1,none⟩) (by simp) (sS L D.names.length D.names.length)).set_low (p:=⟨w.heap.size+1,2,none⟩) (by simp) (sS K D.kept.length D.kept.length)).set_low (p:=⟨w.heap.size+1,3,none⟩) (by simp) (sS M D.pend.length D.pend.length)).set_low (p:=⟨w.heap.size+1,4,none⟩) (by simp) (.int .i64 D.quota))
 have r0:=R.2.1.cell 0;have Z:=R.2.1.cell 1;have r2:=R.2.1.cell 2;have r3:=R.2.1.cell 3;have r4:=R.2.1.cell 4;simp at r0 Z r2 r3 r4;refine OJ (v:= .agg #[sS O D.nodes.length D.nodes.length,sS L D.names.length D.names.length,sS K D.kept.length D.kept.length,sS M D.pend.length D.pend.length,.int .i64 D.quota]) (by simp[results,results6,go_sem,r0,Z,r2,r3,r4]) rfl ⟨_,rfl,⟨_,_,_,_,rfl,p1.mono (by omega),p2.mono (by omega),p3.mono (by omega),p4.mono (by omega)⟩,R.2.2.2.1⟩
theorem yf(s:BA)(n:Int)(w:World):
  Calls prog 64 #[.agg #[.string s,.int .i64 n],.agg #[.string s,.int .i64 n]] w fun e w'=>e= .returned (.bool true)∧Below w.heap.size w w':=by
 go_enter func64,ntmps64;go_wp2;go_ret;exact⟨rfl,((OX _ _).alloc (OV _) _).alloc (by simp) _⟩
theorem oR(a Q:OA)(cap Y:Nat)(z:List (BA×Int))(w:World)(hl:z.length≤9223372036854775807)(V:fI w a z)(N:fI w Q z):
  Calls prog 32 #[.slice a z.length cap,.slice Q z.length Y] w fun e w'=>e= .returned (.bool true)∧Below w.heap.size w w':=by
 go_enter func32,ntmps32;go_wp2;go_loopw [5] (fun i wr=>∃k:Nat,k≤z.length∧i= .int .i64 k∧Below w.heap.size w wr) (fun i _=>z.length-(intOf i).toNat)
 case atStart=>exact⟨0,O4 _,rfl,OX _ _⟩
 case round=>
  obtain⟨k,hk,rfl,A⟩:=hrel;by_cases M:k<z.length
  ·obtain⟨b,ab,rfl,U⟩:=(V.below A) (by omega)
   obtain⟨b',aa,rfl,G⟩:=(N.below A) (by omega)
   obtain⟨I,J⟩:=U k M;obtain⟨K,L⟩:=G k M;have O:=a8 A;clear U G V N A;generalize z[k].1=s0 at I K;generalize z[k].2=n0 at J L;go_wp2;go_region_with (go_at_call 64;refine(yf s0 n0 _).mono ?_;rintro e w2 ⟨rfl,R⟩)
   all_goals
    have E:Below w.heap.size w w2:=O.drew.trans (R.mono O.size);have Z:=a8 E;clear E R I J K L;go_wp2;go_roundw
    case rel=>exact⟨k+1,by omega,by go_num,Z⟩
    case measure=>simp[intOf];omega
  ·go_wp2;go_ret;exact⟨rfl,A⟩
theorem ye(k:Int)(s t:BA)(n:Int)(w:World):
  Calls prog 65 #[.agg #[.int .i64 k,.string s,.string t,.int .i64 n],.agg #[.int .i64 k,.string s,.string t,.int .i64 n]] w fun e w'=>e= .returned (.bool true)∧Below w.heap.size w w':=by
 go_enter func65,ntmps65;go_wp2;go_ret;exact⟨rfl,((OX _ _).alloc (OV _) _).alloc (by simp) _⟩
theorem vz(a V:OA)(cap aa:Nat)(z:List (Int×BA×BA×Int))(w:World)(hl:z.length≤9223372036854775807)(hr:o9 w a z)(R:o9 w V z):
  Calls prog 33 #[.slice a z.length cap,.slice V z.length aa] w fun e w'=>e= .returned (.bool true)∧Below w.heap.size w w':=by
 go_enter func33,ntmps33;go_wp2;go_loopw [5] (fun i wr=>∃k:Nat,k≤z.length∧i= .int .i64 k∧Below w.heap.size w wr) (fun i _=>z.length-(intOf i).toNat)
 case atStart=>exact⟨0,O4 _,rfl,OX _ _⟩
 case round=>
  obtain⟨k,hk,rfl,A⟩:=hrel;by_cases Q:k<z.length
  ·obtain⟨b,ad,rfl,Z⟩:=(hr.below A) (by omega)
   obtain⟨b',ac,rfl,G⟩:=(R.below A) (by omega)
   obtain⟨I,J,K,L⟩:=Z k Q;obtain⟨M,N,hd2,O⟩:=G k Q;have U:=a8 A;clear Z G hr R A;generalize z[k].1=k0 at I M;generalize z[k].2.1=s0 at J N;generalize z[k].2.2.1=t0 at K hd2;generalize z[k].2.2.2=n0 at L O;go_wp2;go_region_with (go_at_call 65;refine(ye k0 s0 t0 n0 _).mono ?_;rintro e w2 ⟨rfl,Y⟩)
   all_goals
    have E:Below w.heap.size w w2:=U.drew.trans (Y.mono U.size);have ab:=a8 E;clear E Y I J K L M N hd2 O;go_wp2;go_roundw
    case rel=>exact⟨k+1,by omega,by go_num,ab⟩
    case measure=>simp[intOf];omega
  ·go_wp2;go_ret;exact⟨rfl,A⟩
theorem Ag(a A:OA)(l:LN)(cap E:Nat)(z:Int)(w:World)(hl:l.length≤9223372036854775807)(V:dW w a l)(Q:dW w A l):
  Calls prog 63 #[.agg #[.slice a l.length cap,.int .i64 z],.agg #[.slice A l.length E,.int .i64 z]] w fun e w'=>e= .returned (.bool true)∧Below w.heap.size w w':=by
 have J:∀G I:Obj,Below w.heap.size w ((w.alloc G).alloc I):=fun _ _=>((OX _ _).alloc (OV _) _).alloc (by simp) _;have U:=a8 (fun G I=>V.below (J G I));have O:=a8 (fun G I=>Q.below (J G I));have R:=a8 J;clear J V Q;go_enter func63,ntmps63;go_wp2_with fail;refine(rD a A cap E l l _ hl (U.out _ _) (O.out _ _)).mono ?_;rintro e w2 ⟨rfl,n,rfl⟩;rw[ON (rfl:l=l)];have Y:ed ((w.alloc (.cells #[.slice a l.length cap,.int .i64 z] 99)).alloc (.cells #[.slice A l.length E,.int .i64 z] 99)) w.heap.size #[.slice a l.length cap,.int .i64 z] 99:=ed.below (B:=w.heap.size+1) (ed.new w _ _) ((OX _ _).alloc (by simp) _) (by omega);have N:=ed.new (w.alloc (.cells #[.slice a l.length cap,.int .i64 z] 99)) #[.slice A l.length E,.int .i64 z] 99;rw[show(w.alloc (.cells #[.slice a l.length cap,.int .i64 z] 99)).heap.size=w.heap.size+1 from by simp] at N;have K:=OI (R.out (.cells #[.slice a l.length cap,.int .i64 z] 99) (.cells #[.slice A l.length E,.int .i64 z] 99)) n;have L:ed (((w.alloc (.cells #[.slice a l.length cap,.int .i64 z] 99)).alloc (.cells #[.slice A l.length E,.int .i64 z] 99)).drewN n) w.heap.size #[.slice a l.length cap,.int .i64 z] 99:=by
  have h:=OI (OX (w.heap.size+1) ((w.alloc (.cells #[.slice a l.length cap,.int .i64 z] 99)).alloc (.cells #[.slice A l.length E,.int .i64 z] 99))) n;exact Y.below h (by omega)
 have M:ed (((w.alloc (.cells #[.slice a l.length cap,.int .i64 z] 99)).alloc (.cells #[.slice A l.length E,.int .i64 z] 99)).drewN n) (w.heap.size+1) #[.slice A l.length E,.int .i64 z] 99:=by
  have h:=OI (OX (w.heap.size+2) ((w.alloc (.cells #[.slice a l.length cap,.int .i64 z] 99)).alloc (.cells #[.slice A l.length E,.int .i64 z] 99))) n;exact N.below h (by omega)
 generalize (((w.alloc (.cells #[.slice a l.length cap,.int .i64 z] 99)).alloc (.cells #[.slice A l.length E,.int .i64 z] 99)).drewN n)=Z at K L M⊢;have q0:Z.cell? ⟨w.heap.size,1,none⟩=some (.int .i64 z):=(by rw[L.cell];rfl);have q1:Z.cell? ⟨w.heap.size+1,1,none⟩=some (.int .i64 z):=(by rw[M.cell];rfl);have HN:=a8 K;clear Y N L M K U O R;go_wp2;go_ret;exact⟨rfl,HN⟩
theorem yg(a a':OA)(cap aa:Nat)(z:List (LN×Int))(w:World)(hl:z.length≤9223372036854775807)(V:∀e∈z,e.1.length≤9223372036854775807)(hr:ja w a z)(Y:ja w a' z):
  Calls prog 31 #[.slice a z.length cap,.slice a' z.length aa] w fun e w'=>e= .returned (.bool true)∧Below w.heap.size w w':=by
 go_enter func31,ntmps31;go_wp2;go_loopw [5] (fun i wr=>∃k:Nat,k≤z.length∧i= .int .i64 k∧Below w.heap.size w wr) (fun i _=>z.length-(intOf i).toNat)
 case atStart=>exact⟨0,O4 _,rfl,OX _ _⟩
 case round=>
  obtain⟨k,hk,rfl,A⟩:=hrel;by_cases E:k<z.length
  ·obtain⟨b,af,rfl,hc⟩:=(hr.below A) (by omega)
   obtain⟨b',ae,rfl,M⟩:=(Y.below A) (by omega)
   obtain⟨ai,ci,N,O,Z⟩:=hc k E;obtain⟨ac,ad,Q,R,J⟩:=M k E;have U:=V _ (O6 E);have L:=a8 Z;have G:=a8 J;have K:=a8 U;have HN:=a8 A;clear hc M hr Y A Z J U V;generalize z[k].1=l0 at N Q L G K;generalize z[k].2=n0 at O R;go_wp2;go_region_with (go_at_call 63;refine(Ag ai ac l0 ci ad n0 _ K (L.drew 1) (G.drew 1)).mono ?_;rintro e w2 ⟨rfl,hb⟩)
   all_goals
    have I:Below w.heap.size w w2:=HN.drew.trans (hb.mono HN.size);have ab:=a8 I;clear I hb N O Q R;go_wp2;go_roundw
    case rel=>exact⟨k+1,by omega,by go_num,ab⟩
    case measure=>simp[intOf];omega
  ·go_wp2;go_ret;exact⟨rfl,A⟩
def TE(w wj:World)(B:Nat)(A A':Array Value):Prop:=ed wj B A 34∧ed wj (B+1) A' 34∧Below B w wj
theorem TE.start(w:World)(A z:Array Value):TE w ((w.alloc (.cells A 34)).alloc (.cells z 34)) w.heap.size A z:=by
 refine⟨ed.below (B:=w.heap.size+1) (ed.new w _ _) ((OX _ _).alloc (by simp) _) (by omega),?_,(nAl w _).alloc (by simp) _⟩;have h:=ed.new (w.alloc (.cells A 34)) z 34;rw[show(w.alloc (.cells A 34)).heap.size=w.heap.size+1 from by simp] at h;exact h
theorem TE.below{G:World}{A I:Array Value}(h:TE w G B A I)(E:Below G.heap.size G w'):TE w w' B A I:=by
 obtain⟨z,J,K⟩:=h;exact⟨z.below E z.lt,J.below E J.lt,K.trans (E.mono (Nat.le_of_lt z.lt))⟩
theorem Af(v v':Value)(D:dO)(w:World)(al:D.nodes.length≤1048576)(am:D.names.length≤1048576)(an:D.kept.length≤1048576)(ao:D.pend.length≤1048576)(aa:∀e∈D.nodes,e.1.length≤1048576)(hr:ji w v D)(ak:ji w v' D):
  Calls prog 9 #[v,v'] w fun e w'=>e= .returned (.bool true)∧Below w.heap.size w w':=by
 obtain⟨Y,Z,I,N,J,O,K,Q,rfl,r1,r2,r3,r4⟩:=hr;obtain⟨b1,d1,b2,R,L,U,M,V,rfl,s1,s2,s3,s4⟩:=ak;have ac:=a8 r1;have ad:=a8 r2;have ae:=a8 r3;have af:=a8 r4;have ag:=a8 s1;have ah:=a8 s2;have ai:=a8 s3;have aj:=a8 s4;have ab:=a8 (fun e he=>O0 (aa e he) (by decide:1048576≤9223372036854775807));clear r1 r2 r3 r4 s1 s2 s3 s4 aa;go_enter func9,ntmps9;go_wp2_with fail;have z:=a8 (TE.start w (dkA Y Z I N J O K Q D) (dkA b1 d1 b2 R L U M V D));generalize ((w.alloc (.cells (dkA Y Z I N J O K Q D) 34)).alloc (.cells (dkA b1 d1 b2 R L U M V D) 34))=w1 at z⊢;refine(yg Y b1 Z d1 D.nodes w1 (by omega) ab (ac.below z.2.2) (ag.below z.2.2)).mono ?_;rintro e w2 ⟨rfl,A⟩;replace z:=a8 (z.below A);clear A;have E:w2.cell? ⟨w.heap.size,1,none⟩=some (.slice I D.names.length N):=(by rw[z.1.cell];rfl);have G:w2.cell? ⟨w.heap.size+1,1,none⟩=some (.slice b2 D.names.length R):=(by rw[z.2.1.cell];rfl);go_wp2_with fail;clear E G;refine(oR I b2 N R D.names w2 (by omega) (ad.below z.2.2) (ah.below z.2.2)).mono ?_;rintro e w3 ⟨rfl,A⟩;replace z:=a8 (z.below A);clear A;have E:w3.cell? ⟨w.heap.size,2,none⟩=some (.slice J D.kept.length O):=(by rw[z.1.cell];rfl);have G:w3.cell? ⟨w.heap.size+1,2,none⟩=some (.slice L D.kept.length U):=(by rw[z.2.1.cell];rfl);go_wp2_with fail;clear E G;refine(oR J L O U D.kept w3 (by omega) (ae.below z.2.2) (ai.below z.2.2)).mono ?_;rintro e w4 ⟨rfl,A⟩;replace z:=a8 (z.below A);clear A;have E:w4.cell? ⟨w.heap.size,3,none⟩=some (.slice K D.pend.length Q):=(by rw[z.1.cell];rfl);have G:w4.cell? ⟨w.heap.size+1,3,none⟩=some (.slice M D.pend.length V):=(by rw[z.2.1.cell];rfl);go_wp2_with fail;clear E G;refine(vz K M Q V D.pend w4 (by omega) (af.below z.2.2) (aj.below z.2.2)).mono ?_;rintro e w5 ⟨rfl,A⟩;replace z:=a8 (z.below A);clear A;have E:w5.cell? ⟨w.heap.size,4,none⟩=some (.int .i64 D.quota):=(by rw[z.1.cell];rfl);have G:w5.cell? ⟨w.heap.size+1,4,none⟩=some (.int .i64 D.quota):=(by rw[z.2.1.cell];rfl);go_wp2;go_ret;exact⟨rfl,z.2.2⟩
section
variable {P:Program} {ops:Array Oper} {Q:Exit→Act→World→Prop} {md:Region.Mode} {S:World→Prop} {k:Nat}
def nF(P:Program)(md:Region.Mode)(ops:Array Oper)(Q:Exit→Act→World→Prop)(S:World→Prop)(k:Nat):Nat→Array Bool→Act→World→Prop
 |0,listed,a,w=>Region.ready md ops listed=[]∧Q .normal a w
 |fuel+1,listed,a,w=>
  (Region.ready md ops listed=[]→Q .normal a w)∧
  ∀i∈Region.ready md ops listed,wpOp P ops Q i (fun a' w'=>((listed.setIfInBounds i true).getD k true=false→S w')∧nF P md ops Q S k fuel (listed.setIfInBounds i true) a' w') a w
theorem zK:∀(fuel:Nat) (z:Array Bool) (a:Act) (w:World),nF P md ops Q S k fuel z a w→wpAny P md ops Q fuel z a w
 |0,_,_,_,h=>h
 |fuel+1,_,_,_,h=>⟨h.1,fun i hi=>wpOp_mono (fun A w' E=>zK fuel _ A w' E.2) (h.2 i hi)⟩
def oi(md:Region.Mode)(ops:Array Oper)(listed:Array Bool):Prop:=∀j o,ops[j]? =some o→listed.getD j true=true→∀e∈o.after,Region.binds md e=true→listed.getD e.on false=true
def sL(md:Region.Mode)(ops:Array Oper)(listed:Array Bool):Bool:=
 (List.range ops.size).all fun j=>match ops[j]? with
  |some o=> !(listed.getD j true)||o.after.all fun e=> !(Region.binds md e)||listed.getD e.on false
  |none=>true
theorem x9{E:Array Bool}(h:sL md ops E=true):oi md ops E:=by
 intro j o A L e J I;have K:j<ops.size:=by
  rcases PV j ops.size with h|h
  ·exact h
  ·rw[Array.getElem?_eq_none h] at A;cases A
 have z:=List.all_eq_true.1 h j (List.mem_range.2 K);rw[A] at z;simp only[L,Bool.not_true,Bool.false_or] at z;have G:=Array.all_eq_true'.1 z e J;simpa[I] using G
theorem oi.set{z:Array Bool}{i:Nat}(h:oi md ops z)(M:i∈Region.ready md ops z):oi md ops (z.setIfInBounds i true):=by
 intro j o K J e I G;by_cases A:i=j
 ·subst A;obtain⟨_,N,E,L⟩:=mem_ready.1 M;rw[K] at E;cases E;exact getD_set_true (L e I G)
 ·rw[getD_set_ne true A] at J;exact getD_set_true (h j o K J e I G)
def pv(md:Region.Mode)(ops:Array Oper)(i:Nat):Nat→Nat→Bool
 |0,_=>false
 |n+1,k=>match ops[k]? with
  |some o=>o.after.any fun e=>Region.binds md e&&(e.on==i||pv md ops i n e.on)
  |none=>false
theorem oe{z:Array Bool}{i:Nat}(J:oi md ops z):∀(n k:Nat),pv md ops i n k=true→(∀o,ops[k]? =some o→∀e∈o.after,Region.binds md e=true→z.getD e.on false=true)→z.getD i false=true
 |0,_,h,_=>by cases h
 |n+1,k,h,ha=>by
  unfold pv at h;cases ho:ops[k]? with
  |none=>rw[ho] at h;cases h
  |some o=>
   rw[ho] at h;simp only[Array.any_eq_true'] at h;obtain⟨e,O,E⟩:=h;rw[Bool.and_eq_true,Bool.or_eq_true] at E;have I:=ha o ho e O E.1;rcases E.2 with G|G
   ·have:=eq_of_beq G;rw[←this];exact I
   ·refine oe J n e.on G (fun Q M N L K=>J e.on Q M ?_ N L K);rcases PV e.on z.size with A|A
    ·simpa[A] using I
    ·simp[Array.getElem?_eq_none A] at I
theorem Cv{i:Nat}{L:Oper}{v:Value}(hi:ops[i]? =some L)(ah:∀(j:Nat) (o:Oper) cs b,ops[j]? =some o→o.op≠.select cs b)
  (hQ:∀c a w,Q (.panic c) (a.put L.dst v) w→Q (.panic c) a w) (n:Nat) (ak:pv md ops i n k=true):
  ∀(fuel:Nat) (z:Array Bool) (a:Act) (w:World),
   (∀j M,ops[j]? =some M→j≠i→z.getD j true=false→(∀e∈M.after,Region.binds md e=true→e.on≠i)→L.apart ops M=true)→
   i∈Region.ready md ops z→YieldsIf P ops S L v a→S w→oi md ops z→z.getD k true=false→
   nF P md ops Q S k fuel (z.setIfInBounds i true) (a.put L.dst v) w→nF P md ops Q S k (fuel+1) z a w:=by
 intro fuel
 induction fuel with
 |zero=>
  intro z a w _ E Z O _ _ H;refine⟨fun h=>(by rw[h] at E;cases E),fun j R=> ?_⟩;by_cases I:j=i
  ·subst I;exact Z.wpOp hi O ⟨fun _=>O,H⟩
  ·have:=ready_mono R I;rw[H.1] at this;cases this
 |succ fuel ih=>
  intro z a w ad E Z O ab ai H;refine⟨fun h=>(by rw[h] at E;cases E),fun j R=> ?_⟩;by_cases I:j=i
  ·subst I;exact Z.wpOp hi O ⟨fun _=>O,H⟩
  ·have K:=H.2 j (ready_mono R I);obtain⟨af,M,V,ae⟩:=mem_ready.1 R;have an:∀e∈M.after,Region.binds md e=true→e.on≠i:=fun e he hb ao=>by
    have K:=ae e he hb;have J:=(mem_ready.1 E).1;rw[ao] at K;rcases PV i z.size with A|A
    ·simp[A] at J K;rw[J] at K;cases K
    ·simp[Array.getElem?_eq_none A] at K
   have N:j≠k:=fun e=>by
    have G:=oe ab n k ak (fun o U e' ac aa=>by
     rw[←e,V] at U;cases U;exact ae e' ac aa)
    have J:=(mem_ready.1 E).1;rcases PV i z.size with A|A
    ·simp[A] at J G;rw[J] at G;cases G
    ·simp[Array.getElem?_eq_none A] at G
   have ap:i≠k:=fun e=>by
    subst e;have G:=oe ab n i ak (fun o U e' ac aa=>by
     obtain⟨_,o',av,am⟩:=mem_ready.1 E;rw[av] at U;cases U;exact am e' ac aa)
    have J:=(mem_ready.1 E).1;rcases PV i z.size with A|A
    ·simp[A] at J G;rw[J] at G;cases G
    ·simp[Array.getElem?_eq_none A] at G
   have ar:(z.setIfInBounds j true).getD k true=false:=(by rw[getD_set_ne true N];exact ai);have ag:((z.setIfInBounds i true).setIfInBounds j true).getD k true=false:=(by rw[getD_set_ne true N,getD_set_ne true ap];exact ai);have h2:=wpOp_putIf V (ad j M V I af an) (fun cs b=>ah i L cs b hi) (fun cs b=>ah j M cs b V) hQ Z K;have al:∀k ok,ops[k]? =some ok→k≠i→(z.setIfInBounds j true).getD k true=false→
     (∀e∈ok.after,Region.binds md e=true→e.on≠i)→L.apart ops ok=true:=fun k ok hk aq aj au=>by
    refine ad k ok hk aq ?_ au;by_cases N:j=k
    ·subst N;exact af
    ·rw[getD_set_ne true N] at aj;exact aj
   refine wpOp_mono (fun a' w' Y=>⟨fun _=>Y.2.1 ag,ih (z.setIfInBounds j true) a' w' al (ready_mono E (Ne.symm I)) Y.1 (Y.2.1 ag) (ab.set R) ar ?_⟩) h2;rw[Array.setIfInBounds_comm _ _ I];exact Y.2.2
theorem wD(i:Nat){A:Oper}(v:Value){E:Nat}{z:Array Bool}{a:Act}{w:World}(hi:ops[i]? =some A)
  (O:Region.noSelect ops=true) (L:Region.free md ops z i=true) (N:(Region.ready md ops z).contains i=true)
  (I:pv md ops i 16 k=true) (G:sL md ops z=true) (M:z.getD k true=false)
  (J:∀c a w,Q (.panic c) (a.put A.dst v) w→Q (.panic c) a w) (R:YieldsIf P ops S A v a) (K:S w)
  (h:nF P md ops Q S k E (z.setIfInBounds i true) (a.put A.dst v) w):nF P md ops Q S k (E+1) z a w:=
 Cv hi (Region.noSelect_spec O) J 16 I E z a w (Region.free_spec hi L) (by simpa using N) R K (x9 G) M h
theorem OB(i:Nat){A:Oper}(v:Value){E:Nat}{z:Array Bool}{a:Act}{w:World}(hi:ops[i]? =some A)(J:∀c a w,Q (.panic c) (a.put A.dst v) w→Q (.panic c) a w)(R:YieldsIf P ops S A v a)(K:S w)(h:nF P md ops Q S k E (z.setIfInBounds i true) (a.put A.dst v) w)(O:Region.noSelect ops=true:=by kernel_rfl)(L:Region.free md ops z i=true:=by kernel_rfl)(N:(Region.ready md ops z).contains i=true:=by kernel_rfl)(I:pv md ops i 16 k=true:=by kernel_rfl)(G:sL md ops z=true:=by kernel_rfl)(M:z.getD k true=false:=by kernel_rfl):nF P md ops Q S k (E+1) z a w:=wD i v hi O L N I G M J R K h
theorem dZ(i:Nat){A:Oper}(v:Value){E:Nat}{z:Array Bool}{a:Act}{w:World}(hi:ops[i]? =some A)(K:S w)(U:∀w,S w→(execOp a.eval A).run P w= .ok (.value v) w)(h:nF P md ops Q S k E (z.setIfInBounds i true) (a.put A.dst v) w)(R:Region.wanted A (yielded ops a.tmps)=true:=by rfl)(J:∀c a w,Q (.panic c) (a.put A.dst v) w→Q (.panic c) a w:=by exact fun _ _ _ h=>h)(O:Region.noSelect ops=true:=by kernel_rfl)(L:Region.free md ops z i=true:=by kernel_rfl)(N:(Region.ready md ops z).contains i=true:=by kernel_rfl)(I:pv md ops i 16 k=true:=by kernel_rfl)(G:sL md ops z=true:=by kernel_rfl)(M:z.getD k true=false:=by kernel_rfl):nF P md ops Q S k (E+1) z a w:=wD i v hi O L N I G M J (Or.inl ⟨R,U⟩) K h
theorem dI(a:Act)(d:Option Tmp)(v:Value):a.put d v=match d with
 |some t=>{a with tmps:=a.tmps.setIfInBounds t v}
 |none=>a:=rfl
theorem dJ{α:Type}(l:List α)(i:Nat)(a:α):l.toArray.setIfInBounds i a=(l.set i a).toArray:=PI ..
theorem dK{α:Type}(x:α)(l:List α)(a:α):(x::l).set 0 a=a::l:=rfl
theorem dL{α:Type}(x:α)(l:List α)(n:Nat)(a:α):(x::l).set (n+1) a=x::l.set n a:=rfl
theorem dY(i:Nat){o:Oper}{E:Nat}{z:Array Bool}{a:Act}{w:World}(hi:ops[i]? =some o)(J:Region.ready md ops z=[i])
  (h:∀K:Act→World→Prop,(∀A w',((z.setIfInBounds i true).getD k true=false→S w')→nF P md ops Q S k E (z.setIfInBounds i true) A w'→K A w')→if Region.wanted o (yielded ops a.tmps)=true then Oper.wp P o a w K Q else K (a.put o.dst undef) w):nF P md ops Q S k (E+1) z a w:=by
 refine⟨fun G=>(by rw[J] at G;cases G),fun j I=> ?_⟩;rw[J,Ph] at I;subst I;exact wpOp_step hi (fun L O=>h L (fun A w' M N=>O A w' ⟨M,N⟩))
theorem fe{z:Array Bool}{a:Act}{w:World}(A:Region.ready md ops z=[])(h:Q .normal a w):
  ∀E,nF P md ops Q S k E z a w
 |0=>⟨A,h⟩
 |_+1=>⟨fun _=>h,by rw[A];simp⟩
theorem gF{A:Nat}{a:Act}{w:World}(z:P.follows .mixedOrders=true)(S:World→Prop)(k:Nat)
  (h:nF P .any ops Q S k ops.size (Array.replicate ops.size false) a w.drew):(Code.region A ops true).wp P Q a w:=
 wp_region_any z (zK _ _ _ _ h)
end
theorem uA(w:World)(t:BA):(w.alloc (.cells #[.string t] 9)).cell? ⟨w.heap.size,0,none⟩=some (.string t):=OK _ _ 0 _ _ _ (OP w (.cells #[.string t] 9))
end Go.Proofs.YtkkdfgnnlpohlaaGreatDoor
