import Derived.Laws.BitsAllLaws
import Derived.Test.YtkkdfgnnlpohlaaGreatDoorProg
import GoSem.Claim
import GoSem.ClaimJoined
import GoSem.ClaimMapViews
import Derived.JoinedTies
import Derived.KernelRfl
import Derived.RowKit
import Derived.WalkKit
import Derived.WalkSpells
import Derived.WalkLawsBesides
import Derived.Deep.QuietTactic
import Derived.BigQuiet
import Derived.Laws.IdiomStrings
import Derived.Deep.RegionWith
import Derived.Maps.OwnSet
namespace Go.Proofs.YtkkdfgnnlpohlaaGreatDoor
set_option maxRecDepth 20000
set_option linter.unusedVariables false
set_option linter.unusedSimpArgs false
set_option maxHeartbeats 4000000
open Go.RowKit Go.Proofs.Tryz
variable {W X Y w w' w0 wr : World} {A B at_ b b2 base' c cap e f g go gs hi i j k lo m n s u val z : Nat} {E G I J K L M N O u0 u1 u2 v0 v1 v2 v3 v4 v5 v6 x y : Value} {o : Oper} {Q : Exit → Act → World → Prop} {cs tmps : Array Value} {t : TypeId} {p : Addr} {l : List Nat} {bvs xs : List Value} {a : List UInt8} {first ok : Bool}
def kM(c:Nat):Nat:=if c%2=1 then(c/2)^^^3988292384 else c/2
def iN:Nat→Nat→Nat
 |0,c=>c
 |m+1,c=>kM (iN m c)
def kj(c b m:Nat):Nat:=if(c^^^(b>>>m))%2=1 then(c/2)^^^3988292384 else c/2
def gP(c b:Nat):Nat→Nat
 |0=>c
 |m+1=>kj (gP c b m) b m
def lN(c b:Nat):Nat:=iN 8 (c^^^b)
def fk(c:Nat)(l:List Nat):Nat:=l.foldl lN c
theorem DW(c b m:Nat):iN m (c^^^b)=gP c b m^^^(b>>>m):=by
 induction m with
 |zero=>simp[iN,gP]
 |succ m ih=>
  have A:b>>>(m+1)=(b>>>m)/2:=(by rw[Nat.shiftRight_succ]);simp only[iN,gP,ih];unfold kM kj;generalize gP c b m=x;rw[A];generalize b>>>m=y;have z:(x^^^y)/2=(x/2)^^^(y/2):=Nat.xor_div_two;rw[z];split
  ·rw[Nat.xor_assoc,Nat.xor_assoc,Nat.xor_comm 3988292384]
  ·rfl
theorem GV(c b:Nat)(z:b<256):gP c b 8=lN c b:=by
 unfold lN;rw[DW];have:b>>>8=0:=(by rw[Nat.shiftRight_eq_div_pow];omega);rw[this,Nat.xor_zero]
theorem C8(c:Nat)(h:c<4294967296):kM c<4294967296:=by
 unfold kM;split
 ·exact Nat.xor_lt_two_pow (n:=32) (by omega) (by omega)
 ·omega
theorem rB(m c:Nat)(h:c<4294967296):iN m c<4294967296:=by
 induction m with
 |zero=>exact h
 |succ m ih=>exact C8 _ ih
theorem zl(c b m:Nat)(h:c<4294967296):gP c b m<4294967296:=by
 induction m with
 |zero=>exact h
 |succ m ih=>
  unfold gP kj;split
  ·exact Nat.xor_lt_two_pow (n:=32) (by omega) (by omega)
  ·omega
theorem C0(c b:Nat)(h:c<4294967296)(z:b<256):lN c b<4294967296:=
 rB _ _ (Nat.xor_lt_two_pow (n:=32) (by omega) (by omega))
theorem jL(l:List Nat)(z:∀x∈l,x<256)(c:Nat)(h:c<4294967296):fk c l<4294967296:=by
 induction l generalizing c with
 |nil=>exact h
 |cons x r ih=>exact ih (fun y A=>z y (List.mem_cons_of_mem _ A)) _ (C0 c x h (z x List.mem_cons_self))
theorem pE(c:Nat)(l:List Nat)(x:Nat):fk c (l++[x])=lN (fk c l) x:=by
 simp[fk]
theorem Hv(x m:Nat):((x:Int)/2^m)=((x>>>m:Nat):Int):=by
 rw[Nat.shiftRight_eq_div_pow];simp
theorem Nv(x m:Nat)(z:x<256):x>>>m<4294967296:=by
 rw[Nat.shiftRight_eq_div_pow];exact Nat.lt_of_le_of_lt (Nat.div_le_self _ _) (by omega)
theorem B4(c x m:Nat)(A:c<4294967296)(G:x<256):
  bits .and .u32 (bits .xor .u32 (c:Int) ((x:Int)/2^m)) 1=(((c^^^(x>>>m))%2:Nat):Int):=by
 have E:=Nv x m G;have z:c^^^(x>>>m)<4294967296:=Nat.xor_lt_two_pow (n:=32) (by omega) (by omega);rw[Hv,u32_xor_nat c _ A E];have h:=u32_and_nat (c^^^(x>>>m)) 1 z (by decide);rw[nat_mask1] at h;exact h
theorem At(c:Nat)(z:c<4294967296):bits .xor .u32 ((c:Int)/2) 3988292384=(((c/2)^^^3988292384:Nat):Int):=by
 have h:=u32_xor_nat (c/2) 3988292384 (by omega) (by decide);have e:((c:Int)/2)=((c/2:Nat):Int):=(by omega);rw[e];exact h
theorem Kb{c x m:Nat}(z:c<4294967296)(E:x<256)(h:(bits .and .u32 (bits .xor .u32 (c:Int) ((x:Int)/2^m)) 1==1)=true):
  bits .xor .u32 ((c:Int)/2) 3988292384=((kj c x m:Nat):Int):=by
 rw[B4 c x m z E] at h;have A:(c^^^(x>>>m))%2=1:=(by simp at h;omega);unfold kj;rw[if_pos A];exact At c z
theorem GW{c x m:Nat}(A:c<4294967296)(E:x<256)(h:(bits .and .u32 (bits .xor .u32 (c:Int) ((x:Int)/2^m)) 1==1)=false):
  ((c:Int)/2)=((kj c x m:Nat):Int):=by
 rw[B4 c x m A E] at h;have z:¬(c^^^(x>>>m))%2=1:=(by simp at h;omega);unfold kj;rw[if_neg z];omega
theorem yH(c:Nat)(z:c<4294967296):bits .and .u32 (c:Int) 1=((c%2:Nat):Int):=by
 have h:=u32_and_nat c 1 z (by decide);rw[nat_mask1] at h;exact h
theorem Kf{c:Nat}(z:c<4294967296)(h:(bits .and .u32 (c:Int) 1==1)=true):bits .xor .u32 ((c:Int)/2) 3988292384=((kM c:Nat):Int):=by
 rw[yH c z] at h;have A:c%2=1:=(by simp at h;omega);unfold kM;rw[if_pos A];exact At c z
theorem G5{c:Nat}(A:c<4294967296)(h:(bits .and .u32 (c:Int) 1==1)=false):((c:Int)/2)=((kM c:Nat):Int):=by
 rw[yH c A] at h;have z:¬c%2=1:=(by simp at h;omega);unfold kM;rw[if_neg z];omega
theorem KE(c x:Nat)(z:c<4294967296)(A:x<256):bits .xor .u32 (c:Int) (x:Int)=((c^^^x:Nat):Int):=u32_xor_nat c x z (by omega)
def mt(l:List Nat):Nat:=4294967295^^^fk 4294967295 l
theorem zW(l:List Nat)(z:∀x∈l,x<256):mt l<4294967296:=
 Nat.xor_lt_two_pow (n:=32) (by decide) (jL l z _ (by decide))
theorem JJ(c:Nat)(z:c<4294967296):bits .xor .u32 IntKind.u32.max (c:Int)=((4294967295^^^c:Nat):Int):=by
 have e:IntKind.u32.max=((4294967295:Nat):Int):=(by decide);rw[e];exact u32_xor_nat 4294967295 c (by decide) z
theorem sR{k:IntKind}{a b:Int}(h:a=b):Ending.returned (.int k a)= .returned (.int k b):=by rw[h]
theorem fM{k:IntKind}{a b:Int}(h:a=b):Value.int k a= .int k b:=by rw[h]
abbrev BA:=ByteArray
abbrev OA:=Option Addr
abbrev LN:=List Nat
abbrev iI(n:Nat):Value:= .int .i64 (n:Int)
abbrev uI(n:Nat):Value:= .int .u32 (n:Int)
abbrev sN:Value:= .slice none 0 0
abbrev pP(g:Nat):Value:= .pointer (some ⟨g,0,none⟩)
abbrev sS(g n c:Nat):Value:= .slice (some ⟨g,0,none⟩) n c
theorem a8{p:Prop}(h:p):Hid p:=h
theorem dU{p:Prop}(h:Hid p):p:=h
def dW(w:World)(a:Option Addr)(l:List Nat):Prop:=
 0<l.length→∃b off,a=some ⟨b,off,none⟩∧∀i (h:i<l.length),w.cell? ⟨b,off+i,none⟩=some (.int .u8 ((l[i]:Nat):Int))
def bv(x:Nat):Value:= .int .u8 (x:Int)
def dR(w:World)(base:Nat)(v:Value)(l:List Nat):Prop:=w.ownsRow base 5 1 v l.length (l.map bv)
theorem dG{a:Addr}{v:Value}(h:w.cell? a=some v):a.block<w.heap.size:=World.block_lt_of_cell? w a h
theorem dW.below{a:Option Addr}(h:dW w a l)(E:Below w.heap.size w w'):dW w' a l:=fun G=>by
 obtain⟨b,z,rfl,A⟩:=h G;exact⟨b,z,rfl,fun i hi=>by rw[E.cell (p:=⟨b,z+i,none⟩) (dG (A i hi))];exact A i hi⟩
theorem dR.slice{v:Value}(h:dR w z v l):∃a cap,v= .slice a l.length cap:=by
 rcases h.2 with⟨rfl,A⟩|⟨g,cap,E,rfl,_⟩
 ·exact⟨none,0,by rw[A]⟩
 ·exact⟨_,cap,rfl⟩
theorem dR.row{G:Nat}{a:Option Addr}(h:dR w G (.slice a n cap) l):dW w a l:=fun M=>by
 rcases h.2 with⟨_,L⟩|⟨g,J,z,A,_,I,K,_,N,E⟩
 ·omega
 ·simp only[Value.slice.injEq] at A;obtain⟨rfl,_,_⟩:=A;refine⟨g,0,rfl,fun i hi=> ?_⟩;rw[Nat.zero_add,cell_of_row w g i z 5 (0,0) I];have e:z.toList[i]? =(l.map bv)[i]? :=(by rw[←E,List.getElem?_take,if_pos (by omega)]);rw[←Array.getElem?_toList,e];simp[hi,bv]
theorem dR.below{v:Value}(h:dR w z v l)(K:Below B w w')(J:w.heap.size≤B):dR w' z v l:=by
 refine⟨h.1,?_⟩;rcases h.2 with L|⟨g,cap,I,rfl,E,A,G⟩
 ·exact .inl L
 ·exact .inr ⟨g,cap,I,rfl,E,(K.block g (Nat.lt_of_lt_of_le (lt_of_block A) J)).trans A,G⟩
theorem dR.nil(w:World)(z:Nat):dR w z (.slice none 0 0) []:=World.ownsRow_nil w z 5 1
theorem dR.mono{v:Value}(h:dR w z v l)(I:base'≤z):dR w base' v l:=by
 refine⟨h.1,?_⟩;rcases h.2 with J|⟨g,cap,G,rfl,A,E⟩
 ·exact .inl J
 ·exact .inr ⟨g,cap,G,rfl,Nat.le_trans I A,E⟩
structure Out(lo hi:Nat)(w w':World):Prop where
 os:w'.os=w.os
 tape:w'.tape=w.tape
 output:w'.output=w.output
 size:w.heap.size≤w'.heap.size
 block:∀k,k<w.heap.size→k<lo∨hi≤k→w'.heap[k]? =w.heap[k]?
theorem Out.refl(lo hi:Nat)(w:World):Out lo hi w w:=⟨rfl,rfl,rfl,Nat.le_refl _,fun _ _ _=>rfl⟩
theorem Out.trans{a b c:World}(h:Out lo hi a b)(k:Out lo hi b c):Out lo hi a c:=
 ⟨k.os.trans h.os,k.tape.trans h.tape,k.output.trans h.output,Nat.le_trans h.size k.size,fun i hi z=>(k.block i (Nat.lt_of_lt_of_le hi h.size) z).trans (h.block i hi z)⟩
theorem Out.below(h:Out lo hi w w')(z:B≤lo)(A:B≤w.heap.size):Below B w w':=
 ⟨h.os,h.tape,h.output,h.size,fun k E=>h.block k (by omega) (.inl (by omega))⟩
theorem Out.of_below(h:Below w.heap.size w w'):Out lo hi w w':=⟨h.os,h.tape,h.output,h.size,fun k z _=>h.block k z⟩
theorem As{E G:World}{z:Option Nat}(h:w.grownBy E z)(k:E.grownBy G z):w.grownBy G z:=
 ⟨k.os.trans h.os,k.tape.trans h.tape,k.output.trans h.output,Nat.le_trans h.size k.size,fun i hi A=>(k.block i (Nat.lt_of_lt_of_le hi h.size) A).trans (h.block i hi A)⟩
theorem tL(w:World)(z:Option Nat):w.grownBy w z:=⟨rfl,rfl,rfl,Nat.le_refl _,fun _ _ _=>rfl⟩
theorem ez(b z i:Nat):Addr.add ⟨b,z,none⟩ i=⟨b,z+i,none⟩:=by
 unfold Addr.add;split
 ·next h=>subst h;rfl
 ·rfl
theorem eN{a b:Bool}(h:a=b):Ending.returned (.bool a)= .returned (.bool b):=by rw[h]
theorem EK:(prog.info? 5).map (fun i=>(i.zero,i.size,i.bytes))=some (some (.int .u8 0),1,1):=by kernel_rfl
theorem eF{L:Array Oper}{J:List Oper}{A:Act}(w:World)(V:o.guard=none)(s x:Operand)
  (ho:o.op= .call {callee:= .builtin .append,args:= #[s,x],argTypes:= #[52,52]})
  (z:Nat) (v:Value) (l m:List Nat) (hs:A.eval s=v) (U:dR w z v l) (M:Option Addr) (c:Nat) (hx:A.eval x= .slice M m.length c) (hr:dW w M m) (hm:0<m.length)
  (ac:l.length+m.length≤1099511627776) (O:z≤w.heap.size)
  (h:∀E w',dR w' z E (l++m)→w.grownBy w' v.ownBlock→wpList prog L Q J (A.put o.dst E) w'):wpList prog L Q (o::J) A w:=by
 obtain⟨i0,hi,Y,Z,aa⟩:=info_parts EK;obtain⟨b,ab,rfl,hc⟩:=hr hm;refine wpList_append_own w V s x 52 ho z 5 i0 (.int .u8 0) 1 1 underlying52 hi Y Z aa rfl (by decide) v l.length (l.map bv) hs U ⟨b,ab,none⟩ m.length c (m.map bv) hx (by simp) ?_ ?_ (by unfold maxLen;omega) (by omega) O ?_
 ·intro j u I;rw[ez];have K:j<m.length:=by
   rcases Nat.lt_or_ge j m.length with G|G
   ·exact G
   ·simp[List.getElem?_eq_none G] at I
  rw[hc j K];simp[K,bv] at I;rw[I]
 ·intro u N;simp only[List.mem_map] at N;obtain⟨y,_,rfl⟩:=N;rfl
 ·intro E w' R hg _;refine h E w' ?_ hg;unfold dR;rw[List.length_append,List.map_append];exact R
theorem lZ{G:Array Oper}{E:List Oper}{z:Act}(w:World)(J:o.guard=none)(s x:Operand)
  (N:o.op=Op.makeSlice 52 s x) (n:Nat) (O:z.eval s= .int .i64 (n:Int)) (R:z.eval x= .int .i64 (n:Int)) (Y:n≤1099511627776)
  (h:∀w',dR w' w.heap.size (.slice (some ⟨w.heap.size,0,none⟩) n n) (List.replicate n 0)→Below w.heap.size w w'→wpList prog G Q E (z.put o.dst (.slice (some ⟨w.heap.size,0,none⟩) n n)) w'):wpList prog G Q (o::E) z w:=by
 obtain⟨U,hi,K,L,M⟩:=info_parts EK;refine wpList_make_full w J s x 52 N w.heap.size 5 U (.int .u8 0) 1 underlying52 hi K L .i64 .i64 _ _ n O R rfl rfl (by rw[M];omega) (by unfold maxLen;omega) (Nat.le_refl _) ?_;intro V A I;refine h V ?_ ((Below.refl _ _).grown I (Nat.le_refl _) (fun k h=>by cases h));unfold dR;rw[List.length_replicate,List.map_replicate];have e:(madeCells (Value.int .u8 0).cells (n*1)).toList=List.replicate n (bv 0):=(by rw[Nat.mul_one];exact toList_madeCells_one _ _);rw[e] at A;exact A
theorem dR.store(h:dR w z (.slice (some ⟨g,0,none⟩) n cap) l)(k x:Nat):
  dR (w.setCell ⟨g,k,none⟩ (bv x)) z (.slice (some ⟨g,0,none⟩) n cap) (l.set k x)∧w.grownBy (w.setCell ⟨g,k,none⟩ (bv x)) (some g):=by
 obtain⟨a,c,e⟩:=h.slice;simp only[Value.slice.injEq] at e;obtain⟨_,rfl,rfl⟩:=e;have A:=World.ownsRow.stored h k (bv x);refine⟨?_,A.2⟩;unfold dR;rw[List.length_set,List.map_set];exact A.1
theorem dR.cellAt(h:dR w z (.slice (some ⟨g,0,none⟩) n cap) l)(k:Nat)(E:k<l.length):w.cell? ⟨g,k,none⟩=some (.int .u8 ((l[k]:Nat):Int)):=by
 obtain⟨b,G,e,A⟩:=h.row (by omega);simp only[Option.some.injEq,Addr.mk.injEq] at e;obtain⟨rfl,rfl,_⟩:=e;have:=A k E;rwa[Nat.zero_add] at this
theorem dR.frozenAt(h:dR w z (.slice (some ⟨g,0,none⟩) n cap) l)(k:Nat):w.frozen? ⟨g,k,none⟩=false:=by
 obtain⟨a,c,e⟩:=h.slice;simp only[Value.slice.injEq] at e;obtain⟨_,rfl,rfl⟩:=e;exact World.ownsRow.frozenAt h k
theorem nAl(w:World)(o:Obj):Below w.heap.size w (w.alloc o):=(Below.refl _ _).alloc (Nat.le_refl _) o
theorem bTr{z A:World}(h:Hid (Below w.heap.size w z))(k:Below z.heap.size z A):Hid (Below w.heap.size w A):=a8 (h.out.trans (k.mono h.out.size))
abbrev OC:= @ByteArray.toList_eq
abbrev OD:= @World.ownsRow.cells
abbrev OE:= @World.ownsRow.kept
abbrev OF:= @World.ownsRow.lt
abbrev OG:= @World.size_alloc
abbrev OH:= @absurd
abbrev OI:= @below_drewN
abbrev OJ:= @bodyPost_ret
abbrev OK:= @cell_of_row
abbrev OL:= @congrArg
abbrev OM:= @decide_eq_false
abbrev ON:= @decide_eq_true
abbrev OO:= @frozen_of_row
abbrev OP:= @heap_alloc_new
abbrev OQ:= @heap_setCell_other
abbrev OR:= @if_neg
abbrev OS:= @if_pos
abbrev OT:= @lt_of_block
abbrev OU:= @of_decide_eq_true
abbrev OV:= @Nat.le_refl
abbrev OW:= @List.length_map
abbrev OX:= @Below.refl
abbrev OY:= @Option.some.injEq
abbrev OZ:= @List.getElem?_eq_getElem
abbrev O0:= @Nat.le_trans
abbrev O1:= @List.length_append
abbrev O3:= @Value.slice.injEq
abbrev O4:= @Nat.zero_le
abbrev O5:= @List.take_succ_eq_append_getElem
abbrev O6:= @List.getElem_mem
abbrev O7:= @List.map_append
abbrev O8:= @List.mem_cons_of_mem
abbrev O9:= @List.length_drop
abbrev Pa:= @List.length_take
abbrev Pb:= @Nat.lt_of_lt_of_le
abbrev Pc:= @List.take_of_length_le
abbrev Pd:= @List.mem_cons
abbrev Pe:= @List.map_cons
abbrev Pf:= @List.length_cons
abbrev Pg:= @List.mem_map
abbrev Ph:= @List.mem_singleton
abbrev Pi:= @List.mem_of_mem_take
abbrev Pj:= @List.mem_append
abbrev Pk:= @List.mem_of_mem_drop
abbrev Pm:= @List.append_nil
abbrev Pn:= @List.pairwise_iff_getElem
abbrev Po:= @List.getElem_map
abbrev Pp:= @List.length_eq_zero_iff
abbrev Pq:= @List.getElem_set_self
abbrev Pr:= @List.getElem_of_mem
abbrev Ps:= @Nat.zero_add
abbrev Pt:= @List.getElem?_eq_none
abbrev Pv:= @List.drop_eq_getElem_cons
abbrev Pw:= @List.not_mem_nil
abbrev Px:= @List.getElem?_cons_succ
abbrev Py:= @List.getElem?_cons_zero
abbrev Pz:= @List.take_append_drop
abbrev PA:= @List.take_length
abbrev PB:= @List.mem_cons_self
abbrev PC:= @List.nil_append
abbrev PD:= @List.map_nil
abbrev PE:= @List.getElem?_map
abbrev PF:= @List.eq_nil_of_length_eq_zero
abbrev PG:= @Addr.mk.injEq
abbrev PH:= @List.append_assoc
abbrev PI:= @List.setIfInBounds_toArray
abbrev PJ:= @Option.some.inj
abbrev PK:= @List.length_filter_le
abbrev PL:= @List.set_cons_zero
abbrev PM:= @List.length_nil
abbrev PN:= @Nat.mul_le_mul_right
abbrev PO:= @List.drop_length
abbrev PP:= @List.map_map
abbrev PQ:= @List.flatten_append
abbrev PR:= @List.getElem_cons_succ
abbrev PS:= @List.pairwise_append
abbrev PT:= @List.mem_iff_getElem
abbrev PU:= @List.set_cons_succ
abbrev PV:= @Nat.lt_or_ge
abbrev PW:= @List.getElem?_append_right
abbrev PX:= @List.flatMap_append
abbrev PY:= @List.filter_cons_of_neg
def xW(w:World)(a:OA)(ls:List (LN)):Prop:=
 0<ls.length→∃b off,a=some ⟨b,off,none⟩∧∀i (h:i<ls.length),∃ai ci,w.cell? ⟨b,off+i,none⟩=some (.slice ai ls[i].length ci)∧dW w ai ls[i]
theorem xW.below{a:OA}{G:List (LN)}(h:xW w a G)(E:Below w.heap.size w w'):xW w' a G:=fun L=>by
 obtain⟨b,A,rfl,K⟩:=h L;refine⟨b,A,rfl,fun i hi=> ?_⟩;obtain⟨I,J,z,M⟩:=K i hi;exact⟨I,J,by rw[E.cell (p:=⟨b,A+i,none⟩) (dG z)];exact z,M.below E⟩
def kB:List (LN)→Nat
 |[]=>0
 |r::rs=>r.length+kB rs
theorem nZ(a b:List (LN)):kB (a++b)=kB a+kB b:=by
 induction a with
 |nil=>simp[kB]
 |cons x r ih=>simp[kB,ih];omega
theorem IW:(prog.info? 52).map (fun i=>(i.zero,i.size,i.bytes))=some (some (sN),1,24):=by kernel_rfl
def eO(w:World)(lo:Nat)(v:Value)(vs:List Value)(ls:List (LN)):Prop:=
 w.ownsRow lo 52 1 v ls.length vs∧(∀i (h:i<ls.length),∃x,vs[i]? =some x∧dR w lo x ls[i])∧vs.Pairwise fun x y=>x.ownBlock=none∨x.ownBlock≠y.ownBlock
def lp(w:World)(lo:Nat)(v:Value)(ls:List (LN)):Prop:=∃vs:List Value,eO w lo v vs ls
theorem eO.lt{v:Value}{A:List Value}{E:List (LN)}(h:eO w lo v A E):∀x∈A,∀g,x.ownBlock=some g→g<w.heap.size:=by
 intro x L g J;obtain⟨G,I,_⟩:=h;obtain⟨i,hi,rfl⟩:=Pr L;have M:A.length=E.length:=(by have:=G.1;omega);obtain⟨y,z,K⟩:=I i (by omega);rw[OZ hi] at z;simp only[OY] at z;subst z;exact(OF K g J).2
theorem lp.slice{v:Value}{z:List (LN)}(h:lp w A v z):∃a cap,v= .slice a z.length cap:=by
 obtain⟨I,h,_⟩:=h;rcases h.2 with⟨rfl,E⟩|⟨g,cap,G,rfl,_⟩
 ·exact⟨none,0,by rw[E]⟩
 ·exact⟨_,cap,rfl⟩
theorem uy{E:Nat}{a:OA}{A:List Value}(h:w.ownsRow E e 1 (.slice a n cap) n A)(L:0<n):∃g,a=some ⟨g,0,none⟩∧∀i x,A[i]? =some x→w.cell? ⟨g,i,none⟩=some x:=by
 rcases h.2 with⟨_,K⟩|⟨g,I,J,z,_⟩
 ·omega
 ·simp only[O3,true_and] at z;obtain⟨rfl,rfl⟩:=z;refine⟨g,rfl,fun i x G=> ?_⟩;have:=OD h (g:=g) rfl i x G;rwa[ez,Ps] at this
theorem lp.rows{E:Nat}{a:OA}{A:List (LN)}(h:lp w E (.slice a n cap) A):xW w a A:=fun M=>by
 obtain⟨O,c',e⟩:=h.slice;simp only[O3] at e;obtain⟨rfl,rfl,rfl⟩:=e;obtain⟨Q,J,K,_⟩:=h;obtain⟨g,rfl,L⟩:=uy J M;refine⟨g,0,rfl,fun i hi=> ?_⟩;obtain⟨x,N,z⟩:=K i hi;obtain⟨G,I,rfl⟩:=z.slice;exact⟨G,I,by rw[Ps];exact L i _ N,z.row⟩
theorem mC{v:Value}(h:w.ownsRow z e 1 v n xs)(J:∀g,z≤g→g<w.heap.size→w'.heap[g]? =w.heap[g]?):w'.ownsRow z e 1 v n xs:=by
 refine⟨h.1,?_⟩;rcases h.2 with K|⟨g,cap,I,rfl,A,E,G⟩
 ·exact .inl K
 ·exact .inr ⟨g,cap,I,rfl,A,(J g A (OT E)).trans E,G⟩
theorem lp.keep{v:Value}{E:List (LN)}(h:lp w z v E)(A:∀g,z≤g→g<w.heap.size→w'.heap[g]? =w.heap[g]?):lp w' z v E:=by
 obtain⟨M,G,I,J⟩:=h;refine⟨M,mC G A,fun i hi=> ?_,J⟩;obtain⟨x,L,K⟩:=I i hi;exact⟨x,L,mC K A⟩
theorem lp.below{v:Value}{A:List (LN)}(h:lp w z v A)(E:Below B w w')(G:w.heap.size≤B):lp w' z v A:=h.keep fun g _ I=>E.block g (by omega)
theorem nM{b1 E L M:Nat}{v:Value}{ys:List Value}(G:w.ownsRow b1 A 1 v L xs)(I:w.ownsRow b2 E 1 x M ys)(J:A≠E):v.ownBlock=none∨v.ownBlock≠x.ownBlock:=by
 rcases G.2 with⟨rfl,_⟩|⟨g,cap,Q,rfl,_,K,_⟩
 ·exact .inl rfl
 ·refine .inr fun e=> ?_;rcases I.2 with⟨rfl,_⟩|⟨g',N,O,rfl,_,z,_⟩
  ·simp[Value.ownBlock] at e
  ·simp only[Value.ownBlock,OY] at e;subst e;rw[K] at z;simp only[OY,Obj.cells.injEq] at z;exact J z.2.1
theorem eO.below{v:Value}{G:List Value}{E:List (LN)}(h:eO w z v G E)(L:Below B w w')(O:w.heap.size≤B):eO w' z v G E:=by
 obtain⟨I,J,K⟩:=h;have A:∀g,z≤g→g<w.heap.size→w'.heap[g]? =w.heap[g]? :=fun g _ Q=>L.block g (by omega);refine⟨mC I A,fun i hi=> ?_,K⟩;obtain⟨x,N,M⟩:=J i hi;exact⟨x,N,mC M A⟩
theorem jp(h:∃n,wr=w.drewN n)(m:Nat):∃n,wr.drewN m=w.drewN n:=by obtain⟨n,rfl⟩:=h;exact⟨n+m,World.drewN_drewN _ _ _⟩
theorem dW.drew{a:OA}{l:LN}(h:dW w a l)(n:Nat):dW (w.drewN n) a l:=h
theorem qm{l m:LN}(z:k<l.length)(A:k<m.length)(h:l.take k=m.take k)(E:l[k]=m[k]):l.take (k+1)=m.take (k+1):=by
 rw[O5 z,O5 A,h,E]
theorem Jy{l m:LN}(A:k<l.length)(E:k<m.length)(z:¬l[k]=m[k]):¬l=m:=fun h=>z (by subst h;rfl)
def fI(w:World)(a:OA)(es:List (BA×Int)):Prop:=
 0<es.length→∃b off,a=some ⟨b,off,none⟩∧∀i (h:i<es.length),w.cell? ⟨b,off+i*2,none⟩=some (.string es[i].1)∧w.cell? ⟨b,off+i*2+1,none⟩=some (.int .i64 es[i].2)
theorem fI.below{a:OA}{A:List (BA×Int)}(h:fI w a A)(I:Below w.heap.size w w'):fI w' a A:=fun K=>by
 obtain⟨b,z,rfl,J⟩:=h K;refine⟨b,z,rfl,fun i hi=> ?_⟩;obtain⟨E,G⟩:=J i hi;exact⟨by rw[I.cell (p:=⟨b,z+i*2,none⟩) (dG E)];exact E,by rw[I.cell (p:=⟨b,z+i*2+1,none⟩) (dG G)];exact G⟩
theorem sd(s:BA)(n left:Int)(w:World)(E:s.size≤9223372036854775807)(z:0≤left)(A:left≤1048576):
  Calls prog 41 #[.agg #[.string s,.int .i64 n],.int .i64 left] w fun e w'=>e= .returned (.int .i64 (if left<s.size then-1 else left-s.size))∧Below w.heap.size w w':=by
 by_cases h:left<s.size
 ·rw[OS h];go_enter func41,ntmps41;go_wp2;go_ret;exact⟨rfl,(OX _ _).alloc (OV _) _⟩
 ·rw[OR h];go_enter func41,ntmps41;go_wp2;go_ret;exact⟨rfl,(OX _ _).alloc (OV _) _⟩
def mZ(left n:Nat):Int:=if left<n then-1 else((left-n:Nat):Int)
theorem fA{left:Nat}(h:left<n):mZ left n= -1:=OS h
theorem jY{left:Nat}(h:n≤left):mZ left n=(left:Int)-(n:Int):=by rw[mZ,OR (by omega)];omega
def kl:List (BA×Int)→Nat
 |[]=>0
 |e::es=>e.1.size+kl es
theorem rW(a b:List (BA×Int)):kl (a++b)=kl a+kl b:=by
 induction a with
 |nil=>simp[kl]
 |cons x r ih=>simp[kl,ih];omega
theorem uZ(z:List (BA×Int))(k:Nat)(h:k<z.length):kl (z.take (k+1))=kl (z.take k)+z[k].1.size:=by
 rw[O5 h,rW];simp[kl]
theorem zu(z:List (BA×Int))(k:Nat):kl (z.take k)≤kl z:=by
 have h:=rW (z.take k) (z.drop k);rw[Pz] at h;omega
theorem ql(a:OA)(cap:Nat)(z:List (BA×Int))(left:Nat)(w:World)(hl:left≤1048576)(hn:z.length≤9223372036854775807)(O:∀e∈z,e.1.size≤9223372036854775807)(U:fI w a z):
  Calls prog 14 #[.slice a z.length cap,.int .i64 (left:Int)] w fun e w'=>e= .returned (.int .i64 (mZ left (z.length+kl z)))∧Below w.heap.size w w':=by
 by_cases aa:left<z.length
 ·rw[fA (by omega)];go_enter func14,ntmps14;go_wp2;go_ret;exact⟨rfl,OX _ _⟩
 ·go_enter func14,ntmps14;go_wp2;go_loopw [1,5] (fun s i wr=>∃k:Nat,k≤z.length∧i= .int .i64 k∧z.length+kl (z.take k)≤left∧s= .int .i64 ((left:Int)-(z.length:Int)-(kl (z.take k):Int))∧Below w.heap.size w wr) (fun _ i _=>z.length-(intOf i).toNat)
  case atStart=>exact⟨0,O4 _,rfl,by simp[kl];omega,fM (by simp[kl]),OX _ _⟩
  case round=>
   obtain⟨k,hk,rfl,N,rfl,A⟩:=hrel;by_cases L:k<z.length
   ·obtain⟨b,ac,rfl,Q⟩:=(U.below A) (by omega)
    obtain⟨G,I⟩:=Q k L;have J:=O _ (O6 L);have E:=a8 (uZ z k L);have V:=a8 (zu z (k+1));generalize kl (z.take k)=Z at N E⊢;clear Q U O;generalize z[k]=Y at G I J E;obtain⟨nm,nd⟩:=Y;simp only at G I J E;by_cases ab:z.length+Z+nm.size≤left
    ·go_wp2_with fail;refine(sd nm nd _ wr J (by omega) (by omega)).mono ?_;rintro e w' ⟨rfl,M⟩;rw[OR (by omega)];have K:=A.trans (M.mono A.size);clear G I;go_wp2;go_round
     case rel=>exact⟨k+1,by omega,by go_num,by rw[E.out];omega,fM (by rw[E.out];omega),K⟩
     case measure=>simp[intOf];omega
    ·go_wp2_with fail;refine(sd nm nd _ wr J (by omega) (by omega)).mono ?_;rintro e w' ⟨rfl,M⟩;rw[OS (by omega)];have K:=A.trans (M.mono A.size);clear G I;go_wp2;go_ret;exact⟨by rw[fA (by have:=E.out;have:=V.out;omega)];rfl,K⟩
   ·have R:z.take k=z:=Pc (by omega);rw[R] at N⊢;clear R;go_wp2;go_ret;exact⟨by rw[jY N];exact OL Ending.returned (fM (by omega)),A⟩
def qQ(l:LN)(k:Nat):LN:=l.take k++List.replicate (l.length-k) 0
theorem FP(l:LN):qQ l 0=List.replicate l.length 0:=by simp[qQ]
theorem IK(l:LN):qQ l l.length=l:=by simp[qQ]
theorem rH(l:LN)(k:Nat)(h:k≤l.length):(qQ l k).length=l.length:=by simp[qQ];omega
theorem IL(l:LN)(k:Nat)(h:k<l.length):(qQ l k).set k l[k]=qQ l (k+1):=by
 unfold qQ;rw[List.set_append_right _ _ (by simp;omega)];have e:k-(l.take k).length=0:=(by simp;omega);rw[e,show l.length-k=(l.length-(k+1))+1 from by omega,List.replicate_succ,PL,O5 h];simp only[PH,List.cons_append,PC]
theorem Ce(a:OA)(cap:Nat)(l:LN)(w:World)(Y:l.length≤1048576)(N:dW w a l):
  Calls prog 83 #[.slice a l.length cap] w fun e w'=>e= .returned (sS w.heap.size l.length l.length)∧dR w' w.heap.size (sS w.heap.size l.length l.length) l∧Below w.heap.size w w':=by
 go_enter func83,ntmps83;go_wp2_with (at_make;refine lZ _ rfl _ _ rfl l.length rfl rfl (by omega) ?_;intro Q z J)
 have I:dR Q w.heap.size (sS w.heap.size l.length l.length) (qQ l 0):=(by rw[FP];exact z);clear z;go_loopw [4] (fun i wr=>∃k:Nat,k≤l.length∧i= .int .i64 k∧dR wr w.heap.size (sS w.heap.size l.length l.length) (qQ l k)∧Below w.heap.size w wr) (fun i _=>l.length-(intOf i).toNat)
 case atStart=>exact⟨0,O4 _,rfl,I,J⟩
 case round=>
  obtain⟨k,M,rfl,z,E⟩:=hrel;clear I J;by_cases A:k<l.length
  ·obtain⟨b,V,rfl,L⟩:=(N.below E) (by omega)
   have R:=L k A;have O:=z.cellAt k (by rw[rH l k M];exact A);have U:=z.frozenAt k;have G:=(z.store k l[k]).1;rw[IL l k A] at G;have K:Hid (dR (wr.setCell ⟨w.heap.size,k,none⟩ (bv l[k])) w.heap.size (sS w.heap.size l.length l.length) (qQ l (k+1))∧Below w.heap.size w (wr.setCell ⟨w.heap.size,k,none⟩ (bv l[k]))):=⟨G,E.setCell (OV _) _⟩
   generalize (qQ l k)[k]'(by rw[rH l k M];exact A)=y at O;clear G z E L N;go_wp2;go_roundw
   case rel=>exact⟨k+1,by omega,by go_num,K.1,K.2⟩
   case measure=>simp[intOf];omega
  ·obtain rfl:k=l.length:=(by omega);rw[IK] at z;go_wp2;go_ret;exact⟨rfl,z,E⟩
theorem rD(a N:OA)(cap R:Nat)(l m:LN)(w:World)(hl:l.length≤9223372036854775807)(Q:dW w a l)(M:dW w N m):
  Calls prog 62 #[.slice a l.length cap,.slice N m.length R] w fun e w'=>e= .returned (.bool (decide (l=m)))∧∃n,w'=w.drewN n:=by
 by_cases A:l.length=m.length
 ·have U:((l.length:Int) !=(m.length:Int))=false:=(by simp;omega);have J:Hid (l.length=m.length):=A;clear A;go_enter func62,ntmps62;go_wp2;go_loopw [5] (fun i wr=>∃k:Nat,k≤l.length∧i= .int .i64 k∧l.take k=m.take k∧∃n,wr=w.drewN n) (fun i _=>l.length-(intOf i).toNat)
  case atStart=>exact⟨0,O4 _,rfl,rfl,0,rfl⟩
  case round=>
   obtain⟨k,hk,rfl,I,n,rfl⟩:=hrel;by_cases G:k<l.length
   ·obtain⟨b,ad,rfl,O⟩:=Q (by omega);obtain⟨b',ab,rfl,L⟩:=M (by have:=J.out;omega);have E:k<m.length:=(by have:=J.out;omega);have ac:=O k G;have aa:=L k E;have Y:Hid (l.take k=m.take k):=I;clear O L I Q M;by_cases z:l[k]=m[k]
    ·have V:(((l[k]:Nat):Int) !=((m[k]:Nat):Int))=false:=(by simp[z]);have K:Hid (l[k]=m[k]):=z;clear z;go_wp2;go_quiet(fail);go_wp2;go_roundw
     case rel=>exact⟨k+1,by omega,by go_num,qm G E Y K,_,rfl⟩
     case measure=>simp[intOf];omega
    ·have V:(((l[k]:Nat):Int) !=((m[k]:Nat):Int))=true:=(by simp;omega);have K:Hid (¬l[k]=m[k]):=z;clear z;go_wp2;go_quiet(fail);go_wp2;go_ret;exact⟨eN (OM (Jy G E K)).symm,_,World.drewN_drewN _ _ _⟩
   ·go_wp2;go_ret;have he:l=m:=by
     have Z:l.take k=l:=Pc (by omega);have h2:m.take k=m:=Pc (by have:=J.out;omega);rw[←Z,←h2,I]
    exact⟨eN (ON he).symm,n,rfl⟩
 ·have U:((l.length:Int) !=(m.length:Int))=true:=(by simp;omega);go_enter func62,ntmps62;go_wp2;go_ret;exact⟨eN (OM (fun h=>A (by rw[h]))).symm,0,rfl⟩
def o9(w:World)(a:OA)(es:List (Int×BA×BA×Int)):Prop:=
 0<es.length→∃b off,a=some ⟨b,off,none⟩∧∀i (h:i<es.length),w.cell? ⟨b,off+i*4,none⟩=some (.int .i64 es[i].1)∧w.cell? ⟨b,off+i*4+1,none⟩=some (.string es[i].2.1)∧w.cell? ⟨b,off+i*4+2,none⟩=some (.string es[i].2.2.1)∧w.cell? ⟨b,off+i*4+3,none⟩=some (.int .i64 es[i].2.2.2)
theorem o9.below{a:OA}{E:List (Int×BA×BA×Int)}(h:o9 w a E)(A:Below w.heap.size w w'):o9 w' a E:=fun M=>by
 obtain⟨b,z,rfl,L⟩:=h M;refine⟨b,z,rfl,fun i hi=> ?_⟩;obtain⟨G,I,J,K⟩:=L i hi;exact⟨by rw[A.cell (p:=⟨b,z+i*4,none⟩) (dG G)];exact G,by rw[A.cell (p:=⟨b,z+i*4+1,none⟩) (dG I)];exact I,by rw[A.cell (p:=⟨b,z+i*4+2,none⟩) (dG J)];exact J,by rw[A.cell (p:=⟨b,z+i*4+3,none⟩) (dG K)];exact K⟩
theorem sb(k:Int)(s t:BA)(n left:Int)(w:World)(G:s.size≤9223372036854775807)(I:t.size≤9223372036854775807)(A:0≤left)(E:left≤1048576):
  Calls prog 42 #[.agg #[.int .i64 k,.string s,.string t,.int .i64 n],.int .i64 left] w fun e w'=>e= .returned (.int .i64 (if left<s.size+t.size then-1 else left-(s.size+t.size)))∧Below w.heap.size w w':=by
 by_cases h:left<s.size
 ·rw[OS (by omega)];go_enter func42,ntmps42;go_wp2;go_ret;exact⟨rfl,(OX _ _).alloc (OV _) _⟩
 ·by_cases z:left<s.size+t.size
  ·rw[OS z];go_enter func42,ntmps42;go_wp2;go_ret;exact⟨rfl,(OX _ _).alloc (OV _) _⟩
  ·rw[OR z];go_enter func42,ntmps42;go_wp2;go_ret;exact⟨OL Ending.returned (fM (by omega)),(OX _ _).alloc (OV _) _⟩
def lD:List (Int×BA×BA×Int)→Nat
 |[]=>0
 |e::es=>e.2.1.size+e.2.2.1.size+lD es
theorem rY(a b:List (Int×BA×BA×Int)):lD (a++b)=lD a+lD b:=by
 induction a with
 |nil=>simp[lD]
 |cons x r ih=>simp[lD,ih];omega
theorem u6(z:List (Int×BA×BA×Int))(k:Nat)(h:k<z.length):lD (z.take (k+1))=lD (z.take k)+(z[k].2.1.size+z[k].2.2.1.size):=by
 rw[O5 h,rY];simp[lD]
theorem zv(z:List (Int×BA×BA×Int))(k:Nat):lD (z.take k)≤lD z:=by
 have h:=rY (z.take k) (z.drop k);rw[Pz] at h;omega
theorem zz(a:OA)(cap:Nat)(z:List (Int×BA×BA×Int))(left:Nat)(w:World)(hl:left≤1048576)(hn:z.length≤9223372036854775807)(U:∀e∈z,e.2.1.size≤9223372036854775807∧e.2.2.1.size≤9223372036854775807)(hr:o9 w a z):
  Calls prog 15 #[.slice a z.length cap,.int .i64 (left:Int)] w fun e w'=>e= .returned (.int .i64 (mZ left (z.length+lD z)))∧Below w.heap.size w w':=by
 by_cases aa:left<z.length
 ·rw[fA (by omega)];go_enter func15,ntmps15;go_wp2;go_ret;exact⟨rfl,OX _ _⟩
 ·go_enter func15,ntmps15;go_wp2;go_loopw [1,5] (fun s i wr=>∃k:Nat,k≤z.length∧i= .int .i64 k∧z.length+lD (z.take k)≤left∧s= .int .i64 ((left:Int)-(z.length:Int)-(lD (z.take k):Int))∧Below w.heap.size w wr) (fun _ i _=>z.length-(intOf i).toNat)
  case atStart=>exact⟨0,O4 _,rfl,by simp[lD];omega,fM (by simp[lD]),OX _ _⟩
  case round=>
   obtain⟨k,hk,rfl,Q,rfl,E⟩:=hrel;by_cases N:k<z.length
   ·obtain⟨b,ac,rfl,Y⟩:=(hr.below E) (by omega)
    obtain⟨I,J,K,L⟩:=Y k N;have A:=U _ (O6 N);have G:=a8 (u6 z k N);have HT:=a8 (zv z (k+1));generalize lD (z.take k)=s0 at Q G⊢;clear Y hr U;generalize z[k]=e0 at I J K L A G;obtain⟨kd,nm,R,nd⟩:=e0;simp only at I J K L A G;obtain⟨A,V⟩:=A;by_cases ab:z.length+s0+(nm.size+R.size)≤left
    ·go_wp2_with fail;refine(sb kd nm R nd _ wr A V (by omega) (by omega)).mono ?_;rintro e w' ⟨rfl,O⟩;rw[OR (by omega)];have M:=E.trans (O.mono E.size);clear I J K L;go_wp2;go_round
     case rel=>exact⟨k+1,by omega,by go_num,by rw[G.out];omega,fM (by rw[G.out];omega),M⟩
     case measure=>simp[intOf];omega
    ·go_wp2_with fail;refine(sb kd nm R nd _ wr A V (by omega) (by omega)).mono ?_;rintro e w' ⟨rfl,O⟩;rw[OS (by omega)];have M:=E.trans (O.mono E.size);clear I J K L;go_wp2;go_ret;exact⟨by rw[fA (by have:=G.out;have:=HT.out;omega)];rfl,M⟩
   ·have Z:z.take k=z:=Pc (by omega);rw[Z] at Q⊢;clear Z;go_wp2;go_ret;exact⟨by rw[jY Q];exact OL Ending.returned (fM (by omega)),E⟩
theorem rZ(a:OA)(n cap:Nat)(left:Int)(w:World)(z:0≤left)(A:left≤1048576)(E:n≤9223372036854775807):
  Calls prog 66 #[.slice a n cap,.int .i64 left] w fun e w'=>e= .returned (.int .i64 (if left<n then-1 else left-n))∧w'=w:=by
 by_cases h:left<n
 ·rw[OS h];go_enter func66,ntmps66;go_wp2;go_ret;exact⟨rfl,rfl⟩
 ·rw[OR h];go_enter func66,ntmps66;go_wp2;go_ret;exact⟨rfl,rfl⟩
def ja(w:World)(a:OA)(es:List (LN×Int)):Prop:=
 0<es.length→∃b off,a=some ⟨b,off,none⟩∧∀i (h:i<es.length),∃ai ci,w.cell? ⟨b,off+i*2,none⟩=some (.slice ai es[i].1.length ci)∧w.cell? ⟨b,off+i*2+1,none⟩=some (.int .i64 es[i].2)∧dW w ai es[i].1
theorem ja.below{a:OA}{E:List (LN×Int)}(h:ja w a E)(A:Below w.heap.size w w'):ja w' a E:=fun N=>by
 obtain⟨b,z,rfl,M⟩:=h N;refine⟨b,z,rfl,fun i hi=> ?_⟩;obtain⟨J,K,G,I,L⟩:=M i hi;exact⟨J,K,by rw[A.cell (p:=⟨b,z+i*2,none⟩) (dG G)];exact G,by rw[A.cell (p:=⟨b,z+i*2+1,none⟩) (dG I)];exact I,L.below A⟩
theorem vf(a:OA)(n cap:Nat)(A left:Int)(w:World)(z:n≤9223372036854775807)(E:0≤left)(G:left≤1048576):
  Calls prog 40 #[.agg #[.slice a n cap,.int .i64 A],.int .i64 left] w fun e w'=>e= .returned (.int .i64 (if left<n then-1 else left-n))∧Below w.heap.size w w':=by
 by_cases h:left<n
 ·rw[OS h];go_enter func40,ntmps40;go_wp2_with fail;refine(rZ a n cap _ _ (by omega) (by omega) z).mono ?_;rintro e w' ⟨rfl,rfl⟩;rw[OS (by omega)];go_wp2;go_ret;exact⟨rfl,(OX _ _).alloc (OV _) _⟩
 ·rw[OR h];go_enter func40,ntmps40;go_wp2_with fail;refine(rZ a n cap _ _ (by omega) (by omega) z).mono ?_;rintro e w' ⟨rfl,rfl⟩;rw[OR (by omega)];go_wp2;go_ret;exact⟨rfl,(OX _ _).alloc (OV _) _⟩
def iC:List (LN×Int)→Nat
 |[]=>0
 |e::es=>e.1.length+iC es
theorem rX(a b:List (LN×Int)):iC (a++b)=iC a+iC b:=by
 induction a with
 |nil=>simp[iC]
 |cons x r ih=>simp[iC,ih];omega
theorem jE(z:List (LN×Int))(k:Nat)(h:k<z.length):iC (z.take (k+1))=iC (z.take k)+z[k].1.length:=by
 rw[O5 h,rX];simp[iC]
theorem mY(z:List (LN×Int))(k:Nat):iC (z.take k)≤iC z:=by
 have h:=rX (z.take k) (z.drop k);rw[Pz] at h;omega
theorem Cb(a:OA)(cap:Nat)(z:List (LN×Int))(left:Nat)(w:World)(hl:left≤1048576)(hn:z.length≤9223372036854775807)(Q:∀e∈z,e.1.length≤9223372036854775807)(Z:ja w a z):
  Calls prog 13 #[.slice a z.length cap,.int .i64 (left:Int)] w fun e w'=>e= .returned (.int .i64 (mZ left (z.length+iC z)))∧Below w.heap.size w w':=by
 by_cases aa:left<z.length
 ·rw[fA (by omega)];go_enter func13,ntmps13;go_wp2;go_ret;exact⟨rfl,OX _ _⟩
 ·go_enter func13,ntmps13;go_wp2;go_loopw [1,5] (fun s i wr=>∃k:Nat,k≤z.length∧i= .int .i64 k∧z.length+iC (z.take k)≤left∧s= .int .i64 ((left:Int)-(z.length:Int)-(iC (z.take k):Int))∧Below w.heap.size w wr) (fun _ i _=>z.length-(intOf i).toNat)
  case atStart=>exact⟨0,O4 _,rfl,by simp[iC];omega,fM (by simp[iC]),OX _ _⟩
  case round=>
   obtain⟨k,hk,rfl,N,rfl,A⟩:=hrel;by_cases L:k<z.length
   ·obtain⟨b,ac,rfl,V⟩:=(Z.below A) (by omega)
    obtain⟨R,U,I,J,_⟩:=V k L;have K:=Q _ (O6 L);have E:=a8 (jE z k L);have HT:=a8 (mY z (k+1));generalize iC (z.take k)=s0 at N E⊢;clear V Z Q;generalize z[k].1.length=O at I K E;generalize z[k].2=nd at J;by_cases ab:z.length+s0+O≤left
    ·go_wp2_with fail;refine(vf R O U nd _ wr K (by omega) (by omega)).mono ?_;rintro e w' ⟨rfl,M⟩;rw[OR (by omega)];have G:=A.trans (M.mono A.size);clear I J;go_wp2;go_round
     case rel=>exact⟨k+1,by omega,by go_num,by rw[E.out];omega,fM (by rw[E.out];omega),G⟩
     case measure=>simp[intOf];omega
    ·go_wp2_with fail;refine(vf R O U nd _ wr K (by omega) (by omega)).mono ?_;rintro e w' ⟨rfl,M⟩;rw[OS (by omega)];have G:=A.trans (M.mono A.size);clear I J;go_wp2;go_ret;exact⟨by rw[fA (by have:=E.out;have:=HT.out;omega)];rfl,G⟩
   ·have Y:z.take k=z:=Pc (by omega);rw[Y] at N⊢;clear Y;go_wp2;go_ret;exact⟨by rw[jY N];exact OL Ending.returned (fM (by omega)),A⟩
def ed(w:World)(g:Nat)(cs:Array Value)(t:TypeId):Prop:=w.heap[g]? =some (.cells cs t (0,0))
theorem ed.cell(h:ed w g cs t)(j:Nat):w.cell? ⟨g,j,none⟩=cs[j]? :=OK w g j _ _ (0,0) h
theorem ed.lt(h:ed w g cs t):g<w.heap.size:=by
 rcases PV g w.heap.size with z|z
 ·exact z
 ·simp[ed,Array.getElem?_eq_none z] at h
theorem ed.below(h:ed w g cs t)(A:Below B w w')(z:g<B):ed w' g cs t:=(A.block g z).trans h
theorem ed.new(w:World)(cs:Array Value)(t:TypeId):ed (w.alloc (.cells cs t)) w.heap.size cs t:=OP w _
theorem na{left:Nat}(h:n≤left):∃l:Nat,mZ left n=(l:Int)∧l+n=left:=⟨left-n,by rw[jY h];omega,by omega⟩
def szD(ns:List (LN×Int))(es ks:List (BA×Int))(os:List (Int×BA×BA×Int)):Nat:=
 (ns.length+iC ns)+(es.length+kl es)+(ks.length+kl ks)+(os.length+lD os)
theorem El(L G I J:OA)(Q M N O:Nat)(q:Int)(ns:List (LN×Int))(z A:List (BA×Int))(os:List (Int×BA×BA×Int))(w:World)
  (aE:ns.length≤9223372036854775807) (aF:z.length≤9223372036854775807) (aG:A.length≤9223372036854775807) (aH:os.length≤9223372036854775807)
  (h1:∀e∈ns,e.1.length≤9223372036854775807) (h2:∀e∈z,e.1.size≤9223372036854775807) (h3:∀e∈A,e.1.size≤9223372036854775807) (h4:∀e∈os,e.2.1.size≤9223372036854775807∧e.2.2.1.size≤9223372036854775807)
  (r1:ja w L ns) (r2:fI w G z) (r3:fI w I A) (r4:o9 w J os):
  Calls prog 4 #[.agg #[.slice L ns.length Q,.slice G z.length M,.slice I A.length N,.slice J os.length O,.int .i64 q],.int .i64 1048576] w fun e w'=>e= .returned (.int .i64 (mZ 1048576 (szD ns z A os)))∧Below w.heap.size w w':=by
 generalize aA:ns.length=m1 at aE⊢;generalize aB:z.length=U at aF⊢;generalize aC:A.length=V at aG⊢;generalize aD:os.length=Y at aH⊢;have aq:=a8 aA;have ar:=a8 aB;have au:=a8 aC;have av:=a8 aD;have aM:=a8 r1;have aN:=a8 r2;have aO:=a8 r3;have aP:=a8 r4;have aI:=a8 h1;have aJ:=a8 h2;have aK:=a8 h3;have aL:=a8 h4;clear aA aB aC aD r1 r2 r3 r4 h1 h2 h3 h4;go_enter func4,ntmps4;go_wp2_with fail;have HL:=a8 (ed.new w #[.slice L m1 Q,.slice G U M,.slice I V N,.slice J Y O,.int .i64 q] 26);have al:=nAl w (.cells #[.slice L m1 Q,.slice G U M,.slice I V N,.slice J Y O,.int .i64 q] 26);have K:Hid (szD ns z A os=(m1+iC ns)+(U+kl z)+(V+kl A)+(Y+lD os)):=by
  unfold szD;rw[aq.out,ar.out,au.out,av.out];exact rfl
 generalize aQ:w.alloc (.cells #[.slice L m1 Q,.slice G U M,.slice I V N,.slice J Y O,.int .i64 q] 26)=w1 at HL al⊢;clear aQ;have Z:w.heap.size<w1.heap.size:=HL.lt;have ah:=a8 al;clear al;generalize hW:w.heap.size=B at HL ah Z⊢;have E:=a8 hW;clear hW;obtain rfl:=aq.out;refine(Cb L Q ns 1048576 w1 (by omega) aE aI (aM.below (by have h:=ah.out;have e:=E.out;rw[e];exact h))).mono ?_;rintro e w2 ⟨rfl,aa⟩;have an:=a8 (HL.below aa Z);have ai:B<w2.heap.size:=Pb Z aa.size;have ae:=a8 (ah.trans (aa.mono (Nat.le_of_lt Z)));clear aa;by_cases aw:1048576<ns.length+iC ns
 ·rw[fA aw];go_wp2;go_ret;exact⟨by rw[fA (by have:=K.out;omega)];rfl,by rw[E.out];exact ae.out⟩
 ·obtain⟨l1,e1,aT⟩:=na (Nat.le_of_not_lt aw);rw[e1];clear e1;have R:w2.cell? ⟨B,1,none⟩=some (.slice G U M):=(by rw[an.cell];rfl);go_wp2_with fail;clear R;obtain rfl:=ar.out;refine(ql G M z l1 w2 (by omega) aF aJ (aN.below (by have h:=ae.out;have e:=E.out;rw[e];exact h))).mono ?_;rintro e w3 ⟨rfl,ab⟩;have ao:=a8 (an.below ab ai);have aj:B<w3.heap.size:=Pb ai ab.size;have af:=a8 (ae.trans (ab.mono (Nat.le_of_lt ai)));clear ab;by_cases ax:l1<z.length+kl z
  ·rw[fA ax];go_wp2;go_ret;exact⟨by rw[fA (by have:=K.out;omega)];rfl,by rw[E.out];exact af.out⟩
  ·obtain⟨l2,e2,aU⟩:=na (Nat.le_of_not_lt ax);rw[e2];clear e2;have R:w3.cell? ⟨B,2,none⟩=some (.slice I V N):=(by rw[ao.cell];rfl);go_wp2_with fail;clear R;obtain rfl:=au.out;refine(ql I N A l2 w3 (by omega) aG aK (aO.below (by have h:=af.out;have e:=E.out;rw[e];exact h))).mono ?_;rintro e w4 ⟨rfl,ac⟩;have ap:=a8 (ao.below ac aj);have ak:B<w4.heap.size:=Pb aj ac.size;have ag:=a8 (af.trans (ac.mono (Nat.le_of_lt aj)));clear ac;by_cases ay:l2<A.length+kl A
   ·rw[fA ay];go_wp2;go_ret;exact⟨by rw[fA (by have:=K.out;omega)];rfl,by rw[E.out];exact ag.out⟩
   ·obtain⟨l3,e3,aV⟩:=na (Nat.le_of_not_lt ay);rw[e3];clear e3;have R:w4.cell? ⟨B,3,none⟩=some (.slice J Y O):=(by rw[ap.cell];rfl);go_wp2_with fail;clear R;obtain rfl:=av.out;refine(zz J O os l3 w4 (by omega) aH aL (aP.below (by have h:=ag.out;have e:=E.out;rw[e];exact h))).mono ?_;rintro e w5 ⟨rfl,ad⟩;have aR:=a8 (ap.below ad ak);have aS:B<w5.heap.size:=Pb ak ad.size;have am:=a8 (ag.trans (ad.mono (Nat.le_of_lt ak)));clear ad;by_cases az:l3<os.length+lD os
    ·rw[fA az];go_wp2;go_ret;exact⟨by rw[fA (by have:=K.out;omega)];rfl,by rw[E.out];exact am.out⟩
    ·obtain⟨l4,e4,aW⟩:=na (Nat.le_of_not_lt az);rw[e4];clear e4;go_wp2;go_ret;exact⟨by rw[jY (by have:=K.out;omega)];exact OL Ending.returned (fM (by have:=K.out;omega)),by rw[E.out];exact am.out⟩
theorem ed.c2{z A:Value}{r:List Value}(h:ed w g (z::A::r).toArray t):w.cell? ⟨g,0,none⟩=some z∧w.cell? ⟨g,1,none⟩=some A:=⟨h.cell 0,h.cell 1⟩
theorem ed.c3{z A:Value}{r:List Value}(h:ed w g (z::A::E::r).toArray t):w.cell? ⟨g,0,none⟩=some z∧w.cell? ⟨g,1,none⟩=some A∧w.cell? ⟨g,2,none⟩=some E:=⟨h.cell 0,h.cell 1,h.cell 2⟩
theorem ed.c4{z A:Value}{r:List Value}(h:ed w g (z::A::E::G::r).toArray t):w.cell? ⟨g,0,none⟩=some z∧w.cell? ⟨g,1,none⟩=some A∧w.cell? ⟨g,2,none⟩=some E∧w.cell? ⟨g,3,none⟩=some G:=⟨h.cell 0,h.cell 1,h.cell 2,h.cell 3⟩
theorem ed.c5{z A:Value}{r:List Value}(h:ed w g (z::A::E::G::I::r).toArray t):w.cell? ⟨g,0,none⟩=some z∧w.cell? ⟨g,1,none⟩=some A∧w.cell? ⟨g,2,none⟩=some E∧w.cell? ⟨g,3,none⟩=some G∧w.cell? ⟨g,4,none⟩=some I:=⟨h.cell 0,h.cell 1,h.cell 2,h.cell 3,h.cell 4⟩
theorem ed.c6{z A:Value}{r:List Value}(h:ed w g (z::A::E::G::I::J::r).toArray t):w.cell? ⟨g,0,none⟩=some z∧w.cell? ⟨g,1,none⟩=some A∧w.cell? ⟨g,2,none⟩=some E∧w.cell? ⟨g,3,none⟩=some G∧w.cell? ⟨g,4,none⟩=some I∧w.cell? ⟨g,5,none⟩=some J:=⟨h.cell 0,h.cell 1,h.cell 2,h.cell 3,h.cell 4,h.cell 5⟩
theorem ed.c7{z A:Value}{r:List Value}(h:ed w g (z::A::E::G::I::J::K::r).toArray t):w.cell? ⟨g,0,none⟩=some z∧w.cell? ⟨g,1,none⟩=some A∧w.cell? ⟨g,2,none⟩=some E∧w.cell? ⟨g,3,none⟩=some G∧w.cell? ⟨g,4,none⟩=some I∧w.cell? ⟨g,5,none⟩=some J∧w.cell? ⟨g,6,none⟩=some K:=⟨h.cell 0,h.cell 1,h.cell 2,h.cell 3,h.cell 4,h.cell 5,h.cell 6⟩
theorem ed.c8{z A:Value}{r:List Value}(h:ed w g (z::A::E::G::I::J::K::L::r).toArray t):w.cell? ⟨g,0,none⟩=some z∧w.cell? ⟨g,1,none⟩=some A∧w.cell? ⟨g,2,none⟩=some E∧w.cell? ⟨g,3,none⟩=some G∧w.cell? ⟨g,4,none⟩=some I∧w.cell? ⟨g,5,none⟩=some J∧w.cell? ⟨g,6,none⟩=some K∧w.cell? ⟨g,7,none⟩=some L:=⟨h.cell 0,h.cell 1,h.cell 2,h.cell 3,h.cell 4,h.cell 5,h.cell 6,h.cell 7⟩
theorem ed.c9{z A:Value}{r:List Value}(h:ed w g (z::A::E::G::I::J::K::L::M::r).toArray t):w.cell? ⟨g,0,none⟩=some z∧w.cell? ⟨g,1,none⟩=some A∧w.cell? ⟨g,2,none⟩=some E∧w.cell? ⟨g,3,none⟩=some G∧w.cell? ⟨g,4,none⟩=some I∧w.cell? ⟨g,5,none⟩=some J∧w.cell? ⟨g,6,none⟩=some K∧w.cell? ⟨g,7,none⟩=some L∧w.cell? ⟨g,8,none⟩=some M:=⟨h.cell 0,h.cell 1,h.cell 2,h.cell 3,h.cell 4,h.cell 5,h.cell 6,h.cell 7,h.cell 8⟩
theorem ed.c10{z A:Value}{r:List Value}(h:ed w g (z::A::E::G::I::J::K::L::M::N::r).toArray t):w.cell? ⟨g,0,none⟩=some z∧w.cell? ⟨g,1,none⟩=some A∧w.cell? ⟨g,2,none⟩=some E∧w.cell? ⟨g,3,none⟩=some G∧w.cell? ⟨g,4,none⟩=some I∧w.cell? ⟨g,5,none⟩=some J∧w.cell? ⟨g,6,none⟩=some K∧w.cell? ⟨g,7,none⟩=some L∧w.cell? ⟨g,8,none⟩=some M∧w.cell? ⟨g,9,none⟩=some N:=⟨h.cell 0,h.cell 1,h.cell 2,h.cell 3,h.cell 4,h.cell 5,h.cell 6,h.cell 7,h.cell 8,h.cell 9⟩
theorem ed.c11{A z:Value}{r:List Value}(h:ed w g (A::E::G::I::J::K::L::M::N::O::z::r).toArray t):w.cell? ⟨g,0,none⟩=some A∧w.cell? ⟨g,1,none⟩=some E∧w.cell? ⟨g,2,none⟩=some G∧w.cell? ⟨g,3,none⟩=some I∧w.cell? ⟨g,4,none⟩=some J∧w.cell? ⟨g,5,none⟩=some K∧w.cell? ⟨g,6,none⟩=some L∧w.cell? ⟨g,7,none⟩=some M∧w.cell? ⟨g,8,none⟩=some N∧w.cell? ⟨g,9,none⟩=some O∧w.cell? ⟨g,10,none⟩=some z:=⟨h.cell 0,h.cell 1,h.cell 2,h.cell 3,h.cell 4,h.cell 5,h.cell 6,h.cell 7,h.cell 8,h.cell 9,h.cell 10⟩
theorem ed.c12{Q z A:Value}{r:List Value}(h:ed w g (E::G::I::J::K::L::M::N::O::Q::z::A::r).toArray t):w.cell? ⟨g,0,none⟩=some E∧w.cell? ⟨g,1,none⟩=some G∧w.cell? ⟨g,2,none⟩=some I∧w.cell? ⟨g,3,none⟩=some J∧w.cell? ⟨g,4,none⟩=some K∧w.cell? ⟨g,5,none⟩=some L∧w.cell? ⟨g,6,none⟩=some M∧w.cell? ⟨g,7,none⟩=some N∧w.cell? ⟨g,8,none⟩=some O∧w.cell? ⟨g,9,none⟩=some Q∧w.cell? ⟨g,10,none⟩=some z∧w.cell? ⟨g,11,none⟩=some A:=⟨h.cell 0,h.cell 1,h.cell 2,h.cell 3,h.cell 4,h.cell 5,h.cell 6,h.cell 7,h.cell 8,h.cell 9,h.cell 10,h.cell 11⟩
theorem ed.c13{Q R z A:Value}{r:List Value}(h:ed w g (G::I::J::K::L::M::N::O::Q::R::z::A::E::r).toArray t):w.cell? ⟨g,0,none⟩=some G∧w.cell? ⟨g,1,none⟩=some I∧w.cell? ⟨g,2,none⟩=some J∧w.cell? ⟨g,3,none⟩=some K∧w.cell? ⟨g,4,none⟩=some L∧w.cell? ⟨g,5,none⟩=some M∧w.cell? ⟨g,6,none⟩=some N∧w.cell? ⟨g,7,none⟩=some O∧w.cell? ⟨g,8,none⟩=some Q∧w.cell? ⟨g,9,none⟩=some R∧w.cell? ⟨g,10,none⟩=some z∧w.cell? ⟨g,11,none⟩=some A∧w.cell? ⟨g,12,none⟩=some E:=⟨h.cell 0,h.cell 1,h.cell 2,h.cell 3,h.cell 4,h.cell 5,h.cell 6,h.cell 7,h.cell 8,h.cell 9,h.cell 10,h.cell 11,h.cell 12⟩
def two(l:List (Value×Value)):List Value:=l.flatMap fun p=>[p.1,p.2]
theorem kp(p:Value×Value)(l:List (Value×Value)):two (p::l)=p.1::p.2::two l:=rfl
theorem nc(l:List (Value×Value)):(two l).length=l.length*2:=by
 induction l with
 |nil=>rfl
 |cons p l ih=>rw[kp];simp[ih];omega
theorem qq(l:List (Value×Value))(i:Nat)(h:i<l.length):(two l)[i*2]? =some l[i].1:=by
 induction l generalizing i with
 |nil=>simp at h
 |cons p l ih=>
  cases i with
  |zero=>simp[kp]
  |succ i=>
   rw[kp,show(i+1)*2=i*2+1+1 from by omega];simp only[Px,PR];exact ih i (by simpa using h)
theorem qr(l:List (Value×Value))(i:Nat)(h:i<l.length):(two l)[i*2+1]? =some l[i].2:=by
 induction l generalizing i with
 |nil=>simp at h
 |cons p l ih=>
  cases i with
  |zero=>simp[kp]
  |succ i=>
   rw[kp,show(i+1)*2+1=(i*2+1)+1+1 from by omega];simp only[Px,PR];exact ih i (by simpa using h)
theorem Fb(l:List (Value×Value))(i:Nat)(x y:Value):((two l).set (i*2) x).set (i*2+1) y=two (l.set i (x,y)):=by
 induction l generalizing i with
 |nil=>simp[two]
 |cons p l ih=>
  cases i with
  |zero=>simp[kp]
  |succ i=>
   rw[kp,show(i+1)*2+1=(i*2+1)+1+1 from by omega,show(i+1)*2=i*2+1+1 from by omega];simp only[PU,kp];rw[ih i]
theorem Cj(A E:Value)(n:Nat):(madeCells #[A,E] (n*2)).toList=two (List.replicate n (A,E)):=by
 apply List.ext_getElem?;intro j;by_cases z:j<n*2
 ·obtain⟨i,rfl|rfl⟩:∃i,j=i*2∨j=i*2+1:=⟨j/2,by omega⟩
  ·rw[qq _ _ (by simp;omega)];simp[madeCells,z]
  ·rw[qr _ _ (by simp;omega)];simp[madeCells,z]
 ·rw[Pt (by simp[size_madeCells];omega),Pt (by rw[nc];simp;omega)]
def fJ(w:World)(base:Nat)(e:TypeId)(v:Value)(l:List (Value×Value)):Prop:=w.ownsRow base e 2 v l.length (two l)
theorem fJ.slice{e:TypeId}{v:Value}{l:List (Value×Value)}(h:fJ w z e v l):∃a cap,v= .slice a l.length cap:=by
 rcases h.2 with⟨rfl,A⟩|⟨g,cap,E,rfl,_⟩
 ·exact⟨none,0,by rw[A]⟩
 ·exact⟨_,cap,rfl⟩
theorem fJ.store{l:List (Value×Value)}(h:fJ w z e (sS g n cap) l)(k:Nat)(x y:Value):
  fJ ((w.setCell ⟨g,k*2,none⟩ x).setCell ⟨g,k*2+1,none⟩ y) z e (sS g n cap) (l.set k (x,y)):=by
 obtain⟨a,c,A⟩:=h.slice;simp only[O3] at A;obtain⟨_,rfl,rfl⟩:=A;have E:=(World.ownsRow.stored (World.ownsRow.stored h (k*2) x).1 (k*2+1) y).1;unfold fJ;rw[List.length_set,←Fb];exact E
theorem fJ.cells{G:Nat}{l:List (Value×Value)}(h:fJ w G e (sS g n cap) l)(k:Nat)(E:k<l.length):w.cell? ⟨g,k*2,none⟩=some l[k].1∧w.cell? ⟨g,k*2+1,none⟩=some l[k].2:=by
 have z:=OD h (g:=g) rfl (k*2) _ (qq l k E);have A:=OD h (g:=g) rfl (k*2+1) _ (qr l k E);rw[ez,Ps] at z A;exact⟨z,A⟩
theorem fJ.frozen{l:List (Value×Value)}(h:fJ w A e (sS g n cap) l)(k:Nat):w.frozen? ⟨g,k,none⟩=false:=by
 obtain⟨a,c,z⟩:=h.slice;simp only[O3] at z;obtain⟨_,rfl,rfl⟩:=z;exact World.ownsRow.frozenAt h k
theorem fJ.below{v:Value}{l:List (Value×Value)}(h:fJ w A e v l)(M:Below B w w')(L:w.heap.size≤B):fJ w' A e v l:=by
 refine⟨h.1,?_⟩;rcases h.2 with N|⟨g,cap,I,O,J,E,G⟩
 ·exact .inl N
 ·refine .inr ⟨g,cap,I,O,J,?_,G⟩;have K:g<w.heap.size:=by
   rcases PV g w.heap.size with z|z
   ·exact z
   ·simp[Array.getElem?_eq_none z] at E
  rw[M.block g (Pb K L)];exact E
def iA{α:Type}(z:α)(l:List α)(k:Nat):List α:=l.take k++List.replicate (l.length-k) z
theorem tM{α:Type}(z:α)(l:List α):iA z l 0=List.replicate l.length z:=by simp[iA]
theorem wU{α:Type}(z:α)(l:List α):iA z l l.length=l:=by simp[iA]
theorem gR{α:Type}(z:α)(l:List α)(k:Nat)(h:k≤l.length):(iA z l k).length=l.length:=by simp[iA];omega
theorem wV{α:Type}(z:α)(l:List α)(k:Nat)(h:k<l.length):(iA z l k).set k l[k]=iA z l (k+1):=by
 unfold iA;rw[List.set_append_right _ _ (by simp;omega)];have e:k-(l.take k).length=0:=(by simp;omega);rw[e,show l.length-k=(l.length-(k+1))+1 from by omega,List.replicate_succ,PL,O5 h];simp only[PH,List.cons_append,PC]
abbrev V4:=Value×Value×Value×Value
def gD(l:List V4):List Value:=l.flatMap fun p=>[p.1,p.2.1,p.2.2.1,p.2.2.2]
theorem fR(p:V4)(l:List V4):gD (p::l)=p.1::p.2.1::p.2.2.1::p.2.2.2::gD l:=rfl
theorem kg(l:List V4):(gD l).length=l.length*4:=by
 induction l with
 |nil=>rfl
 |cons p l ih=>rw[fR];simp[ih];omega
theorem wO(l:List V4)(i:Nat)(h:i<l.length):(gD l)[i*4]? =some l[i].1:=by
 induction l generalizing i with
 |nil=>simp at h
 |cons p l ih=>
  cases i with
  |zero=>simp[fR]
  |succ i=>
   rw[fR,show(i+1)*4=(i*4)+1+1+1+1 from by omega];simp only[Px,PR];exact ih i (by simpa using h)
theorem wP(l:List V4)(i:Nat)(h:i<l.length):(gD l)[i*4+1]? =some l[i].2.1:=by
 induction l generalizing i with
 |nil=>simp at h
 |cons p l ih=>
  cases i with
  |zero=>simp[fR]
  |succ i=>
   rw[fR,show(i+1)*4+1=(i*4+1)+1+1+1+1 from by omega];simp only[Px,PR];exact ih i (by simpa using h)
theorem wQ(l:List V4)(i:Nat)(h:i<l.length):(gD l)[i*4+2]? =some l[i].2.2.1:=by
 induction l generalizing i with
 |nil=>simp at h
 |cons p l ih=>
  cases i with
  |zero=>simp[fR]
  |succ i=>
   rw[fR,show(i+1)*4+2=(i*4+2)+1+1+1+1 from by omega];simp only[Px,PR];exact ih i (by simpa using h)
theorem wR(l:List V4)(i:Nat)(h:i<l.length):(gD l)[i*4+3]? =some l[i].2.2.2:=by
 induction l generalizing i with
 |nil=>simp at h
 |cons p l ih=>
  cases i with
  |zero=>simp[fR]
  |succ i=>
   rw[fR,show(i+1)*4+3=(i*4+3)+1+1+1+1 from by omega];simp only[Px,PR];exact ih i (by simpa using h)
theorem IA(l:List V4)(i:Nat)(x y z u:Value):((((gD l).set (i*4) x).set (i*4+1) y).set (i*4+2) z).set (i*4+3) u=gD (l.set i (x,y,z,u)):=by
 induction l generalizing i with
 |nil=>simp[gD]
 |cons p l ih=>
  cases i with
  |zero=>simp[fR]
  |succ i=>
   rw[fR,show(i+1)*4+3=(i*4+3)+1+1+1+1 from by omega,show(i+1)*4+2=(i*4+2)+1+1+1+1 from by omega,show(i+1)*4+1=(i*4+1)+1+1+1+1 from by omega,show(i+1)*4=i*4+1+1+1+1 from by omega];simp only[PU,fR];rw[ih i]
theorem FK(A E z2 G:Value)(n:Nat):(madeCells #[A,E,z2,G] (n*4)).toList=gD (List.replicate n (A,E,z2,G)):=by
 apply List.ext_getElem?;intro j;by_cases z:j<n*4
 ·obtain⟨i,rfl|rfl|rfl|rfl⟩:∃i,j=i*4∨j=i*4+1∨j=i*4+2∨j=i*4+3:=⟨j/4,by omega⟩
  ·rw[wO _ _ (by simp;omega)];simp[madeCells,z]
  ·rw[wP _ _ (by simp;omega)];simp[madeCells,z]
  ·rw[wQ _ _ (by simp;omega)];simp[madeCells,z]
  ·rw[wR _ _ (by simp;omega)];simp[madeCells,z]
 ·rw[Pt (by simp[size_madeCells];omega),Pt (by rw[kg];simp;omega)]
def gy(w:World)(base:Nat)(e:TypeId)(v:Value)(l:List V4):Prop:=w.ownsRow base e 4 v l.length (gD l)
theorem gy.slice{e:TypeId}{v:Value}{l:List V4}(h:gy w z e v l):∃a cap,v= .slice a l.length cap:=by
 rcases h.2 with⟨rfl,A⟩|⟨g,cap,E,rfl,_⟩
 ·exact⟨none,0,by rw[A]⟩
 ·exact⟨_,cap,rfl⟩
theorem gy.store{l:List V4}(h:gy w A e (sS g n cap) l)(k:Nat)(x y z u:Value):
  gy ((((w.setCell ⟨g,k*4,none⟩ x).setCell ⟨g,k*4+1,none⟩ y).setCell ⟨g,k*4+2,none⟩ z).setCell ⟨g,k*4+3,none⟩ u) A e (sS g n cap) (l.set k (x,y,z,u)):=by
 obtain⟨a,c,E⟩:=h.slice;simp only[O3] at E;obtain⟨_,rfl,rfl⟩:=E;have G:=(World.ownsRow.stored (World.ownsRow.stored (World.ownsRow.stored (World.ownsRow.stored h (k*4) x).1 (k*4+1) y).1 (k*4+2) z).1 (k*4+3) u).1;unfold gy;rw[List.length_set,←IA];exact G
theorem gy.cells{J:Nat}{l:List V4}(h:gy w J e (sS g n cap) l)(k:Nat)(z:k<l.length):w.cell? ⟨g,k*4,none⟩=some l[k].1∧w.cell? ⟨g,k*4+1,none⟩=some l[k].2.1∧w.cell? ⟨g,k*4+2,none⟩=some l[k].2.2.1∧w.cell? ⟨g,k*4+3,none⟩=some l[k].2.2.2:=by
 have A:=OD h (g:=g) rfl (k*4) _ (wO l k z);have E:=OD h (g:=g) rfl (k*4+1) _ (wP l k z);have G:=OD h (g:=g) rfl (k*4+2) _ (wQ l k z);have I:=OD h (g:=g) rfl (k*4+3) _ (wR l k z);rw[ez,Ps] at A E G I;exact⟨A,E,G,I⟩
theorem gy.frozen{l:List V4}(h:gy w A e (sS g n cap) l)(k:Nat):w.frozen? ⟨g,k,none⟩=false:=by
 obtain⟨a,c,z⟩:=h.slice;simp only[O3] at z;obtain⟨_,rfl,rfl⟩:=z;exact World.ownsRow.frozenAt h k
theorem gy.below{v:Value}{l:List V4}(h:gy w A e v l)(M:Below B w w')(L:w.heap.size≤B):gy w' A e v l:=by
 refine⟨h.1,?_⟩;rcases h.2 with N|⟨g,cap,I,O,J,E,G⟩
 ·exact .inl N
 ·refine .inr ⟨g,cap,I,O,J,?_,G⟩;have K:g<w.heap.size:=by
   rcases PV g w.heap.size with z|z
   ·exact z
   ·simp[Array.getElem?_eq_none z] at E
  rw[M.block g (Pb K L)];exact E
theorem Cg(s:BA)(n:Int)(w:World):
  Calls prog 54 #[.agg #[.string s,.int .i64 n]] w fun e w'=>e= .returned (.agg #[.string s,.int .i64 n])∧Below w.heap.size w w':=by
 go_enter func54,ntmps54;go_wp2;refine OJ (v:= .agg #[.string s,.int .i64 n]) (by simp[results,results54,go_sem]) rfl ⟨rfl,?_⟩;exact(((OX _ _).alloc (OV _) _).alloc (by simp) _).alloc (by simp;omega) _
theorem Cf(k:Int)(s t:BA)(n:Int)(w:World):
  Calls prog 55 #[.agg #[.int .i64 k,.string s,.string t,.int .i64 n]] w fun e w'=>e= .returned (.agg #[.int .i64 k,.string s,.string t,.int .i64 n])∧Below w.heap.size w w':=by
 go_enter func55,ntmps55;go_wp2;refine OJ (v:= .agg #[.int .i64 k,.string s,.string t,.int .i64 n]) (by simp[results,results55,go_sem]) rfl ⟨rfl,?_⟩;exact(((OX _ _).alloc (OV _) _).alloc (by simp) _).alloc (by simp;omega) _
theorem FU:(prog.info? 111).map (fun i=>(i.zero,i.size,i.bytes))=some (some (.agg #[.int .i64 0,.string ByteArray.empty,.string ByteArray.empty,.int .i64 0]),4,48):=by kernel_rfl
def opP(e:Int×BA×BA×Int):V4:=(.int .i64 e.1,.string e.2.1,.string e.2.2.1,.int .i64 e.2.2.2)
def mL(w:World)(base:Nat)(v:Value)(es:List (Int×BA×BA×Int)):Prop:=gy w base 111 v (es.map opP)
theorem mL.at{L:Nat}{a:OA}{z:List (Int×BA×BA×Int)}(h:mL w L (.slice a n cap) z):o9 w a z:=fun M=>by
 rcases h.2 with⟨_,K⟩|⟨g,N,O,A,_⟩
 ·simp at K;simp[K] at M
 ·simp only[O3] at A;obtain⟨rfl,rfl,rfl⟩:=A;refine⟨g,0,rfl,fun i hi=> ?_⟩;obtain⟨E,G,I,J⟩:=gy.cells h i (by simpa using hi);rw[Ps];simp[opP] at E G I J;exact⟨E,G,I,J⟩
theorem qB{G:Array Oper}{E:List Oper}{z:Act}(w:World)(J:o.guard=none)(s x:Operand)
  (N:o.op=Op.makeSlice 32 s x) (n:Nat) (O:z.eval s= .int .i64 (n:Int)) (R:z.eval x= .int .i64 (n:Int)) (Y:n≤1048576)
  (h:∀w',mL w' w.heap.size (sS w.heap.size n n) (List.replicate n (0,ByteArray.empty,ByteArray.empty,0))→Below w.heap.size w w'→wpList prog G Q E (z.put o.dst (sS w.heap.size n n)) w'):wpList prog G Q (o::E) z w:=by
 obtain⟨U,hi,K,L,M⟩:=info_parts FU;refine wpList_make_full w J s x 32 N w.heap.size 111 U (.agg #[.int .i64 0,.string ByteArray.empty,.string ByteArray.empty,.int .i64 0]) 4 underlying32 hi K L .i64 .i64 _ _ n O R rfl rfl (by rw[M];omega) (by unfold maxLen;omega) (OV _) ?_;intro V A I;refine h V ?_ ((OX _ _).grown I (OV _) (fun k h=>by cases h));unfold mL gy;rw[OW,List.length_replicate,List.map_replicate];have e:(madeCells (Value.agg #[.int .i64 0,.string ByteArray.empty,.string ByteArray.empty,.int .i64 0]).cells (n*4)).toList=gD (List.replicate n (opP (0,ByteArray.empty,ByteArray.empty,0))):=FK _ _ _ _ _;rw[e] at A;exact A
theorem zB(a:OA)(cap:Nat)(l:List (Int×BA×BA×Int))(w:World)(hl:l.length≤1048576)(M:o9 w a l):
  Calls prog 27 #[.slice a l.length cap] w fun e w'=>e= .returned (sS w.heap.size l.length l.length)∧mL w' w.heap.size (sS w.heap.size l.length l.length) l∧Below w.heap.size w w':=by
 go_enter func27,ntmps27;go_wp2_with (at_make;refine qB _ rfl _ _ rfl l.length rfl rfl (by omega) ?_;intro w1 A Q)
 have O:mL w1 w.heap.size (sS w.heap.size l.length l.length) (iA (0,ByteArray.empty,ByteArray.empty,0) l 0):=(by rw[tM];exact A);clear A;go_loopw [4] (fun i wr=>∃k:Nat,k≤l.length∧i= .int .i64 k∧mL wr w.heap.size (sS w.heap.size l.length l.length) (iA (0,ByteArray.empty,ByteArray.empty,0) l k)∧Below w.heap.size w wr) (fun i _=>l.length-(intOf i).toNat)
 case atStart=>exact⟨0,O4 _,rfl,O,Q⟩
 case round=>
  obtain⟨k,J,rfl,A,I⟩:=hrel;clear O Q;by_cases E:k<l.length
  ·obtain⟨b,aj,rfl,V⟩:=(M.below I) (by omega)
   obtain⟨Y,Z,aa,ab⟩:=V k E;have U:=a8 A;have HR:=a8 M;clear V M A;go_wp2_with fail;refine(Cf _ _ _ _ wr).mono ?_;rintro e N ⟨rfl,L⟩;have z:mL N _ _ _:=U.below L (OV _);obtain⟨ac,ad,hd2,ae⟩:=gy.cells z k (by rw[OW,gR _ l k J];exact E);have af:=gy.frozen z (k*4);have ag:=gy.frozen z (k*4+1);have ah:=gy.frozen z (k*4+2);have ai:=gy.frozen z (k*4+3);have K:=gy.store z k (.int .i64 l[k].1) (.string l[k].2.1) (.string l[k].2.2.1) (.int .i64 l[k].2.2.2);have R:((iA (0,ByteArray.empty,ByteArray.empty,0) l k).map opP).set k (.int .i64 l[k].1,.string l[k].2.1,.string l[k].2.2.1,.int .i64 l[k].2.2.2)=(iA (0,ByteArray.empty,ByteArray.empty,0) l (k+1)).map opP:=by
    rw[←wV _ l k E,List.map_set];rfl
   rw[R] at K;have G:Hid (mL ((((N.setCell ⟨w.heap.size,k*4,none⟩ (.int .i64 l[k].1)).setCell ⟨w.heap.size,k*4+1,none⟩ (.string l[k].2.1)).setCell ⟨w.heap.size,k*4+2,none⟩ (.string l[k].2.2.1)).setCell ⟨w.heap.size,k*4+3,none⟩ (.int .i64 l[k].2.2.2)) w.heap.size (sS w.heap.size l.length l.length) (iA (0,ByteArray.empty,ByteArray.empty,0) l (k+1))∧Below w.heap.size w ((((N.setCell ⟨w.heap.size,k*4,none⟩ (.int .i64 l[k].1)).setCell ⟨w.heap.size,k*4+1,none⟩ (.string l[k].2.1)).setCell ⟨w.heap.size,k*4+2,none⟩ (.string l[k].2.2.1)).setCell ⟨w.heap.size,k*4+3,none⟩ (.int .i64 l[k].2.2.2))):=
    ⟨K,((((I.trans (L.mono I.size)).setCell (OV _) _).setCell (OV _) _).setCell (OV _) _).setCell (OV _) _⟩
   generalize (((iA (0,ByteArray.empty,ByteArray.empty,0) l k).map opP)[k]'(by rw[OW,gR _ l k J];exact E)).1=y0 at ac;generalize (((iA (0,ByteArray.empty,ByteArray.empty,0) l k).map opP)[k]'(by rw[OW,gR _ l k J];exact E)).2.1=y1 at ad;generalize (((iA (0,ByteArray.empty,ByteArray.empty,0) l k).map opP)[k]'(by rw[OW,gR _ l k J];exact E)).2.2.1=y2 at hd2;generalize (((iA (0,ByteArray.empty,ByteArray.empty,0) l k).map opP)[k]'(by rw[OW,gR _ l k J];exact E)).2.2.2=y3 at ae;clear K R z Y Z aa ab U I L;generalize l[k].1=s0 at G⊢;generalize l[k].2.1=s1 at G⊢;generalize l[k].2.2.1=s2 at G⊢;generalize l[k].2.2.2=s3 at G⊢;go_wp2;go_roundw
   case rel=>exact⟨k+1,by omega,by go_num,G.1,G.2⟩
   case measure=>simp[intOf];omega
  ·obtain rfl:k=l.length:=(by omega);rw[wU] at A;go_wp2;go_ret;exact⟨rfl,A,I⟩
theorem qT:(prog.info? 63).map (fun i=>(i.zero,i.size,i.bytes))=some (some (.agg #[.string ByteArray.empty,.int .i64 0]),2,24):=by kernel_rfl
def yd(e:BA×Int):Value×Value:=(.string e.1,.int .i64 e.2)
def ib(w:World)(base:Nat)(v:Value)(es:List (BA×Int)):Prop:=fJ w base 63 v (es.map yd)
theorem ib.at{J:Nat}{a:OA}{z:List (BA×Int)}(h:ib w J (.slice a n cap) z):fI w a z:=fun K=>by
 rcases h.2 with⟨_,I⟩|⟨g,L,M,A,_⟩
 ·simp at I;simp[I] at K
 ·simp only[O3] at A;obtain⟨rfl,rfl,rfl⟩:=A;refine⟨g,0,rfl,fun i hi=> ?_⟩;obtain⟨E,G⟩:=fJ.cells h i (by simpa using hi);rw[Ps];simp[yd] at E G;exact⟨E,G⟩
theorem oL{G:Array Oper}{E:List Oper}{z:Act}(w:World)(J:o.guard=none)(s x:Operand)
  (N:o.op=Op.makeSlice 31 s x) (n:Nat) (O:z.eval s= .int .i64 (n:Int)) (R:z.eval x= .int .i64 (n:Int)) (Y:n≤1048576)
  (h:∀w',ib w' w.heap.size (sS w.heap.size n n) (List.replicate n (ByteArray.empty,0))→Below w.heap.size w w'→wpList prog G Q E (z.put o.dst (sS w.heap.size n n)) w'):wpList prog G Q (o::E) z w:=by
 obtain⟨U,hi,K,L,M⟩:=info_parts qT;refine wpList_make_full w J s x 31 N w.heap.size 63 U (.agg #[.string ByteArray.empty,.int .i64 0]) 2 underlying31 hi K L .i64 .i64 _ _ n O R rfl rfl (by rw[M];omega) (by unfold maxLen;omega) (OV _) ?_;intro V A I;refine h V ?_ ((OX _ _).grown I (OV _) (fun k h=>by cases h));unfold ib fJ;rw[OW,List.length_replicate,List.map_replicate];have e:(madeCells (Value.agg #[.string ByteArray.empty,.int .i64 0]).cells (n*2)).toList=two (List.replicate n (yd (ByteArray.empty,0))):=Cj _ _ _;rw[e] at A;exact A
theorem qo(a:OA)(cap:Nat)(l:List (BA×Int))(w:World)(hl:l.length≤1048576)(M:fI w a l):
  Calls prog 26 #[.slice a l.length cap] w fun e w'=>e= .returned (sS w.heap.size l.length l.length)∧ib w' w.heap.size (sS w.heap.size l.length l.length) l∧Below w.heap.size w w':=by
 go_enter func26,ntmps26;go_wp2_with (at_make;refine oL _ rfl _ _ rfl l.length rfl rfl (by omega) ?_;intro w1 z Q)
 have O:ib w1 w.heap.size (sS w.heap.size l.length l.length) (iA (ByteArray.empty,0) l 0):=(by rw[tM];exact z);clear z;go_loopw [4] (fun i wr=>∃k:Nat,k≤l.length∧i= .int .i64 k∧ib wr w.heap.size (sS w.heap.size l.length l.length) (iA (ByteArray.empty,0) l k)∧Below w.heap.size w wr) (fun i _=>l.length-(intOf i).toNat)
 case atStart=>exact⟨0,O4 _,rfl,O,Q⟩
 case round=>
  obtain⟨k,L,rfl,z,G⟩:=hrel;clear O Q;by_cases E:k<l.length
  ·obtain⟨b,ae,rfl,V⟩:=(M.below G) (by omega)
   obtain⟨Y,Z⟩:=V k E;have U:=a8 z;have HR:=a8 M;clear V M z;go_wp2_with fail;refine(Cg _ _ wr).mono ?_;rintro e N ⟨rfl,K⟩;have A:ib N _ _ _:=U.below K (OV _);obtain⟨aa,ab⟩:=fJ.cells A k (by rw[OW,gR _ l k L];exact E);have ac:=fJ.frozen A (k*2);have ad:=fJ.frozen A (k*2+1);have J:=fJ.store A k (.string l[k].1) (.int .i64 l[k].2);have R:((iA (ByteArray.empty,0) l k).map yd).set k (.string l[k].1,.int .i64 l[k].2)=(iA (ByteArray.empty,0) l (k+1)).map yd:=by
    rw[←wV _ l k E,List.map_set];rfl
   rw[R] at J;have I:Hid (ib ((N.setCell ⟨w.heap.size,k*2,none⟩ (.string l[k].1)).setCell ⟨w.heap.size,k*2+1,none⟩ (.int .i64 l[k].2)) w.heap.size (sS w.heap.size l.length l.length) (iA (ByteArray.empty,0) l (k+1))∧Below w.heap.size w ((N.setCell ⟨w.heap.size,k*2,none⟩ (.string l[k].1)).setCell ⟨w.heap.size,k*2+1,none⟩ (.int .i64 l[k].2))):=
    ⟨J,((G.trans (K.mono G.size)).setCell (OV _) _).setCell (OV _) _⟩
   generalize (((iA (ByteArray.empty,0) l k).map yd)[k]'(by rw[OW,gR _ l k L];exact E)).1=y0 at aa;generalize (((iA (ByteArray.empty,0) l k).map yd)[k]'(by rw[OW,gR _ l k L];exact E)).2=y1 at ab;clear J R A Y Z U G K;generalize l[k].1=s0 at I⊢;generalize l[k].2=n0 at I⊢;go_wp2;go_roundw
   case rel=>exact⟨k+1,by omega,by go_num,I.1,I.2⟩
   case measure=>simp[intOf];omega
  ·obtain rfl:k=l.length:=(by omega);rw[wU] at z;go_wp2;go_ret;exact⟨rfl,z,G⟩
theorem dR.set_low{v:Value}{l:LN}(h:dR w z v l)(L:p.block<z)(u:Value):dR (w.setCell p u) z v l:=by
 refine⟨h.1,?_⟩;rcases h.2 with J|⟨g,cap,G,K,A,I,E⟩
 ·exact .inl J
 ·exact .inr ⟨g,cap,G,K,A,(OQ w p g u (by omega)).trans I,E⟩
theorem ed.set(h:ed w g cs t)(j:Nat)(u:Value):ed (w.setCell ⟨g,j,none⟩ u) g (cs.setIfInBounds j u) t:=heap_setCell_same w g j _ _ u h
theorem ed.other(h:ed w g cs t)(z:g≠p.block)(u:Value):ed (w.setCell p u) g cs t:=(OQ w p g u z).trans h
theorem Et(a:OA)(cap:Nat)(l:LN)(z:Int)(w:World)(hl:l.length≤1048576)(N:dW w a l):
  Calls prog 53 #[.agg #[.slice a l.length cap,.int .i64 z]] w fun e w'=>∃x,e= .returned (.agg #[x,.int .i64 z])∧dR w' w.heap.size x l∧Below w.heap.size w w':=by
 go_enter func53,ntmps53;go_wp2_with fail;refine(Ce a cap l _ hl (N.below (((((OX _ _).alloc (OV _) _).alloc (by simp) _).alloc (by simp;omega) _)))).mono ?_;rintro e A ⟨rfl,K,J⟩;have O:ed A w.heap.size #[.slice a l.length cap,.int .i64 z] 90:=ed.below (by
  refine ed.below (B:=w.heap.size+2) (ed.below (B:=w.heap.size+1) (ed.new w _ _) ((OX _ _).alloc (by simp) _) (by omega)) ((OX _ _).alloc (by simp) _) (by omega)) J (by simp;omega)
 have E:ed A (w.heap.size+1) #[sN,.int .i64 0] 99:=ed.below (by
  have h:=ed.new (w.alloc (.cells #[.slice a l.length cap,.int .i64 z] 90)) #[sN,.int .i64 0] 99;rw[show(w.alloc (.cells #[.slice a l.length cap,.int .i64 z] 90)).heap.size=w.heap.size+1 from by simp] at h;exact ed.below (B:=w.heap.size+2) h ((OX _ _).alloc (by simp) _) (by omega)) J (by simp)
 have I:ed A (w.heap.size+1+1) #[sN,.int .i64 0] 99:=ed.below (by
  have h:=ed.new ((w.alloc (.cells #[.slice a l.length cap,.int .i64 z] 90)).alloc (.cells #[sN,.int .i64 0] 99)) #[sN,.int .i64 0] 99;rw[show((w.alloc (.cells #[.slice a l.length cap,.int .i64 z] 90)).alloc (.cells #[sN,.int .i64 0] 99)).heap.size=w.heap.size+1+1 from by simp] at h;exact h) J (by simp)
 have M:Below w.heap.size w A:=(((nAl w _).alloc (by simp) _).alloc (by simp;omega) _).trans (J.mono (by simp;omega));have Z:w.heap.size+3=(((w.alloc (.cells #[.slice a l.length cap,.int .i64 z] 90)).alloc (.cells #[sN,.int .i64 0] 99)).alloc (.cells #[sN,.int .i64 0] 99)).heap.size:=(by simp);generalize (((w.alloc (.cells #[.slice a l.length cap,.int .i64 z] 90)).alloc (.cells #[sN,.int .i64 0] 99)).alloc (.cells #[sN,.int .i64 0] 99)).heap.size=G at Z K⊢;have c0:A.cell? ⟨w.heap.size,1,none⟩=some (.int .i64 z):=(by rw[O.cell];rfl);have ab:A.cell? ⟨w.heap.size+1,0,none⟩=some (sN):=(by rw[E.cell];rfl);have ac:A.cell? ⟨w.heap.size+1,1,none⟩=some (.int .i64 0):=(by rw[E.cell];rfl);have ad:A.cell? ⟨w.heap.size+1+1,0,none⟩=some (sN):=(by rw[I.cell];rfl);have ae:A.cell? ⟨w.heap.size+1+1,1,none⟩=some (.int .i64 0):=(by rw[I.cell];rfl);have af:=OO A (w.heap.size+1) 0 _ _ E;have ag:=OO A (w.heap.size+1) 1 _ _ E;have ah:=OO A (w.heap.size+1+1) 0 _ _ I;have ai:=OO A (w.heap.size+1+1) 1 _ _ I;have Y:=a8 K;have V:=a8 M;have U:=a8 E;have aa:=a8 I;clear K M J O E I N;go_wp2;have L:=(((U.other (p:=⟨w.heap.size+1+1,0,none⟩) (by simp) (sS G l.length l.length)).other (p:=⟨w.heap.size+1+1,1,none⟩) (by simp) (.int .i64 z)).set 0 (sS G l.length l.length)).set 1 (.int .i64 z);have Q:=L.cell 0;have R:=L.cell 1;simp at Q R;refine OJ (v:= .agg #[sS G l.length l.length,.int .i64 z]) (by simp[results,results53,go_sem,Q,R]) rfl ⟨_,rfl,?_,(((V.setCell (by simp;omega) _).setCell (by simp;omega) _).setCell (by simp) _).setCell (by simp) _⟩;exact((((Y.set_low (by simp;omega) _).set_low (by simp;omega) _).set_low (by simp;omega) _).set_low (by simp;omega) _).mono (by omega)
theorem I0:(prog.info? 99).map (fun i=>(i.zero,i.size,i.bytes))=some (some (.agg #[sN,.int .i64 0]),2,32):=by kernel_rfl
def nr(w:World)(base:Nat)(v:Value)(ns:List (LN×Int)):Prop:=∃vs:List (Value×Value),vs.length=ns.length∧fJ w base 99 v vs∧∀i (h:i<ns.length),∃x,vs[i]? =some (x,.int .i64 ns[i].2)∧dR w base x ns[i].1
theorem nr.at{K:Nat}{a:OA}{ns:List (LN×Int)}(h:nr w K (.slice a n cap) ns):ja w a ns:=fun V=>by
 obtain⟨Y,Q,I,hi⟩:=h;rcases I.2 with⟨_,U⟩|⟨g,O,R,G,_⟩
 ·omega
 ·simp only[O3] at G;obtain⟨rfl,rfl,rfl⟩:=G;refine⟨g,0,rfl,fun i L=> ?_⟩;obtain⟨A,E⟩:=fJ.cells I i (by omega);obtain⟨x,z,J⟩:=hi i L;rw[OZ (by omega)] at z;simp only[OY] at z;rw[z] at A E;obtain⟨M,N,rfl⟩:=J.slice;rw[Ps];exact⟨M,N,A,E,J.row⟩
def z2:Value×Value:=(sN,.int .i64 0)
def mp(w:World)(g k:Nat)(ns:List (LN×Int)):Prop:=g+1≤w.heap.size∧∃vs:List (Value×Value),vs.length=k∧fJ w g 99 (sS g ns.length ns.length) (vs++List.replicate (ns.length-k) z2)∧∀i (h:i<ns.length),i<k→∃x,vs[i]? =some (x,.int .i64 ns[i].2)∧dR w (g+1) x ns[i].1
theorem mp.done{ns:List (LN×Int)}(h:mp w g ns.length ns):nr w g (sS g ns.length ns.length) ns:=by
 obtain⟨_,I,A,z,hi⟩:=h;rw[Nat.sub_self,List.replicate_zero,Pm] at z;refine⟨I,A,z,fun i h=> ?_⟩;obtain⟨x,G,E⟩:=hi i h h;exact⟨x,G,E.mono (by omega)⟩
theorem Iw{α:Type}(A:List α)(n k:Nat)(z x:α)(E:A.length=k)(G:k<n):(A++List.replicate (n-k) z).set k x=(A++[x])++List.replicate (n-(k+1)) z:=by
 rw[List.set_append_right _ _ (by omega),E,Nat.sub_self,show n-k=(n-(k+1))+1 from by omega,List.replicate_succ,PL];simp
theorem mp.below{A:World}{ns:List (LN×Int)}(h:mp w g k ns)(z:Below w.heap.size w A):mp A g k ns:=by
 obtain⟨K,M,I,G,hi⟩:=h;refine⟨O0 K z.size,M,I,G.below z (OV _),fun i h E=> ?_⟩;obtain⟨x,L,J⟩:=hi i h E;exact⟨x,L,J.below z (OV _)⟩
theorem mp.next{ns:List (LN×Int)}(h:mp w g k ns)(G:k<ns.length)(K:dR w (g+1) x ns[k].1):
  mp ((w.setCell ⟨g,k*2,none⟩ x).setCell ⟨g,k*2+1,none⟩ (.int .i64 ns[k].2)) g (k+1) ns:=by
 obtain⟨J,A,z,E,hi⟩:=h;refine⟨by simpa using J,A++[(x,.int .i64 ns[k].2)],by simp[z],?_,fun i h M=> ?_⟩
 ·have:=fJ.store E k x (.int .i64 ns[k].2);rw[Iw A _ k _ _ z G] at this;exact this
 ·by_cases e:i=k
  ·subst e;refine⟨x,by rw[PW (by omega),z,Nat.sub_self];rfl,?_⟩;exact(K.set_low (by simp) _).set_low (by simp) _
  ·obtain⟨y,L,I⟩:=hi i h (by omega);exact⟨y,by rw[List.getElem?_append_left (by omega)];exact L,(I.set_low (by simp) _).set_low (by simp) _⟩
theorem mp.cells{ns:List (LN×Int)}(h:mp w g k ns)(J:k<ns.length):w.cell? ⟨g,k*2,none⟩=some (sN)∧w.cell? ⟨g,k*2+1,none⟩=some (.int .i64 0)∧w.frozen? ⟨g,k*2,none⟩=false∧w.frozen? ⟨g,k*2+1,none⟩=false:=by
 obtain⟨L,G,K,z,hi⟩:=h;have I:k<(G++List.replicate (ns.length-k) z2).length:=(by simp;omega);obtain⟨A,E⟩:=fJ.cells z k I;have e:(G++List.replicate (ns.length-k) z2)[k]=z2:=by
  rw[List.getElem_append_right (by omega)];simp
 rw[e] at A E;exact⟨A,E,fJ.frozen z _,fJ.frozen z _⟩
theorem qA{I:Array Oper}{G:List Oper}{z:Act}(w:World)(K:o.guard=none)(s x:Operand)
  (R:o.op=Op.makeSlice 30 s x) (ns:List (LN×Int)) (U:z.eval s= .int .i64 (ns.length:Int)) (V:z.eval x= .int .i64 (ns.length:Int)) (aa:ns.length≤1048576)
  (h:∀w',mp w' w.heap.size 0 ns→Below w.heap.size w w'→wpList prog I Q G (z.put o.dst (sS w.heap.size ns.length ns.length)) w'):wpList prog I Q (o::G) z w:=by
 obtain⟨Y,hi,L,M,N⟩:=info_parts I0;refine wpList_make_full w K s x 30 R w.heap.size 99 Y (.agg #[sN,.int .i64 0]) 2 underlying30 hi L M .i64 .i64 _ _ ns.length U V rfl rfl (by rw[N];omega) (by unfold maxLen;omega) (OV _) ?_;intro Z E J;refine h Z ⟨?_,[],rfl,?_,fun i _ h=>by omega⟩ ((OX _ _).grown J (OV _) (fun k h=>by cases h))
 ·rcases E.2 with⟨A,_⟩|⟨g,cap,ab,A,_,O,_⟩
  ·simp at A
  ·simp only[O3,OY,PG,and_true] at A;obtain⟨rfl,_⟩:=A;exact OT O
 ·unfold fJ;rw[PC,List.length_replicate,Nat.sub_zero];have e:(madeCells (Value.agg #[sN,.int .i64 0]).cells (ns.length*2)).toList=two (List.replicate ns.length z2):=Cj _ _ _;rw[e] at E;exact E
theorem Ch(a:OA)(cap:Nat)(ns:List (LN×Int))(w:World)(hl:ns.length≤1048576)(U:∀e∈ns,e.1.length≤1048576)(hr:ja w a ns):
  Calls prog 25 #[.slice a ns.length cap] w fun e w'=>e= .returned (sS w.heap.size ns.length ns.length)∧nr w' w.heap.size (sS w.heap.size ns.length ns.length) ns∧Below w.heap.size w w':=by
 go_enter func25,ntmps25;go_wp2_with (at_make;refine qA _ rfl _ _ rfl ns rfl rfl (by omega) ?_;intro w1 O Q)
 go_loopw [4] (fun i wr=>∃k:Nat,k≤ns.length∧i= .int .i64 k∧mp wr w.heap.size k ns∧Below w.heap.size w wr) (fun i _=>ns.length-(intOf i).toNat)
 case atStart=>exact⟨0,O4 _,rfl,O,Q⟩
 case round=>
  obtain⟨k,hk,rfl,L,A⟩:=hrel;clear O Q;by_cases z:k<ns.length
  ·obtain⟨b,ah,rfl,Y⟩:=(hr.below A) (by omega)
   obtain⟨ai,ci,aa,ab,V⟩:=Y k z;have R:=U _ (O6 z);have I:=a8 L;have J:=a8 A;clear Y hr U L A;go_wp2_with fail;refine(Et ai ci ns[k].1 ns[k].2 wr R V).mono ?_;rintro e N ⟨x,rfl,Z,K⟩;have G:=I.below K;have M:dR N (w.heap.size+1) x ns[k].1:=Z.mono I.1;obtain⟨ad,ae,af,ag⟩:=G.cells z;have E:Hid (mp ((N.setCell ⟨w.heap.size,k*2,none⟩ x).setCell ⟨w.heap.size,k*2+1,none⟩ (.int .i64 ns[k].2)) w.heap.size (k+1) ns∧Below w.heap.size w ((N.setCell ⟨w.heap.size,k*2,none⟩ x).setCell ⟨w.heap.size,k*2+1,none⟩ (.int .i64 ns[k].2))):=
    ⟨G.next z M,((J.trans (K.mono J.size)).setCell (OV _) _).setCell (OV _) _⟩
   obtain⟨ax,cx,ac⟩:=M.slice;clear G M Z K I J V aa ab R;generalize ns[k].2=sf at E⊢;subst ac;generalize ns[k].1.length=n0 at E⊢;go_wp2;go_roundw
   case rel=>exact⟨k+1,by omega,by go_num,E.1,E.2⟩
   case measure=>simp[intOf];omega
  ·obtain rfl:k=ns.length:=(by omega);go_wp2;go_ret;exact⟨rfl,L.done,A⟩
structure dO where
 nodes:List (LN×Int)
 names:List (BA×Int)
 kept:List (BA×Int)
 pend:List (Int×BA×BA×Int)
 quota:Int
def ji(w:World)(v:Value)(D:dO):Prop:=∃a1 c1 a2 c2 a3 c3 a4 c4,v= .agg #[.slice a1 D.nodes.length c1,.slice a2 D.names.length c2,.slice a3 D.kept.length c3,.slice a4 D.pend.length c4,.int .i64 D.quota]∧ja w a1 D.nodes∧fI w a2 D.names∧fI w a3 D.kept∧o9 w a4 D.pend
theorem ji.below{v:Value}{D:dO}(h:ji w v D)(z:Below w.heap.size w w'):ji w' v D:=by
 obtain⟨A,J,E,K,G,L,I,M,e,N,O,Q,R⟩:=h;exact⟨A,J,E,K,G,L,I,M,e,N.below z,O.below z,Q.below z,R.below z⟩
def Hm(w:World)(base:Nat)(v:Value)(D:dO):Prop:=∃v1 v2 v3 v4,v= .agg #[v1,v2,v3,v4,.int .i64 D.quota]∧nr w base v1 D.nodes∧ib w base v2 D.names∧ib w base v3 D.kept∧mL w base v4 D.pend
theorem nr.slice{v:Value}{ns:List (LN×Int)}(h:nr w z v ns):∃a cap,v= .slice a ns.length cap:=by
 obtain⟨G,E,A,_⟩:=h;rw[←E];exact A.slice
theorem ib.slice{v:Value}{z:List (BA×Int)}(h:ib w A v z):∃a cap,v= .slice a z.length cap:=by
 have:=fJ.slice h;simpa using this
theorem mL.slice{v:Value}{z:List (Int×BA×BA×Int)}(h:mL w A v z):∃a cap,v= .slice a z.length cap:=by
 have:=gy.slice h;simpa using this
theorem Hm.at{I:Nat}{v:Value}{D:dO}(h:Hm w I v D):ji w v D:=by
 obtain⟨v1,v2,v3,v4,rfl,z,A,E,G⟩:=h;obtain⟨J,N,rfl⟩:=z.slice;obtain⟨K,O,rfl⟩:=A.slice;obtain⟨L,Q,rfl⟩:=E.slice;obtain⟨M,R,rfl⟩:=G.slice;exact⟨J,N,K,O,L,Q,M,R,rfl,z.at,A.at,E.at,G.at⟩
theorem fJ.mono{v:Value}{l:List (Value×Value)}(h:fJ w z e v l)(I:base'≤z):fJ w base' e v l:=by
 refine⟨h.1,?_⟩;rcases h.2 with J|⟨g,cap,E,K,G,A⟩
 ·exact .inl J
 ·exact .inr ⟨g,cap,E,K,O0 I G,A⟩
theorem gy.mono{v:Value}{l:List V4}(h:gy w z e v l)(I:base'≤z):gy w base' e v l:=by
 refine⟨h.1,?_⟩;rcases h.2 with J|⟨g,cap,E,K,G,A⟩
 ·exact .inl J
 ·exact .inr ⟨g,cap,E,K,O0 I G,A⟩
theorem fJ.set_low{v:Value}{l:List (Value×Value)}(h:fJ w z e v l)(L:p.block<z)(u:Value):fJ (w.setCell p u) z e v l:=by
 refine⟨h.1,?_⟩;rcases h.2 with J|⟨g,cap,G,K,A,I,E⟩
 ·exact .inl J
 ·exact .inr ⟨g,cap,G,K,A,(OQ w p g u (by omega)).trans I,E⟩
theorem gy.set_low{v:Value}{l:List V4}(h:gy w z e v l)(L:p.block<z)(u:Value):gy (w.setCell p u) z e v l:=by
 refine⟨h.1,?_⟩;rcases h.2 with J|⟨g,cap,G,K,A,I,E⟩
 ·exact .inl J
 ·exact .inr ⟨g,cap,G,K,A,(OQ w p g u (by omega)).trans I,E⟩
theorem nr.mono{v:Value}{ns:List (LN×Int)}(h:nr w z v ns)(A:base'≤z):nr w base' v ns:=by
 obtain⟨K,G,E,hi⟩:=h;exact⟨K,G,E.mono A,fun i h=>by obtain⟨x,J,I⟩:=hi i h;exact⟨x,J,I.mono A⟩⟩
theorem nr.set_low{v:Value}{ns:List (LN×Int)}(h:nr w z v ns)(A:p.block<z)(u:Value):nr (w.setCell p u) z v ns:=by
 obtain⟨K,G,E,hi⟩:=h;exact⟨K,G,E.set_low A u,fun i h=>by obtain⟨x,J,I⟩:=hi i h;exact⟨x,J,I.set_low A u⟩⟩
theorem nr.below{v:Value}{ns:List (LN×Int)}(h:nr w z v ns)(A:Below w.heap.size w w'):nr w' z v ns:=by
 obtain⟨K,G,E,hi⟩:=h;exact⟨K,G,E.below A (OV _),fun i h=>by obtain⟨x,J,I⟩:=hi i h;exact⟨x,J,I.below A (OV _)⟩⟩
theorem ib.mono{v:Value}{A:List (BA×Int)}(h:ib w z v A)(E:base'≤z):ib w base' v A:=fJ.mono h E
theorem ib.set_low{v:Value}{A:List (BA×Int)}(h:ib w z v A)(E:p.block<z)(u:Value):ib (w.setCell p u) z v A:=fJ.set_low h E u
theorem ib.below{v:Value}{A:List (BA×Int)}(h:ib w z v A)(E:Below w.heap.size w w'):ib w' z v A:=fJ.below h E (OV _)
theorem mL.mono{v:Value}{A:List (Int×BA×BA×Int)}(h:mL w z v A)(E:base'≤z):mL w base' v A:=gy.mono h E
theorem mL.set_low{v:Value}{A:List (Int×BA×BA×Int)}(h:mL w z v A)(E:p.block<z)(u:Value):mL (w.setCell p u) z v A:=gy.set_low h E u
def TD(w wj:World)(B:Nat)(A res cur:Array Value):Prop:=ed wj B A 26∧ed wj (B+1) res 34∧ed wj (B+1+1) cur 34∧Below B w wj∧B+3≤wj.heap.size
theorem TD.start(w:World)(A z E:Array Value):TD w (((w.alloc (.cells A 26)).alloc (.cells z 34)).alloc (.cells E 34)) w.heap.size A z E:=by
 refine⟨?_,?_,?_,((nAl w _).alloc (by simp) _).alloc (by simp;omega) _,by simp⟩
 ·exact ed.below (B:=w.heap.size+2) (ed.below (B:=w.heap.size+1) (ed.new w _ _) ((OX _ _).alloc (by simp) _) (by omega)) ((OX _ _).alloc (by simp) _) (by omega)
 ·have h:=ed.new (w.alloc (.cells A 26)) z 34;rw[show(w.alloc (.cells A 26)).heap.size=w.heap.size+1 from by simp] at h;exact ed.below (B:=w.heap.size+2) h ((OX _ _).alloc (by simp) _) (by omega)
 ·have h:=ed.new ((w.alloc (.cells A 26)).alloc (.cells z 34)) E 34;rw[show((w.alloc (.cells A 26)).alloc (.cells z 34)).heap.size=w.heap.size+1+1 from by simp] at h;exact h
theorem TD.below{E:World}{A I G:Array Value}(h:TD w E B A I G)(z:Below E.heap.size E w'):TD w w' B A I G:=by
 obtain⟨J,K,L,M,N⟩:=h;exact⟨J.below z J.lt,K.below z K.lt,L.below z L.lt,M.trans (z.mono (by omega)),O0 N z.size⟩
theorem TD.setOut{G:World}{A E z:Array Value}(h:TD w G B A E z)(j:Nat)(u:Value):TD w (G.setCell ⟨B+1+1,j,none⟩ u) B A E (z.setIfInBounds j u):=by
 obtain⟨I,J,K,L,M⟩:=h;exact⟨I.other (by simp;omega) u,J.other (by simp) u,K.set j u,L.setCell (by simp;omega) u,by simpa using M⟩
theorem TD.setRes{G:World}{A E z:Array Value}(h:TD w G B A E z)(j:Nat)(u:Value):TD w (G.setCell ⟨B+1,j,none⟩ u) B A (E.setIfInBounds j u) z:=by
 obtain⟨I,J,K,L,M⟩:=h;exact⟨I.other (by simp) u,J.set j u,K.other (by simp) u,L.setCell (by simp) u,by simpa using M⟩
abbrev dkA(a1:OA)(c1:Nat)(a2:OA)(c2:Nat)(a3:OA)(c3:Nat)(a4:OA)(c4:Nat)(D:dO):Array Value:= #[.slice a1 D.nodes.length c1,.slice a2 D.names.length c2,.slice a3 D.kept.length c3,.slice a4 D.pend.length c4,.int .i64 D.quota]
def okB(x:UInt8):Bool:=decide (33≤x.toNat∧x.toNat≤126)
def eX(s:BA):Bool:=decide (1≤s.size∧s.size≤80∧∀i,i<s.size→okB (s.get! i)=true)
theorem oA{s:BA}(h:i<s.size)(z:okB (s.get! i)=false):eX s=false:=by
 unfold eX;refine OM fun A=> ?_;rw[A.2.2 i h] at z;simp at z
theorem Ar(s:BA)(k:Nat)(h:k<s.size):s.get! k=s[k]'h:=by
 show s.data[k]! =_;rw[getElem!_pos s.data k h];rfl
theorem eS(s:BA)(w:World)(N:s.size≤9223372036854775807):
  Calls prog 96 #[.string s] w fun e w'=>e= .returned (.bool (eX s))∧w'=w:=by
 by_cases K:s.size<1
 ·have z:eX s=false:=OM fun h=>(by omega);rw[z];go_enter func96,ntmps96;go_wp2;go_ret;exact⟨rfl,rfl⟩
 by_cases L:80<s.size
 ·have z:eX s=false:=OM fun h=>(by omega);rw[z];go_enter func96,ntmps96;go_wp2;go_ret;exact⟨rfl,rfl⟩
 go_enter func96,ntmps96;go_wp2;go_loop [3] (fun i=>∃k:Nat,k≤s.size∧i= .int .i64 k∧∀i,i<k→okB (s.get! i)=true) (fun i=>s.size-(intOf i).toNat)
 case atStart=>exact⟨0,O4 _,rfl,fun i h=>by omega⟩
 case round=>
  obtain⟨k,M,rfl,G⟩:=hrel;have I:=a8 G;clear G;by_cases A:k<s.size
  ·have E:=a8 (Ar s k A);by_cases lo:s[k].toNat<33
   ·go_wp2;go_ret;exact⟨eN (oA A (by rw[E.out];exact OM fun h=>by omega)).symm,rfl⟩
   ·by_cases hi:126<s[k].toNat
    ·go_wp2;go_ret;exact⟨eN (oA A (by rw[E.out];exact OM fun h=>by omega)).symm,rfl⟩
    ·have J:=a8 (show okB (s.get! k)=true from by rw[E.out];exact ON ⟨by omega,by omega⟩);go_wp2;go_round
     case rel=>exact⟨k+1,by omega,by go_num,fun i h=>by
      by_cases e:i=k
      ·rw[e];exact J
      ·exact I.out i (by omega)⟩
     case measure=>simp[intOf];omega
  ·have z:eX s=true:=ON ⟨by omega,by omega,fun i h=>I.out i (by omega)⟩;go_wp2;go_ret;exact⟨rfl,rfl⟩
theorem kQ(s:BA)(w:World)(Z:s.size≤9223372036854775807):
  Calls prog 107 #[.string s] w fun e w'=>e= .returned (.bool (eX s))∧Below w.heap.size w w':=by
 by_cases R:s.size<1
 ·have A:eX s=false:=OM fun h=>(by omega);rw[A];go_enter func107,ntmps107;go_wp2;go_ret;exact⟨rfl,OX _ _⟩
 by_cases U:80<s.size
 ·have A:eX s=false:=OM fun h=>(by omega);rw[A];go_enter func107,ntmps107;go_wp2;go_ret;exact⟨rfl,OX _ _⟩
 have G:=run_bytes_of_string (P:=prog) w 9 52 5 s (by kernel_rfl) (by kernel_rfl) (by kernel_rfl);generalize N:grownCap w s.size 0 5=cap at G;have E:∀j (h:j<s.size),(w.drew.alloc (.cells (bytesRow s cap) 5 ((bytesRow s cap).size,(bytesRow s cap).size+1))).cell? ⟨w.heap.size,j,none⟩=some (.int .u8 (s[j].toNat:Int)):=fun j h=>by
  have e:=World.cell?_alloc_mark w.drew (bytesRow s cap) 5 ((bytesRow s cap).size,(bytesRow s cap).size+1) j;rw[bytesRow_at s cap j h] at e;exact e
 have I:Below w.heap.size w (w.drew.alloc (.cells (bytesRow s cap) 5 ((bytesRow s cap).size,(bytesRow s cap).size+1))):=(OX _ _).drew.alloc (OV _) _;generalize (w.drew.alloc (.cells (bytesRow s cap) 5 ((bytesRow s cap).size,(bytesRow s cap).size+1)))=w1 at G E I;have K:=a8 I;have O:=a8 E;clear I E N;go_enter func107,ntmps107;go_wp2;clear G;go_loop [16] (fun i=>∃k:Nat,k≤s.size∧i= .int .i64 k∧∀i,i<k→okB (s.get! i)=true) (fun i=>s.size-(intOf i).toNat)
 case atStart=>exact⟨0,O4 _,rfl,fun i h=>by omega⟩
 case round=>
  obtain⟨k,Y,rfl,L⟩:=hrel;have M:=a8 L;clear L;by_cases z:k<s.size
  ·have J:=a8 (Ar s k z);have V:=O.out k z;by_cases lo:s[k].toNat<33
   ·go_wp2;go_ret;exact⟨eN (oA z (by rw[J.out];exact OM fun h=>by omega)).symm,K⟩
   ·by_cases hi:126<s[k].toNat
    ·go_wp2;go_ret;exact⟨eN (oA z (by rw[J.out];exact OM fun h=>by omega)).symm,K⟩
    ·have Q:=a8 (show okB (s.get! k)=true from by rw[J.out];exact ON ⟨by omega,by omega⟩);go_wp2;go_round
     case rel=>exact⟨k+1,by omega,by go_num,fun i h=>by
      by_cases e:i=k
      ·rw[e];exact Q
      ·exact M.out i (by omega)⟩
     case measure=>simp[intOf];omega
  ·have A:eX s=true:=ON ⟨by omega,by omega,fun i h=>M.out i (by omega)⟩;go_wp2;go_ret;exact⟨rfl,K⟩
def mB(nodes:Int)(e:BA×Int):Bool:=decide (eX e.1=true∧0≤e.2∧e.2<nodes)
def apart(x y:BA×Int):Bool:=decide (Op.bytesLess x.1.toList y.1.toList=true∧x.2≠y.2)
def eU(nodes:Int)(es:List (BA×Int)):Bool:=decide (es.length≤300∧∀i (h:i<es.length),mB nodes es[i]=true∧∀k (hk:k<i),apart es[k] es[i]=true)
theorem uu{nodes:Int}{z:List (BA×Int)}(h:i<z.length)(A:mB nodes z[i]=false):eU nodes z=false:=by
 unfold eU;refine OM fun E=> ?_;rw[(E.2 i h).1] at A;simp at A
theorem uv{nodes:Int}{z:List (BA×Int)}(h:i<z.length)(G:k<i)(A:apart z[k] z[i]=false):eU nodes z=false:=by
 unfold eU;refine OM fun E=> ?_;rw[(E.2 i h).2 k G] at A;simp at A
theorem oU(a:OA)(cap:Nat)(z:List (BA×Int))(nodes:Int)(w:World)(hn:z.length≤9223372036854775807)(ag:∀e∈z,e.1.size≤9223372036854775807)(hr:fI w a z):
  Calls prog 67 #[.slice a z.length cap,.int .i64 nodes] w fun e w'=>e= .returned (.bool (eU nodes z))∧Below w.heap.size w w':=by
 by_cases h6:300<z.length
 ·have U:eU nodes z=false:=OM fun h=>(by omega);rw[U];go_enter func67,ntmps67;go_wp2;go_ret;exact⟨rfl,OX _ _⟩
 go_enter func67,ntmps67;go_wp2;go_loopw [13] (fun i wr=>∃k:Nat,k≤z.length∧i= .int .i64 k∧(∀i (h:i<z.length),i<k→mB nodes z[i]=true∧∀k (hk:k<i),apart z[k] z[i]=true)∧Below w.heap.size w wr) (fun i _=>z.length-(intOf i).toNat)
 case atStart=>exact⟨0,O4 _,rfl,fun i _ h=>by omega,OX _ _⟩
 case round=>
  obtain⟨k,hk,rfl,aj,E⟩:=hrel;have HK:=a8 aj;have HR:=a8 hr;have ac:=a8 E;clear aj;by_cases R:k<z.length
  ·obtain⟨b,ax,ha,hc⟩:=(hr.below E) (by omega)
   have HA:=a8 ha;subst ha;obtain⟨Z,aa⟩:=hc k R;have Q:=ag _ (O6 R);have J:=a8 (E.alloc E.size (.cells #[.string z[k].1,.int .i64 z[k].2] 63));have L:=a8 (ed.new wr #[.string z[k].1,.int .i64 z[k].2] 63);have A:=a8 (uu (nodes:=nodes) R);have I:=a8 (show mB nodes z[k]=decide (eX z[k].1=true∧0≤z[k].2∧z[k].2<nodes) from rfl);clear hc hr E ag;generalize ai:z[k].1=nm at Z J L I Q;generalize ah:z[k].2=nd at aa J L I;have ao:=a8 ai;have an:=a8 ah;clear ai ah;by_cases M:eX nm=true
   ·go_wp2_with fail;refine(eS nm _ Q).mono ?_;rintro e w2 ⟨rfl,rfl⟩;rw[M];have al:=a8 M;clear M Z aa;by_cases g2:nd<0
    ·go_wp2;go_ret;exact⟨eN (A.out (by rw[I.out];exact OM fun h=>by omega)).symm,J⟩
    by_cases g3:nodes≤nd
    ·go_wp2;go_ret;exact⟨eN (A.out (by rw[I.out];exact OM fun h=>by omega)).symm,J⟩
    go_wp2;have HE:=a8 (show mB nodes z[k]=true from by rw[I.out];exact ON ⟨al,by omega,by omega⟩);generalize wr.alloc (.cells #[.string nm,.int .i64 nd] 63)=w3 at J L⊢;generalize wr.heap.size=B at L⊢;clear ac A I g2 g3 Q;go_loopw [7] (fun j wx=>∃m:Nat,m≤k∧j= .int .i64 m∧(∀i (h:i<z.length),i<m→apart z[i] z[k]=true)∧Below w.heap.size w wx∧ed wx B #[.string nm,.int .i64 nd] 63) (fun j _=>k-(intOf j).toNat)
    case atStart=>exact⟨0,O4 _,rfl,fun i _ h=>by omega,J,L⟩
    case round=>
     obtain⟨m,hm,rfl,ad,E,V⟩:=hrel;have ab:=a8 ad;have N:=a8 E;have am:=a8 V;by_cases aq:m<k
     ·obtain⟨b',av,ae,af⟩:=(HR.below E) (by omega)
      simp only[OY,PG,and_true] at ae;obtain⟨rfl,rfl⟩:=ae;obtain⟨ar,au⟩:=af m (by omega);have q0:wr.cell? ⟨B,0,none⟩=some (.string nm):=(by rw[V.cell];rfl);have q1:wr.cell? ⟨B,1,none⟩=some (.int .i64 nd):=(by rw[V.cell];rfl);have A:=a8 (uv (nodes:=nodes) R aq);have G:=a8 (show apart z[m] z[k]=decide (Op.bytesLess z[m].1.toList nm.toList=true∧z[m].2≠nd) from by unfold apart;rw[ao.out,an.out]);clear af E V ad;generalize z[m].1=xm at ar G;generalize z[m].2=xd at au G;by_cases O:Op.bytesLess xm.toList nm.toList=true
      ·by_cases K:xd=nd
       ·have hd2:(xd==nd)=true:=(by simp[K]);have Y:=a8 (A.out (by rw[G.out];exact OM fun h=>h.2 K));clear K G A;go_wp2;go_quiet(fail);go_wp2;go_ret;exact⟨eN Y.symm,OI N _⟩
       ·have hd2:(xd==nd)=false:=(by simp[K]);have ak:=a8 (show apart z[m] z[k]=true from by rw[G.out];exact ON ⟨O,K⟩);clear K G A;go_wp2;go_quiet(fail);go_wp2;go_roundw
        case rel=>exact⟨m+1,by omega,by go_num,fun i h h'=>by
         by_cases e:i=m
         ·subst e;exact ak
         ·exact ab.out i h (by omega),OI N _,am⟩
        case measure=>simp[intOf];omega
      ·have aw:Op.bytesLess xm.toList nm.toList=false:=(by simpa using O);have Y:=a8 (A.out (by rw[G.out];exact OM fun h=>O h.1));clear O G A;go_wp2;go_quiet(fail);go_wp2;go_ret;exact⟨eN Y.symm,OI N _⟩
     ·go_wp2;refine⟨⟨k+1,by omega,by go_num,fun i h h'=> ?_,N⟩,by simp[intOf];omega⟩;by_cases e:i=k
      ·subst e;exact⟨HE,fun j hj=>ab.out j (by omega) (by omega)⟩
      ·exact HK.out i h (by omega)
   ·have ap:eX nm=false:=(by simpa using M);go_wp2_with fail;refine(eS nm _ Q).mono ?_;rintro e w2 ⟨rfl,rfl⟩;rw[ap];clear Z aa;go_wp2;go_ret;exact⟨eN (A.out (by rw[I.out];exact OM fun h=>M h.1)).symm,J⟩
  ·have U:eU nodes z=true:=ON ⟨by omega,fun i h=>HK.out i h (by omega)⟩;have HF:=a8 U;clear U;go_wp2;go_ret;exact⟨eN HF.symm,ac⟩
theorem pC(x:BA):x.toList=x.data.toList:=by
 exact OC x
theorem pB{x y:BA}(h:x.toList=y.toList):x=y:=by
 rw[pC,pC] at h;cases x;cases y;simpa using h
theorem iE{x y:BA}(h:x=y):(x.toList==y.toList)=true:=by rw[h];simp
theorem iF{x y:BA}(h:x≠y):(x.toList==y.toList)=false:=by
 by_cases e:x.toList=y.toList
 ·exact OH (pB e) h
 ·simpa using e
theorem Dq(a:OA)(cap:Nat)(z:List (BA×Int))(nm:BA)(w:World)(Y:z.length≤9223372036854775807)(N:fI w a z):
  Calls prog 46 #[.slice a z.length cap,.string nm] w fun e w'=>((∃i,∃h:i<z.length,z[i].1=nm∧(∀k (Q:k<i),z[k].1≠nm)∧e= .returned (.int .i64 (i:Int)))∨((∀i (h:i<z.length),z[i].1≠nm)∧e= .returned (.int .i64 (-1))))∧w'=w:=by
 go_enter func46,ntmps46;go_wp2;go_loop [8] (fun i=>∃k:Nat,k≤z.length∧i= .int .i64 k∧∀i (h:i<z.length),i<k→z[i].1≠nm) (fun i=>z.length-(intOf i).toNat)
 case atStart=>exact⟨0,O4 _,rfl,fun i _ h=>by omega⟩
 case round=>
  obtain⟨k,Q,rfl,L⟩:=hrel;have G:=a8 L;clear L;by_cases K:k<z.length
  ·obtain⟨b,U,rfl,M⟩:=N (by omega);obtain⟨J,_⟩:=M k K;clear M N;by_cases A:z[k].1=nm
   ·have I:=a8 A;have E:=iE A;clear A;generalize z[k].1=R at J E;go_wp2;go_ret;exact⟨.inl ⟨k,K,I,fun i hi=>G.out i (by omega) hi,rfl⟩,rfl⟩
   ·have I:=a8 A;have E:=iF A;clear A;generalize O:z[k].1=R at J E;clear O;go_wp2;go_round
    case rel=>exact⟨k+1,by omega,by go_num,fun i h V=>by
     by_cases e:i=k
     ·subst e;exact I
     ·exact G.out i h (by omega)⟩
    case measure=>simp[intOf];omega
  ·go_wp2;go_ret;exact⟨.inr ⟨fun i h=>G.out i h (by omega),rfl⟩,rfl⟩
theorem oQ{l m:List (BA×Int)}(E:k<l.length)(G:k<m.length)(h:l.take k=m.take k)(z:l[k].1=m[k].1)(A:l[k].2=m[k].2):l.take (k+1)=m.take (k+1):=by
 rw[O5 E,O5 G,h,Prod.ext z A]
theorem Dr(a O:OA)(cap ad:Nat)(z ms:List (BA×Int))(w:World)(hl:z.length≤9223372036854775807)(hr:fI w a z)(ab:fI w O ms):
  Calls prog 69 #[.slice a z.length cap,.slice O ms.length ad] w fun e w'=>(∃r:Bool,e= .returned (.bool r)∧(r=true↔z=ms))∧∃n,w'=w.drewN n:=by
 by_cases M:z.length=ms.length
 ·have ai:((z.length:Int) !=(ms.length:Int))=false:=(by simp;omega);have HL:Hid (z.length=ms.length):=M;clear M;go_enter func69,ntmps69;go_wp2;go_loopw [13] (fun i wr=>∃k:Nat,k≤z.length∧i= .int .i64 k∧z.take k=ms.take k∧∃n,wr=w.drewN n) (fun i _=>z.length-(intOf i).toNat)
  case atStart=>exact⟨0,O4 _,rfl,rfl,0,rfl⟩
  case round=>
   obtain⟨k,hk,rfl,K,J⟩:=hrel;have L:Hid (∃n,wr=w.drewN n):=J;have ac:fI wr a z:=(by obtain⟨n,rfl⟩:=J;exact hr);have Y:fI wr O ms:=(by obtain⟨n,rfl⟩:=J;exact ab);clear J hr ab;by_cases aa:k<z.length
   ·have V:k<ms.length:=(by have:=HL.out;omega);obtain⟨b,ak,rfl,hc⟩:=ac (by omega);obtain⟨b',aj,rfl,Z⟩:=Y (by omega);obtain⟨c0,c1⟩:=hc k aa;obtain⟨d0,d1⟩:=Z k V;have HT:Hid (z.take k=ms.take k):=K;have A:=a8 (fun(h:z=ms)=>(show z[k].1=ms[k].1∧z[k].2=ms[k].2 from by subst h;exact⟨rfl,rfl⟩));have E:=a8 (fun Q R=>oQ aa V K Q R);clear hc Z K ac Y;generalize z[k].1=x1 at c0 A E;generalize z[k].2=x2 at c1 A E;generalize ms[k].1=y1 at d0 A E;generalize ms[k].2=U at d1 A E;by_cases G:x1=y1
    ·have ag:=iE G;by_cases I:x2=U
     ·have ah:(x2 !=U)=false:=(by simp[I]);have af:=a8 (E.out G I);clear G I A E;go_wp2;go_quiet(fail);go_wp2;go_roundw
      case rel=>exact⟨k+1,by omega,by go_num,af,jp L _⟩
      case measure=>simp[intOf];omega
     ·have ah:(x2 !=U)=true:=(by simp[I]);have N:=a8 (fun h=>I (A.out h).2);clear G I A E;go_wp2;go_quiet(fail);go_wp2;go_ret;exact⟨⟨false,rfl,⟨fun h=>by simp at h,fun h=>OH h N.out⟩⟩,jp L.out _⟩
    ·have ag:=iF G;have N:=a8 (fun h=>G (A.out h).1);clear G A E;go_wp2;go_quiet(fail);go_wp2;go_ret;exact⟨⟨false,rfl,⟨fun h=>by simp at h,fun h=>OH h N.out⟩⟩,jp L.out _⟩
   ·have ae:Hid (z=ms):=by
     have Q:z.take k=z:=Pc (by omega);have R:ms.take k=ms:=Pc (by have:=HL.out;omega);rw[←Q,←R,K];exact rfl
    go_wp2;go_ret;exact⟨⟨true,rfl,⟨fun _=>ae.out,fun _=>rfl⟩⟩,L⟩
 ·have ai:((z.length:Int) !=(ms.length:Int))=true:=(by simp;omega);go_enter func69,ntmps69;go_wp2;go_ret;exact⟨⟨false,rfl,⟨fun h=>by simp at h,fun h=>OH (by rw[h]) M⟩⟩,0,rfl⟩
theorem Eu(l m:List (Value×Value)):two (l++m)=two l++two m:=by simp[two]
theorem e8{L:Array Oper}{K:List Oper}{G:Act}(w:World)(V:o.guard=none)(s x:Operand)
  (ho:o.op= .call {callee:= .builtin .append,args:= #[s,x],argTypes:= #[31,31]})
  (A:Nat) (v:Value) (z:List (BA×Int)) (e:BA×Int) (I c:Nat) (hs:G.eval s=v) (hx:G.eval x=sS I 1 c) (U:ib w A v z)
  (h0:w.cell? ⟨I,0,none⟩=some (.string e.1)) (h1:w.cell? ⟨I,1,none⟩=some (.int .i64 e.2)) (ab:z.length≤1048576) (N:A≤w.heap.size)
  (h:∀J w',ib w' A J (z++[e])→w.grownBy w' v.ownBlock→wpList prog L Q K (G.put o.dst J) w'):wpList prog L Q (o::K) G w:=by
 obtain⟨i0,hi,Y,Z,aa⟩:=info_parts qT;have O:w.ownsRow A 63 2 v z.length (two (z.map yd)):=(by have:=U;unfold ib fJ at this;rw[OW] at this;exact this);refine wpList_append_own w V s x 31 ho A 63 i0 (.agg #[.string ByteArray.empty,.int .i64 0]) 2 24 underlying31 hi Y Z aa rfl (by decide) v z.length (two (z.map yd)) hs O ⟨I,0,none⟩ 1 c [.string e.1,.int .i64 e.2] hx (by simp) ?_ ?_ (by unfold maxLen;omega) (by omega) N ?_
 ·intro j u E;rw[ez]
  match j with
  |0=>simp only[Py,OY] at E;rw[←E];exact h0
  |1=>simp only[Px,Py,OY] at E;rw[←E];exact h1
  |j+2=>simp at E
 ·intro u M;simp only[Pd,Pw,or_false] at M;rcases M with rfl|rfl<;>rfl
 ·intro J w' R hg _;refine h J w' ?_ hg;unfold ib fJ;rw[OW,O1,O7,Eu];exact R
theorem mi(a:OA)(cap:Nat)(z:List (BA×Int))(nm:BA)(w:World)(hn:z.length≤1048575)(hr:fI w a z):
  Calls prog 98 #[.slice a z.length cap,.string nm] w fun e w'=>∃v,e= .returned v∧ib w' w.heap.size v (z.filter fun e=>decide (e.1≠nm))∧Below w.heap.size w w':=by
 go_enter func98,ntmps98;go_wp2;go_loopw [5,10] (fun v i wr=>∃k:Nat,k≤z.length∧i= .int .i64 k∧ib wr w.heap.size v ((z.take k).filter fun e=>decide (e.1≠nm))∧Below w.heap.size w wr) (fun _ i _=>z.length-(intOf i).toNat)
 case atStart=>exact⟨0,O4 _,rfl,World.ownsRow_nil w w.heap.size 63 2,OX _ _⟩
 case round=>
  obtain⟨k,hk,rfl,A,O⟩:=hrel;by_cases ac:k<z.length
  ·obtain⟨b,ag,rfl,hc⟩:=(hr.below O) (by omega)
   obtain⟨Z,aa⟩:=hc k ac;have R:=a8 (O5 ac);have ab:((z.take k).filter fun e=>decide (e.1≠nm)).length≤1048576:=O0 (PK _ _) (by simp;omega);have Y:=(A.below ((OX _ _).alloc (OV _) (.cells #[.string z[k].1,.int .i64 z[k].2] 63))).below ((OX _ _).alloc (OV _) (.cells #[.string z[k].1,.int .i64 z[k].2] 63));have G:=a8 (A.below ((OX _ _).alloc (OV _) (.cells #[.string z[k].1,.int .i64 z[k].2] 63)));have Q:=O.alloc O.size (.cells #[.string z[k].1,.int .i64 z[k].2] 63);have N:=a8 Q;have E:=a8 (Q.alloc Q.size (.cells #[.string z[k].1,.int .i64 z[k].2] 63));have U:=ed.new (wr.alloc (.cells #[.string z[k].1,.int .i64 z[k].2] 63)) #[.string z[k].1,.int .i64 z[k].2] 63;rw[show(wr.alloc (.cells #[.string z[k].1,.int .i64 z[k].2] 63)).heap.size=wr.heap.size+1 from by simp] at U;have L:=a8 (U.cell 0);have M:=a8 (U.cell 1);have ad:=a8 (OF A);have I:=a8 Y;clear hc hr A Y O Q U;by_cases K:z[k].1=nm
   ·have V:=iE K;have J:=a8 (show((z.take (k+1)).filter fun e=>decide (e.1≠nm))=((z.take k).filter fun e=>decide (e.1≠nm)) from by rw[R.out,List.filter_append];simp[K]);clear R K;generalize z[k].1=x0 at Z V N E G I L M;generalize z[k].2=x1 at aa N E G I L M;go_wp2;go_roundw
    case rel=>exact⟨k+1,by omega,by go_num,by rw[J.out];exact G.out,N⟩
    case measure=>simp[intOf];omega
   ·have V:=iF K;have J:=a8 (show((z.take (k+1)).filter fun e=>decide (e.1≠nm))=((z.take k).filter fun e=>decide (e.1≠nm))++[(z[k].1,z[k].2)] from by rw[R.out,List.filter_append];simp[K]);clear R K;generalize z[k].1=x0 at Z V N E G I L M J;generalize z[k].2=x1 at aa N E G I L M J;generalize ((z.take k).filter fun e=>decide (e.1≠nm))=fl at ab G I J;go_wp2_with (first
     |(at_builtin;refine e8 _ rfl (.tmp 18) (.tmp 20) rfl w.heap.size u5 fl (x0,x1) (wr.heap.size+1) 1 rfl rfl ?_ ?_ ?_ ab ?_ ?_;(exact I.out);(exact L.out);(exact M.out);(exact E.size);intro v3 w3 af ae)
     |go_in)
    exact⟨⟨k+1,by omega,by go_num,by rw[J.out];exact af,E.grown ae E.size (fun j hj=>(ad.out j hj).1)⟩,by simp[intOf];omega⟩
  ·have he:z.take k=z:=Pc (by omega);rw[he] at A;have HO:=a8 A;clear A he;go_wp2;go_ret;exact⟨_,rfl,HO,O⟩
def gtB(x nm:BA):Bool:= !(Op.bytesLess x.toList nm.toList||x.toList==nm.toList)
def iL(l:List (BA×Int))(nm:BA):Nat:=l.findIdx fun e=>gtB e.1 nm
def kh(l:List (BA×Int))(nm:BA)(nd:Int):List (BA×Int):=l.take (iL l nm)++(nm,nd)::l.drop (iL l nm)
def lG(l:List (BA×Int))(nm:BA)(nd:Int)(k:Nat):List (BA×Int):=if k≤iL l nm then l.take k else l.take (iL l nm)++(nm,nd)::(l.take k).drop (iL l nm)
theorem LI{l:List (BA×Int)}{nm:BA}{nd:Int}(z:k<l.length)(h:k<iL l nm):lG l nm nd (k+1)=lG l nm nd k++[(l[k].1,l[k].2)]:=by
 unfold lG;rw[OS (by omega),OS (by omega),O5 z]
theorem LG{l:List (BA×Int)}{nm:BA}{nd:Int}(z:k<l.length)(h:k=iL l nm):lG l nm nd (k+1)=(lG l nm nd k++[(nm,nd)])++[(l[k].1,l[k].2)]:=by
 unfold lG;rw[OR (by omega),OS (by omega),←h,O5 z];have e:(l.take k++[l[k]]).drop k=[l[k]]:=by
  rw[List.drop_append_of_le_length (by simp;omega)];simp
 rw[e];simp
theorem LH{l:List (BA×Int)}{nm:BA}{nd:Int}(z:k<l.length)(h:iL l nm<k):lG l nm nd (k+1)=lG l nm nd k++[(l[k].1,l[k].2)]:=by
 unfold lG;rw[OR (by omega),OR (by omega),O5 z,List.drop_append_of_le_length (by simp;omega)];simp
theorem GC(l:List (BA×Int))(nm:BA)(nd:Int):lG l nm nd 0=[]:=by unfold lG;rw[OS (by omega)];rfl
theorem LU(l:List (BA×Int))(nm:BA):iL l nm≤l.length:=List.findIdx_le_length
theorem JH{l:List (BA×Int)}{nm:BA}{nd:Int}(h:iL l nm<l.length):lG l nm nd l.length=kh l nm nd:=by
 unfold lG kh;rw[OR (by omega),PA]
theorem GB{l:List (BA×Int)}{nm:BA}{nd:Int}(h:¬iL l nm<l.length):lG l nm nd l.length++[(nm,nd)]=kh l nm nd:=by
 have:=LU l nm;unfold lG kh;rw[OS (by omega),show iL l nm=l.length from by omega];simp
theorem JI(l:List (BA×Int))(nm:BA)(nd:Int)(k:Nat):(lG l nm nd k).length≤l.length+1:=by
 unfold lG;split<;>simp<;>omega
theorem NO{l:List (BA×Int)}{nm:BA}(z:k<l.length)(h:k=iL l nm):gtB l[k].1 nm=true:=by
 subst h;exact List.findIdx_getElem (w:=z)
theorem NP{l:List (BA×Int)}{nm:BA}(z:k<l.length)(h:k<iL l nm):gtB l[k].1 nm=false:=by
 have:=List.not_of_lt_findIdx h;simpa using this
theorem pH(w:World)(x:BA)(n:Int):(w.alloc (.cells #[.string x,.int .i64 n] 63)).cell? ⟨w.heap.size,0,none⟩=some (.string x)∧(w.alloc (.cells #[.string x,.int .i64 n] 63)).cell? ⟨w.heap.size,1,none⟩=some (.int .i64 n):=by
 have z:=ed.new w #[.string x,.int .i64 n] 63;exact⟨z.cell 0,z.cell 1⟩
theorem Ae(w:World)(o:Obj)(x:BA)(n:Int):((w.alloc o).alloc (.cells #[.string x,.int .i64 n] 63)).cell? ⟨w.heap.size+1,0,none⟩=some (.string x)∧((w.alloc o).alloc (.cells #[.string x,.int .i64 n] 63)).cell? ⟨w.heap.size+1,1,none⟩=some (.int .i64 n):=by
 have h:=pH (w.alloc o) x n;rw[show(w.alloc o).heap.size=w.heap.size+1 from by simp] at h;exact h
theorem ir{v:Value}{A:List (BA×Int)}(h:ib w z v A)(o:Obj):ib (w.alloc o) z v A:=h.below ((OX _ _).alloc (OV _) o)
theorem kL{A I:World}{v:Value}{J:List (BA×Int)}{E G:Obj}(K:Below z w A)(O:z≤A.heap.size)(N:ib A z v J)(L:((A.alloc E).alloc G).grownBy I v.ownBlock):Below z w I:=
 ((K.alloc O E).alloc (by simp;omega) G).grown L (by simp;omega) (fun j M=>(OF N j M).1)
theorem FO{z:World}{E:Nat}{v:Value}{G:List (BA×Int)}{x:BA}{n:Int}{o:Obj}(J:ib w E v G)(I:((w.alloc (.cells #[.string x,.int .i64 n] 63)).alloc o).grownBy z v.ownBlock):z.cell? ⟨w.heap.size,0,none⟩=some (.string x)∧z.cell? ⟨w.heap.size,1,none⟩=some (.int .i64 n):=by
 have K:ed ((w.alloc (.cells #[.string x,.int .i64 n] 63)).alloc o) w.heap.size #[.string x,.int .i64 n] 63:=ed.below (B:=w.heap.size+1) (ed.new w _ _) ((OX _ _).alloc (by simp) _) (by omega);have A:ed z w.heap.size #[.string x,.int .i64 n] 63:=(I.block w.heap.size (by simp;omega) (fun e=>by have:=(OF J _ e.symm).2;omega)).trans K;exact⟨A.cell 0,A.cell 1⟩
theorem tY(a:OA)(cap:Nat)(Y:List (BA×Int))(nm:BA)(nd:Int)(w:World)(hn:Y.length≤1048574)(hr:fI w a Y):
  Calls prog 97 #[.slice a Y.length cap,.string nm,.int .i64 nd] w fun e w'=>∃v,e= .returned v∧ib w' w.heap.size v (kh (Y.filter fun e=>decide (e.1≠nm)) nm nd)∧Below w.heap.size w w':=by
 go_enter func97,ntmps97;go_wp2_with fail;refine(mi a cap Y nm w (by omega) hr).mono ?_;rintro e I ⟨v1,rfl,ak,ap⟩;obtain⟨a1,c1,aB⟩:=ak.slice;subst aB;have aq:=ak.at;have ay:(Y.filter fun e=>decide (e.1≠nm)).length≤1048574:=O0 (PK _ _) hn;have af:=a8 ap;have am:=a8 aq;clear ak ap hr aq;generalize ar:(Y.filter fun e=>decide (e.1≠nm))=l at am ay;have an:=a8 ar;clear ar;go_wp2;go_loopw [7,8,15] (fun v d i wr=>∃k:Nat,k≤l.length∧i= .int .i64 k∧d= .bool (decide (iL l nm<k))∧ib wr I.heap.size v (lG l nm nd k)∧Below I.heap.size I wr) (fun _ _ i _=>l.length-(intOf i).toNat)
 case atStart=>exact⟨0,O4 _,rfl,by simp,by rw[GC];exact World.ownsRow_nil I I.heap.size 63 2,OX _ _⟩
 case round=>
  obtain⟨k,hk,rfl,rfl,U,L⟩:=hrel;have ae:=JI l nm nd k;by_cases ad:k<l.length
  ·obtain⟨b,aC,rfl,hc⟩:=(am.below L) (by omega)
   obtain⟨aw,ax⟩:=hc k ad;have ac:=a8 (fun h=>LI (nm:=nm) (nd:=nd) ad h);have aa:=a8 (fun h=>LG (nm:=nm) (nd:=nd) ad h);have ab:=a8 (fun h=>LH (nm:=nm) (nd:=nd) ad h);have ah:=a8 (fun h=>NO (nm:=nm) ad h);have ai:=a8 (fun h=>NP (nm:=nm) ad h);have z:=a8 U;have N:=a8 L;have G:=a8 L.size;clear hc U L;generalize l[k].1=Q at aw ac aa ab ah ai;generalize l[k].2=R at ax ac aa ab;have V:=a8 (Ae wr (.cells #[.string Q,.int .i64 R] 63) Q R);rcases Nat.lt_trichotomy k (iL l nm) with A|A|A
   ·have E:decide (iL l nm<k)=false:=(by simp;omega);rw[E];have hg:=ai.out A;have J:=a8 (ac.out A);have ag:=a8 (show Value.bool false= .bool (decide (iL l nm<k+1)) from by rw[OM (by omega)]);unfold gtB at hg;clear ac aa ab ah ai A E;generalize lG l nm nd k=O at z J ae;go_wp2_with (first
     |(at_builtin;refine e8 _ rfl (.tmp 33) (.tmp 35) rfl I.heap.size u7 O (Q,R) (wr.heap.size+1) 1 rfl rfl ?_ ?_ ?_ ?_ ?_ ?_;(exact ir (ir z _) _);(exact V.1);(exact V.2);omega;(exact O0 G (by simp;omega));intro v3 Z M K)
     |go_in)
    exact⟨⟨k+1,by omega,by go_num,ag,by rw[J.out];exact M,kL N G z K⟩,by simp[intOf];omega⟩
   ·have E:decide (iL l nm<k)=false:=(by simp;omega);rw[E];have hg:=ah.out A;have J:=a8 (aa.out A);have ag:=a8 (show Value.bool true= .bool (decide (iL l nm<k+1)) from by rw[ON (by omega)]);unfold gtB at hg;clear ac aa ab ah ai A E;generalize lG l nm nd k=O at z J ae;have al:=a8 (Ae wr (.cells #[.string Q,.int .i64 R] 63) nm nd);go_wp2_with (first
     |(at_builtin;refine e8 _ rfl (.tmp 27) (.tmp 31) rfl I.heap.size u7 O (nm,nd) (wr.heap.size+1) 1 rfl rfl ?_ ?_ ?_ ?_ ?_ ?_;(exact ir (ir z _) _);(exact al.1);(exact al.2);omega;(exact O0 G (by simp;omega));intro v3 Z M K;obtain⟨q3,q4⟩:=FO z K;have aj:=a8 (kL N G z K).size;have ao:=a8 M;have au:=a8 K;clear M K)
     |(at_builtin;refine e8 _ rfl (.tmp 33) (.tmp 35) rfl I.heap.size v3 (O++[(nm,nd)]) (Q,R) Z.heap.size 1 rfl rfl ?_ ?_ ?_ ?_ ?_ ?_;(exact ir ao _);(exact(pH Z Q R).1);(exact(pH Z Q R).2);(simp;omega);(exact O0 aj (by simp));intro v4 w4 aA az)
     |go_in)
    exact⟨⟨k+1,by omega,by go_num,ag,by rw[J.out];exact aA,((kL N G z au).alloc aj _).grown az (O0 aj (by simp)) (fun j hj=>(OF ao j hj).1)⟩,by simp[intOf];omega⟩
   ·have E:decide (iL l nm<k)=true:=(by simp;omega);rw[E];have J:=a8 (ab.out A);have ag:=a8 (show Value.bool true= .bool (decide (iL l nm<k+1)) from by rw[ON (by omega)]);clear ac aa ab ah ai A E;generalize lG l nm nd k=O at z J ae;go_wp2_with (first
     |(at_builtin;refine e8 _ rfl (.tmp 33) (.tmp 35) rfl I.heap.size u7 O (Q,R) (wr.heap.size+1) 1 rfl rfl ?_ ?_ ?_ ?_ ?_ ?_;(exact ir (ir z _) _);(exact V.1);(exact V.2);omega;(exact O0 G (by simp;omega));intro v3 Z M K)
     |go_in)
    exact⟨⟨k+1,by omega,by go_num,ag,by rw[J.out];exact M,kL N G z K⟩,by simp[intOf];omega⟩
  ·obtain rfl:k=l.length:=(by omega);by_cases A:iL l nm<l.length
   ·have E:decide (iL l nm<l.length)=true:=(by simp;omega);rw[E];rw[JH A] at U;have z:=a8 U;have N:=bTr af L;have G:=a8 af.size;clear U L E A ae;go_wp2;go_ret;exact⟨u7,rfl,by rw[an.out];exact z.mono G,N⟩
   ·have E:decide (iL l nm<l.length)=false:=(by simp;omega);rw[E];have J:=a8 (GB (nd:=nd) A);have z:=a8 U;have N:=a8 L;have G:=a8 L.size;have V:=a8 (pH wr nm nd);clear U L E A;generalize lG l nm nd l.length=O at z J ae;go_wp2_with (first
     |(at_builtin;refine e8 _ rfl (.tmp 40) (.tmp 44) rfl I.heap.size u7 O (nm,nd) wr.heap.size 1 rfl rfl ?_ ?_ ?_ ?_ ?_ ?_;(exact ir z _);(exact V.1);(exact V.2);omega;(exact O0 G (by simp));intro v3 Z M K)
     |go_in)
    go_ret;have av:Below I.heap.size I Z:=(N.alloc G _).grown K (O0 G (by simp)) (fun j hj=>(OF z j hj).1);exact⟨v3,rfl,by rw[an.out,←J.out];exact M.mono af.size,af.trans (av.mono af.size)⟩
section
open Go.Maps
theorem hV:∀x y z:List UInt8,Op.bytesLess x y=true→Op.bytesLess y z=true→Op.bytesLess x z=true
 |_,_,[],_,h=>by simp[Op.bytesLess] at h
 |[],_,_::_,_,_=>by simp[Op.bytesLess]
 |_::_,[],_::_,h,_=>by simp[Op.bytesLess] at h
 |a::x,b::y,c::z,h1,h2=>by
  simp only[Op.bytesLess,Bool.or_eq_true,decide_eq_true_eq,Bool.and_eq_true,beq_iff_eq] at h1 h2⊢;rcases h1 with h1|⟨rfl,h1⟩
  ·rcases h2 with h2|⟨rfl,h2⟩
   ·exact .inl (UInt8.lt_trans h1 h2)
   ·exact .inl h1
  ·rcases h2 with h2|⟨rfl,h2⟩
   ·exact .inl h2
   ·exact .inr ⟨rfl,hV x y z h1 h2⟩
def gq(es:List (BA×Int))(k:Nat):DataW Unit:=setOf (.agg []) ((es.take k).map fun e=>Lit.int .i64 e.2)
theorem vR(z:List (BA×Int)):gq z 0= .map []:=rfl
theorem oV(z:List (BA×Int))(k:Nat)(h:k<z.length):gq z (k+1)=(gq z k).put (.int .i64 z[k].2) (.agg []):=by
 unfold gq;rw[O5 h,O7];exact setOf_snoc _ _ _
theorem wW(z:List (BA×Int))(k:Nat)(x:Int):Maps.has (gq z k) (.int .i64 x)=(z.take k).any (fun e=>decide (e.2=x)):=by
 unfold gq;rw[has_setOf _ _ _ (fun y A=>by obtain⟨_,_,rfl⟩:=Pg.1 A;trivial),List.any_map];congr 1;funext e;simp[Lit.sameKey]
theorem tN{z:List (BA×Int)}{k:Nat}{x:Int}(h:Maps.has (gq z k) (.int .i64 x)=true):∃i,∃h:i<z.length,i<k∧z[i].2=x:=by
 rw[wW,List.any_eq_true] at h;obtain⟨e,A,E⟩:=h;obtain⟨i,hi,rfl⟩:=Pr A;simp at hi;refine⟨i,by omega,by omega,?_⟩;simpa using E
theorem su{z:List (BA×Int)}{k:Nat}{x:Int}(h:Maps.has (gq z k) (.int .i64 x)=false)(i:Nat)(hi:i<z.length)(A:i<k):z[i].2≠x:=by
 intro e;have:Maps.has (gq z k) (.int .i64 x)=true:=by
  rw[wW,List.any_eq_true];exact⟨z[i],List.mem_take_iff_getElem.2 ⟨i,by omega,rfl⟩,by simp[e]⟩
 rw[this] at h;simp at h
theorem j7{H:Type}{w w':World}{P:Program}{k:TypeId}{R:Value→Option (DataW H×List MemPlace)}{b n B:Nat}{D:DataW H}(h:w.ownsMap P k R b n D)(I:Below B w w')(G:b<B):w'.ownsMap P k R b n D:=by
 obtain⟨A,c,E,z⟩:=h;exact⟨A,c,(I.block b G).trans E,z⟩
end
end Go.Proofs.YtkkdfgnnlpohlaaGreatDoor
