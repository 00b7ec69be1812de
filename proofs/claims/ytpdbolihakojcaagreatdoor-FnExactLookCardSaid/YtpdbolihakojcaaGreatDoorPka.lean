import Derived.Laws.BitsAllLaws
import Derived.Test.YtpdbolihakojcaaGreatDoorProg
import GoSem.Claim
import GoSem.ClaimJoined
import GoSem.ClaimMapViews
import Derived.JoinedTies
import Derived.KernelRfl
import Derived.RowKit
import Derived.WalkKit
import Derived.WalkSpells
import Derived.WalkLawsBesides
import Derived.Deep.QuietTactic
import Derived.BigQuiet
import Derived.Laws.IdiomStrings
import Derived.Deep.RegionWith
namespace Go.Proofs.YtpdbolihakojcaaGreatDoor
set_option maxRecDepth 20000
set_option linter.unusedVariables false
set_option linter.unusedSimpArgs false
set_option maxHeartbeats 4000000
open Go.RowKit
variable {W Y w w' w0 wr : World} {b : List UInt8} {A B at_ base' c cap e f g gs i j k lo m n u z : Nat} {R d is l : List Nat} {E G I J K L M N O v0 v1 v2 v3 v4 v5 v6 x y : Value} {o : Oper} {Q : Exit → Act → World → Prop} {bvs xs : List Value} {t : TypeId} {cs tmps : Array Value} {p : Addr} {a : Option Addr} {first ok : Bool} {s : ByteArray} {rs : List (List Nat)}
def j3(c:Nat):Nat:=if c%2=1 then(c/2)^^^3988292384 else c/2
def iq:Nat→Nat→Nat
 |0,c=>c
 |m+1,c=>j3 (iq m c)
def jK(c b m:Nat):Nat:=if(c^^^(b>>>m))%2=1 then(c/2)^^^3988292384 else c/2
def gl(c b:Nat):Nat→Nat
 |0=>c
 |m+1=>jK (gl c b m) b m
def kK(c b:Nat):Nat:=iq 8 (c^^^b)
def eV(c:Nat)(l:List Nat):Nat:=l.foldl kK c
theorem B3(c b m:Nat):iq m (c^^^b)=gl c b m^^^(b>>>m):=by
 induction m with
 |zero=>simp[iq,gl]
 |succ m ih=>
  have A:b>>>(m+1)=(b>>>m)/2:=(by rw[Nat.shiftRight_succ]);simp only[iq,gl,ih];unfold j3 jK;generalize gl c b m=x;rw[A];generalize b>>>m=y;have z:(x^^^y)/2=(x/2)^^^(y/2):=Nat.xor_div_two;rw[z];split
  ·rw[Nat.xor_assoc,Nat.xor_assoc,Nat.xor_comm 3988292384]
  ·rfl
theorem Ff(c b:Nat)(z:b<256):gl c b 8=kK c b:=by
 unfold kK;rw[B3];have:b>>>8=0:=(by rw[Nat.shiftRight_eq_div_pow];omega);rw[this,Nat.xor_zero]
theorem Bl(c:Nat)(h:c<4294967296):j3 c<4294967296:=by
 unfold j3;split
 ·exact Nat.xor_lt_two_pow (n:=32) (by omega) (by omega)
 ·omega
theorem qq(m c:Nat)(h:c<4294967296):iq m c<4294967296:=by
 induction m with
 |zero=>exact h
 |succ m ih=>exact Bl _ ih
theorem xV(c b m:Nat)(h:c<4294967296):gl c b m<4294967296:=by
 induction m with
 |zero=>exact h
 |succ m ih=>
  unfold gl jK;split
  ·exact Nat.xor_lt_two_pow (n:=32) (by omega) (by omega)
  ·omega
theorem Bk(c b:Nat)(h:c<4294967296)(z:b<256):kK c b<4294967296:=
 qq _ _ (Nat.xor_lt_two_pow (n:=32) (by omega) (by omega))
theorem jl(l:List Nat)(z:∀x∈l,x<256)(c:Nat)(h:c<4294967296):eV c l<4294967296:=by
 induction l generalizing c with
 |nil=>exact h
 |cons x r ih=>exact ih (fun y A=>z y (List.mem_cons_of_mem _ A)) _ (Bk c x h (z x List.mem_cons_self))
theorem oK(c:Nat)(l:List Nat)(x:Nat):eV c (l++[x])=kK (eV c l) x:=by
 simp[eV]
theorem FQ(x m:Nat):((x:Int)/2^m)=((x>>>m:Nat):Int):=by
 rw[Nat.shiftRight_eq_div_pow];simp
theorem Lu(x m:Nat)(z:x<256):x>>>m<4294967296:=by
 rw[Nat.shiftRight_eq_div_pow];exact Nat.lt_of_le_of_lt (Nat.div_le_self _ _) (by omega)
theorem AE(c x m:Nat)(A:c<4294967296)(G:x<256):
  bits .and .u32 (bits .xor .u32 (c:Int) ((x:Int)/2^m)) 1=(((c^^^(x>>>m))%2:Nat):Int):=by
 have E:=Lu x m G;have z:c^^^(x>>>m)<4294967296:=Nat.xor_lt_two_pow (n:=32) (by omega) (by omega);rw[FQ,u32_xor_nat c _ A E];have h:=u32_and_nat (c^^^(x>>>m)) 1 z (by decide);rw[nat_mask1] at h;exact h
theorem y9(c:Nat)(z:c<4294967296):bits .xor .u32 ((c:Int)/2) 3988292384=(((c/2)^^^3988292384:Nat):Int):=by
 have h:=u32_xor_nat (c/2) 3988292384 (by omega) (by decide);have e:((c:Int)/2)=((c/2:Nat):Int):=(by omega);rw[e];exact h
theorem Ix{c x m:Nat}(z:c<4294967296)(E:x<256)(h:(bits .and .u32 (bits .xor .u32 (c:Int) ((x:Int)/2^m)) 1==1)=true):
  bits .xor .u32 ((c:Int)/2) 3988292384=((jK c x m:Nat):Int):=by
 rw[AE c x m z E] at h;have A:(c^^^(x>>>m))%2=1:=(by simp at h;omega);unfold jK;rw[if_pos A];exact y9 c z
theorem Fg{c x m:Nat}(A:c<4294967296)(E:x<256)(h:(bits .and .u32 (bits .xor .u32 (c:Int) ((x:Int)/2^m)) 1==1)=false):
  ((c:Int)/2)=((jK c x m:Nat):Int):=by
 rw[AE c x m A E] at h;have z:¬(c^^^(x>>>m))%2=1:=(by simp at h;omega);unfold jK;rw[if_neg z];omega
theorem xq(c:Nat)(z:c<4294967296):bits .and .u32 (c:Int) 1=((c%2:Nat):Int):=by
 have h:=u32_and_nat c 1 z (by decide);rw[nat_mask1] at h;exact h
theorem IC{c:Nat}(z:c<4294967296)(h:(bits .and .u32 (c:Int) 1==1)=true):bits .xor .u32 ((c:Int)/2) 3988292384=((j3 c:Nat):Int):=by
 rw[xq c z] at h;have A:c%2=1:=(by simp at h;omega);unfold j3;rw[if_pos A];exact y9 c z
theorem Fl{c:Nat}(A:c<4294967296)(h:(bits .and .u32 (c:Int) 1==1)=false):((c:Int)/2)=((j3 c:Nat):Int):=by
 rw[xq c A] at h;have z:¬c%2=1:=(by simp at h;omega);unfold j3;rw[if_neg z];omega
theorem I4(c x:Nat)(z:c<4294967296)(A:x<256):bits .xor .u32 (c:Int) (x:Int)=((c^^^x:Nat):Int):=u32_xor_nat c x z (by omega)
def lw(l:List Nat):Nat:=4294967295^^^eV 4294967295 l
theorem yA(l:List Nat)(z:∀x∈l,x<256):lw l<4294967296:=
 Nat.xor_lt_two_pow (n:=32) (by decide) (jl l z _ (by decide))
theorem H7(c:Nat)(z:c<4294967296):bits .xor .u32 IntKind.u32.max (c:Int)=((4294967295^^^c:Nat):Int):=by
 have e:IntKind.u32.max=((4294967295:Nat):Int):=(by decide);rw[e];exact u32_xor_nat 4294967295 c (by decide) z
theorem ru{k:IntKind}{a b:Int}(h:a=b):Ending.returned (.int k a)= .returned (.int k b):=by rw[h]
theorem fy{k:IntKind}{a b:Int}(h:a=b):Value.int k a= .int k b:=by rw[h]
theorem a8{p:Prop}(h:p):Hid p:=h
theorem dT{p:Prop}(h:Hid p):p:=h
def dW(w:World)(a:Option Addr)(l:List Nat):Prop:=
 0<l.length→∃b off,a=some ⟨b,off,none⟩∧∀i (h:i<l.length),w.cell? ⟨b,off+i,none⟩=some (.int .u8 ((l[i]:Nat):Int))
def bv(x:Nat):Value:= .int .u8 (x:Int)
def dO(w:World)(base:Nat)(v:Value)(l:List Nat):Prop:=w.ownsRow base 5 1 v l.length (l.map bv)
theorem dH{a:Addr}{v:Value}(h:w.cell? a=some v):a.block<w.heap.size:=World.block_lt_of_cell? w a h
theorem dW.below(h:dW w a l)(G:Below w.heap.size w w'):dW w' a l:=fun I=>by
 obtain⟨b,z,rfl,A⟩:=h I;exact⟨b,z,rfl,fun i E=>by rw[G.cell (p:=⟨b,z+i,none⟩) (dH (A i E))];exact A i E⟩
theorem dO.slice{v:Value}(h:dO w z v l):∃a cap,v= .slice a l.length cap:=by
 rcases h.2 with⟨rfl,A⟩|⟨g,cap,E,rfl,_⟩
 ·exact⟨none,0,by rw[A]⟩
 ·exact⟨_,cap,rfl⟩
theorem dO.row{G:Nat}(h:dO w G (.slice a n cap) l):dW w a l:=fun N=>by
 rcases h.2 with⟨_,M⟩|⟨g,K,z,A,_,I,L,_,O,E⟩
 ·omega
 ·simp only[Value.slice.injEq] at A;obtain⟨rfl,_,_⟩:=A;refine⟨g,0,rfl,fun i J=> ?_⟩;rw[Nat.zero_add,cell_of_row w g i z 5 (0,0) I];have e:z.toList[i]? =(l.map bv)[i]? :=(by rw[←E,List.getElem?_take,if_pos (by omega)]);rw[←Array.getElem?_toList,e];simp[J,bv]
theorem dO.below{v:Value}(h:dO w z v l)(K:Below B w w')(J:w.heap.size≤B):dO w' z v l:=by
 refine⟨h.1,?_⟩;rcases h.2 with L|⟨g,cap,I,rfl,E,A,G⟩
 ·exact .inl L
 ·exact .inr ⟨g,cap,I,rfl,E,(K.block g (Nat.lt_of_lt_of_le (lt_of_block A) J)).trans A,G⟩
theorem dO.nil(w:World)(z:Nat):dO w z (.slice none 0 0) []:=World.ownsRow_nil w z 5 1
theorem dO.mono{v:Value}(h:dO w z v l)(I:base'≤z):dO w base' v l:=by
 refine⟨h.1,?_⟩;rcases h.2 with J|⟨g,cap,G,rfl,A,E⟩
 ·exact .inl J
 ·exact .inr ⟨g,cap,G,rfl,Nat.le_trans I A,E⟩
structure Out(lo hi:Nat)(w w':World):Prop where
 os:w'.os=w.os
 tape:w'.tape=w.tape
 output:w'.output=w.output
 size:w.heap.size≤w'.heap.size
 block:∀k,k<w.heap.size→k<lo∨hi≤k→w'.heap[k]? =w.heap[k]?
theorem Out.refl(lo z:Nat)(w:World):Out lo z w w:=⟨rfl,rfl,rfl,Nat.le_refl _,fun _ _ _=>rfl⟩
theorem Out.trans{a b c:World}(h:Out lo z a b)(k:Out lo z b c):Out lo z a c:=
 ⟨k.os.trans h.os,k.tape.trans h.tape,k.output.trans h.output,Nat.le_trans h.size k.size,fun i z A=>(k.block i (Nat.lt_of_lt_of_le z h.size) A).trans (h.block i z A)⟩
theorem Out.of_grown{z:Option Nat}(h:w.grownBy w' z)(G:∀k,z=some k→lo≤k∧k<A):Out lo A w w':=
 ⟨h.os,h.tape,h.output,h.size,fun k E I=>h.block k E (fun e=>by have:=G k e.symm;omega)⟩
theorem Out.below(h:Out lo z w w')(A:B≤lo)(E:B≤w.heap.size):Below B w w':=
 ⟨h.os,h.tape,h.output,h.size,fun k G=>h.block k (by omega) (.inl (by omega))⟩
theorem Out.of_below(h:Below w.heap.size w w'):Out lo z w w':=⟨h.os,h.tape,h.output,h.size,fun k A _=>h.block k A⟩
theorem yZ{G I:World}{z:Option Nat}(h:w.grownBy G z)(k:G.grownBy I z):w.grownBy I z:=
 ⟨k.os.trans h.os,k.tape.trans h.tape,k.output.trans h.output,Nat.le_trans h.size k.size,fun i A E=>(k.block i (Nat.lt_of_lt_of_le A h.size) E).trans (h.block i A E)⟩
theorem Bu(w:World)(z:Option Nat):w.grownBy w z:=⟨rfl,rfl,rfl,Nat.le_refl _,fun _ _ _=>rfl⟩
theorem ej(b z i:Nat):Addr.add ⟨b,z,none⟩ i=⟨b,z+i,none⟩:=by
 unfold Addr.add;split
 ·next h=>subst h;rfl
 ·rfl
theorem eE{a b:Bool}(h:a=b):Ending.returned (.bool a)= .returned (.bool b):=by rw[h]
theorem Tryz.info5:(Tryz.prog.info? 5).map (fun i=>(i.zero,i.size,i.bytes))=some (some (.int .u8 0),1,1):=by kernel_rfl
theorem ez{L:Array Oper}{J:List Oper}{A:Act}(w:World)(V:o.guard=none)(s x:Operand)
  (ho:o.op= .call {callee:= .builtin .append,args:= #[s,x],argTypes:= #[52,52]})
  (z:Nat) (v:Value) (l m:List Nat) (hs:A.eval s=v) (U:dO w z v l) (M:Option Addr) (c:Nat) (hx:A.eval x= .slice M m.length c) (hr:dW w M m) (hm:0<m.length)
  (ac:l.length+m.length≤1099511627776) (O:z≤w.heap.size)
  (h:∀E w',dO w' z E (l++m)→w.grownBy w' v.ownBlock→wpList Tryz.prog L Q J (A.put o.dst E) w'):wpList Tryz.prog L Q (o::J) A w:=by
 obtain⟨i0,hi,Y,Z,aa⟩:=info_parts Tryz.info5;obtain⟨b,ab,rfl,hc⟩:=hr hm;refine wpList_append_own w V s x 52 ho z 5 i0 (.int .u8 0) 1 1 Tryz.underlying52 hi Y Z aa rfl (by decide) v l.length (l.map bv) hs U ⟨b,ab,none⟩ m.length c (m.map bv) hx (by simp) ?_ ?_ (by unfold maxLen;omega) (by omega) O ?_
 ·intro j u I;rw[ej];have K:j<m.length:=by
   rcases Nat.lt_or_ge j m.length with G|G
   ·exact G
   ·simp[List.getElem?_eq_none G] at I
  rw[hc j K];simp[K,bv] at I;rw[I]
 ·intro u N;simp only[List.mem_map] at N;obtain⟨y,_,rfl⟩:=N;rfl
 ·intro E w' R hg _;refine h E w' ?_ hg;unfold dO;rw[List.length_append,List.map_append];exact R
theorem kT{G:Array Oper}{E:List Oper}{z:Act}(w:World)(J:o.guard=none)(s x:Operand)
  (O:o.op=Op.makeSlice 52 s x) (n:Nat) (R:z.eval s= .int .i64 (n:Int)) (U:z.eval x= .int .i64 (n:Int)) (Z:n≤1099511627776)
  (h:∀w',dO w' w.heap.size (.slice (some ⟨w.heap.size,0,none⟩) n n) (List.replicate n 0)→Below w.heap.size w w'→wpList Tryz.prog G Q E (z.put o.dst (.slice (some ⟨w.heap.size,0,none⟩) n n)) w'):wpList Tryz.prog G Q (o::E) z w:=by
 obtain⟨V,N,K,L,M⟩:=info_parts Tryz.info5;refine wpList_make_full w J s x 52 O w.heap.size 5 V (.int .u8 0) 1 Tryz.underlying52 N K L .i64 .i64 _ _ n R U rfl rfl (by rw[M];omega) (by unfold maxLen;omega) (Nat.le_refl _) ?_;intro Y A I;refine h Y ?_ ((Below.refl _ _).grown I (Nat.le_refl _) (fun k h=>by cases h));unfold dO;rw[List.length_replicate,List.map_replicate];have e:(madeCells (Value.int .u8 0).cells (n*1)).toList=List.replicate n (bv 0):=(by rw[Nat.mul_one];exact toList_madeCells_one _ _);rw[e] at A;exact A
theorem dO.store(h:dO w z (.slice (some ⟨g,0,none⟩) n cap) l)(k x:Nat):
  dO (w.setCell ⟨g,k,none⟩ (bv x)) z (.slice (some ⟨g,0,none⟩) n cap) (l.set k x)∧w.grownBy (w.setCell ⟨g,k,none⟩ (bv x)) (some g):=by
 obtain⟨a,c,e⟩:=h.slice;simp only[Value.slice.injEq] at e;obtain⟨_,rfl,rfl⟩:=e;have A:=World.ownsRow.stored h k (bv x);refine⟨?_,A.2⟩;unfold dO;rw[List.length_set,List.map_set];exact A.1
theorem dO.cellAt(h:dO w z (.slice (some ⟨g,0,none⟩) n cap) l)(k:Nat)(E:k<l.length):w.cell? ⟨g,k,none⟩=some (.int .u8 ((l[k]:Nat):Int)):=by
 obtain⟨b,G,e,A⟩:=h.row (by omega);simp only[Option.some.injEq,Addr.mk.injEq] at e;obtain⟨rfl,rfl,_⟩:=e;have:=A k E;rwa[Nat.zero_add] at this
theorem dO.frozenAt(h:dO w z (.slice (some ⟨g,0,none⟩) n cap) l)(k:Nat):w.frozen? ⟨g,k,none⟩=false:=by
 obtain⟨a,c,e⟩:=h.slice;simp only[Value.slice.injEq] at e;obtain⟨_,rfl,rfl⟩:=e;exact World.ownsRow.frozenAt h k
theorem nAl(w:World)(o:Obj):Below w.heap.size w (w.alloc o):=(Below.refl _ _).alloc (Nat.le_refl _) o
theorem bTr{z A:World}(h:Hid (Below w.heap.size w z))(k:Below z.heap.size z A):Hid (Below w.heap.size w A):=a8 (h.out.trans (k.mono h.out.size))
abbrev MH:= @Nat.le_refl
abbrev MI:= @List.length_map
abbrev MJ:= @Below.refl
abbrev MK:= @Option.some.injEq
abbrev MM:= @List.getElem?_eq_getElem
abbrev MN:= @Nat.le_trans
abbrev MO:= @List.getElem_mem
abbrev MP:= @List.take_succ_eq_append_getElem
abbrev MQ:= @Nat.zero_le
abbrev MR:= @Value.slice.injEq
abbrev MS:= @List.map_append
abbrev MT:= @List.length_append
abbrev MU:= @List.length_drop
abbrev MV:= @List.mem_cons_of_mem
abbrev MW:= @Nat.lt_of_lt_of_le
abbrev MX:= @List.take_of_length_le
abbrev MY:= @List.getElem_map
abbrev MZ:= @List.length_take
abbrev M0:= @List.map_cons
abbrev M1:= @List.mem_cons
abbrev M2:= @List.length_cons
abbrev M4:= @List.mem_of_mem_take
abbrev M7:= @List.mem_of_mem_drop
abbrev M8:= @List.pairwise_iff_getElem
abbrev M9:= @List.mem_singleton
abbrev Na:= @List.mem_map
abbrev Nb:= @List.mem_append
abbrev Nc:= @List.length_eq_zero_iff
abbrev Nd:= @List.getElem_of_mem
abbrev Nf:= @List.getElem?_eq_none
abbrev Ng:= @Nat.zero_add
abbrev Nh:= @List.getElem_set_self
abbrev Ni:= @List.getElem?_cons_succ
abbrev Nj:= @List.getElem?_cons_zero
abbrev Nk:= @List.take_append_drop
abbrev Nl:= @List.drop_eq_getElem_cons
abbrev Nm:= @List.mem_cons_self
abbrev Nn:= @List.append_nil
abbrev No:= @Nat.le_succ
abbrev Np:= @Addr.mk.injEq
abbrev Nq:= @List.nil_append
abbrev Nr:= @List.getElem?_map
abbrev Ns:= @List.map_nil
abbrev Nt:= @List.eq_nil_of_length_eq_zero
abbrev Nu:= @List.setIfInBounds_toArray
abbrev Nv:= @Option.some.inj
abbrev Nw:= @List.not_mem_nil
abbrev Nx:= @List.drop_length
abbrev Ny:= @Nat.mul_le_mul_right
abbrev Nz:= @List.append_assoc
abbrev NA:= @List.set_cons_zero
abbrev NB:= @Nat.lt_or_ge
abbrev NC:= @List.map_map
abbrev ND:= @List.mem_iff_getElem
abbrev NE:= @List.take_length
abbrev NF:= @List.filter_cons_of_neg
abbrev NG:= @List.flatten_append
def wl(w:World)(a:Option Addr)(ls:List (List Nat)):Prop:=
 0<ls.length→∃b off,a=some ⟨b,off,none⟩∧∀i (h:i<ls.length),∃ai ci,w.cell? ⟨b,off+i,none⟩=some (.slice ai ls[i].length ci)∧dW w ai ls[i]
theorem wl.below{G:List (List Nat)}(h:wl w a G)(E:Below w.heap.size w w'):wl w' a G:=fun M=>by
 obtain⟨b,A,rfl,K⟩:=h M;refine⟨b,A,rfl,fun i L=> ?_⟩;obtain⟨I,J,z,N⟩:=K i L;exact⟨I,J,by rw[E.cell (p:=⟨b,A+i,none⟩) (dH z)];exact z,N.below E⟩
def lj:List (List Nat)→Nat
 |[]=>0
 |r::rs=>r.length+lj rs
theorem mR(a b:List (List Nat)):lj (a++b)=lj a+lj b:=by
 induction a with
 |nil=>simp[lj]
 |cons x r ih=>simp[lj,ih];omega
theorem Tryz.info52:(Tryz.prog.info? 52).map (fun i=>(i.zero,i.size,i.bytes))=some (some (.slice none 0 0),1,24):=by kernel_rfl
def eF(w:World)(lo:Nat)(v:Value)(vs:List Value)(ls:List (List Nat)):Prop:=
 w.ownsRow lo 52 1 v ls.length vs∧(∀i (h:i<ls.length),∃x,vs[i]? =some x∧dO w lo x ls[i])∧vs.Pairwise fun x y=>x.ownBlock=none∨x.ownBlock≠y.ownBlock
def kp(w:World)(lo:Nat)(v:Value)(ls:List (List Nat)):Prop:=∃vs:List Value,eF w lo v vs ls
theorem eF.lt{v:Value}{A:List Value}{E:List (List Nat)}(h:eF w lo v A E):∀x∈A,∀g,x.ownBlock=some g→g<w.heap.size:=by
 intro x M g J;obtain⟨G,I,_⟩:=h;obtain⟨i,K,rfl⟩:=Nd M;have N:A.length=E.length:=(by have:=G.1;omega);obtain⟨y,z,L⟩:=I i (by omega);rw[MM K] at z;simp only[MK] at z;subst z;exact(World.ownsRow.lt L g J).2
theorem kp.slice{v:Value}{z:List (List Nat)}(h:kp w A v z):∃a cap,v= .slice a z.length cap:=by
 obtain⟨I,h,_⟩:=h;rcases h.2 with⟨rfl,E⟩|⟨g,cap,G,rfl,_⟩
 ·exact⟨none,0,by rw[E]⟩
 ·exact⟨_,cap,rfl⟩
theorem sS{E:Nat}{A:List Value}(h:w.ownsRow E e 1 (.slice a n cap) n A)(L:0<n):∃g,a=some ⟨g,0,none⟩∧∀i x,A[i]? =some x→w.cell? ⟨g,i,none⟩=some x:=by
 rcases h.2 with⟨_,K⟩|⟨g,I,J,z,_⟩
 ·omega
 ·simp only[MR,true_and] at z;obtain⟨rfl,rfl⟩:=z;refine⟨g,rfl,fun i x G=> ?_⟩;have:=World.ownsRow.cells h (g:=g) rfl i x G;rwa[ej,Ng] at this
theorem kp.rows{E:Nat}{A:List (List Nat)}(h:kp w E (.slice a n cap) A):wl w a A:=fun N=>by
 obtain⟨Q,c',e⟩:=h.slice;simp only[MR] at e;obtain⟨rfl,rfl,rfl⟩:=e;obtain⟨R,J,K,_⟩:=h;obtain⟨g,rfl,L⟩:=sS J N;refine⟨g,0,rfl,fun i M=> ?_⟩;obtain⟨x,O,z⟩:=K i M;obtain⟨G,I,rfl⟩:=z.slice;exact⟨G,I,by rw[Ng];exact L i _ O,z.row⟩
theorem lB{v:Value}(h:w.ownsRow z e 1 v n xs)(J:∀g,z≤g→g<w.heap.size→w'.heap[g]? =w.heap[g]?):w'.ownsRow z e 1 v n xs:=by
 refine⟨h.1,?_⟩;rcases h.2 with K|⟨g,cap,I,rfl,A,E,G⟩
 ·exact .inl K
 ·exact .inr ⟨g,cap,I,rfl,A,(J g A (lt_of_block E)).trans E,G⟩
theorem kp.keep{v:Value}{E:List (List Nat)}(h:kp w z v E)(A:∀g,z≤g→g<w.heap.size→w'.heap[g]? =w.heap[g]?):kp w' z v E:=by
 obtain⟨N,G,I,J⟩:=h;refine⟨N,lB G A,fun i K=> ?_,J⟩;obtain⟨x,M,L⟩:=I i K;exact⟨x,M,lB L A⟩
theorem kp.below{v:Value}{A:List (List Nat)}(h:kp w z v A)(E:Below B w w')(G:w.heap.size≤B):kp w' z v A:=h.keep fun g _ I=>E.block g (by omega)
theorem mD{b1 b2 E L M:Nat}{v:Value}{ys:List Value}(G:w.ownsRow b1 A 1 v L xs)(I:w.ownsRow b2 E 1 x M ys)(J:A≠E):v.ownBlock=none∨v.ownBlock≠x.ownBlock:=by
 rcases G.2 with⟨rfl,_⟩|⟨g,cap,Q,rfl,_,K,_⟩
 ·exact .inl rfl
 ·refine .inr fun e=> ?_;rcases I.2 with⟨rfl,_⟩|⟨g',N,O,rfl,_,z,_⟩
  ·simp[Value.ownBlock] at e
  ·simp only[Value.ownBlock,MK] at e;subst e;rw[K] at z;simp only[MK,Obj.cells.injEq] at z;exact J z.2.1
theorem eF.below{v:Value}{G:List Value}{E:List (List Nat)}(h:eF w z v G E)(L:Below B w w')(Q:w.heap.size≤B):eF w' z v G E:=by
 obtain⟨I,J,K⟩:=h;have A:∀g,z≤g→g<w.heap.size→w'.heap[g]? =w.heap[g]? :=fun g _ R=>L.block g (by omega);refine⟨lB I A,fun i M=> ?_,K⟩;obtain⟨x,O,N⟩:=J i M;exact⟨x,O,lB N A⟩
theorem iU(h:∃n,wr=w.drewN n)(m:Nat):∃n,wr.drewN m=w.drewN n:=by obtain⟨n,rfl⟩:=h;exact⟨n+m,World.drewN_drewN _ _ _⟩
theorem dW.drew(h:dW w a l)(n:Nat):dW (w.drewN n) a l:=h
theorem pq{m:List Nat}(z:k<l.length)(A:k<m.length)(h:l.take k=m.take k)(E:l[k]=m[k]):l.take (k+1)=m.take (k+1):=by
 rw[MP z,MP A,h,E]
theorem Hq{m:List Nat}(A:k<l.length)(E:k<m.length)(z:¬l[k]=m[k]):¬l=m:=fun h=>z (by subst h;rfl)
def fi(w:World)(a:Option Addr)(es:List (ByteArray×Int)):Prop:=
 0<es.length→∃b off,a=some ⟨b,off,none⟩∧∀i (h:i<es.length),w.cell? ⟨b,off+i*2,none⟩=some (.string es[i].1)∧w.cell? ⟨b,off+i*2+1,none⟩=some (.int .i64 es[i].2)
theorem fi.below{A:List (ByteArray×Int)}(h:fi w a A)(I:Below w.heap.size w w'):fi w' a A:=fun L=>by
 obtain⟨b,z,rfl,J⟩:=h L;refine⟨b,z,rfl,fun i K=> ?_⟩;obtain⟨E,G⟩:=J i K;exact⟨by rw[I.cell (p:=⟨b,z+i*2,none⟩) (dH E)];exact E,by rw[I.cell (p:=⟨b,z+i*2+1,none⟩) (dH G)];exact G⟩
theorem qQ(s:ByteArray)(n left:Int)(w:World)(E:s.size≤9223372036854775807)(z:0≤left)(A:left≤1048576):
  Calls Tryz.prog 33 #[.agg #[.string s,.int .i64 n],.int .i64 left] w fun e w'=>e= .returned (.int .i64 (if left<s.size then-1 else left-s.size))∧Below w.heap.size w w':=by
 by_cases h:left<s.size
 ·rw[if_pos h];go_enter Tryz.func33,Tryz.ntmps33;go_wp2;go_ret;exact⟨rfl,(MJ _ _).alloc (MH _) _⟩
 ·rw[if_neg h];go_enter Tryz.func33,Tryz.ntmps33;go_wp2;go_ret;exact⟨rfl,(MJ _ _).alloc (MH _) _⟩
def l5(left n:Nat):Int:=if left<n then-1 else((left-n:Nat):Int)
theorem e8{left:Nat}(h:left<n):l5 left n= -1:=if_pos h
theorem jy{left:Nat}(h:n≤left):l5 left n=(left:Int)-(n:Int):=by rw[l5,if_neg (by omega)];omega
def jL:List (ByteArray×Int)→Nat
 |[]=>0
 |e::es=>e.1.size+jL es
theorem qL(a b:List (ByteArray×Int)):jL (a++b)=jL a+jL b:=by
 induction a with
 |nil=>simp[jL]
 |cons x r ih=>simp[jL,ih];omega
theorem tB(z:List (ByteArray×Int))(k:Nat)(h:k<z.length):jL (z.take (k+1))=jL (z.take k)+z[k].1.size:=by
 rw[MP h,qL];simp[jL]
theorem ya(z:List (ByteArray×Int))(k:Nat):jL (z.take k)≤jL z:=by
 have h:=qL (z.take k) (z.drop k);rw[Nk] at h;omega
theorem pp(a:Option Addr)(cap:Nat)(z:List (ByteArray×Int))(left:Nat)(w:World)(hl:left≤1048576)(hn:z.length≤9223372036854775807)(O:∀e∈z,e.1.size≤9223372036854775807)(U:fi w a z):
  Calls Tryz.prog 14 #[.slice a z.length cap,.int .i64 (left:Int)] w fun e w'=>e= .returned (.int .i64 (l5 left (z.length+jL z)))∧Below w.heap.size w w':=by
 by_cases aa:left<z.length
 ·rw[e8 (by omega)];go_enter Tryz.func14,Tryz.ntmps14;go_wp2;go_ret;exact⟨rfl,MJ _ _⟩
 ·go_enter Tryz.func14,Tryz.ntmps14;go_wp2;go_loopw [1,5] (fun s i wr=>∃k:Nat,k≤z.length∧i= .int .i64 k∧z.length+jL (z.take k)≤left∧s= .int .i64 ((left:Int)-(z.length:Int)-(jL (z.take k):Int))∧Below w.heap.size w wr) (fun _ i _=>z.length-(intOf i).toNat)
  case atStart=>exact⟨0,MQ _,rfl,by simp[jL];omega,fy (by simp[jL]),MJ _ _⟩
  case round=>
   obtain⟨k,hk,rfl,N,rfl,A⟩:=hrel;by_cases L:k<z.length
   ·obtain⟨b,ac,rfl,Q⟩:=(U.below A) (by omega)
    obtain⟨G,I⟩:=Q k L;have J:=O _ (MO L);have E:=a8 (tB z k L);have V:=a8 (ya z (k+1));generalize jL (z.take k)=Z at N E⊢;clear Q U O;generalize z[k]=Y at G I J E;obtain⟨nm,nd⟩:=Y;simp only at G I J E;by_cases ab:z.length+Z+nm.size≤left
    ·go_wp2_with fail;refine(qQ nm nd _ wr J (by omega) (by omega)).mono ?_;rintro e w' ⟨rfl,M⟩;rw[if_neg (by omega)];have K:=A.trans (M.mono A.size);clear G I;go_wp2;go_round
     case rel=>exact⟨k+1,by omega,by go_num,by rw[E.out];omega,fy (by rw[E.out];omega),K⟩
     case measure=>simp[intOf];omega
    ·go_wp2_with fail;refine(qQ nm nd _ wr J (by omega) (by omega)).mono ?_;rintro e w' ⟨rfl,M⟩;rw[if_pos (by omega)];have K:=A.trans (M.mono A.size);clear G I;go_wp2;go_ret;exact⟨by rw[e8 (by have:=E.out;have:=V.out;omega)];rfl,K⟩
   ·have R:z.take k=z:=MX (by omega);rw[R] at N⊢;clear R;go_wp2;go_ret;exact⟨by rw[jy N];exact congrArg Ending.returned (fy (by omega)),A⟩
def pR(l:List Nat)(k:Nat):List Nat:=l.take k++List.replicate (l.length-k) 0
theorem Eo(l:List Nat):pR l 0=List.replicate l.length 0:=by simp[pR]
theorem GG(l:List Nat):pR l l.length=l:=by simp[pR]
theorem qy(l:List Nat)(k:Nat)(h:k≤l.length):(pR l k).length=l.length:=by simp[pR];omega
theorem GH(l:List Nat)(k:Nat)(h:k<l.length):(pR l k).set k l[k]=pR l (k+1):=by
 unfold pR;rw[List.set_append_right _ _ (by simp;omega)];have e:k-(l.take k).length=0:=(by simp;omega);rw[e,show l.length-k=(l.length-(k+1))+1 from by omega,List.replicate_succ,NA,MP h];simp only[Nz,List.cons_append,Nq]
theorem AM(a:Option Addr)(cap:Nat)(l:List Nat)(w:World)(Y:l.length≤1048576)(N:dW w a l):
  Calls Tryz.prog 70 #[.slice a l.length cap] w fun e w'=>e= .returned (.slice (some ⟨w.heap.size,0,none⟩) l.length l.length)∧dO w' w.heap.size (.slice (some ⟨w.heap.size,0,none⟩) l.length l.length) l∧Below w.heap.size w w':=by
 go_enter Tryz.func70,Tryz.ntmps70;go_wp2_with (at_make;refine kT _ rfl _ _ rfl l.length rfl rfl (by omega) ?_;intro Q z J)
 have I:dO Q w.heap.size (.slice (some ⟨w.heap.size,0,none⟩) l.length l.length) (pR l 0):=(by rw[Eo];exact z);clear z;go_loopw [4] (fun i wr=>∃k:Nat,k≤l.length∧i= .int .i64 k∧dO wr w.heap.size (.slice (some ⟨w.heap.size,0,none⟩) l.length l.length) (pR l k)∧Below w.heap.size w wr) (fun i _=>l.length-(intOf i).toNat)
 case atStart=>exact⟨0,MQ _,rfl,I,J⟩
 case round=>
  obtain⟨k,M,rfl,z,E⟩:=hrel;clear I J;by_cases A:k<l.length
  ·obtain⟨b,V,rfl,L⟩:=(N.below E) (by omega)
   have R:=L k A;have O:=z.cellAt k (by rw[qy l k M];exact A);have U:=z.frozenAt k;have G:=(z.store k l[k]).1;rw[GH l k A] at G;have K:Hid (dO (wr.setCell ⟨w.heap.size,k,none⟩ (bv l[k])) w.heap.size (.slice (some ⟨w.heap.size,0,none⟩) l.length l.length) (pR l (k+1))∧Below w.heap.size w (wr.setCell ⟨w.heap.size,k,none⟩ (bv l[k]))):=⟨G,E.setCell (MH _) _⟩
   generalize (pR l k)[k]'(by rw[qy l k M];exact A)=y at O;clear G z E L N;go_wp2;go_roundw
   case rel=>exact⟨k+1,by omega,by go_num,K.out.1,K.out.2⟩
   case measure=>simp[intOf];omega
  ·obtain rfl:k=l.length:=(by omega);rw[GG] at z;go_wp2;go_ret;exact⟨rfl,z,E⟩
theorem qs(a N:Option Addr)(cap R:Nat)(l m:List Nat)(w:World)(hl:l.length≤9223372036854775807)(Q:dW w a l)(M:dW w N m):
  Calls Tryz.prog 87 #[.slice a l.length cap,.slice N m.length R] w fun e w'=>e= .returned (.bool (decide (l=m)))∧∃n,w'=w.drewN n:=by
 by_cases A:l.length=m.length
 ·have U:((l.length:Int) !=(m.length:Int))=false:=(by simp;omega);have J:Hid (l.length=m.length):=A;clear A;go_enter Tryz.func87,Tryz.ntmps87;go_wp2;go_loopw [5] (fun i wr=>∃k:Nat,k≤l.length∧i= .int .i64 k∧l.take k=m.take k∧∃n,wr=w.drewN n) (fun i _=>l.length-(intOf i).toNat)
  case atStart=>exact⟨0,MQ _,rfl,rfl,0,rfl⟩
  case round=>
   obtain⟨k,hk,rfl,I,n,rfl⟩:=hrel;by_cases G:k<l.length
   ·obtain⟨b,ad,rfl,O⟩:=Q (by omega);obtain⟨b',ab,rfl,L⟩:=M (by have:=J.out;omega);have E:k<m.length:=(by have:=J.out;omega);have ac:=O k G;have aa:=L k E;have Y:Hid (l.take k=m.take k):=I;clear O L I Q M;by_cases z:l[k]=m[k]
    ·have V:(((l[k]:Nat):Int) !=((m[k]:Nat):Int))=false:=(by simp[z]);have K:Hid (l[k]=m[k]):=z;clear z;go_wp2;go_quiet(fail);go_wp2;go_roundw
     case rel=>exact⟨k+1,by omega,by go_num,pq G E Y.out K.out,_,rfl⟩
     case measure=>simp[intOf];omega
    ·have V:(((l[k]:Nat):Int) !=((m[k]:Nat):Int))=true:=(by simp;omega);have K:Hid (¬l[k]=m[k]):=z;clear z;go_wp2;go_quiet(fail);go_wp2;go_ret;exact⟨eE (decide_eq_false (Hq G E K.out)).symm,_,World.drewN_drewN _ _ _⟩
   ·go_wp2;go_ret;have he:l=m:=by
     have Z:l.take k=l:=MX (by omega);have h2:m.take k=m:=MX (by have:=J.out;omega);rw[←Z,←h2,I]
    exact⟨eE (decide_eq_true he).symm,n,rfl⟩
 ·have U:((l.length:Int) !=(m.length:Int))=true:=(by simp;omega);go_enter Tryz.func87,Tryz.ntmps87;go_wp2;go_ret;exact⟨eE (decide_eq_false (fun h=>A (by rw[h]))).symm,0,rfl⟩
def ob(w:World)(a:Option Addr)(es:List (Int×ByteArray×ByteArray×Int)):Prop:=
 0<es.length→∃b off,a=some ⟨b,off,none⟩∧∀i (h:i<es.length),w.cell? ⟨b,off+i*4,none⟩=some (.int .i64 es[i].1)∧w.cell? ⟨b,off+i*4+1,none⟩=some (.string es[i].2.1)∧w.cell? ⟨b,off+i*4+2,none⟩=some (.string es[i].2.2.1)∧w.cell? ⟨b,off+i*4+3,none⟩=some (.int .i64 es[i].2.2.2)
theorem ob.below{E:List (Int×ByteArray×ByteArray×Int)}(h:ob w a E)(A:Below w.heap.size w w'):ob w' a E:=fun N=>by
 obtain⟨b,z,rfl,L⟩:=h N;refine⟨b,z,rfl,fun i M=> ?_⟩;obtain⟨G,I,J,K⟩:=L i M;exact⟨by rw[A.cell (p:=⟨b,z+i*4,none⟩) (dH G)];exact G,by rw[A.cell (p:=⟨b,z+i*4+1,none⟩) (dH I)];exact I,by rw[A.cell (p:=⟨b,z+i*4+2,none⟩) (dH J)];exact J,by rw[A.cell (p:=⟨b,z+i*4+3,none⟩) (dH K)];exact K⟩
theorem qP(k:Int)(s t:ByteArray)(n left:Int)(w:World)(G:s.size≤9223372036854775807)(I:t.size≤9223372036854775807)(A:0≤left)(E:left≤1048576):
  Calls Tryz.prog 34 #[.agg #[.int .i64 k,.string s,.string t,.int .i64 n],.int .i64 left] w fun e w'=>e= .returned (.int .i64 (if left<s.size+t.size then-1 else left-(s.size+t.size)))∧Below w.heap.size w w':=by
 by_cases h:left<s.size
 ·rw[if_pos (by omega)];go_enter Tryz.func34,Tryz.ntmps34;go_wp2;go_ret;exact⟨rfl,(MJ _ _).alloc (MH _) _⟩
 ·by_cases z:left<s.size+t.size
  ·rw[if_pos z];go_enter Tryz.func34,Tryz.ntmps34;go_wp2;go_ret;exact⟨rfl,(MJ _ _).alloc (MH _) _⟩
  ·rw[if_neg z];go_enter Tryz.func34,Tryz.ntmps34;go_wp2;go_ret;exact⟨congrArg Ending.returned (fy (by omega)),(MJ _ _).alloc (MH _) _⟩
def kB:List (Int×ByteArray×ByteArray×Int)→Nat
 |[]=>0
 |e::es=>e.2.1.size+e.2.2.1.size+kB es
theorem qN(a b:List (Int×ByteArray×ByteArray×Int)):kB (a++b)=kB a+kB b:=by
 induction a with
 |nil=>simp[kB]
 |cons x r ih=>simp[kB,ih];omega
theorem tC(z:List (Int×ByteArray×ByteArray×Int))(k:Nat)(h:k<z.length):kB (z.take (k+1))=kB (z.take k)+(z[k].2.1.size+z[k].2.2.1.size):=by
 rw[MP h,qN];simp[kB]
theorem yb(z:List (Int×ByteArray×ByteArray×Int))(k:Nat):kB (z.take k)≤kB z:=by
 have h:=qN (z.take k) (z.drop k);rw[Nk] at h;omega
theorem yd(a:Option Addr)(cap:Nat)(z:List (Int×ByteArray×ByteArray×Int))(left:Nat)(w:World)(hl:left≤1048576)(hn:z.length≤9223372036854775807)(U:∀e∈z,e.2.1.size≤9223372036854775807∧e.2.2.1.size≤9223372036854775807)(hr:ob w a z):
  Calls Tryz.prog 15 #[.slice a z.length cap,.int .i64 (left:Int)] w fun e w'=>e= .returned (.int .i64 (l5 left (z.length+kB z)))∧Below w.heap.size w w':=by
 by_cases aa:left<z.length
 ·rw[e8 (by omega)];go_enter Tryz.func15,Tryz.ntmps15;go_wp2;go_ret;exact⟨rfl,MJ _ _⟩
 ·go_enter Tryz.func15,Tryz.ntmps15;go_wp2;go_loopw [1,5] (fun s i wr=>∃k:Nat,k≤z.length∧i= .int .i64 k∧z.length+kB (z.take k)≤left∧s= .int .i64 ((left:Int)-(z.length:Int)-(kB (z.take k):Int))∧Below w.heap.size w wr) (fun _ i _=>z.length-(intOf i).toNat)
  case atStart=>exact⟨0,MQ _,rfl,by simp[kB];omega,fy (by simp[kB]),MJ _ _⟩
  case round=>
   obtain⟨k,hk,rfl,Q,rfl,E⟩:=hrel;by_cases N:k<z.length
   ·obtain⟨b,ac,rfl,Y⟩:=(hr.below E) (by omega)
    obtain⟨I,J,K,L⟩:=Y k N;have A:=U _ (MO N);have G:=a8 (tC z k N);have HT:=a8 (yb z (k+1));generalize kB (z.take k)=s0 at Q G⊢;clear Y hr U;generalize z[k]=e0 at I J K L A G;obtain⟨kd,nm,R,nd⟩:=e0;simp only at I J K L A G;obtain⟨A,V⟩:=A;by_cases ab:z.length+s0+(nm.size+R.size)≤left
    ·go_wp2_with fail;refine(qP kd nm R nd _ wr A V (by omega) (by omega)).mono ?_;rintro e w' ⟨rfl,O⟩;rw[if_neg (by omega)];have M:=E.trans (O.mono E.size);clear I J K L;go_wp2;go_round
     case rel=>exact⟨k+1,by omega,by go_num,by rw[G.out];omega,fy (by rw[G.out];omega),M⟩
     case measure=>simp[intOf];omega
    ·go_wp2_with fail;refine(qP kd nm R nd _ wr A V (by omega) (by omega)).mono ?_;rintro e w' ⟨rfl,O⟩;rw[if_pos (by omega)];have M:=E.trans (O.mono E.size);clear I J K L;go_wp2;go_ret;exact⟨by rw[e8 (by have:=G.out;have:=HT.out;omega)];rfl,M⟩
   ·have Z:z.take k=z:=MX (by omega);rw[Z] at Q⊢;clear Z;go_wp2;go_ret;exact⟨by rw[jy Q];exact congrArg Ending.returned (fy (by omega)),E⟩
theorem qO(a:Option Addr)(n cap:Nat)(left:Int)(w:World)(z:0≤left)(A:left≤1048576)(E:n≤9223372036854775807):
  Calls Tryz.prog 54 #[.slice a n cap,.int .i64 left] w fun e w'=>e= .returned (.int .i64 (if left<n then-1 else left-n))∧w'=w:=by
 by_cases h:left<n
 ·rw[if_pos h];go_enter Tryz.func54,Tryz.ntmps54;go_wp2;go_ret;exact⟨rfl,rfl⟩
 ·rw[if_neg h];go_enter Tryz.func54,Tryz.ntmps54;go_wp2;go_ret;exact⟨rfl,rfl⟩
def iC(w:World)(a:Option Addr)(es:List (List Nat×Int)):Prop:=
 0<es.length→∃b off,a=some ⟨b,off,none⟩∧∀i (h:i<es.length),∃ai ci,w.cell? ⟨b,off+i*2,none⟩=some (.slice ai es[i].1.length ci)∧w.cell? ⟨b,off+i*2+1,none⟩=some (.int .i64 es[i].2)∧dW w ai es[i].1
theorem iC.below{E:List (List Nat×Int)}(h:iC w a E)(A:Below w.heap.size w w'):iC w' a E:=fun O=>by
 obtain⟨b,z,rfl,M⟩:=h O;refine⟨b,z,rfl,fun i N=> ?_⟩;obtain⟨J,K,G,I,L⟩:=M i N;exact⟨J,K,by rw[A.cell (p:=⟨b,z+i*2,none⟩) (dH G)];exact G,by rw[A.cell (p:=⟨b,z+i*2+1,none⟩) (dH I)];exact I,L.below A⟩
theorem tF(a:Option Addr)(n cap:Nat)(A left:Int)(w:World)(z:n≤9223372036854775807)(E:0≤left)(G:left≤1048576):
  Calls Tryz.prog 32 #[.agg #[.slice a n cap,.int .i64 A],.int .i64 left] w fun e w'=>e= .returned (.int .i64 (if left<n then-1 else left-n))∧Below w.heap.size w w':=by
 by_cases h:left<n
 ·rw[if_pos h];go_enter Tryz.func32,Tryz.ntmps32;go_wp2_with fail;refine(qO a n cap _ _ (by omega) (by omega) z).mono ?_;rintro e w' ⟨rfl,rfl⟩;rw[if_pos (by omega)];go_wp2;go_ret;exact⟨rfl,(MJ _ _).alloc (MH _) _⟩
 ·rw[if_neg h];go_enter Tryz.func32,Tryz.ntmps32;go_wp2_with fail;refine(qO a n cap _ _ (by omega) (by omega) z).mono ?_;rintro e w' ⟨rfl,rfl⟩;rw[if_neg (by omega)];go_wp2;go_ret;exact⟨rfl,(MJ _ _).alloc (MH _) _⟩
def ib:List (List Nat×Int)→Nat
 |[]=>0
 |e::es=>e.1.length+ib es
theorem qM(a b:List (List Nat×Int)):ib (a++b)=ib a+ib b:=by
 induction a with
 |nil=>simp[ib]
 |cons x r ih=>simp[ib,ih];omega
theorem jd(z:List (List Nat×Int))(k:Nat)(h:k<z.length):ib (z.take (k+1))=ib (z.take k)+z[k].1.length:=by
 rw[MP h,qM];simp[ib]
theorem lZ(z:List (List Nat×Int))(k:Nat):ib (z.take k)≤ib z:=by
 have h:=qM (z.take k) (z.drop k);rw[Nk] at h;omega
theorem AK(a:Option Addr)(cap:Nat)(z:List (List Nat×Int))(left:Nat)(w:World)(hl:left≤1048576)(hn:z.length≤9223372036854775807)(Q:∀e∈z,e.1.length≤9223372036854775807)(Z:iC w a z):
  Calls Tryz.prog 13 #[.slice a z.length cap,.int .i64 (left:Int)] w fun e w'=>e= .returned (.int .i64 (l5 left (z.length+ib z)))∧Below w.heap.size w w':=by
 by_cases aa:left<z.length
 ·rw[e8 (by omega)];go_enter Tryz.func13,Tryz.ntmps13;go_wp2;go_ret;exact⟨rfl,MJ _ _⟩
 ·go_enter Tryz.func13,Tryz.ntmps13;go_wp2;go_loopw [1,5] (fun s i wr=>∃k:Nat,k≤z.length∧i= .int .i64 k∧z.length+ib (z.take k)≤left∧s= .int .i64 ((left:Int)-(z.length:Int)-(ib (z.take k):Int))∧Below w.heap.size w wr) (fun _ i _=>z.length-(intOf i).toNat)
  case atStart=>exact⟨0,MQ _,rfl,by simp[ib];omega,fy (by simp[ib]),MJ _ _⟩
  case round=>
   obtain⟨k,hk,rfl,N,rfl,A⟩:=hrel;by_cases L:k<z.length
   ·obtain⟨b,ac,rfl,V⟩:=(Z.below A) (by omega)
    obtain⟨R,U,I,J,_⟩:=V k L;have K:=Q _ (MO L);have E:=a8 (jd z k L);have HT:=a8 (lZ z (k+1));generalize ib (z.take k)=s0 at N E⊢;clear V Z Q;generalize z[k].1.length=O at I K E;generalize z[k].2=nd at J;by_cases ab:z.length+s0+O≤left
    ·go_wp2_with fail;refine(tF R O U nd _ wr K (by omega) (by omega)).mono ?_;rintro e w' ⟨rfl,M⟩;rw[if_neg (by omega)];have G:=A.trans (M.mono A.size);clear I J;go_wp2;go_round
     case rel=>exact⟨k+1,by omega,by go_num,by rw[E.out];omega,fy (by rw[E.out];omega),G⟩
     case measure=>simp[intOf];omega
    ·go_wp2_with fail;refine(tF R O U nd _ wr K (by omega) (by omega)).mono ?_;rintro e w' ⟨rfl,M⟩;rw[if_pos (by omega)];have G:=A.trans (M.mono A.size);clear I J;go_wp2;go_ret;exact⟨by rw[e8 (by have:=E.out;have:=HT.out;omega)];rfl,G⟩
   ·have Y:z.take k=z:=MX (by omega);rw[Y] at N⊢;clear Y;go_wp2;go_ret;exact⟨by rw[jy N];exact congrArg Ending.returned (fy (by omega)),A⟩
def dZ(w:World)(g:Nat)(cs:Array Value)(t:TypeId):Prop:=w.heap[g]? =some (.cells cs t (0,0))
theorem dZ.cell(h:dZ w g cs t)(j:Nat):w.cell? ⟨g,j,none⟩=cs[j]? :=cell_of_row w g j _ _ (0,0) h
theorem dZ.lt(h:dZ w g cs t):g<w.heap.size:=by
 rcases NB g w.heap.size with z|z
 ·exact z
 ·simp[dZ,Array.getElem?_eq_none z] at h
theorem dZ.below(h:dZ w g cs t)(A:Below B w w')(z:g<B):dZ w' g cs t:=(A.block g z).trans h
theorem dZ.new(w:World)(cs:Array Value)(t:TypeId):dZ (w.alloc (.cells cs t)) w.heap.size cs t:=heap_alloc_new w _
theorem l6{left:Nat}(h:n≤left):∃l:Nat,l5 left n=(l:Int)∧l+n=left:=⟨left-n,by rw[jy h];omega,by omega⟩
def szD(ns:List (List Nat×Int))(es ks:List (ByteArray×Int))(os:List (Int×ByteArray×ByteArray×Int)):Nat:=
 (ns.length+ib ns)+(es.length+jL es)+(ks.length+jL ks)+(os.length+kB os)
theorem Cr(L G I J:Option Addr)(Q M N O:Nat)(q:Int)(ns:List (List Nat×Int))(z A:List (ByteArray×Int))(os:List (Int×ByteArray×ByteArray×Int))(w:World)
  (aE:ns.length≤9223372036854775807) (aF:z.length≤9223372036854775807) (aG:A.length≤9223372036854775807) (aH:os.length≤9223372036854775807)
  (h1:∀e∈ns,e.1.length≤9223372036854775807) (h2:∀e∈z,e.1.size≤9223372036854775807) (h3:∀e∈A,e.1.size≤9223372036854775807) (h4:∀e∈os,e.2.1.size≤9223372036854775807∧e.2.2.1.size≤9223372036854775807)
  (r1:iC w L ns) (r2:fi w G z) (r3:fi w I A) (r4:ob w J os):
  Calls Tryz.prog 4 #[.agg #[.slice L ns.length Q,.slice G z.length M,.slice I A.length N,.slice J os.length O,.int .i64 q],.int .i64 1048576] w fun e w'=>e= .returned (.int .i64 (l5 1048576 (szD ns z A os)))∧Below w.heap.size w w':=by
 generalize aA:ns.length=m1 at aE⊢;generalize aB:z.length=U at aF⊢;generalize aC:A.length=V at aG⊢;generalize aD:os.length=Y at aH⊢;have aq:=a8 aA;have ar:=a8 aB;have au:=a8 aC;have av:=a8 aD;have aM:=a8 r1;have aN:=a8 r2;have aO:=a8 r3;have aP:=a8 r4;have aI:=a8 h1;have aJ:=a8 h2;have aK:=a8 h3;have aL:=a8 h4;clear aA aB aC aD r1 r2 r3 r4 h1 h2 h3 h4;go_enter Tryz.func4,Tryz.ntmps4;go_wp2_with fail;have HL:=a8 (dZ.new w #[.slice L m1 Q,.slice G U M,.slice I V N,.slice J Y O,.int .i64 q] 26);have al:=nAl w (.cells #[.slice L m1 Q,.slice G U M,.slice I V N,.slice J Y O,.int .i64 q] 26);have K:Hid (szD ns z A os=(m1+ib ns)+(U+jL z)+(V+jL A)+(Y+kB os)):=by
  unfold szD;rw[aq.out,ar.out,au.out,av.out];exact rfl
 generalize aQ:w.alloc (.cells #[.slice L m1 Q,.slice G U M,.slice I V N,.slice J Y O,.int .i64 q] 26)=w1 at HL al⊢;clear aQ;have Z:w.heap.size<w1.heap.size:=HL.out.lt;have ah:=a8 al;clear al;generalize hW:w.heap.size=B at HL ah Z⊢;have E:=a8 hW;clear hW;obtain rfl:=aq.out;refine(AK L Q ns 1048576 w1 (by omega) aE aI.out (aM.out.below (by have h:=ah.out;have e:=E.out;rw[e];exact h))).mono ?_;rintro e w2 ⟨rfl,aa⟩;have an:=a8 (HL.out.below aa Z);have ai:B<w2.heap.size:=MW Z aa.size;have ae:=a8 (ah.out.trans (aa.mono (Nat.le_of_lt Z)));clear aa;by_cases aw:1048576<ns.length+ib ns
 ·rw[e8 aw];go_wp2;go_ret;exact⟨by rw[e8 (by have:=K.out;omega)];rfl,by rw[E.out];exact ae.out⟩
 ·obtain⟨l1,e1,aT⟩:=l6 (Nat.le_of_not_lt aw);rw[e1];clear e1;have R:w2.cell? ⟨B,1,none⟩=some (.slice G U M):=(by rw[an.out.cell];rfl);go_wp2_with fail;clear R;obtain rfl:=ar.out;refine(pp G M z l1 w2 (by omega) aF aJ.out (aN.out.below (by have h:=ae.out;have e:=E.out;rw[e];exact h))).mono ?_;rintro e w3 ⟨rfl,ab⟩;have ao:=a8 (an.out.below ab ai);have aj:B<w3.heap.size:=MW ai ab.size;have af:=a8 (ae.out.trans (ab.mono (Nat.le_of_lt ai)));clear ab;by_cases ax:l1<z.length+jL z
  ·rw[e8 ax];go_wp2;go_ret;exact⟨by rw[e8 (by have:=K.out;omega)];rfl,by rw[E.out];exact af.out⟩
  ·obtain⟨l2,e2,aU⟩:=l6 (Nat.le_of_not_lt ax);rw[e2];clear e2;have R:w3.cell? ⟨B,2,none⟩=some (.slice I V N):=(by rw[ao.out.cell];rfl);go_wp2_with fail;clear R;obtain rfl:=au.out;refine(pp I N A l2 w3 (by omega) aG aK.out (aO.out.below (by have h:=af.out;have e:=E.out;rw[e];exact h))).mono ?_;rintro e w4 ⟨rfl,ac⟩;have ap:=a8 (ao.out.below ac aj);have ak:B<w4.heap.size:=MW aj ac.size;have ag:=a8 (af.out.trans (ac.mono (Nat.le_of_lt aj)));clear ac;by_cases ay:l2<A.length+jL A
   ·rw[e8 ay];go_wp2;go_ret;exact⟨by rw[e8 (by have:=K.out;omega)];rfl,by rw[E.out];exact ag.out⟩
   ·obtain⟨l3,e3,aV⟩:=l6 (Nat.le_of_not_lt ay);rw[e3];clear e3;have R:w4.cell? ⟨B,3,none⟩=some (.slice J Y O):=(by rw[ap.out.cell];rfl);go_wp2_with fail;clear R;obtain rfl:=av.out;refine(yd J O os l3 w4 (by omega) aH aL.out (aP.out.below (by have h:=ag.out;have e:=E.out;rw[e];exact h))).mono ?_;rintro e w5 ⟨rfl,ad⟩;have aR:=a8 (ap.out.below ad ak);have aS:B<w5.heap.size:=MW ak ad.size;have am:=a8 (ag.out.trans (ad.mono (Nat.le_of_lt ak)));clear ad;by_cases az:l3<os.length+kB os
    ·rw[e8 az];go_wp2;go_ret;exact⟨by rw[e8 (by have:=K.out;omega)];rfl,by rw[E.out];exact am.out⟩
    ·obtain⟨l4,e4,aW⟩:=l6 (Nat.le_of_not_lt az);rw[e4];clear e4;go_wp2;go_ret;exact⟨by rw[jy (by have:=K.out;omega)];exact congrArg Ending.returned (fy (by have:=K.out;omega)),by rw[E.out];exact am.out⟩
theorem dZ.c2{z A:Value}{r:List Value}(h:dZ w g (z::A::r).toArray t):w.cell? ⟨g,0,none⟩=some z∧w.cell? ⟨g,1,none⟩=some A:=⟨h.cell 0,h.cell 1⟩
theorem dZ.c3{z A:Value}{r:List Value}(h:dZ w g (z::A::E::r).toArray t):w.cell? ⟨g,0,none⟩=some z∧w.cell? ⟨g,1,none⟩=some A∧w.cell? ⟨g,2,none⟩=some E:=⟨h.cell 0,h.cell 1,h.cell 2⟩
theorem dZ.c4{z A:Value}{r:List Value}(h:dZ w g (z::A::E::G::r).toArray t):w.cell? ⟨g,0,none⟩=some z∧w.cell? ⟨g,1,none⟩=some A∧w.cell? ⟨g,2,none⟩=some E∧w.cell? ⟨g,3,none⟩=some G:=⟨h.cell 0,h.cell 1,h.cell 2,h.cell 3⟩
theorem dZ.c5{z A:Value}{r:List Value}(h:dZ w g (z::A::E::G::I::r).toArray t):w.cell? ⟨g,0,none⟩=some z∧w.cell? ⟨g,1,none⟩=some A∧w.cell? ⟨g,2,none⟩=some E∧w.cell? ⟨g,3,none⟩=some G∧w.cell? ⟨g,4,none⟩=some I:=⟨h.cell 0,h.cell 1,h.cell 2,h.cell 3,h.cell 4⟩
theorem dZ.c6{z A:Value}{r:List Value}(h:dZ w g (z::A::E::G::I::J::r).toArray t):w.cell? ⟨g,0,none⟩=some z∧w.cell? ⟨g,1,none⟩=some A∧w.cell? ⟨g,2,none⟩=some E∧w.cell? ⟨g,3,none⟩=some G∧w.cell? ⟨g,4,none⟩=some I∧w.cell? ⟨g,5,none⟩=some J:=⟨h.cell 0,h.cell 1,h.cell 2,h.cell 3,h.cell 4,h.cell 5⟩
theorem dZ.c7{z A:Value}{r:List Value}(h:dZ w g (z::A::E::G::I::J::K::r).toArray t):w.cell? ⟨g,0,none⟩=some z∧w.cell? ⟨g,1,none⟩=some A∧w.cell? ⟨g,2,none⟩=some E∧w.cell? ⟨g,3,none⟩=some G∧w.cell? ⟨g,4,none⟩=some I∧w.cell? ⟨g,5,none⟩=some J∧w.cell? ⟨g,6,none⟩=some K:=⟨h.cell 0,h.cell 1,h.cell 2,h.cell 3,h.cell 4,h.cell 5,h.cell 6⟩
theorem dZ.c8{z A:Value}{r:List Value}(h:dZ w g (z::A::E::G::I::J::K::L::r).toArray t):w.cell? ⟨g,0,none⟩=some z∧w.cell? ⟨g,1,none⟩=some A∧w.cell? ⟨g,2,none⟩=some E∧w.cell? ⟨g,3,none⟩=some G∧w.cell? ⟨g,4,none⟩=some I∧w.cell? ⟨g,5,none⟩=some J∧w.cell? ⟨g,6,none⟩=some K∧w.cell? ⟨g,7,none⟩=some L:=⟨h.cell 0,h.cell 1,h.cell 2,h.cell 3,h.cell 4,h.cell 5,h.cell 6,h.cell 7⟩
theorem dZ.c9{z A:Value}{r:List Value}(h:dZ w g (z::A::E::G::I::J::K::L::M::r).toArray t):w.cell? ⟨g,0,none⟩=some z∧w.cell? ⟨g,1,none⟩=some A∧w.cell? ⟨g,2,none⟩=some E∧w.cell? ⟨g,3,none⟩=some G∧w.cell? ⟨g,4,none⟩=some I∧w.cell? ⟨g,5,none⟩=some J∧w.cell? ⟨g,6,none⟩=some K∧w.cell? ⟨g,7,none⟩=some L∧w.cell? ⟨g,8,none⟩=some M:=⟨h.cell 0,h.cell 1,h.cell 2,h.cell 3,h.cell 4,h.cell 5,h.cell 6,h.cell 7,h.cell 8⟩
theorem dZ.c10{z A:Value}{r:List Value}(h:dZ w g (z::A::E::G::I::J::K::L::M::N::r).toArray t):w.cell? ⟨g,0,none⟩=some z∧w.cell? ⟨g,1,none⟩=some A∧w.cell? ⟨g,2,none⟩=some E∧w.cell? ⟨g,3,none⟩=some G∧w.cell? ⟨g,4,none⟩=some I∧w.cell? ⟨g,5,none⟩=some J∧w.cell? ⟨g,6,none⟩=some K∧w.cell? ⟨g,7,none⟩=some L∧w.cell? ⟨g,8,none⟩=some M∧w.cell? ⟨g,9,none⟩=some N:=⟨h.cell 0,h.cell 1,h.cell 2,h.cell 3,h.cell 4,h.cell 5,h.cell 6,h.cell 7,h.cell 8,h.cell 9⟩
theorem dZ.c11{A z:Value}{r:List Value}(h:dZ w g (A::E::G::I::J::K::L::M::N::O::z::r).toArray t):w.cell? ⟨g,0,none⟩=some A∧w.cell? ⟨g,1,none⟩=some E∧w.cell? ⟨g,2,none⟩=some G∧w.cell? ⟨g,3,none⟩=some I∧w.cell? ⟨g,4,none⟩=some J∧w.cell? ⟨g,5,none⟩=some K∧w.cell? ⟨g,6,none⟩=some L∧w.cell? ⟨g,7,none⟩=some M∧w.cell? ⟨g,8,none⟩=some N∧w.cell? ⟨g,9,none⟩=some O∧w.cell? ⟨g,10,none⟩=some z:=⟨h.cell 0,h.cell 1,h.cell 2,h.cell 3,h.cell 4,h.cell 5,h.cell 6,h.cell 7,h.cell 8,h.cell 9,h.cell 10⟩
theorem dZ.c12{Q z A:Value}{r:List Value}(h:dZ w g (E::G::I::J::K::L::M::N::O::Q::z::A::r).toArray t):w.cell? ⟨g,0,none⟩=some E∧w.cell? ⟨g,1,none⟩=some G∧w.cell? ⟨g,2,none⟩=some I∧w.cell? ⟨g,3,none⟩=some J∧w.cell? ⟨g,4,none⟩=some K∧w.cell? ⟨g,5,none⟩=some L∧w.cell? ⟨g,6,none⟩=some M∧w.cell? ⟨g,7,none⟩=some N∧w.cell? ⟨g,8,none⟩=some O∧w.cell? ⟨g,9,none⟩=some Q∧w.cell? ⟨g,10,none⟩=some z∧w.cell? ⟨g,11,none⟩=some A:=⟨h.cell 0,h.cell 1,h.cell 2,h.cell 3,h.cell 4,h.cell 5,h.cell 6,h.cell 7,h.cell 8,h.cell 9,h.cell 10,h.cell 11⟩
theorem dZ.c13{Q R z A:Value}{r:List Value}(h:dZ w g (G::I::J::K::L::M::N::O::Q::R::z::A::E::r).toArray t):w.cell? ⟨g,0,none⟩=some G∧w.cell? ⟨g,1,none⟩=some I∧w.cell? ⟨g,2,none⟩=some J∧w.cell? ⟨g,3,none⟩=some K∧w.cell? ⟨g,4,none⟩=some L∧w.cell? ⟨g,5,none⟩=some M∧w.cell? ⟨g,6,none⟩=some N∧w.cell? ⟨g,7,none⟩=some O∧w.cell? ⟨g,8,none⟩=some Q∧w.cell? ⟨g,9,none⟩=some R∧w.cell? ⟨g,10,none⟩=some z∧w.cell? ⟨g,11,none⟩=some A∧w.cell? ⟨g,12,none⟩=some E:=⟨h.cell 0,h.cell 1,h.cell 2,h.cell 3,h.cell 4,h.cell 5,h.cell 6,h.cell 7,h.cell 8,h.cell 9,h.cell 10,h.cell 11,h.cell 12⟩
def two(l:List (Value×Value)):List Value:=l.flatMap fun p=>[p.1,p.2]
theorem jM(p:Value×Value)(l:List (Value×Value)):two (p::l)=p.1::p.2::two l:=rfl
theorem l7(l:List (Value×Value)):(two l).length=l.length*2:=by
 induction l with
 |nil=>rfl
 |cons p l ih=>rw[jM];simp[ih];omega
theorem pt(l:List (Value×Value))(i:Nat)(h:i<l.length):(two l)[i*2]? =some l[i].1:=by
 induction l generalizing i with
 |nil=>simp at h
 |cons p l ih=>
  cases i with
  |zero=>simp[jM]
  |succ i=>
   rw[jM,show(i+1)*2=i*2+1+1 from by omega];simp only[Ni,List.getElem_cons_succ];exact ih i (by simpa using h)
theorem pu(l:List (Value×Value))(i:Nat)(h:i<l.length):(two l)[i*2+1]? =some l[i].2:=by
 induction l generalizing i with
 |nil=>simp at h
 |cons p l ih=>
  cases i with
  |zero=>simp[jM]
  |succ i=>
   rw[jM,show(i+1)*2+1=(i*2+1)+1+1 from by omega];simp only[Ni,List.getElem_cons_succ];exact ih i (by simpa using h)
theorem DD(l:List (Value×Value))(i:Nat)(x y:Value):((two l).set (i*2) x).set (i*2+1) y=two (l.set i (x,y)):=by
 induction l generalizing i with
 |nil=>simp[two]
 |cons p l ih=>
  cases i with
  |zero=>simp[jM]
  |succ i=>
   rw[jM,show(i+1)*2+1=(i*2+1)+1+1 from by omega,show(i+1)*2=i*2+1+1 from by omega];simp only[List.set_cons_succ,jM];rw[ih i]
theorem AR(A E:Value)(n:Nat):(madeCells #[A,E] (n*2)).toList=two (List.replicate n (A,E)):=by
 apply List.ext_getElem?;intro j;by_cases z:j<n*2
 ·obtain⟨i,rfl|rfl⟩:∃i,j=i*2∨j=i*2+1:=⟨j/2,by omega⟩
  ·rw[pt _ _ (by simp;omega)];simp[madeCells,z]
  ·rw[pu _ _ (by simp;omega)];simp[madeCells,z]
 ·rw[Nf (by simp[size_madeCells];omega),Nf (by rw[l7];simp;omega)]
def fj(w:World)(base:Nat)(e:TypeId)(v:Value)(l:List (Value×Value)):Prop:=w.ownsRow base e 2 v l.length (two l)
theorem fj.slice{e:TypeId}{v:Value}{l:List (Value×Value)}(h:fj w z e v l):∃a cap,v= .slice a l.length cap:=by
 rcases h.2 with⟨rfl,A⟩|⟨g,cap,E,rfl,_⟩
 ·exact⟨none,0,by rw[A]⟩
 ·exact⟨_,cap,rfl⟩
theorem fj.store{l:List (Value×Value)}(h:fj w z e (.slice (some ⟨g,0,none⟩) n cap) l)(k:Nat)(x y:Value):
  fj ((w.setCell ⟨g,k*2,none⟩ x).setCell ⟨g,k*2+1,none⟩ y) z e (.slice (some ⟨g,0,none⟩) n cap) (l.set k (x,y)):=by
 obtain⟨a,c,A⟩:=h.slice;simp only[MR] at A;obtain⟨_,rfl,rfl⟩:=A;have E:=(World.ownsRow.stored (World.ownsRow.stored h (k*2) x).1 (k*2+1) y).1;unfold fj;rw[List.length_set,←DD];exact E
theorem fj.cells{G:Nat}{l:List (Value×Value)}(h:fj w G e (.slice (some ⟨g,0,none⟩) n cap) l)(k:Nat)(E:k<l.length):w.cell? ⟨g,k*2,none⟩=some l[k].1∧w.cell? ⟨g,k*2+1,none⟩=some l[k].2:=by
 have z:=World.ownsRow.cells h (g:=g) rfl (k*2) _ (pt l k E);have A:=World.ownsRow.cells h (g:=g) rfl (k*2+1) _ (pu l k E);rw[ej,Ng] at z A;exact⟨z,A⟩
theorem fj.frozen{l:List (Value×Value)}(h:fj w A e (.slice (some ⟨g,0,none⟩) n cap) l)(k:Nat):w.frozen? ⟨g,k,none⟩=false:=by
 obtain⟨a,c,z⟩:=h.slice;simp only[MR] at z;obtain⟨_,rfl,rfl⟩:=z;exact World.ownsRow.frozenAt h k
theorem fj.below{v:Value}{l:List (Value×Value)}(h:fj w A e v l)(M:Below B w w')(L:w.heap.size≤B):fj w' A e v l:=by
 refine⟨h.1,?_⟩;rcases h.2 with N|⟨g,cap,I,O,J,E,G⟩
 ·exact .inl N
 ·refine .inr ⟨g,cap,I,O,J,?_,G⟩;have K:g<w.heap.size:=by
   rcases NB g w.heap.size with z|z
   ·exact z
   ·simp[Array.getElem?_eq_none z] at E
  rw[M.block g (MW K L)];exact E
def hV{α:Type}(z:α)(l:List α)(k:Nat):List α:=l.take k++List.replicate (l.length-k) z
theorem rZ{α:Type}(z:α)(l:List α):hV z l 0=List.replicate l.length z:=by simp[hV]
theorem vf{α:Type}(z:α)(l:List α):hV z l l.length=l:=by simp[hV]
theorem gt{α:Type}(z:α)(l:List α)(k:Nat)(h:k≤l.length):(hV z l k).length=l.length:=by simp[hV];omega
theorem vg{α:Type}(z:α)(l:List α)(k:Nat)(h:k<l.length):(hV z l k).set k l[k]=hV z l (k+1):=by
 unfold hV;rw[List.set_append_right _ _ (by simp;omega)];have e:k-(l.take k).length=0:=(by simp;omega);rw[e,show l.length-k=(l.length-(k+1))+1 from by omega,List.replicate_succ,NA,MP h];simp only[Nz,List.cons_append,Nq]
abbrev V4:=Value×Value×Value×Value
def pP(l:List V4):List Value:=l.flatMap fun p=>[p.1,p.2.1,p.2.2.1,p.2.2.2]
theorem gh(p:V4)(l:List V4):pP (p::l)=p.1::p.2.1::p.2.2.1::p.2.2.2::pP l:=rfl
theorem yX(l:List V4):(pP l).length=l.length*4:=by
 induction l with
 |nil=>rfl
 |cons p l ih=>rw[gh];simp[ih];omega
theorem uX(l:List V4)(i:Nat)(h:i<l.length):(pP l)[i*4]? =some l[i].1:=by
 induction l generalizing i with
 |nil=>simp at h
 |cons p l ih=>
  cases i with
  |zero=>simp[gh]
  |succ i=>
   rw[gh,show(i+1)*4=(i*4)+1+1+1+1 from by omega];simp only[Ni,List.getElem_cons_succ];exact ih i (by simpa using h)
theorem uY(l:List V4)(i:Nat)(h:i<l.length):(pP l)[i*4+1]? =some l[i].2.1:=by
 induction l generalizing i with
 |nil=>simp at h
 |cons p l ih=>
  cases i with
  |zero=>simp[gh]
  |succ i=>
   rw[gh,show(i+1)*4+1=(i*4+1)+1+1+1+1 from by omega];simp only[Ni,List.getElem_cons_succ];exact ih i (by simpa using h)
theorem uZ(l:List V4)(i:Nat)(h:i<l.length):(pP l)[i*4+2]? =some l[i].2.2.1:=by
 induction l generalizing i with
 |nil=>simp at h
 |cons p l ih=>
  cases i with
  |zero=>simp[gh]
  |succ i=>
   rw[gh,show(i+1)*4+2=(i*4+2)+1+1+1+1 from by omega];simp only[Ni,List.getElem_cons_succ];exact ih i (by simpa using h)
theorem u6(l:List V4)(i:Nat)(h:i<l.length):(pP l)[i*4+3]? =some l[i].2.2.2:=by
 induction l generalizing i with
 |nil=>simp at h
 |cons p l ih=>
  cases i with
  |zero=>simp[gh]
  |succ i=>
   rw[gh,show(i+1)*4+3=(i*4+3)+1+1+1+1 from by omega];simp only[Ni,List.getElem_cons_succ];exact ih i (by simpa using h)
theorem Gx(l:List V4)(i:Nat)(x y z u:Value):((((pP l).set (i*4) x).set (i*4+1) y).set (i*4+2) z).set (i*4+3) u=pP (l.set i (x,y,z,u)):=by
 induction l generalizing i with
 |nil=>simp[pP]
 |cons p l ih=>
  cases i with
  |zero=>simp[gh]
  |succ i=>
   rw[gh,show(i+1)*4+3=(i*4+3)+1+1+1+1 from by omega,show(i+1)*4+2=(i*4+2)+1+1+1+1 from by omega,show(i+1)*4+1=(i*4+1)+1+1+1+1 from by omega,show(i+1)*4=i*4+1+1+1+1 from by omega];simp only[List.set_cons_succ,gh];rw[ih i]
theorem El(A E z2 G:Value)(n:Nat):(madeCells #[A,E,z2,G] (n*4)).toList=pP (List.replicate n (A,E,z2,G)):=by
 apply List.ext_getElem?;intro j;by_cases z:j<n*4
 ·obtain⟨i,rfl|rfl|rfl|rfl⟩:∃i,j=i*4∨j=i*4+1∨j=i*4+2∨j=i*4+3:=⟨j/4,by omega⟩
  ·rw[uX _ _ (by simp;omega)];simp[madeCells,z]
  ·rw[uY _ _ (by simp;omega)];simp[madeCells,z]
  ·rw[uZ _ _ (by simp;omega)];simp[madeCells,z]
  ·rw[u6 _ _ (by simp;omega)];simp[madeCells,z]
 ·rw[Nf (by simp[size_madeCells];omega),Nf (by rw[yX];simp;omega)]
def iO(w:World)(base:Nat)(e:TypeId)(v:Value)(l:List V4):Prop:=w.ownsRow base e 4 v l.length (pP l)
theorem iO.slice{e:TypeId}{v:Value}{l:List V4}(h:iO w z e v l):∃a cap,v= .slice a l.length cap:=by
 rcases h.2 with⟨rfl,A⟩|⟨g,cap,E,rfl,_⟩
 ·exact⟨none,0,by rw[A]⟩
 ·exact⟨_,cap,rfl⟩
theorem iO.store{l:List V4}(h:iO w A e (.slice (some ⟨g,0,none⟩) n cap) l)(k:Nat)(x y z u:Value):
  iO ((((w.setCell ⟨g,k*4,none⟩ x).setCell ⟨g,k*4+1,none⟩ y).setCell ⟨g,k*4+2,none⟩ z).setCell ⟨g,k*4+3,none⟩ u) A e (.slice (some ⟨g,0,none⟩) n cap) (l.set k (x,y,z,u)):=by
 obtain⟨a,c,E⟩:=h.slice;simp only[MR] at E;obtain⟨_,rfl,rfl⟩:=E;have G:=(World.ownsRow.stored (World.ownsRow.stored (World.ownsRow.stored (World.ownsRow.stored h (k*4) x).1 (k*4+1) y).1 (k*4+2) z).1 (k*4+3) u).1;unfold iO;rw[List.length_set,←Gx];exact G
theorem iO.cells{J:Nat}{l:List V4}(h:iO w J e (.slice (some ⟨g,0,none⟩) n cap) l)(k:Nat)(z:k<l.length):w.cell? ⟨g,k*4,none⟩=some l[k].1∧w.cell? ⟨g,k*4+1,none⟩=some l[k].2.1∧w.cell? ⟨g,k*4+2,none⟩=some l[k].2.2.1∧w.cell? ⟨g,k*4+3,none⟩=some l[k].2.2.2:=by
 have A:=World.ownsRow.cells h (g:=g) rfl (k*4) _ (uX l k z);have E:=World.ownsRow.cells h (g:=g) rfl (k*4+1) _ (uY l k z);have G:=World.ownsRow.cells h (g:=g) rfl (k*4+2) _ (uZ l k z);have I:=World.ownsRow.cells h (g:=g) rfl (k*4+3) _ (u6 l k z);rw[ej,Ng] at A E G I;exact⟨A,E,G,I⟩
theorem iO.frozen{l:List V4}(h:iO w A e (.slice (some ⟨g,0,none⟩) n cap) l)(k:Nat):w.frozen? ⟨g,k,none⟩=false:=by
 obtain⟨a,c,z⟩:=h.slice;simp only[MR] at z;obtain⟨_,rfl,rfl⟩:=z;exact World.ownsRow.frozenAt h k
theorem iO.below{v:Value}{l:List V4}(h:iO w A e v l)(M:Below B w w')(L:w.heap.size≤B):iO w' A e v l:=by
 refine⟨h.1,?_⟩;rcases h.2 with N|⟨g,cap,I,O,J,E,G⟩
 ·exact .inl N
 ·refine .inr ⟨g,cap,I,O,J,?_,G⟩;have K:g<w.heap.size:=by
   rcases NB g w.heap.size with z|z
   ·exact z
   ·simp[Array.getElem?_eq_none z] at E
  rw[M.block g (MW K L)];exact E
theorem AO(s:ByteArray)(n:Int)(w:World):
  Calls Tryz.prog 40 #[.agg #[.string s,.int .i64 n]] w fun e w'=>e= .returned (.agg #[.string s,.int .i64 n])∧Below w.heap.size w w':=by
 go_enter Tryz.func40,Tryz.ntmps40;go_wp2;refine bodyPost_ret (v:= .agg #[.string s,.int .i64 n]) (by simp[results,Tryz.results40,go_sem]) rfl ⟨rfl,?_⟩;exact(((MJ _ _).alloc (MH _) _).alloc (by simp) _).alloc (by simp;omega) _
theorem AN(k:Int)(s t:ByteArray)(n:Int)(w:World):
  Calls Tryz.prog 41 #[.agg #[.int .i64 k,.string s,.string t,.int .i64 n]] w fun e w'=>e= .returned (.agg #[.int .i64 k,.string s,.string t,.int .i64 n])∧Below w.heap.size w w':=by
 go_enter Tryz.func41,Tryz.ntmps41;go_wp2;refine bodyPost_ret (v:= .agg #[.int .i64 k,.string s,.string t,.int .i64 n]) (by simp[results,Tryz.results41,go_sem]) rfl ⟨rfl,?_⟩;exact(((MJ _ _).alloc (MH _) _).alloc (by simp) _).alloc (by simp;omega) _
theorem Tryz.infoDirOp:(Tryz.prog.info? 95).map (fun i=>(i.zero,i.size,i.bytes))=some (some (.agg #[.int .i64 0,.string ByteArray.empty,.string ByteArray.empty,.int .i64 0]),4,48):=by kernel_rfl
def opP(e:Int×ByteArray×ByteArray×Int):V4:=(.int .i64 e.1,.string e.2.1,.string e.2.2.1,.int .i64 e.2.2.2)
def lH(w:World)(base:Nat)(v:Value)(es:List (Int×ByteArray×ByteArray×Int)):Prop:=iO w base 95 v (es.map opP)
theorem lH.at{L:Nat}{z:List (Int×ByteArray×ByteArray×Int)}(h:lH w L (.slice a n cap) z):ob w a z:=fun N=>by
 rcases h.2 with⟨_,K⟩|⟨g,O,Q,A,_⟩
 ·simp at K;simp[K] at N
 ·simp only[MR] at A;obtain⟨rfl,rfl,rfl⟩:=A;refine⟨g,0,rfl,fun i M=> ?_⟩;obtain⟨E,G,I,J⟩:=iO.cells h i (by simpa using M);rw[Ng];simp[opP] at E G I J;exact⟨E,G,I,J⟩
theorem pB{G:Array Oper}{E:List Oper}{z:Act}(w:World)(J:o.guard=none)(s x:Operand)
  (O:o.op=Op.makeSlice 35 s x) (n:Nat) (R:z.eval s= .int .i64 (n:Int)) (U:z.eval x= .int .i64 (n:Int)) (Z:n≤1048576)
  (h:∀w',lH w' w.heap.size (.slice (some ⟨w.heap.size,0,none⟩) n n) (List.replicate n (0,ByteArray.empty,ByteArray.empty,0))→Below w.heap.size w w'→wpList Tryz.prog G Q E (z.put o.dst (.slice (some ⟨w.heap.size,0,none⟩) n n)) w'):wpList Tryz.prog G Q (o::E) z w:=by
 obtain⟨V,N,K,L,M⟩:=info_parts Tryz.infoDirOp;refine wpList_make_full w J s x 35 O w.heap.size 95 V (.agg #[.int .i64 0,.string ByteArray.empty,.string ByteArray.empty,.int .i64 0]) 4 Tryz.underlying35 N K L .i64 .i64 _ _ n R U rfl rfl (by rw[M];omega) (by unfold maxLen;omega) (MH _) ?_;intro Y A I;refine h Y ?_ ((MJ _ _).grown I (MH _) (fun k h=>by cases h));unfold lH iO;rw[MI,List.length_replicate,List.map_replicate];have e:(madeCells (Value.agg #[.int .i64 0,.string ByteArray.empty,.string ByteArray.empty,.int .i64 0]).cells (n*4)).toList=pP (List.replicate n (opP (0,ByteArray.empty,ByteArray.empty,0))):=El _ _ _ _ _;rw[e] at A;exact A
theorem yf(a:Option Addr)(cap:Nat)(l:List (Int×ByteArray×ByteArray×Int))(w:World)(hl:l.length≤1048576)(M:ob w a l):
  Calls Tryz.prog 20 #[.slice a l.length cap] w fun e w'=>e= .returned (.slice (some ⟨w.heap.size,0,none⟩) l.length l.length)∧lH w' w.heap.size (.slice (some ⟨w.heap.size,0,none⟩) l.length l.length) l∧Below w.heap.size w w':=by
 go_enter Tryz.func20,Tryz.ntmps20;go_wp2_with (at_make;refine pB _ rfl _ _ rfl l.length rfl rfl (by omega) ?_;intro w1 A Q)
 have O:lH w1 w.heap.size (.slice (some ⟨w.heap.size,0,none⟩) l.length l.length) (hV (0,ByteArray.empty,ByteArray.empty,0) l 0):=(by rw[rZ];exact A);clear A;go_loopw [4] (fun i wr=>∃k:Nat,k≤l.length∧i= .int .i64 k∧lH wr w.heap.size (.slice (some ⟨w.heap.size,0,none⟩) l.length l.length) (hV (0,ByteArray.empty,ByteArray.empty,0) l k)∧Below w.heap.size w wr) (fun i _=>l.length-(intOf i).toNat)
 case atStart=>exact⟨0,MQ _,rfl,O,Q⟩
 case round=>
  obtain⟨k,J,rfl,A,I⟩:=hrel;clear O Q;by_cases E:k<l.length
  ·obtain⟨b,aj,rfl,V⟩:=(M.below I) (by omega)
   obtain⟨Y,Z,aa,ab⟩:=V k E;have U:=a8 A;have HR:=a8 M;clear V M A;go_wp2_with fail;refine(AN _ _ _ _ wr).mono ?_;rintro e N ⟨rfl,L⟩;have z:lH N _ _ _:=U.out.below L (MH _);obtain⟨ac,ad,hd2,ae⟩:=iO.cells z k (by rw[MI,gt _ l k J];exact E);have af:=iO.frozen z (k*4);have ag:=iO.frozen z (k*4+1);have ah:=iO.frozen z (k*4+2);have ai:=iO.frozen z (k*4+3);have K:=iO.store z k (.int .i64 l[k].1) (.string l[k].2.1) (.string l[k].2.2.1) (.int .i64 l[k].2.2.2);have R:((hV (0,ByteArray.empty,ByteArray.empty,0) l k).map opP).set k (.int .i64 l[k].1,.string l[k].2.1,.string l[k].2.2.1,.int .i64 l[k].2.2.2)=(hV (0,ByteArray.empty,ByteArray.empty,0) l (k+1)).map opP:=by
    rw[←vg _ l k E,List.map_set];rfl
   rw[R] at K;have G:Hid (lH ((((N.setCell ⟨w.heap.size,k*4,none⟩ (.int .i64 l[k].1)).setCell ⟨w.heap.size,k*4+1,none⟩ (.string l[k].2.1)).setCell ⟨w.heap.size,k*4+2,none⟩ (.string l[k].2.2.1)).setCell ⟨w.heap.size,k*4+3,none⟩ (.int .i64 l[k].2.2.2)) w.heap.size (.slice (some ⟨w.heap.size,0,none⟩) l.length l.length) (hV (0,ByteArray.empty,ByteArray.empty,0) l (k+1))∧Below w.heap.size w ((((N.setCell ⟨w.heap.size,k*4,none⟩ (.int .i64 l[k].1)).setCell ⟨w.heap.size,k*4+1,none⟩ (.string l[k].2.1)).setCell ⟨w.heap.size,k*4+2,none⟩ (.string l[k].2.2.1)).setCell ⟨w.heap.size,k*4+3,none⟩ (.int .i64 l[k].2.2.2))):=
    ⟨K,((((I.trans (L.mono I.size)).setCell (MH _) _).setCell (MH _) _).setCell (MH _) _).setCell (MH _) _⟩
   generalize (((hV (0,ByteArray.empty,ByteArray.empty,0) l k).map opP)[k]'(by rw[MI,gt _ l k J];exact E)).1=y0 at ac;generalize (((hV (0,ByteArray.empty,ByteArray.empty,0) l k).map opP)[k]'(by rw[MI,gt _ l k J];exact E)).2.1=y1 at ad;generalize (((hV (0,ByteArray.empty,ByteArray.empty,0) l k).map opP)[k]'(by rw[MI,gt _ l k J];exact E)).2.2.1=y2 at hd2;generalize (((hV (0,ByteArray.empty,ByteArray.empty,0) l k).map opP)[k]'(by rw[MI,gt _ l k J];exact E)).2.2.2=y3 at ae;clear K R z Y Z aa ab U I L;generalize l[k].1=s0 at G⊢;generalize l[k].2.1=s1 at G⊢;generalize l[k].2.2.1=s2 at G⊢;generalize l[k].2.2.2=s3 at G⊢;go_wp2;go_roundw
   case rel=>exact⟨k+1,by omega,by go_num,G.out.1,G.out.2⟩
   case measure=>simp[intOf];omega
  ·obtain rfl:k=l.length:=(by omega);rw[vf] at A;go_wp2;go_ret;exact⟨rfl,A,I⟩
theorem Tryz.infoEntry:(Tryz.prog.info? 93).map (fun i=>(i.zero,i.size,i.bytes))=some (some (.agg #[.string ByteArray.empty,.int .i64 0]),2,24):=by kernel_rfl
def wG(e:ByteArray×Int):Value×Value:=(.string e.1,.int .i64 e.2)
def gB(w:World)(base:Nat)(v:Value)(es:List (ByteArray×Int)):Prop:=fj w base 93 v (es.map wG)
theorem gB.at{J:Nat}{z:List (ByteArray×Int)}(h:gB w J (.slice a n cap) z):fi w a z:=fun L=>by
 rcases h.2 with⟨_,I⟩|⟨g,M,N,A,_⟩
 ·simp at I;simp[I] at L
 ·simp only[MR] at A;obtain⟨rfl,rfl,rfl⟩:=A;refine⟨g,0,rfl,fun i K=> ?_⟩;obtain⟨E,G⟩:=fj.cells h i (by simpa using K);rw[Ng];simp[wG] at E G;exact⟨E,G⟩
theorem nL{G:Array Oper}{E:List Oper}{z:Act}(w:World)(J:o.guard=none)(s x:Operand)
  (O:o.op=Op.makeSlice 34 s x) (n:Nat) (R:z.eval s= .int .i64 (n:Int)) (U:z.eval x= .int .i64 (n:Int)) (Z:n≤1048576)
  (h:∀w',gB w' w.heap.size (.slice (some ⟨w.heap.size,0,none⟩) n n) (List.replicate n (ByteArray.empty,0))→Below w.heap.size w w'→wpList Tryz.prog G Q E (z.put o.dst (.slice (some ⟨w.heap.size,0,none⟩) n n)) w'):wpList Tryz.prog G Q (o::E) z w:=by
 obtain⟨V,N,K,L,M⟩:=info_parts Tryz.infoEntry;refine wpList_make_full w J s x 34 O w.heap.size 93 V (.agg #[.string ByteArray.empty,.int .i64 0]) 2 Tryz.underlying34 N K L .i64 .i64 _ _ n R U rfl rfl (by rw[M];omega) (by unfold maxLen;omega) (MH _) ?_;intro Y A I;refine h Y ?_ ((MJ _ _).grown I (MH _) (fun k h=>by cases h));unfold gB fj;rw[MI,List.length_replicate,List.map_replicate];have e:(madeCells (Value.agg #[.string ByteArray.empty,.int .i64 0]).cells (n*2)).toList=two (List.replicate n (wG (ByteArray.empty,0))):=AR _ _ _;rw[e] at A;exact A
theorem pr(a:Option Addr)(cap:Nat)(l:List (ByteArray×Int))(w:World)(hl:l.length≤1048576)(M:fi w a l):
  Calls Tryz.prog 19 #[.slice a l.length cap] w fun e w'=>e= .returned (.slice (some ⟨w.heap.size,0,none⟩) l.length l.length)∧gB w' w.heap.size (.slice (some ⟨w.heap.size,0,none⟩) l.length l.length) l∧Below w.heap.size w w':=by
 go_enter Tryz.func19,Tryz.ntmps19;go_wp2_with (at_make;refine nL _ rfl _ _ rfl l.length rfl rfl (by omega) ?_;intro w1 z Q)
 have O:gB w1 w.heap.size (.slice (some ⟨w.heap.size,0,none⟩) l.length l.length) (hV (ByteArray.empty,0) l 0):=(by rw[rZ];exact z);clear z;go_loopw [4] (fun i wr=>∃k:Nat,k≤l.length∧i= .int .i64 k∧gB wr w.heap.size (.slice (some ⟨w.heap.size,0,none⟩) l.length l.length) (hV (ByteArray.empty,0) l k)∧Below w.heap.size w wr) (fun i _=>l.length-(intOf i).toNat)
 case atStart=>exact⟨0,MQ _,rfl,O,Q⟩
 case round=>
  obtain⟨k,L,rfl,z,G⟩:=hrel;clear O Q;by_cases E:k<l.length
  ·obtain⟨b,ae,rfl,V⟩:=(M.below G) (by omega)
   obtain⟨Y,Z⟩:=V k E;have U:=a8 z;have HR:=a8 M;clear V M z;go_wp2_with fail;refine(AO _ _ wr).mono ?_;rintro e N ⟨rfl,K⟩;have A:gB N _ _ _:=U.out.below K (MH _);obtain⟨aa,ab⟩:=fj.cells A k (by rw[MI,gt _ l k L];exact E);have ac:=fj.frozen A (k*2);have ad:=fj.frozen A (k*2+1);have J:=fj.store A k (.string l[k].1) (.int .i64 l[k].2);have R:((hV (ByteArray.empty,0) l k).map wG).set k (.string l[k].1,.int .i64 l[k].2)=(hV (ByteArray.empty,0) l (k+1)).map wG:=by
    rw[←vg _ l k E,List.map_set];rfl
   rw[R] at J;have I:Hid (gB ((N.setCell ⟨w.heap.size,k*2,none⟩ (.string l[k].1)).setCell ⟨w.heap.size,k*2+1,none⟩ (.int .i64 l[k].2)) w.heap.size (.slice (some ⟨w.heap.size,0,none⟩) l.length l.length) (hV (ByteArray.empty,0) l (k+1))∧Below w.heap.size w ((N.setCell ⟨w.heap.size,k*2,none⟩ (.string l[k].1)).setCell ⟨w.heap.size,k*2+1,none⟩ (.int .i64 l[k].2))):=
    ⟨J,((G.trans (K.mono G.size)).setCell (MH _) _).setCell (MH _) _⟩
   generalize (((hV (ByteArray.empty,0) l k).map wG)[k]'(by rw[MI,gt _ l k L];exact E)).1=y0 at aa;generalize (((hV (ByteArray.empty,0) l k).map wG)[k]'(by rw[MI,gt _ l k L];exact E)).2=y1 at ab;clear J R A Y Z U G K;generalize l[k].1=s0 at I⊢;generalize l[k].2=n0 at I⊢;go_wp2;go_roundw
   case rel=>exact⟨k+1,by omega,by go_num,I.out.1,I.out.2⟩
   case measure=>simp[intOf];omega
  ·obtain rfl:k=l.length:=(by omega);rw[vf] at z;go_wp2;go_ret;exact⟨rfl,z,G⟩
theorem dO.set_low{v:Value}(h:dO w z v l)(L:p.block<z)(u:Value):dO (w.setCell p u) z v l:=by
 refine⟨h.1,?_⟩;rcases h.2 with J|⟨g,cap,G,K,A,I,E⟩
 ·exact .inl J
 ·exact .inr ⟨g,cap,G,K,A,(heap_setCell_other w p g u (by omega)).trans I,E⟩
theorem dZ.set(h:dZ w g cs t)(j:Nat)(u:Value):dZ (w.setCell ⟨g,j,none⟩ u) g (cs.setIfInBounds j u) t:=heap_setCell_same w g j _ _ u h
theorem dZ.other(h:dZ w g cs t)(z:g≠p.block)(u:Value):dZ (w.setCell p u) g cs t:=(heap_setCell_other w p g u z).trans h
theorem Cy(a:Option Addr)(cap:Nat)(l:List Nat)(z:Int)(w:World)(hl:l.length≤1048576)(N:dW w a l):
  Calls Tryz.prog 39 #[.agg #[.slice a l.length cap,.int .i64 z]] w fun e w'=>∃x,e= .returned (.agg #[x,.int .i64 z])∧dO w' w.heap.size x l∧Below w.heap.size w w':=by
 go_enter Tryz.func39,Tryz.ntmps39;go_wp2_with fail;refine(AM a cap l _ hl (N.below (((((MJ _ _).alloc (MH _) _).alloc (by simp) _).alloc (by simp;omega) _)))).mono ?_;rintro e A ⟨rfl,K,J⟩;have O:dZ A w.heap.size #[.slice a l.length cap,.int .i64 z] 79:=dZ.below (by
  refine dZ.below (B:=w.heap.size+2) (dZ.below (B:=w.heap.size+1) (dZ.new w _ _) ((MJ _ _).alloc (by simp) _) (by omega)) ((MJ _ _).alloc (by simp) _) (by omega)) J (by simp;omega)
 have E:dZ A (w.heap.size+1) #[.slice none 0 0,.int .i64 0] 91:=dZ.below (by
  have h:=dZ.new (w.alloc (.cells #[.slice a l.length cap,.int .i64 z] 79)) #[.slice none 0 0,.int .i64 0] 91;rw[show(w.alloc (.cells #[.slice a l.length cap,.int .i64 z] 79)).heap.size=w.heap.size+1 from by simp] at h;exact dZ.below (B:=w.heap.size+2) h ((MJ _ _).alloc (by simp) _) (by omega)) J (by simp)
 have I:dZ A (w.heap.size+1+1) #[.slice none 0 0,.int .i64 0] 91:=dZ.below (by
  have h:=dZ.new ((w.alloc (.cells #[.slice a l.length cap,.int .i64 z] 79)).alloc (.cells #[.slice none 0 0,.int .i64 0] 91)) #[.slice none 0 0,.int .i64 0] 91;rw[show((w.alloc (.cells #[.slice a l.length cap,.int .i64 z] 79)).alloc (.cells #[.slice none 0 0,.int .i64 0] 91)).heap.size=w.heap.size+1+1 from by simp] at h;exact h) J (by simp)
 have M:Below w.heap.size w A:=(((nAl w _).alloc (by simp) _).alloc (by simp;omega) _).trans (J.mono (by simp;omega));have Z:w.heap.size+3=(((w.alloc (.cells #[.slice a l.length cap,.int .i64 z] 79)).alloc (.cells #[.slice none 0 0,.int .i64 0] 91)).alloc (.cells #[.slice none 0 0,.int .i64 0] 91)).heap.size:=(by simp);generalize (((w.alloc (.cells #[.slice a l.length cap,.int .i64 z] 79)).alloc (.cells #[.slice none 0 0,.int .i64 0] 91)).alloc (.cells #[.slice none 0 0,.int .i64 0] 91)).heap.size=G at Z K⊢;have c0:A.cell? ⟨w.heap.size,1,none⟩=some (.int .i64 z):=(by rw[O.cell];rfl);have ab:A.cell? ⟨w.heap.size+1,0,none⟩=some (.slice none 0 0):=(by rw[E.cell];rfl);have ac:A.cell? ⟨w.heap.size+1,1,none⟩=some (.int .i64 0):=(by rw[E.cell];rfl);have ad:A.cell? ⟨w.heap.size+1+1,0,none⟩=some (.slice none 0 0):=(by rw[I.cell];rfl);have ae:A.cell? ⟨w.heap.size+1+1,1,none⟩=some (.int .i64 0):=(by rw[I.cell];rfl);have af:=frozen_of_row A (w.heap.size+1) 0 _ _ E;have ag:=frozen_of_row A (w.heap.size+1) 1 _ _ E;have ah:=frozen_of_row A (w.heap.size+1+1) 0 _ _ I;have ai:=frozen_of_row A (w.heap.size+1+1) 1 _ _ I;have Y:=a8 K;have V:=a8 M;have U:=a8 E;have aa:=a8 I;clear K M J O E I N;go_wp2;have L:=(((U.out.other (p:=⟨w.heap.size+1+1,0,none⟩) (by simp) (.slice (some ⟨G,0,none⟩) l.length l.length)).other (p:=⟨w.heap.size+1+1,1,none⟩) (by simp) (.int .i64 z)).set 0 (.slice (some ⟨G,0,none⟩) l.length l.length)).set 1 (.int .i64 z);have Q:=L.cell 0;have R:=L.cell 1;simp at Q R;refine bodyPost_ret (v:= .agg #[.slice (some ⟨G,0,none⟩) l.length l.length,.int .i64 z]) (by simp[results,Tryz.results39,go_sem,Q,R]) rfl ⟨_,rfl,?_,(((V.out.setCell (by simp;omega) _).setCell (by simp;omega) _).setCell (by simp) _).setCell (by simp) _⟩;exact((((Y.out.set_low (by simp;omega) _).set_low (by simp;omega) _).set_low (by simp;omega) _).set_low (by simp;omega) _).mono (by omega)
theorem Tryz.infoNode:(Tryz.prog.info? 91).map (fun i=>(i.zero,i.size,i.bytes))=some (some (.agg #[.slice none 0 0,.int .i64 0]),2,32):=by kernel_rfl
def mg(w:World)(base:Nat)(v:Value)(ns:List (List Nat×Int)):Prop:=∃vs:List (Value×Value),vs.length=ns.length∧fj w base 91 v vs∧∀i (h:i<ns.length),∃x,vs[i]? =some (x,.int .i64 ns[i].2)∧dO w base x ns[i].1
theorem mg.at{K:Nat}{ns:List (List Nat×Int)}(h:mg w K (.slice a n cap) ns):iC w a ns:=fun Y=>by
 obtain⟨Z,R,I,O⟩:=h;rcases I.2 with⟨_,V⟩|⟨g,Q,U,G,_⟩
 ·omega
 ·simp only[MR] at G;obtain⟨rfl,rfl,rfl⟩:=G;refine⟨g,0,rfl,fun i L=> ?_⟩;obtain⟨A,E⟩:=fj.cells I i (by omega);obtain⟨x,z,J⟩:=O i L;rw[MM (by omega)] at z;simp only[MK] at z;rw[z] at A E;obtain⟨M,N,rfl⟩:=J.slice;rw[Ng];exact⟨M,N,A,E,J.row⟩
def z2:Value×Value:=(.slice none 0 0,.int .i64 0)
def ll(w:World)(g k:Nat)(ns:List (List Nat×Int)):Prop:=g+1≤w.heap.size∧∃vs:List (Value×Value),vs.length=k∧fj w g 91 (.slice (some ⟨g,0,none⟩) ns.length ns.length) (vs++List.replicate (ns.length-k) z2)∧∀i (h:i<ns.length),i<k→∃x,vs[i]? =some (x,.int .i64 ns[i].2)∧dO w (g+1) x ns[i].1
theorem ll.done{ns:List (List Nat×Int)}(h:ll w g ns.length ns):mg w g (.slice (some ⟨g,0,none⟩) ns.length ns.length) ns:=by
 obtain⟨_,J,E,z,A⟩:=h;rw[Nat.sub_self,List.replicate_zero,Nn] at z;refine⟨J,E,z,fun i h=> ?_⟩;obtain⟨x,I,G⟩:=A i h h;exact⟨x,I,G.mono (by omega)⟩
theorem Gu{α:Type}(A:List α)(n k:Nat)(z x:α)(E:A.length=k)(G:k<n):(A++List.replicate (n-k) z).set k x=(A++[x])++List.replicate (n-(k+1)) z:=by
 rw[List.set_append_right _ _ (by omega),E,Nat.sub_self,show n-k=(n-(k+1))+1 from by omega,List.replicate_succ,NA];simp
theorem ll.below{A:World}{ns:List (List Nat×Int)}(h:ll w g k ns)(z:Below w.heap.size w A):ll A g k ns:=by
 obtain⟨L,N,J,G,I⟩:=h;refine⟨MN L z.size,N,J,G.below z (MH _),fun i h E=> ?_⟩;obtain⟨x,M,K⟩:=I i h E;exact⟨x,M,K.below z (MH _)⟩
theorem ll.next{ns:List (List Nat×Int)}(h:ll w g k ns)(I:k<ns.length)(L:dO w (g+1) x ns[k].1):
  ll ((w.setCell ⟨g,k*2,none⟩ x).setCell ⟨g,k*2+1,none⟩ (.int .i64 ns[k].2)) g (k+1) ns:=by
 obtain⟨K,A,z,E,G⟩:=h;refine⟨by simpa using K,A++[(x,.int .i64 ns[k].2)],by simp[z],?_,fun i h N=> ?_⟩
 ·have:=fj.store E k x (.int .i64 ns[k].2);rw[Gu A _ k _ _ z I] at this;exact this
 ·by_cases e:i=k
  ·subst e;refine⟨x,by rw[List.getElem?_append_right (by omega),z,Nat.sub_self];rfl,?_⟩;exact(L.set_low (by simp) _).set_low (by simp) _
  ·obtain⟨y,M,J⟩:=G i h (by omega);exact⟨y,by rw[List.getElem?_append_left (by omega)];exact M,(J.set_low (by simp) _).set_low (by simp) _⟩
theorem ll.cells{ns:List (List Nat×Int)}(h:ll w g k ns)(K:k<ns.length):w.cell? ⟨g,k*2,none⟩=some (.slice none 0 0)∧w.cell? ⟨g,k*2+1,none⟩=some (.int .i64 0)∧w.frozen? ⟨g,k*2,none⟩=false∧w.frozen? ⟨g,k*2+1,none⟩=false:=by
 obtain⟨M,G,L,z,J⟩:=h;have I:k<(G++List.replicate (ns.length-k) z2).length:=(by simp;omega);obtain⟨A,E⟩:=fj.cells z k I;have e:(G++List.replicate (ns.length-k) z2)[k]=z2:=by
  rw[List.getElem_append_right (by omega)];simp
 rw[e] at A E;exact⟨A,E,fj.frozen z _,fj.frozen z _⟩
theorem pA{I:Array Oper}{G:List Oper}{z:Act}(w:World)(K:o.guard=none)(s x:Operand)
  (U:o.op=Op.makeSlice 33 s x) (ns:List (List Nat×Int)) (V:z.eval s= .int .i64 (ns.length:Int)) (Y:z.eval x= .int .i64 (ns.length:Int)) (aa:ns.length≤1048576)
  (h:∀w',ll w' w.heap.size 0 ns→Below w.heap.size w w'→wpList Tryz.prog I Q G (z.put o.dst (.slice (some ⟨w.heap.size,0,none⟩) ns.length ns.length)) w'):wpList Tryz.prog I Q (o::G) z w:=by
 obtain⟨Z,R,L,M,N⟩:=info_parts Tryz.infoNode;refine wpList_make_full w K s x 33 U w.heap.size 91 Z (.agg #[.slice none 0 0,.int .i64 0]) 2 Tryz.underlying33 R L M .i64 .i64 _ _ ns.length V Y rfl rfl (by rw[N];omega) (by unfold maxLen;omega) (MH _) ?_;intro w1 E J;refine h w1 ⟨?_,[],rfl,?_,fun i _ h=>by omega⟩ ((MJ _ _).grown J (MH _) (fun k h=>by cases h))
 ·rcases E.2 with⟨A,_⟩|⟨g,cap,ab,A,_,O,_⟩
  ·simp at A
  ·simp only[MR,MK,Np,and_true] at A;obtain⟨rfl,_⟩:=A;exact lt_of_block O
 ·unfold fj;rw[Nq,List.length_replicate,Nat.sub_zero];have e:(madeCells (Value.agg #[.slice none 0 0,.int .i64 0]).cells (ns.length*2)).toList=two (List.replicate ns.length z2):=AR _ _ _;rw[e] at E;exact E
theorem AP(a:Option Addr)(cap:Nat)(ns:List (List Nat×Int))(w:World)(hl:ns.length≤1048576)(U:∀e∈ns,e.1.length≤1048576)(hr:iC w a ns):
  Calls Tryz.prog 18 #[.slice a ns.length cap] w fun e w'=>e= .returned (.slice (some ⟨w.heap.size,0,none⟩) ns.length ns.length)∧mg w' w.heap.size (.slice (some ⟨w.heap.size,0,none⟩) ns.length ns.length) ns∧Below w.heap.size w w':=by
 go_enter Tryz.func18,Tryz.ntmps18;go_wp2_with (at_make;refine pA _ rfl _ _ rfl ns rfl rfl (by omega) ?_;intro w1 O Q)
 go_loopw [4] (fun i wr=>∃k:Nat,k≤ns.length∧i= .int .i64 k∧ll wr w.heap.size k ns∧Below w.heap.size w wr) (fun i _=>ns.length-(intOf i).toNat)
 case atStart=>exact⟨0,MQ _,rfl,O,Q⟩
 case round=>
  obtain⟨k,hk,rfl,L,A⟩:=hrel;clear O Q;by_cases z:k<ns.length
  ·obtain⟨b,ah,rfl,Y⟩:=(hr.below A) (by omega)
   obtain⟨ai,ci,aa,ab,V⟩:=Y k z;have R:=U _ (MO z);have I:=a8 L;have J:=a8 A;clear Y hr U L A;go_wp2_with fail;refine(Cy ai ci ns[k].1 ns[k].2 wr R V).mono ?_;rintro e N ⟨x,rfl,Z,K⟩;have G:=I.out.below K;have M:dO N (w.heap.size+1) x ns[k].1:=Z.mono I.out.1;obtain⟨ad,ae,af,ag⟩:=G.cells z;have E:Hid (ll ((N.setCell ⟨w.heap.size,k*2,none⟩ x).setCell ⟨w.heap.size,k*2+1,none⟩ (.int .i64 ns[k].2)) w.heap.size (k+1) ns∧Below w.heap.size w ((N.setCell ⟨w.heap.size,k*2,none⟩ x).setCell ⟨w.heap.size,k*2+1,none⟩ (.int .i64 ns[k].2))):=
    ⟨G.next z M,((J.out.trans (K.mono J.out.size)).setCell (MH _) _).setCell (MH _) _⟩
   obtain⟨ax,cx,ac⟩:=M.slice;clear G M Z K I J V aa ab R;generalize ns[k].2=sf at E⊢;subst ac;generalize ns[k].1.length=n0 at E⊢;go_wp2;go_roundw
   case rel=>exact⟨k+1,by omega,by go_num,E.out.1,E.out.2⟩
   case measure=>simp[intOf];omega
  ·obtain rfl:k=ns.length:=(by omega);go_wp2;go_ret;exact⟨rfl,L.done,A⟩
structure dQ where
 nodes:List (List Nat×Int)
 names:List (ByteArray×Int)
 kept:List (ByteArray×Int)
 pend:List (Int×ByteArray×ByteArray×Int)
 quota:Int
def iN(w:World)(v:Value)(D:dQ):Prop:=∃a1 c1 a2 c2 a3 c3 a4 c4,v= .agg #[.slice a1 D.nodes.length c1,.slice a2 D.names.length c2,.slice a3 D.kept.length c3,.slice a4 D.pend.length c4,.int .i64 D.quota]∧iC w a1 D.nodes∧fi w a2 D.names∧fi w a3 D.kept∧ob w a4 D.pend
theorem iN.below{v:Value}{D:dQ}(h:iN w v D)(z:Below w.heap.size w w'):iN w' v D:=by
 obtain⟨A,J,E,K,G,L,I,M,e,N,O,Q,R⟩:=h;exact⟨A,J,E,K,G,L,I,M,e,N.below z,O.below z,Q.below z,R.below z⟩
def FE(w:World)(base:Nat)(v:Value)(D:dQ):Prop:=∃v1 v2 v3 v4,v= .agg #[v1,v2,v3,v4,.int .i64 D.quota]∧mg w base v1 D.nodes∧gB w base v2 D.names∧gB w base v3 D.kept∧lH w base v4 D.pend
theorem mg.slice{v:Value}{ns:List (List Nat×Int)}(h:mg w z v ns):∃a cap,v= .slice a ns.length cap:=by
 obtain⟨G,E,A,_⟩:=h;rw[←E];exact A.slice
theorem gB.slice{v:Value}{z:List (ByteArray×Int)}(h:gB w A v z):∃a cap,v= .slice a z.length cap:=by
 have:=fj.slice h;simpa using this
theorem lH.slice{v:Value}{z:List (Int×ByteArray×ByteArray×Int)}(h:lH w A v z):∃a cap,v= .slice a z.length cap:=by
 have:=iO.slice h;simpa using this
theorem FE.at{I:Nat}{v:Value}{D:dQ}(h:FE w I v D):iN w v D:=by
 obtain⟨v1,v2,v3,v4,rfl,z,A,E,G⟩:=h;obtain⟨J,N,rfl⟩:=z.slice;obtain⟨K,O,rfl⟩:=A.slice;obtain⟨L,Q,rfl⟩:=E.slice;obtain⟨M,R,rfl⟩:=G.slice;exact⟨J,N,K,O,L,Q,M,R,rfl,z.at,A.at,E.at,G.at⟩
theorem fj.mono{v:Value}{l:List (Value×Value)}(h:fj w z e v l)(I:base'≤z):fj w base' e v l:=by
 refine⟨h.1,?_⟩;rcases h.2 with J|⟨g,cap,E,K,G,A⟩
 ·exact .inl J
 ·exact .inr ⟨g,cap,E,K,MN I G,A⟩
theorem iO.mono{v:Value}{l:List V4}(h:iO w z e v l)(I:base'≤z):iO w base' e v l:=by
 refine⟨h.1,?_⟩;rcases h.2 with J|⟨g,cap,E,K,G,A⟩
 ·exact .inl J
 ·exact .inr ⟨g,cap,E,K,MN I G,A⟩
theorem fj.set_low{v:Value}{l:List (Value×Value)}(h:fj w z e v l)(L:p.block<z)(u:Value):fj (w.setCell p u) z e v l:=by
 refine⟨h.1,?_⟩;rcases h.2 with J|⟨g,cap,G,K,A,I,E⟩
 ·exact .inl J
 ·exact .inr ⟨g,cap,G,K,A,(heap_setCell_other w p g u (by omega)).trans I,E⟩
theorem iO.set_low{v:Value}{l:List V4}(h:iO w z e v l)(L:p.block<z)(u:Value):iO (w.setCell p u) z e v l:=by
 refine⟨h.1,?_⟩;rcases h.2 with J|⟨g,cap,G,K,A,I,E⟩
 ·exact .inl J
 ·exact .inr ⟨g,cap,G,K,A,(heap_setCell_other w p g u (by omega)).trans I,E⟩
theorem mg.mono{v:Value}{ns:List (List Nat×Int)}(h:mg w z v ns)(A:base'≤z):mg w base' v ns:=by
 obtain⟨L,I,E,G⟩:=h;exact⟨L,I,E.mono A,fun i h=>by obtain⟨x,K,J⟩:=G i h;exact⟨x,K,J.mono A⟩⟩
theorem mg.set_low{v:Value}{ns:List (List Nat×Int)}(h:mg w z v ns)(A:p.block<z)(u:Value):mg (w.setCell p u) z v ns:=by
 obtain⟨L,I,E,G⟩:=h;exact⟨L,I,E.set_low A u,fun i h=>by obtain⟨x,K,J⟩:=G i h;exact⟨x,K,J.set_low A u⟩⟩
theorem mg.below{v:Value}{ns:List (List Nat×Int)}(h:mg w z v ns)(A:Below w.heap.size w w'):mg w' z v ns:=by
 obtain⟨L,I,E,G⟩:=h;exact⟨L,I,E.below A (MH _),fun i h=>by obtain⟨x,K,J⟩:=G i h;exact⟨x,K,J.below A (MH _)⟩⟩
theorem gB.mono{v:Value}{A:List (ByteArray×Int)}(h:gB w z v A)(E:base'≤z):gB w base' v A:=fj.mono h E
theorem gB.set_low{v:Value}{A:List (ByteArray×Int)}(h:gB w z v A)(E:p.block<z)(u:Value):gB (w.setCell p u) z v A:=fj.set_low h E u
theorem gB.below{v:Value}{A:List (ByteArray×Int)}(h:gB w z v A)(E:Below w.heap.size w w'):gB w' z v A:=fj.below h E (MH _)
theorem lH.mono{v:Value}{A:List (Int×ByteArray×ByteArray×Int)}(h:lH w z v A)(E:base'≤z):lH w base' v A:=iO.mono h E
theorem lH.set_low{v:Value}{A:List (Int×ByteArray×ByteArray×Int)}(h:lH w z v A)(E:p.block<z)(u:Value):lH (w.setCell p u) z v A:=iO.set_low h E u
def TD(w wj:World)(B:Nat)(A res cur:Array Value):Prop:=dZ wj B A 26∧dZ wj (B+1) res 37∧dZ wj (B+1+1) cur 37∧Below B w wj∧B+3≤wj.heap.size
theorem TD.start(w:World)(A z E:Array Value):TD w (((w.alloc (.cells A 26)).alloc (.cells z 37)).alloc (.cells E 37)) w.heap.size A z E:=by
 refine⟨?_,?_,?_,((nAl w _).alloc (by simp) _).alloc (by simp;omega) _,by simp⟩
 ·exact dZ.below (B:=w.heap.size+2) (dZ.below (B:=w.heap.size+1) (dZ.new w _ _) ((MJ _ _).alloc (by simp) _) (by omega)) ((MJ _ _).alloc (by simp) _) (by omega)
 ·have h:=dZ.new (w.alloc (.cells A 26)) z 37;rw[show(w.alloc (.cells A 26)).heap.size=w.heap.size+1 from by simp] at h;exact dZ.below (B:=w.heap.size+2) h ((MJ _ _).alloc (by simp) _) (by omega)
 ·have h:=dZ.new ((w.alloc (.cells A 26)).alloc (.cells z 37)) E 37;rw[show((w.alloc (.cells A 26)).alloc (.cells z 37)).heap.size=w.heap.size+1+1 from by simp] at h;exact h
theorem TD.below{E:World}{A I G:Array Value}(h:TD w E B A I G)(z:Below E.heap.size E w'):TD w w' B A I G:=by
 obtain⟨J,K,L,M,N⟩:=h;exact⟨J.below z J.lt,K.below z K.lt,L.below z L.lt,M.trans (z.mono (by omega)),MN N z.size⟩
theorem TD.setOut{G:World}{A E z:Array Value}(h:TD w G B A E z)(j:Nat)(u:Value):TD w (G.setCell ⟨B+1+1,j,none⟩ u) B A E (z.setIfInBounds j u):=by
 obtain⟨I,J,K,L,M⟩:=h;exact⟨I.other (by simp;omega) u,J.other (by simp) u,K.set j u,L.setCell (by simp;omega) u,by simpa using M⟩
theorem TD.setRes{G:World}{A E z:Array Value}(h:TD w G B A E z)(j:Nat)(u:Value):TD w (G.setCell ⟨B+1,j,none⟩ u) B A (E.setIfInBounds j u) z:=by
 obtain⟨I,J,K,L,M⟩:=h;exact⟨I.other (by simp) u,J.set j u,K.other (by simp) u,L.setCell (by simp) u,by simpa using M⟩
def okB(x:UInt8):Bool:=decide (33≤x.toNat∧x.toNat≤126)
def eO(s:ByteArray):Bool:=decide (1≤s.size∧s.size≤80∧∀i,i<s.size→okB (s.get! i)=true)
theorem nw(h:i<s.size)(z:okB (s.get! i)=false):eO s=false:=by
 unfold eO;refine decide_eq_false fun A=> ?_;rw[A.2.2 i h] at z;simp at z
theorem yY(s:ByteArray)(k:Nat)(h:k<s.size):s.get! k=s[k]'h:=by
 show s.data[k]! =_;rw[getElem!_pos s.data k h];rfl
theorem eJ(s:ByteArray)(w:World)(O:s.size≤9223372036854775807):
  Calls Tryz.prog 88 #[.string s] w fun e w'=>e= .returned (.bool (eO s))∧w'=w:=by
 by_cases K:s.size<1
 ·have z:eO s=false:=decide_eq_false fun h=>(by omega);rw[z];go_enter Tryz.func88,Tryz.ntmps88;go_wp2;go_ret;exact⟨rfl,rfl⟩
 by_cases L:80<s.size
 ·have z:eO s=false:=decide_eq_false fun h=>(by omega);rw[z];go_enter Tryz.func88,Tryz.ntmps88;go_wp2;go_ret;exact⟨rfl,rfl⟩
 go_enter Tryz.func88,Tryz.ntmps88;go_wp2;go_loop [3] (fun i=>∃k:Nat,k≤s.size∧i= .int .i64 k∧∀i,i<k→okB (s.get! i)=true) (fun i=>s.size-(intOf i).toNat)
 case atStart=>exact⟨0,MQ _,rfl,fun i h=>by omega⟩
 case round=>
  obtain⟨k,N,rfl,G⟩:=hrel;have I:=a8 G;clear G;by_cases A:k<s.size
  ·have E:=a8 (yY s k A);by_cases lo:s[k].toNat<33
   ·go_wp2;go_ret;exact⟨eE (nw A (by rw[E.out];exact decide_eq_false fun h=>by omega)).symm,rfl⟩
   ·by_cases M:126<s[k].toNat
    ·go_wp2;go_ret;exact⟨eE (nw A (by rw[E.out];exact decide_eq_false fun h=>by omega)).symm,rfl⟩
    ·have J:=a8 (show okB (s.get! k)=true from by rw[E.out];exact decide_eq_true ⟨by omega,by omega⟩);go_wp2;go_round
     case rel=>exact⟨k+1,by omega,by go_num,fun i h=>by
      by_cases e:i=k
      ·rw[e];exact J.out
      ·exact I.out i (by omega)⟩
     case measure=>simp[intOf];omega
  ·have z:eO s=true:=decide_eq_true ⟨by omega,by omega,fun i h=>I.out i (by omega)⟩;go_wp2;go_ret;exact⟨rfl,rfl⟩
theorem j6(s:ByteArray)(w:World)(hs:s.size≤9223372036854775807):
  Calls Tryz.prog 102 #[.string s] w fun e w'=>e= .returned (.bool (eO s))∧Below w.heap.size w w':=by
 by_cases R:s.size<1
 ·have A:eO s=false:=decide_eq_false fun h=>(by omega);rw[A];go_enter Tryz.func102,Tryz.ntmps102;go_wp2;go_ret;exact⟨rfl,MJ _ _⟩
 by_cases U:80<s.size
 ·have A:eO s=false:=decide_eq_false fun h=>(by omega);rw[A];go_enter Tryz.func102,Tryz.ntmps102;go_wp2;go_ret;exact⟨rfl,MJ _ _⟩
 have G:=run_bytes_of_string (P:=Tryz.prog) w 9 52 5 s (by kernel_rfl) (by kernel_rfl) (by kernel_rfl);generalize N:grownCap w s.size 0 5=cap at G;have E:∀j (h:j<s.size),(w.drew.alloc (.cells (bytesRow s cap) 5 ((bytesRow s cap).size,(bytesRow s cap).size+1))).cell? ⟨w.heap.size,j,none⟩=some (.int .u8 (s[j].toNat:Int)):=fun j h=>by
  have e:=World.cell?_alloc_mark w.drew (bytesRow s cap) 5 ((bytesRow s cap).size,(bytesRow s cap).size+1) j;rw[bytesRow_at s cap j h] at e;exact e
 have I:Below w.heap.size w (w.drew.alloc (.cells (bytesRow s cap) 5 ((bytesRow s cap).size,(bytesRow s cap).size+1))):=(MJ _ _).drew.alloc (MH _) _;generalize (w.drew.alloc (.cells (bytesRow s cap) 5 ((bytesRow s cap).size,(bytesRow s cap).size+1)))=w1 at G E I;have K:=a8 I;have O:=a8 E;clear I E N;go_enter Tryz.func102,Tryz.ntmps102;go_wp2;clear G;go_loop [16] (fun i=>∃k:Nat,k≤s.size∧i= .int .i64 k∧∀i,i<k→okB (s.get! i)=true) (fun i=>s.size-(intOf i).toNat)
 case atStart=>exact⟨0,MQ _,rfl,fun i h=>by omega⟩
 case round=>
  obtain⟨k,Z,rfl,L⟩:=hrel;have M:=a8 L;clear L;by_cases z:k<s.size
  ·have J:=a8 (yY s k z);have V:=O.out k z;by_cases lo:s[k].toNat<33
   ·go_wp2;go_ret;exact⟨eE (nw z (by rw[J.out];exact decide_eq_false fun h=>by omega)).symm,K.out⟩
   ·by_cases Y:126<s[k].toNat
    ·go_wp2;go_ret;exact⟨eE (nw z (by rw[J.out];exact decide_eq_false fun h=>by omega)).symm,K.out⟩
    ·have Q:=a8 (show okB (s.get! k)=true from by rw[J.out];exact decide_eq_true ⟨by omega,by omega⟩);go_wp2;go_round
     case rel=>exact⟨k+1,by omega,by go_num,fun i h=>by
      by_cases e:i=k
      ·rw[e];exact Q.out
      ·exact M.out i (by omega)⟩
     case measure=>simp[intOf];omega
  ·have A:eO s=true:=decide_eq_true ⟨by omega,by omega,fun i h=>M.out i (by omega)⟩;go_wp2;go_ret;exact⟨rfl,K.out⟩
def lA(nodes:Int)(e:ByteArray×Int):Bool:=decide (eO e.1=true∧0≤e.2∧e.2<nodes)
def apart(x y:ByteArray×Int):Bool:=decide (Op.bytesLess x.1.toList y.1.toList=true∧x.2≠y.2)
def eL(nodes:Int)(es:List (ByteArray×Int)):Bool:=decide (es.length≤300∧∀i (h:i<es.length),lA nodes es[i]=true∧∀k (hk:k<i),apart es[k] es[i]=true)
theorem sO{nodes:Int}{z:List (ByteArray×Int)}(h:i<z.length)(A:lA nodes z[i]=false):eL nodes z=false:=by
 unfold eL;refine decide_eq_false fun E=> ?_;rw[(E.2 i h).1] at A;simp at A
theorem sP{nodes:Int}{z:List (ByteArray×Int)}(h:i<z.length)(G:k<i)(A:apart z[k] z[i]=false):eL nodes z=false:=by
 unfold eL;refine decide_eq_false fun E=> ?_;rw[(E.2 i h).2 k G] at A;simp at A
theorem nS(a:Option Addr)(cap:Nat)(z:List (ByteArray×Int))(nodes:Int)(w:World)(hn:z.length≤9223372036854775807)(ag:∀e∈z,e.1.size≤9223372036854775807)(hr:fi w a z):
  Calls Tryz.prog 55 #[.slice a z.length cap,.int .i64 nodes] w fun e w'=>e= .returned (.bool (eL nodes z))∧Below w.heap.size w w':=by
 by_cases h6:300<z.length
 ·have U:eL nodes z=false:=decide_eq_false fun h=>(by omega);rw[U];go_enter Tryz.func55,Tryz.ntmps55;go_wp2;go_ret;exact⟨rfl,MJ _ _⟩
 go_enter Tryz.func55,Tryz.ntmps55;go_wp2;go_loopw [13] (fun i wr=>∃k:Nat,k≤z.length∧i= .int .i64 k∧(∀i (h:i<z.length),i<k→lA nodes z[i]=true∧∀k (hk:k<i),apart z[k] z[i]=true)∧Below w.heap.size w wr) (fun i _=>z.length-(intOf i).toNat)
 case atStart=>exact⟨0,MQ _,rfl,fun i _ h=>by omega,MJ _ _⟩
 case round=>
  obtain⟨k,hk,rfl,aj,E⟩:=hrel;have HK:=a8 aj;have HR:=a8 hr;have ac:=a8 E;clear aj;by_cases R:k<z.length
  ·obtain⟨b,ax,ha,hc⟩:=(hr.below E) (by omega)
   have HA:=a8 ha;subst ha;obtain⟨Z,aa⟩:=hc k R;have Q:=ag _ (MO R);have J:=a8 (E.alloc E.size (.cells #[.string z[k].1,.int .i64 z[k].2] 93));have L:=a8 (dZ.new wr #[.string z[k].1,.int .i64 z[k].2] 93);have A:=a8 (sO (nodes:=nodes) R);have I:=a8 (show lA nodes z[k]=decide (eO z[k].1=true∧0≤z[k].2∧z[k].2<nodes) from rfl);clear hc hr E ag;generalize ai:z[k].1=nm at Z J L I Q;generalize ah:z[k].2=nd at aa J L I;have ao:=a8 ai;have an:=a8 ah;clear ai ah;by_cases M:eO nm=true
   ·go_wp2_with fail;refine(eJ nm _ Q).mono ?_;rintro e w2 ⟨rfl,rfl⟩;rw[M];have al:=a8 M;clear M Z aa;by_cases g2:nd<0
    ·go_wp2;go_ret;exact⟨eE (A.out (by rw[I.out];exact decide_eq_false fun h=>by omega)).symm,J.out⟩
    by_cases g3:nodes≤nd
    ·go_wp2;go_ret;exact⟨eE (A.out (by rw[I.out];exact decide_eq_false fun h=>by omega)).symm,J.out⟩
    go_wp2;have HE:=a8 (show lA nodes z[k]=true from by rw[I.out];exact decide_eq_true ⟨al.out,by omega,by omega⟩);generalize wr.alloc (.cells #[.string nm,.int .i64 nd] 93)=w3 at J L⊢;generalize wr.heap.size=B at L⊢;clear ac A I g2 g3 Q;go_loopw [7] (fun j wx=>∃m:Nat,m≤k∧j= .int .i64 m∧(∀i (h:i<z.length),i<m→apart z[i] z[k]=true)∧Below w.heap.size w wx∧dZ wx B #[.string nm,.int .i64 nd] 93) (fun j _=>k-(intOf j).toNat)
    case atStart=>exact⟨0,MQ _,rfl,fun i _ h=>by omega,J.out,L.out⟩
    case round=>
     obtain⟨m,hm,rfl,ad,E,V⟩:=hrel;have ab:=a8 ad;have N:=a8 E;have am:=a8 V;by_cases aq:m<k
     ·obtain⟨b',av,ae,af⟩:=(HR.out.below E) (by omega)
      simp only[MK,Np,and_true] at ae;obtain⟨rfl,rfl⟩:=ae;obtain⟨ar,au⟩:=af m (by omega);have q0:wr.cell? ⟨B,0,none⟩=some (.string nm):=(by rw[V.cell];rfl);have q1:wr.cell? ⟨B,1,none⟩=some (.int .i64 nd):=(by rw[V.cell];rfl);have A:=a8 (sP (nodes:=nodes) R aq);have G:=a8 (show apart z[m] z[k]=decide (Op.bytesLess z[m].1.toList nm.toList=true∧z[m].2≠nd) from by unfold apart;rw[ao.out,an.out]);clear af E V ad;generalize z[m].1=xm at ar G;generalize z[m].2=xd at au G;by_cases O:Op.bytesLess xm.toList nm.toList=true
      ·by_cases K:xd=nd
       ·have hd2:(xd==nd)=true:=(by simp[K]);have Y:=a8 (A.out (by rw[G.out];exact decide_eq_false fun h=>h.2 K));clear K G A;go_wp2;go_quiet(fail);go_wp2;go_ret;exact⟨eE Y.out.symm,below_drewN N.out _⟩
       ·have hd2:(xd==nd)=false:=(by simp[K]);have ak:=a8 (show apart z[m] z[k]=true from by rw[G.out];exact decide_eq_true ⟨O,K⟩);clear K G A;go_wp2;go_quiet(fail);go_wp2;go_roundw
        case rel=>exact⟨m+1,by omega,by go_num,fun i h h'=>by
         by_cases e:i=m
         ·subst e;exact ak.out
         ·exact ab.out i h (by omega),below_drewN N.out _,am.out⟩
        case measure=>simp[intOf];omega
      ·have aw:Op.bytesLess xm.toList nm.toList=false:=(by simpa using O);have Y:=a8 (A.out (by rw[G.out];exact decide_eq_false fun h=>O h.1));clear O G A;go_wp2;go_quiet(fail);go_wp2;go_ret;exact⟨eE Y.out.symm,below_drewN N.out _⟩
     ·go_wp2;refine⟨⟨k+1,by omega,by go_num,fun i h h'=> ?_,N.out⟩,by simp[intOf];omega⟩;by_cases e:i=k
      ·subst e;exact⟨HE.out,fun j hj=>ab.out j (by omega) (by omega)⟩
      ·exact HK.out i h (by omega)
   ·have ap:eO nm=false:=(by simpa using M);go_wp2_with fail;refine(eJ nm _ Q).mono ?_;rintro e w2 ⟨rfl,rfl⟩;rw[ap];clear Z aa;go_wp2;go_ret;exact⟨eE (A.out (by rw[I.out];exact decide_eq_false fun h=>M h.1)).symm,J.out⟩
  ·have U:eL nodes z=true:=decide_eq_true ⟨by omega,fun i h=>HK.out i h (by omega)⟩;have HF:=a8 U;clear U;go_wp2;go_ret;exact⟨eE HF.out.symm,ac.out⟩
theorem oI(x:ByteArray):x.toList=x.data.toList:=by
 exact ByteArray.toList_eq x
theorem oH{x y:ByteArray}(h:x.toList=y.toList):x=y:=by
 rw[oI,oI] at h;cases x;cases y;simpa using h
theorem jg{x y:ByteArray}(h:x=y):(x.toList==y.toList)=true:=by rw[h];simp
theorem jh{x y:ByteArray}(h:x≠y):(x.toList==y.toList)=false:=by
 by_cases e:x.toList=y.toList
 ·exact absurd (oH e) h
 ·simpa using e
theorem BC(a:Option Addr)(cap:Nat)(z:List (ByteArray×Int))(nm:ByteArray)(w:World)(Z:z.length≤9223372036854775807)(N:fi w a z):
  Calls Tryz.prog 58 #[.slice a z.length cap,.string nm] w fun e w'=>((∃i,∃h:i<z.length,z[i].1=nm∧(∀k (R:k<i),z[k].1≠nm)∧e= .returned (.int .i64 (i:Int)))∨((∀i (h:i<z.length),z[i].1≠nm)∧e= .returned (.int .i64 (-1))))∧w'=w:=by
 go_enter Tryz.func58,Tryz.ntmps58;go_wp2;go_loop [8] (fun i=>∃k:Nat,k≤z.length∧i= .int .i64 k∧∀i (h:i<z.length),i<k→z[i].1≠nm) (fun i=>z.length-(intOf i).toNat)
 case atStart=>exact⟨0,MQ _,rfl,fun i _ h=>by omega⟩
 case round=>
  obtain⟨k,R,rfl,L⟩:=hrel;have G:=a8 L;clear L;by_cases K:k<z.length
  ·obtain⟨b,V,rfl,M⟩:=N (by omega);obtain⟨J,_⟩:=M k K;clear M N;by_cases A:z[k].1=nm
   ·have I:=a8 A;have E:=jg A;clear A;generalize z[k].1=U at J E;go_wp2;go_ret;exact⟨.inl ⟨k,K,I.out,fun i Q=>G.out i (by omega) Q,rfl⟩,rfl⟩
   ·have I:=a8 A;have E:=jh A;clear A;generalize O:z[k].1=U at J E;clear O;go_wp2;go_round
    case rel=>exact⟨k+1,by omega,by go_num,fun i h Y=>by
     by_cases e:i=k
     ·subst e;exact I.out
     ·exact G.out i h (by omega)⟩
    case measure=>simp[intOf];omega
  ·go_wp2;go_ret;exact⟨.inr ⟨fun i h=>G.out i h (by omega),rfl⟩,rfl⟩
theorem nO{l m:List (ByteArray×Int)}(E:k<l.length)(G:k<m.length)(h:l.take k=m.take k)(z:l[k].1=m[k].1)(A:l[k].2=m[k].2):l.take (k+1)=m.take (k+1):=by
 rw[MP E,MP G,h,Prod.ext z A]
theorem BD(a O:Option Addr)(cap ad:Nat)(z ms:List (ByteArray×Int))(w:World)(hl:z.length≤9223372036854775807)(hr:fi w a z)(ab:fi w O ms):
  Calls Tryz.prog 57 #[.slice a z.length cap,.slice O ms.length ad] w fun e w'=>(∃r:Bool,e= .returned (.bool r)∧(r=true↔z=ms))∧∃n,w'=w.drewN n:=by
 by_cases M:z.length=ms.length
 ·have ai:((z.length:Int) !=(ms.length:Int))=false:=(by simp;omega);have HL:Hid (z.length=ms.length):=M;clear M;go_enter Tryz.func57,Tryz.ntmps57;go_wp2;go_loopw [13] (fun i wr=>∃k:Nat,k≤z.length∧i= .int .i64 k∧z.take k=ms.take k∧∃n,wr=w.drewN n) (fun i _=>z.length-(intOf i).toNat)
  case atStart=>exact⟨0,MQ _,rfl,rfl,0,rfl⟩
  case round=>
   obtain⟨k,hk,rfl,K,J⟩:=hrel;have L:Hid (∃n,wr=w.drewN n):=J;have ac:fi wr a z:=(by obtain⟨n,rfl⟩:=J;exact hr);have Y:fi wr O ms:=(by obtain⟨n,rfl⟩:=J;exact ab);clear J hr ab;by_cases aa:k<z.length
   ·have V:k<ms.length:=(by have:=HL.out;omega);obtain⟨b,ak,rfl,hc⟩:=ac (by omega);obtain⟨b',aj,rfl,Z⟩:=Y (by omega);obtain⟨c0,c1⟩:=hc k aa;obtain⟨d0,d1⟩:=Z k V;have HT:Hid (z.take k=ms.take k):=K;have A:=a8 (fun(h:z=ms)=>(show z[k].1=ms[k].1∧z[k].2=ms[k].2 from by subst h;exact⟨rfl,rfl⟩));have E:=a8 (fun Q R=>nO aa V K Q R);clear hc Z K ac Y;generalize z[k].1=x1 at c0 A E;generalize z[k].2=x2 at c1 A E;generalize ms[k].1=y1 at d0 A E;generalize ms[k].2=U at d1 A E;by_cases G:x1=y1
    ·have ag:=jg G;by_cases I:x2=U
     ·have ah:(x2 !=U)=false:=(by simp[I]);have af:=a8 (E.out G I);clear G I A E;go_wp2;go_quiet(fail);go_wp2;go_roundw
      case rel=>exact⟨k+1,by omega,by go_num,af.out,iU L.out _⟩
      case measure=>simp[intOf];omega
     ·have ah:(x2 !=U)=true:=(by simp[I]);have N:=a8 (fun h=>I (A.out h).2);clear G I A E;go_wp2;go_quiet(fail);go_wp2;go_ret;exact⟨⟨false,rfl,⟨fun h=>by simp at h,fun h=>absurd h N.out⟩⟩,iU L.out _⟩
    ·have ag:=jh G;have N:=a8 (fun h=>G (A.out h).1);clear G A E;go_wp2;go_quiet(fail);go_wp2;go_ret;exact⟨⟨false,rfl,⟨fun h=>by simp at h,fun h=>absurd h N.out⟩⟩,iU L.out _⟩
   ·have ae:Hid (z=ms):=by
     have Q:z.take k=z:=MX (by omega);have R:ms.take k=ms:=MX (by have:=HL.out;omega);rw[←Q,←R,K];exact rfl
    go_wp2;go_ret;exact⟨⟨true,rfl,⟨fun _=>ae.out,fun _=>rfl⟩⟩,L.out⟩
 ·have ai:((z.length:Int) !=(ms.length:Int))=true:=(by simp;omega);go_enter Tryz.func57,Tryz.ntmps57;go_wp2;go_ret;exact⟨⟨false,rfl,⟨fun h=>by simp at h,fun h=>absurd (by rw[h]) M⟩⟩,0,rfl⟩
end Go.Proofs.YtpdbolihakojcaaGreatDoor
