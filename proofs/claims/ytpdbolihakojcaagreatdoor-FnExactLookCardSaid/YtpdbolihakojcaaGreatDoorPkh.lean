import Derived.Test.YtpdbolihakojcaaGreatDoorPka
import Derived.Lib.BytesEntry
import Derived.Lib.SlBytesConst
import Derived.Laws.BytesArg
import Derived.Deep.WholeRow
import Derived.Lib.SplitLaws
import Derived.Lib.IndexBytes
import Derived.Lib.IndexLaws
import Derived.Lib.CountLaws
import Derived.Lib.ConvBytes
namespace Go.Proofs.YtpdbolihakojcaaGreatDoor
set_option maxRecDepth 20000
set_option linter.unusedVariables false
set_option linter.unusedSimpArgs false
set_option maxHeartbeats 4000000
open Go.RowKit
variable {W Y w w' w0 wr : World} {b : List UInt8} {A B at_ base' c cap e f g gs i j k lo m n u z : Nat} {R d is l : List Nat} {E G I J K L M N O v0 v1 v2 v3 v4 v5 v6 x y : Value} {o : Oper} {Q : Exit → Act → World → Prop} {bvs xs : List Value} {t : TypeId} {cs tmps : Array Value} {p : Addr} {a : Option Addr} {first ok : Bool} {s : ByteArray} {rs : List (List Nat)}
def fO:List Nat→Nat
 |[]=>0
 |x::r=>if x=10 then 1 else fO r+1
theorem rM(l:List Nat):fO l≤l.length:=by
 induction l with
 |nil=>simp[fO]
 |cons x r ih=>simp only[fO,M2];split<;>omega
theorem jm(l:List Nat)(h:0<l.length):0<fO l:=by
 cases l with
 |nil=>simp at h
 |cons x r=>simp only[fO];split<;>omega
theorem rN(l:List Nat)(h:¬10∈l):fO l=l.length:=by
 induction l with
 |nil=>rfl
 |cons x r ih=>
  simp only[M1,not_or] at h;simp only[fO,M2];rw[if_neg (fun e=>h.1 e.symm),ih h.2]
def fU:Nat→Nat→List Nat→List (Nat×Nat)
 |0,_,_=>[]
 |f+1,p,d=>if d.length=0 then[] else(p,fO d)::fU f (p+fO d) (d.drop (fO d))
def eG(d:List Nat):List (Nat×Nat):=fU d.length 0 d
theorem ix(f p:Nat)(d:List Nat)(h:d.length=0):fU f p d=[]:=by
 cases f with
 |zero=>rfl
 |succ f=>simp[fU,h]
theorem Aw(f g p:Nat)(d:List Nat)(h:d.length≤f)(z:d.length≤g):fU f p d=fU g p d:=by
 induction f generalizing g p d with
 |zero=>rw[ix _ _ _ (by omega),ix _ _ _ (by omega)]
 |succ f ih=>
  cases g with
  |zero=>rw[ix _ _ _ (by omega),ix _ _ _ (by omega)]
  |succ g=>
   simp only[fU];split
   ·rfl
   ·next hz=>
    have A:=jm d (by omega);rw[ih g _ _ (by rw[MU];omega) (by rw[MU];omega)]
def zM(l:List Nat):Int:=if 10∈l then(fO l:Int)-1 else-1
theorem Md(l:List Nat)(E:∀x∈l,x<256):Lib.indexByte (l.map fun n=>UInt8.ofNat n) 10=zM l:=by
 unfold zM
 induction l with
 |nil=>rfl
 |cons x r ih=>
  have G:=ih (fun y L=>E y (MV _ L));have N:=E x (Nm ..);simp only[M0,Lib.indexByte,fO];by_cases e:x=10
  ·subst e;simp
  ·have I:(UInt8.ofNat x==10)=false:=by
    apply beq_eq_false_iff_ne.2;intro h;have J:=congrArg UInt8.toNat h;simp at J;omega
   rw[I,if_neg e,G];by_cases z:10∈r
   ·have M:=jm r (List.length_pos_of_mem z);have A:10∈x::r:=MV _ z;rw[if_pos z,if_pos A];have K:(((fO r:Int)-1)== -1)=false:=(by simp;omega);rw[K];simp
   ·have A:¬10∈x::r:=(by simp only[M1,not_or];exact⟨fun h=>e h.symm,z⟩);rw[if_neg z,if_neg A];simp
theorem ui(b z cap:Nat)(l:List Nat)(w:World)(G:∀i (h:i<l.length),w.cell? ⟨b,z+i,none⟩=some (.int .u8 ((l[i]:Nat):Int)))(E:∀x∈l,x<256):
  Calls Tryz.prog 238 #[.slice (some ⟨b,z,none⟩) l.length cap,.int .u8 10] w fun e w'=>e= .returned (.int .i64 (zM l))∧w'=w:=by
 go_enter Tryz.func238,Tryz.ntmps238;go_wp2;rw[run_callFunc_extern Tryz.func245 (by kernel_rfl) (by kernel_rfl) (by kernel_rfl) (e:=Extern.BytealgIndexByte.indexByte) (by kernel_rfl),
  Lib.run_indexByteSlice w b z l.length cap (l.map fun n:Nat=>(n:Int)) (by simp) (fun i A=>by rw[G i A];simp[A]) 10]
 simp only[Result.andThen];rw[Oper.upon_value];go_wp2;go_ret;have e:Lib.bytesOf (l.map fun n:Nat=>(n:Int))=l.map fun n=>UInt8.ofNat n:=by
  unfold Lib.bytesOf;rw[NC];rfl
 refine⟨?_,rfl⟩;show Ending.returned (.int .i64 (Lib.indexByte (Lib.bytesOf (l.map fun n:Nat=>(n:Int))) 10))=_;rw[e,Md l E]
def fC(l:List Nat):ByteArray:=⟨(l.map UInt8.ofNat).toArray⟩
theorem sG(l:List Nat)(h:∀x∈l,x<256):(l.map UInt8.ofNat).map UInt8.toNat=l:=by
 rw[NC]
 conv=>rhs;rw[←List.map_id l]
 apply List.map_congr_left;intro x z;have:=h x z;simp;omega
theorem fH(w:World)(a:Option Addr)(cap:Nat)(l:List Nat)(I:dW w a l):
  (convert 52 9 (.slice a l.length cap)).run Tryz.prog w= .ok (.string (fC l)) w:=by
 by_cases E:l.length=0
 ·obtain rfl:l=[]:=Nt E;rw[run_convert_bytes_string w _ _ 5 a _ cap Tryz.underlying52 Tryz.underlying5 Tryz.underlying9];cases a<;>simp[Conv.bytesToString,loadCells]<;>rfl
 ·obtain⟨b,A,rfl,G⟩:=I (by omega);have h:=run_convert_bytes_arg w 52 5 Tryz.underlying52 Tryz.underlying5 b A l.length cap (l.map fun n:Nat=>(n:Int)) (by simp) (fun i z=>by rw[G i z];simp[z]) 9 Tryz.underlying9;rw[h];unfold strOfNums fC;rw[NC];rfl
theorem nB(l:List Nat):(fC l).toList=l.map UInt8.ofNat:=by rw[ByteArray.toList_eq];rfl
theorem pn{m:List Nat}(z:∀x∈l,x<256)(A:∀x∈m,x<256):((fC l).toList==(fC m).toList)=decide (l=m):=by
 rw[nB,nB];by_cases h:l=m
 ·subst h;simp
 ·rw[decide_eq_false h];exact beq_eq_false_iff_ne.2 fun e=>h (by rw[←sG l z,←sG m A,e])
theorem dW.take(h:dW w a l)(n:Nat):dW w a (l.take n):=fun I=>by
 have G:(l.take n).length≤l.length:=(by simp;omega);obtain⟨b,z,rfl,A⟩:=h (by omega);exact⟨b,z,rfl,fun i E=>by rw[A i (by omega)];simp⟩
theorem uV(a z:Option Addr)(cap E:Nat)(l m:List Nat)(w:World)(M:dW w a l)(G:dW w z m)(K:∀x∈l,x<256)(L:∀x∈m,x<256):
  Calls Tryz.prog 221 #[.slice a l.length cap,.slice z m.length E] w fun e w'=>e= .returned (.bool (decide (l=m)))∧w'=w:=by
 have I:=fH w a cap l M;have J:=fH w z E m G;have A:=a8 (pn K L);clear M G K L;generalize l.length=N at I⊢;generalize m.length=nm at J⊢;generalize fC l=O at I A⊢;generalize fC m=Q at J A⊢;go_enter Tryz.func221,Tryz.ntmps221;go_wp2;go_ret;exact⟨eE A.out,rfl⟩
theorem ub(a A:Option Addr)(cap J:Nat)(l m:List Nat)(w:World)(Q:l.length≤cap)(I:dW w a l)(z:dW w A m)(E:∀x∈l,x<256)(G:∀x∈m,x<256):
  Calls Tryz.prog 220 #[.slice a l.length cap,.slice A m.length J] w fun e w'=>e= .returned (.bool (decide (l.take m.length=m)))∧w'=w:=by
 by_cases R:m.length≤l.length
 ·have L:(l.take m.length).length=m.length:=(by simp;omega);have U:(m.length:Int)≤(cap:Int):=(by omega);have M:(m.length:Int)≤(l.length:Int):=(by omega);have K:=a8 (uV a A cap J (l.take m.length) m w (I.take _) z (fun x O=>E x (M4 O)) G);rw[L] at K;clear I z E G L;go_enter Tryz.func220,Tryz.ntmps220;go_wp2_with fail;refine(K.out).mono ?_;rintro e w' ⟨rfl,rfl⟩;go_wp2;go_ret;exact⟨rfl,rfl⟩
 ·have N:decide (l.take m.length=m)=false:=decide_eq_false fun e=>by
   have:=congrArg List.length e;simp at this;omega
  rw[N];have M:¬(m.length:Int)≤(l.length:Int):=(by omega);clear I z E G;go_enter Tryz.func220,Tryz.ntmps220;go_wp2;go_ret;exact⟨rfl,rfl⟩
theorem mC(a z:Option Addr)(cap A n E:Nat)(l m:List Nat)(w:World)(M:l.length=n)(I:m.length=E)(G:n≤cap)(N:dW w a l)(J:dW w z m)(K:∀x∈l,x<256)(L:∀x∈m,x<256):
  Calls Tryz.prog 220 #[.slice a n cap,.slice z E A] w fun e w'=>e= .returned (.bool (decide (l.take m.length=m)))∧w'=w:=by
 subst M I;exact ub a z cap A l m w G N J K L
theorem AA(a:Option Addr)(cap:Nat)(l:List Nat)(w:World)(Z:l.length≤1048576)(O:dW w a l)(J:∀x∈l,x<256):
  Calls Tryz.prog 162 #[.slice a l.length cap] w fun e w'=>e= .returned (.int .u32 ((lw l:Nat):Int))∧w'=w:=by
 go_enter Tryz.func162,Tryz.ntmps162;go_wp2;go_loop [3,10] (fun c i=>∃k:Nat,k≤l.length∧i= .int .i64 k∧c= .int .u32 ((eV 4294967295 (l.take k):Nat):Int)) (fun _ i=>l.length-(intOf i).toNat)
 case atStart=>exact⟨0,MQ _,rfl,rfl⟩
 case round=>
  obtain⟨k,Y,rfl,rfl⟩:=hrel;by_cases E:k<l.length
  ·obtain⟨b,U,rfl,N⟩:=O (by omega);have Q:=N k E;clear N O;have I:l[k]<256:=J _ (MO E);have A:eV 4294967295 (l.take k)<4294967296:=jl _ (fun x K=>J x (M4 K)) _ (by decide);have L:Hid (eV 4294967295 (l.take (k+1))=kK (eV 4294967295 (l.take k)) l[k]):=by
    show _=_;rw[MP E,oK]
   generalize eV 4294967295 (l.take k)=z at A L⊢;go_wp2;go_loop [3,6] (fun c j=>∃m:Nat,m≤8∧j= .int .i64 m∧c= .int .u32 ((gl z l[k] m:Nat):Int)) (fun _ j=>8-(intOf j).toNat)
   case atStart=>exact⟨0,MQ _,rfl,rfl⟩
   case round=>
    obtain⟨m,hm,rfl,rfl⟩:=hrel;by_cases R:m<8
    ·have G:=xV z l[k] m A;have M:Hid (gl z l[k] (m+1)=jK (gl z l[k] m) l[k] m):=rfl;generalize gl z l[k] m=V at G M⊢;go_wp2
     all_goals
      go_round
      case rel=>exact⟨m+1,by omega,by go_num,fy (by rw[M.out];first|exact Ix G I ‹_›|exact Fg G I ‹_›)⟩
      case measure=>simp[intOf];omega
    ·go_wp2;go_round
     case rel=>exact⟨k+1,by omega,by go_num,fy (by rw[L.out,←Ff _ _ I,show m=8 from by omega])⟩
     case measure=>simp[intOf];omega
  ·have A:eV 4294967295 (l.take k)<4294967296:=jl _ (fun x K=>J x (M4 K)) _ (by decide);go_wp2;go_ret;exact⟨ru (by rw[H7 _ A,MX (by omega)];rfl),rfl⟩
theorem Bq(a O:Option Addr)(cap ad:Nat)(z ms:List (ByteArray×Int))(w:World)(hl:z.length≤9223372036854775807)(hr:fi w a z)(ab:fi w O ms):
  Calls Tryz.prog 105 #[.slice a z.length cap,.slice O ms.length ad] w fun e w'=>(∃r:Bool,e= .returned (.bool r)∧(r=true↔z=ms))∧∃n,w'=w.drewN n:=by
 by_cases M:z.length=ms.length
 ·have ai:((z.length:Int) !=(ms.length:Int))=false:=(by simp;omega);have HL:Hid (z.length=ms.length):=M;clear M;go_enter Tryz.func105,Tryz.ntmps105;go_wp2;go_loopw [5,13] (fun _ i wr=>∃k:Nat,k≤z.length∧i= .int .i64 k∧z.take k=ms.take k∧∃n,wr=w.drewN n) (fun _ i _=>z.length-(intOf i).toNat)
  case atStart=>exact⟨0,MQ _,rfl,rfl,0,rfl⟩
  case round=>
   obtain⟨k,hk,rfl,K,J⟩:=hrel;have L:Hid (∃n,wr=w.drewN n):=J;have ac:fi wr a z:=(by obtain⟨n,rfl⟩:=J;exact hr);have Y:fi wr O ms:=(by obtain⟨n,rfl⟩:=J;exact ab);clear J hr ab;by_cases aa:k<z.length
   ·have V:k<ms.length:=(by have:=HL.out;omega);obtain⟨b,ak,rfl,hc⟩:=ac (by omega);obtain⟨b',aj,rfl,Z⟩:=Y (by omega);obtain⟨c0,c1⟩:=hc k aa;obtain⟨d0,d1⟩:=Z k V;have HT:Hid (z.take k=ms.take k):=K;have A:=a8 (fun(h:z=ms)=>(show z[k].1=ms[k].1∧z[k].2=ms[k].2 from by subst h;exact⟨rfl,rfl⟩));have E:=a8 (fun Q R=>nO aa V K Q R);clear hc Z K ac Y;generalize z[k].1=x1 at c0 A E;generalize z[k].2=x2 at c1 A E;generalize ms[k].1=y1 at d0 A E;generalize ms[k].2=U at d1 A E;by_cases G:x1=y1
    ·have ag:=jg G;by_cases I:x2=U
     ·have ah:(x2==U)=true:=(by simp[I]);have af:=a8 (E.out G I);clear G I A E;go_wp2;go_quiet(fail);go_wp2;go_roundw
      case rel=>exact⟨k+1,by omega,by go_num,af.out,iU L.out _⟩
      case measure=>simp[intOf];omega
     ·have ah:(x2==U)=false:=(by simp[I]);have N:=a8 (fun h=>I (A.out h).2);clear G I A E;go_wp2;go_quiet(fail);go_wp2;go_ret;exact⟨⟨false,rfl,⟨fun h=>by simp at h,fun h=>absurd h N.out⟩⟩,iU L.out _⟩
    ·have ag:=jh G;have N:=a8 (fun h=>G (A.out h).1);clear G A E;go_wp2;go_quiet(fail);go_wp2;go_ret;exact⟨⟨false,rfl,⟨fun h=>by simp at h,fun h=>absurd h N.out⟩⟩,iU L.out _⟩
   ·have ae:Hid (z=ms):=by
     have Q:z.take k=z:=MX (by omega);have R:ms.take k=ms:=MX (by have:=HL.out;omega);rw[←Q,←R,K];exact rfl
    go_wp2;go_ret;exact⟨⟨true,rfl,⟨fun _=>ae.out,fun _=>rfl⟩⟩,L.out⟩
 ·have ai:((z.length:Int) !=(ms.length:Int))=true:=(by simp;omega);go_enter Tryz.func105,Tryz.ntmps105;go_wp2;go_ret;exact⟨⟨false,rfl,⟨fun h=>by simp at h,fun h=>absurd (by rw[h]) M⟩⟩,0,rfl⟩
theorem qp(c:Nat)(a:Option Addr)(cap:Nat)(l:List Nat)(w:World)(R:c<4294967296)(hl:l.length≤1048576)(Q:dW w a l)(N:∀x∈l,x<256):
  Calls Tryz.prog 196 #[.int .u32 (c:Int),.slice a l.length cap] w fun e w'=>e= .returned (.int .u32 ((eV c l:Nat):Int))∧w'=w:=by
 go_enter Tryz.func196,Tryz.ntmps196;go_wp2;go_loop [0,10] (fun s i=>∃k:Nat,k≤l.length∧i= .int .i64 k∧s= .int .u32 ((eV c (l.take k):Nat):Int)) (fun _ i=>l.length-(intOf i).toNat)
 case atStart=>exact⟨0,MQ _,rfl,rfl⟩
 case round=>
  obtain⟨k,hk,rfl,rfl⟩:=hrel;by_cases E:k<l.length
  ·obtain⟨b,ab,rfl,O⟩:=Q (by omega);have Z:=O k E;clear O Q;have U:l[k]<256:=N _ (MO E);have I:eV c (l.take k)<4294967296:=jl _ (fun x Y=>N x (M4 Y)) _ R;have L:Hid (eV c (l.take (k+1))=kK (eV c (l.take k)) l[k]):=by
    show _=_;rw[MP E,oK]
   generalize eV c (l.take k)=z at I L⊢;have J:z^^^l[k]<4294967296:=Nat.xor_lt_two_pow (n:=32) (by omega) (by omega);have V:=I4 z l[k] I U;have K:Hid (kK z l[k]=iq 8 (z^^^l[k])):=rfl;generalize z^^^l[k]=A at J V K;go_wp2;go_loop [0,18] (fun s j=>∃m:Nat,m≤8∧j= .int .i64 m∧s= .int .u32 ((iq m A:Nat):Int)) (fun _ j=>8-(intOf j).toNat)
   case atStart=>exact⟨0,MQ _,rfl,rfl⟩
   case round=>
    obtain⟨m,hm,rfl,rfl⟩:=hrel;by_cases aa:m<8
    ·have G:=qq m A J;have M:Hid (iq (m+1) A=j3 (iq m A)):=rfl;generalize iq m A=c1 at G M⊢;go_wp2
     all_goals
      go_round
      case rel=>exact⟨m+1,by omega,by go_num,fy (by rw[M.out];first|exact IC G ‹_›|exact Fl G ‹_›)⟩
      case measure=>simp[intOf];omega
    ·go_wp2;go_round
     case rel=>exact⟨k+1,by omega,by go_num,fy (by rw[L.out,K.out,show m=8 from by omega])⟩
     case measure=>simp[intOf];omega
  ·go_wp2;go_ret;exact⟨ru (by rw[MX (by omega)]),rfl⟩
def eW:Nat→Nat
 |0=>68
 |1=>70
 |2=>82
 |3=>83
 |4=>84
 |i=>92+i
def gO:Nat→Nat
 |0=>4
 |1=>1
 |2=>0
 |3=>3
 |4=>2
 |i=>i
def xI(i:Nat):Value×Value:=(.int .i32 (eW i:Int),.int .u64 (gO i:Int))
def gu(k:Nat):List (Value×Value):=(List.range 31).map fun i=>if i<k then xI i else(.int .i32 0,.int .u64 0)
def jS(k:Nat):Array Value:=(two (gu k)).toArray
theorem Tryz.infoTab:(Tryz.prog.info? 228).map (fun i=>(i.zero,i.size))=some (some (.agg (jS 0)),62):=by kernel_rfl
theorem fk(k:Nat):(gu k).length=31:=by simp[gu]
theorem jz(k:Nat):(jS k).size=62:=by simp[jS,l7,fk]
theorem AL(k:Nat):(gu k).set k (xI k)=gu (k+1):=by
 apply List.ext_getElem
 ·simp[gu]
 ·intro i A E;rw[List.getElem_set];simp only[gu,MY,List.getElem_range];by_cases e:k=i
  ·subst e;simp
  ·rw[if_neg e];by_cases z:i<k
   ·rw[if_pos z,if_pos (by omega)]
   ·rw[if_neg z,if_neg (by omega)]
theorem IL(k:Nat):((jS k).setIfInBounds (k*2) (.int .i32 (eW k:Int))).setIfInBounds (k*2+1) (.int .u64 (gO k:Int))=jS (k+1):=by
 unfold jS;rw[←AL k,←show two ((gu k).set k (xI k))=_ from rfl];rw[show xI k=(Value.int .i32 (eW k:Int),Value.int .u64 (gO k:Int)) from rfl,←DD];simp
theorem IK(k:Nat):∀v∈(jS k),v.oneCell'=true:=by
 intro v z;simp only[jS,List.mem_toArray,two,List.mem_flatMap] at z;obtain⟨p,A,z⟩:=z;simp only[gu,Na] at A;obtain⟨i,_,rfl⟩:=A;split at z<;>simp[xI] at z<;>rcases z with rfl|rfl<;>rfl
theorem uy(w:World):(Instr.alloc 228 true (.tuple #[])).run Tryz.prog w= .ok (.pointer (some ⟨w.heap.size,0,none⟩)) (w.alloc (.cells (jS 0) 228)):=by
 have h:=(zero_of_info Tryz.infoTab).1;simp[Instr.alloc,h,newVar,Value.cells];rfl
def fZ(w:World)(g k:Nat):Prop:=w.heap[g]? =some (.cells (jS k) 228 (0,0))
theorem fZ.cell(h:fZ w g k)(j:Nat)(z:j<62):∃v,w.cell? ⟨g,j,none⟩=some v:=by
 rw[cell_of_row w g j _ _ _ h];exact⟨_,Array.getElem?_eq_getElem (by rw[jz];exact z)⟩
theorem fZ.frozen(h:fZ w g k)(j:Nat):w.frozen? ⟨g,j,none⟩=false:=by
 unfold fZ at h;simp[World.frozen?,h]
theorem fZ.next(h:fZ w g k):fZ ((w.setCell ⟨g,k*2,none⟩ (.int .i32 (eW k:Int))).setCell ⟨g,k*2+1,none⟩ (.int .u64 (gO k:Int))) g (k+1):=by
 unfold fZ;rw[setCell_eq_setRow w g (k*2) _ _ _ _ h,setCell_eq_setRow _ g (k*2+1) _ _ _ _ (setRow_heap w g _ _ _ _ h),setRow_setRow,setRow_heap w g _ _ _ _ h,IL]
theorem jA{E:Array Oper}{z:List Oper}{A:Act}(w:World)(G:o.guard=none)(J:o.op= .alloc 228)
  (h:∀w',fZ w' w.heap.size 0→Below w.heap.size w w'→wpList Tryz.prog E Q z (A.put o.dst (.pointer (some ⟨w.heap.size,0,none⟩))) w'):wpList Tryz.prog E Q (o::z) A w:=by
 refine wpList_plain G fun K I=> ?_;unfold Oper.wp execOp;simp only[J,Sem.run_bind,uy,Result.andThen_ok];exact I _ _ (h _ (heap_alloc_new w _) ((MJ _ _).alloc (MH _) _))
theorem qh{G:Array Oper}{E:List Oper}{A:Act}(w:World)(J:o.guard=none)(z:Array (Nat×Operand))(K:o.op= .build 228 z)
  (I:Tryz.prog.built 228 (z.map fun(i,x)=>(i,A.eval x)).toList=some (jS 5))
  (h:wpList Tryz.prog G Q E (A.put o.dst (.agg (jS 5))) w):wpList Tryz.prog G Q (o::E) A w:=by
 refine wpList_build J _ z K (by rw[I];rfl) ?_;rw[I];exact h
theorem jB{E:Array Oper}{A:List Oper}{z:Act}(w:World)(g j k:Nat)(I:o.guard=none)(x y:Operand)(K:o.op= .store 228 x y)
  (L:z.eval x= .pointer (some ⟨g,0,none⟩)) (M:z.eval y= .agg (jS k)) (G:fZ w g j)
  (h:∀w',fZ w' g k→w.grownBy w' (some g)→wpList Tryz.prog E Q A (z.put o.dst undef) w'):wpList Tryz.prog E Q (o::A) z w:=by
 refine wpList_store_row I _ x y K g (jS k) L M _ _ G (by rw[jz];exact(zero_of_info Tryz.infoTab).2) (by rw[jz,jz]) (Array.all_eq_true_iff_forall_mem.2 (IK k)) (h _ (setRow_heap w g _ _ _ _ G) ?_);exact⟨rfl,rfl,rfl,by simp,fun i _ J=>setRow_other w g i _ (fun e=>J (by rw[e]))⟩
theorem ri{E:Array Oper}{A:List Oper}{z:Act}(w:World)(g k:Nat)(G:o.guard=none)(x:Operand)(J:o.op= .load 228 x)
  (K:z.eval x= .pointer (some ⟨g,0,none⟩)) (I:fZ w g k)
  (h:wpList Tryz.prog E Q A (z.put o.dst (.agg (jS k))) w):wpList Tryz.prog E Q (o::A) z w:=
 wpList_load_row G _ x J g K _ _ _ _ I Tryz.underlying228 rfl (by rw[jz];exact(zero_of_info Tryz.infoTab).2) h
theorem KY(n m:Int):Tryz.prog.built 227 [(0,.int .i32 n),(1,.int .u64 m)]=some #[.int .i32 n,.int .u64 m]:=by kernel_rfl
theorem gJ{E:Array Oper}{A:List Oper}{z:Act}(w:World)(I:o.guard=none)(x y:Operand)(n m:Int)(J:o.op= .build 227 #[(0,x),(1,y)])
  (K:z.eval x= .int .i32 n) (L:z.eval y= .int .u64 m)
  (h:wpList Tryz.prog E Q A (z.put o.dst (.agg #[.int .i32 n,.int .u64 m])) w):wpList Tryz.prog E Q (o::A) z w:=by
 have G:Tryz.prog.built 227 ((#[(0,x),(1,y)]:Array (Nat×Operand)).map fun(i,x)=>(i,z.eval x)).toList=some #[.int .i32 n,.int .u64 m]:=by
  simp[K,L,KY]
 refine wpList_build I _ _ J (by rw[G];rfl) ?_;rw[G];exact h
theorem Gt(k:Nat):eW (5+k)=97+k:=by rw[Nat.add_comm];simp only[eW];omega
theorem Gs(k:Nat):gO (5+k)=5+k:=by rw[Nat.add_comm];simp only[gO]
theorem fZ.below(h:fZ w g k)(z:Below w.heap.size w w'):fZ w' g k:=(z.block g (lt_of_block h)).trans h
theorem fZ.grown{r:Option Nat}(h:fZ w g k)(z:w.grownBy w' r)(A:some g≠r):fZ w' g k:=(z.block g (lt_of_block h) A).trans h
theorem fZ.other{g' p q:Nat}{u v:Value}(h:fZ w g k)(z:g≠g'):fZ ((w.setCell ⟨g',p,none⟩ u).setCell ⟨g',q,none⟩ v) g k:=by
 unfold fZ;rw[heap_setCell_other _ ⟨g',q,none⟩ g v (by simpa using z),heap_setCell_other _ ⟨g',p,none⟩ g u (by simpa using z)];exact h
set_option linter.unusedSimpArgs false in
theorem nQ(w:World):
  Calls Tryz.prog 120 #[] w fun e w'=>e= .returned (.agg (jS 31))∧Below w.heap.size w w':=by
 go_enter Tryz.func120,Tryz.ntmps120;refine wp_seq (wp_region_list ?_);refine jA _ rfl rfl ?_;intro G L I;refine wpList_nil ?_;simp only[Act.put,Nu,List.set_cons_succ,NA];refine wp_seq (wp_region_list ?_);refine gJ _ rfl _ _ _ _ rfl rfl rfl ?_;simp only[Act.put,Nu,List.set_cons_succ,NA];refine gJ _ rfl _ _ _ _ rfl rfl rfl ?_;simp only[Act.put,Nu,List.set_cons_succ,NA];refine gJ _ rfl _ _ _ _ rfl rfl rfl ?_;simp only[Act.put,Nu,List.set_cons_succ,NA];refine gJ _ rfl _ _ _ _ rfl rfl rfl ?_;simp only[Act.put,Nu,List.set_cons_succ,NA];refine gJ _ rfl _ _ _ _ rfl rfl rfl ?_;simp only[Act.put,Nu,List.set_cons_succ,NA];refine qh _ rfl _ rfl (by kernel_rfl) ?_;simp only[Act.put,Nu,List.set_cons_succ,NA];refine jA _ rfl rfl ?_;intro w2 Y A;simp only[Act.put,Nu,List.set_cons_succ,NA];refine jB _ G.heap.size 0 5 rfl _ _ rfl rfl rfl Y ?_;intro w3 M J;refine wpList_nil ?_;simp only[Act.put];have aa:w.heap.size<G.heap.size:=lt_of_block L;have V:Below w.heap.size w w3:=(I.trans (A.mono (by omega))).grown J (by have:=I.size;have:=A.size;omega) (fun k h=>by cases h;omega);have Q:fZ w3 w.heap.size 0:=(L.below A).grown J (by simp;omega);clear L I Y A J;generalize G.heap.size=g at M aa⊢;clear G w2;have Z:=a8 V;have R:=a8 Q;have U:=a8 M;clear V Q M;generalize jS 5=t5;go_wp2;go_loopw [2,3,10] (fun _ _ i wr=>∃k:Nat,k≤26∧i= .int .i64 (k:Int)∧fZ wr g (5+k)∧fZ wr w.heap.size 0∧Below w.heap.size w wr) (fun _ _ i _=>26-(intOf i).toNat)
 case atStart=>exact⟨0,by omega,rfl,U.out,R.out,Z.out⟩
 case round=>
  obtain⟨k,hk,rfl,z,K,E⟩:=hrel;clear Z R U;by_cases ah:k<26
  ·obtain⟨v0,ad⟩:=z.cell ((5+k)*2) (by omega);obtain⟨v1,ae⟩:=z.cell ((5+k)*2+1) (by omega);have af:=z.frozen ((5+k)*2);have ag:=z.frozen ((5+k)*2+1);have O:=z.next;rw[Gt,Gs] at O;have N:=a8 (And.intro O (And.intro (K.other (u:= .int .i32 ((97+k:Nat):Int)) (v:= .int .u64 ((5+k:Nat):Int)) (p:=(5+k)*2) (q:=(5+k)*2+1) (by omega:w.heap.size≠g)) ((E.setCell (p:=⟨g,(5+k)*2,none⟩) (by simp;omega) (.int .i32 ((97+k:Nat):Int))).setCell (p:=⟨g,(5+k)*2+1,none⟩) (by simp;omega) (.int .u64 ((5+k:Nat):Int)))));clear O z K E;go_wp2;go_roundw
   case rel=>exact⟨k+1,by omega,by go_num,N.out.1,N.out.2.1,N.out.2.2⟩
   case measure=>simp[intOf];omega
  ·obtain rfl:k=26:=(by omega);have z:fZ wr g 31:=z;go_wp2_with (first
    |(refine ri _ g 31 rfl _ rfl rfl z ?_)
    |(refine jB _ w.heap.size 0 31 rfl _ _ rfl rfl rfl K ?_;intro w4 ac ab))
   refine bodyPost_ret (results_cell_row (P:=Tryz.prog) rfl _ _ w.heap.size _ _ _ _ rfl ac Tryz.underlying228 rfl (by rw[jz];exact(zero_of_info Tryz.infoTab).2)) rfl ?_;exact⟨rfl,E.grown ab E.size (fun k h=>by cases h;omega)⟩
def fe(s:ByteArray):List Nat:=s.data.toList.map UInt8.toNat
theorem ji(s:ByteArray):(fe s).length=s.size:=by simp[fe]
theorem DR(s:ByteArray):∀x∈fe s,x<256:=by
 intro x z;simp only[fe,Na] at z;obtain⟨u,_,rfl⟩:=z;exact u.toNat_lt
theorem AI(s:ByteArray):fC (fe s)=s:=by
 unfold fC fe;rw[NC];have:(UInt8.ofNat∘UInt8.toNat)=id:=(by funext u;simp);rw[this];simp
theorem pH(s:ByteArray)(k:Nat)(h:k<s.size):(fe s)[k]'(by rw[ji];exact h)=(s[k]'h).toNat:=by
 simp only[fe,MY];rfl
theorem kh{fn:Func}{p:Tmp}(B:Nat)(W:World)(ok:Bool)(f:Int)(A:fn.results= #[.cell p 183])(E:tmps.getD p undef= .pointer (some ⟨B,0,none⟩))(z:W.heap[B]? =some (.cells #[.bool ok,.int .u32 f] 183 (0,0))):
  (results fn tmps).run Tryz.prog W= .ok (.agg #[.bool ok,.int .u32 f]) W:=
 results_cell_row (P:=Tryz.prog) A _ _ B _ _ _ _ E z Tryz.underlying183 rfl (by kernel_rfl)
def eR(b:UInt8):List UInt8→List (List UInt8)
 |[]=>[[]]
 |x::r=>if x=b then[]::eR b r else
  match eR b r with
  |w::ws=>(x::w)::ws
  |[]=>[[x]]
theorem oz{b:UInt8}:∀{t:List UInt8},b∉t→eR b t=[t]
 |[],_=>rfl
 |x::r,h=>by
  have z:x≠b:=fun e=>h (by rw[e];exact Nm);rw[eR,if_neg z,oz (fun A=>h (MV _ A))]
theorem oy{b:UInt8}{c:List UInt8}:∀{a:List UInt8},b∉a→eR b (a++b::c)=a::eR b c
 |[],_=>by rw[Nq,eR,if_pos rfl]
 |x::r,h=>by
  have z:x≠b:=fun e=>h (by rw[e];exact Nm);rw[List.cons_append,eR,if_neg z,oy (fun A=>h (MV _ A))]
theorem mO(b:UInt8)(t:List UInt8):(eR b t).length≤t.length+1:=by
 induction t with
 |nil=>simp[eR]
 |cons x r ih=>
  rw[eR];split
  ·simp;omega
  ·split
   ·next h=>rw[h] at ih;simp at ih⊢;omega
   ·simp
theorem iz{b:UInt8}:∀{t w:List UInt8},w∈eR b t→w.length≤t.length
 |[],w,h=>by simp[eR] at h;simp[h]
 |x::r,w,h=>by
  rw[eR] at h;split at h
  ·rcases M1.1 h with rfl|h
   ·simp
   ·have:=iz h;simp;omega
  ·split at h
   ·next w0 ws e=>
    rcases M1.1 h with rfl|h
    ·have:=iz (b:=b) (t:=r) (w:=w0) (by rw[e];exact Nm);simp;omega
    ·have:=iz (b:=b) (t:=r) (w:=w) (by rw[e];exact MV _ h);simp;omega
   ·simp at h;rw[h];simp
theorem vP(b:UInt8):∀(n:Nat) (s:ByteArray),s.size≤n→(Lib.splitB ⟨#[b]⟩ 0 (Lib.countB s ⟨#[b]⟩) s).map (·.data.toList)=eR b s.data.toList
 |n,s,hn=>by
  have M:Lib.indexB s ⟨#[b]⟩=Lib.indexByte s.data.toList b:=Lib.index_one s.data.toList b;have U:=Lib.indexByte_ge s.data.toList b;by_cases h:Lib.indexB s ⟨#[b]⟩= -1
  ·rw[Lib.splitB_miss _ _ _ _ h,M0,Ns];have O:=Lib.indexByte_none (M▸h);rw[oz];intro G;obtain⟨k,E,e⟩:=Nd G;exact O k (by rw[MM E,e])
  ·obtain⟨i,A⟩:=Int.eq_ofNat_of_zero_le (show 0≤Lib.indexB s ⟨#[b]⟩ by omega);have z:=Lib.indexByte_some (o:=i) (by rw[←M];exact A);have J:i<s.data.toList.length:=(List.getElem?_eq_some_iff.1 z.1).1;have K:s.data.toList.length=s.size:=rfl;have L:(⟨#[b]⟩:ByteArray).size=1:=rfl;rw[Lib.countB_hit s _ i (by rw[L];omega) A,Nat.add_comm,Lib.splitB_hit _ _ _ _ i A,M0,L];have I:(s.extract (i+1) s.size).data.toList=s.data.toList.drop (i+1):=by
    have e:(s.extract (i+1) s.size).data.toList=(s.data.toList.drop (i+1)).take (s.size-(i+1)):=(by rw[ByteArray.data_extract,Array.toList_extract]);rw[e,MX (by rw[MU,K];exact MH _)]
   have N:(s.extract 0 (i+0)).data.toList=s.data.toList.take i:=by
    rw[ByteArray.data_extract,Array.toList_extract];simp
   have Q:(s.extract (i+1) s.size).size≤n-1:=by
    have:(s.extract (i+1) s.size).data.toList.length=s.size-(i+1):=(by rw[I,MU,K]);have Y:(s.extract (i+1) s.size).data.toList.length=(s.extract (i+1) s.size).size:=rfl;omega
   have V:n-1<n:=(by omega);rw[vP b (n-1) _ Q,I,N];have R:s.data.toList[i]=b:=by
    have:=z.1;rw[MM J] at this;simpa using this
   conv=>rhs;rw[←Nk i s.data.toList,Nl J,R]
   rw[oy];intro G;obtain⟨k,E,e⟩:=Nd G;rw[MZ] at E;rw[List.getElem_take] at e;exact z.2 k (by omega) (by rw[MM (by omega),e])
termination_by n=>n
theorem kv{k:Nat}:∀{z:List (List Value)},(∀x∈z,x.length=k)→z.flatten.length=z.length*k
 |[],_=>by simp
 |x::r,h=>by
  rw[List.flatten_cons,MT,kv (fun y A=>h y (MV _ A)),h x (by simp),M2,Nat.succ_mul];omega
theorem yS{k:Nat}:∀{z:List (List Value)} (_:∀x∈z,x.length=k) (i j:Nat) (_:j<k),z.flatten[i*k+j]? =(z[i]?.getD [])[j]?
 |[],_,i,j,_=>by simp
 |x::r,h,0,j,hj=>by
  have A:=h x (by simp);rw[List.flatten_cons,Nat.zero_mul,Ng,List.getElem?_append_left (by omega)];simp
 |x::r,h,i+1,j,hj=>by
  have A:=h x (by simp);have e:(i+1)*k+j=x.length+(i*k+j):=(by rw[Nat.succ_mul];omega);rw[List.flatten_cons,e,List.getElem?_append_right (by omega),Nat.add_sub_cancel_left,yS (fun y E=>h y (MV _ E)) i j hj];simp
theorem Dh{z:List (List Value)}(h:∀x∈z,x.length=k)(i j:Nat)(A:i<z.length)(E:j<z[i].length):z.flatten[i*k+j]? =some (z[i][j]):=by
 have G:=h z[i] (MO A);rw[yS h i j (by omega),MM A,Option.getD_some,MM E]
theorem yT{k:Nat}:∀{z:List (List Value)} (_:∀x∈z,x.length=k) (i j:Nat) (_:j<k) (u:Value),z.flatten.set (i*k+j) u=(z.modify i (fun x=>x.set j u)).flatten
 |[],_,i,j,_,u=>by simp
 |x::r,h,0,j,hj,u=>by
  have A:=h x (by simp);rw[List.flatten_cons,Nat.zero_mul,Ng,List.set_append_left _ _ (by omega)];simp
 |x::r,h,i+1,j,hj,u=>by
  have A:=h x (by simp);have e:(i+1)*k+j=x.length+(i*k+j):=(by rw[Nat.succ_mul];omega);rw[List.flatten_cons,e,List.set_append_right _ _ (by omega),Nat.add_sub_cancel_left,yT (fun y E=>h y (MV _ E)) i j hj u];simp
theorem BS{z:List (List Value)}(h:∀x∈z,x.length=k)(i j:Nat)(u:Value):∀x∈z.modify i (fun x=>x.set j u),x.length=k:=by
 intro x G;obtain⟨n,E,rfl⟩:=ND.1 G;rw[List.getElem_modify];have A:n<z.length:=(by simpa using E);split
 ·rw[List.length_set];exact h _ (MO A)
 ·exact h _ (MO A)
def b9(w:World)(base:Nat)(e:TypeId)(k:Nat)(v:Value)(es:List (List Value)):Prop:=(∀x∈es,x.length=k)∧w.ownsRow base e k v es.length es.flatten
theorem b9.slice{e:TypeId}{v:Value}{z:List (List Value)}(h:b9 w A e k v z):∃a cap,v= .slice a z.length cap:=by
 rcases h.2.2 with⟨rfl,E⟩|⟨g,cap,G,rfl,_⟩
 ·exact⟨none,0,by rw[E]⟩
 ·exact⟨_,cap,rfl⟩
theorem b9.nil(w:World)(z:Nat)(e:TypeId)(k:Nat):b9 w z e k (.slice none 0 0) []:=⟨(fun x A=>by cases A),by simp,.inl ⟨rfl,rfl⟩⟩
theorem b9.below{v:Value}{A:List (List Value)}(h:b9 w z e k v A)(L:Below B w w')(K:w.heap.size≤B):b9 w' z e k v A:=by
 refine⟨h.1,h.2.1,?_⟩;rcases h.2.2 with M|⟨g,cap,I,N,J,E,G⟩
 ·exact .inl M
 ·exact .inr ⟨g,cap,I,N,J,(L.block g (MW (lt_of_block E) K)).trans E,G⟩
theorem b9.keep{v:Value}{A:List (List Value)}(h:b9 w z e k v A)(L:∀g,v.ownBlock=some g→w'.heap[g]? =w.heap[g]?):b9 w' z e k v A:=by
 refine⟨h.1,h.2.1,?_⟩;rcases h.2.2 with M|⟨g,cap,I,E,J,K,G⟩
 ·exact .inl M
 ·exact .inr ⟨g,cap,I,E,J,(L g (by rw[E];rfl)).trans K,G⟩
theorem b9.mono{v:Value}{A:List (List Value)}(h:b9 w z e k v A)(J:base'≤z):b9 w base' e k v A:=by
 refine⟨h.1,h.2.1,?_⟩;rcases h.2.2 with L|⟨g,cap,G,M,I,K,E⟩
 ·exact .inl L
 ·exact .inr ⟨g,cap,G,M,MN J I,K,E⟩
theorem b9.kept{v:Value}{E:List (List Value)}{A:Option Nat}(h:b9 w z e k v E)(I:w.grownBy w' A)(G:v.ownBlock=none∨v.ownBlock≠A):b9 w' z e k v E:=⟨h.1,World.ownsRow.kept h.2 I G⟩
theorem b9.at0{A:List (List Value)}(h:b9 w z e k (.slice a n cap) A)(M:0<A.length):∃g,a=some ⟨g,0,none⟩∧z≤g∧g<w.heap.size:=by
 rcases h.2.2 with⟨_,L⟩|⟨g,J,K,E,G,I,_⟩
 ·omega
 ·simp only[MR] at E;exact⟨g,E.1,G,lt_of_block I⟩
theorem b9.cell{E:Nat}{z:List (List Value)}(h:b9 w E e k (.slice (some ⟨g,0,none⟩) n cap) z)(i j:Nat)(G:i<z.length)(I:j<z[i].length):w.cell? ⟨g,i*k+j,none⟩=some (z[i][j]):=by
 have A:=World.ownsRow.cells h.2 (g:=g) rfl (i*k+j) _ (Dh h.1 i j G I);rw[ej,Ng] at A;exact A
theorem b9.frozen{E:List (List Value)}(h:b9 w A e k (.slice (some ⟨g,0,none⟩) n cap) E)(j:Nat):w.frozen? ⟨g,j,none⟩=false:=by
 obtain⟨a,c,z⟩:=h.slice;simp only[MR] at z;obtain⟨_,rfl,rfl⟩:=z;exact World.ownsRow.frozenAt h.2 j
theorem b9.store{E:List (List Value)}(h:b9 w z e k (.slice (some ⟨g,0,none⟩) n cap) E)(i j:Nat)(I:j<k)(u:Value):
  b9 (w.setCell ⟨g,i*k+j,none⟩ u) z e k (.slice (some ⟨g,0,none⟩) n cap) (E.modify i (fun x=>x.set j u)):=by
 obtain⟨a,c,A⟩:=h.slice;simp only[MR] at A;obtain⟨_,rfl,rfl⟩:=A;have G:=(World.ownsRow.stored h.2 (i*k+j) u).1;refine⟨BS h.1 i j u,?_⟩;rw[List.length_modify,←yT h.1 i j I u];exact G
theorem b9.lt{v:Value}{A:List (List Value)}(h:b9 w z e k v A)(g:Nat)(E:v.ownBlock=some g):z≤g∧g<w.heap.size:=World.ownsRow.lt h.2 g E
theorem iY(l:List Nat):(fC l).size=l.length:=by simp[fC,ByteArray.size]
def Raw(w:World)(g:Nat)(t:TypeId)(n:Nat):Prop:=∃cur:Array Value,w.heap[g]? =some (.cells cur t (0,0))∧cur.size=n
theorem Raw.cell{t:Nat}(h:Raw w g t n)(j:Nat)(E:j<n):∃v,w.cell? ⟨g,j,none⟩=some v:=by
 obtain⟨A,z,G⟩:=h;rw[cell_of_row w g j _ _ _ z];exact⟨_,Array.getElem?_eq_getElem (by omega)⟩
theorem Raw.frozen{t:Nat}(h:Raw w g t n)(j:Nat):w.frozen? ⟨g,j,none⟩=false:=by
 obtain⟨A,z,_⟩:=h;simp[World.frozen?,z]
theorem Raw.lt{t:Nat}(h:Raw w g t n):g<w.heap.size:=by
 obtain⟨A,z,_⟩:=h;exact lt_of_block z
theorem Raw.set{t:Nat}(h:Raw w g t n)(g' j:Nat)(u:Value):Raw (w.setCell ⟨g',j,none⟩ u) g t n:=by
 obtain⟨A,z,E⟩:=h;by_cases e:g=g'
 ·subst e;refine⟨A.setIfInBounds j u,?_,by simpa using E⟩;rw[setCell_eq_setRow w g j _ _ _ _ z,setRow_heap w g _ _ _ _ z]
 ·exact⟨A,(heap_setCell_other w ⟨g',j,none⟩ g u (by simpa using e)).trans z,E⟩
theorem Raw.apart{g' t J:Nat}(h:Raw w g t n)(E:Raw w g' A J)(I:t≠A):g≠g':=by
 rintro rfl;obtain⟨c,G,_⟩:=h;obtain⟨c',z,_⟩:=E;rw[G] at z;simp only[MK,Obj.cells.injEq] at z;exact I z.2.1
theorem Raw.of_eq{t:Nat}(h:Raw w g t n)(e:w'.heap[g]? =w.heap[g]?):Raw w' g t n:=by
 obtain⟨z,A,E⟩:=h;exact⟨z,e.trans A,E⟩
theorem Out.set{a:World}{u:Value}(h:Out lo z a w)(G:lo≤g)(I:g<z):Out lo z a (w.setCell ⟨g,j,none⟩ u):=
 ⟨h.os,h.tape,h.output,by simpa using h.size,fun k A E=>by
  rw[heap_setCell_other w ⟨g,j,none⟩ k u (by simp;omega)];exact h.block k A E⟩
theorem Out.andThen{a b c:World}(h:Out lo z a b)(k:Below B b c)(E:a.heap.size≤B):Out lo z a c:=
 ⟨k.os.trans h.os,k.tape.trans h.tape,k.output.trans h.output,MN h.size k.size,fun i z A=>(k.block i (by omega)).trans (h.block i z A)⟩
theorem EI(g n cap m k:Nat)(w:World)(hn:n≤m)(Z:k≤4503599627370496)(V:n≤4503599627370496)(O:Raw w g 5 m):
  Calls Tryz.prog 51 #[.slice (some ⟨g,0,none⟩) n cap,.int .i64 (k:Int)] w fun e w'=>e= .returned (.int .i64 ((k+n:Nat):Int))∧(∀g' t z,Raw w g' t z→Raw w' g' t z)∧(∀b,b≠g→w'.heap[b]? =w.heap[b]?)∧w'.os=w.os∧w'.tape=w.tape∧w'.output=w.output∧w'.heap.size=w.heap.size:=by
 go_enter Tryz.func51,Tryz.ntmps51;go_wp2;go_loopw [1,5] (fun s i wr=>∃j:Nat,j≤n∧i= .int .i64 j∧s= .int .i64 ((k+j:Nat):Int)∧(∀g' t z,Raw w g' t z→Raw wr g' t z)∧(∀b,b≠g→wr.heap[b]? =w.heap[b]?)∧wr.os=w.os∧wr.tape=w.tape∧wr.output=w.output∧wr.heap.size=w.heap.size) (fun _ i _=>n-(intOf i).toNat)
 case atStart=>exact⟨0,MQ _,rfl,rfl,fun _ _ _ h=>h,fun _ _=>rfl,rfl,rfl,rfl,rfl⟩
 case round=>
  obtain⟨j,Y,rfl,rfl,E,I,L,M,J,K⟩:=hrel;by_cases U:j<n
  ·have G:=E g 5 m O;obtain⟨v,Q⟩:=G.cell j (by omega);have R:=G.frozen j;have A:=a8 (show(∀(u:Value) g' t z,Raw w g' t z→Raw (wr.setCell ⟨g,j,none⟩ u) g' t z)∧(∀(u:Value) b,b≠g→(wr.setCell ⟨g,j,none⟩ u).heap[b]? =w.heap[b]?)∧(∀u:Value,(wr.setCell ⟨g,j,none⟩ u).os=w.os∧(wr.setCell ⟨g,j,none⟩ u).tape=w.tape∧(wr.setCell ⟨g,j,none⟩ u).output=w.output∧(wr.setCell ⟨g,j,none⟩ u).heap.size=w.heap.size) from
    ⟨fun u g' t z h=>(E g' t z h).set g j u,fun u b N=>(heap_setCell_other wr ⟨g,j,none⟩ b u (by simpa using N)).trans (I b N),fun u=>⟨L,M,J,by rw[←K];simp⟩⟩)
   clear E I L M J K O G;go_wp2;go_roundw
   case rel=>exact⟨j+1,by omega,by go_num,fy (by omega),A.out.1 _,A.out.2.1 _,(A.out.2.2 _).1,(A.out.2.2 _).2.1,(A.out.2.2 _).2.2.1,(A.out.2.2 _).2.2.2⟩
   case measure=>simp[intOf];omega
  ·obtain rfl:j=n:=(by omega);go_wp2;go_ret;exact⟨rfl,E,I,L,M,J,K⟩
structure jG(w:World)(lo hi g n m:Nat)(vs:Nat→Value):Prop where
 raw:Raw w g 91 m
 room:n*2≤m
 low:lo≤g
 high:g<hi
 sl:∀j,j<n→w.cell? ⟨g,j*2,none⟩=some (vs j)
 el:∀j,j<n→vs j= .slice none 0 0∨∃gj nj cj mj,vs j= .slice (some ⟨gj,0,none⟩) nj cj∧Raw w gj 5 mj∧nj≤mj∧lo≤gj∧gj<hi∧nj≤1048576
theorem jG.turn{I:Nat→Value}(h:jG w lo A g n m I)(E:∀g' t G,Raw w g' t G→Raw w' g' t G)(M:∀j,j<n→w'.cell? ⟨g,j*2,none⟩=w.cell? ⟨g,j*2,none⟩):jG w' lo A g n m I:=
 ⟨E _ _ _ h.raw,h.room,h.low,h.high,fun j z=>(M j z).trans (h.sl j z),fun j z=>by
  rcases h.el j z with e|⟨L,O,K,N,e,r,J⟩
  ·exact .inl e
  ·exact .inr ⟨L,O,K,N,e,E _ _ _ r,J⟩⟩
theorem d5(h:w'.heap[g]? =w.heap[g]?):w'.cell? ⟨g,j,none⟩=w.cell? ⟨g,j,none⟩:=by
 unfold World.cell?;simp only[h]
theorem EH(k:Nat)(w:World):
  Calls Tryz.prog 51 #[.slice none 0 0,.int .i64 (k:Int)] w fun e w'=>e= .returned (.int .i64 (k:Int))∧w'=w:=by
 go_enter Tryz.func51,Tryz.ntmps51;go_wp2;go_loopw [1,5] (fun s i wr=>i= .int .i64 0∧s= .int .i64 (k:Int)∧wr=w) (fun _ _ _=>0)
 case atStart=>exact⟨rfl,rfl,rfl⟩
 case round=>
  obtain⟨rfl,rfl,rfl⟩:=hrel;go_wp2;go_ret;exact⟨rfl,rfl⟩
def LD(w:World)(lo hi:Nat)(v:Value):Prop:=v= .slice none 0 0∨∃gj nj cj mj,v= .slice (some ⟨gj,0,none⟩) nj cj∧Raw w gj 5 mj∧nj≤mj∧lo≤gj∧gj<hi∧nj≤1048576
theorem Ha(lo E k:Nat)(v:Value)(w:World)(V:k≤4503599627370496)(h:LD w lo E v):
  Calls Tryz.prog 51 #[v,.int .i64 (k:Int)] w fun e w'=>(∃I:Nat,I≤1048576∧e= .returned (.int .i64 ((k+I:Nat):Int)))∧(∀g' t z,Raw w g' t z→Raw w' g' t z)∧(∀b t z,t≠5→Raw w b t z→w'.heap[b]? =w.heap[b]?)∧Out lo E w w':=by
 rcases h with rfl|⟨M,G,L,Z,rfl,r,K,hl,hh,J⟩
 ·refine(EH k w).mono ?_;rintro e w' ⟨rfl,rfl⟩;exact⟨⟨0,by omega,rfl⟩,fun _ _ _ h=>h,fun _ _ _ _ _=>rfl,Out.refl _ _ _⟩
 ·refine(EI M G L Z k w K V (by omega) r).mono ?_;rintro e w' ⟨rfl,N,A,O,Q,R,h6⟩;refine⟨⟨G,J,rfl⟩,N,fun b t z Y U=>A b (U.apart r Y),⟨O,Q,R,by omega,fun x hx ho=>A x (by omega)⟩⟩
theorem EM(lo E g n cap m k:Nat)(J:Nat→Value)(w:World)(hn:n≤1048576)(hk:k≤1048576)(hr:jG w lo E g n m J):
  Calls Tryz.prog 27 #[.slice (some ⟨g,0,none⟩) n cap,.int .i64 (k:Int)] w fun e w'=>(∃k':Nat,e= .returned (.int .i64 (k':Int))∧k'≤k+n*1048577)∧(∀g' t A,Raw w g' t A→Raw w' g' t A)∧Out lo E w w':=by
 go_enter Tryz.func27,Tryz.ntmps27;go_wp2;go_loopw [1,5] (fun s i wr=>∃j s':Nat,j≤n∧i= .int .i64 j∧s= .int .i64 (s':Int)∧s'≤k+j*1048577∧jG wr lo E g n m J∧(∀g' t A,Raw w g' t A→Raw wr g' t A)∧Out lo E w wr) (fun _ i _=>n-(intOf i).toNat)
 case atStart=>exact⟨0,k,MQ _,rfl,rfl,by omega,hr,fun _ _ _ h=>h,Out.refl _ _ _⟩
 case round=>
  obtain⟨j,s',hj,rfl,rfl,ab,I,O,R⟩:=hrel;by_cases N:j<n
  ·have ac:=I.sl j N;have HN:=a8 I;have U:=a8 O;have HO:=a8 R;have ah:s'≤1099512676352:=by
    omega
   have L:=a8 (Ha lo E s' (J j) wr (by omega) (I.el j N));have V:=a8 (show(∀W:World,(∀g' t A,Raw wr g' t A→Raw W g' t A)→(∀b t A,t≠5→Raw wr b t A→W.heap[b]? =wr.heap[b]?)→jG W lo E g n m J) from fun W h1 h2=>I.turn h1 (fun j _=>d5 (h2 g _ _ (by decide) I.raw)));have ad:∃sa sn sc,J j= .slice sa sn sc:=by
    rcases I.el j N with e|⟨gj,nj,cj,mj,e,_⟩
    ·exact⟨_,_,_,e⟩
    ·exact⟨_,_,_,e⟩
   obtain⟨sa,sn,sc,Y⟩:=ad;rw[Y] at ac L;clear hr I O R Y;go_wp2_with fail;refine L.out.mono ?_;rintro e K ⟨⟨nn,ag,rfl⟩,M,Z,aa⟩;have G:=V.out K M Z;obtain⟨z,hz⟩:=G.raw.cell (j*2+1) (by have:=G.room;omega);have ae:=G.raw.frozen (j*2+1);have af:j*1048577+1048577=(j+1)*1048577:=(by omega);have Q:=a8 (show∀u:Value,jG (K.setCell ⟨g,j*2+1,none⟩ u) lo E g n m J∧(∀g' t A,Raw w g' t A→Raw (K.setCell ⟨g,j*2+1,none⟩ u) g' t A)∧Out lo E w (K.setCell ⟨g,j*2+1,none⟩ u) from fun u=>
    ⟨G.turn (fun _ _ _ h=>h.set _ _ _) (fun i _=>World.cell?_setCell_other _ _ _ _ (by intro e;simp only[Np] at e;omega)),fun _ _ _ h=>(M _ _ _ (U.out _ _ _ h)).set _ _ _,(HO.out.trans aa).set G.low G.high⟩)
   clear G M Z aa V L U HO HN;go_wp2;go_roundw
   case rel=>exact⟨j+1,s'+nn+1,by omega,by go_num,by go_num,by omega,(Q.out _).1,(Q.out _).2.1,(Q.out _).2.2⟩
   case measure=>simp[intOf];omega
  ·obtain rfl:j=n:=(by omega);have HF:=a8 ab;clear ab;go_wp2;go_ret;exact⟨⟨s',rfl,HF.out⟩,O,R⟩
theorem Kh(W:World)(z:Int)(x:Nat)(h:z=(x:Int)):(convert 52 9 (.slice (some ⟨W.heap.size,0,none⟩) 1 1)).run Tryz.prog (W.alloc (.cells #[.int .u8 z] 5))= .ok (.string (fC [x])) (W.alloc (.cells #[.int .u8 z] 5)):=by
 subst h;refine fH _ _ 1 [x] fun _=>⟨W.heap.size,0,rfl,fun i E=> ?_⟩
 have A:i=0:=(by simpa using E);subst A;rw[cell_of_row _ _ _ _ _ _ (heap_alloc_new W _)];rfl
theorem lS(k:Nat)(w:World)(Q:k≤4503599627370496):
  Calls Tryz.prog 52 #[.int .i64 (k:Int)] w fun e w'=>(∃s,e= .returned (.string s))∧Below w.heap.size w w':=by
 by_cases K:k=0
 ·subst K;go_enter Tryz.func52,Tryz.ntmps52;go_wp2;go_ret;exact⟨⟨_,rfl⟩,MJ _ _⟩
 ·have M:¬(k:Int)≤0:=(by omega);go_enter Tryz.func52,Tryz.ntmps52;go_wp2;go_loopw [0,3] (fun A L wr=>∃(j:Nat) (s:ByteArray),A= .int .i64 (j:Int)∧L= .string s∧s.size+j≤k∧Below w.heap.size w wr) (fun A _ _=>(intOf A).toNat)
  case atStart=>exact⟨k,_,rfl,rfl,by simp[ByteArray.size],MJ _ _⟩
  case round=>
   obtain⟨j,s,rfl,rfl,R,z⟩:=hrel;by_cases O:0<j
   ·have N:(0:Int)<(j:Int):=(by omega);have E:=Kh wr ((48:Int)+(j:Int)%10) (48+j%10) (by omega);have G:(fC [48+j%10]).size=1:=(by simp[fC,ByteArray.size]);generalize fC [48+j%10]=t at E G;have I:=a8 (z.alloc z.size (.cells #[.int .u8 ((48:Int)+(j:Int)%10)] 5));clear z;have J:=a8 (show(t++s).size+j/10≤k by rw[ByteArray.size_append];omega);go_wp2;go_roundw
    case rel=>exact⟨j/10,t++s,by go_num,rfl,J.out,I.out⟩
    case measure=>simp[intOf];omega
   ·obtain rfl:j=0:=(by omega);go_wp2;go_ret;exact⟨⟨_,rfl⟩,z⟩
theorem EK(lo L g n cap m k:Nat)(w:World)(hn:n≤1048576)(hk:k≤1125899906842624)(Y:Raw w g 93 m)(hm:n*2≤m)(U:lo≤g)(V:g<L):
  Calls Tryz.prog 28 #[.slice (some ⟨g,0,none⟩) n cap,.int .i64 (k:Int)] w fun e w'=>e= .returned (.int .i64 ((k+2*n:Nat):Int))∧(∀g' t z,Raw w g' t z→Raw w' g' t z)∧Out lo L w w':=by
 go_enter Tryz.func28,Tryz.ntmps28;go_wp2;go_loopw [1,5] (fun s i wr=>∃j:Nat,j≤n∧i= .int .i64 j∧s= .int .i64 ((k+2*j:Nat):Int)∧(∀g' t z,Raw w g' t z→Raw wr g' t z)∧Out lo L w wr) (fun _ i _=>n-(intOf i).toNat)
 case atStart=>exact⟨0,MQ _,rfl,rfl,fun _ _ _ h=>h,Out.refl _ _ _⟩
 case round=>
  obtain⟨j,hj,rfl,rfl,K,M⟩:=hrel;by_cases ad:j<n
  ·obtain⟨s',N⟩:∃s',s'=k+2*j:=⟨_,rfl⟩
   rw[←N];have aa:s'≤4503599627370000:=(by omega);have A:=a8 K;have I:=a8 M;have HJ:=a8 N;clear K M N;go_wp2_with fail;refine(lS s' wr (by omega)).mono ?_;rintro e Z ⟨⟨t,rfl⟩,J⟩;have G:=((A.out g _ m Y).of_eq (J.block g (A.out g _ m Y).lt))
   have O:=a8 (fun g' E z (h:Raw w g' E z)=>((A.out g' E z h).of_eq (J.block g' (A.out g' E z h).lt)));have Q:=a8 (I.out.andThen J I.out.size);obtain⟨z0,ae⟩:=G.cell (j*2) (by omega);obtain⟨z1,af⟩:=G.cell (j*2+1) (by omega);have ab:=G.frozen (j*2);have ac:=G.frozen (j*2+1);have R:=a8 (show∀u v:Value,(∀g' E z,Raw w g' E z→Raw ((Z.setCell ⟨g,j*2,none⟩ u).setCell ⟨g,j*2+1,none⟩ v) g' E z)∧Out lo L w ((Z.setCell ⟨g,j*2,none⟩ u).setCell ⟨g,j*2+1,none⟩ v) from fun u v=>
    ⟨fun _ _ _ h=>((O.out _ _ _ h).set _ _ _).set _ _ _,(Q.out.set U V).set U V⟩)
   clear G J A I O Q;go_wp2;go_roundw
   case rel=>exact⟨j+1,by omega,by go_num,by rw[show k+2*(j+1)=s'+1+1 from by have:=HJ.out;omega];go_num,(R.out _ _).1,(R.out _ _).2⟩
   case measure=>simp[intOf];omega
  ·obtain rfl:j=n:=(by omega);have I:=a8 M;have A:=a8 K;clear M K;go_wp2;go_ret;exact⟨rfl,A.out,I.out⟩
theorem EP(lo M g n cap m k:Nat)(w:World)(hn:n≤1048576)(hk:k≤1125899906842624)(N:Raw w g 95 m)(hm:n*4≤m)(U:lo≤g)(V:g<M):
  Calls Tryz.prog 29 #[.slice (some ⟨g,0,none⟩) n cap,.int .i64 (k:Int)] w fun e w'=>e= .returned (.int .i64 ((k+4*n:Nat):Int))∧(∀g' t z,Raw w g' t z→Raw w' g' t z)∧Out lo M w w':=by
 go_enter Tryz.func29,Tryz.ntmps29;go_wp2;go_loopw [1,5] (fun s i wr=>∃j:Nat,j≤n∧i= .int .i64 j∧s= .int .i64 ((k+4*j:Nat):Int)∧(∀g' t z,Raw w g' t z→Raw wr g' t z)∧Out lo M w wr) (fun _ i _=>n-(intOf i).toNat)
 case atStart=>exact⟨0,MQ _,rfl,rfl,fun _ _ _ h=>h,Out.refl _ _ _⟩
 case round=>
  obtain⟨j,hj,rfl,rfl,L,Y⟩:=hrel;by_cases ap:j<n
  ·obtain⟨s',ab⟩:∃s',s'=k+4*j:=⟨_,rfl⟩
   rw[←ab];have ak:s'≤4503599627370000:=(by omega);have HJ:=a8 ab;have aa:=L g _ m N;obtain⟨z0,ai⟩:=aa.cell (j*4) (by omega);have ag:=aa.frozen (j*4);have E:=a8 (show∀u:Value,∀g' A z,Raw w g' A z→Raw (wr.setCell ⟨g,j*4,none⟩ u) g' A z from fun u _ _ _ h=>(L _ _ _ h).set _ _ _);have I:=a8 (show∀u:Value,Out lo M w (wr.setCell ⟨g,j*4,none⟩ u) from fun u=>Y.set U V);clear L Y ab aa;go_wp2_with fail;replace E:=a8 (E.out (.int .i64 (s':Int)));replace I:=a8 (I.out (.int .i64 (s':Int)));generalize wr.setCell ⟨g,j*4,none⟩ (.int .i64 (s':Int))=w1 at E I⊢;have e1:((s':Int)+1)=((s'+1:Nat):Int):=(by omega);rw[e1];clear e1;obtain⟨s1,ac⟩:∃s1,s1=s'+1:=⟨_,rfl⟩
   rw[←ac];have al:s1≤4503599627370001:=(by omega);have ae:=a8 ac;clear ac;refine(lS s1 w1 (by omega)).mono ?_;rintro e w2 ⟨⟨t,rfl⟩,Q⟩;have Z:=((E.out g _ m N).of_eq (Q.block g (E.out g _ m N).lt))
   have G:=a8 (fun(u:Value) g' A z (h:Raw w g' A z)=>((E.out g' A z h).of_eq (Q.block g' (E.out g' A z h).lt)).set g (j*4+1) u);have J:=a8 (fun(u:Value)=>(I.out.andThen Q I.out.size).set (j:=j*4+1) (u:=u) U V);obtain⟨z1,aj⟩:=Z.cell (j*4+1) (by omega);have ah:=Z.frozen (j*4+1);clear Z Q E I ai ag;go_wp2_with fail;replace G:=a8 (G.out (.string t));replace J:=a8 (J.out (.string t));generalize w2.setCell ⟨g,j*4+1,none⟩ (.string t)=w3 at G J⊢;have e2:((s1:Int)+1)=((s1+1:Nat):Int):=(by omega);rw[e2];clear e2;obtain⟨O,ad⟩:∃O,O=s1+1:=⟨_,rfl⟩
   rw[←ad];have am:O≤4503599627370002:=(by omega);have af:=a8 ad;clear ad aj ah;refine(lS O w3 (by omega)).mono ?_;rintro e w4 ⟨⟨t4,rfl⟩,R⟩;have K:=((G.out g _ m N).of_eq (R.block g (G.out g _ m N).lt))
   have HX:=a8 (show∀u v:Value,(∀g' A z,Raw w g' A z→Raw ((w4.setCell ⟨g,j*4+2,none⟩ u).setCell ⟨g,j*4+3,none⟩ v) g' A z)∧Out lo M w ((w4.setCell ⟨g,j*4+2,none⟩ u).setCell ⟨g,j*4+3,none⟩ v) from fun u v=>
    ⟨fun g' A z h=>(((G.out g' A z h).of_eq (R.block g' (G.out g' A z h).lt)).set _ _ _).set _ _ _,((J.out.andThen R J.out.size).set U V).set U V⟩)
   obtain⟨z2,aq⟩:=K.cell (j*4+2) (by omega);obtain⟨z3,ar⟩:=K.cell (j*4+3) (by omega);have an:=K.frozen (j*4+2);have ao:=K.frozen (j*4+3);clear K R G J;go_wp2;go_roundw
   case rel=>exact⟨j+1,by omega,by go_num,by rw[show k+4*(j+1)=O+1+1 from by have:=HJ.out;have:=ae.out;have:=af.out;omega];go_num,(HX.out _ _).1,(HX.out _ _).2⟩
   case measure=>simp[intOf];omega
  ·obtain rfl:j=n:=(by omega);have I:=a8 Y;have E:=a8 L;clear Y L;go_wp2;go_ret;exact⟨rfl,E.out,I.out⟩
theorem EL(k:Nat)(w:World):Calls Tryz.prog 27 #[.slice none 0 0,.int .i64 (k:Int)] w fun e w'=>e= .returned (.int .i64 (k:Int))∧w'=w:=by
 go_enter Tryz.func27,Tryz.ntmps27;go_wp2;go_loopw [1,5] (fun s i wr=>i= .int .i64 0∧s= .int .i64 (k:Int)∧wr=w) (fun _ _ _=>0)
 case atStart=>exact⟨rfl,rfl,rfl⟩
 case round=>
  obtain⟨rfl,rfl,rfl⟩:=hrel;go_wp2;go_ret;exact⟨rfl,rfl⟩
theorem EJ(k:Nat)(w:World):Calls Tryz.prog 28 #[.slice none 0 0,.int .i64 (k:Int)] w fun e w'=>e= .returned (.int .i64 (k:Int))∧w'=w:=by
 go_enter Tryz.func28,Tryz.ntmps28;go_wp2;go_loopw [1,5] (fun s i wr=>i= .int .i64 0∧s= .int .i64 (k:Int)∧wr=w) (fun _ _ _=>0)
 case atStart=>exact⟨rfl,rfl,rfl⟩
 case round=>
  obtain⟨rfl,rfl,rfl⟩:=hrel;go_wp2;go_ret;exact⟨rfl,rfl⟩
theorem EO(k:Nat)(w:World):Calls Tryz.prog 29 #[.slice none 0 0,.int .i64 (k:Int)] w fun e w'=>e= .returned (.int .i64 (k:Int))∧w'=w:=by
 go_enter Tryz.func29,Tryz.ntmps29;go_wp2;go_loopw [1,5] (fun s i wr=>i= .int .i64 0∧s= .int .i64 (k:Int)∧wr=w) (fun _ _ _=>0)
 case atStart=>exact⟨rfl,rfl,rfl⟩
 case round=>
  obtain⟨rfl,rfl,rfl⟩:=hrel;go_wp2;go_ret;exact⟨rfl,rfl⟩

def FB(w:World):Prop:=w.cell? ⟨2,0,none⟩=some (.iface 235 (.agg #[.pointer (some ⟨11,64,none⟩)]))
theorem oZ{v:Value}(h:w.cell? p=some v):p.block<w.heap.size:=by
 rcases NB p.block w.heap.size with z|z
 ·exact z
 ·simp[World.cell?,Array.getElem?_eq_none z] at h
end Go.Proofs.YtpdbolihakojcaaGreatDoor
