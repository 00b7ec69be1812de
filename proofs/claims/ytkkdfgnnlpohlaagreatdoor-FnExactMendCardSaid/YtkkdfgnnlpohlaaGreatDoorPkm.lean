import Derived.Test.YtkkdfgnnlpohlaaGreatDoorPkf
import Derived.Test.YtkkdfgnnlpohlaaGreatDoorPki
import Derived.Test.YtkkdfgnnlpohlaaGreatDoorPkg
import Derived.Test.YtkkdfgnnlpohlaaGreatDoorShelf
import Derived.Laws.Concat
import Derived.Lib.Walk
import Derived.BigCall
import Derived.BigGuard
import Derived.Lib.AtoiErrMem
namespace Go.Proofs.YtkkdfgnnlpohlaaGreatDoor
set_option maxRecDepth 20000
set_option linter.unusedVariables false
set_option linter.unusedSimpArgs false
set_option maxHeartbeats 4000000
open Go.RowKit Go.Proofs.Tryz
variable {W X Y w w' w0 wr : World} {A B at_ b b2 base' c cap e f g go gs hi i j k lo m n s u val z : Nat} {E G I J K L M N O u0 u1 u2 v0 v1 v2 v3 v4 v5 v6 x y : Value} {o : Oper} {Q : Exit → Act → World → Prop} {cs tmps : Array Value} {t : TypeId} {p : Addr} {l : List Nat} {bvs xs : List Value} {a : List UInt8} {first ok : Bool}
theorem mV(w:World)(y:Int)(x:Nat)(h:y=x):dW (w.alloc (.cells #[.int .u8 y] 5)) (some ⟨w.heap.size,0,none⟩) [x]:=by
 subst h;exact(jA (B:=w.heap.size) (l:=[x]) (OV _) (by unfold maxLen;simp) (OP w _)).row
theorem AO(a:OA)(cap:Nat)(r:LN)(w:World)(h1:1≤r.length)(h2:r.length≤2000)(hr:dW w a r)(hb:∀x∈r,x<256):
  Calls prog 77 #[.slice a r.length cap] w fun e w'=>∃v,e= .returned v∧dR w' w.heap.size v (fN r)∧Below w.heap.size w w':=by
 have Y:dR (w.alloc (.cells #[.int .u8 ((r.length:Int)/256),.int .u8 ((r.length:Int)%256)] 5)) w.heap.size (.slice (some ⟨w.heap.size,0,none⟩) (hd2 r.length).length (hd2 r.length).length) (hd2 r.length):=by
  refine jA (OV _) (by unfold maxLen;simp[hd2]) ?_;have e: #[Value.int .u8 ((r.length:Int)/256),.int .u8 ((r.length:Int)%256)]=((hd2 r.length).map bv).toArray:=by
   have e1:((r.length/256%256:Nat):Int)=(r.length:Int)/256:=(by omega);have e2:((r.length%256:Nat):Int)=(r.length:Int)%256:=(by omega);simp only[hd2,Pe,PD,bv,e1,e2]
  rw[e];exact OP w _
 have ad:Below w.heap.size w (w.alloc (.cells #[.int .u8 ((r.length:Int)/256),.int .u8 ((r.length:Int)%256)] 5)):=(OX _ _).alloc (OV _) _;go_enter func77,ntmps77;go_wp2_with fail;refine(lQ _ _ (hd2 r.length) _ (by simp[hd2]) Y.row).mono ?_;rintro e w2 ⟨rfl,O,R⟩;have ae:(w.alloc (.cells #[.int .u8 ((r.length:Int)/256),.int .u8 ((r.length:Int)%256)] 5)).heap.size=w.heap.size+1:=(by simp);have Q:Below w.heap.size w w2:=ad.trans (R.mono (by omega));have ab:=Y.below R (OV _);rw[ae] at O;have af:w.heap.size+1<w2.heap.size:=by
  have:=(OF O _ rfl).2;exact this
 clear Y ad;go_wp2_with (at_builtin;refine eF _ rfl _ _ rfl (w.heap.size+1) (.slice (some ⟨w.heap.size+1,0,none⟩) (hd2 r.length).length (hd2 r.length).length) (hd2 r.length) r rfl O _ _ rfl (hr.below Q) (by omega) (by simp[hd2];omega) (by omega) ?_;intro v3 Z V U;obtain⟨a3,c3,rfl⟩:=V.slice)
 have aa:Below w.heap.size w Z:=Q.grown U (by omega) (fun k h=>by simp[Value.ownBlock] at h;omega);have ac:dR Z w.heap.size (.slice (some ⟨w.heap.size,0,none⟩) (hd2 r.length).length (hd2 r.length).length) (hd2 r.length):=OE ab U (.inr (by simp[Value.ownBlock]));have ag:=zW (hd2 r.length++r) (Hq (IP _) hb);rw[←O1];refine(BZ a3 c3 (hd2 r.length++r) Z (by simp[hd2];omega) V.row (Hq (IP _) hb)).mono ?_;rintro e w4 ⟨rfl,rfl⟩;have HF:Hid (fN r=hd2 r.length++be4 (mt (hd2 r.length++r))++r):=rfl;clear V U ab O Q af ae R;generalize mt (hd2 r.length++r)=c at ag HF⊢;go_wp2;go_loopw [3,5] (fun v i wr=>∃j:Nat,j≤4∧i= .int .i64 (3-(j:Int))∧dR wr w.heap.size v (hd2 r.length++(be4 c).take j)∧Below w.heap.size w wr) (fun _ i _=>(intOf i+1).toNat)
 case atStart=>exact⟨0,by omega,rfl,by rw[List.take_zero,Pm];exact ac,aa⟩
 case round=>
  obtain⟨j,hj,rfl,E,M⟩:=hrel;clear ac aa;have N:=M.size;rcases (show j=0∨j=1∨j=2∨j=3∨j=4 from by omega) with rfl|rfl|rfl|rfl|rfl
  ·have A:=mV wr ((c:Int)/16777216) ((be4 c)[0]'(by simp[be4])) (by first|(simp[be4];done)|(simp[be4];omega));have K:=E.alloc (.cells #[.int .u8 ((c:Int)/16777216)] 5);have G:Hid (hd2 r.length++(be4 c).take (0+1)=(hd2 r.length++(be4 c).take 0)++[(be4 c)[0]'(by simp[be4])]):=by
    show _=_;rw[O5 (by simp[be4]),PH]
   generalize (be4 c)[0]'(by simp[be4])=x at A G;go_wp2_with (at_builtin;refine eF _ rfl _ _ rfl w.heap.size u3 (hd2 r.length++(be4 c).take 0) [x] rfl K _ _ rfl A (by simp) (by simp[hd2,be4]) (by simp;omega) ?_;intro v5 J z I)
   rw[←G.out] at z;have L:Below w.heap.size w J:=(M.alloc N _).grown I (by simp;omega) (fun k h=>(OF E k h).1);go_roundw
   case rel=>exact⟨0+1,by omega,rfl,z,L⟩
   case measure=>simp[intOf]
  ·have A:=mV wr (((c:Int)/65536)%256) ((be4 c)[1]'(by simp[be4])) (by first|(simp[be4];done)|(simp[be4];omega));have K:=E.alloc (.cells #[.int .u8 (((c:Int)/65536)%256)] 5);have G:Hid (hd2 r.length++(be4 c).take (1+1)=(hd2 r.length++(be4 c).take 1)++[(be4 c)[1]'(by simp[be4])]):=by
    show _=_;rw[O5 (by simp[be4]),PH]
   generalize (be4 c)[1]'(by simp[be4])=x at A G;go_wp2_with (at_builtin;refine eF _ rfl _ _ rfl w.heap.size u3 (hd2 r.length++(be4 c).take 1) [x] rfl K _ _ rfl A (by simp) (by simp[hd2,be4]) (by simp;omega) ?_;intro v5 J z I)
   rw[←G.out] at z;have L:Below w.heap.size w J:=(M.alloc N _).grown I (by simp;omega) (fun k h=>(OF E k h).1);go_roundw
   case rel=>exact⟨1+1,by omega,rfl,z,L⟩
   case measure=>simp[intOf]
  ·have A:=mV wr (((c:Int)/256)%256) ((be4 c)[2]'(by simp[be4])) (by first|(simp[be4];done)|(simp[be4];omega));have K:=E.alloc (.cells #[.int .u8 (((c:Int)/256)%256)] 5);have G:Hid (hd2 r.length++(be4 c).take (2+1)=(hd2 r.length++(be4 c).take 2)++[(be4 c)[2]'(by simp[be4])]):=by
    show _=_;rw[O5 (by simp[be4]),PH]
   generalize (be4 c)[2]'(by simp[be4])=x at A G;go_wp2_with (at_builtin;refine eF _ rfl _ _ rfl w.heap.size u3 (hd2 r.length++(be4 c).take 2) [x] rfl K _ _ rfl A (by simp) (by simp[hd2,be4]) (by simp;omega) ?_;intro v5 J z I)
   rw[←G.out] at z;have L:Below w.heap.size w J:=(M.alloc N _).grown I (by simp;omega) (fun k h=>(OF E k h).1);go_roundw
   case rel=>exact⟨2+1,by omega,rfl,z,L⟩
   case measure=>simp[intOf]
  ·have A:=mV wr ((c:Int)%256) ((be4 c)[3]'(by simp[be4])) (by first|(simp[be4];done)|(simp[be4];omega));have K:=E.alloc (.cells #[.int .u8 ((c:Int)%256)] 5);have G:Hid (hd2 r.length++(be4 c).take (3+1)=(hd2 r.length++(be4 c).take 3)++[(be4 c)[3]'(by simp[be4])]):=by
    show _=_;rw[O5 (by simp[be4]),PH]
   generalize (be4 c)[3]'(by simp[be4])=x at A G;go_wp2_with (at_builtin;refine eF _ rfl _ _ rfl w.heap.size u3 (hd2 r.length++(be4 c).take 3) [x] rfl K _ _ rfl A (by simp) (by simp[hd2,be4]) (by simp;omega) ?_;intro v5 J z I)
   rw[←G.out] at z;have L:Below w.heap.size w J:=(M.alloc N _).grown I (by simp;omega) (fun k h=>(OF E k h).1);go_roundw
   case rel=>exact⟨3+1,by omega,rfl,z,L⟩
   case measure=>simp[intOf]
  ·have e4:(be4 c).take 4=be4 c:=rfl;rw[e4] at E;clear e4;go_wp2_with (at_builtin;refine eF _ rfl _ _ rfl w.heap.size u3 (hd2 r.length++be4 c) r rfl E _ _ rfl (hr.below M) (by omega) (by simp[hd2,be4];omega) N ?_;intro v5 J z I)
   go_ret;exact⟨_,rfl,by rw[HF.out];exact z,M.grown I N (fun k h=>(OF E k h).1)⟩
theorem yi(a z:OA)(cap A:Nat)(l m:LN)(w:World)(L:l.length≤1048576)(M:m.length≤1048576)(N:dW w a l)(K:dW w z m)(I:∀x∈l,x<256)(E:∀x∈m,x<256):
  Calls prog 169 #[.slice a l.length cap,.slice z m.length A] w fun e w'=>e= .returned (.int .u32 ((mt (l++m):Nat):Int))∧w'=w:=by
 have G:fk 4294967295 l<4294967296:=jL _ I _ (by decide);have J:fk (fk 4294967295 l) m<4294967296:=jL _ E _ G;go_enter func169,ntmps169;go_wp2_with fail;refine(rA 4294967295 a cap l w (by decide) L N I).mono ?_;rintro e w' ⟨rfl,rfl⟩;go_wp2_with fail;refine(rA (fk 4294967295 l) z A m w' G M K E).mono ?_;rintro e w' ⟨rfl,rfl⟩;go_wp2;go_ret;exact⟨sR (by rw[JJ _ J,KX];rfl),rfl⟩
section
open Go.Sort Go.Lib
def jd(u:Nat):BA:=⟨(Lib.decDigits u).toArray⟩
def yc(m:Nat)(t:List UInt8):List UInt8:=if m=0 then t else Lib.decDigits m++t
theorem FD(m:Nat)(t:List UInt8)(h:0<m):yc (m/10) (UInt8.ofNat (48+m%10)::t)=yc m t:=by
 by_cases z:m<10
 ·have A:m/10=0:=(by omega);have E:m%10=m:=(by omega);unfold yc;rw[A,E,OS rfl,OR (by omega),Lib.decDigits_one z];rfl
 ·unfold yc;rw[OR (by omega),OR (by omega)]
  conv=>rhs;rw[Lib.decDigits,dif_neg z]
  simp
theorem Gx(u:Nat)(h:u<18446744073709551616):Lib.nDigits u≤20:=by
 by_cases z:1≤u
 ·have:=Lib.numDigits_eq u z h;split at this<;>omega
 ·rw[Lib.nDigits_small (by omega)];omega
theorem Ic(m:Nat)(t:List UInt8):t.length≤(yc m t).length:=by
 unfold yc;split
 ·exact OV _
 ·simp
theorem se{w w':World}{z:String}{k:IntKind}{E:List Int}(h:TabIs prog w z k E)(I:Below w.heap.size w w'):TabIs prog w' z k E:=by
 unfold TabIs World.var? at*;cases hg:prog.globalNamed z with
 |none=>simp[hg] at h
 |some g=>
  simp only[hg,Option.bind_some] at h⊢;have G:g<w.heap.size:=by
   rcases PV g w.heap.size with A|A
   ·exact A
   ·rw[Array.getElem?_eq_none A] at h;simp at h
  rw[I.block g G];exact h
theorem rx(w:World)(k:Nat)(os:Array Obj):Below w.heap.size w (grow (w.drewN k) os):=by
 refine⟨rfl,rfl,rfl,?_,fun j z=> ?_⟩
 ·show w.heap.size≤(w.heap++os).size;simp
 ·show(w.heap++os)[j]? =w.heap[j]?;rw[Array.getElem?_append_left z]
theorem Kg(x:Nat):fw [x]=⟨[UInt8.ofNat x].toArray⟩:=rfl
theorem FC:jd 0=⟨#[48]⟩:=by unfold jd;rw[Lib.decDigits_one (by omega)];rfl
theorem ow(n:Nat)(w:World)(U:n<9223372036854775808):
  Calls prog 50 #[.int .i64 (n:Int)] w fun e w'=>e= .returned (.string (jd n))∧Below w.heap.size w w':=by
 by_cases K:n=0
 ·subst K;go_enter func50,ntmps50;go_wp2;go_ret;exact⟨by rw[FC];rfl,OX _ _⟩
 ·have V:¬(n:Int)=0:=(by omega);go_enter func50,ntmps50;go_wp2;go_loopw [0,3] (fun v s wr=>∃(m:Nat) (t:List UInt8),v=iI m∧s= .string ⟨t.toArray⟩∧m≤n∧Hid (yc m t=Lib.decDigits n)∧Below w.heap.size w wr) (fun v _ _=>(RowKit.intOf v).toNat)
  case atStart=>exact⟨n,[],rfl,rfl,OV _,by show _=_;unfold yc;rw[OR K,Pm],OX _ _⟩
  case round=>
   obtain⟨m,t,rfl,rfl,R,z,L⟩:=hrel;have A:=a8 L;have O:t.length≤20:=by
    have E:=Ic m t;rw[z.out,Lib.decDigits_length] at E;have Q:=Gx n (by omega);omega
   clear L;by_cases E:0<m
   ·have J:=a8 ((FD m t E).trans z);have hi:(0:Int)<(m:Int):=(by omega);clear z;have I:(convert 52 9 (sS wr.heap.size 1 1)).run prog (wr.alloc (.cells #[.int .u8 (48+(m:Int)%10)] 5))= .ok (.string ⟨[UInt8.ofNat (48+m%10)].toArray⟩) (wr.alloc (.cells #[.int .u8 (48+(m:Int)%10)] 5)):=by
     have h:=fY _ _ 1 [48+m%10] (yZ wr (48+m%10));rw[Kg] at h;have e:(((48+m%10:Nat)):Int)=48+(m:Int)%10:=(by omega);rw[e] at h;exact h
    have M:=a8 (A.alloc A.size (.cells #[.int .u8 (48+(m:Int)%10)] 5));have G:(Op.stringOp .add ⟨[UInt8.ofNat (48+m%10)].toArray⟩ ⟨t.toArray⟩).run prog (wr.alloc (.cells #[.int .u8 (48+(m:Int)%10)] 5))= .ok (.string ⟨(UInt8.ofNat (48+m%10)::t).toArray⟩) (wr.alloc (.cells #[.int .u8 (48+(m:Int)%10)] 5)):=
     run_string_add_lists _ [UInt8.ofNat (48+m%10)] t (by simp) (by omega)
    generalize UInt8.ofNat (48+m%10)=x at J I G;generalize [x].toArray=xs at I G;go_wp2;go_roundw
    case rel=>exact⟨m/10,x::t,by congr 1,rfl,by omega,J,M.out⟩
    case measure=>simp[RowKit.intOf];omega
   ·have hi:¬(0:Int)<(m:Int):=(by omega);have N:m=0:=(by omega);subst N;go_wp2;go_ret;refine⟨?_,A⟩;have h:=z.out;unfold yc at h;rw[OS rfl] at h;unfold jd;rw[←h];rfl
end
theorem Jx(k m:Nat)(h:m<10^(k+1)):Lib.nDigits m≤k+1:=by
 induction k generalizing m with
 |zero=>rw[Lib.nDigits_small (by simpa using h)];omega
 |succ k ih=>
  by_cases z:m<10
  ·rw[Lib.nDigits_small z];omega
  ·rw[Lib.nDigits_big z];have:=ih (m/10) (by rw[Nat.pow_succ] at h;omega);omega
theorem Fh(l:List UInt8)(h:∀c∈l,ki c)(z k:Nat)(A:z<10^k):hZ z l<10^(k+l.length):=by
 induction l generalizing z k with
 |nil=>simpa[hZ] using A
 |cons c r ih=>
  have E:=h c (PB ..);have:=ih (fun x G=>h x (O8 _ G)) (z*10+(c.toNat-48)) (k+1) (by
   rw[Nat.pow_succ];have:=E.2;omega)
  show hZ (z*10+(c.toNat-48)) r<_;rw[Pf,show k+(r.length+1)=k+1+r.length from by omega];exact this
def wy(t:List UInt8)(n:Nat)(ok:Bool):Prop:=(ok=true∧t=Lib.decDigits n∧n<10000000000000)∨(ok=false∧∀m,m<10000000000000→t≠Lib.decDigits m)
theorem EX{t:List UInt8}(h:t.length<1∨13<t.length):wy t 0 false:=Or.inr ⟨rfl,fun m A e=>by
 have z:=Lib.decDigits_length m;have E:=Lib.nDigits_pos m;have G:=Jx 12 m (by simpa using A);rw[←e] at z;omega⟩
theorem LB{t:List UInt8}{c:UInt8}(z:c∈t)(h:¬ki c):wy t 0 false:=Or.inr ⟨rfl,fun m _ e=>h (pe m c (e▸z))⟩
theorem Em{t:List UInt8}(h:i<t.length):hZ 0 (t.take (i+1))=hZ 0 (t.take i)*10+(t[i].toNat-48):=by
 rw[O5 h,ri]
def KK(s:BA)(w:World)(e:Ending)(w':World):Prop:=∃(n:Nat) (ok:Bool),e= .returned (.tuple #[.int .i64 (n:Int),.bool ok])∧wy s.data.toList n ok∧Below w.heap.size w w'
theorem mR(s:BA)(w:World)(hs:s.size≤1048576):
  Calls prog 80 #[.string s] w (KK s w):=by
 have al:s.data.toList.length=s.size:=rfl;by_cases h1:s.size<1
 ·have hi:(s.size:Int)<1:=(by omega);go_enter func80,ntmps80;go_wp2;go_ret2;exact⟨0,false,rfl,EX (by omega),OX _ _⟩
 ·have hi:¬(s.size:Int)<1:=(by omega);by_cases h2:13<s.size
  ·have ad:(13:Int)<(s.size:Int):=(by omega);go_enter func80,ntmps80;go_wp2;go_ret2;exact⟨0,false,rfl,EX (by omega),OX _ _⟩
  ·have ad:¬(13:Int)<(s.size:Int):=(by omega);go_enter func80,ntmps80;go_wp2;go_loopw [4,5] (fun v i wr=>∃k:Nat,k≤s.size∧i=iI k∧v= .int .i64 ((hZ 0 (s.data.toList.take k):Nat):Int)∧Hid (∀c∈s.data.toList.take k,ki c)∧∃n,wr=w.drewN n) (fun _ i _=>s.size-(RowKit.intOf i).toNat)
   case atStart=>exact⟨0,O4 _,rfl,rfl,by show∀c∈_,_;simp,0,rfl⟩
   case round=>
    obtain⟨i,aj,rfl,rfl,K,n,rfl⟩:=hrel;by_cases ak:i<s.size
    ·have O:i<s.data.toList.length:=(by omega);have I:=Fh _ K 0 0 (by decide);have G:(10:Nat)^(0+(s.data.toList.take i).length)≤10^12:=Nat.pow_le_pow_right (by omega) (by rw[Pa];omega);have U:=a8 (Em O);have J:s.data.toList[i]=s[i]:=rfl;have Y:hZ 0 (s.data.toList.take i)<1000000000000:=Pb I (by simpa using G);clear I G;generalize hZ 0 (s.data.toList.take i)=v at U Y⊢;by_cases N:ki s[i]
     ·obtain⟨ac,hd2⟩:=N;have e1:¬(s[i].toNat:Int)<48:=(by omega);have e2:¬(57:Int)<(s[i].toNat:Int):=(by omega);obtain⟨d,ai⟩:∃d,s[i].toNat=48+d:=⟨s[i].toNat-48,by omega⟩
      have ag:(48:Int)≤(s[i].toNat:Int):=(by omega);go_wp2;go_roundw
      case rel=>
       refine⟨i+1,by omega,by go_num,?_,?_,n,rfl⟩
       ·rw[U.out,J];congr 1;omega
       ·show∀c∈s.data.toList.take (i+1),ki c;rw[O5 O];intro c E;rcases Pj.1 E with E|E
        ·exact K.out c E
        ·rw[Ph] at E;rw[E,J];exact⟨ac,hd2⟩
      case measure=>simp[RowKit.intOf];omega
     ·have A:=a8 (LB (t:=s.data.toList) (c:=s[i]) (by rw[←J];exact O6 O) N);by_cases e1:s[i].toNat<48
      ·have Z:(s[i].toNat:Int)<48:=(by omega);go_wp2;go_ret2;exact⟨0,false,rfl,A.out,OI (OX _ _) n⟩
      ·have e2:57<s[i].toNat:=(by unfold ki at N;omega);have Z:¬(s[i].toNat:Int)<48:=(by omega);have ah:(57:Int)<(s[i].toNat:Int):=(by omega);go_wp2;go_ret2;exact⟨0,false,rfl,A.out,OI (OX _ _) n⟩
    ·have ae:i=s.size:=(by omega);subst ae;have M:=K.out;rw[Pc (Nat.le_of_eq (kW s))] at M⊢;have I:=Fh _ M 0 0 (by decide);have G:(10:Nat)^(0+s.data.toList.length)≤10^13:=Nat.pow_le_pow_right (by omega) (by omega);have Q:hZ 0 s.data.toList<10000000000000:=Pb I (by simpa using G);have D:=a8 (fun w=>ow (hZ 0 s.data.toList) w (by omega));have R:((jd (hZ 0 s.data.toList)).toList==s.toList)=decide (Lib.decDigits (hZ 0 s.data.toList)=s.data.toList):=by
      rw[OC,OC];show(Lib.decDigits (hZ 0 s.data.toList)==s.data.toList)=_;by_cases h:Lib.decDigits (hZ 0 s.data.toList)=s.data.toList
      ·rw[ON h,h];simp
      ·rw[OM h];exact beq_eq_false_iff_ne.2 h
     have A:∀m,s.data.toList=Lib.decDigits m→Lib.decDigits (hZ 0 s.data.toList)=s.data.toList:=fun m e=>(by rw[e,oq]);have L:=a8 (And.intro R A);clear I G R A M;generalize jd (hZ 0 s.data.toList)=z at D L;generalize af:hZ 0 s.data.toList=v at D L Q⊢;clear af;go_wp2_with fail;refine(D.out _).mono ?_;rintro e w1 ⟨rfl,aa⟩;go_wp2;go_ret2;have ab:Below w.heap.size w w1:=(OI (OX _ _) n).trans (aa.mono (OV _));obtain⟨V,A⟩:=L.out;refine⟨v,z.toList==s.toList,rfl,?_,ab⟩;by_cases h:Lib.decDigits v=s.data.toList
     ·rw[V,ON h];exact Or.inl ⟨rfl,h.symm,Q⟩
     ·rw[V,OM h];exact Or.inr ⟨rfl,fun m _ e=>h (A m e)⟩
def ni(t:List UInt8)(lo hi:Nat)(n:Nat)(ok:Bool):Prop:=(ok=true∧t=Lib.decDigits n∧lo≤n∧n≤hi)∨(ok=false∧∀m,lo≤m→m≤hi→t≠Lib.decDigits m)
def Hl(s:BA)(lo hi:Nat)(w:World)(e:Ending)(w':World):Prop:=∃(n:Nat) (ok:Bool),e= .returned (.tuple #[.int .i64 (n:Int),.bool ok])∧ni s.data.toList lo hi n ok∧Below w.heap.size w w'
theorem fS(s:BA)(lo hi:Nat)(w:World)(O:s.size≤1048576)(Q:hi<10000000000000):
  Calls prog 99 #[.string s,.int .i64 (lo:Int),.int .i64 (hi:Int)] w (Hl s lo hi w):=by
 go_enter func99,ntmps99;go_wp2_with fail;refine(mR s w O).mono ?_;rintro e R ⟨n,ok,rfl,E,J⟩;have A:=a8 J;clear J;cases ok with
 |false=>
  have z:=a8 (show∀m,lo≤m→m≤hi→s.data.toList≠Lib.decDigits m from fun m _ I=>by
   rcases E with⟨h,_⟩|⟨_,h⟩
   ·cases h
   ·exact h m (by omega))
  clear E;go_wp2;go_ret2;exact⟨n,false,rfl,Or.inr ⟨rfl,z⟩,A⟩
 |true=>
  have G:s.data.toList=Lib.decDigits n:=by
   rcases E with⟨_,h,_⟩|⟨h,_⟩
   ·exact h
   ·cases h
  have z:=a8 G;clear E G;by_cases M:lo≤n
  ·have K:(lo:Int)≤(n:Int):=(by omega);by_cases I:n≤hi
   ·have L:(n:Int)≤(hi:Int):=(by omega);go_wp2;go_ret2;exact⟨n,true,rfl,Or.inl ⟨rfl,z,M,I⟩,A⟩
   ·have L:¬(n:Int)≤(hi:Int):=(by omega);go_wp2;go_ret2;refine⟨n,false,rfl,Or.inr ⟨rfl,fun m _ N e=> ?_⟩,A⟩;have:=pF (z.symm.trans e);omega
  ·have K:¬(lo:Int)≤(n:Int):=(by omega);go_wp2;go_ret2;refine⟨n,false,rfl,Or.inr ⟨rfl,fun m N _ e=> ?_⟩,A⟩;have:=pF (z.symm.trans e);omega
theorem xL{w w':World}{z:String}{cs:Array Value}(h:w.var? prog z=some cs)(G:Below w.heap.size w w'):w'.var? prog z=some cs:=by
 unfold World.var? at*;cases hg:prog.globalNamed z with
 |none=>simp[hg] at h
 |some g=>
  simp only[hg,Option.bind_some] at h⊢;have E:g<w.heap.size:=by
   rcases PV g w.heap.size with A|A
   ·exact A
   ·rw[Array.getElem?_eq_none A] at h;simp at h
  rw[G.block g E];exact h
structure Env(w:World):Prop where
 max:∃m,w.cell? ⟨5,0,none⟩=some (.int .i64 m)
 syn:∃tp p,w.var? prog "strconv.ErrSyntax" =some #[.iface tp p]
 rng:∃tp p,w.var? prog "strconv.ErrRange" =some #[.iface tp p]
theorem Env.below(h:Env w)(z:Below w.heap.size w w'):Env w':=by
 obtain⟨⟨m,A⟩,⟨K,I,E⟩,⟨L,J,G⟩⟩:=h;exact⟨⟨m,(z.cell (p:=⟨5,0,none⟩) (dG A)).trans A⟩,⟨K,I,xL E z⟩,⟨L,J,xL G z⟩⟩
theorem Id{m:Nat}(h:(Lib.decDigits m).head? =some 48):m=0:=by
 induction m using Nat.strongRecOn with
 |_ m ih=>
  by_cases z:m<10
  ·rw[Lib.decDigits_one z] at h;simp only[List.head?_cons,OY] at h;have:=tA m z;rw[h] at this;have E:(48:UInt8).toNat=48:=rfl;omega
  ·rw[Lib.decDigits,dif_neg z] at h;have A:(Lib.decDigits (m/10)).head? =some 48:=by
    cases e:Lib.decDigits (m/10) with
    |nil=>exact OH e (Ie _)
    |cons x r=>rw[e] at h;simpa using h
   have:=ih (m/10) (by omega) A;omega
def vq(t:List UInt8)(lo hi n:Nat)(ok:Bool):Prop:=(ok=true∧t=Lib.decDigits n∧lo≤n∧n≤hi)∨(ok=false∧n=0∧∀m,lo≤m→m≤hi→t≠Lib.decDigits m)
def MI(s:BA)(lo hi:Nat)(w:World)(e:Ending)(w':World):Prop:=∃(n:Nat) (ok:Bool),e= .returned (.tuple #[.int .u64 (n:Int),.bool ok])∧vq s.data.toList lo hi n ok∧Below w.heap.size w w'
theorem JP{t:List UInt8}(z:hi<18446744073709551616)(h:∀m,Lib.parseUintB 64 t≠.ok m):vq t lo hi 0 false:=Or.inr ⟨rfl,rfl,fun m _ A e=>h m (by rw[e];exact xz m (by omega))⟩
theorem DZ{t:List UInt8}(E:hi<18446744073709551616)(h:Lib.parseUintB 64 t= .ok n)(z:n<lo∨hi<n∨(t.head? =some 48∧t≠[48])):vq t lo hi 0 false:=Or.inr ⟨rfl,rfl,fun m G I e=>by
 rw[e,xz m (by omega)] at h;injection h with h;rcases z with z|z|⟨z,A⟩
 ·omega
 ·omega
 ·have:=Id (e▸z);rw[this,Lib.decDigits_one (by omega)] at e;exact A e⟩
theorem Bs{t:List UInt8}(h:Lib.parseUintB 64 t= .ok n):t≠[]:=by
 rintro rfl;unfold Lib.parseUintB at h;rw[OS rfl] at h;cases h
theorem Mu{t:List UInt8}(h:Lib.parseUintB 64 t= .ok n)(A:lo≤n)(E:n≤hi)(G:t.head? =some 48→t=[48]):vq t lo hi n true:=by
 have z:=Bs h;unfold Lib.parseUintB at h;rw[OR z] at h;obtain⟨I,J⟩:=Bt t 0 n h;exact Or.inl ⟨rfl,by rw[J];exact(Aa t.length t (OV _) I z G).symm,A,E⟩
theorem kA(s:BA)(lo hi:Nat)(w:World)(K:Env w)(hs:s.size≤1048576)(E:hi<18446744073709551616):
  Calls prog 175 #[.string s,.int .u64 (lo:Int),.int .u64 (hi:Int)] w (MI s lo hi w):=by
 go_enter func175,ntmps175;go_wp2_with fail;cases hpar:Lib.parseUintB 64 s.data.toList with
 |«syntax»=>
  obtain⟨M,p,L⟩:=K.syn;refine(strconv_ParseUint_10_at64_syntax_var s (by omega) hpar M p w L).mono ?_;rintro e O ⟨N,rfl,_,_,A⟩;have z:=a8 (JP (lo:=lo) E (t:=s.data.toList) (fun m h=>by rw[hpar] at h;cases h));go_wp2;go_ret2;exact⟨0,false,rfl,z,A⟩
 |range=>
  obtain⟨M,p,L⟩:=K.rng;refine(strconv_ParseUint_10_at64_range_var s (by omega) hpar M p w L).mono ?_;rintro e O ⟨N,rfl,_,_,A⟩;have z:=a8 (JP (lo:=lo) E (t:=s.data.toList) (fun m h=>by rw[hpar] at h;cases h));go_wp2;go_ret2;exact⟨0,false,rfl,z,A⟩
 |ok n=>
  refine(strconv_ParseUint_10_at64_ok s (by omega) n hpar w).mono ?_;rintro e O ⟨rfl,R⟩;have A:Below w.heap.size w O:=by
   rcases R with rfl|rfl
   ·exact OX _ _
   ·exact Lib.bytesWorld_below w 5 s
  have G:=a8 hpar;have h0:0<s.size:=by
   rcases Nat.eq_zero_or_pos s.size with h|h
   ·exact OH (PF h) (Bs hpar)
   ·exact h
  clear R hpar K;by_cases h1:n<lo
  ·have U:(n:Int)<(lo:Int):=(by omega);have z:=a8 (DZ (lo:=lo) E G (Or.inl h1));go_wp2;go_ret2;exact⟨0,false,rfl,z,A⟩
  ·have U:¬(n:Int)<(lo:Int):=(by omega);by_cases h2:hi<n
   ·have V:(hi:Int)<(n:Int):=(by omega);have z:=a8 (DZ (lo:=lo) E G (Or.inr (Or.inl h2)));go_wp2;go_ret2;exact⟨0,false,rfl,z,A⟩
   ·have V:¬(hi:Int)<(n:Int):=(by omega);have Q:s.data.toList.head? =some s[0]:=by
     rw[List.head?_eq_getElem?,OZ (h:=h0)];rfl
    by_cases I:s[0]=48
    ·have Y:((s[0].toNat:Int)==48)=true:=(by rw[I];rfl);by_cases J:s.data.toList=[48]
     ·have Z:(s.toList==[48])=true:=(by rw[OC,J];rfl);have z:=a8 (Mu G (by omega:lo≤n) (by omega:n≤hi) (fun _=>J));go_wp2;go_ret2;exact⟨n,true,rfl,z,A⟩
     ·have Z:(s.toList==[48])=false:=(by rw[OC];exact beq_eq_false_iff_ne.2 J);have z:=a8 (DZ (lo:=lo) E G (Or.inr (Or.inr ⟨by rw[Q,I],J⟩)));go_wp2;go_ret2;exact⟨0,false,rfl,z,A⟩
    ·have Y:((s[0].toNat:Int)==48)=false:=by
      have:s[0].toNat≠(48:UInt8).toNat:=fun e=>I (UInt8.toNat_inj.1 e);have aa:(48:UInt8).toNat=48:=rfl;simp;omega
     have z:=a8 (Mu G (by omega:lo≤n) (by omega:n≤hi) (fun e=>OH (PJ (Q.symm.trans e)) I));go_wp2;go_ret2;exact⟨n,true,rfl,z,A⟩
section
open Go.Sort Go.Lib
theorem Aw(w:World)(T:TypeId)(nd:Nat)(E:nd≤24):Holds (fun(b:UInt8)=>Value.int .u8 (b.toNat:Int)) (w.alloc (.cells Lib.zeros24 T)) w.heap.size 0 (Array.replicate nd (0:UInt8)):=fun j z=>by
 have A:j<nd:=(by simpa using z);refine⟨?_,World.frozen?_alloc_new _ _ _ _⟩;rw[World.cell?_alloc_new,Lib.zeros24_at _ (by omega),getElem!_pos _ j z];simp
theorem Oj(w:World)(o:Obj)(z:Array UInt8)(k:Nat):Below w.heap.size w ((putRow (fun(b:UInt8)=>Value.int .u8 (b.toNat:Int)) (w.alloc o) w.heap.size 0 z).drewN k):=by
 rw[alloc_eq_grow];obtain⟨A,_,e⟩:=putRow_grow_new (fun(b:UInt8)=>Value.int .u8 (b.toNat:Int)) w #[o] w.heap.size 0 z (OV _);rw[e];exact rx w k A
theorem tK(u:Nat)(w:World)(I:u<18446744073709551616)(L:TabIs prog w "internal/strconv.uint64pow10" .u64 Lib.pow10Tab):
  Calls prog 123 #[.int .u64 (u:Int),.int .i64 10] w fun e w'=>e= .returned (.string (jd u))∧Below w.heap.size w w':=by
 by_cases N:u<100
 ·have hi:(u:Int)<100:=(by omega);go_enter func123,ntmps123;go_wp2_with fail;refine(internal_strconv_small u N _).mono ?_;rintro e O ⟨rfl,rfl⟩;go_wp2;go_ret;exact⟨rfl,OX _ _⟩
 ·have hi:¬(u:Int)<100:=(by omega);have U:=Gx u I;have Q:Lib.nDigits u≤24:=(by omega);have K:prog.arrayLen 253=24:=(by simp[Program.arrayLen,underlying253]);have V:∀W,(Instr.sliceAt 253 (pP w.heap.size) none (some (.int .i64 (Lib.nDigits u:Int))) none).run prog W= .ok (sS w.heap.size (Lib.nDigits u) 24) W:=fun W=>by
   rw[run_sliceAt_array_h W 253 ⟨w.heap.size,0,none⟩ (by simp[Program.arrayLen,Program.elem,underlying253]) .i64 (Lib.nDigits u:Int) (by omega) (by rw[K];omega)];go_simp
  have A:=Aw w 253 (Lib.nDigits u) (by omega);have J:=internal_strconv_formatBase10 w.heap.size 0 24 u (Array.replicate (Lib.nDigits u) 0) (w.alloc (.cells Lib.zeros24 253)) A (by rw[Array.size_replicate];exact Lib.lt_pow_nDigits u) I (by rw[Array.size_replicate];omega);rw[Array.size_replicate] at J;have M:=a8 A;clear A K;go_enter func123,ntmps123;go_wp2_with fail;refine(internal_strconv_numDigits u (by omega) I _ (Lib.tabIs_alloc L _)).mono ?_;rintro e O ⟨rfl,rfl⟩;go_wp2_with fail;refine J.mono ?_;rintro e Z ⟨rfl,k,Y,z,rfl,E⟩;have R:(convert 52 9 (sS w.heap.size (Lib.nDigits u) 24)).run prog ((putRow (fun(b:UInt8)=>Value.int .u8 (b.toNat:Int)) (w.alloc (.cells Lib.zeros24 253)) w.heap.size 0 z).drewN k)= .ok (.string ⟨(Lib.decDigits u).toArray⟩) ((putRow (fun(b:UInt8)=>Value.int .u8 (b.toNat:Int)) (w.alloc (.cells Lib.zeros24 253)) w.heap.size 0 z).drewN k):=by
   have h:=run_convert_bytes_back (P:=prog) ((putRow (fun(b:UInt8)=>Value.int .u8 (b.toNat:Int)) (w.alloc (.cells Lib.zeros24 253)) w.heap.size 0 z).drewN k) 52 9 5 ⟨w.heap.size,0,none⟩ 24 (Lib.decDigits u) underlying52 underlying5 underlying9 (fun j G=>by
    rw[Lib.row_is_numeral E j G,Lib.add_plain,World.cell?_drewN];exact cell?_putRow (fun(b:UInt8)=>Value.int .u8 (b.toNat:Int)) _ w.heap.size 0 _ z M (by rw[E.size,Array.size_replicate]) j (by rw[E.size];rw[Lib.decDigits_length] at G;exact G))
   rw[Lib.decDigits_length] at h;exact h
  go_wp2;go_ret;exact⟨rfl,Oj w _ z k⟩
theorem lY(u:Nat)(w:World)(E:u<18446744073709551616)(z:TabIs prog w "internal/strconv.uint64pow10" .u64 Lib.pow10Tab):
  Calls prog 91 #[.int .u64 (u:Int),.int .i64 10] w fun e w'=>e= .returned (.string (jd u))∧Below w.heap.size w w':=by
 go_enter func91,ntmps91;go_wp2_with fail;refine(tK u w E z).mono ?_;rintro e G ⟨rfl,A⟩;go_wp2;go_ret;exact⟨rfl,A⟩
end
section
open Go.Sort Go.Lib
theorem rh(u:Nat)(w:World)(E:u<9223372036854775808)(z:TabIs prog w "internal/strconv.uint64pow10" .u64 Lib.pow10Tab):
  Calls prog 92 #[.int .i64 (u:Int),.int .i64 10] w fun e w'=>e= .returned (.string (jd u))∧Below w.heap.size w w':=by
 go_enter func92,ntmps92;go_wp2_with fail;refine(internal_strconv_FormatInt_10 (u:Int) (by omega) (by omega) w z).mono ?_;rintro e G ⟨rfl,k,os,rfl⟩;have A:(⟨(Lib.itoa (u:Int)).toArray⟩:BA)=jd u:=(by rw[Lib.itoa_nonneg];rfl);rw[A];go_wp2;go_ret;exact⟨rfl,rx w k os⟩
end
end Go.Proofs.YtkkdfgnnlpohlaaGreatDoor
