import Derived.Test.YtkkdfgnnlpohlaaGreatDoorPka
import Derived.Laws.BytesArg
import Derived.Deep.WholeRow
namespace Go.Proofs.YtkkdfgnnlpohlaaGreatDoor
set_option maxRecDepth 20000
set_option linter.unusedVariables false
set_option linter.unusedSimpArgs false
set_option maxHeartbeats 4000000
open Go.RowKit Go.Proofs.Tryz
variable {W X Y w w' w0 wr : World} {A B at_ b b2 base' c cap e f g go gs hi i j k lo m n s u val z : Nat} {E G I J K L M N O u0 u1 u2 v0 v1 v2 v3 v4 v5 v6 x y : Value} {o : Oper} {Q : Exit → Act → World → Prop} {cs tmps : Array Value} {t : TypeId} {p : Addr} {l : List Nat} {bvs xs : List Value} {a : List UInt8} {first ok : Bool}
def fw(l:LN):BA:=⟨(l.map UInt8.ofNat).toArray⟩
theorem uk(l:LN)(h:∀x∈l,x<256):(l.map UInt8.ofNat).map UInt8.toNat=l:=by
 rw[PP]
 conv=>rhs;rw[←List.map_id l]
 apply List.map_congr_left;intro x z;have:=h x z;simp;omega
theorem fY(w:World)(a:OA)(cap:Nat)(l:LN)(G:dW w a l):
  (convert 52 9 (.slice a l.length cap)).run prog w= .ok (.string (fw l)) w:=by
 by_cases A:l.length=0
 ·obtain rfl:l=[]:=PF A;rw[run_convert_bytes_string w _ _ 5 a _ cap underlying52 underlying5 underlying9];cases a<;>simp[Conv.bytesToString,loadCells]<;>rfl
 ·obtain⟨b,z,rfl,E⟩:=G (by omega);have h:=run_convert_bytes_arg w 52 5 underlying52 underlying5 b z l.length cap (l.map fun n:Nat=>(n:Int)) (by simp) (fun i hi=>by rw[E i hi];simp[hi]) 9 underlying9;rw[h];unfold strOfNums fw;rw[PP];rfl
theorem oF(l:LN):(fw l).toList=l.map UInt8.ofNat:=by rw[OC];rfl
theorem qj{l m:LN}(z:∀x∈l,x<256)(A:∀x∈m,x<256):((fw l).toList==(fw m).toList)=decide (l=m):=by
 rw[oF,oF];by_cases h:l=m
 ·subst h;simp
 ·rw[OM h];exact beq_eq_false_iff_ne.2 fun e=>h (by rw[←uk l z,←uk m A,e])
theorem dW.take{a:OA}{l:LN}(h:dW w a l)(n:Nat):dW w a (l.take n):=fun G=>by
 have E:(l.take n).length≤l.length:=(by simp;omega);obtain⟨b,z,rfl,A⟩:=h (by omega);exact⟨b,z,rfl,fun i hi=>by rw[A i (by omega)];simp⟩
theorem wM(a z:OA)(cap E:Nat)(l m:LN)(w:World)(M:dW w a l)(G:dW w z m)(K:∀x∈l,x<256)(L:∀x∈m,x<256):
  Calls prog 221 #[.slice a l.length cap,.slice z m.length E] w fun e w'=>e= .returned (.bool (decide (l=m)))∧w'=w:=by
 have I:=fY w a cap l M;have J:=fY w z E m G;have A:=a8 (qj K L);clear M G K L;generalize l.length=N at I⊢;generalize m.length=nm at J⊢;generalize fw l=O at I A⊢;generalize fw m=Q at J A⊢;go_enter func221,ntmps221;go_wp2;go_ret;exact⟨eN A.out,rfl⟩
theorem vC(a A:OA)(cap J:Nat)(l m:LN)(w:World)(Q:l.length≤cap)(I:dW w a l)(z:dW w A m)(E:∀x∈l,x<256)(G:∀x∈m,x<256):
  Calls prog 220 #[.slice a l.length cap,.slice A m.length J] w fun e w'=>e= .returned (.bool (decide (l.take m.length=m)))∧w'=w:=by
 by_cases R:m.length≤l.length
 ·have L:(l.take m.length).length=m.length:=(by simp;omega);have hi:(m.length:Int)≤(cap:Int):=(by omega);have M:(m.length:Int)≤(l.length:Int):=(by omega);have K:=a8 (wM a A cap J (l.take m.length) m w (I.take _) z (fun x O=>E x (Pi O)) G);rw[L] at K;clear I z E G L;go_enter func220,ntmps220;go_wp2_with fail;refine(K.out).mono ?_;rintro e w' ⟨rfl,rfl⟩;go_wp2;go_ret;exact⟨rfl,rfl⟩
 ·have N:decide (l.take m.length=m)=false:=OM fun e=>by
   have:=OL List.length e;simp at this;omega
  rw[N];have M:¬(m.length:Int)≤(l.length:Int):=(by omega);clear I z E G;go_enter func220,ntmps220;go_wp2;go_ret;exact⟨rfl,rfl⟩
theorem nL(a z:OA)(cap A n E:Nat)(l m:LN)(w:World)(M:l.length=n)(I:m.length=E)(G:n≤cap)(N:dW w a l)(J:dW w z m)(K:∀x∈l,x<256)(L:∀x∈m,x<256):
  Calls prog 220 #[.slice a n cap,.slice z E A] w fun e w'=>e= .returned (.bool (decide (l.take m.length=m)))∧w'=w:=by
 subst M I;exact vC a z cap A l m w G N J K L
theorem BZ(a:OA)(cap:Nat)(l:LN)(w:World)(Z:l.length≤1048576)(O:dW w a l)(J:∀x∈l,x<256):
  Calls prog 103 #[.slice a l.length cap] w fun e w'=>e= .returned (.int .u32 ((mt l:Nat):Int))∧w'=w:=by
 go_enter func103,ntmps103;go_wp2;go_loop [3,10] (fun c i=>∃k:Nat,k≤l.length∧i= .int .i64 k∧c= .int .u32 ((fk 4294967295 (l.take k):Nat):Int)) (fun _ i=>l.length-(intOf i).toNat)
 case atStart=>exact⟨0,O4 _,rfl,rfl⟩
 case round=>
  obtain⟨k,Y,rfl,rfl⟩:=hrel;by_cases E:k<l.length
  ·obtain⟨b,U,rfl,N⟩:=O (by omega);have Q:=N k E;clear N O;have I:l[k]<256:=J _ (O6 E);have A:fk 4294967295 (l.take k)<4294967296:=jL _ (fun x K=>J x (Pi K)) _ (by decide);have L:Hid (fk 4294967295 (l.take (k+1))=lN (fk 4294967295 (l.take k)) l[k]):=by
    show _=_;rw[O5 E,pE]
   generalize fk 4294967295 (l.take k)=z at A L⊢;go_wp2;go_loop [3,6] (fun c j=>∃m:Nat,m≤8∧j= .int .i64 m∧c= .int .u32 ((gP z l[k] m:Nat):Int)) (fun _ j=>8-(intOf j).toNat)
   case atStart=>exact⟨0,O4 _,rfl,rfl⟩
   case round=>
    obtain⟨m,hm,rfl,rfl⟩:=hrel;by_cases R:m<8
    ·have G:=zl z l[k] m A;have M:Hid (gP z l[k] (m+1)=kj (gP z l[k] m) l[k] m):=rfl;generalize gP z l[k] m=V at G M⊢;go_wp2
     all_goals
      go_round
      case rel=>exact⟨m+1,by omega,by go_num,fM (by rw[M.out];first|exact Kb G I ‹_›|exact GW G I ‹_›)⟩
      case measure=>simp[intOf];omega
    ·go_wp2;go_round
     case rel=>exact⟨k+1,by omega,by go_num,fM (by rw[L.out,←GV _ _ I,show m=8 from by omega])⟩
     case measure=>simp[intOf];omega
  ·have A:fk 4294967295 (l.take k)<4294967296:=jL _ (fun x K=>J x (Pi K)) _ (by decide);go_wp2;go_ret;exact⟨sR (by rw[JJ _ A,Pc (by omega)];rfl),rfl⟩
theorem rA(c:Nat)(a:OA)(cap:Nat)(l:LN)(w:World)(R:c<4294967296)(hl:l.length≤1048576)(Q:dW w a l)(N:∀x∈l,x<256):
  Calls prog 196 #[.int .u32 (c:Int),.slice a l.length cap] w fun e w'=>e= .returned (.int .u32 ((fk c l:Nat):Int))∧w'=w:=by
 go_enter func196,ntmps196;go_wp2;go_loop [0,10] (fun s i=>∃k:Nat,k≤l.length∧i= .int .i64 k∧s= .int .u32 ((fk c (l.take k):Nat):Int)) (fun _ i=>l.length-(intOf i).toNat)
 case atStart=>exact⟨0,O4 _,rfl,rfl⟩
 case round=>
  obtain⟨k,hk,rfl,rfl⟩:=hrel;by_cases E:k<l.length
  ·obtain⟨b,ab,rfl,O⟩:=Q (by omega);have Z:=O k E;clear O Q;have U:l[k]<256:=N _ (O6 E);have I:fk c (l.take k)<4294967296:=jL _ (fun x Y=>N x (Pi Y)) _ R;have L:Hid (fk c (l.take (k+1))=lN (fk c (l.take k)) l[k]):=by
    show _=_;rw[O5 E,pE]
   generalize fk c (l.take k)=z at I L⊢;have J:z^^^l[k]<4294967296:=Nat.xor_lt_two_pow (n:=32) (by omega) (by omega);have V:=KE z l[k] I U;have K:Hid (lN z l[k]=iN 8 (z^^^l[k])):=rfl;generalize z^^^l[k]=A at J V K;go_wp2;go_loop [0,18] (fun s j=>∃m:Nat,m≤8∧j= .int .i64 m∧s= .int .u32 ((iN m A:Nat):Int)) (fun _ j=>8-(intOf j).toNat)
   case atStart=>exact⟨0,O4 _,rfl,rfl⟩
   case round=>
    obtain⟨m,hm,rfl,rfl⟩:=hrel;by_cases aa:m<8
    ·have G:=rB m A J;have M:Hid (iN (m+1) A=kM (iN m A)):=rfl;generalize iN m A=c1 at G M⊢;go_wp2
     all_goals
      go_round
      case rel=>exact⟨m+1,by omega,by go_num,fM (by rw[M.out];first|exact Kf G ‹_›|exact G5 G ‹_›)⟩
      case measure=>simp[intOf];omega
    ·go_wp2;go_round
     case rel=>exact⟨k+1,by omega,by go_num,fM (by rw[L.out,K.out,show m=8 from by omega])⟩
     case measure=>simp[intOf];omega
  ·go_wp2;go_ret;exact⟨sR (by rw[Pc (by omega)]),rfl⟩
def fo:Nat→Nat
 |0=>68
 |1=>70
 |2=>82
 |3=>83
 |4=>84
 |i=>92+i
def ip:Nat→Nat
 |0=>4
 |1=>1
 |2=>0
 |3=>3
 |4=>2
 |i=>i
def yY(i:Nat):Value×Value:=(.int .i32 (fo i:Int),.int .u64 (ip i:Int))
def gW(k:Nat):List (Value×Value):=(List.range 31).map fun i=>if i<k then yY i else(.int .i32 0,.int .u64 0)
def kC(k:Nat):Array Value:=(two (gW k)).toArray
theorem sP:(prog.info? 225).map (fun i=>(i.zero,i.size))=some (some (.agg (kC 0)),62):=by kernel_rfl
theorem fL(k:Nat):(gW k).length=31:=by simp[gW]
theorem jZ(k:Nat):(kC k).size=62:=by simp[kC,nc,fL]
theorem Cc(k:Nat):(gW k).set k (yY k)=gW (k+1):=by
 apply List.ext_getElem
 ·simp[gW]
 ·intro i A E;rw[List.getElem_set];simp only[gW,Po,List.getElem_range];by_cases e:k=i
  ·subst e;simp
  ·rw[OR e];by_cases z:i<k
   ·rw[OS z,OS (by omega)]
   ·rw[OR z,OR (by omega)]
theorem Ko(k:Nat):((kC k).setIfInBounds (k*2) (.int .i32 (fo k:Int))).setIfInBounds (k*2+1) (.int .u64 (ip k:Int))=kC (k+1):=by
 unfold kC;rw[←Cc k,←show two ((gW k).set k (yY k))=_ from rfl];rw[show yY k=(Value.int .i32 (fo k:Int),Value.int .u64 (ip k:Int)) from rfl,←Fb];simp
theorem Kn(k:Nat):∀v∈(kC k),v.oneCell'=true:=by
 intro v z;simp only[kC,List.mem_toArray,two,List.mem_flatMap] at z;obtain⟨p,A,z⟩:=z;simp only[gW,Pg] at A;obtain⟨i,_,rfl⟩:=A;split at z<;>simp[yY] at z<;>rcases z with rfl|rfl<;>rfl
theorem vW(w:World):(Instr.alloc 225 true (.tuple #[])).run prog w= .ok (pP w.heap.size) (w.alloc (.cells (kC 0) 225)):=by
 have h:=(zero_of_info sP).1;simp[Instr.alloc,h,newVar,Value.cells];rfl
def gI(w:World)(g k:Nat):Prop:=w.heap[g]? =some (.cells (kC k) 225 (0,0))
theorem gI.cell(h:gI w g k)(j:Nat)(z:j<62):∃v,w.cell? ⟨g,j,none⟩=some v:=by
 rw[OK w g j _ _ _ h];exact⟨_,Array.getElem?_eq_getElem (by rw[jZ];exact z)⟩
theorem gI.frozen(h:gI w g k)(j:Nat):w.frozen? ⟨g,j,none⟩=false:=by
 unfold gI at h;simp[World.frozen?,h]
theorem gI.next(h:gI w g k):gI ((w.setCell ⟨g,k*2,none⟩ (.int .i32 (fo k:Int))).setCell ⟨g,k*2+1,none⟩ (.int .u64 (ip k:Int))) g (k+1):=by
 unfold gI;rw[setCell_eq_setRow w g (k*2) _ _ _ _ h,setCell_eq_setRow _ g (k*2+1) _ _ _ _ (setRow_heap w g _ _ _ _ h),setRow_setRow,setRow_heap w g _ _ _ _ h,Ko]
theorem j3{E:Array Oper}{z:List Oper}{A:Act}(w:World)(G:o.guard=none)(J:o.op= .alloc 225)
  (h:∀w',gI w' w.heap.size 0→Below w.heap.size w w'→wpList prog E Q z (A.put o.dst (pP w.heap.size)) w'):wpList prog E Q (o::z) A w:=by
 refine wpList_plain G fun K I=> ?_;unfold Oper.wp execOp;simp only[J,Sem.run_bind,vW,Result.andThen_ok];exact I _ _ (h _ (OP w _) ((OX _ _).alloc (OV _) _))
theorem rn{G:Array Oper}{E:List Oper}{A:Act}(w:World)(J:o.guard=none)(z:Array (Nat×Operand))(K:o.op= .build 225 z)
  (I:prog.built 225 (z.map fun(i,x)=>(i,A.eval x)).toList=some (kC 5))
  (h:wpList prog G Q E (A.put o.dst (.agg (kC 5))) w):wpList prog G Q (o::E) A w:=by
 refine wpList_build J _ z K (by rw[I];rfl) ?_;rw[I];exact h
theorem j4{E:Array Oper}{A:List Oper}{z:Act}(w:World)(g j k:Nat)(I:o.guard=none)(x y:Operand)(J:o.op= .store 225 x y)
  (K:z.eval x=pP g) (L:z.eval y= .agg (kC k)) (G:gI w g j)
  (h:∀w',gI w' g k→w.grownBy w' (some g)→wpList prog E Q A (z.put o.dst undef) w'):wpList prog E Q (o::A) z w:=by
 refine wpList_store_row I _ x y J g (kC k) K L _ _ G (by rw[jZ];exact(zero_of_info sP).2) (by rw[jZ,jZ]) (Array.all_eq_true_iff_forall_mem.2 (Kn k)) (h _ (setRow_heap w g _ _ _ _ G) ?_);exact⟨rfl,rfl,rfl,by simp,fun i _ hi=>setRow_other w g i _ (fun e=>hi (by rw[e]))⟩
theorem sI{E:Array Oper}{A:List Oper}{z:Act}(w:World)(g k:Nat)(G:o.guard=none)(x:Operand)(J:o.op= .load 225 x)
  (K:z.eval x=pP g) (I:gI w g k)
  (h:wpList prog E Q A (z.put o.dst (.agg (kC k))) w):wpList prog E Q (o::A) z w:=
 wpList_load_row G _ x J g K _ _ _ _ I underlying225 rfl (by rw[jZ];exact(zero_of_info sP).2) h
theorem MV(n m:Int):prog.built 224 [(0,.int .i32 n),(1,.int .u64 m)]=some #[.int .i32 n,.int .u64 m]:=by kernel_rfl
theorem ik{E:Array Oper}{A:List Oper}{z:Act}(w:World)(I:o.guard=none)(x y:Operand)(n m:Int)(J:o.op= .build 224 #[(0,x),(1,y)])
  (K:z.eval x= .int .i32 n) (L:z.eval y= .int .u64 m)
  (h:wpList prog E Q A (z.put o.dst (.agg #[.int .i32 n,.int .u64 m])) w):wpList prog E Q (o::A) z w:=by
 have G:prog.built 224 ((#[(0,x),(1,y)]:Array (Nat×Operand)).map fun(i,x)=>(i,z.eval x)).toList=some #[.int .i32 n,.int .u64 m]:=by
  simp[K,L,MV]
 refine wpList_build I _ _ J (by rw[G];rfl) ?_;rw[G];exact h
theorem Is(k:Nat):fo (5+k)=97+k:=by rw[Nat.add_comm];simp only[fo];omega
theorem Ir(k:Nat):ip (5+k)=5+k:=by rw[Nat.add_comm];simp only[ip]
theorem gI.below(h:gI w g k)(z:Below w.heap.size w w'):gI w' g k:=(z.block g (OT h)).trans h
theorem gI.grown{r:Option Nat}(h:gI w g k)(z:w.grownBy w' r)(A:some g≠r):gI w' g k:=(z.block g (OT h) A).trans h
theorem gI.other{g' p q:Nat}{u v:Value}(h:gI w g k)(z:g≠g'):gI ((w.setCell ⟨g',p,none⟩ u).setCell ⟨g',q,none⟩ v) g k:=by
 unfold gI;rw[OQ _ ⟨g',q,none⟩ g v (by simpa using z),OQ _ ⟨g',p,none⟩ g u (by simpa using z)];exact h
set_option linter.unusedSimpArgs false in
theorem oS(w:World):
  Calls prog 125 #[] w fun e w'=>e= .returned (.agg (kC 31))∧Below w.heap.size w w':=by
 go_enter func125,ntmps125;refine wp_seq (wp_region_list ?_);refine j3 _ rfl rfl ?_;intro G L I;refine wpList_nil ?_;simp only[Act.put,PI,PU,PL];refine wp_seq (wp_region_list ?_);refine ik _ rfl _ _ _ _ rfl rfl rfl ?_;simp only[Act.put,PI,PU,PL];refine ik _ rfl _ _ _ _ rfl rfl rfl ?_;simp only[Act.put,PI,PU,PL];refine ik _ rfl _ _ _ _ rfl rfl rfl ?_;simp only[Act.put,PI,PU,PL];refine ik _ rfl _ _ _ _ rfl rfl rfl ?_;simp only[Act.put,PI,PU,PL];refine ik _ rfl _ _ _ _ rfl rfl rfl ?_;simp only[Act.put,PI,PU,PL];refine rn _ rfl _ rfl (by kernel_rfl) ?_;simp only[Act.put,PI,PU,PL];refine j3 _ rfl rfl ?_;intro w2 Y A;simp only[Act.put,PI,PU,PL];refine j4 _ G.heap.size 0 5 rfl _ _ rfl rfl rfl Y ?_;intro w3 M J;refine wpList_nil ?_;simp only[Act.put];have aa:w.heap.size<G.heap.size:=OT L;have V:Below w.heap.size w w3:=(I.trans (A.mono (by omega))).grown J (by have:=I.size;have:=A.size;omega) (fun k h=>by cases h;omega);have Q:gI w3 w.heap.size 0:=(L.below A).grown J (by simp;omega);clear L I Y A J;generalize G.heap.size=g at M aa⊢;clear G w2;have Z:=a8 V;have R:=a8 Q;have U:=a8 M;clear V Q M;generalize kC 5=t5;go_wp2;go_loopw [2,3,10] (fun _ _ i wr=>∃k:Nat,k≤26∧i=iI k∧gI wr g (5+k)∧gI wr w.heap.size 0∧Below w.heap.size w wr) (fun _ _ i _=>26-(intOf i).toNat)
 case atStart=>exact⟨0,by omega,rfl,U.out,R.out,Z.out⟩
 case round=>
  obtain⟨k,hk,rfl,z,K,E⟩:=hrel;clear Z R U;by_cases ah:k<26
  ·obtain⟨v0,ad⟩:=z.cell ((5+k)*2) (by omega);obtain⟨v1,ae⟩:=z.cell ((5+k)*2+1) (by omega);have af:=z.frozen ((5+k)*2);have ag:=z.frozen ((5+k)*2+1);have O:=z.next;rw[Is,Ir] at O;have N:=a8 (And.intro O (And.intro (K.other (u:= .int .i32 ((97+k:Nat):Int)) (v:= .int .u64 ((5+k:Nat):Int)) (p:=(5+k)*2) (q:=(5+k)*2+1) (by omega:w.heap.size≠g)) ((E.setCell (p:=⟨g,(5+k)*2,none⟩) (by simp;omega) (.int .i32 ((97+k:Nat):Int))).setCell (p:=⟨g,(5+k)*2+1,none⟩) (by simp;omega) (.int .u64 ((5+k:Nat):Int)))));clear O z K E;go_wp2;go_roundw
   case rel=>exact⟨k+1,by omega,by go_num,N.1,N.2.1,N.2.2⟩
   case measure=>simp[intOf];omega
  ·obtain rfl:k=26:=(by omega);have z:gI wr g 31:=z;go_wp2_with (first
    |(refine sI _ g 31 rfl _ rfl rfl z ?_)
    |(refine j4 _ w.heap.size 0 31 rfl _ _ rfl rfl rfl K ?_;intro w4 ac ab))
   refine OJ (results_cell_row (P:=prog) rfl _ _ w.heap.size _ _ _ _ rfl ac underlying225 rfl (by rw[jZ];exact(zero_of_info sP).2)) rfl ?_;exact⟨rfl,E.grown ab E.size (fun k h=>by cases h;omega)⟩
def fF(s:BA):LN:=s.data.toList.map UInt8.toNat
theorem jI(s:BA):(fF s).length=s.size:=by simp[fF]
theorem Fo(s:BA):∀x∈fF s,x<256:=by
 intro x z;simp only[fF,Pg] at z;obtain⟨u,_,rfl⟩:=z;exact u.toNat_lt
theorem B9(s:BA):fw (fF s)=s:=by
 unfold fw fF;rw[PP];have:(UInt8.ofNat∘UInt8.toNat)=id:=(by funext u;simp);rw[this];simp
theorem qI(s:BA)(k:Nat)(h:k<s.size):(fF s)[k]'(by rw[jI];exact h)=(s[k]'h).toNat:=by
 simp only[fF,Po];rfl
theorem li{fn:Func}{p:Tmp}(B:Nat)(W:World)(ok:Bool)(f:Int)(A:fn.results= #[.cell p 154])(E:tmps.getD p undef=pP B)(z:W.heap[B]? =some (.cells #[.bool ok,.int .u32 f] 154 (0,0))):
  (results fn tmps).run prog W= .ok (.agg #[.bool ok,.int .u32 f]) W:=
 results_cell_row (P:=prog) A _ _ B _ _ _ _ E z underlying154 rfl (by kernel_rfl)
theorem iO{k:Nat}:∀{z:List (List Value)},(∀x∈z,x.length=k)→z.flatten.length=z.length*k
 |[],_=>by simp
 |x::r,h=>by
  rw[List.flatten_cons,O1,iO (fun y A=>h y (O8 _ A)),h x (by simp),Pf,Nat.succ_mul];omega
theorem Al{k:Nat}:∀{z:List (List Value)} (_:∀x∈z,x.length=k) (i j:Nat) (_:j<k),z.flatten[i*k+j]? =(z[i]?.getD [])[j]?
 |[],_,i,j,_=>by simp
 |x::r,h,0,j,hj=>by
  have A:=h x (by simp);rw[List.flatten_cons,Nat.zero_mul,Ps,List.getElem?_append_left (by omega)];simp
 |x::r,h,i+1,j,hj=>by
  have A:=h x (by simp);have e:(i+1)*k+j=x.length+(i*k+j):=(by rw[Nat.succ_mul];omega);rw[List.flatten_cons,e,PW (by omega),Nat.add_sub_cancel_left,Al (fun y E=>h y (O8 _ E)) i j hj];simp
theorem EI{z:List (List Value)}(h:∀x∈z,x.length=k)(i j:Nat)(hi:i<z.length)(A:j<z[i].length):z.flatten[i*k+j]? =some (z[i][j]):=by
 have E:=h z[i] (O6 hi);rw[Al h i j (by omega),OZ hi,Option.getD_some,OZ A]
theorem Am{k:Nat}:∀{z:List (List Value)} (_:∀x∈z,x.length=k) (i j:Nat) (_:j<k) (u:Value),z.flatten.set (i*k+j) u=(z.modify i (fun x=>x.set j u)).flatten
 |[],_,i,j,_,u=>by simp
 |x::r,h,0,j,hj,u=>by
  have A:=h x (by simp);rw[List.flatten_cons,Nat.zero_mul,Ps,List.set_append_left _ _ (by omega)];simp
 |x::r,h,i+1,j,hj,u=>by
  have A:=h x (by simp);have e:(i+1)*k+j=x.length+(i*k+j):=(by rw[Nat.succ_mul];omega);rw[List.flatten_cons,e,List.set_append_right _ _ (by omega),Nat.add_sub_cancel_left,Am (fun y E=>h y (O8 _ E)) i j hj u];simp
theorem DL{z:List (List Value)}(h:∀x∈z,x.length=k)(i j:Nat)(u:Value):∀x∈z.modify i (fun x=>x.set j u),x.length=k:=by
 intro x G;obtain⟨n,E,rfl⟩:=PT.1 G;rw[List.getElem_modify];have A:n<z.length:=(by simpa using E);split
 ·rw[List.length_set];exact h _ (O6 A)
 ·exact h _ (O6 A)
def dM(w:World)(base:Nat)(e:TypeId)(k:Nat)(v:Value)(es:List (List Value)):Prop:=(∀x∈es,x.length=k)∧w.ownsRow base e k v es.length es.flatten
theorem dM.slice{e:TypeId}{v:Value}{z:List (List Value)}(h:dM w A e k v z):∃a cap,v= .slice a z.length cap:=by
 rcases h.2.2 with⟨rfl,E⟩|⟨g,cap,G,rfl,_⟩
 ·exact⟨none,0,by rw[E]⟩
 ·exact⟨_,cap,rfl⟩
theorem dM.nil(w:World)(z:Nat)(e:TypeId)(k:Nat):dM w z e k (sN) []:=⟨(fun x A=>by cases A),by simp,.inl ⟨rfl,rfl⟩⟩
theorem dM.below{v:Value}{A:List (List Value)}(h:dM w z e k v A)(L:Below B w w')(K:w.heap.size≤B):dM w' z e k v A:=by
 refine⟨h.1,h.2.1,?_⟩;rcases h.2.2 with M|⟨g,cap,I,N,J,E,G⟩
 ·exact .inl M
 ·exact .inr ⟨g,cap,I,N,J,(L.block g (Pb (OT E) K)).trans E,G⟩
theorem dM.keep{v:Value}{A:List (List Value)}(h:dM w z e k v A)(L:∀g,v.ownBlock=some g→w'.heap[g]? =w.heap[g]?):dM w' z e k v A:=by
 refine⟨h.1,h.2.1,?_⟩;rcases h.2.2 with M|⟨g,cap,I,E,J,K,G⟩
 ·exact .inl M
 ·exact .inr ⟨g,cap,I,E,J,(L g (by rw[E];rfl)).trans K,G⟩
theorem dM.mono{v:Value}{A:List (List Value)}(h:dM w z e k v A)(J:base'≤z):dM w base' e k v A:=by
 refine⟨h.1,h.2.1,?_⟩;rcases h.2.2 with L|⟨g,cap,G,M,I,K,E⟩
 ·exact .inl L
 ·exact .inr ⟨g,cap,G,M,O0 J I,K,E⟩
theorem dM.at0{a:OA}{A:List (List Value)}(h:dM w z e k (.slice a n cap) A)(M:0<A.length):∃g,a=some ⟨g,0,none⟩∧z≤g∧g<w.heap.size:=by
 rcases h.2.2 with⟨_,L⟩|⟨g,J,K,E,G,I,_⟩
 ·omega
 ·simp only[O3] at E;exact⟨g,E.1,G,OT I⟩
theorem dM.cell{E:Nat}{z:List (List Value)}(h:dM w E e k (sS g n cap) z)(i j:Nat)(hi:i<z.length)(G:j<z[i].length):w.cell? ⟨g,i*k+j,none⟩=some (z[i][j]):=by
 have A:=OD h.2 (g:=g) rfl (i*k+j) _ (EI h.1 i j hi G);rw[ez,Ps] at A;exact A
theorem dM.frozen{E:List (List Value)}(h:dM w A e k (sS g n cap) E)(j:Nat):w.frozen? ⟨g,j,none⟩=false:=by
 obtain⟨a,c,z⟩:=h.slice;simp only[O3] at z;obtain⟨_,rfl,rfl⟩:=z;exact World.ownsRow.frozenAt h.2 j
theorem dM.store{E:List (List Value)}(h:dM w z e k (sS g n cap) E)(i j:Nat)(I:j<k)(u:Value):
  dM (w.setCell ⟨g,i*k+j,none⟩ u) z e k (sS g n cap) (E.modify i (fun x=>x.set j u)):=by
 obtain⟨a,c,A⟩:=h.slice;simp only[O3] at A;obtain⟨_,rfl,rfl⟩:=A;have G:=(World.ownsRow.stored h.2 (i*k+j) u).1;refine⟨DL h.1 i j u,?_⟩;rw[List.length_modify,←Am h.1 i j I u];exact G
theorem dM.lt{v:Value}{A:List (List Value)}(h:dM w z e k v A)(g:Nat)(E:v.ownBlock=some g):z≤g∧g<w.heap.size:=OF h.2 g E
def Raw(w:World)(g:Nat)(t:TypeId)(n:Nat):Prop:=∃cur:Array Value,w.heap[g]? =some (.cells cur t (0,0))∧cur.size=n
theorem Raw.cell{t:Nat}(h:Raw w g t n)(j:Nat)(E:j<n):∃v,w.cell? ⟨g,j,none⟩=some v:=by
 obtain⟨A,z,G⟩:=h;rw[OK w g j _ _ _ z];exact⟨_,Array.getElem?_eq_getElem (by omega)⟩
theorem Raw.frozen{t:Nat}(h:Raw w g t n)(j:Nat):w.frozen? ⟨g,j,none⟩=false:=by
 obtain⟨A,z,_⟩:=h;simp[World.frozen?,z]
theorem Raw.lt{t:Nat}(h:Raw w g t n):g<w.heap.size:=by
 obtain⟨A,z,_⟩:=h;exact OT z
theorem Raw.set{t:Nat}(h:Raw w g t n)(g' j:Nat)(u:Value):Raw (w.setCell ⟨g',j,none⟩ u) g t n:=by
 obtain⟨A,z,E⟩:=h;by_cases e:g=g'
 ·subst e;refine⟨A.setIfInBounds j u,?_,by simpa using E⟩;rw[setCell_eq_setRow w g j _ _ _ _ z,setRow_heap w g _ _ _ _ z]
 ·exact⟨A,(OQ w ⟨g',j,none⟩ g u (by simpa using e)).trans z,E⟩
theorem Raw.apart{g' t J:Nat}(h:Raw w g t n)(E:Raw w g' A J)(I:t≠A):g≠g':=by
 rintro rfl;obtain⟨c,G,_⟩:=h;obtain⟨c',z,_⟩:=E;rw[G] at z;simp only[OY,Obj.cells.injEq] at z;exact I z.2.1
theorem Raw.of_eq{t:Nat}(h:Raw w g t n)(e:w'.heap[g]? =w.heap[g]?):Raw w' g t n:=by
 obtain⟨z,A,E⟩:=h;exact⟨z,e.trans A,E⟩
theorem Out.set{a:World}{u:Value}(h:Out lo hi a w)(E:lo≤g)(G:g<hi):Out lo hi a (w.setCell ⟨g,j,none⟩ u):=
 ⟨h.os,h.tape,h.output,by simpa using h.size,fun k z A=>by
  rw[OQ w ⟨g,j,none⟩ k u (by simp;omega)];exact h.block k z A⟩
theorem Out.andThen{a b c:World}(h:Out lo hi a b)(k:Below B b c)(A:a.heap.size≤B):Out lo hi a c:=
 ⟨k.os.trans h.os,k.tape.trans h.tape,k.output.trans h.output,O0 h.size k.size,fun i hi z=>(k.block i (by omega)).trans (h.block i hi z)⟩
theorem Gi(g n cap m k:Nat)(w:World)(hn:n≤m)(Z:k≤4503599627370496)(V:n≤4503599627370496)(O:Raw w g 5 m):
  Calls prog 38 #[sS g n cap,.int .i64 (k:Int)] w fun e w'=>e= .returned (.int .i64 ((k+n:Nat):Int))∧(∀g' t z,Raw w g' t z→Raw w' g' t z)∧(∀b,b≠g→w'.heap[b]? =w.heap[b]?)∧w'.os=w.os∧w'.tape=w.tape∧w'.output=w.output∧w'.heap.size=w.heap.size:=by
 go_enter func38,ntmps38;go_wp2;go_loopw [1,5] (fun s i wr=>∃j:Nat,j≤n∧i= .int .i64 j∧s= .int .i64 ((k+j:Nat):Int)∧(∀g' t z,Raw w g' t z→Raw wr g' t z)∧(∀b,b≠g→wr.heap[b]? =w.heap[b]?)∧wr.os=w.os∧wr.tape=w.tape∧wr.output=w.output∧wr.heap.size=w.heap.size) (fun _ i _=>n-(intOf i).toNat)
 case atStart=>exact⟨0,O4 _,rfl,rfl,fun _ _ _ h=>h,fun _ _=>rfl,rfl,rfl,rfl,rfl⟩
 case round=>
  obtain⟨j,Y,rfl,rfl,E,I,L,M,J,K⟩:=hrel;by_cases U:j<n
  ·have G:=E g 5 m O;obtain⟨v,Q⟩:=G.cell j (by omega);have R:=G.frozen j;have A:=a8 (show(∀(u:Value) g' t z,Raw w g' t z→Raw (wr.setCell ⟨g,j,none⟩ u) g' t z)∧(∀(u:Value) b,b≠g→(wr.setCell ⟨g,j,none⟩ u).heap[b]? =w.heap[b]?)∧(∀u:Value,(wr.setCell ⟨g,j,none⟩ u).os=w.os∧(wr.setCell ⟨g,j,none⟩ u).tape=w.tape∧(wr.setCell ⟨g,j,none⟩ u).output=w.output∧(wr.setCell ⟨g,j,none⟩ u).heap.size=w.heap.size) from
    ⟨fun u g' t z h=>(E g' t z h).set g j u,fun u b N=>(OQ wr ⟨g,j,none⟩ b u (by simpa using N)).trans (I b N),fun u=>⟨L,M,J,by rw[←K];simp⟩⟩)
   clear E I L M J K O G;go_wp2;go_roundw
   case rel=>exact⟨j+1,by omega,by go_num,fM (by omega),A.1 _,A.2.1 _,(A.2.2 _).1,(A.2.2 _).2.1,(A.2.2 _).2.2.1,(A.2.2 _).2.2.2⟩
   case measure=>simp[intOf];omega
  ·obtain rfl:j=n:=(by omega);go_wp2;go_ret;exact⟨rfl,E,I,L,M,J,K⟩
structure j9(w:World)(lo hi g n m:Nat)(vs:Nat→Value):Prop where
 raw:Raw w g 99 m
 room:n*2≤m
 low:lo≤g
 high:g<hi
 sl:∀j,j<n→w.cell? ⟨g,j*2,none⟩=some (vs j)
 el:∀j,j<n→vs j=sN∨∃gj nj cj mj,vs j=sS gj nj cj∧Raw w gj 5 mj∧nj≤mj∧lo≤gj∧gj<hi∧nj≤1048576
theorem j9.turn{G:Nat→Value}(h:j9 w lo hi g n m G)(A:∀g' t E,Raw w g' t E→Raw w' g' t E)(L:∀j,j<n→w'.cell? ⟨g,j*2,none⟩=w.cell? ⟨g,j*2,none⟩):j9 w' lo hi g n m G:=
 ⟨A _ _ _ h.raw,h.room,h.low,h.high,fun j z=>(L j z).trans (h.sl j z),fun j z=>by
  rcases h.el j z with e|⟨K,N,J,M,e,r,I⟩
  ·exact .inl e
  ·exact .inr ⟨K,N,J,M,e,A _ _ _ r,I⟩⟩
theorem ef(h:w'.heap[g]? =w.heap[g]?):w'.cell? ⟨g,j,none⟩=w.cell? ⟨g,j,none⟩:=by
 unfold World.cell?;simp only[h]
theorem Gh(k:Nat)(w:World):
  Calls prog 38 #[sN,.int .i64 (k:Int)] w fun e w'=>e= .returned (.int .i64 (k:Int))∧w'=w:=by
 go_enter func38,ntmps38;go_wp2;go_loopw [1,5] (fun s i wr=>i= .int .i64 0∧s=iI k∧wr=w) (fun _ _ _=>0)
 case atStart=>exact⟨rfl,rfl,rfl⟩
 case round=>
  obtain⟨rfl,rfl,rfl⟩:=hrel;go_wp2;go_ret;exact⟨rfl,rfl⟩
def ND(w:World)(lo hi:Nat)(v:Value):Prop:=v=sN∨∃gj nj cj mj,v=sS gj nj cj∧Raw w gj 5 mj∧nj≤mj∧lo≤gj∧gj<hi∧nj≤1048576
theorem Jg(lo hi k:Nat)(v:Value)(w:World)(U:k≤4503599627370496)(h:ND w lo hi v):
  Calls prog 38 #[v,.int .i64 (k:Int)] w fun e w'=>(∃G:Nat,G≤1048576∧e= .returned (.int .i64 ((k+G:Nat):Int)))∧(∀g' t z,Raw w g' t z→Raw w' g' t z)∧(∀b t z,t≠5→Raw w b t z→w'.heap[b]? =w.heap[b]?)∧Out lo hi w w':=by
 rcases h with rfl|⟨L,E,K,Y,rfl,r,J,hl,hh,I⟩
 ·refine(Gh k w).mono ?_;rintro e w' ⟨rfl,rfl⟩;exact⟨⟨0,by omega,rfl⟩,fun _ _ _ h=>h,fun _ _ _ _ _=>rfl,Out.refl _ _ _⟩
 ·refine(Gi L E K Y k w J U (by omega) r).mono ?_;rintro e w' ⟨rfl,M,A,N,O,Q,Z⟩;refine⟨⟨E,I,rfl⟩,M,fun b t z V R=>A b (R.apart r V),⟨N,O,Q,by omega,fun x hx ho=>A x (by omega)⟩⟩
theorem Gn(lo hi g n cap m k:Nat)(I:Nat→Value)(w:World)(hn:n≤1048576)(hk:k≤1048576)(hr:j9 w lo hi g n m I):
  Calls prog 34 #[sS g n cap,.int .i64 (k:Int)] w fun e w'=>(∃k':Nat,e= .returned (.int .i64 (k':Int))∧k'≤k+n*1048577)∧(∀g' t A,Raw w g' t A→Raw w' g' t A)∧Out lo hi w w':=by
 go_enter func34,ntmps34;go_wp2;go_loopw [1,5] (fun s i wr=>∃j s':Nat,j≤n∧i= .int .i64 j∧s=iI s'∧s'≤k+j*1048577∧j9 wr lo hi g n m I∧(∀g' t A,Raw w g' t A→Raw wr g' t A)∧Out lo hi w wr) (fun _ i _=>n-(intOf i).toNat)
 case atStart=>exact⟨0,k,O4 _,rfl,rfl,by omega,hr,fun _ _ _ h=>h,Out.refl _ _ _⟩
 case round=>
  obtain⟨j,s',hj,rfl,rfl,aa,G,N,Q⟩:=hrel;by_cases M:j<n
  ·have ab:=G.sl j M;have HN:=a8 G;have R:=a8 N;have HO:=a8 Q;have ag:s'≤1099512676352:=by
    omega
   have K:=a8 (Jg lo hi s' (I j) wr (by omega) (G.el j M));have U:=a8 (show(∀W:World,(∀g' t A,Raw wr g' t A→Raw W g' t A)→(∀b t A,t≠5→Raw wr b t A→W.heap[b]? =wr.heap[b]?)→j9 W lo hi g n m I) from fun W h1 h2=>G.turn h1 (fun j _=>ef (h2 g _ _ (by decide) G.raw)));have ac:∃sa sn sc,I j= .slice sa sn sc:=by
    rcases G.el j M with e|⟨gj,nj,cj,mj,e,_⟩
    ·exact⟨_,_,_,e⟩
    ·exact⟨_,_,_,e⟩
   obtain⟨sa,sn,sc,V⟩:=ac;rw[V] at ab K;clear hr G N Q V;go_wp2_with fail;refine K.mono ?_;rintro e J ⟨⟨nn,af,rfl⟩,L,Y,Z⟩;have E:=U.out J L Y;obtain⟨z,hz⟩:=E.raw.cell (j*2+1) (by have:=E.room;omega);have ad:=E.raw.frozen (j*2+1);have ae:j*1048577+1048577=(j+1)*1048577:=(by omega);have O:=a8 (show∀u:Value,j9 (J.setCell ⟨g,j*2+1,none⟩ u) lo hi g n m I∧(∀g' t A,Raw w g' t A→Raw (J.setCell ⟨g,j*2+1,none⟩ u) g' t A)∧Out lo hi w (J.setCell ⟨g,j*2+1,none⟩ u) from fun u=>
    ⟨E.turn (fun _ _ _ h=>h.set _ _ _) (fun i _=>World.cell?_setCell_other _ _ _ _ (by intro e;simp only[PG] at e;omega)),fun _ _ _ h=>(L _ _ _ (R.out _ _ _ h)).set _ _ _,(HO.trans Z).set E.low E.high⟩)
   clear E L Y Z U K R HO HN;go_wp2;go_roundw
   case rel=>exact⟨j+1,s'+nn+1,by omega,by go_num,by go_num,by omega,(O.out _).1,(O.out _).2.1,(O.out _).2.2⟩
   case measure=>simp[intOf];omega
  ·obtain rfl:j=n:=(by omega);have HF:=a8 aa;clear aa;go_wp2;go_ret;exact⟨⟨s',rfl,HF⟩,N,Q⟩
theorem E9(W:World)(z:Int)(x:Nat)(h:z=(x:Int)):(convert 52 9 (sS W.heap.size 1 1)).run prog (W.alloc (.cells #[.int .u8 z] 5))= .ok (.string (fw [x])) (W.alloc (.cells #[.int .u8 z] 5)):=by
 subst h;refine fY _ _ 1 [x] fun _=>⟨W.heap.size,0,rfl,fun i hi=> ?_⟩
 have A:i=0:=(by simpa using hi);subst A;rw[OK _ _ _ _ _ _ (OP W _)];rfl
theorem mT(k:Nat)(w:World)(Q:k≤4503599627370496):
  Calls prog 37 #[.int .i64 (k:Int)] w fun e w'=>(∃s,e= .returned (.string s))∧Below w.heap.size w w':=by
 by_cases K:k=0
 ·subst K;go_enter func37,ntmps37;go_wp2;go_ret;exact⟨⟨_,rfl⟩,OX _ _⟩
 ·have M:¬(k:Int)≤0:=(by omega);go_enter func37,ntmps37;go_wp2;go_loopw [0,3] (fun A L wr=>∃(j:Nat) (s:BA),A=iI j∧L= .string s∧s.size+j≤k∧Below w.heap.size w wr) (fun A _ _=>(intOf A).toNat)
  case atStart=>exact⟨k,_,rfl,rfl,by simp[ByteArray.size],OX _ _⟩
  case round=>
   obtain⟨j,s,rfl,rfl,R,z⟩:=hrel;by_cases O:0<j
   ·have N:(0:Int)<(j:Int):=(by omega);have E:=E9 wr ((48:Int)+(j:Int)%10) (48+j%10) (by omega);have G:(fw [48+j%10]).size=1:=(by simp[fw,ByteArray.size]);generalize fw [48+j%10]=t at E G;have I:=a8 (z.alloc z.size (.cells #[.int .u8 ((48:Int)+(j:Int)%10)] 5));clear z;have J:=a8 (show(t++s).size+j/10≤k by rw[ByteArray.size_append];omega);go_wp2;go_roundw
    case rel=>exact⟨j/10,t++s,by go_num,rfl,J,I⟩
    case measure=>simp[intOf];omega
   ·obtain rfl:j=0:=(by omega);go_wp2;go_ret;exact⟨⟨_,rfl⟩,z⟩
theorem Gl(lo hi g n cap m k:Nat)(w:World)(hn:n≤1048576)(hk:k≤1125899906842624)(V:Raw w g 63 m)(hm:n*2≤m)(R:lo≤g)(U:g<hi):
  Calls prog 35 #[sS g n cap,.int .i64 (k:Int)] w fun e w'=>e= .returned (.int .i64 ((k+2*n:Nat):Int))∧(∀g' t z,Raw w g' t z→Raw w' g' t z)∧Out lo hi w w':=by
 go_enter func35,ntmps35;go_wp2;go_loopw [1,5] (fun s i wr=>∃j:Nat,j≤n∧i= .int .i64 j∧s= .int .i64 ((k+2*j:Nat):Int)∧(∀g' t z,Raw w g' t z→Raw wr g' t z)∧Out lo hi w wr) (fun _ i _=>n-(intOf i).toNat)
 case atStart=>exact⟨0,O4 _,rfl,rfl,fun _ _ _ h=>h,Out.refl _ _ _⟩
 case round=>
  obtain⟨j,hj,rfl,rfl,K,L⟩:=hrel;by_cases ad:j<n
  ·obtain⟨s',M⟩:∃s',s'=k+2*j:=⟨_,rfl⟩
   rw[←M];have aa:s'≤4503599627370000:=(by omega);have A:=a8 K;have I:=a8 L;have Z:=a8 M;clear K L M;go_wp2_with fail;refine(mT s' wr (by omega)).mono ?_;rintro e Y ⟨⟨t,rfl⟩,J⟩;have G:=((A.out g _ m V).of_eq (J.block g (A.out g _ m V).lt))
   have N:=a8 (fun g' E z (h:Raw w g' E z)=>((A.out g' E z h).of_eq (J.block g' (A.out g' E z h).lt)));have O:=a8 (I.andThen J I.size);obtain⟨z0,ae⟩:=G.cell (j*2) (by omega);obtain⟨z1,af⟩:=G.cell (j*2+1) (by omega);have ab:=G.frozen (j*2);have ac:=G.frozen (j*2+1);have Q:=a8 (show∀u v:Value,(∀g' E z,Raw w g' E z→Raw ((Y.setCell ⟨g,j*2,none⟩ u).setCell ⟨g,j*2+1,none⟩ v) g' E z)∧Out lo hi w ((Y.setCell ⟨g,j*2,none⟩ u).setCell ⟨g,j*2+1,none⟩ v) from fun u v=>
    ⟨fun _ _ _ h=>((N.out _ _ _ h).set _ _ _).set _ _ _,(O.set R U).set R U⟩)
   clear G J A I N O;go_wp2;go_roundw
   case rel=>exact⟨j+1,by omega,by go_num,by rw[show k+2*(j+1)=s'+1+1 from by have:=Z.out;omega];go_num,(Q.out _ _).1,(Q.out _ _).2⟩
   case measure=>simp[intOf];omega
  ·obtain rfl:j=n:=(by omega);have I:=a8 L;have A:=a8 K;clear L K;go_wp2;go_ret;exact⟨rfl,A,I⟩
theorem Gq(lo hi g n cap m k:Nat)(w:World)(hn:n≤1048576)(hk:k≤1125899906842624)(M:Raw w g 111 m)(hm:n*4≤m)(R:lo≤g)(U:g<hi):
  Calls prog 36 #[sS g n cap,.int .i64 (k:Int)] w fun e w'=>e= .returned (.int .i64 ((k+4*n:Nat):Int))∧(∀g' t z,Raw w g' t z→Raw w' g' t z)∧Out lo hi w w':=by
 go_enter func36,ntmps36;go_wp2;go_loopw [1,5] (fun s i wr=>∃j:Nat,j≤n∧i= .int .i64 j∧s= .int .i64 ((k+4*j:Nat):Int)∧(∀g' t z,Raw w g' t z→Raw wr g' t z)∧Out lo hi w wr) (fun _ i _=>n-(intOf i).toNat)
 case atStart=>exact⟨0,O4 _,rfl,rfl,fun _ _ _ h=>h,Out.refl _ _ _⟩
 case round=>
  obtain⟨j,hj,rfl,rfl,L,V⟩:=hrel;by_cases ao:j<n
  ·obtain⟨s',aa⟩:∃s',s'=k+4*j:=⟨_,rfl⟩
   rw[←aa];have aj:s'≤4503599627370000:=(by omega);have HJ:=a8 aa;have Z:=L g _ m M;obtain⟨z0,ah⟩:=Z.cell (j*4) (by omega);have af:=Z.frozen (j*4);have E:=a8 (show∀u:Value,∀g' A z,Raw w g' A z→Raw (wr.setCell ⟨g,j*4,none⟩ u) g' A z from fun u _ _ _ h=>(L _ _ _ h).set _ _ _);have I:=a8 (show∀u:Value,Out lo hi w (wr.setCell ⟨g,j*4,none⟩ u) from fun u=>V.set R U);clear L V aa Z;go_wp2_with fail;replace E:=a8 (E.out (iI s'));replace I:=a8 (I.out (iI s'));generalize wr.setCell ⟨g,j*4,none⟩ (iI s')=w1 at E I⊢;have e1:((s':Int)+1)=((s'+1:Nat):Int):=(by omega);rw[e1];clear e1;obtain⟨s1,ab⟩:∃s1,s1=s'+1:=⟨_,rfl⟩
   rw[←ab];have ak:s1≤4503599627370001:=(by omega);have ad:=a8 ab;clear ab;refine(mT s1 w1 (by omega)).mono ?_;rintro e w2 ⟨⟨t,rfl⟩,O⟩;have Y:=((E.out g _ m M).of_eq (O.block g (E.out g _ m M).lt))
   have G:=a8 (fun(u:Value) g' A z (h:Raw w g' A z)=>((E.out g' A z h).of_eq (O.block g' (E.out g' A z h).lt)).set g (j*4+1) u);have J:=a8 (fun(u:Value)=>(I.andThen O I.size).set (j:=j*4+1) (u:=u) R U);obtain⟨z1,ai⟩:=Y.cell (j*4+1) (by omega);have ag:=Y.frozen (j*4+1);clear Y O E I ah af;go_wp2_with fail;replace G:=a8 (G.out (.string t));replace J:=a8 (J.out (.string t));generalize w2.setCell ⟨g,j*4+1,none⟩ (.string t)=w3 at G J⊢;have e2:((s1:Int)+1)=((s1+1:Nat):Int):=(by omega);rw[e2];clear e2;obtain⟨N,ac⟩:∃N,N=s1+1:=⟨_,rfl⟩
   rw[←ac];have al:N≤4503599627370002:=(by omega);have ae:=a8 ac;clear ac ai ag;refine(mT N w3 (by omega)).mono ?_;rintro e w4 ⟨⟨t4,rfl⟩,Q⟩;have K:=((G.out g _ m M).of_eq (Q.block g (G.out g _ m M).lt))
   have HX:=a8 (show∀u v:Value,(∀g' A z,Raw w g' A z→Raw ((w4.setCell ⟨g,j*4+2,none⟩ u).setCell ⟨g,j*4+3,none⟩ v) g' A z)∧Out lo hi w ((w4.setCell ⟨g,j*4+2,none⟩ u).setCell ⟨g,j*4+3,none⟩ v) from fun u v=>
    ⟨fun g' A z h=>(((G.out g' A z h).of_eq (Q.block g' (G.out g' A z h).lt)).set _ _ _).set _ _ _,((J.andThen Q J.size).set R U).set R U⟩)
   obtain⟨z2,ap⟩:=K.cell (j*4+2) (by omega);obtain⟨z3,aq⟩:=K.cell (j*4+3) (by omega);have am:=K.frozen (j*4+2);have an:=K.frozen (j*4+3);clear K Q G J;go_wp2;go_roundw
   case rel=>exact⟨j+1,by omega,by go_num,by rw[show k+4*(j+1)=N+1+1 from by have:=HJ.out;have:=ad.out;have:=ae.out;omega];go_num,(HX.out _ _).1,(HX.out _ _).2⟩
   case measure=>simp[intOf];omega
  ·obtain rfl:j=n:=(by omega);have I:=a8 V;have E:=a8 L;clear V L;go_wp2;go_ret;exact⟨rfl,E,I⟩
theorem Gm(k:Nat)(w:World):Calls prog 34 #[sN,.int .i64 (k:Int)] w fun e w'=>e= .returned (.int .i64 (k:Int))∧w'=w:=by
 go_enter func34,ntmps34;go_wp2;go_loopw [1,5] (fun s i wr=>i= .int .i64 0∧s=iI k∧wr=w) (fun _ _ _=>0)
 case atStart=>exact⟨rfl,rfl,rfl⟩
 case round=>
  obtain⟨rfl,rfl,rfl⟩:=hrel;go_wp2;go_ret;exact⟨rfl,rfl⟩
theorem Gk(k:Nat)(w:World):Calls prog 35 #[sN,.int .i64 (k:Int)] w fun e w'=>e= .returned (.int .i64 (k:Int))∧w'=w:=by
 go_enter func35,ntmps35;go_wp2;go_loopw [1,5] (fun s i wr=>i= .int .i64 0∧s=iI k∧wr=w) (fun _ _ _=>0)
 case atStart=>exact⟨rfl,rfl,rfl⟩
 case round=>
  obtain⟨rfl,rfl,rfl⟩:=hrel;go_wp2;go_ret;exact⟨rfl,rfl⟩
theorem Gp(k:Nat)(w:World):Calls prog 36 #[sN,.int .i64 (k:Int)] w fun e w'=>e= .returned (.int .i64 (k:Int))∧w'=w:=by
 go_enter func36,ntmps36;go_wp2;go_loopw [1,5] (fun s i wr=>i= .int .i64 0∧s=iI k∧wr=w) (fun _ _ _=>0)
 case atStart=>exact⟨rfl,rfl,rfl⟩
 case round=>
  obtain⟨rfl,rfl,rfl⟩:=hrel;go_wp2;go_ret;exact⟨rfl,rfl⟩
def dgs(j:Nat)(s:BA):BA:=if _h:j=0 then s else dgs (j/10) (fw [48+j%10]++s)
termination_by j
decreasing_by omega
theorem Ig(s:BA):dgs 0 s=s:=by rw[dgs,dif_pos rfl]
theorem If(j:Nat)(s:BA)(h:0<j):dgs j s=dgs (j/10) (fw [48+j%10]++s):=by rw[dgs,dif_neg (by omega)]
def mtx(k:Nat):BA:=⟨#[109]⟩++dgs k ⟨#[]⟩
theorem lS(k:Nat)(w:World)(V:0<k)(Y:k≤4503599627370496):
  Calls prog 37 #[.int .i64 (k:Int)] w fun e w'=>e= .returned (.string (mtx k))∧Below w.heap.size w w':=by
 have Q:¬(k:Int)≤0:=(by omega);go_enter func37,ntmps37;go_wp2;go_loopw [0,3] (fun G O wr=>∃(j:Nat) (s:BA),G=iI j∧O= .string s∧j≤k∧s.size+j≤k∧dgs j s=dgs k ⟨#[]⟩∧Below w.heap.size w wr) (fun G _ _=>(intOf G).toNat)
 case atStart=>exact⟨k,_,rfl,rfl,OV _,by simp[ByteArray.size],rfl,OX _ _⟩
 case round=>
  obtain⟨j,s,rfl,rfl,U,Z,z,E⟩:=hrel;by_cases N:0<j
  ·have R:(0:Int)<(j:Int):=(by omega);have I:=E9 wr ((48:Int)+(j:Int)%10) (48+j%10) (by omega);have A:=a8 ((If j s N).symm.trans z);have J:(fw [48+j%10]).size=1:=(by simp[fw,ByteArray.size]);generalize fw [48+j%10]=t at I J A;have K:=a8 (E.alloc E.size (.cells #[.int .u8 ((48:Int)+(j:Int)%10)] 5));clear E z;have M:=a8 (show(t++s).size+j/10≤k by rw[ByteArray.size_append];omega);go_wp2;go_roundw
   case rel=>exact⟨j/10,t++s,by go_num,rfl,by omega,M,A,K⟩
   case measure=>simp[intOf];omega
  ·obtain rfl:j=0:=(by omega);rw[Ig] at z;have A:=a8 z;have L:=a8 (show mtx k=⟨#[109]⟩++s from by rw[mtx,A.out]);clear z;go_wp2;go_ret;exact⟨by rw[L.out];rfl,E⟩
end Go.Proofs.YtkkdfgnnlpohlaaGreatDoor
