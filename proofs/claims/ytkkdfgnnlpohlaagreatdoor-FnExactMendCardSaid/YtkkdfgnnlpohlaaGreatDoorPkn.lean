import Derived.Test.YtkkdfgnnlpohlaaGreatDoorPki
import Derived.Test.YtkkdfgnnlpohlaaGreatDoorPkh
import Derived.Test.YtkkdfgnnlpohlaaGreatDoorPkg
import Derived.Deep.LoopGhost
namespace Go.Proofs.YtkkdfgnnlpohlaaGreatDoor
set_option maxRecDepth 20000
set_option linter.unusedVariables false
set_option linter.unusedSimpArgs false
set_option maxHeartbeats 4000000
open Go.RowKit Go.Proofs.Tryz
variable {W X Y w w' w0 wr : World} {A B at_ b b2 base' c cap e f g go gs hi i j k lo m n s u val z : Nat} {E G I J K L M N O u0 u1 u2 v0 v1 v2 v3 v4 v5 v6 x y : Value} {o : Oper} {Q : Exit → Act → World → Prop} {cs tmps : Array Value} {t : TypeId} {p : Addr} {l : List Nat} {bvs xs : List Value} {a : List UInt8} {first ok : Bool}
theorem dW.drop{d:LN}(h:dW w (some ⟨b,z,none⟩) d)(g:Nat):dW w (some ⟨b,z+g,none⟩) (d.drop g):=fun E=>by
 simp at E;obtain⟨I,G,e,A⟩:=h (by omega);simp only[OY,PG,and_true] at e;obtain⟨rfl,rfl⟩:=e;refine⟨b,z+g,rfl,fun i hi=> ?_⟩;simp at hi;have:=A (g+i) (by omega);rw[←Nat.add_assoc] at this;rw[this];simp
theorem dW.at{d:LN}(h:dW w (some ⟨b,z,none⟩) d)(i:Nat)(hi:i<d.length):w.cell? ⟨b,z+i,none⟩=some (.int .u8 ((d.getD i 0:Nat):Int)):=by
 obtain⟨G,E,e,A⟩:=h (by omega);simp only[OY,PG,and_true] at e;obtain⟨rfl,rfl⟩:=e;rw[A i hi];simp[hi]
theorem sO{d:LN}(h:∀x∈d,x<256)(i:Nat):d.getD i 0<256:=by
 rcases PV i d.length with z|z
 ·simp[z];exact h _ (O6 z)
 ·simp[Pt z]
def zF(w:World)(lo:Nat)(v:Value)(L:List (LN)×Nat):Prop:=∃vr vs,v= .agg #[vr,.int .i64 (L.2:Int)]∧eO w lo vr vs L.1
theorem eO.mono{v:Value}{I:List Value}{G:List (LN)}(h:eO w lo v I G)(E:z≤lo):eO w z v I G:=by
 obtain⟨A,M,N⟩:=h;refine⟨?_,fun i hi=> ?_,N⟩
 ·refine⟨A.1,?_⟩;rcases A.2 with O|⟨g,cap,L,rfl,J,K⟩
  ·exact .inl O
  ·exact .inr ⟨g,cap,L,rfl,O0 E J,K⟩
 ·obtain⟨x,R,Q⟩:=M i hi;exact⟨x,R,Q.mono E⟩
theorem Fc{z:World}{v u:Value}{M:List Value}{rs:List (LN)}{r:LN}(Y:B+2≤wr.heap.size)(V:wr.heap.size≤z.heap.size)(J:gC z B x y)(K:gC z (B+1) N O)(L:eO z (B+2) v M rs)(U:dR z (B+2) u r)(R:Below B w z):
  eO (z.alloc (.cells #[u] e)) (B+2) v M rs∧(z.alloc (.cells #[u] e)).cell? ⟨z.heap.size,0,none⟩=some u∧dR (z.alloc (.cells #[u] e)) (B+2) u r∧
   ∀A,(z.alloc (.cells #[u] e)).grownBy A v.ownBlock→gC A B x y∧gC A (B+1) N O∧Below B w A∧B+2≤A.heap.size:=by
 have G:Below z.heap.size z (z.alloc (.cells #[u] e)):=(OX _ _).alloc (OV _) _;refine⟨L.below G (OV _),?_,World.ownsRow.alloc U _,fun A E=> ?_⟩
 ·rw[OK _ _ 0 _ _ (0,0) (OP z _)];rfl
 ·have I:∀k,v.ownBlock=some k→B+2≤k:=fun k Q=>(OF L.1 k Q).1;refine⟨(J.below G J.lt).grown E (fun h=>by have:=I _ h.symm;omega),(K.below G K.lt).grown E (fun h=>by have:=I _ h.symm;omega),?_,?_⟩
  ·exact(R.alloc (by omega) _).grown E (by simp;omega) (fun k h=>by have:=I k h;omega)
  ·have:=E.size;simp at this;omega
theorem Cl{z:World}{u:Value}{A:List Value}{rs:List (LN)}(J:gC z B x y)(K:gC z (B+1) v0 E)(L:eO z (B+2) v3 A rs)(G:Below B w z)(I:B+2≤z.heap.size):
  gC ((z.setCell ⟨B+1,0,none⟩ v3).setCell ⟨B+1,1,none⟩ u) B x y∧gC ((z.setCell ⟨B+1,0,none⟩ v3).setCell ⟨B+1,1,none⟩ u) (B+1) v3 u∧eO ((z.setCell ⟨B+1,0,none⟩ v3).setCell ⟨B+1,1,none⟩ u) (B+2) v3 A rs∧
   Below B w ((z.setCell ⟨B+1,0,none⟩ v3).setCell ⟨B+1,1,none⟩ u)∧B+2≤((z.setCell ⟨B+1,0,none⟩ v3).setCell ⟨B+1,1,none⟩ u).heap.size:=
 ⟨(J.other (by omega) _).other (by omega) _,(K.set0 _).set1 _,(L.other (by omega) _).other (by omega) _,(G.setCell (by simp) _).setCell (by simp) _,by simpa using I⟩
def Unf(w wr:World)(f:Nat)(d:LN)(rs:List (LN))(g:Nat)(vr:Value)(vs:List Value):Prop:=
 kH d f rs g=dP d∧d.length≤g+f∧g≤d.length∧rs.length≤g∧gC wr w.heap.size (.slice none 0 0) (.int .i64 0)∧gC wr (w.heap.size+1) vr (.int .i64 (g:Int))∧eO wr (w.heap.size+2) vr vs rs∧Below w.heap.size w wr∧w.heap.size+2≤wr.heap.size
theorem mE(z:b<31):2^b<4294967296:=by
 have:2^b≤2^30:=Nat.pow_le_pow_right (by omega) (by omega);omega
theorem EE(f b:Nat):(f&&&2^b=0)↔f.testBit b=false:=by
 constructor
 ·intro h;have z:(f&&&2^b).testBit b=false:=(by rw[h];simp);rw[Nat.testBit_and,Nat.testBit_two_pow_self,Bool.and_true] at z;exact z
 ·intro h;apply Nat.eq_of_testBit_eq;intro i;rw[Nat.testBit_and,Nat.zero_testBit,Nat.testBit_two_pow];by_cases e:b=i
  ·subst e;rw[h];rfl
  ·simp[e]
theorem LX{a b:Int}(h:a=b):Ending.returned (.int .u32 a)= .returned (.int .u32 b):=by rw[h]
theorem Ns{a b:Int}(h:a=b):Ending.returned (.int .u8 a)= .returned (.int .u8 b):=by rw[h]
theorem A8(b:Nat)(w:World)(z:b<31):
  Calls prog 126 #[.int .u64 (b:Int)] w fun e w'=>e= .returned (.int .u32 ((2^b:Nat):Int))∧w'=w:=by
 have A:=a8 (mE z);go_enter func126,ntmps126;go_wp2;go_ret;refine⟨LX ?_,rfl⟩;have h:=A.out;have e:((2^b:Nat):Int)=(2:Int)^b:=(by push_cast;rfl);rw[←e];generalize (2^b:Nat)=q at h⊢;omega
theorem F5(f k:Nat)(w:World)(A:f<4294967296)(G:k<31):
  Calls prog 133 #[.int .u32 (f:Int),.int .i64 (k:Int)] w fun e w'=>e= .returned (.bool (f.testBit k))∧w'=w:=by
 go_enter func133,ntmps133;go_wp2;go_ret;refine⟨eN ?_,rfl⟩;have e:((f:Int)/2^k)=((f/2^k:Nat):Int):=(by push_cast;rfl);have z:f/2^k<4294967296:=Nat.lt_of_le_of_lt (Nat.div_le_self _ _) A;show(bits BinOp.and IntKind.u32 ((f:Int)/2^k) 1==1)=_;rw[e,yH _ z,Nat.testBit_eq_decide_div_mod_eq];generalize f/2^k=q;have E:q%2=0∨q%2=1:=(by omega);rcases E with h|h<;>rw[h]<;>rfl
def l4(k:Nat):Nat:=if k=0 then 82 else if k=1 then 70 else if k=2 then 84 else if k=3 then 83 else if k=4 then 68 else 92+k
theorem pR(k:Nat)(w:World)(M:k<31):
  Calls prog 104 #[.int .i64 (k:Int)] w fun e w'=>e= .returned (.int .u8 (l4 k:Int))∧w'=w:=by
 by_cases L:5≤k
 ·have E:((k:Int)==0)=false:=(by simp;omega);have G:((k:Int)==1)=false:=(by simp;omega);have I:((k:Int)==2)=false:=(by simp;omega);have J:((k:Int)==3)=false:=(by simp;omega);have K:((k:Int)==4)=false:=(by simp;omega);have A:l4 k=92+k:=(by unfold l4;rw[OR (by omega),OR (by omega),OR (by omega),OR (by omega),OR (by omega)]);rw[A];go_enter func104,ntmps104;go_wp2;go_ret;exact⟨Ns (by omega),rfl⟩
 ·have z:k=0∨k=1∨k=2∨k=3∨k=4:=(by omega);rcases z with rfl|rfl|rfl|rfl|rfl
  all_goals
   go_enter func104,ntmps104;go_wp2;go_ret;exact⟨rfl,rfl⟩
def gE(f k:Nat):LN:=((List.range k).filter fun i=>f.testBit (ip i)).map fo
def eD(f:Nat):LN:=gE f 31
theorem ug(f k:Nat):gE f (k+1)=gE f k++(if f.testBit (ip k) then[fo k] else[]):=by
 unfold gE;rw[List.range_succ,List.filter_append,O7];by_cases h:f.testBit (ip k)=true
 ·simp[h]
 ·simp at h;simp[h]
theorem j6(f k:Nat):(gE f k).length≤k:=by
 unfold gE;rw[OW];exact O0 (PK _ _) (by simp)
def iJ(f b k:Nat):LN:=((List.range k).filter fun i=>l4 i==b&&f.testBit i).map fun _=>b
def jh(f n:Nat):LN:=(List.range n).flatMap fun j=>iJ f (65+j) 31
theorem yq(f b k:Nat):iJ f b (k+1)=iJ f b k++(if l4 k==b&&f.testBit k then[b] else[]):=by
 unfold iJ;rw[List.range_succ,List.filter_append,O7];by_cases h:(l4 k==b&&f.testBit k)=true
 ·simp[h]
 ·simp only[Bool.not_eq_true] at h;simp[h]
theorem pY(f n:Nat):jh f (n+1)=jh f n++iJ f (65+n) 31:=by
 unfold jh;rw[List.range_succ,PX];simp
theorem GH:((List.range 58).flatMap fun j=>((List.range 31).filter fun i=>l4 i==65+j).map fun i=>(65+j,i))=(List.range 31).map fun i=>(fo i,ip i):=by decide
theorem Dy(f:Nat):jh f 58=eD f:=by
 have z:eD f=(((List.range 31).map fun i=>(fo i,ip i)).filter fun p=>f.testBit p.2).map Prod.fst:=by
  unfold eD gE;rw[List.filter_map,PP];rfl
 rw[z,←GH];unfold jh iJ;rw[List.filter_flatMap,List.map_flatMap];congr 1;funext j;rw[List.filter_map,PP,List.filter_filter];congr 1;congr 1;funext i;rw[Bool.and_comm];rfl
theorem GD(f n:Nat):(jh f n).length≤n*31:=by
 induction n with
 |zero=>simp[jh]
 |succ n ih=>
  rw[pY,O1];have:(iJ f (65+n) 31).length≤31:=by
   unfold iJ;rw[OW];exact O0 (PK _ _) (by simp)
  omega
theorem Dm(f b k:Nat):(iJ f b k).length≤k:=by
 unfold iJ;rw[OW];exact O0 (PK _ _) (by simp)
theorem Nx(k:Nat)(z:k<31):(kC 31).extract (k*2) (k*2+2)= #[.int .i32 (fo k:Int),.int .u64 (ip k:Int)]:=by
 have A:=qq (gW 31) k (by rw[fL];exact z);have E:=qr (gW 31) k (by rw[fL];exact z);have G:(gW 31)[k]'(by rw[fL];exact z)=yY k:=(by simp[gW,z]);rw[G] at A E;apply Array.ext_getElem?;intro i;rw[Array.getElem?_extract];rcases i with _|_|i
 ·simp only[kC,Nat.add_zero,List.getElem?_toArray];rw[A];simp[yY,nc,fL];omega
 ·simp only[kC,List.getElem?_toArray];rw[E];simp[yY,nc,fL];omega
 ·rw[OR (by rw[jZ];omega)];simp
theorem vY(w:World)(k:Nat)(z:k<31):(Instr.index 225 (.agg (kC 31)) (.int .i64 (k:Int))).run prog w= .ok (.agg #[.int .i32 (fo k:Int),.int .u64 (ip k:Int)]) w:=by
 have A:=run_underlying underlying225;simp[Instr.index,asIntOf,A,part,Nx k z];intro h;omega
theorem ro{E:Array Oper}{A:List Oper}{z:Act}(w:World)(k:Nat)(G:o.guard=none)(x y:Operand)(L:o.op= .index 225 x y)
  (M:z.eval x= .agg (kC 31)) (N:z.eval y= .int .i64 (k:Int)) (J:k<31)
  (h:wpList prog E Q A (z.put o.dst (.agg #[.int .i32 (fo k:Int),.int .u64 (ip k:Int)])) w):wpList prog E Q (o::A) z w:=by
 refine wpList_plain G fun K I=> ?_;unfold Oper.wp execOp;simp only[L,M,N,Sem.run_bind,vY w k J,Result.andThen_ok];exact I _ _ h
theorem ot(k:Nat)(z:k<31):fo k<128:=by
 have h:∀k,k<31→fo k<128:=(by decide);exact h k z
theorem yh(k:Nat)(z:k<31):ip k<31:=by
 have h:∀k,k<31→ip k<31:=(by decide);exact h k z
theorem uh(f k:Nat)(A:k≤31):∀x∈gE f k,x<256:=by
 intro x z;simp only[gE,Pg,List.mem_filter,List.mem_range] at z;obtain⟨i,⟨hi,_⟩,rfl⟩:=z;have:=ot i (by omega);omega
theorem Ht(f b:Nat)(A:f<4294967296)(z:b<31):(bits .and .u32 (f:Int) ((2^b:Nat):Int) !=0)=f.testBit b:=by
 rw[u32_and_nat f (2^b) A (mE z)];by_cases h:f.testBit b=true
 ·rw[h];have:f&&&2^b≠0:=fun e=>(by rw[(EE f b).1 e] at h;cases h);simp;omega
 ·simp only[Bool.not_eq_true] at h;rw[h,(EE f b).2 h];rfl
def mo(is:LN):Prop:=is.Pairwise (·<·)∧∀i∈is,i<31
def orB(is:LN):Nat:=is.foldl (fun f i=>f|||2^ip i) 0
theorem qO:∀i,i<31→∀j,j<31→(i<j↔fo i<fo j):=by decide
theorem Iq:∀i,i<31→∀j,j<31→ip i=ip j→i=j:=by decide
theorem Ai(hi:i<31)(A:j<31)(h:fo i=fo j):i=j:=by
 rcases Nat.lt_trichotomy i j with z|z|z
 ·have:=(qO i hi j A).1 z;omega
 ·exact z
 ·have:=(qO j A i hi).1 z;omega
theorem EY{a:Nat}(z:a<4294967296)(A:b<4294967296):a|||b<4294967296:=Nat.or_lt_two_pow (n:=32) z A
theorem FI(is:LN)(f:Nat)(z:f<4294967296)(h:∀i∈is,i<31):is.foldl (fun f i=>f|||2^ip i) f<4294967296:=by
 induction is generalizing f with
 |nil=>exact z
 |cons i r ih=>exact ih _ (EY z (mE (yh i (h i (PB ..))))) (fun j A=>h j (O8 _ A))
theorem ux{is:LN}(h:mo is):orB is<4294967296:=FI is 0 (by decide) h.2
theorem Dg(is:LN)(f b:Nat):(is.foldl (fun f i=>f|||2^ip i) f).testBit b=(f.testBit b||is.any fun i=>decide (ip i=b)):=by
 induction is generalizing f with
 |nil=>simp
 |cons i r ih=>
  rw[List.foldl_cons,ih,Nat.testBit_or,Nat.testBit_two_pow,List.any_cons,Bool.or_assoc]
theorem LE(is:LN)(b:Nat):(orB is).testBit b=is.any fun i=>decide (ip i=b):=by
 unfold orB;rw[Dg];simp
theorem BU(a b:LN)(G:a.Pairwise (·<·))(I:b.Pairwise (·<·))(h:∀x,x∈a↔x∈b):a=b:=by
 induction a generalizing b with
 |nil=>
  cases b with
  |nil=>rfl
  |cons y r=>have:=(h y).2 (PB ..);cases this
 |cons x r ih=>
  cases b with
  |nil=>have:=(h x).1 (PB ..);cases this
  |cons y s=>
   have J:∀{z},z∈r→x<z:=fun A=>List.rel_of_pairwise_cons G A;have K:∀{z},z∈s→y<z:=fun A=>List.rel_of_pairwise_cons I A;have L:x=y:=by
    rcases Pd.1 ((h x).1 (PB ..)) with e|e
    ·exact e
    ·rcases Pd.1 ((h y).2 (PB ..)) with E|E
     ·exact E.symm
     ·have:=K e;have:=J E;omega
   subst L;congr 1;refine ih s G.of_cons I.of_cons (fun z=>⟨fun A=> ?_,fun A=> ?_⟩)
   ·rcases Pd.1 ((h z).1 (O8 _ A)) with e|e
    ·subst e;have:=J A;omega
    ·exact e
   ·rcases Pd.1 ((h z).2 (O8 _ A)) with e|e
    ·subst e;have:=K A;omega
    ·exact e
theorem Bx(n:Nat):(List.range n).Pairwise (·<·):=List.pairwise_lt_range
theorem lR{is:LN}(h:mo is):eD (orB is)=is.map fo:=by
 unfold eD gE;congr 1;refine BU _ _ ((Bx 31).filter _) h.1 (fun x=> ?_);rw[List.mem_filter,List.mem_range,LE,List.any_eq_true];constructor
 ·rintro⟨z,i,hi,e⟩;rw[←Iq i (h.2 i hi) x z (OU e)];exact hi
 ·intro z;exact⟨h.2 x z,x,z,by simp⟩
theorem yG(f:Nat):∃is,mo is∧eD f=is.map fo:=by
 refine⟨(List.range 31).filter fun i=>f.testBit (ip i),⟨(Bx 31).filter _,fun i hi=> ?_⟩,rfl⟩;have:=(List.mem_filter.1 hi).1;simpa using this
def kE(t:LN)(ok:Bool)(f:Nat):Prop:=(ok=true∧∃is,mo is∧t=is.map fo∧f=orB is)∨(ok=false∧f=0∧¬∃is,mo is∧t=is.map fo)
theorem Lr{a b:LN}(z:∀i∈a,i<31)(A:∀i∈b,i<31)(h:a.map fo=b.map fo):a=b:=by
 induction a generalizing b with
 |nil=>cases b with
  |nil=>rfl
  |cons y s=>simp at h
 |cons x r ih=>
  cases b with
  |nil=>simp at h
  |cons y s=>
   simp only[Pe,List.cons.injEq] at h;rw[Ai (z x (PB ..)) (A y (PB ..)) h.1,ih (fun i hi=>z i (O8 _ hi)) (fun i hi=>A i (O8 _ hi)) h.2]
theorem zI{t:LN}{ok':Bool}{E:Nat}(h:kE t ok f)(K:kE t ok' E):ok=ok'∧f=E:=by
 rcases h with⟨rfl,is,G,I,rfl⟩|⟨rfl,rfl,L⟩<;>rcases K with⟨rfl,M,z,A,rfl⟩|⟨rfl,rfl,J⟩
 ·have:=Lr G.2 z.2 (I.symm.trans A);subst this;exact⟨rfl,rfl⟩
 ·exact OH ⟨is,G,I⟩ J
 ·exact OH ⟨M,z,A⟩ L
 ·exact⟨rfl,rfl⟩
def lM(x k:Nat):Nat:=(List.range k).foldl (fun f j=>if l4 j=x then f|||2^j else f) 0
def lA(l:LN):Nat:=l.foldl (fun f x=>f|||lM x 31) 0
theorem td(x k:Nat):lM x (k+1)=if l4 k=x then lM x k|||2^k else lM x k:=by
 unfold lM;rw[List.range_succ,List.foldl_append];rfl
theorem zN(x k:Nat)(z:k≤31):lM x k<4294967296:=by
 induction k with
 |zero=>simp[lM]
 |succ k ih=>
  rw[td];split
  ·exact EY (ih (by omega)) (mE (by omega))
  ·exact ih (by omega)
theorem Fm:∀i,i<31→lM (fo i) 31=2^ip i:=by decide+kernel
theorem DR(l:LN)(x:Nat):lA (l++[x])=lA l|||lM x 31:=by unfold lA;rw[List.foldl_append];rfl
theorem Bq(l:LN):lA l<4294967296:=by
 have h:∀(l:LN) (f:Nat),f<4294967296→l.foldl (fun f x=>f|||lM x 31) f<4294967296:=by
  intro l
  induction l with
  |nil=>intro f z;exact z
  |cons x r ih=>intro f z;exact ih _ (EY z (zN x 31 (OV _)))
 exact h l 0 (by decide)
theorem xy(is:LN)(h:∀i∈is,i<31):lA (is.map fo)=orB is:=by
 have A:∀(is:LN) (f:Nat),(∀i∈is,i<31)→(is.map fo).foldl (fun f x=>f|||lM x 31) f=is.foldl (fun f i=>f|||2^ip i) f:=by
  intro is
  induction is with
  |nil=>intro f _;rfl
  |cons i r ih=>
   intro f z;simp only[Pe,List.foldl_cons];rw[Fm i (z i (PB ..))];exact ih _ (fun j E=>z j (O8 _ E))
 exact A is 0 h
theorem IJ{is:LN}(h:mo is):is.length≤31:=by
 have e:=OL List.length (lR h);rw[OW] at e;have:=j6 (orB is) 31;unfold eD at e;omega
theorem zm{t:LN}(h:eD (lA t)=t):kE t true (lA t):=by
 obtain⟨is,z,e⟩:=yG (lA t);have A:t=is.map fo:=(by rw[←e,h]);exact .inl ⟨rfl,is,z,A,by rw[A,xy is z.2]⟩
theorem B3{t:LN}(h:¬eD (lA t)=t):kE t false 0:=by
 refine .inr ⟨rfl,rfl,fun⟨is,z,e⟩=>h ?_⟩;rw[e,xy is z.2,lR z]
theorem AX{t:LN}(h:31<t.length):kE t false 0:=by
 refine .inr ⟨rfl,rfl,fun⟨is,z,e⟩=> ?_⟩;have:=IJ z;rw[e,OW] at h;omega
theorem Kc(f c k:Nat)(z:c≤123)(A:k≤31):(jh f (c-65)++iJ f c k).length≤2000:=by
 have:=GD f (c-65);have:=Dm f c k;rw[O1];omega
theorem kG(f:Nat)(w:World)(hf:f<4294967296):
  Calls prog 105 #[.int .u32 (f:Int)] w fun e w'=>e= .returned (.string (fw (eD f)))∧Below w.heap.size w w':=by
 go_enter func105,ntmps105;go_wp2;go_loopw [3,4,5] (fun o b _ wr=>∃c:Nat,65≤c∧c≤123∧b= .int .i32 (c:Int)∧dR wr w.heap.size o (jh f (c-65))∧Below w.heap.size w wr) (fun _ b _ _=>123-(intOf b).toNat)
 case atStart=>exact⟨65,by omega,by omega,rfl,dR.nil _ _,OX _ _⟩
 case round=>
  obtain⟨c,ac,ad,rfl,A,I⟩:=hrel;by_cases af:c<123
  ·have G:=a8 A;have E:=a8 I;clear A I;have ae:(c:Int)≤122:=(by omega);go_wp2;go_loopw [3,5] (fun o i wi=>∃k:Nat,k≤31∧i=iI k∧dR wi w.heap.size o (jh f (c-65)++iJ f c k)∧Below w.heap.size w wi) (fun _ i _=>31-(intOf i).toNat)
   case atStart=>exact⟨0,by omega,rfl,by simpa[iJ] using G.out,E⟩
   case round=>
    obtain⟨k,hk,rfl,A,I⟩:=hrel;clear G E;by_cases O:k<31
    ·have G:=a8 A;have E:=a8 I;have J:=a8 (yq f c k);have HL:=a8 (Kc f c k (by omega) hk);have HF:=a8 (F5 f k);clear A I;go_wp2_with fail;refine(pR k _ O).mono ?_;rintro e w1 ⟨rfl,rfl⟩;by_cases N:l4 k=c
     ·have he:((l4 k:Int)==(c:Int))=true:=(by rw[N];simp);go_wp2_with fail;refine(HF.out _ hf O).mono ?_;rintro e w2 ⟨rfl,rfl⟩;have ab:c<256:=(by omega);by_cases L:f.testBit k=true
      ·have z:=J.out;rw[N,L] at z;simp only[BEq.rfl,Bool.and_self,if_true] at z;rw[L];have K:=a8 z;clear z J;have U:=yZ w2 c;have Q:=G.alloc1 (.cells #[.int .u8 (c:Int)] 5);have Z:=E.size;go_wp2_with (at_builtin;refine eF _ rfl _ _ rfl w.heap.size u3 _ [c] rfl Q _ _ rfl U (by simp) (by have:=HL.out;simp only[Pf,PM];omega) (by simp;omega) ?_;intro v5 w5 R Y)
       rw[PH,←K.out] at R;have aa:=((E.alloc Z (.cells #[.int .u8 (c:Int)] 5)).grown Y (by simp;omega) (fun j h=>(OF Q j h).1))
       go_roundw
       case rel=>exact⟨k+1,by omega,by go_num,R,aa⟩
       case measure=>simp[intOf];omega
      ·simp only[Bool.not_eq_true] at L;have z:=J.out;rw[L] at z;simp only[Bool.and_false,Bool.false_eq_true,if_false,Pm] at z;rw[L];have K:=a8 z;clear z J;go_wp2;go_roundw
       case rel=>exact⟨k+1,by omega,by go_num,by rw[K.out];exact G.out,E⟩
       case measure=>simp[intOf];omega
     ·have he:((l4 k:Int)==(c:Int))=false:=(by simp;omega);have z:=J.out;rw[show(l4 k==c)=false from by simpa using N] at z;simp only[Bool.false_and,Bool.false_eq_true,if_false,Pm] at z;have K:=a8 z;clear z J;go_wp2;go_roundw
      case rel=>exact⟨k+1,by omega,by go_num,by rw[K.out];exact G.out,E⟩
      case measure=>simp[intOf];omega
    ·obtain rfl:k=31:=(by omega);have e:jh f (c-65)++iJ f c 31=jh f (c+1-65):=by
      rw[show c+1-65=(c-65)+1 from by omega,pY,show 65+(c-65)=c from by omega]
     rw[e] at A;have G:=a8 A;have E:=a8 I;clear A I;go_wp2;go_roundw
     case rel=>exact⟨c+1,by omega,by omega,by go_num,G,E⟩
     case measure=>simp[intOf];omega
  ·obtain rfl:c=123:=(by omega);have M:dR wr w.heap.size u3 (eD f):=(by rw[←Dy];exact A);obtain⟨a,cap,rfl⟩:=M.slice;have V:=fY wr a cap _ M.row;clear A M;generalize (eD f).length=n at V⊢;go_wp2;go_ret;exact⟨rfl,I⟩
theorem FG(s:BA)(f:Nat):((fw (eD f)).toList==s.toList)=decide (eD f=fF s):=by
 conv=>lhs;rw[←B9 s]
 exact qj (uh f 31 (OV _)) (Fo s)
theorem JF(a b:Nat)(z:a<4294967296)(A:b<4294967296):bits .or .u32 (a:Int) (b:Int)=((a|||b:Nat):Int):=u32_or_nat a b z A
theorem oK(s:BA)(w:World)(hs:s.size≤1048576):
  Calls prog 81 #[.string s] w fun e w'=>∃(ok:Bool) (f:Nat),e= .returned (.agg #[.bool ok,.int .u32 (f:Int)])∧kE (fF s) ok f∧Below w.heap.size w w':=by
 have hl:=jI s;go_enter func81,ntmps81;by_cases ak:31<s.size
 ·have hi:(31:Int)<(s.size:Int):=(by omega);go_wp2;refine OJ (li w.heap.size _ false 0 rfl rfl (OP w _)) rfl ⟨false,0,rfl,AX (by omega),(OX _ _).alloc (OV _) _⟩
 ·have hi:¬(31:Int)<(s.size:Int):=(by omega);have ac:=OP w (.cells #[.bool false,.int .u32 0] 154);have ab:=nAl w (.cells #[.bool false,.int .u32 0] 154);have I:=a8 (And.intro ac ab);clear ac ab;go_wp2;generalize w.alloc (.cells #[.bool false,.int .u32 0] 154)=w0 at I⊢;go_loopw [3,4,5] (fun f i _ wr=>∃k:Nat,k≤s.size∧i=iI k∧f= .int .u32 ((lA ((fF s).take k):Nat):Int)∧∃n,wr=w0.drewN n) (fun _ i _ _=>s.size-(intOf i).toNat)
  case atStart=>exact⟨0,O4 _,rfl,rfl,0,rfl⟩
  case round=>
   obtain⟨i,al,rfl,rfl,n,rfl⟩:=hrel;by_cases aj:i<s.size
   ·have O:=O5 (l:=fF s) (i:=i) (by omega);rw[qI s i aj] at O;have G:=Bq ((fF s).take i);have R:=a8 (OL lA O);rw[DR] at R;clear O;generalize lA ((fF s).take i)=F0 at G R⊢;go_wp2;go_loopw [3,5] (fun f j wr=>∃k:Nat,k≤31∧j=iI k∧f= .int .u32 ((F0|||lM s[i].toNat k:Nat):Int)∧∃n,wr=w0.drewN n) (fun _ j _=>31-(intOf j).toNat)
    case atStart=>exact⟨0,by omega,rfl,by simp[lM],n,rfl⟩
    case round=>
     obtain⟨k,hk,rfl,rfl,J⟩:=hrel;by_cases ad:k<31
     ·have K:=a8 J;clear J;have hL:=a8 (fun W=>pR k W ad);have hB:=zN s[i].toNat k hk;have HS:=a8 (td s[i].toNat k);have hO:=EY G hB;have hP:=mE ad;have af:=JF _ _ hO hP;generalize hy:F0|||lM s[i].toNat k=y at hO af⊢;by_cases U:l4 k=s[i].toNat
      ·have he:((l4 k:Int)==(s[i].toNat:Int))=true:=(by rw[U];simp);go_wp2;go_quiet((go_at_call 104;exact Calls.quiet_of_same (hL.out _)));go_wp2;go_roundw
       case rel=>
        refine⟨k+1,by omega,by go_num,?_,jp K _⟩;rw[HS.out,OS U,←Nat.or_assoc,hy];have e2:((2:Int)^k%4294967296)=((2^k:Nat):Int):=by
         have e3:((2^k:Nat):Int)=(2:Int)^k:=(by push_cast;rfl);rw[←e3];generalize (2^k:Nat)=q at hP⊢;omega
        rw[e2,af]
       case measure=>simp[intOf];omega
      ·have he:((l4 k:Int)==(s[i].toNat:Int))=false:=(by simp;omega);go_wp2;go_quiet((go_at_call 104;exact Calls.quiet_of_same (hL.out _)));go_wp2;go_roundw
       case rel=>
        refine⟨k+1,by omega,by go_num,?_,jp K _⟩;rw[HS.out,OR U,hy]
       case measure=>simp[intOf];omega
     ·obtain rfl:k=31:=(by omega);have K:=a8 J;clear J;go_wp2;go_roundw
      case rel=>exact⟨i+1,by omega,by go_num,by rw[R.out],K⟩
      case measure=>simp[intOf];omega
   ·obtain rfl:i=s.size:=(by omega);rw[Pc (by omega)];have G:=Bq (fF s);have A:=FG s (lA (fF s));have M:=a8 (fun W=>kG (lA (fF s)) W G);have Y:=a8 (@zm (fF s));have ae:=a8 (@B3 (fF s));generalize lA (fF s)=F at G A M Y ae⊢;generalize fw (eD F)=S at A M;go_wp2_with fail;refine(M.out _).mono ?_;rintro e z ⟨rfl,N⟩;have V:w.heap.size<w0.heap.size:=OT I.1;have E:z.heap[w.heap.size]? =some (.cells #[.bool false,.int .u32 0] 154 (0,0)):=(N.block w.heap.size V).trans I.1;have ah:Below w.heap.size w z:=(OI I.2 n).trans (N.mono (Nat.le_of_lt V));have c0:z.cell? ⟨w.heap.size,0,none⟩=some (.bool false):=(by rw[OK _ _ _ _ _ _ E];rfl);have c1:z.cell? ⟨w.heap.size,1,none⟩=some (.int .u32 0):=(by rw[OK _ _ _ _ _ _ E];rfl);have f0:z.frozen? ⟨w.heap.size,0,none⟩=false:=(by simp[World.frozen?,E]);have f1:z.frozen? ⟨w.heap.size,1,none⟩=false:=(by simp[World.frozen?,E]);have Q:=a8 E;have ag:∀(b:Bool) (y:Int),((z.setCell ⟨w.heap.size,0,none⟩ (.bool b)).setCell ⟨w.heap.size,1,none⟩ (.int .u32 y)).heap[w.heap.size]? =some (.cells #[.bool b,.int .u32 y] 154 (0,0)):=fun b y=>by
     rw[setCell_eq_setRow z _ 0 _ _ _ _ Q.out,setCell_eq_setRow _ _ 1 _ _ _ _ (setRow_heap z _ _ _ _ _ Q.out),setRow_setRow,setRow_heap z _ _ _ _ _ Q.out];rfl
    have Z:=a8 ag;have aa:=a8 ah;clear E ag ah N;by_cases L:eD F=fF s
    ·have ai:(S.toList==s.toList)=true:=(by rw[A,ON L]);clear A;go_wp2;exact OJ (li w.heap.size _ true (F:Int) rfl rfl (Z.out _ _)) rfl ⟨true,F,rfl,Y.out L,(aa.setCell (p:=⟨w.heap.size,0,none⟩) (OV _) _).setCell (p:=⟨w.heap.size,1,none⟩) (OV _) _⟩
    ·have ai:(S.toList==s.toList)=false:=(by rw[A,OM L]);clear A;go_wp2;exact OJ (li w.heap.size _ false 0 rfl rfl (Z.out _ _)) rfl ⟨false,0,rfl,ae.out L,(aa.setCell (p:=⟨w.heap.size,0,none⟩) (OV _) _).setCell (p:=⟨w.heap.size,1,none⟩) (OV _) _⟩
theorem Kp{r:Nat}(h:gI w g 31)(z:r<31):w.cell? ⟨g,r*2,none⟩=some (.int .i32 (fo r:Int))∧w.cell? ⟨g,r*2+1,none⟩=some (.int .u64 (ip r:Int)):=by
 have A:=qq (gW 31) r (by rw[fL];exact z);have E:=qr (gW 31) r (by rw[fL];exact z);have G:(gW 31)[r]'(by rw[fL];exact z)=yY r:=(by simp[gW,z]);rw[G] at A E;rw[OK w g _ _ _ _ h,OK w g _ _ _ _ h];simp only[kC,List.getElem?_toArray];exact⟨A,E⟩
theorem JE(is:LN)(r:Nat):orB (is++[r])=orB is|||2^ip r:=by unfold orB;rw[List.foldl_append];rfl
def rp(s:BA)(pos r:Nat)(is:LN):Prop:=pos≤s.size∧r≤31∧mo is∧(∀i∈is,i<r)∧(fF s).take pos=is.map fo∧∀js,mo js→js.map fo=fF s→js.take pos=is∧∀h:pos<js.length,r≤js[pos]
theorem CZ(s:BA):rp s 0 0 []:=⟨O4 _,by omega,⟨List.Pairwise.nil,fun i h=>nomatch h⟩,fun i h=>(nomatch h),rfl,fun z _ _=>⟨rfl,fun _=>O4 _⟩⟩
theorem sM{s:BA}{A:LN}(h:A.map fo=fF s)(E:z<s.size):∃G:z<A.length,fo A[z]=(s[z]'E).toNat:=by
 have I:A.length=s.size:=(by rw[←jI,←h,OW]);refine⟨by omega,?_⟩;have e:(A.map fo)[z]'(by rw[OW];omega)=(fF s)[z]'(by rw[jI];exact E):=(by simp only[h]);rw[Po,qI s z E] at e;exact e
theorem qK{s:BA}{r G:Nat}{is A:LN}{X:Int}(L:rp s z r is)(I:z<s.size)(O:X=((s[z]'I).toNat:Int))(J:∀j,r≤j→j<G→(fo j:Int)<X)(M:mo A)(h:A.map fo=fF s)(N:z<A.length):G≤A[z]:=by
 obtain⟨_,e⟩:=sM h I;have K:=(L.2.2.2.2.2 A M h).2 N;rcases PV A[z] G with E|E
 ·have:=J _ K E;omega
 ·exact E
theorem Fw{s:BA}{r:Nat}{is:LN}{X:Int}(N:rp s z r is)(E:z<s.size)(hX:X=((s[z]'E).toNat:Int))(hr:r≤A)(V:A<31)(Q:∀j,r≤j→j<A→(fo j:Int)<X)(he:(fo A:Int)=X):rp s (z+1) (A+1) (is++[A]):=by
 have R:=N;obtain⟨h1,h2,K,L,Y,Z⟩:=N;refine⟨by omega,by omega,⟨?_,?_⟩,?_,?_,?_⟩
 ·rw[PS];exact⟨K.1,List.pairwise_singleton _ _,fun a ha b M=>by simp at M;subst M;have:=L a ha;omega⟩
 ·intro i hi;rcases Pj.1 hi with h|h
  ·exact K.2 i h
  ·simp at h;omega
 ·intro i hi;rcases Pj.1 hi with h|h
  ·have:=L i h;omega
  ·simp at h;omega
 ·rw[O5 (by rw[jI];exact E),Y,qI s z E,O7];simp;omega
 ·intro J G h;obtain⟨I,e⟩:=sM h E;have aa:=qK R E hX Q G h I;have O:J[z]<31:=G.2 _ (O6 I);have U:J[z]=A:=Ai O V (by omega);refine⟨by rw[O5 I,(Z J G h).1,U],fun hn=> ?_⟩;have:=Pn.1 G.1 z (z+1) I hn (by omega);omega
theorem vv{s:BA}{r:Nat}{is:LN}{X:Int}(L:rp s z r is)(E:z<s.size)(A:X=((s[z]'E).toNat:Int)∨128≤(s[z]'E).toNat)(K:∀j,r≤j→j<31→(fo j:Int)<X):kE (fF s) false 0:=by
 refine .inr ⟨rfl,rfl,fun⟨M,G,h⟩=> ?_⟩;obtain⟨I,e⟩:=sM h.symm E;have J:M[z]<31:=G.2 _ (O6 I);rcases A with A|A
 ·have:=qK L E A K G h.symm I;omega
 ·have:=ot _ J;omega
theorem ya{s:BA}{r:Nat}{is:LN}{X:Int}(Q:rp s z r is)(G:z<s.size)(E:X=((s[z]'G).toNat:Int)∨128≤(s[z]'G).toNat)(N:A<31)(M:∀j,r≤j→j<A→(fo j:Int)<X)(V:¬(fo A:Int)<X)(U:¬(fo A:Int)=X):kE (fF s) false 0:=by
 refine .inr ⟨rfl,rfl,fun⟨L,J,h⟩=> ?_⟩;obtain⟨K,e⟩:=sM h.symm G;have I:L[z]<31:=J.2 _ (O6 K);rcases E with E|E
 ·have R:=qK Q G E M J h.symm K;have O:fo L[z]<fo A:=(by omega);have:=(qO _ I _ N).2 O;omega
 ·have:=ot _ I;omega
theorem Hz{s:BA}{r:Nat}{is:LN}(z:rp s s.size r is):kE (fF s) true (orB is):=by
 refine .inl ⟨rfl,is,z.2.2.1,?_,rfl⟩;have:=z.2.2.2.2.1;rwa[Pc (by rw[jI];exact OV _)] at this
theorem E5(A z:Nat)(h:z<31):∃E:Nat,Value.slice (if 31-z=1 then some (⟨A,z*2,none⟩:Addr) else some ⟨A,z*2+2,none⟩) (31-z-1) (31-z-1)= .slice (some ⟨A,E,none⟩) (31-(z+1)) (31-(z+1))∧(z+1<31→E=(z+1)*2):=by
 by_cases e:31-z=1
 ·rw[OS e];exact⟨z*2,by rw[show 31-z-1=31-(z+1) from by omega],fun h=>by omega⟩
 ·rw[OR e];exact⟨z*2+2,by rw[show 31-z-1=31-(z+1) from by omega],fun h=>by omega⟩
theorem qH{u v:Value}(h:W.heap[B]? =some (.cells #[u,v] 154 (0,0)))(b:Bool)(y:Int):((W.setCell ⟨B,0,none⟩ (.bool b)).setCell ⟨B,1,none⟩ (.int .u32 y)).heap[B]? =some (.cells #[.bool b,.int .u32 y] 154 (0,0)):=by
 rw[setCell_eq_setRow W _ 0 _ _ _ _ h,setCell_eq_setRow _ _ 1 _ _ _ _ (setRow_heap W _ _ _ _ _ h),setRow_setRow,setRow_heap W _ _ _ _ _ h];rfl
def NX:Value→Nat
 | .slice _ n _=>n
 |_=>0
def KI(s:BA)(w:World)(e:Ending)(w':World):Prop:=∃(ok:Bool) (f:Nat),e= .returned (.agg #[.bool ok,.int .u32 (f:Int)])∧kE (fF s) ok f∧Below w.heap.size w w'
theorem oJ(s:BA)(w:World):
  Calls prog 176 #[.string s] w (KI s w):=by
 have E:=OP w (.cells #[.bool false,.int .u32 0] 154);have ak:=nAl w (.cells #[.bool false,.int .u32 0] 154);go_enter func176,ntmps176;go_wp2_with fail;generalize w.alloc (.cells #[.bool false,.int .u32 0] 154)=w0 at E ak⊢;refine(oS w0).mono ?_;rintro e w1 ⟨rfl,ab⟩;have az:w.heap.size<w0.heap.size:=OT E;have ax:=(ab.block _ az).trans E;have av:=ak.trans (ab.mono (Nat.le_of_lt az));have aN:=ab.size;clear E ak;go_wp2_with (first
  |(refine j3 _ rfl rfl ?_;intro w2 V K)
  |(refine j4 _ w1.heap.size 0 31 rfl _ _ rfl rfl rfl V ?_;intro I ao am))
 have ay:I.heap[w.heap.size]? =some (.cells #[.bool false,.int .u32 0] 154 (0,0)):=(am.block _ (by have:=K.size;omega) (by simp;omega)).trans ((K.block _ (by omega)).trans ax);have aw:Below w.heap.size w I:=(av.trans (K.mono (by omega))).grown am (by have:=K.size;omega) (fun k h=>by cases h;omega);have aD:w1.heap.size<I.heap.size:=OT ao;have ae:(I.iter s 0).heap[I.heap.size]? =some (.stringIter s 0):=World.iter_heap I s 0;have ac:Below I.heap.size I (I.iter s 0):=by
  have:=nAl I (.stringIter s 0);exact this
 have af:=ao.below ac;have ah:=(ac.block _ (by omega)).trans ay;have ag:=aw.trans (ac.mono (by omega));generalize aT:I.heap.size=G at ae aD⊢;generalize aS:w1.heap.size=O at af aD aN⊢;have aQ:w.heap.size<O:=(by omega);generalize I.iter s 0=w4 at ae af ah ag⊢;clear V K am ao ay aw ac ax av ab;generalize kC 31=TV;go_loopw [4,5,7] (fun v f _ wr=>∃(z r a:Nat) (is:LN),v= .slice (some ⟨O,a,none⟩) (31-r) (31-r)∧(r<31→a=r*2)∧f= .int .u32 ((orB is:Nat):Int)∧rp s z r is∧wr.heap[G]? =some (.stringIter s z)∧gI wr O 31∧wr.heap[w.heap.size]? =some (.cells #[.bool false,.int .u32 0] 154 (0,0))∧Below w.heap.size w wr) (fun _ _ _ wr=>s.size-wr.iterPos G)
 case atStart=>exact⟨0,0,0,[],rfl,fun _=>rfl,rfl,CZ s,ae,af,ah,ag⟩
 case round=>
  obtain⟨z,r,a,is,rfl,ha,rfl,U,hi,ht,Q,hw⟩:=hrel;clear ae af ah ag;by_cases J:z<s.size
  ·have an:∀R,(Instr.next (pP G) true R).run prog wr=_:=fun R=>Lib.run_next_any_at wr G s z R hi J;have hX:(((Utf8.decode s z).1:Int)=((s[z]'J).toNat:Int)∧(Utf8.decode s z).2=1)∨(128≤(s[z]'J).toNat∧(128:Int)≤((Utf8.decode s z).1:Int)):=by
    by_cases aE:(s[z]'J).toNat<128
    ·rw[decode_ascii s z J aE];exact .inl ⟨rfl,rfl⟩
    ·have:=decode_high s z J (by omega);exact .inr ⟨by omega,by omega⟩
   have aF:=decode_le s z;have ad:=Lib.iterAt_heap wr G s z (z+(Utf8.decode s z).2) hi;have V:gI (wr.iterAt G s (z+(Utf8.decode s z).2)) O 31:=(Lib.iterAt_other wr G O s _ (by omega)).trans ht;have K:=(Lib.iterAt_other wr G w.heap.size s (z+(Utf8.decode s z).2) (by omega)).trans Q;have ap:=Lib.below_iterAt hw (k:=G) (by omega) s (z+(Utf8.decode s z).2);have HM:Hid (wr.iterPos G=z):=(by show _=_;simp only[World.iterPos,hi]);generalize wr.iterAt G s (z+(Utf8.decode s z).2)=L at an ad V K ap;generalize (Utf8.decode s z).2=wd at hX ad;generalize (Utf8.decode s z).1=X at hX an aF;have N:=a8 (And.intro ad (And.intro K ap));have Z:=a8 U;have HT:=a8 V;clear hi ht Q hw ad K ap U;go_wp2;have aH:=Z.2.1;go_loop [4] (fun v=>∃A a':Nat,v= .slice (some ⟨O,a',none⟩) (31-A) (31-A)∧r≤A∧A≤31∧(A<31→a'=A*2)∧∀j,r≤j→j<A→(fo j:Int)<(X:Int)) (fun v=>NX v)
   case atStart=>exact⟨r,a,rfl,OV _,aH,ha,fun j h1 h2=>by omega⟩
   case round=>
    obtain⟨A,a',rfl,aM,aU,aJ,aa⟩:=hrel;by_cases M:A<31
    ·obtain⟨aR,aK⟩:=Kp HT M;have ea:=aJ M;subst ea;have aP:(0:Int)<((31-A:Nat):Int):=(by omega);have ai:=a8 aa;clear aa;by_cases aB:(fo A:Int)<(X:Int)
     ·have aL:(1:Int)≤((31-A:Nat):Int):=(by omega);clear aK;obtain⟨a2,e2,h2⟩:=E5 O A M;have HE:=a8 e2;clear e2;go_wp2;go_round
      case rel=>exact⟨A+1,a2,HE,by omega,by omega,h2,fun j h3 h4=>by
       by_cases e:j=A
       ·subst e;exact aB
       ·exact ai.out j h3 (by omega)⟩
      case measure=>rw[HE.out];simp only[NX];omega
     ·have E:=N.2.1;have c0:L.cell? ⟨w.heap.size,0,none⟩=some (.bool false):=(by rw[OK _ _ _ _ _ _ E];rfl);have c1:L.cell? ⟨w.heap.size,1,none⟩=some (.int .u32 0):=(by rw[OK _ _ _ _ _ _ E];rfl);have f0:L.frozen? ⟨w.heap.size,0,none⟩=false:=(by simp[World.frozen?,E]);have f1:L.frozen? ⟨w.heap.size,1,none⟩=false:=(by simp[World.frozen?,E]);have aO:(((31-A:Nat):Int)==0)=false:=(by simp;omega);clear E;by_cases al:(fo A:Int)=(X:Int)
      ·have aG:((fo A:Int)==(X:Int))=true:=(by simp[al]);have au:=yh A M;have aj:(X:Int)=((s[z]'J).toNat:Int)∧wd=1:=by
        rcases hX with h|h
        ·exact h
        ·have:=ot A M;omega
       have aq:=Fw Z J aj.1 aM M ai.out al;have hg:=Z.2.2.1;have aA:=ux hg;have aC:=JF (orB is) (2^ip A) aA (mE au);rw[←JE] at aC;have aL:(1:Int)≤((31-A:Nat):Int):=(by omega);obtain⟨a2,e2,h2⟩:=E5 O A M;have HE:=a8 e2;have aI:=a8 aq;clear e2 aq;go_wp2_with fail;refine(A8 (ip A) L au).mono ?_;rintro e w6 ⟨rfl,rfl⟩;generalize ((2^ip A:Nat):Int)=mk at aC⊢;go_wp2;go_roundw
       case rel=>
        obtain⟨q1,q2,q3⟩:=N.out;refine⟨z+1,A+1,a2,is++[A],HE,h2,rfl,aI,?_,HT,q2,q3⟩;rw[aj.2] at q1;exact q1
       case measure=>
        rw[HM.out];have q1:=N.1;rw[aj.2] at q1;simp only[World.iterPos,q1];omega
      ·have aG:((fo A:Int)==(X:Int))=false:=(by simp;omega);have ar:=ya Z J (hX.imp And.left And.left) M ai.out aB al;have Y:=a8 ar;clear ar;go_wp2;exact OJ (li w.heap.size _ false 0 rfl rfl (qH N.2.1 _ _)) rfl ⟨false,0,rfl,Y,(N.2.2.setCell (p:=⟨w.heap.size,0,none⟩) (OV _) _).setCell (p:=⟨w.heap.size,1,none⟩) (OV _) _⟩
    ·obtain rfl:A=31:=(by omega);have E:=N.2.1;have c0:L.cell? ⟨w.heap.size,0,none⟩=some (.bool false):=(by rw[OK _ _ _ _ _ _ E];rfl);have c1:L.cell? ⟨w.heap.size,1,none⟩=some (.int .u32 0):=(by rw[OK _ _ _ _ _ _ E];rfl);have f0:L.frozen? ⟨w.heap.size,0,none⟩=false:=(by simp[World.frozen?,E]);have f1:L.frozen? ⟨w.heap.size,1,none⟩=false:=(by simp[World.frozen?,E]);have Y:=a8 (vv Z J (hX.imp And.left And.left) aa);clear aa E;go_wp2;exact OJ (li w.heap.size _ false 0 rfl rfl (qH N.2.1 _ _)) rfl ⟨false,0,rfl,Y,(N.2.2.setCell (p:=⟨w.heap.size,0,none⟩) (OV _) _).setCell (p:=⟨w.heap.size,1,none⟩) (OV _) _⟩
  ·have an:∀R,(Instr.next (pP G) true R).run prog wr=_:=fun R=>Lib.run_next_end_at wr G s z R hi J;obtain rfl:z=s.size:=(by have:=U.1;omega);have Y:=a8 (Hz U);have aA:=ux U.2.2.1;have c0:wr.cell? ⟨w.heap.size,0,none⟩=some (.bool false):=(by rw[OK _ _ _ _ _ _ Q];rfl);have c1:wr.cell? ⟨w.heap.size,1,none⟩=some (.int .u32 0):=(by rw[OK _ _ _ _ _ _ Q];rfl);have f0:wr.frozen? ⟨w.heap.size,0,none⟩=false:=(by simp[World.frozen?,Q]);have f1:wr.frozen? ⟨w.heap.size,1,none⟩=false:=(by simp[World.frozen?,Q]);have HB:=a8 (And.intro Q hw);clear Q hw U ht;go_wp2;exact OJ (li w.heap.size _ true ((orB is:Nat):Int) rfl rfl (qH HB.1 _ _)) rfl ⟨true,orB is,rfl,Y,(HB.2.setCell (p:=⟨w.heap.size,0,none⟩) (OV _) _).setCell (p:=⟨w.heap.size,1,none⟩) (OV _) _⟩
theorem oI(f:Nat)(w:World)(hf:f<4294967296):
  Calls prog 93 #[.int .u32 (f:Int)] w fun e w'=>e= .returned (.string (fw (eD f)))∧Below w.heap.size w w':=by
 have L:ng (w.alloc (.cells #[.pointer none,sN] 221)) w.heap.size []:=by
  refine⟨Lib.fresh_isBuilder _ _ w,fun _=> ?_⟩;rw[OK _ _ _ _ _ _ (OP w _)];rfl
 have I:Below w.heap.size w (w.alloc (.cells #[.pointer none,sN] 221)):=(OX _ _).alloc (OV _) _;go_enter func93,ntmps93;go_wp2_with fail;generalize w.alloc (.cells #[.pointer none,sN] 221)=w0 at L I⊢;refine(oS w0).mono ?_;rintro e w1 ⟨rfl,N⟩;have ab:=L.below N;have ad:=I.trans (N.mono I.size);clear L I N;generalize hT:kC 31=T;go_wp2;go_loopw [5,7] (fun _ i wr=>∃k:Nat,k≤31∧i=iI k∧ng wr w.heap.size (gE f k)∧Below w.heap.size w wr) (fun _ i _=>31-(intOf i).toNat)
 case atStart=>exact⟨0,by omega,rfl,ab,ad⟩
 case round=>
  obtain⟨k,hk,rfl,K,V⟩:=hrel;clear ab ad;by_cases Q:k<31
  ·have Y:=yh k Q;have af:=ot k Q;have ae:=a8 (j6 f k);have J:=a8 (ug f k);have hW:=a8 V;have ah:=a8 K;clear V K;go_wp2_with (refine ro _ k rfl _ _ rfl (by rw[←hT];rfl) rfl Q ?_)
   have G:=nAl wr (.cells #[.int .i32 (fo k:Int),.int .u64 (ip k:Int)] 224);have ai:(wr.alloc (.cells #[.int .i32 (fo k:Int),.int .u64 (ip k:Int)] 224)).cell? ⟨wr.heap.size,0,none⟩=some (.int .i32 (fo k:Int)):=(by rw[OK _ _ _ _ _ _ (OP wr _)];rfl);have M:=ah.out.below G;have R:=hW.out.trans (G.mono hW.out.size);generalize wr.alloc (.cells #[.int .i32 (fo k:Int),.int .u64 (ip k:Int)] 224)=w2 at G ai M R⊢;refine(A8 (ip k) w2 Y).mono ?_;rintro e w3 ⟨rfl,rfl⟩;have E:=Ht f (ip k) hf Y;have Z:=a8 M;have aa:=a8 R;clear M R G;by_cases A:f.testBit (ip k)=true
   ·rw[A] at E;have z:=J.out;rw[OS A] at z;have U:=a8 z;clear J z;generalize ((2^ip k:Nat):Int)=m at E⊢;go_wp2_with fail;refine(sJ w.heap.size (gE f k) (fo k) w3 af Z (by have:=ae.out;omega)).mono ?_;rintro e w4 ⟨rfl,ac,O⟩;have aj:=aa.trans O;rw[←U.out] at ac;go_wp2;go_roundw
    case rel=>exact⟨k+1,by omega,by go_num,ac,aj⟩
    case measure=>simp[intOf];omega
   ·simp only[Bool.not_eq_true] at A;rw[A] at E;have z:=J.out;rw[OR (by rw[A];simp),Pm] at z;have U:=a8 z;clear J z;generalize ((2^ip k:Nat):Int)=m at E⊢;go_wp2;go_roundw
    case rel=>exact⟨k+1,by omega,by go_num,by rw[U.out];exact Z.out,aa⟩
    case measure=>simp[intOf];omega
  ·obtain rfl:k=31:=(by omega);have ag:ng wr w.heap.size (((gE f 31).map UInt8.ofNat).map UInt8.toNat):=(by rw[uk _ (uh f 31 (OV _))];exact K);clear K;go_wp2_with fail;refine(pA w.heap.size _ wr ag).mono ?_;rintro e w4 ⟨rfl,O⟩;go_wp2;go_ret;exact⟨rfl,V.trans O⟩
end Go.Proofs.YtkkdfgnnlpohlaaGreatDoor
