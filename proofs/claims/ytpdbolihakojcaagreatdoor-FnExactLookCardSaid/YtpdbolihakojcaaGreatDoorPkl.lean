import Derived.Test.YtpdbolihakojcaaGreatDoorPkf
import Derived.Test.YtpdbolihakojcaaGreatDoorPkh
import Derived.Test.YtpdbolihakojcaaGreatDoorPkg
import Derived.Deep.LoopGhost
import Derived.Deep.RegionLaw
namespace Go.Proofs.YtpdbolihakojcaaGreatDoor
set_option maxRecDepth 20000
set_option linter.unusedVariables false
set_option linter.unusedSimpArgs false
set_option maxHeartbeats 4000000
open Go.RowKit
variable {W Y w w' w0 wr : World} {b : List UInt8} {A B at_ base' c cap e f g gs i j k lo m n u z : Nat} {R d is l : List Nat} {E G I J K L M N O v0 v1 v2 v3 v4 v5 v6 x y : Value} {o : Oper} {Q : Exit → Act → World → Prop} {bvs xs : List Value} {t : TypeId} {cs tmps : Array Value} {p : Addr} {a : Option Addr} {first ok : Bool} {s : ByteArray} {rs : List (List Nat)}
theorem lV(w:World)(y:Int)(x:Nat)(h:y=x):dW (w.alloc (.cells #[.int .u8 y] 5)) (some ⟨w.heap.size,0,none⟩) [x]:=by
 subst h;exact(i8 (B:=w.heap.size) (l:=[x]) (MH _) (by unfold maxLen;simp) (heap_alloc_new w _)).row
theorem zw(a:Option Addr)(cap:Nat)(r:List Nat)(w:World)(h1:1≤r.length)(h2:r.length≤2000)(hr:dW w a r)(hb:∀x∈r,x<256):
  Calls Tryz.prog 126 #[.slice a r.length cap] w fun e w'=>∃v,e= .returned v∧dO w' w.heap.size v (fp r)∧Below w.heap.size w w':=by
 have Y:dO (w.alloc (.cells #[.int .u8 ((r.length:Int)/256),.int .u8 ((r.length:Int)%256)] 5)) w.heap.size (.slice (some ⟨w.heap.size,0,none⟩) (hd2 r.length).length (hd2 r.length).length) (hd2 r.length):=by
  refine i8 (MH _) (by unfold maxLen;simp[hd2]) ?_;have e: #[Value.int .u8 ((r.length:Int)/256),.int .u8 ((r.length:Int)%256)]=((hd2 r.length).map bv).toArray:=by
   have e1:((r.length/256%256:Nat):Int)=(r.length:Int)/256:=(by omega);have e2:((r.length%256:Nat):Int)=(r.length:Int)%256:=(by omega);simp only[hd2,M0,Ns,bv,e1,e2]
  rw[e];exact heap_alloc_new w _
 have ad:Below w.heap.size w (w.alloc (.cells #[.int .u8 ((r.length:Int)/256),.int .u8 ((r.length:Int)%256)] 5)):=(MJ _ _).alloc (MH _) _;go_enter Tryz.func126,Tryz.ntmps126;go_wp2_with fail;refine(kM _ _ (hd2 r.length) _ (by simp[hd2]) Y.row).mono ?_;rintro e w2 ⟨rfl,O,R⟩;have ae:(w.alloc (.cells #[.int .u8 ((r.length:Int)/256),.int .u8 ((r.length:Int)%256)] 5)).heap.size=w.heap.size+1:=(by simp);have Q:Below w.heap.size w w2:=ad.trans (R.mono (by omega));have ab:=Y.below R (MH _);rw[ae] at O;have af:w.heap.size+1<w2.heap.size:=by
  have:=(World.ownsRow.lt O _ rfl).2;exact this
 clear Y ad;go_wp2_with (at_builtin;refine ez _ rfl _ _ rfl (w.heap.size+1) (.slice (some ⟨w.heap.size+1,0,none⟩) (hd2 r.length).length (hd2 r.length).length) (hd2 r.length) r rfl O _ _ rfl (hr.below Q) (by omega) (by simp[hd2];omega) (by omega) ?_;intro v3 Z V U;obtain⟨a3,c3,rfl⟩:=V.slice)
 have aa:Below w.heap.size w Z:=Q.grown U (by omega) (fun k h=>by simp[Value.ownBlock] at h;omega);have ac:dO Z w.heap.size (.slice (some ⟨w.heap.size,0,none⟩) (hd2 r.length).length (hd2 r.length).length) (hd2 r.length):=World.ownsRow.kept ab U (.inr (by simp[Value.ownBlock]));have ag:=yA (hd2 r.length++r) (FK (GJ _) hb);rw[←MT];refine(AA a3 c3 (hd2 r.length++r) Z (by simp[hd2];omega) V.row (FK (GJ _) hb)).mono ?_;rintro e w4 ⟨rfl,rfl⟩;have HF:Hid (fp r=hd2 r.length++be4 (lw (hd2 r.length++r))++r):=rfl;clear V U ab O Q af ae R;generalize lw (hd2 r.length++r)=c at ag HF⊢;go_wp2;go_loopw [3,5] (fun v i wr=>∃j:Nat,j≤4∧i= .int .i64 (3-(j:Int))∧dO wr w.heap.size v (hd2 r.length++(be4 c).take j)∧Below w.heap.size w wr) (fun _ i _=>(intOf i+1).toNat)
 case atStart=>exact⟨0,by omega,rfl,by rw[List.take_zero,Nn];exact ac,aa⟩
 case round=>
  obtain⟨j,hj,rfl,E,M⟩:=hrel;clear ac aa;have N:=M.size;rcases (show j=0∨j=1∨j=2∨j=3∨j=4 from by omega) with rfl|rfl|rfl|rfl|rfl
  ·have A:=lV wr ((c:Int)/16777216) ((be4 c)[0]'(by simp[be4])) (by first|(simp[be4];done)|(simp[be4];omega));have K:=E.alloc (.cells #[.int .u8 ((c:Int)/16777216)] 5);have G:Hid (hd2 r.length++(be4 c).take (0+1)=(hd2 r.length++(be4 c).take 0)++[(be4 c)[0]'(by simp[be4])]):=by
    show _=_;rw[MP (by simp[be4]),Nz]
   generalize (be4 c)[0]'(by simp[be4])=x at A G;go_wp2_with (at_builtin;refine ez _ rfl _ _ rfl w.heap.size u3 (hd2 r.length++(be4 c).take 0) [x] rfl K _ _ rfl A (by simp) (by simp[hd2,be4]) (by simp;omega) ?_;intro v5 J z I)
   rw[←G.out] at z;have L:Below w.heap.size w J:=(M.alloc N _).grown I (by simp;omega) (fun k h=>(World.ownsRow.lt E k h).1);go_roundw
   case rel=>exact⟨0+1,by omega,rfl,z,L⟩
   case measure=>simp[intOf]
  ·have A:=lV wr (((c:Int)/65536)%256) ((be4 c)[1]'(by simp[be4])) (by first|(simp[be4];done)|(simp[be4];omega));have K:=E.alloc (.cells #[.int .u8 (((c:Int)/65536)%256)] 5);have G:Hid (hd2 r.length++(be4 c).take (1+1)=(hd2 r.length++(be4 c).take 1)++[(be4 c)[1]'(by simp[be4])]):=by
    show _=_;rw[MP (by simp[be4]),Nz]
   generalize (be4 c)[1]'(by simp[be4])=x at A G;go_wp2_with (at_builtin;refine ez _ rfl _ _ rfl w.heap.size u3 (hd2 r.length++(be4 c).take 1) [x] rfl K _ _ rfl A (by simp) (by simp[hd2,be4]) (by simp;omega) ?_;intro v5 J z I)
   rw[←G.out] at z;have L:Below w.heap.size w J:=(M.alloc N _).grown I (by simp;omega) (fun k h=>(World.ownsRow.lt E k h).1);go_roundw
   case rel=>exact⟨1+1,by omega,rfl,z,L⟩
   case measure=>simp[intOf]
  ·have A:=lV wr (((c:Int)/256)%256) ((be4 c)[2]'(by simp[be4])) (by first|(simp[be4];done)|(simp[be4];omega));have K:=E.alloc (.cells #[.int .u8 (((c:Int)/256)%256)] 5);have G:Hid (hd2 r.length++(be4 c).take (2+1)=(hd2 r.length++(be4 c).take 2)++[(be4 c)[2]'(by simp[be4])]):=by
    show _=_;rw[MP (by simp[be4]),Nz]
   generalize (be4 c)[2]'(by simp[be4])=x at A G;go_wp2_with (at_builtin;refine ez _ rfl _ _ rfl w.heap.size u3 (hd2 r.length++(be4 c).take 2) [x] rfl K _ _ rfl A (by simp) (by simp[hd2,be4]) (by simp;omega) ?_;intro v5 J z I)
   rw[←G.out] at z;have L:Below w.heap.size w J:=(M.alloc N _).grown I (by simp;omega) (fun k h=>(World.ownsRow.lt E k h).1);go_roundw
   case rel=>exact⟨2+1,by omega,rfl,z,L⟩
   case measure=>simp[intOf]
  ·have A:=lV wr ((c:Int)%256) ((be4 c)[3]'(by simp[be4])) (by first|(simp[be4];done)|(simp[be4];omega));have K:=E.alloc (.cells #[.int .u8 ((c:Int)%256)] 5);have G:Hid (hd2 r.length++(be4 c).take (3+1)=(hd2 r.length++(be4 c).take 3)++[(be4 c)[3]'(by simp[be4])]):=by
    show _=_;rw[MP (by simp[be4]),Nz]
   generalize (be4 c)[3]'(by simp[be4])=x at A G;go_wp2_with (at_builtin;refine ez _ rfl _ _ rfl w.heap.size u3 (hd2 r.length++(be4 c).take 3) [x] rfl K _ _ rfl A (by simp) (by simp[hd2,be4]) (by simp;omega) ?_;intro v5 J z I)
   rw[←G.out] at z;have L:Below w.heap.size w J:=(M.alloc N _).grown I (by simp;omega) (fun k h=>(World.ownsRow.lt E k h).1);go_roundw
   case rel=>exact⟨3+1,by omega,rfl,z,L⟩
   case measure=>simp[intOf]
  ·have e4:(be4 c).take 4=be4 c:=rfl;rw[e4] at E;clear e4;go_wp2_with (at_builtin;refine ez _ rfl _ _ rfl w.heap.size u3 (hd2 r.length++be4 c) r rfl E _ _ rfl (hr.below M) (by omega) (by simp[hd2,be4];omega) N ?_;intro v5 J z I)
   go_ret;exact⟨_,rfl,by rw[HF.out];exact z,M.grown I N (fun k h=>(World.ownsRow.lt E k h).1)⟩
theorem dW.drop{b:Nat}(h:dW w (some ⟨b,z,none⟩) d)(g:Nat):dW w (some ⟨b,z+g,none⟩) (d.drop g):=fun G=>by
 simp at G;obtain⟨J,I,e,A⟩:=h (by omega);simp only[MK,Np,and_true] at e;obtain⟨rfl,rfl⟩:=e;refine⟨b,z+g,rfl,fun i E=> ?_⟩;simp at E;have:=A (g+i) (by omega);rw[←Nat.add_assoc] at this;rw[this];simp
theorem dW.at{b:Nat}(h:dW w (some ⟨b,z,none⟩) d)(i:Nat)(A:i<d.length):w.cell? ⟨b,z+i,none⟩=some (.int .u8 ((d.getD i 0:Nat):Int)):=by
 obtain⟨I,G,e,E⟩:=h (by omega);simp only[MK,Np,and_true] at e;obtain⟨rfl,rfl⟩:=e;rw[E i A];simp[A]
theorem ro(h:∀x∈d,x<256)(i:Nat):d.getD i 0<256:=by
 rcases NB i d.length with z|z
 ·simp[z];exact h _ (MO z)
 ·simp[Nf z]
def yj(w:World)(lo:Nat)(v:Value)(L:List (List Nat)×Nat):Prop:=∃vr vs,v= .agg #[vr,.int .i64 (L.2:Int)]∧eF w lo vr vs L.1
theorem eF.mono{v:Value}{I:List Value}{G:List (List Nat)}(h:eF w lo v I G)(E:z≤lo):eF w z v I G:=by
 obtain⟨A,M,N⟩:=h;refine⟨?_,fun i O=> ?_,N⟩
 ·refine⟨A.1,?_⟩;rcases A.2 with Q|⟨g,cap,L,rfl,J,K⟩
  ·exact .inl Q
  ·exact .inr ⟨g,cap,L,rfl,MN E J,K⟩
 ·obtain⟨x,U,R⟩:=M i O;exact⟨x,U,R.mono E⟩
theorem DE{z:World}{v u:Value}{M:List Value}{r:List Nat}(Y:B+2≤wr.heap.size)(V:wr.heap.size≤z.heap.size)(J:fV z B x y)(K:fV z (B+1) N O)(L:eF z (B+2) v M rs)(U:dO z (B+2) u r)(R:Below B w z):
  eF (z.alloc (.cells #[u] e)) (B+2) v M rs∧(z.alloc (.cells #[u] e)).cell? ⟨z.heap.size,0,none⟩=some u∧dO (z.alloc (.cells #[u] e)) (B+2) u r∧
   ∀A,(z.alloc (.cells #[u] e)).grownBy A v.ownBlock→fV A B x y∧fV A (B+1) N O∧Below B w A∧B+2≤A.heap.size:=by
 have G:Below z.heap.size z (z.alloc (.cells #[u] e)):=(MJ _ _).alloc (MH _) _;refine⟨L.below G (MH _),?_,World.ownsRow.alloc U _,fun A E=> ?_⟩
 ·rw[cell_of_row _ _ 0 _ _ (0,0) (heap_alloc_new z _)];rfl
 ·have I:∀k,v.ownBlock=some k→B+2≤k:=fun k Q=>(World.ownsRow.lt L.1 k Q).1;refine⟨(J.below G J.lt).grown E (fun h=>by have:=I _ h.symm;omega),(K.below G K.lt).grown E (fun h=>by have:=I _ h.symm;omega),?_,?_⟩
  ·exact(R.alloc (by omega) _).grown E (by simp;omega) (fun k h=>by have:=I k h;omega)
  ·have:=E.size;simp at this;omega
theorem AT{z:World}{u:Value}{A:List Value}(J:fV z B x y)(K:fV z (B+1) v0 E)(L:eF z (B+2) v3 A rs)(G:Below B w z)(I:B+2≤z.heap.size):
  fV ((z.setCell ⟨B+1,0,none⟩ v3).setCell ⟨B+1,1,none⟩ u) B x y∧fV ((z.setCell ⟨B+1,0,none⟩ v3).setCell ⟨B+1,1,none⟩ u) (B+1) v3 u∧eF ((z.setCell ⟨B+1,0,none⟩ v3).setCell ⟨B+1,1,none⟩ u) (B+2) v3 A rs∧
   Below B w ((z.setCell ⟨B+1,0,none⟩ v3).setCell ⟨B+1,1,none⟩ u)∧B+2≤((z.setCell ⟨B+1,0,none⟩ v3).setCell ⟨B+1,1,none⟩ u).heap.size:=
 ⟨(J.other (by omega) _).other (by omega) _,(K.set0 _).set1 _,(L.other (by omega) _).other (by omega) _,(G.setCell (by simp) _).setCell (by simp) _,by simpa using I⟩
def Unf(w wr:World)(f:Nat)(d:List Nat)(rs:List (List Nat))(g:Nat)(vr:Value)(vs:List Value):Prop:=
 jX d f rs g=dP d∧d.length≤g+f∧g≤d.length∧rs.length≤g∧fV wr w.heap.size (.slice none 0 0) (.int .i64 0)∧fV wr (w.heap.size+1) vr (.int .i64 (g:Int))∧eF wr (w.heap.size+2) vr vs rs∧Below w.heap.size w wr∧w.heap.size+2≤wr.heap.size
theorem wM(a z:Option Addr)(cap A:Nat)(l m:List Nat)(w:World)(L:l.length≤1048576)(M:m.length≤1048576)(N:dW w a l)(K:dW w z m)(I:∀x∈l,x<256)(E:∀x∈m,x<256):
  Calls Tryz.prog 168 #[.slice a l.length cap,.slice z m.length A] w fun e w'=>e= .returned (.int .u32 ((lw (l++m):Nat):Int))∧w'=w:=by
 have G:eV 4294967295 l<4294967296:=jl _ I _ (by decide);have J:eV (eV 4294967295 l) m<4294967296:=jl _ E _ G;go_enter Tryz.func168,Tryz.ntmps168;go_wp2_with fail;refine(qp 4294967295 a cap l w (by decide) L N I).mono ?_;rintro e w' ⟨rfl,rfl⟩;go_wp2_with fail;refine(qp (eV 4294967295 l) z A m w' G M K E).mono ?_;rintro e w' ⟨rfl,rfl⟩;go_wp2;go_ret;exact⟨ru (by rw[H7 _ J,Jh];rfl),rfl⟩
theorem JV(z A x2 x3:Nat)(J:z<256)(K:A<256)(L:x2<256)(M:x3<256):
  bits .or .u32 (bits .or .u32 (bits .or .u32 ((z:Int)*16777216) ((A:Int)*65536)) ((x2:Int)*256)) (x3:Int)=((z*16777216+A*65536+x2*256+x3:Nat):Int):=by
 have E:((z:Int)*16777216)=((z*16777216:Nat):Int):=(by omega);have G:((A:Int)*65536)=((A*65536:Nat):Int):=(by omega);have I:((x2:Int)*256)=((x2*256:Nat):Int):=(by omega);rw[E,G,I,u32_or_nat _ _ (by omega) (by omega),nat_join 24 _ _ (by omega) (by omega),u32_or_nat _ _ (by omega) (by omega),nat_join 16 _ _ (by omega) (by omega),u32_or_nat _ _ (by omega) (by omega),nat_join 8 _ _ (by omega) (by omega)]
theorem Hy(z A:Nat)(G:z<256)(I:A<256):bits .or .u16 ((z:Int)*256) (A:Int)=((z*256+A:Nat):Int):=by
 have E:((z:Int)*256)=((z*256:Nat):Int):=(by omega);rw[E,u16_or_nat _ _ (by omega) (by omega),nat_join 8 _ _ (by omega) (by omega)]
theorem Af(b z cap A E x2 x3:Nat)(w:World)(I:A<256)(J:E<256)(K:x2<256)(L:x3<256)(G:dW w (some ⟨b,z,none⟩) [A,E,x2,x3]):
  Calls Tryz.prog 169 #[.slice (some ⟨b,z,none⟩) 4 cap] w fun e w'=>e= .returned (.int .u32 ((A*16777216+E*65536+x2*256+x3:Nat):Int))∧∃n,w'=w.drewN n:=by
 have M:w.cell? ⟨b,z,none⟩=some (.int .u8 (A:Int)):=G.at 0 (by simp);have N:w.cell? ⟨b,z+1,none⟩=some (.int .u8 (E:Int)):=G.at 1 (by simp);have O:w.cell? ⟨b,z+2,none⟩=some (.int .u8 (x2:Int)):=G.at 2 (by simp);have Q:w.cell? ⟨b,z+3,none⟩=some (.int .u8 (x3:Int)):=G.at 3 (by simp);go_enter Tryz.func169,Tryz.ntmps169;go_wp2;go_quiet(fail);go_wp2;go_ret;exact⟨ru (JV A E x2 x3 I J K L),_,rfl⟩
theorem Lv{d:List Nat}(h:6≤d.length):∃x0 x1 x2 x3 x4 x5 t,d=x0::x1::x2::x3::x4::x5::t:=by
 match d,h with
 |x0::x1::x2::x3::x4::x5::t,_=>exact⟨x0,x1,x2,x3,x4,x5,t,rfl⟩
theorem Em{x2 x3 x4 x5:Nat}{t:List Nat}(N:z<256)(O:A<256)(Q:x2<256)(R:x3<256)(U:x4<256)(V:x5<256)(L:∀x∈t,x<256)(Y:z*256+A≤t.length):
  lw ([z,A]++t.take (z*256+A))=x2*16777216+x3*65536+x4*256+x5↔fp (t.take (z*256+A))=z::A::x2::x3::x4::x5::t.take (z*256+A):=by
 have K:(t.take (z*256+A)).length=z*256+A:=(by simp;omega);have J:hd2 (z*256+A)=[z,A]:=by
  unfold hd2;have E:(z*256+A)/256%256=z:=(by omega);have G:(z*256+A)%256=A:=(by omega);rw[E,G]
 have I:=yA ([z,A]++t.take (z*256+A)) (by
  intro x M;rcases Nb.1 M with h|h
  ·simp at h;omega
  ·exact L x (M4 h))
 unfold fp;rw[K,J];generalize lw ([z,A]++t.take (z*256+A))=c at I⊢;simp only[be4,List.cons_append,Nq,List.cons.injEq,true_and,and_true];omega
theorem Bt(k n:Nat)(a z:Option Addr)(cap A:Nat)(l m:List Nat)(w:World)(J:k=l.length)(M:n=m.length)(K:l.length≤1048576)(L:m.length≤1048576)(N:dW w a l)(G:dW w z m)(I:∀x∈l,x<256)(E:∀x∈m,x<256):
  Calls Tryz.prog 168 #[.slice a k cap,.slice z n A] w fun e w'=>e= .returned (.int .u32 ((lw (l++m):Nat):Int))∧w'=w:=by
 subst J;subst M;exact wM a z cap A l m w K L N G I E
theorem sZ{P:Program}{f:FuncId}{args:Array Value}{a x:Nat}{v:Value}(h:Calls P f args (w.drewN (a+x)) fun e w'=>e= .returned v∧w'=w.drewN (a+x)):Calls P f args (w.drewN (a+x)) fun e z=>e= .returned v∧∃n,z=w.drewN (a+n):=
 h.mono fun _ _ ⟨A,E⟩=>⟨A,x,E⟩
theorem sY{P:Program}{f:FuncId}{args:Array Value}{a x:Nat}{v:Value}(h:Calls P f args (w.drewN (a+x)) fun e w'=>e= .returned v∧∃m,w'=(w.drewN (a+x)).drewN m):Calls P f args (w.drewN (a+x)) fun e z=>e= .returned v∧∃n,z=w.drewN (a+n):=
 h.mono fun _ _ ⟨A,m,E⟩=>⟨A,x+m,by rw[E,World.drewN_drewN,Nat.add_assoc]⟩
theorem FL{F:World→Prop}(h:∀W,W=wr.drewN k→F W):F (wr.drewN k):=h _ rfl
theorem E9(v:Value)(w:World):(callFunc 170 #[v]).run Tryz.prog w= .ok (.enter 170 #[v]) w:=by
 kernel_rfl
theorem x6{G:Array Oper}{z:Act}{K:Act→World→Prop}{E:Prop}(x:Operand)(ts:Array TypeId)(A:o.guard=none)
  (I:o.op= .call {callee:= .value (.func 170),args:= #[x],argTypes:=ts}) (v:Value) (M:z.eval x=v) (h:Calls Tryz.prog 170 #[v] w fun e w'=>∃u,e= .returned u∧K (z.put o.dst u) w'):
  if Region.wanted o (yielded G z.tmps)=true then Oper.wp Tryz.prog o z w K Q else E:=by
 have L:Region.wanted o (yielded G z.tmps)=true:=(by simp[Region.wanted,A]);rw[if_pos L];obtain⟨R,V,Y,U,N,O⟩:=o;simp only at I A;subst I;unfold Oper.wp;rw[execOp_call_go];simp only[List.map_toArray,M0,Ns,M,List.append_toArray,Nq,Nn,E9,Oper.upon_enter];refine h.mono ?_;rintro e w' ⟨u,rfl,J⟩;exact J
theorem Je(n:Nat)(a:Option Addr)(cap:Nat)(l:List Nat)(E:n=l.length)(w:World)(A:l.length≤1048576)(z:0<l.length)(G:dW w a l):
  Calls Tryz.prog 170 #[.slice a n cap] w fun e w'=>∃v,e= .returned v∧dO w' w.heap.size v l∧Below w.heap.size w w':=by
 subst E;exact uR a cap l w A z G
theorem Km{x2 x3 x4 x5:Nat}{t:List Nat}(L:d.drop g=z::A::x2::x3::x4::x5::t)(G:(z::A::x2::x3::x4::x5::t).length=d.length-g)(Y:jX d f rs g=dP d)
  (N:z<256) (O:A<256) (Q:x2<256) (R:x3<256) (U:x4<256) (V:x5<256) (Z:∀x∈t,x<256):
  1≤z*256+A→z*256+A≤2000→6+(z*256+A)≤d.length-g→(lw ([z,A]++t.take (z*256+A))=x2*16777216+x3*65536+x4*256+x5→fK (d.drop g)=some (t.take (z*256+A)))∧(¬lw ([z,A]++t.take (z*256+A))=x2*16777216+x3*65536+x4*256+x5→dP d=(rs,g)):=by
 intro n1 n2 n3;have e:gd (z::A::x2::x3::x4::x5::t)=z*256+A:=rfl;have K:=Em (x2:=x2) (x3:=x3) (x4:=x4) (x5:=x5) N O Q R U V Z (by simp at G;omega);have E:(z::A::x2::x3::x4::x5::t).drop 6=t:=rfl;have et:(z::A::x2::x3::x4::x5::t).take (6+(z*256+A))=z::A::x2::x3::x4::x5::t.take (z*256+A):=by
  rw[Nat.add_comm 6];rfl
 have I:¬(z::A::x2::x3::x4::x5::t).length<6:=(by simp);have J:¬(gd (z::A::x2::x3::x4::x5::t)<1∨2000<gd (z::A::x2::x3::x4::x5::t)∨(z::A::x2::x3::x4::x5::t).length<6+gd (z::A::x2::x3::x4::x5::t)):=(by rw[e,G];omega);rw[←Y,L];constructor
 ·intro h;have:=qw I J (by rw[e,E,et];exact K.1 h);rw[e,E] at this;exact this
 ·intro h;refine mT ?_;rw[L];exact rV I J (by rw[e,E,et];exact fun M=>h (K.2 M))
theorem IU{z A:World}{v u:Value}{L:List Value}{r:List Nat}(I:fV z B x y)(J:fV z (B+1) M N)(R:eF z (B+2) v L rs)(Q:Below B w z)(K:B+2≤z.heap.size)(O:dO A z.heap.size u r)(E:Below z.heap.size z A):
  eF (A.alloc (.cells #[u] e)) (B+2) v L rs∧(A.alloc (.cells #[u] e)).cell? ⟨A.heap.size,0,none⟩=some u∧dO (A.alloc (.cells #[u] e)) (B+2) u r∧
   (∀G,(A.alloc (.cells #[u] e)).grownBy G v.ownBlock→fV G B x y∧fV G (B+1) M N∧Below B w G∧B+2≤G.heap.size)∧B+2≤(A.alloc (.cells #[u] e)).heap.size:=by
 have h:=DE (w:=w) (e:=e) K E.size (I.below E I.lt) (J.below E J.lt) (R.below E (MH _)) (O.mono K) (Q.trans (E.mono (by omega)));exact⟨h.1,h.2.1,h.2.2.1,h.2.2.2,by have:=E.size;simp;omega⟩
def C0(w w2:World)(B:Nat)(x y v y1 u:Value)(vs:List Value)(rs:List (List Nat))(R:List Nat):Prop:=
 ∀Y:World,Y.heap=(w2.alloc (.cells #[u] 52)).heap→Y.os=w2.os→Y.tape=w2.tape→Y.output=w2.output→
  eF Y (B+2) v vs rs∧Y.cell? ⟨w2.heap.size,0,none⟩=some u∧dO Y (B+2) u R∧B+2≤Y.heap.size∧∀w3,Y.grownBy w3 v.ownBlock→fV w3 B x y∧fV w3 (B+1) v y1∧Below B w w3∧B+2≤w3.heap.size
theorem Bi{A z:World}{v u:Value}{M:List Value}(h:C0 w A B x y v E u M rs R)(L:Y.grownBy z v.ownBlock)(G:Y.heap=(A.alloc (.cells #[u] 52)).heap:=by rfl)(I:Y.os=A.os:=by rfl)(J:Y.tape=A.tape:=by rfl)(K:Y.output=A.output:=by rfl):fV z B x y∧fV z (B+1) v E∧Below B w z∧B+2≤z.heap.size:=
 (h Y G I J K).2.2.2.2 z L
theorem sd{v:Value}(h:w.ownsRow z e 1 v n xs)(A:w'.heap=w.heap):w'.ownsRow z e 1 v n xs:=lB h fun g _ _=>by rw[A]
theorem Bv{v:Value}{E:List Value}{A:List (List Nat)}(h:eF w lo v E A)(z:w'.heap=w.heap):eF w' lo v E A:=by
 obtain⟨G,I,J⟩:=h;refine⟨sd G z,fun i K=> ?_,J⟩;obtain⟨x,M,L⟩:=I i K;exact⟨x,M,sd L z⟩
theorem FR{A:World}{v y1:Value}{Z:List Value}(j0:fV A B x y)(V:fV A (B+1) v y1)(jv:eF A (B+2) v Z rs)(jn:Below B w A)(js:B+2≤A.heap.size)(jr:dW A a R)(n cap:Nat)(U:n=R.length)(h1:R.length≤1048576)(h0:0<R.length):
  ∀W:World,W.heap=A.heap→W.os=A.os→W.tape=A.tape→W.output=A.output→Calls Tryz.prog 170 #[.slice a n cap] W fun e M=>∃I J,e= .returned (.slice I R.length J)∧(∀z∈Z,z.ownBlock=none∨z.ownBlock≠(Value.slice I R.length J).ownBlock)∧
   C0 w M B x y v y1 (.slice I R.length J) Z rs R∧M.cell? ⟨B+1,0,none⟩=some v∧B+1<M.heap.size:=by
 intro W K e2 e3 e4;have aa:dW W a R:=by
  intro hp;obtain⟨b,ab,rfl,hc⟩:=jr hp;refine⟨b,ab,rfl,fun i hi=> ?_⟩;rw[←hc i hi];exact World.cell?_of_block (by rw[K])
 refine(Je n a cap R U W h1 h0 aa).mono ?_;rintro e M ⟨v2,rfl,N,G⟩;obtain⟨I,J,rfl⟩:=N.slice;rw[K] at N;have O:Below A.heap.size A M:=⟨G.os.trans e2,G.tape.trans e3,G.output.trans e4,by rw[←K];exact G.size,fun k Q=>by rw[←K];exact G.block k (by rw[K];exact Q)⟩
 have hs:=O.size;refine⟨I,J,rfl,jv.ne_new N,?_,(V.below O V.lt).c0,by omega⟩;intro Y E ac ad ae;obtain⟨k1,k2,k3,k4,k5⟩:=IU (e:=52) j0 V jv jn js N O;refine⟨Bv k1 E,by rw[←k2];exact World.cell?_of_block (by rw[E]),sd k3 E,by rw[E];exact k5,fun w3 L=>k4 w3 ⟨L.os.trans ac,L.tape.trans ad,L.output.trans ae,by rw[←E];exact L.size,fun k Q U=>by rw[←E];exact L.block k (by rw[E];exact Q) U⟩⟩
theorem tK(n:Nat)(h:n≤65535):wrap64 (n:Int)=(n:Int):=by
 unfold wrap64;omega
theorem eF.drew{v:Value}{A:List Value}{z:List (List Nat)}(h:eF w lo v A z)(n:Nat):eF (w.drewN n) lo v A z:=h
theorem DF{x2 x3 x4 x5:Nat}{t:List Nat}(I:d.drop g=z::A::x2::x3::x4::x5::t)(E:(z::A::x2::x3::x4::x5::t).length=d.length-g)(G:jX d f rs g=dP d)
  (h:z*256+A<1∨2000<z*256+A∨d.length-g<6+(z*256+A)):dP d=(rs,g):=by
 rw[←G];refine mT ?_;rw[I];refine qu (by simp) ?_;have e:gd (z::A::x2::x3::x4::x5::t)=z*256+A:=rfl;rw[e,E];exact h
theorem qY(b A cap:Nat)(d:List Nat)(w:World)(hl:d.length≤40000)(aK:d.length≤cap)(aN:cap≤9223372036854775807)(hr:dW w (some ⟨b,A,none⟩) d)(hb:∀x∈d,x<256):
  Calls Tryz.prog 138 #[.slice (some ⟨b,A,none⟩) d.length cap] w fun e w'=>∃v,e= .returned v∧yj w' w.heap.size v (dP d)∧Below w.heap.size w w':=by
 have hd:decide ((40000:Int)<(d.length:Int))=false:=(by simp;omega);have HU:Hid (jX d d.length [] 0=dP d):=(by show _=_;unfold dP;rw[if_neg (by omega)]);go_enter Tryz.func138,Tryz.ntmps138;go_wp2
 go_step3
 go_wp2
 go_step3
 go_wp2
 go_loopg [4] d.length (fun f _ wr=>∃rs g vr E,Unf w wr f d rs g vr E)
 case atStart=>
  refine⟨[],0,.slice none 0 0,[],HU.out,by omega,by omega,by simp,?_,?_,eF.nil _ _,((MJ _ _).alloc (MH _) _).alloc (by simp) _,by simp⟩
  ·exact(Below.heap_alloc (w.alloc _) _ _ (by simp)).trans (heap_alloc_new w _)
  ·have h:=heap_alloc_new (w.alloc (.cells #[.slice none 0 0,.int .i64 0] 116)) (.cells #[.slice none 0 0,.int .i64 0] 116);simpa[fV] using h
 case round=>
  obtain⟨rs,g,vr,E,ar,aG,aQ,aT,hB,ac,I,G,ax⟩:=hrel;have HG:=a8 ar;clear ar HU;have c0:=ac.c0;have c1:=ac.c1;have f0:=ac.fz 0;have f1:=ac.fz 1;have V:=hB.c0;have Y:=hB.c1;have q0:=hB.fz 0;have q1:=hB.fz 1;have aR:(g:Int)≤(d.length:Int):=(by omega);have aI:=G.size;obtain⟨J,K,rfl⟩:=I.slice;by_cases h6:d.length-g<6
  ·have z:dP d=(rs,g):=(by rw[←dT HG];exact mT (lf (by simp;omega)));have HU:=a8 z;clear z HG;go_wp2;rw[Exit.noGoto_ret];refine bodyPost_ret (v:= .agg #[.slice J rs.length K,.int .i64 (g:Int)]) (by simp[results,Tryz.results138,go_sem,V,Y]) rfl ⟨_,rfl,?_,(G.setCell (MH _) _).setCell (MH _) _⟩;rw[dT HU];exact⟨_,E,rfl,((I.other (by omega) _).other (by omega) _).mono (by omega)⟩
  ·have aP:g+6≤cap:=(by omega);have O:=(hr.below G).drop g;have am:(d.drop g).length=d.length-g:=(by simp);obtain⟨M,N,x2,x3,x4,x5,t,L⟩:=Lv (d:=d.drop g) (by omega);have U:∀x∈d.drop g,x<256:=fun x L=>hb x (M7 L);rw[L] at O U am;have b0:M<256:=U M (by simp);have b1:N<256:=U N (by simp);have b2:x2<256:=U x2 (by simp);have b3:x3<256:=U x3 (by simp);have b4:x4<256:=U x4 (by simp);have b5:x5<256:=U x5 (by simp);have bt:∀x∈t,x<256:=fun x h=>U x (by simp[h]);have e0:wr.cell? ⟨b,A+g,none⟩=some (.int .u8 (M:Int)):=O.at 0 (by simp);have e1:wr.cell? ⟨b,A+g+1,none⟩=some (.int .u8 (N:Int)):=O.at 1 (by simp);have HX:=a8 L;have aj:=a8 am;have aE:=a8 O;clear L am O hr hb U;have aS:(g:Int)+6≤(d.length:Int):=(by omega);by_cases aL:g+6<cap
   ·go_wp2;go_quiet(fail);go_wp2;go_quiet(fail);rw[Hy M N b0 b1];have Q:=a8 (DF (rs:=rs) (f:=gk) (dT HX) (dT aj) (dT HG));generalize hn:M*256+N=n at Q⊢;have HN:=a8 hn;have an:n≤65535:=(by omega);rw[tK n an,show g+6-g=6 from by omega];clear hn e0 e1;by_cases k1:n<1
    ·have z:=a8 (dT Q (.inl k1));go_wp2;rw[Exit.noGoto_ret];refine bodyPost_ret (v:= .agg #[.slice J rs.length K,.int .i64 (g:Int)]) (by simp[results,Tryz.results138,go_sem,V,Y]) rfl ⟨_,rfl,?_,((below_drewN G _).setCell (MH _) _).setCell (MH _) _⟩;rw[dT z];exact⟨_,E,rfl,(((I.drew _).other (by omega) _).other (by omega) _).mono (by omega)⟩
    by_cases k2:2000<n
    ·have z:=a8 (dT Q (.inr (.inl k2)));go_wp2;rw[Exit.noGoto_ret];refine bodyPost_ret (v:= .agg #[.slice J rs.length K,.int .i64 (g:Int)]) (by simp[results,Tryz.results138,go_sem,V,Y]) rfl ⟨_,rfl,?_,((below_drewN G _).setCell (MH _) _).setCell (MH _) _⟩;rw[dT z];exact⟨_,E,rfl,(((I.drew _).other (by omega) _).other (by omega) _).mono (by omega)⟩
    by_cases k3:d.length-(g+6)<n
    ·have z:=a8 (dT Q (.inr (.inr (by omega))));go_wp2;rw[Exit.noGoto_ret];refine bodyPost_ret (v:= .agg #[.slice J rs.length K,.int .i64 (g:Int)]) (by simp[results,Tryz.results138,go_sem,V,Y]) rfl ⟨_,rfl,?_,((below_drewN G _).setCell (MH _) _).setCell (MH _) _⟩;rw[dT z];exact⟨_,E,rfl,(((I.drew _).other (by omega) _).other (by omega) _).mono (by omega)⟩
    ·have O:=dT aE;have hA:dW wr (some ⟨b,A+g,none⟩) [M,N]:=O.take 2;have af:dW wr (some ⟨b,A+(g+6),none⟩) (t.take n):=(by have:=(O.drop 6).take n;rw[Nat.add_assoc] at this;exact this);have hC:dW wr (some ⟨b,A+g+2,none⟩) [x2,x3,x4,x5]:=(O.drop 2).take 4;have ay:n=(t.take n).length:=(by have:=dT aj;simp at this;simp;omega);have ae:=a8 ay;clear ay O;have z1:(2:Int)≤((cap-g:Nat):Int):=(by omega);have z2:(n:Int)≤((cap-(g+6):Nat):Int):=(by omega);have z3:2<cap-g:=(by omega);have z4:(6:Int)≤((cap-g:Nat):Int):=(by omega);have ah:∀W:World,(∀a l,dW wr a l→dW W a l)→Calls Tryz.prog 168 #[.slice (some ⟨b,A+g,none⟩) 2 (cap-g),.slice (some ⟨b,A+(g+6),none⟩) n (cap-(g+6))] W fun e w'=>e= .returned (.int .u32 ((lw ([M,N]++t.take n):Nat):Int))∧w'=W:=
      fun W hW=>Bt 2 n _ _ _ _ [M,N] (t.take n) W rfl (dT ae) (by simp) (by have:=dT ae;omega) (hW _ _ hA) (hW _ _ af) (by intro x L;simp at L;omega) (fun x L=>bt x (M4 L))
     have ai:∀W:World,(∀a l,dW wr a l→dW W a l)→Calls Tryz.prog 169 #[.slice (some ⟨b,A+g+2,none⟩) 4 (cap-g-2)] W fun e w'=>e= .returned (.int .u32 ((x2*16777216+x3*65536+x4*256+x5:Nat):Int))∧∃m,w'=W.drewN m:=
      fun W hW=>Af b (A+g+2) (cap-g-2) x2 x3 x4 x5 W b2 b3 b4 b5 (hW _ _ hC)
     have ab:=a8 (Km (f:=gk) (rs:=rs) (dT HX) (dT aj) (dT HG) b0 b1 b2 b3 b4 b5 bt);rw[dT HN] at ab;have bR:∀x∈t.take n,x<256:=fun x L=>bt x (M4 L);generalize lw ([M,N]++t.take n)=c at ah ab;generalize t.take n=R at af ae ab bR;generalize x2*16777216+x3*65536+x4*256+x5=s4 at ai ab;by_cases ad:c=s4
     ·have aJ:((c:Int) !=(s4:Int))=false:=(by rw[ad];simp);have aq:fK (d.drop g)=some R:=(dT ab (by omega) (by omega) (by omega)).1 ad;obtain⟨f',ap,al,ao⟩:=AU (rs:=rs) aG aq;rw[dT HG] at al;have aC:=a8 al;have HF:=a8 ap;have aB:=a8 ao;clear al ap ao aq HG ad;go_wp2;go_quiet((first|(go_at_call 168;exact sZ (ah _ (fun a l h=>h.drew _)))|(go_at_call 169;exact sY (ai _ (fun a l h=>h.drew _)))));clear ah ai hA hC;go_wp2;refine FL (F:=fun W=>Code.wp _ _ _ _ W) ?_;intro W0 aa;have j0:fV W0 w.heap.size (.slice none 0 0) (.int .i64 0):=(by rw[aa];exact hB);have j1:fV W0 (w.heap.size+1) (.slice J rs.length K) (.int .i64 (g:Int)):=(by rw[aa];exact ac);have jv:eF W0 (w.heap.size+2) (.slice J rs.length K) E rs:=(by rw[aa];exact I);have jr:dW W0 (some ⟨b,A+(g+6),none⟩) R:=(by rw[aa];exact af);have jn:Below w.heap.size w W0:=(by rw[aa];exact below_drewN (below_drewN G _) _);have js:w.heap.size+2≤W0.heap.size:=(by rw[aa];exact ax);clear aa hB ac I af G ax aI c0 c1 f0 f1 V Y q0 q1;have d0:=j1.c0;have aA:rs.length≤1048576:=(by omega);have ak:Hid (R.length=n):=(dT ae).symm;have aM:n≤2000:=(by omega);have aF:=FR j0 j1 jv jn js jr n (cap-(g+6)) (dT ae) (by have:=dT ak;omega) (by have:=dT ak;omega);clear j0 j1 jv jn js jr;go_region_law (first
        |(refine x6 (.tmp 64) #[52] (by rfl) (by rfl) (.slice (some ⟨b,A+(g+6),none⟩) n (cap-(g+6))) (by rfl) ?_;refine(aF _ ?_ ?_ ?_ ?_).mono ?_;(exact rfl);(exact rfl);(exact rfl);(exact rfl);rintro e w2 ⟨a2,c2,rfl,au,ha,p1,l2⟩;have aD:=a8 au;have HA:=a8 ha;clear au ha;refine⟨_,rfl,?_⟩)
        |(refine rh _ (by rfl) (.tmp 61) (.tmp 66) (by rfl) (w.heap.size+2) (.slice J rs.length K) E rs (.slice a2 R.length c2) R w2.heap.size 1 (by rfl) (by rfl) ?_ ?_ ?_ ?_ ?_ ?_ ?_;(refine(dT HA _ ?_ ?_ ?_ ?_).1<;>rfl);(refine(dT HA _ ?_ ?_ ?_ ?_).2.1<;>rfl);(refine(dT HA _ ?_ ?_ ?_ ?_).2.2.1<;>rfl);(exact dT aD);(exact aA);(refine(dT HA _ ?_ ?_ ?_ ?_).2.2.2.1<;>rfl);intro v3 w3 aw aH;have Z:=Bi (dT HA) aH;obtain⟨a3,c3,rfl⟩:=aw.slice;have p3:=Z.2.1.c0;have f3:=Z.2.1.fz 0;have p4:=Z.2.1.c1;have f4:=Z.2.1.fz 1))
      all_goals
       have ag:=AT (u:= .int .i64 ((g:Int)+(6+(n:Int)))) Z.1 Z.2.1 aw Z.2.2.1 Z.2.2.2;go_wp2
       go_roundg f'
       case measure=>have:=dT HF;omega
       case rel=>
        refine⟨rs++[R],g+(6+R.length),.slice a3 (rs++[R]).length c3,E++[.slice a2 R.length c2],(dT aC).symm,by have:=dT aB;omega,by have:=dT ak;omega,by simp;omega,?_,?_,?_,?_,?_⟩
        ·simpa using ag.1
        ·rw[dT ak];simpa using ag.2.1
        ·simpa using ag.2.2.1
        ·simpa using ag.2.2.2.1
        ·simpa using ag.2.2.2.2
     ·have z:=a8 ((dT ab (by omega) (by omega) (by omega)).2 ad);have aJ:((c:Int) !=(s4:Int))=true:=(by simp;omega);clear ad;go_wp2;go_quiet((first|(go_at_call 168;exact sZ (ah _ (fun a l h=>h.drew _)))|(go_at_call 169;exact sY (ai _ (fun a l h=>h.drew _)))));clear ah ai hA hC af;go_wp2;rw[Exit.noGoto_ret];refine bodyPost_ret (v:= .agg #[.slice J rs.length K,.int .i64 (g:Int)]) (by simp[results,Tryz.results138,go_sem,V,Y]) rfl ⟨_,rfl,?_,((below_drewN G _).setCell (MH _) _).setCell (MH _) _⟩;rw[dT z];exact⟨_,E,rfl,(((I.drew _).other (by omega) _).other (by omega) _).mono (by omega)⟩
   ·have az:g+6=cap:=(by omega);have aO:d.length-(g+6)=0:=(by omega);obtain rfl:=az;go_wp2;go_quiet(fail);go_wp2;go_quiet(fail);rw[Hy M N b0 b1];have Q:=a8 (DF (rs:=rs) (f:=gk) (dT HX) (dT aj) (dT HG));generalize hn:M*256+N=n at Q⊢;have an:n≤65535:=(by omega);rw[tK n an,show g+6-g=6 from by omega];clear hn e0 e1;by_cases k1:n<1
    ·have z:=a8 (dT Q (.inl k1));go_wp2;rw[Exit.noGoto_ret];refine bodyPost_ret (v:= .agg #[.slice J rs.length K,.int .i64 (g:Int)]) (by simp[results,Tryz.results138,go_sem,V,Y]) rfl ⟨_,rfl,?_,((below_drewN G _).setCell (MH _) _).setCell (MH _) _⟩;rw[dT z];exact⟨_,E,rfl,(((I.drew _).other (by omega) _).other (by omega) _).mono (by omega)⟩
    by_cases k2:2000<n
    ·have z:=a8 (dT Q (.inr (.inl k2)));go_wp2;rw[Exit.noGoto_ret];refine bodyPost_ret (v:= .agg #[.slice J rs.length K,.int .i64 (g:Int)]) (by simp[results,Tryz.results138,go_sem,V,Y]) rfl ⟨_,rfl,?_,((below_drewN G _).setCell (MH _) _).setCell (MH _) _⟩;rw[dT z];exact⟨_,E,rfl,(((I.drew _).other (by omega) _).other (by omega) _).mono (by omega)⟩
    ·have z:=a8 (dT Q (.inr (.inr (by omega))));have k3:(0:Int)<(n:Int):=(by omega);go_wp2;rw[Exit.noGoto_ret];refine bodyPost_ret (v:= .agg #[.slice J rs.length K,.int .i64 (g:Int)]) (by simp[results,Tryz.results138,go_sem,V,Y]) rfl ⟨_,rfl,?_,((below_drewN G _).setCell (MH _) _).setCell (MH _) _⟩;rw[dT z];exact⟨_,E,rfl,(((I.drew _).other (by omega) _).other (by omega) _).mono (by omega)⟩
theorem pT(b A cap:Nat)(d:List Nat)(w:World)(E:40000<d.length):
  Calls Tryz.prog 138 #[.slice (some ⟨b,A,none⟩) d.length cap] w fun e w'=>∃v,e= .returned v∧yj w' w.heap.size v (dP d)∧Below w.heap.size w w':=by
 have z:dP d=([],0):=(by unfold dP;rw[if_pos E]);rw[z];clear z;go_enter Tryz.func138,Tryz.ntmps138;go_wp2
 go_step3
 go_wp2;rw[Exit.noGoto_ret];exact bodyPost_ret (v:= .agg #[.slice none 0 0,.int .i64 0]) (by simp[results,Tryz.results138,go_sem]) rfl ⟨_,rfl,⟨_,[],rfl,eF.nil _ _⟩,((MJ _ _).alloc (MH _) _).alloc (by simp) _⟩
theorem Ey(n:Nat)(a:Option Addr)(cap:Nat)(r:List Nat)(G:n=r.length)(w:World)(z:1≤r.length)(A:r.length≤2000)(I:dW w a r)(E:∀x∈r,x<256):
  Calls Tryz.prog 126 #[.slice a n cap] w fun e w'=>∃v,e= .returned v∧dO w' w.heap.size v (fp r)∧Below w.heap.size w w':=by
 subst G;exact zw a cap r w z A I E
theorem Ew(n:Nat)(a:Option Addr)(cap:Nat)(l:List Nat)(A:n=l.length)(w:World)(z:l.length≤1048576)(E:dW w a l):
  Calls Tryz.prog 17 #[.slice a n cap] w fun e w'=>e= .returned (.slice (some ⟨w.heap.size,0,none⟩) l.length l.length)∧dO w' w.heap.size (.slice (some ⟨w.heap.size,0,none⟩) l.length l.length) l∧Below w.heap.size w w':=by
 subst A;exact kM a cap l w z E
theorem uj(b z cap:Nat)(d:List Nat)(w:World)(A:d.length<6):
  Calls Tryz.prog 91 #[.slice (some ⟨b,z,none⟩) d.length cap] w fun e w'=>e= .returned (.tuple #[.slice none 0 0,.bool false])∧Below w.heap.size w w':=by
 go_enter Tryz.func91,Tryz.ntmps91;go_wp2;go_ret2;exact⟨rfl,MJ _ _⟩
theorem zu(b A cap:Nat)(d:List Nat)(w:World)(N:6≤d.length)(M:d.length≤40000)(G:dW w (some ⟨b,A,none⟩) d)(E:∀x∈d,x<256)(h:gd d<1∨2000<gd d∨d.length<6+gd d):
  Calls Tryz.prog 91 #[.slice (some ⟨b,A,none⟩) d.length cap] w fun e w'=>e= .returned (.tuple #[.slice none 0 0,.bool false])∧Below w.heap.size w w':=by
 have I:w.cell? ⟨b,A,none⟩=some (.int .u8 ((d.getD 0 0:Nat):Int)):=G.at 0 (by omega);have J:=G.at 1 (by omega);have K:d.getD 0 0<256:=ro E 0;have L:d.getD 1 0<256:=ro E 1;have O:(0:Int)<(d.length:Int):=(by omega);have Q:(1:Int)<(d.length:Int):=(by omega);have z:Hid (((d.getD 0 0:Nat):Int)*256+((d.getD 1 0:Nat):Int)=((gd d:Nat):Int)):=(by show _=_;simp[gd]);generalize gd d=n at h z;generalize d.getD 0 0=Y at I z K;generalize d.getD 1 0=Z at J z L;clear G E;go_enter Tryz.func91,Tryz.ntmps91;go_wp2;go_quiet(fail);rw[z.out];clear I J;by_cases R:n<1
 ·go_wp2;go_ret2;exact⟨rfl,below_drewN (MJ _ _) _⟩
 by_cases U:2000<n
 ·go_wp2;go_ret2;exact⟨rfl,below_drewN (MJ _ _) _⟩
 ·have V:d.length<6+n:=(by omega);clear h;go_wp2;go_ret2;exact⟨rfl,below_drewN (MJ _ _) _⟩
theorem xf(b A cap:Nat)(d:List Nat)(w:World)(hl:6≤d.length)(aw:d.length≤40000)(ap:d.length≤cap)(J:dW w (some ⟨b,A,none⟩) d)(Y:∀x∈d,x<256)(h1:1≤gd d)(h2:gd d≤2000)(h3:6+gd d≤d.length):
  Calls Tryz.prog 91 #[.slice (some ⟨b,A,none⟩) d.length cap] w fun e w'=>Below w.heap.size w w'∧((fp ((d.drop 6).take (gd d))=d.take (6+gd d)∧∃v,e= .returned (.tuple #[v,.bool true])∧dO w' w.heap.size v ((d.drop 6).take (gd d)))∨(¬fp ((d.drop 6).take (gd d))=d.take (6+gd d)∧e= .returned (.tuple #[.slice none 0 0,.bool false]))):=by
 have c0:w.cell? ⟨b,A,none⟩=some (.int .u8 ((d.getD 0 0:Nat):Int)):=J.at 0 (by omega);have c1:=J.at 1 (by omega);have an:d.getD 0 0<256:=ro Y 0;have ao:d.getD 1 0<256:=ro Y 1;have i0:(0:Int)<(d.length:Int):=(by omega);have i1:(1:Int)<(d.length:Int):=(by omega);have M:Hid (((d.getD 0 0:Nat):Int)*256+((d.getD 1 0:Nat):Int)=((gd d:Nat):Int)):=(by show _=_;simp[gd]);generalize gd d=n at h1 h2 h3 M⊢;generalize d.getD 0 0=x0 at c0 M an;generalize d.getD 1 0=x1 at c1 M ao;have N:((d.drop 6).take n).length=n:=(by simp;omega);have aa:∀x∈(d.drop 6).take n,x<256:=fun x E=>Y x (M7 (M4 E));have K:dW w (some ⟨b,A+6,none⟩) ((d.drop 6).take n):=(J.drop 6).take n;have I:=a8 (tZ ((d.drop 6).take n));generalize (d.drop 6).take n=R at N aa K I⊢;have z:=a8 N;clear N;go_enter Tryz.func91,Tryz.ntmps91;go_wp2;go_quiet(fail);rw[M.out];clear c0 c1;go_wp2_with fail;refine(Ey n (some ⟨b,A+6,none⟩) (cap-6) R (dT z).symm (w.drewN nq) (by have:=dT z;omega) (by have:=dT z;omega) K aa).mono ?_;rintro e w2 ⟨v2,rfl,Q,ab⟩;obtain⟨a2,c2,rfl⟩:=Q.slice;have ag:Below w.heap.size w w2:=(below_drewN (MJ w.heap.size w) nq).trans ab;have Z:dO w2 w.heap.size (.slice a2 (fp R).length c2) (fp R):=Q;have av:(fp R).length≤40000:=(by have:=dT I;have:=dT z;omega);clear Q ab;go_wp2;go_loopw [42] (fun i wr=>∃k:Nat,k≤(fp R).length∧i= .int .i64 k∧(fp R).take k=d.take k∧dO wr w.heap.size (.slice a2 (fp R).length c2) (fp R)∧Below w.heap.size w wr) (fun i _=>(fp R).length-(intOf i).toNat)
 case atStart=>exact⟨0,MQ _,rfl,rfl,Z,ag⟩
 case round=>
  obtain⟨k,hk,rfl,af,U,G⟩:=hrel;clear Z ag;have HT:=a8 af;clear af;by_cases O:k<(fp R).length
  ·have L:k<d.length:=(by have:=dT I;have:=dT z;omega);obtain⟨b2,ar,rfl,ac⟩:=U.row (by omega);have au:=ac k O;have ad:=(J.below G).at k L;have aq:wr.cell? ⟨b,A+k,none⟩=some (.int .u8 ((d[k]:Nat):Int)):=(by rw[ad];simp[L]);have ax:(k:Int)<(d.length:Int):=(by omega);have HO:=a8 U;have HN:=a8 G;clear ac ad U G J K;by_cases E:(fp R)[k]=d[k]
   ·have am:((((fp R)[k]:Nat):Int) !=((d[k]:Nat):Int))=false:=(by simp[E]);have V:=a8 E;clear E;go_wp2;go_quiet(fail);go_wp2;go_roundw
    case rel=>exact⟨k+1,by omega,by go_num,pq O L (dT HT) (dT V),dT HO,below_drewN (dT HN) _⟩
    case measure=>simp[intOf];omega
   ·have am:((((fp R)[k]:Nat):Int) !=((d[k]:Nat):Int))=true:=(by simp;omega);have V:=a8 E;clear E;go_wp2;go_quiet(fail);go_wp2;go_ret2;refine⟨below_drewN (dT HN) _,.inr ⟨fun h=>dT V ?_,rfl⟩⟩;have aj:k<6+n:=(by have:=dT I;have:=dT z;omega);have e1:(fp R)[k]? =some d[k]:=(by rw[h,List.getElem?_take,if_pos aj,MM L]);rw[MM O] at e1;simpa using e1
  ·have he:fp R=d.take (6+n):=by
    have ak:k=6+n:=(by have:=dT I;have:=dT z;omega);have ah:(fp R).take k=fp R:=MX (by omega);rw[←ah,dT HT,ak]
   have HE:=a8 he;clear he;go_wp2_with fail;refine(Ew n (some ⟨b,A+6,none⟩) (cap-6) R (dT z).symm wr (by have:=dT z;omega) (K.below G)).mono ?_;rintro e w4 ⟨rfl,al,ai⟩;have ae:=G.size;go_wp2;go_ret2;exact⟨G.trans (ai.mono ae),.inl ⟨dT HE,_,rfl,al.mono ae⟩⟩
theorem zt(b E cap:Nat)(d:List Nat)(w:World)(K:d.length≤40000)(N:d.length≤cap)(M:dW w (some ⟨b,E,none⟩) d)(L:∀x∈d,x<256):
  Calls Tryz.prog 91 #[.slice (some ⟨b,E,none⟩) d.length cap] w fun e w'=>Below w.heap.size w w'∧((∃r v,fK d=some r∧e= .returned (.tuple #[v,.bool true])∧dO w' w.heap.size v r)∨(fK d=none∧e= .returned (.tuple #[.slice none 0 0,.bool false]))):=by
 by_cases G:d.length<6
 ·refine(uj b E cap d w G).mono fun e w' ⟨z,A⟩=>⟨A,.inr ⟨lf G,z⟩⟩
 by_cases I:gd d<1∨2000<gd d∨d.length<6+gd d
 ·refine(zu b E cap d w (by omega) K M L I).mono fun e w' ⟨z,A⟩=>⟨A,.inr ⟨qu G I,z⟩⟩
 ·refine(xf b E cap d w (by omega) K N M L (by omega) (by omega) (by omega)).mono fun e w' ⟨A,h⟩=>⟨A,?_⟩
  rcases h with⟨J,v,z,O⟩|⟨J,z⟩
  ·exact .inl ⟨_,v,qw G I J,z,O⟩
  ·exact .inr ⟨rV G I J,z⟩
theorem rb(n b z cap:Nat)(w:World)(A:n<6):
  Calls Tryz.prog 91 #[.slice (some ⟨b,z,none⟩) n cap] w fun e w'=>e= .returned (.tuple #[.slice none 0 0,.bool false])∧w'=w:=by
 go_enter Tryz.func91,Tryz.ntmps91;go_wp2;go_ret2;exact⟨rfl,rfl⟩
theorem Ex(n b z cap:Nat)(d:List Nat)(I:n=d.length)(w:World)(E:d.length≤40000)(A:d.length≤cap)(J:dW w (some ⟨b,z,none⟩) d)(G:∀x∈d,x<256):
  Calls Tryz.prog 91 #[.slice (some ⟨b,z,none⟩) n cap] w fun e w'=>Below w.heap.size w w'∧((∃r v,fK d=some r∧e= .returned (.tuple #[v,.bool true])∧dO w' w.heap.size v r)∨(fK d=none∧e= .returned (.tuple #[.slice none 0 0,.bool false]))):=by
 subst I;exact zt b z cap d w E A J G
theorem qb(b A cap:Nat)(d:List Nat)(w:World)(E:40000<d.length):
  Calls Tryz.prog 59 #[.slice (some ⟨b,A,none⟩) d.length cap] w fun e w'=>∃v,e= .returned v∧yj w' w.heap.size v (dP d)∧Below w.heap.size w w':=by
 have z:dP d=([],0):=(by unfold dP;rw[if_pos E]);rw[z];clear z;go_enter Tryz.func59,Tryz.ntmps59;go_wp2;exact bodyPost_ret (v:= .agg #[.slice none 0 0,.int .i64 0]) (by simp[results,Tryz.results59,go_sem]) rfl ⟨_,rfl,⟨_,[],rfl,eF.nil _ _⟩,((MJ _ _).alloc (MH _) _).alloc (by simp) _⟩
theorem rf(b aa cap:Nat)(d:List Nat)(w:World)(hl:d.length≤40000)(ax:d.length≤cap)(hr:dW w (some ⟨b,aa,none⟩) d)(hb:∀x∈d,x<256):
  Calls Tryz.prog 59 #[.slice (some ⟨b,aa,none⟩) d.length cap] w fun e w'=>∃v,e= .returned v∧yj w' w.heap.size v (dP d)∧Below w.heap.size w w':=by
 have hd:decide ((40000:Int)<(d.length:Int))=false:=(by simp;omega);have K:Hid (jX d d.length [] 0=dP d):=(by show _=_;unfold dP;rw[if_neg (by omega)]);go_enter Tryz.func59,Tryz.ntmps59;go_wp2
 go_loopg [4] d.length (fun f _ wr=>∃rs g vr M,Unf w wr f d rs g vr M)
 case atStart=>
  refine⟨[],0,.slice none 0 0,[],K.out,by omega,by omega,by simp,?_,?_,eF.nil _ _,((MJ _ _).alloc (MH _) _).alloc (by simp) _,by simp⟩
  ·exact(Below.heap_alloc (w.alloc _) _ _ (by simp)).trans (heap_alloc_new w _)
  ·have h:=heap_alloc_new (w.alloc (.cells #[.slice none 0 0,.int .i64 0] 116)) (.cells #[.slice none 0 0,.int .i64 0] 116);simpa[fV] using h
 case round=>
  obtain⟨rs,g,vr,M,ah,ap,aE,aG,G,E,Q,O,ak⟩:=hrel;have J:=a8 ah;clear ah K;have c0:=E.c0;have c1:=E.c1;have f0:=E.fz 0;have f1:=E.fz 1;have aF:(g:Int)≤(d.length:Int):=(by omega);have au:=O.size;have aj:=hr.below O;by_cases aD:g<cap
  ·go_wp2_with fail;refine(Ex (d.length-g) b (aa+g) (cap-g) (d.drop g) (by simp) wr (by simp;omega) (by simp;omega) (aj.drop g) (fun x hx=>hb x (M7 hx))).mono ?_;rintro e w2 ⟨I,h2⟩;have L:=G.below I G.lt;have Y:=E.below I E.lt;have Z:=Q.below I (MH _);have ac:=a8 Q;have ad:Below w.heap.size w w2:=O.trans (I.mono au);have aw:=I.size;clear G E Q c0 c1 f0 f1 aj hr;have c0:=Y.c0;have c1:=Y.c1;have f0:=Y.fz 0;have f1:=Y.fz 1;have r0:=L.c0;have r1:=L.c1;have q0:=L.fz 0;have q1:=L.fz 1;rcases h2 with⟨r,v,z,rfl,ae⟩|⟨z,rfl⟩
   ·obtain⟨a2,c2,rfl⟩:=ae.slice;have ar:=mB z;simp only[MU] at ar;obtain⟨f',ag,ab,af⟩:=AU (rs:=rs) ap z;rw[dT J] at ab;have an:=a8 ab;have HF:=a8 ag;have am:=a8 af;clear ab ag af z J;have ao:=a8 ((dT ac).ne_new ae);clear ac;obtain⟨R,U,rfl⟩:=Z.slice;have HA:=a8 (DE (e:=52) ak aw L Y Z (ae.mono ak) ad);have al:rs.length≤1048576:=(by omega);clear L Z O I ad r0 r1 q0 q1;go_wp2_with (at_builtin;refine pw _ rfl _ _ rfl (w.heap.size+2) (.slice R rs.length U) M rs (.slice a2 r.length c2) r w2.heap.size 1 rfl rfl (dT HA).1 (dT HA).2.1 (dT HA).2.2.1 (dT ao) al (by simp;omega) ?_;intro v3 w3 ai aq;obtain⟨a3,c3,rfl⟩:=ai.slice;have A:=(dT HA).2.2.2 w3 aq;have ay:=A.2.1.c0;have az:=A.2.1.c1;have aA:=A.2.1.fz 0;have aB:=A.2.1.fz 1)
    have N:=AT (u:= .int .i64 ((g:Int)+(6+(r.length:Int)))) A.1 A.2.1 ai A.2.2.1 A.2.2.2
    go_roundg f'
    case measure=>have:=dT HF;omega
    case rel=>
     refine⟨rs++[r],g+(6+r.length),.slice a3 (rs++[r]).length c3,M++[.slice a2 r.length c2],(dT an).symm,by have:=dT am;omega,by omega,by simp;omega,?_,?_,?_,?_,?_⟩
     ·simpa using N.1
     ·simpa using N.2.1
     ·simpa using N.2.2.1
     ·simpa using N.2.2.2.1
     ·simpa using N.2.2.2.2
   ·have V:dP d=(rs,g):=(by rw[←dT J];exact mT z);have K:=a8 V;clear V J ac z;obtain⟨R,U,rfl⟩:=Z.slice;go_wp2;refine bodyPost_ret (v:= .agg #[.slice R rs.length U,.int .i64 (g:Int)]) (by simp[results,Tryz.results59,go_sem,r0,r1]) rfl ⟨_,rfl,?_,(ad.setCell (MH _) _).setCell (MH _) _⟩;rw[dT K];exact⟨_,M,rfl,((Z.other (by omega) _).other (by omega) _).mono (by omega)⟩
  ·obtain rfl:g=cap:=(by omega);have aC:d.length-g=0:=(by omega);have z:fK (d.drop g)=none:=lf (by simp;omega);have V:dP d=(rs,g):=(by rw[←dT J];exact mT z);have K:=a8 V;have r0:=G.c0;have r1:=G.c1;have q0:=G.fz 0;have q1:=G.fz 1;clear V J z;obtain⟨R,U,rfl⟩:=Q.slice;go_wp2_with fail;refine(rb 0 b aa 0 wr (by omega)).mono ?_;rintro e w2 ⟨rfl,rfl⟩;go_wp2;refine bodyPost_ret (v:= .agg #[.slice R rs.length U,.int .i64 (g:Int)]) (by simp[results,Tryz.results59,go_sem,r0,r1]) rfl ⟨_,rfl,?_,(O.setCell (MH _) _).setCell (MH _) _⟩;rw[dT K];exact⟨_,M,rfl,((Q.other (by omega) _).other (by omega) _).mono (by omega)⟩
end Go.Proofs.YtpdbolihakojcaaGreatDoor
