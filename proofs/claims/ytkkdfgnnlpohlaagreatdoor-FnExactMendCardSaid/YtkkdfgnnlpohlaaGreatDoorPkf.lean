import Derived.Test.YtkkdfgnnlpohlaaGreatDoorPka
import Derived.Test.YtkkdfgnnlpohlaaGreatDoorShelfS
import Derived.Test.YtkkdfgnnlpohlaaGreatDoorPkc
import Derived.Laws.CopyOwn
import Derived.Lib.SliceRun
import Derived.Lib.IndexMore
import Derived.Lib.ParseIntB
import Derived.Lib.ItoaMem
import Derived.Lib.SplitLaws
import Derived.Lib.IndexBytes
import Derived.Lib.IndexLaws
import Derived.Lib.CountLaws
namespace Go.Proofs.YtkkdfgnnlpohlaaGreatDoor
set_option maxRecDepth 20000
set_option linter.unusedVariables false
set_option linter.unusedSimpArgs false
set_option maxHeartbeats 4000000
open Go.RowKit Go.Proofs.Tryz
variable {W X Y w w' w0 wr : World} {A B at_ b b2 base' c cap e f g go gs hi i j k lo m n s u val z : Nat} {E G I J K L M N O u0 u1 u2 v0 v1 v2 v3 v4 v5 v6 x y : Value} {o : Oper} {Q : Exit → Act → World → Prop} {cs tmps : Array Value} {t : TypeId} {p : Addr} {l : List Nat} {bvs xs : List Value} {a : List UInt8} {first ok : Bool}
section
open Go.Maps
theorem mS:Keyed prog 3:=int_keyed underlying3
theorem mJ(w:World):(zeroValue 128).run prog w= .ok (.agg #[]) w:=by kernel_rfl
theorem Bm{nodes:Int}{z:List (BA×Int)}{k:Nat}(h:∀i (h:i<z.length),i<k→mB nodes z[i]=true∧∀k (E:k<i),apart z[k] z[i]=true)(E:k<z.length)(J:mB nodes z[k]=true)
  (L:∀h:0<k,Op.bytesLess z[k-1].1.toList z[k].1.toList=true) (M:Maps.has (gq z k) (.int .i64 z[k].2)=false):
  ∀i (h:i<z.length),i<k+1→mB nodes z[i]=true∧∀k (E:k<i),apart z[k] z[i]=true:=fun i hi N=>by
 by_cases e:i=k
 ·subst e;refine⟨J,fun j K=>ON ⟨?_,su M j (by omega) K⟩⟩;have A:=L (by omega);by_cases G:j=i-1
  ·subst G;exact A
  ·have I:=(h (i-1) (by omega) (by omega)).2 j (by omega);exact hV _ _ _ (OU I).1 A
 ·exact h i hi (by omega)
theorem rI(a:OA)(cap:Nat)(z:List (BA×Int))(nodes:Int)(w:World)(hn:z.length≤9223372036854775807)(aK:nodes≤1048576)(au:∀e∈z,e.1.size≤9223372036854775807)(hr:fI w a z):
  Calls prog 85 #[.slice a z.length cap,.int .i64 nodes] w fun e w'=>e= .returned (.bool (eU nodes z))∧Below w.heap.size w w':=by
 by_cases h6:300<z.length
 ·have hf:eU nodes z=false:=OM fun h=>(by omega);rw[hf];go_enter func85,ntmps85;go_wp2;go_ret;exact⟨rfl,OX _ _⟩
 have aG:= @run_makeMap prog;go_enter func85,ntmps85;go_wp2;clear aG;go_loopw [16] (fun i wr=>∃k:Nat,k≤z.length∧i= .int .i64 k∧(∀i (h:i<z.length),i<k→mB nodes z[i]=true∧∀k (hk:k<i),apart z[k] z[i]=true)∧wr.ownsMap prog 3 unitElem w.heap.size k (gq z k)∧Below w.heap.size w wr) (fun i _=>z.length-(intOf i).toNat)
 case atStart=>exact⟨0,O4 _,rfl,fun i _ h=>by omega,by rw[vR];exact World.ownsMap_made _ _ _ _,(OX _ _).alloc (OV _) _⟩
 case round=>
  obtain⟨k,hk,rfl,aw,ah,U⟩:=hrel;have HK:=a8 aw;have HR:=a8 hr;have ao:=a8 U;have aB:=a8 ah;clear aw;by_cases G:k<z.length
  ·obtain⟨b,aL,rfl,hc⟩:=(hr.below U) (by omega)
   obtain⟨aj,ak⟩:=hc k G;have af:=au _ (O6 G);have O:=a8 (U.alloc U.size (.cells #[.string z[k].1,.int .i64 z[k].2] 63));have N:=a8 (ed.new wr #[.string z[k].1,.int .i64 z[k].2] 63);have ae:=a8 (uu (nodes:=nodes) G);have E:=a8 (show mB nodes z[k]=decide (eX z[k].1=true∧0≤z[k].2∧z[k].2<nodes) from rfl);have L:=a8 (ah.alloc (.cells #[.string z[k].1,.int .i64 z[k].2] 63));clear hc hr U au ah aB;generalize av:z[k].1=nm at aj O N E af L;generalize am:z[k].2=nd at ak O N E L;have an:=a8 av;have R:=a8 am;clear av am;by_cases V:eX nm=true
   ·go_wp2_with fail;refine(kQ nm _ af).mono ?_;rintro e J ⟨rfl,I⟩;rw[V];have aA:=a8 V;have A:=bTr O I;have ac:=a8 (N.below I N.lt);have az:=a8 (j7 L I L.lt);clear V aj ak I O N L;have q0:J.cell? ⟨wr.heap.size,0,none⟩=some (.string nm):=(by rw[ac.cell];rfl);have q1:J.cell? ⟨wr.heap.size,1,none⟩=some (.int .i64 nd):=(by rw[ac.cell];rfl);by_cases g2:nd<0
    ·go_wp2;go_ret;exact⟨eN (ae.out (by rw[E.out];exact OM fun h=>by omega)).symm,A⟩
    by_cases g3:nodes≤nd
    ·go_wp2;go_ret;exact⟨eN (ae.out (by rw[E.out];exact OM fun h=>by omega)).symm,A⟩
    have ax:(Lit.int .i64 nd).wf=true:=WalkArith.wf_i64 (by omega);have M:keyOf prog 3 (.int .i64 nd)=some (.int .i64 nd):=keyOf_int_mk underlying3 ax;have HE:=a8 (show mB nodes z[k]=true from by rw[E.out];exact ON ⟨aA,by omega,by omega⟩);have al:=ac.lt;generalize wr.heap.size=B at q0 q1 al⊢;have q2:∀(n:Nat) (o:Obj),((J.drewN n).alloc o).cell? ⟨B,1,none⟩=some (.int .i64 nd):=fun n o=>by
     rw[((OX (J.drewN n).heap.size (J.drewN n)).alloc (OV _) o).cell (p:=⟨B,1,none⟩) al];exact q1
    clear ao ae E ac ax af;have K:∀n,(J.drewN n).ownsMap prog 3 (unitElem (H:=Unit)) w.heap.size k (gq z k):=fun _=>az.out;have ap:=a8 (fun(hl:∀h:0<k,Op.bytesLess z[k-1].1.toList z[k].1.toList=true) (hs:Maps.has (gq z k) (.int .i64 z[k].2)=false)=>Bm HK G HE hl hs);cases k with
    |zero=>
     have Y:Maps.has (gq z 0) (.int .i64 nd)=false:=rfl;have HH:=a8 Y;go_wp2;go_quiet(fail);go_wp2_with (first
      |(at_lookup;refine wpList_lookup_own_unit _ rfl _ _ 188 rfl 3 128 mS underlying188 (mJ _) w.heap.size (0) _ rfl (K _) _ _ rfl M ?_)
      |(at_mapUpdate;refine wpList_mapUpdate_own _ rfl _ _ _ 188 rfl 3 128 mS underlying188 (unitElem (H:=Unit)) w.heap.size (0) _ rfl ((K _).alloc _) (by unfold maxLen;omega) _ _ _ rfl rfl M _ [] unitElem_mk ?_;intro w3 aa Z)
      |go_in)
     refine⟨⟨0+1,by omega,by go_num,ap.out (fun h=>by omega) (by rw[R.out];exact HH.out),?_,?_⟩,by simp[intOf];omega⟩
     ·rw[oV z (0) G,R.out];exact aa
     ·exact((OI A nq).alloc A.size _).grown Z (O0 A.size (by simp)) (fun j hj=>by cases hj;exact OV _)
    |succ j=>
     obtain⟨b',aJ,aq,ar⟩:=(HR.below A) (by omega)
     simp only[OY,PG,and_true] at aq;obtain⟨rfl,rfl⟩:=aq;obtain⟨aH,aI⟩:=ar j (by omega);have Q:=a8 (fun(i:Nat) (hi:i<j+1)=>uv (nodes:=nodes) G hi);have ad:=a8 (fun(h:Op.bytesLess z[j].1.toList nm.toList=true)=>(fun _=>by rw[an.out];exact h:∀h:0<j+1,Op.bytesLess z[j+1-1].1.toList z[j+1].1.toList=true));have ab:=a8 (fun(h:Op.bytesLess z[j].1.toList nm.toList=false)=>Q.out j (by omega) (OM fun h'=>by have h2:=h'.1;rw[an.out,h] at h2;simp at h2));clear ar;generalize z[j].1=xm at aH ad ab;generalize z[j].2=xd at aI;by_cases ai:Op.bytesLess xm.toList nm.toList=true
     ·have ay:=a8 (ad.out ai);clear ad ab;by_cases Y:Maps.has (gq z (j+1)) (.int .i64 nd)=true
      ·have ag:Hid (eU nodes z=false):=by
        obtain⟨i,hi,aF,he⟩:=tN Y;exact Q.out i aF (OM fun h'=>h'.2 (by rw[he,R.out]))
       clear Q;go_wp2;go_quiet(fail);go_wp2_with (first
        |(at_lookup;refine wpList_lookup_own_unit _ rfl _ _ 188 rfl 3 128 mS underlying188 (mJ _) w.heap.size (j+1) _ rfl (K _) _ _ rfl M ?_)
        |(at_mapUpdate;refine wpList_mapUpdate_own _ rfl _ _ _ 188 rfl 3 128 mS underlying188 (unitElem (H:=Unit)) w.heap.size (j+1) _ rfl ((K _).alloc _) (by unfold maxLen;omega) _ _ _ rfl rfl M _ [] unitElem_mk ?_;intro w3 aa Z)
        |go_in)
       go_ret;exact⟨eN ag.symm,(OI A _).alloc A.size _⟩
      ·have aE:Maps.has (gq z (j+1)) (.int .i64 nd)=false:=(by simpa using Y);have HH:=a8 aE;clear Y Q;go_wp2;go_quiet(fail);go_wp2_with (first
        |(at_lookup;refine wpList_lookup_own_unit _ rfl _ _ 188 rfl 3 128 mS underlying188 (mJ _) w.heap.size (j+1) _ rfl (K _) _ _ rfl M ?_)
        |(at_mapUpdate;refine wpList_mapUpdate_own _ rfl _ _ _ 188 rfl 3 128 mS underlying188 (unitElem (H:=Unit)) w.heap.size (j+1) _ rfl ((K _).alloc _) (by unfold maxLen;omega) _ _ _ rfl rfl M _ [] unitElem_mk ?_;intro w3 aa Z)
        |go_in)
       refine⟨⟨j+1+1,by omega,by go_num,ap.out ay (by rw[R.out];exact HH.out),?_,?_⟩,by simp[intOf];omega⟩
       ·rw[oV z (j+1) G,R.out];exact aa
       ·exact((OI A nq).alloc A.size _).grown Z (O0 A.size (by simp)) (fun j hj=>by cases hj;exact OV _)
     ·have aD:Op.bytesLess xm.toList nm.toList=false:=(by simpa using ai);have ag:=a8 (ab.out aD);clear ai ad ab Q;go_wp2;go_quiet(fail);go_wp2;go_ret;exact⟨eN ag.symm,OI A _⟩
   ·have aC:eX nm=false:=(by simpa using V);go_wp2_with fail;refine(kQ nm _ af).mono ?_;rintro e J ⟨rfl,I⟩;rw[aC];have A:=bTr O I;clear aj ak I O N L;go_wp2;go_ret;exact⟨eN (ae.out (by rw[E.out];exact OM fun h=>V h.1)).symm,A⟩
  ·have hf:eU nodes z=true:=ON ⟨by omega,fun i h=>HK.out i h (by omega)⟩;have HF:=a8 hf;clear hf;go_wp2;go_ret;exact⟨eN HF.symm,ao⟩
end
theorem jA{l:LN}(z:B≤g)(A:l.length≤maxLen)(h:w.heap[g]? =some (.cells (l.map bv).toArray 5 (0,0))):dR w B (sS g l.length l.length) l:=
 ⟨by simp,.inr ⟨g,l.length,(l.map bv).toArray,rfl,z,h,OV _,A,by simp,by rw[Pc (by simp)]⟩⟩
theorem x6{l:LN}(h:dR w B (sS g l.length l.length) l):w.heap[g]? =some (.cells (l.map bv).toArray 5 (0,0)):=by
 rcases h.2 with⟨z,_⟩|⟨g',J,E,z,_,G,_,_,I,A⟩
 ·simp at z
 ·simp only[O3,OY,PG,and_true,true_and] at z;obtain⟨rfl,rfl⟩:=z;have:E=(l.map bv).toArray:=by
   apply Array.toList_inj.1;rw[←A,Pc (by simp[I])]
  rw[←this];exact G
theorem N7:(prog.info? 5).map (·.size)=some 1:=by kernel_rfl
theorem qy{L:Array Oper}{I:List Oper}{A:Act}(w:World)(U:o.guard=none)(d s:Operand)
  (ho:o.op= .call {callee:= .builtin .copy,args:= #[d,s],argTypes:= #[52,52]}) (B g:Nat) (w0:World) (z l:LN) (a:OA) (cap:Nat)
  (hd:A.eval d=sS g l.length l.length) (hs:A.eval s= .slice a l.length cap) (Z:Below B w0 w) (J:B≤g) (N:z.length=l.length) (hl:l.length≤1099511627776)
  (O:dR w B (sS g z.length z.length) z) (hr:dW w a l)
  (h:∀w',dR w' B (sS g l.length l.length) l→Below B w0 w'→wpList prog L Q I (A.put o.dst (goInt l.length)) w'):wpList prog L Q (o::I) A w:=by
 refine wpList_copy_splice U d s 52 52 ho 5 underlying52 N7 (some ⟨g,0,none⟩) a l.length l.length l.length cap hd hs g 0 (z.map bv) 5 ?_ (l.map bv) (by simp) ?_ (by simp;omega) ?_ B w0 Z J ?_
 ·exact x6 O
 ·intro Y;refine⟨rfl,?_⟩;obtain⟨b,aa,rfl,hc⟩:=hr (by simpa using Y);refine⟨_,rfl,fun j v G=> ?_⟩;have K:j<l.length:=by
   rcases PV j l.length with E|E
   ·exact E
   ·simp[Pt E] at G
  rw[ez,hc j K];simp[K,bv] at G;rw[G]
 ·intro u M;simp only[Pg] at M;obtain⟨y,_,rfl⟩:=M;rfl
 ·intro w' V R;rw[OW];refine h w' (jA J (by unfold maxLen;omega) ?_) R;have h:=V.out;rw[show splice (z.map bv) 0 (l.map bv)=l.map bv from by simp[splice,N]] at h;exact h
theorem lQ(a:OA)(cap:Nat)(l:LN)(w:World)(L:l.length≤1048576)(I:dW w a l):
  Calls prog 78 #[.slice a l.length cap] w fun e w'=>e= .returned (sS w.heap.size l.length l.length)∧dR w' w.heap.size (sS w.heap.size l.length l.length) l∧Below w.heap.size w w':=by
 go_enter func78,ntmps78;go_wp2_with (first|(at_make;refine lZ _ rfl _ _ rfl l.length rfl rfl (by omega) ?_;intro J A z)|(have K:=z;refine qy J rfl (.tmp 7) (.tmp 8) rfl w.heap.size w.heap.size w (List.replicate l.length 0) l a cap rfl rfl z (OV _) (by simp) (by omega) (by simpa using A) (I.below z) ?_;intro M G E))
 go_wp2;go_ret;exact⟨rfl,G,E⟩
theorem dR.alloc{v:Value}{l:LN}(h:dR w B v l)(o:Obj):dR (w.alloc o) B v l:=World.ownsRow.alloc h o
theorem De(a O:OA)(cap ad:Nat)(z ms:List (BA×Int))(w:World)(hl:z.length≤9223372036854775807)(hr:fI w a z)(ab:fI w O ms):
  Calls prog 110 #[.slice a z.length cap,.slice O ms.length ad] w fun e w'=>(∃r:Bool,e= .returned (.bool r)∧(r=true↔z=ms))∧∃n,w'=w.drewN n:=by
 by_cases M:z.length=ms.length
 ·have ai:((z.length:Int) !=(ms.length:Int))=false:=(by simp;omega);have HL:Hid (z.length=ms.length):=M;clear M;go_enter func110,ntmps110;go_wp2;go_loopw [5,13] (fun _ i wr=>∃k:Nat,k≤z.length∧i= .int .i64 k∧z.take k=ms.take k∧∃n,wr=w.drewN n) (fun _ i _=>z.length-(intOf i).toNat)
  case atStart=>exact⟨0,O4 _,rfl,rfl,0,rfl⟩
  case round=>
   obtain⟨k,hk,rfl,K,J⟩:=hrel;have L:Hid (∃n,wr=w.drewN n):=J;have ac:fI wr a z:=(by obtain⟨n,rfl⟩:=J;exact hr);have Y:fI wr O ms:=(by obtain⟨n,rfl⟩:=J;exact ab);clear J hr ab;by_cases aa:k<z.length
   ·have V:k<ms.length:=(by have:=HL.out;omega);obtain⟨b,ak,rfl,hc⟩:=ac (by omega);obtain⟨b',aj,rfl,Z⟩:=Y (by omega);obtain⟨c0,c1⟩:=hc k aa;obtain⟨d0,d1⟩:=Z k V;have HT:Hid (z.take k=ms.take k):=K;have A:=a8 (fun(h:z=ms)=>(show z[k].1=ms[k].1∧z[k].2=ms[k].2 from by subst h;exact⟨rfl,rfl⟩));have E:=a8 (fun Q R=>oQ aa V K Q R);clear hc Z K ac Y;generalize z[k].1=x1 at c0 A E;generalize z[k].2=x2 at c1 A E;generalize ms[k].1=y1 at d0 A E;generalize ms[k].2=U at d1 A E;by_cases G:x1=y1
    ·have ag:=iE G;by_cases I:x2=U
     ·have ah:(x2==U)=true:=(by simp[I]);have af:=a8 (E.out G I);clear G I A E;go_wp2;go_quiet(fail);go_wp2;go_roundw
      case rel=>exact⟨k+1,by omega,by go_num,af,jp L _⟩
      case measure=>simp[intOf];omega
     ·have ah:(x2==U)=false:=(by simp[I]);have N:=a8 (fun h=>I (A.out h).2);clear G I A E;go_wp2;go_quiet(fail);go_wp2;go_ret;exact⟨⟨false,rfl,⟨fun h=>by simp at h,fun h=>OH h N.out⟩⟩,jp L.out _⟩
    ·have ag:=iF G;have N:=a8 (fun h=>G (A.out h).1);clear G A E;go_wp2;go_quiet(fail);go_wp2;go_ret;exact⟨⟨false,rfl,⟨fun h=>by simp at h,fun h=>OH h N.out⟩⟩,jp L.out _⟩
   ·have ae:Hid (z=ms):=by
     have Q:z.take k=z:=Pc (by omega);have R:ms.take k=ms:=Pc (by have:=HL.out;omega);rw[←Q,←R,K];exact rfl
    go_wp2;go_ret;exact⟨⟨true,rfl,⟨fun _=>ae.out,fun _=>rfl⟩⟩,L⟩
 ·have ai:((z.length:Int) !=(ms.length:Int))=true:=(by simp;omega);go_enter func110,ntmps110;go_wp2;go_ret;exact⟨⟨false,rfl,⟨fun h=>by simp at h,fun h=>OH (by rw[h]) M⟩⟩,0,rfl⟩
theorem wH(a:OA)(cap:Nat)(l:LN)(w:World)(M:l.length≤1048576)(z:0<l.length)(E:dW w a l):
  Calls prog 164 #[.slice a l.length cap] w fun e w'=>∃v,e= .returned v∧dR w' w.heap.size v l∧Below w.heap.size w w':=by
 obtain⟨b,K,rfl,L⟩:=E z;have N:=fun(n c:Nat) (x:OA) (w:World)=>Lib.run_eql_slice_nil (P:=prog) w 52 5 x n c 0 0 underlying52;go_enter func164,ntmps164;have J:dR (w.alloc (.cells #[] 5)) w.heap.size (sS w.heap.size ([]:LN).length ([]:LN).length) []:=jA (l:=[]) (OV _) (by simp) (OP w _);have A:Below w.heap.size w (w.alloc (.cells #[] 5)):=(OX _ _).alloc (OV _) _;go_wp2_with (at_builtin;refine eF _ rfl _ _ rfl w.heap.size (sS w.heap.size 0 0) [] l rfl J _ _ rfl (E.below A) z (by simp;omega) (by simp) ?_;intro v2 O I G)
 go_ret;exact⟨_,rfl,I,A.grown G (by simp) (fun k h=>by simp[Value.ownBlock] at h;omega)⟩
theorem wI(a:OA)(cap:Nat)(l:LN)(w:World)(N:l.length≤1048576)(O:dW w a l):
  Calls prog 164 #[.slice a l.length cap] w fun e w'=>∃v,e= .returned v∧dR w' w.heap.size v l∧Below w.heap.size w w':=by
 by_cases J:0<l.length
 ·exact wH a cap l w N J O
 ·obtain rfl:l=[]:=Pp.1 (by omega);have U:=fun(n c:Nat) (x:OA) (w:World)=>Lib.run_eql_slice_nil (P:=prog) w 52 5 x n c 0 0 underlying52;cases a with
  |none=>
   go_enter func164,ntmps164;go_wp2;go_ret;exact⟨_,rfl,dR.nil _ _,OX _ _⟩
  |some x=>
   go_enter func164,ntmps164;have L:dR (w.alloc (.cells #[] 5)) w.heap.size (sS w.heap.size ([]:LN).length ([]:LN).length) []:=jA (l:=[]) (OV _) (by simp) (OP w _);have K:Below w.heap.size w (w.alloc (.cells #[] 5)):=(OX _ _).alloc (OV _) _;obtain⟨R,hi,E,G,I⟩:=info_parts EK;go_wp2_with (at_builtin;refine wpList_append_own _ rfl _ _ 52 rfl w.heap.size 5 R (.int .u8 0) 1 1 underlying52 hi E G I rfl (by decide) (sS w.heap.size 0 0) 0 [] rfl L x 0 cap [] rfl (by simp) (by intro j u M;simp at M) (by intro u Q;cases Q) (by unfold maxLen;omega) (by omega) (by simp) ?_;intro v2 V A z _)
   go_ret;exact⟨_,rfl,A,K.grown z (by simp) (fun k h=>by simp[Value.ownBlock] at h;omega)⟩
section
open Go.Lib
def hZ(acc:Nat)(l:List UInt8):Nat:=l.foldl (fun a c=>a*10+(c.toNat-48)) acc
def ki(c:UInt8):Prop:=48≤c.toNat∧c.toNat≤57
theorem tA(k:Nat)(h:k<10):(UInt8.ofNat (48+k)).toNat=48+k:=by
 rw[UInt8.toNat_ofNat'];omega
theorem Mn(l:List UInt8)(z:Nat):z≤hZ z l:=by
 induction l generalizing z with
 |nil=>exact OV _
 |cons c r ih=>have:=ih (z*10+(c.toNat-48));show z≤hZ (z*10+(c.toNat-48)) r;omega
theorem ri(z:Nat)(l:List UInt8)(d:UInt8):hZ z (l++[d])=hZ z l*10+(d.toNat-48):=by
 unfold hZ;rw[List.foldl_append];rfl
theorem pe(n:Nat):∀c∈decDigits n,ki c:=by
 induction n using Nat.strongRecOn with
 |_ n ih=>
  intro c z;by_cases h:n<10
  ·rw[decDigits_one h,Ph] at z;subst z;unfold ki;rw[tA n h];omega
  ·rw[decDigits,dif_neg h,Pj] at z;rcases z with z|z
   ·exact ih (n/10) (by omega) c z
   ·rw[Ph] at z;subst z;unfold ki;rw[tA (n%10) (by omega)];omega
theorem oq(n:Nat):hZ 0 (decDigits n)=n:=by
 induction n using Nat.strongRecOn with
 |_ n ih=>
  by_cases h:n<10
  ·rw[decDigits_one h];show 0*10+((UInt8.ofNat (48+n)).toNat-48)=n;rw[tA n h];omega
  ·rw[decDigits,dif_neg h,ri,ih (n/10) (by omega),tA (n%10) (by omega)];omega
theorem Ie(n:Nat):decDigits n≠[]:=by
 intro h;have:=decDigits_length n;rw[h] at this;have:=nDigits_pos n;simp at*;omega
theorem pF{a b:Nat}(h:decDigits a=decDigits b):a=b:=by rw[←oq a,h,oq]
theorem kP{n:Nat}{c:UInt8}(h:¬ki c):c∉decDigits n:=fun z=>h (pe n c z)
theorem Aa:∀(k:Nat) (l:List UInt8),l.length≤k→(∀c∈l,ki c)→l≠[]→(l.head? =some 48→l=[48])→decDigits (hZ 0 l)=l
 |0,l,hk,_,hne,_=>OH (PF (by omega)) hne
 |k+1,l,hk,hd,hne,h0=>by
  rcases List.eq_nil_or_concat l with rfl|⟨z,d,G⟩
  ·exact OH rfl hne
  ·rw[List.concat_eq_append] at G;subst G;have I:=hd d (by simp);have J:UInt8.ofNat (48+(d.toNat-48))=d:=by
    have:48+(d.toNat-48)=d.toNat:=(by have:=I.1;omega);rw[this];exact UInt8.ofNat_toNat
   rw[ri];have M:d.toNat-48<10:=(by have:=I.2;omega);by_cases A:z=[]
   ·subst A;show decDigits (0*10+(d.toNat-48))=[d];rw[Nat.zero_mul,Ps,decDigits_one M,J]
   ·have L:z.head?≠some 48:=by
     intro e;have N:(z++[d]).head? =some 48:=by
      cases z with
      |nil=>exact OH rfl A
      |cons x r=>simpa using e
     have K:=OL List.length (h0 N);simp at K;exact A K
    have E:=Aa k z (by simp at hk;omega) (fun c O=>hd c (by simp[O])) A (fun e=>OH e L);have Q:1≤hZ 0 z:=by
     rcases Nat.eq_zero_or_pos (hZ 0 z) with e|e
     ·rw[e,decDigits_one (by omega)] at E;exact OH (by rw[←E];rfl) L
     ·exact e
    rw[decDigits,dif_neg (by omega),show(hZ 0 z*10+(d.toNat-48))/10=hZ 0 z from by omega,show(hZ 0 z*10+(d.toNat-48))%10=d.toNat-48 from by omega,E,J]
theorem Bt{M:Nat}:∀(l:List UInt8) (acc n:Nat),parseUintM M acc l= .ok n→(∀c∈l,ki c)∧n=hZ acc l
 |[],acc,n,h=>⟨fun _ z=>(by cases z),(by simp only[parseUintM] at h;injection h with h;exact h.symm)⟩
 |c::r,acc,n,h=>by
  simp only[parseUintM] at h;split at h
  ·rename_i z;split at h
   ·cases h
   ·split at h
    ·cases h
    ·obtain⟨E,G⟩:=Bt r _ n h;exact⟨fun x A=>by
      rcases Pd.1 A with rfl|A
      ·exact z
      ·exact E x A,G⟩
  ·cases h
theorem xA:∀(l:List UInt8) (acc:Nat),(∀c∈l,ki c)→hZ acc l≤18446744073709551615→parseUintM 18446744073709551615 acc l= .ok (hZ acc l)
 |[],acc,_,_=>rfl
 |c::r,acc,hd,hv=>by
  have A:=hd c (PB ..);have z:hZ (acc*10+(c.toNat-48)) r≤18446744073709551615:=hv;have G:=Mn r (acc*10+(c.toNat-48));simp only[parseUintM];rw[OS (show 48≤c.toNat∧c.toNat≤57 from A),OR (by omega),OR (by omega)];exact xA r _ (fun x E=>hd x (O8 _ E)) z
theorem xz(m:Nat)(z:m<18446744073709551616):parseUintB 64 (decDigits m)= .ok m:=by
 unfold parseUintB;rw[OR (Ie m)];have h:=xA (decDigits m) 0 (pe m) (by rw[oq];omega);rw[oq] at h;exact h
theorem IV(a r:List UInt8)(b:UInt8)(q:List UInt8)(h:b∉a):index (a++((b::q)++r)) (b::q)=a.length:=by
 induction a with
 |nil=>
  show index (b::(q++r)) (b::q)=_;rw[index,OS]
  ·rfl
  ·simp[List.isPrefixOf,List.isPrefixOf_iff_prefix]
 |cons x a ih=>
  have E:b≠x:=fun e=>h (by rw[e];exact PB ..);have z:=ih (fun A=>h (O8 _ A));show index (x::(a++((b::q)++r))) (b::q)=_;rw[index,OR,z,OR]
  ·simp
  ·simp
  ·simp[List.isPrefixOf,E]
theorem jo(a r:List UInt8)(b:UInt8)(q:List UInt8)(h:b∉a):cut (a++((b::q)++r)) (b::q)=(a,r,true):=by
 unfold cut;rw[IV a r b q h,OS (by omega)];have:((a.length:Int)).toNat=a.length:=(by simp);rw[this,List.take_left];congr 2;rw[show a++((b::q)++r)=(a++(b::q))++r from by simp,show a.length+(b::q).length=(a++(b::q)).length from by simp,List.drop_left]
theorem zY{s sep:List UInt8}(h:(cut s sep).2.2=true):s=(cut s sep).1++(sep++(cut s sep).2.1):=by
 unfold cut at h⊢;split
 ·rename_i hi;rcases index_spec s sep with⟨z,_⟩|⟨i,z,G,A,_⟩
  ·omega
  ·rw[z];have:((i:Int)).toNat=i:=(by simp);rw[this];unfold occAt at A;obtain⟨r,E⟩:=List.isPrefixOf_iff_prefix.1 A;show s=s.take i++(sep++s.drop (i+sep.length))
   conv=>lhs;rw[←Pz i s]
   rw[←List.drop_drop,←E,List.drop_left]
 ·rename_i hi;rw[OR hi] at h;cases h
theorem EW:¬ki 46:=by unfold ki;decide
theorem Bl:¬ki 58:=by unfold ki;decide
end
def e9(b:UInt8):List UInt8→List (List UInt8)
 |[]=>[[]]
 |x::r=>if x=b then[]::e9 b r else
  match e9 b r with
  |w::ws=>(x::w)::ws
  |[]=>[[x]]
theorem pr{b:UInt8}:∀{t:List UInt8},b∉t→e9 b t=[t]
 |[],_=>rfl
 |x::r,h=>by
  have z:x≠b:=fun e=>h (by rw[e];exact PB);rw[e9,OR z,pr (fun A=>h (O8 _ A))]
theorem pq{b:UInt8}{c:List UInt8}:∀{a:List UInt8},b∉a→e9 b (a++b::c)=a::e9 b c
 |[],_=>by rw[PC,e9,OS rfl]
 |x::r,h=>by
  have z:x≠b:=fun e=>h (by rw[e];exact PB);rw[List.cons_append,e9,OR z,pq (fun A=>h (O8 _ A))]
theorem lX(b:UInt8)(t:List UInt8):(e9 b t).length≤t.length+1:=by
 induction t with
 |nil=>simp[e9]
 |cons x r ih=>
  rw[e9];split
  ·simp;omega
  ·split
   ·next h=>rw[h] at ih;simp at ih⊢;omega
   ·simp
theorem iW{b:UInt8}:∀{t w:List UInt8},w∈e9 b t→w.length≤t.length
 |[],w,h=>by simp[e9] at h;simp[h]
 |x::r,w,h=>by
  rw[e9] at h;split at h
  ·rcases Pd.1 h with rfl|h
   ·simp
   ·have:=iW h;simp;omega
  ·split at h
   ·next w0 ws e=>
    rcases Pd.1 h with rfl|h
    ·have:=iW (b:=b) (t:=r) (w:=w0) (by rw[e];exact PB);simp;omega
    ·have:=iW (b:=b) (t:=r) (w:=w) (by rw[e];exact O8 _ h);simp;omega
   ·simp at h;rw[h];simp
theorem xG(b:UInt8):∀(n:Nat) (s:BA),s.size≤n→(Lib.splitB ⟨#[b]⟩ 0 (Lib.countB s ⟨#[b]⟩) s).map (·.data.toList)=e9 b s.data.toList
 |n,s,hn=>by
  have hi:Lib.indexB s ⟨#[b]⟩=Lib.indexByte s.data.toList b:=Lib.index_one s.data.toList b;have R:=Lib.indexByte_ge s.data.toList b;by_cases h:Lib.indexB s ⟨#[b]⟩= -1
  ·rw[Lib.splitB_miss _ _ _ _ h,Pe,PD];have N:=Lib.indexByte_none (hi▸h);rw[pr];intro G;obtain⟨k,E,e⟩:=Pr G;exact N k (by rw[OZ E,e])
  ·obtain⟨i,A⟩:=Int.eq_ofNat_of_zero_le (show 0≤Lib.indexB s ⟨#[b]⟩ by omega);have z:=Lib.indexByte_some (o:=i) (by rw[←hi];exact A);have J:i<s.data.toList.length:=(List.getElem?_eq_some_iff.1 z.1).1;have K:s.data.toList.length=s.size:=rfl;have L:(⟨#[b]⟩:BA).size=1:=rfl;rw[Lib.countB_hit s _ i (by rw[L];omega) A,Nat.add_comm,Lib.splitB_hit _ _ _ _ i A,Pe,L];have I:(s.extract (i+1) s.size).data.toList=s.data.toList.drop (i+1):=by
    have e:(s.extract (i+1) s.size).data.toList=(s.data.toList.drop (i+1)).take (s.size-(i+1)):=(by rw[ByteArray.data_extract,Array.toList_extract]);rw[e,Pc (by rw[O9,K];exact OV _)]
   have M:(s.extract 0 (i+0)).data.toList=s.data.toList.take i:=by
    rw[ByteArray.data_extract,Array.toList_extract];simp
   have O:(s.extract (i+1) s.size).size≤n-1:=by
    have:(s.extract (i+1) s.size).data.toList.length=s.size-(i+1):=(by rw[I,O9,K]);have V:(s.extract (i+1) s.size).data.toList.length=(s.extract (i+1) s.size).size:=rfl;omega
   have U:n-1<n:=(by omega);rw[xG b (n-1) _ O,I,M];have Q:s.data.toList[i]=b:=by
    have:=z.1;rw[OZ J] at this;simpa using this
   conv=>rhs;rw[←Pz i s.data.toList,Pv J,Q]
   rw[pq];intro G;obtain⟨k,E,e⟩:=Pr G;rw[Pa] at E;rw[List.getElem_take] at e;exact z.2 k (by omega) (by rw[OZ (by omega),e])
termination_by n=>n
theorem Lc:(prog.info? 9).map (fun i=>(i.zero,i.size,i.bytes))=some (some (.string ⟨#[]⟩),1,16):=by kernel_rfl
def fB(w:World)(base:Nat)(v:Value)(xs:List BA):Prop:=w.ownsRow base 9 1 v xs.length (xs.map Value.string)
theorem fB.nil(w:World)(z:Nat):fB w z (sN) []:=⟨rfl,.inl ⟨rfl,rfl⟩⟩
theorem fB.at{v:Value}{xs:List BA}(h:fB w z v xs):(v=sN∧xs=[])∨∃g cap,v=sS g xs.length cap∧g<w.heap.size∧z≤g∧xs.length≤cap∧∀(j:Nat) x,xs[j]? =some x→w.cell? ⟨g,0+j,none⟩=some (.string x):=by
 rcases h.2 with⟨O,N⟩|⟨g,I,J,L,M,E,K,R,U,Q⟩
 ·exact .inl ⟨O,Pp.1 N⟩
 ·refine .inr ⟨g,I,L,OT E,M,K,fun j x G=> ?_⟩;rw[OK w g _ _ _ (0,0) E,Ps];have A:(J.toList.take (xs.length*1))[j]? =some (.string x):=(by rw[Q];simp[G]);have V:j<xs.length:=(List.getElem?_eq_some_iff.1 G).1;rw[List.getElem?_take_of_lt (by omega)] at A;simpa using A
theorem gd{K:Array Oper}{J:List Oper}{A:Act}(w:World)(R:o.guard=none)(s x:Operand)
  (ho:o.op= .call {callee:= .builtin .append,args:= #[s,x],argTypes:= #[50,50]})
  (z:Nat) (v:Value) (xs:List BA) (t:BA) (G c:Nat) (hs:A.eval s=v) (hx:A.eval x=sS G 1 c) (O:fB w z v xs)
  (Z:w.cell? ⟨G,0,none⟩=some (.string t)) (aa:xs.length≤1048576) (M:z≤w.heap.size)
  (h:∀E w',fB w' z E (xs++[t])→w.grownBy w' v.ownBlock→wpList prog K Q J (A.put o.dst E) w'):wpList prog K Q (o::J) A w:=by
 obtain⟨i0,hi,U,V,Y⟩:=info_parts Lc;refine wpList_append_own w R s x 50 ho z 9 i0 (.string ⟨#[]⟩) 1 16 underlying50 hi U V Y rfl (by decide) v xs.length (xs.map Value.string) hs O ⟨G,0,none⟩ 1 c [.string t] hx (by simp) ?_ ?_ (by unfold maxLen;omega) (by omega) M ?_
 ·intro j u I;rw[ez]
  match j with
  |0=>simp only[Py,OY] at I;rw[←I];exact Z
  |j+1=>simp at I
 ·intro u L;simp only[Pd,Pw,or_false] at L;rw[L];rfl
 ·intro E w' N hg _;refine h E w' ?_ hg;unfold fB;rw[O1,O7];exact N
section
open Go.Lib
open Go.Sort (grow HoldsK putRowK)
structure Cd where
 name:BA
 ad:OA
 dl:Nat
 dc:Nat
 uid:Nat
 stamp:Nat
 flags:Nat
instance:Inhabited Cd:=⟨⟨⟨#[]⟩,none,0,0,0,0,0⟩⟩
def ee(c:Cd):List Value:=[.string c.name,.slice c.ad c.dl c.dc,.int .i64 (c.dl:Int),.bool true,.int .u32 (c.uid:Int),.int .i64 (c.stamp:Int),.int .u32 (c.flags:Int)]
theorem nI(c:Cd):∀v∈ee c,v.oneCell'=true:=by
 intro v z;simp only[ee,Pd,Pw,or_false] at z;rcases z with rfl|rfl|rfl|rfl|rfl|rfl|rfl<;>rfl
section
variable {k:Nat}
abbrev srW(k:Nat)(w:World)(blk m:Nat)(dk:Array Cd)(os:Array Obj):World:=sortWorldK ee k w blk 0 m dk os
theorem lj{w:World}{z:Nat}{d:Array Cd}(h:HoldsK ee k w z 0 d):w=srW k w z 0 d #[]:=by
 show w=grow (putRowK ee k (Go.Sort.ahead w 0) z 0 d) #[];rw[Go.Sort.grow_empty];exact(Go.Sort.putRowK_self ee k w z 0 d h).symm
theorem iG{w:World}{z:Nat}{d A:Array Cd}(m:Nat)(os:Array Obj)(h:HoldsK ee k w z 0 d)(E:z<w.heap.size)(G:A.size=d.size):HoldsK ee k (srW k w z m A os) z 0 A:=holdsK_sortWorldK_c ee k w z 0 d A m os h E G
theorem lC(w:World)(z m:Nat)(A:Array Cd)(os:Array Obj):w.heap.size≤(srW k w z m A os).heap.size:=size_sortWorldK_c ee k w z 0 m A os
theorem oE(w:World)(z m n:Nat)(E:Array Cd)(os A:Array Obj):grow ((srW k w z m E os).drewN n) A=srW k w z (m+n) E (os++A):=sortWorldK_grown_c ee k w z 0 m n E os A
theorem jf{w:World}{z m n:Nat}{G A:Array Cd}{os E:Array Obj}(I:z<w.heap.size)(h:A.size=G.size):srW k (srW k w z m G os) z n A E=srW k w z (m+n) A (os++E):=Go.Sort.grow_step_growK ee k w os E m n z 0 G A I h
end
theorem ve{d:Array Cd}{i j:Nat}(hi:i<d.size)(z:j<d.size):(Go.Sort.swp d i j).toList=swp d.toList i j:=by
 rw[Ek (by simpa using hi) (by simpa using z)];unfold Go.Sort.swp;simp[hi,z]
def sX(k:Nat)(w:World)(blk:Nat)(R:Array Cd→Prop)(e:Ending)(w':World):Prop:=e= .returned (.tuple #[])∧∃n dk os,R dk∧w'=srW k w blk n dk os
def cmU(x y:Cd):Int:=if x.uid<y.uid then-1 else if y.uid<x.uid then 1 else 0
theorem jN(x:Int)(w:World):Calls prog 178 #[.int .u32 x] w fun e w'=>e= .returned (.bool false)∧w'=w:=by
 go_enter func178,ntmps178;go_wp2;go_ret;exact⟨rfl,rfl⟩
theorem zV(x y:Nat)(w:World):Calls prog 148 #[.int .u32 (x:Int),.int .u32 (y:Int)] w fun e w'=>e= .returned (.int .i64 (if x<y then-1 else if y<x then 1 else 0))∧w'=w:=by
 by_cases A:x<y
 ·have G:(x:Int)<(y:Int):=(by omega);rw[OS A];clear A;go_enter func148,ntmps148;go_wp2_with fail;refine(jN (x:Int) w).mono ?_;rintro e z ⟨rfl,rfl⟩;go_wp2_with fail;refine(jN (y:Int) z).mono ?_;rintro e z ⟨rfl,rfl⟩;go_wp2;go_ret;exact⟨rfl,rfl⟩
 ·have G:¬(x:Int)<(y:Int):=(by omega);rw[OR A];by_cases E:y<x
  ·have I:(y:Int)<(x:Int):=(by omega);rw[OS E];clear A E;go_enter func148,ntmps148;go_wp2_with fail;refine(jN (x:Int) w).mono ?_;rintro e z ⟨rfl,rfl⟩;go_wp2_with fail;refine(jN (y:Int) z).mono ?_;rintro e z ⟨rfl,rfl⟩;go_wp2;go_ret;exact⟨rfl,rfl⟩
  ·have I:¬(y:Int)<(x:Int):=(by omega);rw[OR E];clear A E;go_enter func148,ntmps148;go_wp2_with fail;refine(jN (x:Int) w).mono ?_;rintro e z ⟨rfl,rfl⟩;go_wp2_with fail;refine(jN (y:Int) z).mono ?_;rintro e z ⟨rfl,rfl⟩;go_wp2;go_ret;exact⟨rfl,rfl⟩
theorem EG(x y:Cd)(W:World):Calls prog 147 #[.agg (ee x).toArray,.agg (ee y).toArray] W fun e w'=>e= .returned (.int .i64 (cmU x y))∧∃q A,w'=grow (W.drewN q) A:=by
 have z:=fun W'=>zV x.uid y.uid W';unfold cmU;generalize (if x.uid<y.uid then-1 else if y.uid<x.uid then 1 else 0:Int)=r at z⊢;obtain⟨E,G,I,J,K,L,M⟩:=x;obtain⟨b1,b2,N,O,Q,R,U⟩:=y;simp only[ee] at z⊢;go_enter func147,ntmps147;go_wp2_with fail;refine(z _).mono ?_;rintro e w' ⟨rfl,rfl⟩;go_wp2;go_ret;exact⟨rfl,0,_,by rw[Go.Sort.alloc_eq_grow,Go.Sort.alloc_eq_grow,Go.Sort.grow_grow];rfl⟩
theorem MY(k:Nat)(A z:Nat)(w:World):CmpLays prog 147 #[] ee k cmU A 0 z w:=fun _ _ _ _ x y=>EG x y _
theorem Ij:∀args w,(callFunc 147 args).run prog w= .ok (.enter 147 args) w:=enters_of func147 (by kernel_rfl) rfl
structure SrP(P:Program)(k:Nat):Prop where
 mixed:P.follows .mixedOrders=true
 len:∀x,(ee x).length=k
 fs:P.funcs[236]? =some Tryz.f236
 fr:P.funcs[218]? =some Tryz.f218
 fm:P.funcs[202]? =some Tryz.f202
 ft:P.funcs[177]? =some Tryz.f177
 es:∀args w,(callFunc 236 args).run P w= .ok (.enter 236 args) w
 er:∀args w,(callFunc 218 args).run P w= .ok (.enter 218 args) w
 em:∀args w,(callFunc 202 args).run P w= .ok (.enter 202 args) w
 ei:∀args w,(callFunc 201 args).run P w= .ok (.enter 201 args) w
 ec:∀args w,(callFunc 147 args).run P w= .ok (.enter 147 args) w
 t0:P.underlying 0=prog.underlying 0
 a0:∀w,(isAgg 0).run P w=(isAgg 0).run prog w
 z0:∀w,(Go.sizeOf 0).run P w=(Go.sizeOf 0).run prog w
 t3:P.underlying 3=some (.int .i64)
 a3:∀w,(isAgg 3).run P w= .ok false w
 z3:∀w,(Go.sizeOf 3).run P w= .ok 1 w
 t4:P.underlying 4=some .bool
 a4:∀w,(isAgg 4).run P w= .ok false w
 z4:∀w,(Go.sizeOf 4).run P w= .ok 1 w
 tu:P.underlying 185=some (.int .u64)
 ts:P.underlying 202=some (.slice 217)
 as':∀w,(isAgg 202).run P w= .ok false w
 zs:∀w,(Go.sizeOf 202).run P w= .ok 1 w
 ae:∀w,(isAgg 217).run P w= .ok true w
 ze:∀w,(Go.sizeOf 217).run P w= .ok k w
 cm:∀x y W,Calls P 147 #[.agg (ee x).toArray,.agg (ee y).toArray] W fun e w'=>e= .returned (.int .i64 (cmU x y))∧∃q os',w'=grow (W.drewN q) os'
theorem srP:SrP prog 7:={
 mixed:=by kernel_rfl
 len:=fun _=>rfl
 fs:=func236
 fr:=func218
 fm:=func202
 ft:=func177
 es:=enters_of func236 (by kernel_rfl) rfl
 er:=enters_of func218 (by kernel_rfl) rfl
 em:=enters_of func202 (by kernel_rfl) rfl
 ei:=enters_of func201 (by kernel_rfl) rfl
 ec:=Ij
 t0:=rfl
 a0:=fun _=>rfl
 z0:=fun _=>rfl
 t3:=underlying3
 a3:=isAgg3
 z3:=sizeOf3
 t4:=underlying4
 a4:=isAgg4
 z4:=sizeOf4
 tu:=underlying185
 ts:=underlying202
 as':=isAgg202
 zs:=sizeOf202
 ae:=isAgg217
 ze:=sizeOf217
 cm:=EG}
end
section
open Go.Lib
open Go.Sort (grow HoldsK putRowK)
variable {P:Program} {k:Nat}
theorem pu(L:SrP P k){W:World}{z:Nat}{A:Array Cd}(E:HoldsK ee k W z 0 A)(i j:Nat)(hi:i<A.size)(N:j<A.size)(x y:Cd)(I:A[i]! =x)(O:A[j]! =y):
  Sem.run P (loadCellsFrom ⟨z,i*k,none⟩ 0 k #[]) W= .ok (ee x).toArray W∧
  Sem.run P (loadCellsFrom ⟨z,j*k,none⟩ 0 k #[]) W= .ok (ee y).toArray W∧
  Sem.run P (storeCells ⟨z,i*k,none⟩ (ee y) 0) W= .ok () (W.setCells z (i*k) (ee y))∧
  Sem.run P (storeCells ⟨z,j*k,none⟩ (ee x) 0) (W.setCells z (i*k) (ee y))= .ok () ((W.setCells z (i*k) (ee y)).setCells z (j*k) (ee x)):=by
 have G:∀x,x<A.size→x*k+k≤A.size*k:=fun x I=>by
  have:=PN k (show x+1≤A.size from I);rwa[Nat.add_mul,Nat.one_mul] at this
 have J:=run_loadCellsFrom_list P W ⟨z,0+i*k,none⟩ (ee A[i]!) k (L.len _) (HoldsK.cells E L.len (by omega));have K:=run_loadCellsFrom_list P W ⟨z,0+j*k,none⟩ (ee A[j]!) k (L.len _) (HoldsK.cells E L.len (by omega));have s1:Sem.run P (storeCells ⟨z,0+i*k,none⟩ (ee y) 0) W= .ok () (W.setCells z (0+i*k) (ee y)):=stores_of_holds P E (i*k) _ (by rw[L.len,Go.Sort.size_flatK];exact G i hi) (nI _);have M:Sem.run P (storeCells ⟨z,0+j*k,none⟩ (ee x) 0) (W.setCells z (0+i*k) (ee y))= .ok () ((W.setCells z (0+i*k) (ee y)).setCells z (0+j*k) (ee x)):=
  stores_of_holds P (holds_setCells_c E (i*k) _ (by rw[L.len,Go.Sort.size_flatK];exact G i hi)) (j*k) _ (by rw[L.len,Go.Sort.size_setMany,Go.Sort.size_flatK];exact G j N) (nI _)
 simp only[Ps] at J K s1 M;rw[I] at J;rw[O] at K;exact⟨J,K,s1,M⟩
theorem vd(L:SrP P k){w:World}{A m i j:Nat}{z:Array Cd}{os:Array Obj}{x y:Cd}(E:A<w.heap.size)(hi:i<z.size)(G:j<z.size)(I:z[i]! =x)(J:z[j]! =y):
  ((srW k w A m z os).drew.setCells A (i*k) (ee y)).setCells A (j*k) (ee x)=srW k w A (m+1) (Go.Sort.swp z i j) os:=by
 have h:=sortWorldK_swp_c ee k w A 0 L.len m z os E i j hi G;simp only[Ps] at h;rw[I,J] at h;exact h
theorem wm(L:SrP P k)(fv:Value)(A cap a b n:Nat)(d:Array Cd)(w:World)(J:HoldsK ee k w A 0 d)(Q:A<w.heap.size)(am:a+n≤b)(hb:b+n≤d.size)(au:d.size≤1000000):
  Calls P 236 #[sS A d.size cap,.int .i64 (a:Int),.int .i64 (b:Int),.int .i64 (n:Int),fv] w (sX k w A (fun z=>z.size=d.size∧(∀k,z.toList[k]? =swG (d.toList[·]?) a b n k)∧Seg a (b+n) d.toList z.toList)):=by
 have ag:=L.mixed;have t3:=L.t3;have a3:=L.a3;have z3:=L.z3;have t4:=L.t4;have a4:=L.a4;have z4:=L.z4;have ts:=L.ts;have ai:=L.as';have zs:=L.zs;have ae:=L.ae;have ze:=L.ze;have ac:=a8 (lj J);have HH:=a8 J;have I:=a8 L;have F:=L.fs;clear J L;go_enter F,ntmps236;go_wp2;go_loopw [10] (fun O wr=>∃(i m:Nat) (z:Array Cd) (os:Array Obj),O=iI i∧i≤n∧z.size=d.size∧wr=srW k w A m z os∧Hid (∀k,z.toList[k]? =swG (d.toList[·]?) a b i k)∧Hid (Seg a (b+n) d.toList z.toList)) (fun O _=>n-(intOf O).toNat)
 case atStart=>exact⟨0,0,d, #[],rfl,O4 _,rfl,ac,a8 (fun k=>(Kj _ a b k).symm),a8 (Seg.refl _ _ _)⟩
 case round=>
  obtain⟨i,m,z,os,rfl,aq,E,rfl,Y,R⟩:=hrel;by_cases ar:i<n
  ·have ah:(i:Int)<(n:Int):=(by omega);have aj:(a:Int)+(i:Int)<(d.size:Int):=(by omega);have an:(b:Int)+(i:Int)<(d.size:Int):=(by omega);have ak:((a:Int)+(i:Int)).toNat=a+i:=(by omega);have ao:((b:Int)+(i:Int)).toNat=b+i:=(by omega);have al:(0:Int)≤(a:Int)+(i:Int):=(by omega);have ap:(0:Int)≤(b:Int)+(i:Int):=(by omega);obtain⟨x,K⟩:∃x,z[a+i]! =x:=⟨_,rfl⟩
   obtain⟨y,M⟩:∃y,z[b+i]! =y:=⟨_,rfl⟩
   have V:HoldsK ee k (srW k w A m z os).drew A 0 z:=iG m os HH Q E;obtain⟨Z,l2,s1,N⟩:=pu I V (a+i) (b+i) (by omega) (by omega) x y K M;have G:=a8 (vd I (m:=m) (os:=os) Q (show a+i<z.size by omega) (show b+i<z.size by omega) K M);have ab:=a8 (fun k=>Ki (k:=k) (xs:=d.toList) (ys:=z.toList) (a:=a) (b:=b) (n:=i) (by simpa using E) Y.out (by omega) (by simp;omega));have U:=a8 (ve (d:=z) (show a+i<z.size by omega) (show b+i<z.size by omega));have aa:=a8 (R.trans (zd (a:=a) (b:=b+n) (xs:=z.toList) (i:=a+i) (j:=b+i) (by simp;omega) (by simp;omega) (by omega) (by omega) (by omega) (by omega)));have ad:(ee x).length=k:=I.len _;have af:(ee y).length=k:=I.len _;clear V K M;generalize ee x=cx at Z N G ad;generalize ee y=cy at l2 s1 N G af;generalize srW k w A m z os=wq at Z l2 s1 N G⊢;go_wp2_with fail
   go_big_region_o
   all_goals go_wp2
   go_roundw
   case rel=>exact⟨i+1,m+1,Go.Sort.swp z (a+i) (b+i),os,by go_num,by omega,by rw[Go.Sort.size_swp];exact E,G,a8 (fun k=>by rw[U.out];exact ab.out k),a8 (by rw[U.out];exact aa.out)⟩
   case measure=>simp[intOf];omega
  ·obtain rfl:i=n:=(by omega);go_wp2
   go_end0
   exact⟨rfl,m,z,os,⟨E,Y,R⟩,rfl⟩
end
section
open Go.Lib
open Go.Sort (grow HoldsK putRowK)
variable {P:Program} {k:Nat}
theorem oa(L:SrP P k)(I:Value)(z cap a b n:Nat)(E G J:Int)(U:E=(a:Int))(O:G=(b:Int))(Y:J=(n:Int))(K:Nat)(d:Array Cd)(Z:K=d.size)(w:World)(R:HoldsK ee k w z 0 d)(M:z<w.heap.size)(N:a+n≤b)(V:b+n≤d.size)(Q:d.size≤1000000):
  Calls P 236 #[sS z K cap,.int .i64 E,.int .i64 G,.int .i64 J,I] w (sX k w z (fun A=>A.size=d.size∧(∀k,A.toList[k]? =swG (d.toList[·]?) a b n k)∧Seg a (b+n) d.toList A.toList)):=by
 subst U O Y Z;exact wm L I z cap a b n d w R M N V Q
theorem D6(L:SrP P k)(V:Value)(A cap a m b:Nat)(d:Array Cd)(w:World)(hH:HoldsK ee k w A 0 d)(O:A<w.heap.size)(al:a<m)(am:m<b)(hb:b≤d.size)(an:d.size≤1000000):
  Calls P 218 #[sS A d.size cap,.int .i64 (a:Int),.int .i64 (m:Int),.int .i64 (b:Int),V] w (sX k w A (fun z=>z.size=d.size∧(∀k,z.toList[k]? =mG (d.toList[·]?) a m b k)∧Seg a b d.toList z.toList)):=by
 have t3:=L.t3;have a3:=L.a3;have z3:=L.z3;have t4:=L.t4;have a4:=L.a4;have z4:=L.z4;have ts:=L.ts;have ak:=L.as';have zs:=L.zs;have ae:=L.ae;have ze:=L.ze;have es:=L.es;have af:=a8 (lj hH);have HH:=a8 hH;have HL:=a8 L;have F:=L.fr;clear hH L;go_enter F,ntmps218;go_wp2;go_loopw [10,11] (fun vi vj wr=>∃(i j q:Nat) (z:Array Cd) (os:Array Obj),vi=iI i∧vj=iI j∧0<i∧0<j∧a+i≤m∧m+j≤b∧z.size=d.size∧wr=srW k w A q z os∧Hid (∀k,mG (z.toList[·]?) (m-i) m (m+j) k=mG (d.toList[·]?) a m b k)∧Hid (Seg a b d.toList z.toList)) (fun vi vj _=>(intOf vi).toNat+(intOf vj).toNat)
 case atStart=>
  refine⟨m-a,b-m,0,d, #[],by congr 1;omega,by congr 1;omega,by omega,by omega,by omega,by omega,rfl,af,a8 (fun k=> ?_),a8 (Seg.refl _ _ _)⟩;rw[show m-(m-a)=a by omega,show m+(b-m)=b by omega]
 case round=>
  obtain⟨i,j,q,z,os,rfl,rfl,aa,ab,ag,ai,K,rfl,Z,Y⟩:=hrel;have M:=iG q os HH O K;have N:A<(srW k w A q z os).heap.size:=Pb O (lC _ _ _ _ _);by_cases ah:i=j
  ·subst ah;have hq:((i:Int) !=(i:Int))=false:=(by simp);have C:=a8 (oa HL V A cap (m-i) m i ((m:Int)-(i:Int)) (m:Int) (i:Int) (by omega) rfl rfl d.size z K.symm _ M N (by omega) (by omega) (by omega));clear M;generalize Q:srW k w A q z os=wq at C N⊢;go_wp2_with fail;refine C.mono ?_;rintro e w2 ⟨rfl,q2,E,ac,⟨G,I,J⟩,rfl⟩;have R:=a8 I;have U:=a8 J;clear I J C;subst Q;rw[jf O G];go_wp2
   go_end0
   refine⟨rfl,_,E,_,⟨G.trans K,fun k=> ?_,Y.trans (U.mono (by omega) (by omega))⟩,rfl⟩;rw[←Z.out k];exact JX (f:=fun x=>z.toList[x]?) (g:=fun x=>E.toList[x]?) (by omega) (fun k=>R.out k) k
  ·have hq:((i:Int) !=(j:Int))=true:=(by simp;omega);by_cases aj:j<i
   ·have ad:(j:Int)<(i:Int):=(by omega);have C:=a8 (oa HL V A cap (m-i) m j ((m:Int)-(i:Int)) (m:Int) (j:Int) (by omega) rfl rfl d.size z K.symm _ M N (by omega) (by omega) (by omega));clear M;generalize Q:srW k w A q z os=wq at C N⊢;go_wp2_with fail;refine C.mono ?_;rintro e w2 ⟨rfl,q2,E,ac,⟨G,I,J⟩,rfl⟩;have R:=a8 I;have U:=a8 J;clear I J C;subst Q;rw[jf O G];go_wp2;go_roundw
    case rel=>
     refine⟨i-j,j,_,E,_,by congr 1;omega,rfl,by omega,ab,by omega,ai,G.trans K,rfl,a8 (fun k=> ?_),a8 (Y.trans (U.mono (by omega) (by omega)))⟩;rw[←Z.out k,show m-(i-j)=m-i+j by omega];exact JW (f:=fun x=>z.toList[x]?) (g:=fun x=>E.toList[x]?) (by omega) aj ab (fun k=>R.out k) k
    case measure=>simp[intOf];omega
   ·have ad:¬(j:Int)<(i:Int):=(by omega);have C:=a8 (oa HL V A cap (m-i) (m+j-i) i ((m:Int)-(i:Int)) ((m:Int)+(j:Int)-(i:Int)) (i:Int) (by omega) (by omega) rfl d.size z K.symm _ M N (by omega) (by omega) (by omega));clear M;generalize Q:srW k w A q z os=wq at C N⊢;go_wp2_with fail;refine C.mono ?_;rintro e w2 ⟨rfl,q2,E,ac,⟨G,I,J⟩,rfl⟩;have R:=a8 I;have U:=a8 J;clear I J C;subst Q;rw[jf O G];go_wp2;go_roundw
    case rel=>
     refine⟨i,j-i,_,E,_,rfl,by congr 1;omega,aa,by omega,ag,by omega,G.trans K,rfl,a8 (fun k=> ?_),a8 (Y.trans (U.mono (by omega) (by omega)))⟩;rw[←Z.out k];exact JV (f:=fun x=>z.toList[x]?) (g:=fun x=>E.toList[x]?) (by omega) (by omega) aa (fun k=>R.out k) k
    case measure=>simp[intOf];omega
end
section
open Go.Lib
open Go.Sort (grow HoldsK putRowK)
variable {P:Program} {k:Nat}
abbrev fnC:Value:= .func (.func 147) #[] #[]
theorem nP{d:Array Cd}{i:Nat}(h:i<d.size):ky Cd.uid d.toList i=(d[i]!).uid:=by
 rw[I9 Cd.uid (by simpa using h)];simp[h]
theorem mO(x y:Cd):cmU x y<0↔x.uid<y.uid:=by
 unfold cmU;split
 ·simp[*]
 ·split<;>simp<;>omega
theorem mw(L:SrP P k){w:World}{z:Nat}{d A:Array Cd}(q:Nat)(os:Array Obj)(h:HoldsK ee k w z 0 d)(J:z<w.heap.size)(K:A.size=d.size)(i:Nat)(hi:i<A.size)(x:Cd)(M:A[i]! =x):
  ∀G E,Sem.run P (loadCellsFrom ⟨z,i*k,none⟩ 0 k #[]) (grow ((srW k w z q A os).drewN G) E)= .ok (ee x).toArray (grow ((srW k w z q A os).drewN G) E):=by
 intro G E;rw[oE];have I:=run_loadCellsFrom_list P (srW k w z (q+G) A (os++E)) ⟨z,0+i*k,none⟩ (ee A[i]!) k (L.len _) (HoldsK.cells (iG _ _ h J K) L.len (by omega));simp only[Ps] at I;rw[M] at I;exact I
def pa(k:Nat)(w:World)(blk a b:Nat)(d:Array Cd):Ending→World→Prop:=sX k w blk (fun dk=>dk.size=d.size∧Seg a b d.toList dk.toList∧fC Cd.uid dk.toList a b)
theorem Mf(L:SrP P k)(E cap a m b:Nat)(d:Array Cd)(w:World)(hH:HoldsK ee k w E 0 d)(V:E<w.heap.size)(al:m=a+1)(aR:m<b)(hb:b≤d.size)(aT:d.size≤1000000)(an:fC Cd.uid d.toList m b):
  Calls P 202 #[sS E d.size cap,.int .i64 (a:Int),.int .i64 (m:Int),.int .i64 (b:Int),fnC] w (pa k w E a b d):=by
 have aB:=L.mixed;have t3:=L.t3;have a3:=L.a3;have z3:=L.z3;have t4:=L.t4;have a4:=L.a4;have z4:=L.z4;have ts:=L.ts;have aF:=L.as';have zs:=L.zs;have ae:=L.ae;have ze:=L.ze;have es:=L.es;have tu:=L.tu;have ec:=L.ec;have au:=a8 (lj hH);have HH:=a8 hH;have K:=a8 L;have ab:=a8 an;have F:=L.fm;have Y:=a8 al;have aQ:(m:Int)-(a:Int)=1:=(by omega);clear hH L an al;go_enter F,ntmps202;go_wp2;go_loopw [10,11,12] (fun vi vj _ wr=>∃(p q n:Nat) (os:Array Obj),vi=iI p∧vj=iI q∧m≤p∧p≤q∧q≤b∧wr=srW k w E n d os∧Hid (∀x,m≤x→x<p→ky Cd.uid d.toList x<ky Cd.uid d.toList a)∧Hid (∀x,q≤x→x<b→ky Cd.uid d.toList a≤ky Cd.uid d.toList x)) (fun vi vj _ _=>(intOf vj).toNat-(intOf vi).toNat)
 case atStart=>exact⟨m,b,0, #[],rfl,rfl,OV _,by omega,OV _,au,a8 (fun x I M=>by omega),a8 (fun x I M=>by omega)⟩
 case round=>
  obtain⟨p,q,n,os,rfl,rfl,az,aS,aA,rfl,ah,ad⟩:=hrel;by_cases aP:p<q
  ·have aE:(p:Int)<(q:Int):=(by omega);obtain⟨h,hh⟩:∃h,h=(p+q)/2:=⟨_,rfl⟩
   have aM:p≤h∧h<q:=(by omega);have aO:((p:Int)+(q:Int))/2=(h:Int):=(by omega);have aN:(h:Int)<(d.size:Int):=(by omega);have aG:(a:Int)<(d.size:Int):=(by have:=Y.out;omega);clear hh;obtain⟨x,N⟩:∃x,d[h]! =x:=⟨_,rfl⟩
   obtain⟨y,O⟩:∃y,d[a]! =y:=⟨_,rfl⟩
   have R:=mw K n os HH V rfl h (by omega) x N;have U:=mw K n os HH V rfl a (by have:=Y.out;omega) y O;have Q:=fun n' ac=>K.cm x y (grow ((srW k w E n d os).drewN n') ac);have HC:=a8 (mO x y);have af:=a8 (show ky Cd.uid d.toList h=x.uid by rw[nP (by omega),N]);have ag:=a8 (show ky Cd.uid d.toList a=y.uid by rw[nP (by have:=Y.out;omega),O]);have aa:=a8 (fun n' ac=>oE (k:=k) w E n n' d os ac);clear N O;generalize cmU x y=cv at Q HC;generalize ee x=cx at R Q;generalize ee y=cy at U Q;generalize srW k w E n d os=wq at R U Q aa⊢;by_cases am:cv<0
   ·have HN:=a8 (show∀z,m≤z→z<h+1→ky Cd.uid d.toList z<ky Cd.uid d.toList a from fun z I M=>by
     have h3:=ab.out z h I (by omega) (by omega);have h4:=HC.1 am;rw[af.out] at h3;rw[ag.out];omega)
    go_wp2_with fail
    go_quiet_grown (first|(go_at_fn 147;refine Calls.grown_of (Q _ _)))
    go_wp2;go_roundw
    case rel=>exact⟨h+1,q,_,_,by go_num,rfl,by omega,by omega,aA,aa.out _ _,HN,ad⟩
    case measure=>simp[intOf];omega
   ·have HN:=a8 (show∀z,h≤z→z<b→ky Cd.uid d.toList a≤ky Cd.uid d.toList z from fun z I M=>by
     have h3:=ab.out h z (by omega) I (by omega);have h4:¬x.uid<y.uid:=fun e=>am (HC.2 e);rw[af.out] at h3;rw[ag.out];omega)
    go_wp2_with fail
    go_quiet_grown (first|(go_at_fn 147;refine Calls.grown_of (Q _ _)))
    go_wp2;go_roundw
    case rel=>exact⟨p,h,_,_,rfl,by go_num,az,by omega,by omega,aa.out _ _,ah,HN⟩
    case measure=>simp[intOf];omega
  ·obtain rfl:p=q:=(by omega);have ap:=Y.out;have aC:=a8 (show srW k w E n d os=srW k w E n d os from rfl);go_wp2;go_loopw [13] (fun vk wr=>∃(c J:Nat) (A:Array Cd) (G:Array Obj),vk=iI c∧a≤c∧c+1≤p∧A.size=d.size∧wr=srW k w E J A G∧Hid (∀z,A.toList[z]? =upG (d.toList[·]?) a c z)∧Hid (Seg a b d.toList A.toList)) (fun vk _=>p-(intOf vk).toNat)
   case atStart=>exact⟨a,n,d,os,rfl,OV _,by omega,rfl,rfl,a8 (fun z=>(Mi _ a z).symm),a8 (Seg.refl _ _ _)⟩
   case round=>
    obtain⟨c,J,A,G,rfl,av,aL,Z,rfl,HG,ai⟩:=hrel;by_cases aD:c+1<p
    ·have aw:(c:Int)<(p:Int)-1:=(by omega);have aH:(c:Int)+1<(d.size:Int):=(by omega);have aI:((c:Int)+1).toNat=c+1:=(by omega);have aJ:(0:Int)≤(c:Int)+1:=(by omega);have aK:(c:Int)<(d.size:Int):=(by omega);obtain⟨x,N⟩:∃x,A[c]! =x:=⟨_,rfl⟩
     obtain⟨y,O⟩:∃y,A[c+1]! =y:=⟨_,rfl⟩
     have ak:HoldsK ee k (srW k w E J A G).drew E 0 A:=iG J G HH V Z;obtain⟨R,U,s1,s2⟩:=pu K ak c (c+1) (by omega) (by omega) x y N O;have HE:=a8 (vd K (m:=J) (os:=G) V (show c<A.size by omega) (show c+1<A.size by omega) N O);have aq:=a8 (fun z=>Mh (k:=z) (xs:=d.toList) (ys:=A.toList) (a:=a) (i:=c) (by simpa using Z) HG.out av (by simp;omega));have aj:=a8 (ve (d:=A) (show c<A.size by omega) (show c+1<A.size by omega));have ao:=a8 (ai.trans (zd (a:=a) (b:=b) (xs:=A.toList) (i:=c) (j:=c+1) (by simp;omega) (by simp;omega) (by omega) (by omega) (by omega) (by omega)));have ax:(ee x).length=k:=K.len _;have ay:(ee y).length=k:=K.len _;clear ak N O;generalize ee x=cx at R s2 HE ax;generalize ee y=cy at U s1 s2 HE ay;generalize srW k w E J A G=wq at R U s1 s2 HE⊢;go_wp2_with fail
     go_big_region_o
     all_goals go_wp2
     go_roundw
     case rel=>exact⟨c+1,J+1,Go.Sort.swp A c (c+1),G,by go_num,by omega,by omega,by rw[Go.Sort.size_swp];exact Z,HE,a8 (fun z=>by rw[aj.out];exact aq.out z),a8 (by rw[aj.out];exact ao.out)⟩
     case measure=>simp[intOf];omega
    ·have aw:¬(c:Int)<(p:Int)-1:=(by omega);obtain rfl:c=p-1:=(by omega);have ar:=a8 (Ny Cd.uid (xs:=d.toList) (ys:=A.toList) (a:=a) (b:=b) (i:=p) (by omega) (by omega) (by rw[←ap];exact ab.out) (fun z I M=>Nat.le_of_lt (ah.out z (by omega) M)) (fun z I M=>ad.out z I M) HG);go_wp2
     go_end0
     exact⟨rfl,J,A,G,⟨Z,ai,ar⟩,rfl⟩
end
section
open Go.Lib
open Go.Sort (grow HoldsK putRowK)
variable {P:Program} {k:Nat}
theorem Kl(L:SrP P k)(E cap a m b:Nat)(d:Array Cd)(w:World)(hH:HoldsK ee k w E 0 d)(Z:E<w.heap.size)(aG:a+1<m)(ao:b=m+1)(hb:b≤d.size)(aX:d.size≤1000000)(ap:fC Cd.uid d.toList a m):
  Calls P 202 #[sS E d.size cap,.int .i64 (a:Int),.int .i64 (m:Int),.int .i64 (b:Int),fnC] w (pa k w E a b d):=by
 have aA:=L.mixed;have t3:=L.t3;have a3:=L.a3;have z3:=L.z3;have t4:=L.t4;have a4:=L.a4;have z4:=L.z4;have ts:=L.ts;have aF:=L.as';have zs:=L.zs;have ae:=L.ae;have ze:=L.ze;have es:=L.es;have tu:=L.tu;have ec:=L.ec;have aE:∀(x:Bool) (w:World),(Op.unary .not (.bool x)).run P w= .ok (.bool (!x)) w:=fun _ _=>rfl;have au:=a8 (lj hH);have HH:=a8 hH;have M:=a8 L;have ac:=a8 ap;have F:=L.fm;have U:=a8 ao;have aT:((m:Int)-(a:Int)==1)=false:=(by simp;omega);have aJ:(b:Int)-(m:Int)=1:=(by omega);clear hH L ap ao;go_enter F,ntmps202;go_wp2;go_loopw [14,15,16] (fun vi vj _ wr=>∃(p q n:Nat) (os:Array Obj),vi=iI p∧vj=iI q∧a≤p∧p≤q∧q≤m∧wr=srW k w E n d os∧Hid (∀x,a≤x→x<p→ky Cd.uid d.toList x≤ky Cd.uid d.toList m)∧Hid (∀x,q≤x→x<m→ky Cd.uid d.toList m≤ky Cd.uid d.toList x)) (fun vi vj _ _=>(intOf vj).toNat-(intOf vi).toNat)
 case atStart=>exact⟨a,m,0, #[],rfl,rfl,OV _,by omega,OV _,au,a8 (fun x G N=>by omega),a8 (fun x G N=>by omega)⟩
 case round=>
  obtain⟨p,q,n,os,rfl,rfl,av,aW,az,rfl,ai,af⟩:=hrel;by_cases aS:p<q
  ·have aD:(p:Int)<(q:Int):=(by omega);obtain⟨h,hh⟩:∃h,h=(p+q)/2:=⟨_,rfl⟩
   have aP:p≤h∧h<q:=(by omega);have aR:((p:Int)+(q:Int))/2=(h:Int):=(by omega);have aQ:(h:Int)<(d.size:Int):=(by have:=U.out;omega);have aU:(m:Int)<(d.size:Int):=(by have:=U.out;omega);clear hh;obtain⟨x,O⟩:∃x,d[m]! =x:=⟨_,rfl⟩
   obtain⟨y,Q⟩:∃y,d[h]! =y:=⟨_,rfl⟩
   have V:=mw M n os HH Z rfl m (by omega) x O;have Y:=mw M n os HH Z rfl h (by omega) y Q;have K:=fun n' ad=>M.cm x y (grow ((srW k w E n d os).drewN n') ad);have HC:=a8 (mO x y);have ag:=a8 (show ky Cd.uid d.toList m=x.uid by rw[nP (by omega),O]);have ah:=a8 (show ky Cd.uid d.toList h=y.uid by rw[nP (by omega),Q]);have ab:=a8 (fun n' ad=>oE (k:=k) w E n n' d os ad);clear O Q;generalize cmU x y=cv at K HC;generalize ee x=cx at V K;generalize ee y=cy at Y K;generalize srW k w E n d os=wq at V Y K ab⊢;by_cases an:cv<0
   ·have HN:=a8 (show∀z,h≤z→z<m→ky Cd.uid d.toList m≤ky Cd.uid d.toList z from fun z G N=>by
     have h3:=ac.out h z (by omega) G (by omega);have h4:=HC.1 an;rw[ah.out] at h3;rw[ag.out];omega)
    go_wp2_with fail
    go_quiet_grown (first|(go_at_fn 147;refine Calls.grown_of (K _ _)))
    go_wp2;go_roundw
    case rel=>exact⟨p,h,_,_,rfl,by go_num,av,by omega,by omega,ab.out _ _,ai,HN⟩
    case measure=>simp[intOf];omega
   ·have HN:=a8 (show∀z,a≤z→z<h+1→ky Cd.uid d.toList z≤ky Cd.uid d.toList m from fun z G N=>by
     have h3:=ac.out z h G (by omega) (by omega);have h4:¬x.uid<y.uid:=fun e=>an (HC.2 e);rw[ah.out] at h3;rw[ag.out];omega)
    have aB:(!decide (cv<0))=true:=(by simp;omega);go_wp2_with fail
    go_quiet_grown (first|(go_at_fn 147;refine Calls.grown_of (K _ _)))
    go_wp2;go_roundw
    case rel=>exact⟨h+1,q,_,_,by go_num,rfl,by omega,by omega,az,ab.out _ _,HN,af⟩
    case measure=>simp[intOf];omega
  ·obtain rfl:p=q:=(by omega);have aH:m<b:=(by have:=U.out;omega);have aI:b≤m+1:=(by have:=U.out;omega);go_wp2;go_loopw [17] (fun vk wr=>∃(c J:Nat) (A:Array Cd) (I:Array Obj),vk=iI c∧p≤c∧c≤m∧A.size=d.size∧wr=srW k w E J A I∧Hid (∀z,A.toList[z]? =dnG (d.toList[·]?) m c z)∧Hid (Seg a b d.toList A.toList)) (fun vk _=>(intOf vk).toNat)
   case atStart=>exact⟨m,n,d,os,rfl,by omega,OV _,rfl,rfl,a8 (fun z=>(K6 _ m z).symm),a8 (Seg.refl _ _ _)⟩
   case round=>
    obtain⟨R,J,A,I,rfl,aV,K,aa,rfl,HG,aj⟩:=hrel;by_cases aC:p<R
    ·obtain⟨c,rfl⟩:∃c,R=c+1:=⟨R-1,by omega⟩
     have aw:(p:Int)<(c:Int)+1:=(by omega);have aK:(c:Int)+1<(d.size:Int):=(by omega);have aL:((c:Int)+1).toNat=c+1:=(by omega);have aM:(0:Int)≤(c:Int)+1:=(by omega);have aN:(c:Int)<(d.size:Int):=(by omega);have aO:(c:Int)+1-1=(c:Int):=(by omega);have aY:IntKind.i64.wrap (c:Int)=(c:Int):=(by rw[IntKind.wrap_i64];omega);obtain⟨x,O⟩:∃x,A[c+1]! =x:=⟨_,rfl⟩
     obtain⟨y,Q⟩:∃y,A[c]! =y:=⟨_,rfl⟩
     have am:HoldsK ee k (srW k w E J A I).drew E 0 A:=iG J I HH Z aa;obtain⟨V,Y,s1,s2⟩:=pu M am (c+1) c (by omega) (by omega) x y O Q;have HE:=a8 (vd M (m:=J) (os:=I) Z (show c+1<A.size by omega) (show c<A.size by omega) O Q);have ar:=a8 (fun z=>K5 (k:=z) (xs:=d.toList) (ys:=A.toList) (m:=m) (i:=c) (by simpa using aa) HG.out (by omega) (by simp;omega));have ak:=a8 (ve (d:=A) (show c+1<A.size by omega) (show c<A.size by omega));have aq:=a8 (aj.trans (zd (a:=a) (b:=b) (xs:=A.toList) (i:=c+1) (j:=c) (by simp;omega) (by simp;omega) (by omega) (by omega) (by omega) (by omega)));have ax:(ee x).length=k:=M.len _;have ay:(ee y).length=k:=M.len _;clear am O Q;generalize ee x=cx at V s2 HE ax;generalize ee y=cy at Y s1 s2 HE ay;generalize srW k w E J A I=wq at V Y s1 s2 HE⊢;go_wp2_with fail
     go_big_region_o
     all_goals go_wp2
     go_roundw
     case rel=>exact⟨c,J+1,Go.Sort.swp A (c+1) c,I,by first|rfl|go_num|(congr 1;omega),by omega,by omega,by rw[Go.Sort.size_swp];exact aa,HE,a8 (fun z=>by rw[ak.out];exact ar.out z),a8 (by rw[ak.out];exact aq.out)⟩
     case measure=>simp[intOf]
    ·have aw:¬(p:Int)<(R:Int):=(by omega);obtain rfl:R=p:=(by omega);have al:=a8 (M1 Cd.uid (xs:=d.toList) (ys:=A.toList) (a:=a) (m:=m) (i:=R) (by omega) (by omega) ac (fun z G N=>ai.out z G N) (fun z G N=>af.out z G N) HG);rw[←U.out] at al;go_wp2
     go_end0
     exact⟨rfl,J,A,I,⟨aa,aj,al⟩,rfl⟩
end
end Go.Proofs.YtkkdfgnnlpohlaaGreatDoor
