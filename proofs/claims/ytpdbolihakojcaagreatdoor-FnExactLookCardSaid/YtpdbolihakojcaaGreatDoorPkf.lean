import Derived.Test.YtpdbolihakojcaaGreatDoorPka
import Derived.Test.YtpdbolihakojcaaGreatDoorShelfS
import Derived.Test.YtpdbolihakojcaaGreatDoorPkc
import Derived.Maps.OwnSet
import Derived.Laws.CopyOwn
import Derived.Lib.SliceRun
import Derived.Lib.IndexMore
import Derived.Lib.ParseIntB
import Derived.Lib.ItoaMem
namespace Go.Proofs.YtpdbolihakojcaaGreatDoor
set_option maxRecDepth 20000
set_option linter.unusedVariables false
set_option linter.unusedSimpArgs false
set_option maxHeartbeats 4000000
open Go.RowKit
variable {W Y w w' w0 wr : World} {b : List UInt8} {A B at_ base' c cap e f g gs i j k lo m n u z : Nat} {R d is l : List Nat} {E G I J K L M N O v0 v1 v2 v3 v4 v5 v6 x y : Value} {o : Oper} {Q : Exit → Act → World → Prop} {bvs xs : List Value} {t : TypeId} {cs tmps : Array Value} {p : Addr} {a : Option Addr} {first ok : Bool} {s : ByteArray} {rs : List (List Nat)}
section
open Go.Maps
theorem gy:∀x y z:List UInt8,Op.bytesLess x y=true→Op.bytesLess y z=true→Op.bytesLess x z=true
 |_,_,[],_,h=>by simp[Op.bytesLess] at h
 |[],_,_::_,_,_=>by simp[Op.bytesLess]
 |_::_,[],_::_,h,_=>by simp[Op.bytesLess] at h
 |a::x,b::y,c::z,h1,h2=>by
  simp only[Op.bytesLess,Bool.or_eq_true,decide_eq_true_eq,Bool.and_eq_true,beq_iff_eq] at h1 h2⊢;rcases h1 with h1|⟨rfl,h1⟩
  ·rcases h2 with h2|⟨rfl,h2⟩
   ·exact .inl (UInt8.lt_trans h1 h2)
   ·exact .inl h1
  ·rcases h2 with h2|⟨rfl,h2⟩
   ·exact .inl h2
   ·exact .inr ⟨rfl,gy x y z h1 h2⟩
def fP(es:List (ByteArray×Int))(k:Nat):DataW Unit:=setOf (.agg []) ((es.take k).map fun e=>Lit.int .i64 e.2)
theorem uv(z:List (ByteArray×Int)):fP z 0= .map []:=rfl
theorem nT(z:List (ByteArray×Int))(k:Nat)(h:k<z.length):fP z (k+1)=(fP z k).put (.int .i64 z[k].2) (.agg []):=by
 unfold fP;rw[MP h,MS];exact setOf_snoc _ _ _
theorem vh(z:List (ByteArray×Int))(k:Nat)(x:Int):Maps.has (fP z k) (.int .i64 x)=(z.take k).any (fun e=>decide (e.2=x)):=by
 unfold fP;rw[has_setOf _ _ _ (fun y A=>by obtain⟨_,_,rfl⟩:=Na.1 A;trivial),List.any_map];congr 1;funext e;simp[Lit.sameKey]
theorem sb{z:List (ByteArray×Int)}{k:Nat}{x:Int}(h:Maps.has (fP z k) (.int .i64 x)=true):∃i,∃h:i<z.length,i<k∧z[i].2=x:=by
 rw[vh,List.any_eq_true] at h;obtain⟨e,A,G⟩:=h;obtain⟨i,E,rfl⟩:=Nd A;simp at E;refine⟨i,by omega,by omega,?_⟩;simpa using G
theorem qX{z:List (ByteArray×Int)}{k:Nat}{x:Int}(h:Maps.has (fP z k) (.int .i64 x)=false)(i:Nat)(A:i<z.length)(E:i<k):z[i].2≠x:=by
 intro e;have:Maps.has (fP z k) (.int .i64 x)=true:=by
  rw[vh,List.any_eq_true];exact⟨z[i],List.mem_take_iff_getElem.2 ⟨i,by omega,rfl⟩,by simp[e]⟩
 rw[this] at h;simp at h
theorem jE{H:Type}{w w':World}{P:Program}{k:TypeId}{R:Value→Option (DataW H×List MemPlace)}{b n B:Nat}{D:DataW H}(h:w.ownsMap P k R b n D)(I:Below B w w')(G:b<B):w'.ownsMap P k R b n D:=by
 obtain⟨A,c,E,z⟩:=h;exact⟨A,c,(I.block b G).trans E,z⟩
end
section
open Go.Maps
theorem lP:Keyed Tryz.prog 3:=int_keyed Tryz.underlying3
theorem mY(w:World):(zeroValue 187).run Tryz.prog w= .ok (.agg #[]) w:=by kernel_rfl
theorem zS{nodes:Int}{z:List (ByteArray×Int)}{k:Nat}(h:∀i (h:i<z.length),i<k→lA nodes z[i]=true∧∀k (E:k<i),apart z[k] z[i]=true)(E:k<z.length)(J:lA nodes z[k]=true)
  (M:∀h:0<k,Op.bytesLess z[k-1].1.toList z[k].1.toList=true) (N:Maps.has (fP z k) (.int .i64 z[k].2)=false):
  ∀i (h:i<z.length),i<k+1→lA nodes z[i]=true∧∀k (E:k<i),apart z[k] z[i]=true:=fun i K O=>by
 by_cases e:i=k
 ·subst e;refine⟨J,fun j L=>decide_eq_true ⟨?_,qX N j (by omega) L⟩⟩;have A:=M (by omega);by_cases G:j=i-1
  ·subst G;exact A
  ·have I:=(h (i-1) (by omega) (by omega)).2 j (by omega);exact gy _ _ _ (of_decide_eq_true I).1 A
 ·exact h i K (by omega)
theorem qz(a:Option Addr)(cap:Nat)(z:List (ByteArray×Int))(nodes:Int)(w:World)(hn:z.length≤9223372036854775807)(aK:nodes≤1048576)(au:∀e∈z,e.1.size≤9223372036854775807)(hr:fi w a z):
  Calls Tryz.prog 72 #[.slice a z.length cap,.int .i64 nodes] w fun e w'=>e= .returned (.bool (eL nodes z))∧Below w.heap.size w w':=by
 by_cases h6:300<z.length
 ·have hf:eL nodes z=false:=decide_eq_false fun h=>(by omega);rw[hf];go_enter Tryz.func72,Tryz.ntmps72;go_wp2;go_ret;exact⟨rfl,MJ _ _⟩
 have aG:= @run_makeMap Tryz.prog;go_enter Tryz.func72,Tryz.ntmps72;go_wp2;clear aG;go_loopw [16] (fun i wr=>∃k:Nat,k≤z.length∧i= .int .i64 k∧(∀i (h:i<z.length),i<k→lA nodes z[i]=true∧∀k (hk:k<i),apart z[k] z[i]=true)∧wr.ownsMap Tryz.prog 3 unitElem w.heap.size k (fP z k)∧Below w.heap.size w wr) (fun i _=>z.length-(intOf i).toNat)
 case atStart=>exact⟨0,MQ _,rfl,fun i _ h=>by omega,by rw[uv];exact World.ownsMap_made _ _ _ _,(MJ _ _).alloc (MH _) _⟩
 case round=>
  obtain⟨k,hk,rfl,aw,ah,U⟩:=hrel;have HK:=a8 aw;have HR:=a8 hr;have ao:=a8 U;have aB:=a8 ah;clear aw;by_cases G:k<z.length
  ·obtain⟨b,aL,rfl,hc⟩:=(hr.below U) (by omega)
   obtain⟨aj,ak⟩:=hc k G;have af:=au _ (MO G);have O:=a8 (U.alloc U.size (.cells #[.string z[k].1,.int .i64 z[k].2] 93));have N:=a8 (dZ.new wr #[.string z[k].1,.int .i64 z[k].2] 93);have ae:=a8 (sO (nodes:=nodes) G);have E:=a8 (show lA nodes z[k]=decide (eO z[k].1=true∧0≤z[k].2∧z[k].2<nodes) from rfl);have L:=a8 (ah.alloc (.cells #[.string z[k].1,.int .i64 z[k].2] 93));clear hc hr U au ah aB;generalize av:z[k].1=nm at aj O N E af L;generalize am:z[k].2=nd at ak O N E L;have an:=a8 av;have R:=a8 am;clear av am;by_cases V:eO nm=true
   ·go_wp2_with fail;refine(j6 nm _ af).mono ?_;rintro e J ⟨rfl,I⟩;rw[V];have aA:=a8 V;have A:=bTr O I;have ac:=a8 (N.out.below I N.out.lt);have az:=a8 (jE L.out I L.out.lt);clear V aj ak I O N L;have q0:J.cell? ⟨wr.heap.size,0,none⟩=some (.string nm):=(by rw[ac.out.cell];rfl);have q1:J.cell? ⟨wr.heap.size,1,none⟩=some (.int .i64 nd):=(by rw[ac.out.cell];rfl);by_cases g2:nd<0
    ·go_wp2;go_ret;exact⟨eE (ae.out (by rw[E.out];exact decide_eq_false fun h=>by omega)).symm,A.out⟩
    by_cases g3:nodes≤nd
    ·go_wp2;go_ret;exact⟨eE (ae.out (by rw[E.out];exact decide_eq_false fun h=>by omega)).symm,A.out⟩
    have ax:(Lit.int .i64 nd).wf=true:=WalkArith.wf_i64 (by omega);have M:keyOf Tryz.prog 3 (.int .i64 nd)=some (.int .i64 nd):=keyOf_int_mk Tryz.underlying3 ax;have HE:=a8 (show lA nodes z[k]=true from by rw[E.out];exact decide_eq_true ⟨aA.out,by omega,by omega⟩);have al:=ac.out.lt;generalize wr.heap.size=B at q0 q1 al⊢;have q2:∀(n:Nat) (o:Obj),((J.drewN n).alloc o).cell? ⟨B,1,none⟩=some (.int .i64 nd):=fun n o=>by
     rw[((MJ (J.drewN n).heap.size (J.drewN n)).alloc (MH _) o).cell (p:=⟨B,1,none⟩) al];exact q1
    clear ao ae E ac ax af;have K:∀n,(J.drewN n).ownsMap Tryz.prog 3 (unitElem (H:=Unit)) w.heap.size k (fP z k):=fun _=>az.out;have ap:=a8 (fun(hl:∀h:0<k,Op.bytesLess z[k-1].1.toList z[k].1.toList=true) (hs:Maps.has (fP z k) (.int .i64 z[k].2)=false)=>zS HK.out G HE.out hl hs);cases k with
    |zero=>
     have Y:Maps.has (fP z 0) (.int .i64 nd)=false:=rfl;have HH:=a8 Y;go_wp2;go_quiet(fail);go_wp2_with (first
      |(at_lookup;refine wpList_lookup_own_unit _ rfl _ _ 186 rfl 3 187 lP Tryz.underlying186 (mY _) w.heap.size (0) _ rfl (K _) _ _ rfl M ?_)
      |(at_mapUpdate;refine wpList_mapUpdate_own _ rfl _ _ _ 186 rfl 3 187 lP Tryz.underlying186 (unitElem (H:=Unit)) w.heap.size (0) _ rfl ((K _).alloc _) (by unfold maxLen;omega) _ _ _ rfl rfl M _ [] unitElem_mk ?_;intro w3 aa Z)
      |go_in)
     refine⟨⟨0+1,by omega,by go_num,ap.out (fun h=>by omega) (by rw[R.out];exact HH.out),?_,?_⟩,by simp[intOf];omega⟩
     ·rw[nT z (0) G,R.out];exact aa
     ·exact((below_drewN A.out nq).alloc A.out.size _).grown Z (MN A.out.size (by simp)) (fun j hj=>by cases hj;exact MH _)
    |succ j=>
     obtain⟨b',aJ,aq,ar⟩:=(HR.out.below A.out) (by omega)
     simp only[MK,Np,and_true] at aq;obtain⟨rfl,rfl⟩:=aq;obtain⟨aH,aI⟩:=ar j (by omega);have Q:=a8 (fun(i:Nat) (hi:i<j+1)=>sP (nodes:=nodes) G hi);have ad:=a8 (fun(h:Op.bytesLess z[j].1.toList nm.toList=true)=>(fun _=>by rw[an.out];exact h:∀h:0<j+1,Op.bytesLess z[j+1-1].1.toList z[j+1].1.toList=true));have ab:=a8 (fun(h:Op.bytesLess z[j].1.toList nm.toList=false)=>Q.out j (by omega) (decide_eq_false fun h'=>by have h2:=h'.1;rw[an.out,h] at h2;simp at h2));clear ar;generalize z[j].1=xm at aH ad ab;generalize z[j].2=xd at aI;by_cases ai:Op.bytesLess xm.toList nm.toList=true
     ·have ay:=a8 (ad.out ai);clear ad ab;by_cases Y:Maps.has (fP z (j+1)) (.int .i64 nd)=true
      ·have ag:Hid (eL nodes z=false):=by
        obtain⟨i,hi,aF,he⟩:=sb Y;exact Q.out i aF (decide_eq_false fun h'=>h'.2 (by rw[he,R.out]))
       clear Q;go_wp2;go_quiet(fail);go_wp2_with (first
        |(at_lookup;refine wpList_lookup_own_unit _ rfl _ _ 186 rfl 3 187 lP Tryz.underlying186 (mY _) w.heap.size (j+1) _ rfl (K _) _ _ rfl M ?_)
        |(at_mapUpdate;refine wpList_mapUpdate_own _ rfl _ _ _ 186 rfl 3 187 lP Tryz.underlying186 (unitElem (H:=Unit)) w.heap.size (j+1) _ rfl ((K _).alloc _) (by unfold maxLen;omega) _ _ _ rfl rfl M _ [] unitElem_mk ?_;intro w3 aa Z)
        |go_in)
       go_ret;exact⟨eE ag.out.symm,(below_drewN A.out _).alloc A.out.size _⟩
      ·have aE:Maps.has (fP z (j+1)) (.int .i64 nd)=false:=(by simpa using Y);have HH:=a8 aE;clear Y Q;go_wp2;go_quiet(fail);go_wp2_with (first
        |(at_lookup;refine wpList_lookup_own_unit _ rfl _ _ 186 rfl 3 187 lP Tryz.underlying186 (mY _) w.heap.size (j+1) _ rfl (K _) _ _ rfl M ?_)
        |(at_mapUpdate;refine wpList_mapUpdate_own _ rfl _ _ _ 186 rfl 3 187 lP Tryz.underlying186 (unitElem (H:=Unit)) w.heap.size (j+1) _ rfl ((K _).alloc _) (by unfold maxLen;omega) _ _ _ rfl rfl M _ [] unitElem_mk ?_;intro w3 aa Z)
        |go_in)
       refine⟨⟨j+1+1,by omega,by go_num,ap.out ay.out (by rw[R.out];exact HH.out),?_,?_⟩,by simp[intOf];omega⟩
       ·rw[nT z (j+1) G,R.out];exact aa
       ·exact((below_drewN A.out nq).alloc A.out.size _).grown Z (MN A.out.size (by simp)) (fun j hj=>by cases hj;exact MH _)
     ·have aD:Op.bytesLess xm.toList nm.toList=false:=(by simpa using ai);have ag:=a8 (ab.out aD);clear ai ad ab Q;go_wp2;go_quiet(fail);go_wp2;go_ret;exact⟨eE ag.out.symm,below_drewN A.out _⟩
   ·have aC:eO nm=false:=(by simpa using V);go_wp2_with fail;refine(j6 nm _ af).mono ?_;rintro e J ⟨rfl,I⟩;rw[aC];have A:=bTr O I;clear aj ak I O N L;go_wp2;go_ret;exact⟨eE (ae.out (by rw[E.out];exact decide_eq_false fun h=>V h.1)).symm,A.out⟩
  ·have hf:eL nodes z=true:=decide_eq_true ⟨by omega,fun i h=>HK.out i h (by omega)⟩;have HF:=a8 hf;clear hf;go_wp2;go_ret;exact⟨eE HF.out.symm,ao.out⟩
end
theorem i8(z:B≤g)(A:l.length≤maxLen)(h:w.heap[g]? =some (.cells (l.map bv).toArray 5 (0,0))):dO w B (.slice (some ⟨g,0,none⟩) l.length l.length) l:=
 ⟨by simp,.inr ⟨g,l.length,(l.map bv).toArray,rfl,z,h,MH _,A,by simp,by rw[MX (by simp)]⟩⟩
theorem wt(h:dO w B (.slice (some ⟨g,0,none⟩) l.length l.length) l):w.heap[g]? =some (.cells (l.map bv).toArray 5 (0,0)):=by
 rcases h.2 with⟨z,_⟩|⟨g',J,E,z,_,G,_,_,I,A⟩
 ·simp at z
 ·simp only[MR,MK,Np,and_true,true_and] at z;obtain⟨rfl,rfl⟩:=z;have:E=(l.map bv).toArray:=by
   apply Array.toList_inj.1;rw[←A,MX (by simp[I])]
  rw[←this];exact G
theorem Tryz.size5:(Tryz.prog.info? 5).map (·.size)=some 1:=by kernel_rfl
theorem py{L:Array Oper}{I:List Oper}{A:Act}(w:World)(U:o.guard=none)(d s:Operand)
  (ho:o.op= .call {callee:= .builtin .copy,args:= #[d,s],argTypes:= #[52,52]}) (B g:Nat) (w0:World) (z l:List Nat) (a:Option Addr) (cap:Nat)
  (hd:A.eval d= .slice (some ⟨g,0,none⟩) l.length l.length) (hs:A.eval s= .slice a l.length cap) (Z:Below B w0 w) (J:B≤g) (N:z.length=l.length) (hl:l.length≤1099511627776)
  (O:dO w B (.slice (some ⟨g,0,none⟩) z.length z.length) z) (hr:dW w a l)
  (h:∀w',dO w' B (.slice (some ⟨g,0,none⟩) l.length l.length) l→Below B w0 w'→wpList Tryz.prog L Q I (A.put o.dst (goInt l.length)) w'):wpList Tryz.prog L Q (o::I) A w:=by
 refine wpList_copy_splice U d s 52 52 ho 5 Tryz.underlying52 Tryz.size5 (some ⟨g,0,none⟩) a l.length l.length l.length cap hd hs g 0 (z.map bv) 5 ?_ (l.map bv) (by simp) ?_ (by simp;omega) ?_ B w0 Z J ?_
 ·exact wt O
 ·intro Y;refine⟨rfl,?_⟩;obtain⟨b,aa,rfl,hc⟩:=hr (by simpa using Y);refine⟨_,rfl,fun j v G=> ?_⟩;have K:j<l.length:=by
   rcases NB j l.length with E|E
   ·exact E
   ·simp[Nf E] at G
  rw[ej,hc j K];simp[K,bv] at G;rw[G]
 ·intro u M;simp only[Na] at M;obtain⟨y,_,rfl⟩:=M;rfl
 ·intro w' V R;rw[MI];refine h w' (i8 J (by unfold maxLen;omega) ?_) R;have h:=V.out;rw[show splice (z.map bv) 0 (l.map bv)=l.map bv from by simp[splice,N]] at h;exact h
theorem kM(a:Option Addr)(cap:Nat)(l:List Nat)(w:World)(L:l.length≤1048576)(I:dW w a l):
  Calls Tryz.prog 17 #[.slice a l.length cap] w fun e w'=>e= .returned (.slice (some ⟨w.heap.size,0,none⟩) l.length l.length)∧dO w' w.heap.size (.slice (some ⟨w.heap.size,0,none⟩) l.length l.length) l∧Below w.heap.size w w':=by
 go_enter Tryz.func17,Tryz.ntmps17;go_wp2_with (first|(at_make;refine kT _ rfl _ _ rfl l.length rfl rfl (by omega) ?_;intro J A z)|(have K:=z;refine py J rfl (.tmp 7) (.tmp 8) rfl w.heap.size w.heap.size w (List.replicate l.length 0) l a cap rfl rfl z (MH _) (by simp) (by omega) (by simpa using A) (I.below z) ?_;intro M G E))
 go_wp2;go_ret;exact⟨rfl,G,E⟩
theorem dO.alloc{v:Value}(h:dO w B v l)(o:Obj):dO (w.alloc o) B v l:=World.ownsRow.alloc h o
theorem eF.push{v:Value}{E:List Value}{A:List (List Nat)}(h:eF w lo v E A)(L:dO w lo x l)(N:∀y∈E,y.ownBlock=none∨y.ownBlock≠x.ownBlock)
  (Y:w'.ownsRow lo 52 1 M (A.length+1) (E++[x])) (K:w.grownBy w' v.ownBlock):eF w' lo M (E++[x]) (A++[l]):=by
 obtain⟨G,Q,R⟩:=h;have V:E.length=A.length:=(by have:=G.1;omega);refine⟨by rw[MT];exact Y,fun i U=> ?_,?_⟩
 ·by_cases e:i<A.length
  ·obtain⟨y,I,J⟩:=Q i e;refine⟨y,by rw[List.getElem?_append_left (by omega)];exact I,?_⟩;rw[List.getElem_append_left e];exact World.ownsRow.kept J K (mD J G (by decide))
  ·have O:i=A.length:=(by simp at U;omega);subst O;refine⟨x,by rw[List.getElem?_append_right (by omega)];simp[V],?_⟩;simp only[List.getElem_concat_length];exact World.ownsRow.kept L K (mD L G (by decide))
 ·rw[List.pairwise_append];refine⟨R,by simp,fun y I z Z=> ?_⟩;obtain rfl:z=x:=(by simpa using Z);exact N y I
theorem pw{O:Array Oper}{M:List Oper}{A:Act}(w:World)(Z:o.guard=none)(s x:Operand)
  (ho:o.op= .call {callee:= .builtin .append,args:= #[s,x],argTypes:= #[114,114]})
  (lo:Nat) (v:Value) (I:List Value) (E:List (List Nat)) (z:Value) (l:List Nat) (J c:Nat) (hs:A.eval s=v) (hx:A.eval x= .slice (some ⟨J,0,none⟩) 1 c) (L:eF w lo v I E) (V:w.cell? ⟨J,0,none⟩=some z) (N:dO w lo z l)
  (aa:∀y∈I,y.ownBlock=none∨y.ownBlock≠z.ownBlock) (ae:E.length≤1048576) (U:lo≤w.heap.size)
  (h:∀G w',eF w' lo G (I++[z]) (E++[l])→w.grownBy w' v.ownBlock→wpList Tryz.prog O Q M (A.put o.dst G) w'):wpList Tryz.prog O Q (o::M) A w:=by
 obtain⟨i0,hi,ab,ac,ad⟩:=info_parts Tryz.info52;refine wpList_append_own w Z s x 114 ho lo 52 i0 (.slice none 0 0) 1 24 Tryz.underlying114 hi ab ac ad rfl (by decide) v E.length I hs L.1 ⟨J,0,none⟩ 1 c [z] hx (by simp) ?_ ?_ (by unfold maxLen;omega) (by omega) U ?_
 ·intro j u K;cases j with
  |zero=>
   simp only[Nj,MK] at K;rw[ej,←K];exact V
  |succ j=>simp at K
 ·intro u hu;obtain rfl:u=z:=(by simpa using hu);obtain⟨a,c',rfl⟩:=N.slice;rfl
 ·intro G w' Y R _;exact h G w' (L.push N aa Y R) R
theorem rh{R:Array Oper}{z:Act}{K:Act→World→Prop}{E:Prop}(w:World)(aa:o.guard=none)(s x:Operand)
  (ho:o.op= .call {callee:= .builtin .append,args:= #[s,x],argTypes:= #[114,114]})
  (lo:Nat) (v:Value) (J:List Value) (G:List (List Nat)) (A:Value) (l:List Nat) (L c:Nat) (hs:z.eval s=v) (hx:z.eval x= .slice (some ⟨L,0,none⟩) 1 c) (N:eF w lo v J G) (Y:w.cell? ⟨L,0,none⟩=some A) (O:dO w lo A l)
  (ab:∀y∈J,y.ownBlock=none∨y.ownBlock≠A.ownBlock) (af:G.length≤1048576) (V:lo≤w.heap.size)
  (h:∀I w',eF w' lo I (J++[A]) (G++[l])→w.grownBy w' v.ownBlock→K (z.put o.dst I) w'):if Region.wanted o (yielded R z.tmps)=true then Oper.wp Tryz.prog o z w K Q else E:=by
 have hw:Region.wanted o (yielded R z.tmps)=true:=(by simp[Region.wanted,aa]);rw[if_pos hw];obtain⟨i0,hi,ac,ad,ae⟩:=info_parts Tryz.info52;refine wp_append_own w s x 114 ho lo 52 i0 (.slice none 0 0) 1 24 Tryz.underlying114 hi ac ad ae rfl (by decide) v G.length J hs N.1 ⟨L,0,none⟩ 1 c [A] hx (by simp) ?_ ?_ (by unfold maxLen;omega) (by omega) V ?_
 ·intro j u M;cases j with
  |zero=>
   simp only[Nj,MK] at M;rw[ej,←M];exact Y
  |succ j=>simp at M
 ·intro u hu;obtain rfl:u=A:=(by simpa using hu);obtain⟨a,c',rfl⟩:=O.slice;rfl
 ·intro I w' Z U _;exact h I w' (N.push O ab Z U) U
def fV(w:World)(g:Nat)(x y:Value):Prop:=w.heap[g]? =some (.cells #[x,y] 116 (0,0))
theorem fV.c0(h:fV w g x y):w.cell? ⟨g,0,none⟩=some x:=by rw[cell_of_row w g 0 _ _ (0,0) h];rfl
theorem fV.c1(h:fV w g x y):w.cell? ⟨g,1,none⟩=some y:=by rw[cell_of_row w g 1 _ _ (0,0) h];rfl
theorem fV.fz(h:fV w g x y)(j:Nat):w.frozen? ⟨g,j,none⟩=false:=frozen_of_row w g j _ _ h
theorem fV.set0(h:fV w g x y)(u:Value):fV (w.setCell ⟨g,0,none⟩ u) g u y:=by
 have:=heap_setCell_same w g 0 _ _ u h;exact this
theorem fV.set1(h:fV w g x y)(u:Value):fV (w.setCell ⟨g,1,none⟩ u) g x u:=by
 have:=heap_setCell_same w g 1 _ _ u h;exact this
theorem fV.other{g':Nat}(h:fV w g x y)(z:g≠g')(u:Value):fV (w.setCell ⟨g',j,none⟩ u) g x y:=by
 unfold fV;rw[Below.heap_setCell w ⟨g',j,none⟩ u g z];exact h
theorem fV.below(h:fV w g x y)(z:Below B w w')(A:g<B):fV w' g x y:=(z.block g A).trans h
theorem fV.lt(h:fV w g x y):g<w.heap.size:=lt_of_block h
theorem fV.grown{z:Option Nat}(h:fV w g x y)(E:w.grownBy w' z)(A:some g≠z):fV w' g x y:=(E.block g h.lt A).trans h
theorem eF.other{v:Value}{E:List Value}{A:List (List Nat)}(h:eF w lo v E A)(z:g<lo)(u:Value):eF (w.setCell ⟨g,j,none⟩ u) lo v E A:=by
 obtain⟨G,I,J⟩:=h;refine⟨ownsRow_setCell_below G z u,fun i K=> ?_,J⟩;obtain⟨x,M,L⟩:=I i K;exact⟨x,M,ownsRow_setCell_below L z u⟩
theorem eF.nil(w:World)(lo:Nat):eF w lo (.slice none 0 0) [] []:=⟨World.ownsRow_nil w lo _ 1,fun i h=>by simp at h,List.Pairwise.nil⟩
theorem eF.slice{E:Nat}{v:Value}{A:List Value}{z:List (List Nat)}(h:eF w E v A z):∃a cap,v= .slice a z.length cap:=kp.slice ⟨A,h⟩
theorem eF.ne_new{w:World}{lo:Nat}{v:Value}{z:List Value}{G:List (List Nat)}{I:World}{x:Value}{l:List Nat}(h:eF w lo v z G)(A:dO I w.heap.size x l):∀y∈z,y.ownBlock=none∨y.ownBlock≠x.ownBlock:=by
 intro y E;cases hb:y.ownBlock with
 |none=>exact .inl rfl
 |some g=>
  refine .inr fun e=> ?_;have J:=h.lt y E g hb;have K:=(World.ownsRow.lt A g e.symm).1;omega
theorem uR(a:Option Addr)(cap:Nat)(l:List Nat)(w:World)(M:l.length≤1048576)(z:0<l.length)(E:dW w a l):
  Calls Tryz.prog 170 #[.slice a l.length cap] w fun e w'=>∃v,e= .returned v∧dO w' w.heap.size v l∧Below w.heap.size w w':=by
 obtain⟨b,K,rfl,L⟩:=E z;have N:=fun(n c:Nat) (x:Option Addr) (w:World)=>Lib.run_eql_slice_nil (P:=Tryz.prog) w 52 5 x n c 0 0 Tryz.underlying52;go_enter Tryz.func170,Tryz.ntmps170;have J:dO (w.alloc (.cells #[] 5)) w.heap.size (.slice (some ⟨w.heap.size,0,none⟩) ([]:List Nat).length ([]:List Nat).length) []:=i8 (l:=[]) (MH _) (by simp) (heap_alloc_new w _);have A:Below w.heap.size w (w.alloc (.cells #[] 5)):=(MJ _ _).alloc (MH _) _;go_wp2_with (at_builtin;refine ez _ rfl _ _ rfl w.heap.size (.slice (some ⟨w.heap.size,0,none⟩) 0 0) [] l rfl J _ _ rfl (E.below A) z (by simp;omega) (by simp) ?_;intro v2 O I G)
 go_ret;exact⟨_,rfl,I,A.grown G (by simp) (fun k h=>by simp[Value.ownBlock] at h;omega)⟩
theorem DX(a:Option Addr)(cap:Nat)(l:List Nat)(w:World)(O:l.length≤1048576)(Q:dW w a l):
  Calls Tryz.prog 170 #[.slice a l.length cap] w fun e w'=>∃v,e= .returned v∧dO w' w.heap.size v l∧Below w.heap.size w w':=by
 by_cases J:0<l.length
 ·exact uR a cap l w O J Q
 ·obtain rfl:l=[]:=Nc.1 (by omega);have V:=fun(n c:Nat) (x:Option Addr) (w:World)=>Lib.run_eql_slice_nil (P:=Tryz.prog) w 52 5 x n c 0 0 Tryz.underlying52;cases a with
  |none=>
   go_enter Tryz.func170,Tryz.ntmps170;go_wp2;go_ret;exact⟨_,rfl,dO.nil _ _,MJ _ _⟩
  |some x=>
   go_enter Tryz.func170,Tryz.ntmps170;have L:dO (w.alloc (.cells #[] 5)) w.heap.size (.slice (some ⟨w.heap.size,0,none⟩) ([]:List Nat).length ([]:List Nat).length) []:=i8 (l:=[]) (MH _) (by simp) (heap_alloc_new w _);have K:Below w.heap.size w (w.alloc (.cells #[] 5)):=(MJ _ _).alloc (MH _) _;obtain⟨U,M,E,G,I⟩:=info_parts Tryz.info5;go_wp2_with (at_builtin;refine wpList_append_own _ rfl _ _ 52 rfl w.heap.size 5 U (.int .u8 0) 1 1 Tryz.underlying52 M E G I rfl (by decide) (.slice (some ⟨w.heap.size,0,none⟩) 0 0) 0 [] rfl L x 0 cap [] rfl (by simp) (by intro j u N;simp at N) (by intro u R;cases R) (by unfold maxLen;omega) (by omega) (by simp) ?_;intro v2 Y A z _)
   go_ret;exact⟨_,rfl,A,K.grown z (by simp) (fun k h=>by simp[Value.ownBlock] at h;omega)⟩
section
open Go.Lib
def gz(acc:Nat)(l:List UInt8):Nat:=l.foldl (fun a c=>a*10+(c.toNat-48)) acc
def jJ(c:UInt8):Prop:=48≤c.toNat∧c.toNat≤57
theorem rQ(k:Nat)(h:k<10):(UInt8.ofNat (48+k)).toNat=48+k:=by
 rw[UInt8.toNat_ofNat'];omega
theorem Kt(l:List UInt8)(z:Nat):z≤gz z l:=by
 induction l generalizing z with
 |nil=>exact MH _
 |cons c r ih=>have:=ih (z*10+(c.toNat-48));show z≤gz (z*10+(c.toNat-48)) r;omega
theorem qd(z:Nat)(l:List UInt8)(d:UInt8):gz z (l++[d])=gz z l*10+(d.toNat-48):=by
 unfold gz;rw[List.foldl_append];rfl
theorem oi(n:Nat):∀c∈decDigits n,jJ c:=by
 induction n using Nat.strongRecOn with
 |_ n ih=>
  intro c z;by_cases h:n<10
  ·rw[decDigits_one h,M9] at z;subst z;unfold jJ;rw[rQ n h];omega
  ·rw[decDigits,dif_neg h,Nb] at z;rcases z with z|z
   ·exact ih (n/10) (by omega) c z
   ·rw[M9] at z;subst z;unfold jJ;rw[rQ (n%10) (by omega)];omega
theorem ng(n:Nat):gz 0 (decDigits n)=n:=by
 induction n using Nat.strongRecOn with
 |_ n ih=>
  by_cases h:n<10
  ·rw[decDigits_one h];show 0*10+((UInt8.ofNat (48+n)).toNat-48)=n;rw[rQ n h];omega
  ·rw[decDigits,dif_neg h,qd,ih (n/10) (by omega),rQ (n%10) (by omega)];omega
theorem F8(n:Nat):decDigits n≠[]:=by
 intro h;have:=decDigits_length n;rw[h] at this;have:=nDigits_pos n;simp at*;omega
theorem oL{a b:Nat}(h:decDigits a=decDigits b):a=b:=by rw[←ng a,h,ng]
theorem j5{n:Nat}{c:UInt8}(h:¬jJ c):c∉decDigits n:=fun z=>h (oi n c z)
theorem yE:∀(k:Nat) (l:List UInt8),l.length≤k→(∀c∈l,jJ c)→l≠[]→(l.head? =some 48→l=[48])→decDigits (gz 0 l)=l
 |0,l,hk,_,hne,_=>absurd (Nt (by omega)) hne
 |k+1,l,hk,hd,hne,h0=>by
  rcases List.eq_nil_or_concat l with rfl|⟨z,d,G⟩
  ·exact absurd rfl hne
  ·rw[List.concat_eq_append] at G;subst G;have I:=hd d (by simp);have J:UInt8.ofNat (48+(d.toNat-48))=d:=by
    have:48+(d.toNat-48)=d.toNat:=(by have:=I.1;omega);rw[this];exact UInt8.ofNat_toNat
   rw[qd];have M:d.toNat-48<10:=(by have:=I.2;omega);by_cases A:z=[]
   ·subst A;show decDigits (0*10+(d.toNat-48))=[d];rw[Nat.zero_mul,Ng,decDigits_one M,J]
   ·have L:z.head?≠some 48:=by
     intro e;have N:(z++[d]).head? =some 48:=by
      cases z with
      |nil=>exact absurd rfl A
      |cons x r=>simpa using e
     have K:=congrArg List.length (h0 N);simp at K;exact A K
    have E:=yE k z (by simp at hk;omega) (fun c O=>hd c (by simp[O])) A (fun e=>absurd e L);have Q:1≤gz 0 z:=by
     rcases Nat.eq_zero_or_pos (gz 0 z) with e|e
     ·rw[e,decDigits_one (by omega)] at E;exact absurd (by rw[←E];rfl) L
     ·exact e
    rw[decDigits,dif_neg (by omega),show(gz 0 z*10+(d.toNat-48))/10=gz 0 z from by omega,show(gz 0 z*10+(d.toNat-48))%10=d.toNat-48 from by omega,E,J]
theorem zZ{M:Nat}:∀(l:List UInt8) (acc n:Nat),parseUintM M acc l= .ok n→(∀c∈l,jJ c)∧n=gz acc l
 |[],acc,n,h=>⟨fun _ z=>(by cases z),(by simp only[parseUintM] at h;injection h with h;exact h.symm)⟩
 |c::r,acc,n,h=>by
  simp only[parseUintM] at h;split at h
  ·rename_i z;split at h
   ·cases h
   ·split at h
    ·cases h
    ·obtain⟨E,G⟩:=zZ r _ n h;exact⟨fun x A=>by
      rcases M1.1 A with rfl|A
      ·exact z
      ·exact E x A,G⟩
  ·cases h
theorem vJ:∀(l:List UInt8) (acc:Nat),(∀c∈l,jJ c)→gz acc l≤18446744073709551615→parseUintM 18446744073709551615 acc l= .ok (gz acc l)
 |[],acc,_,_=>rfl
 |c::r,acc,hd,hv=>by
  have A:=hd c (Nm ..);have z:gz (acc*10+(c.toNat-48)) r≤18446744073709551615:=hv;have G:=Kt r (acc*10+(c.toNat-48));simp only[parseUintM];rw[if_pos (show 48≤c.toNat∧c.toNat≤57 from A),if_neg (by omega),if_neg (by omega)];exact vJ r _ (fun x E=>hd x (MV _ E)) z
theorem vI(m:Nat)(z:m<18446744073709551616):parseUintB 64 (decDigits m)= .ok m:=by
 unfold parseUintB;rw[if_neg (F8 m)];have h:=vJ (decDigits m) 0 (oi m) (by rw[ng];omega);rw[ng] at h;exact h
theorem GP(a r:List UInt8)(b:UInt8)(q:List UInt8)(h:b∉a):index (a++((b::q)++r)) (b::q)=a.length:=by
 induction a with
 |nil=>
  show index (b::(q++r)) (b::q)=_;rw[index,if_pos]
  ·rfl
  ·simp[List.isPrefixOf,List.isPrefixOf_iff_prefix]
 |cons x a ih=>
  have E:b≠x:=fun e=>h (by rw[e];exact Nm ..);have z:=ih (fun A=>h (MV _ A));show index (x::(a++((b::q)++r))) (b::q)=_;rw[index,if_neg,z,if_neg]
  ·simp
  ·simp
  ·simp[List.isPrefixOf,E]
theorem iT(a r:List UInt8)(b:UInt8)(q:List UInt8)(h:b∉a):cut (a++((b::q)++r)) (b::q)=(a,r,true):=by
 unfold cut;rw[GP a r b q h,if_pos (by omega)];have:((a.length:Int)).toNat=a.length:=(by simp);rw[this,List.take_left];congr 2;rw[show a++((b::q)++r)=(a++(b::q))++r from by simp,show a.length+(b::q).length=(a++(b::q)).length from by simp,List.drop_left]
theorem yC{s sep:List UInt8}(h:(cut s sep).2.2=true):s=(cut s sep).1++(sep++(cut s sep).2.1):=by
 unfold cut at h⊢;split
 ·rename_i A;rcases index_spec s sep with⟨z,_⟩|⟨i,z,I,E,_⟩
  ·omega
  ·rw[z];have:((i:Int)).toNat=i:=(by simp);rw[this];unfold occAt at E;obtain⟨r,G⟩:=List.isPrefixOf_iff_prefix.1 E;show s=s.take i++(sep++s.drop (i+sep.length))
   conv=>lhs;rw[←Nk i s]
   rw[←List.drop_drop,←G,List.drop_left]
 ·rename_i A;rw[if_neg A] at h;cases h
theorem Ds:¬jJ 46:=by unfold jJ;decide
theorem zR:¬jJ 58:=by unfold jJ;decide
end
def oC(t:List UInt8)(b:UInt8)(a c:List UInt8)(ok:Bool):Prop:=(ok=true∧t=a++b::c∧b∉a)∨(ok=false∧b∉t∧a=t∧c=[])
theorem my(s:ByteArray)(a b:Nat):(s.extract a b).data.toList=(s.data.toList.drop a).take (b-a):=by
 rw[ByteArray.data_extract,Array.toList_extract]
theorem j9(s:ByteArray):s.data.toList.length=s.size:=rfl
theorem Eb(w:World)(n m:Nat):(w.drewN n).drewN m=w.drewN (n+m):=by
 unfold World.drewN;simp;omega
def I5(s:ByteArray)(b:UInt8)(w:World)(e:Ending)(w':World):Prop:=∃(x y:ByteArray) (ok:Bool),e= .returned (.tuple #[.string x,.string y,.bool ok])∧oC s.data.toList b x.data.toList y.data.toList ok∧∃n,w'=w.drewN n
theorem pU(s:ByteArray)(b:UInt8)(w:World)(Q:s.size≤1048576):
  Calls Tryz.prog 94 #[.string s,.int .u8 (b.toNat:Int)] w (I5 s b w):=by
 go_enter Tryz.func94,Tryz.ntmps94;go_wp2;go_loopw [7] (fun i wr=>∃k:Nat,k≤s.size∧i= .int .i64 (k:Int)∧Hid (b∉s.data.toList.take k)∧∃n,wr=w.drewN n) (fun i _=>s.size-(RowKit.intOf i).toNat)
 case atStart=>exact⟨0,MQ _,rfl,by show _∉_;simp,0,rfl⟩
 case round=>
  obtain⟨i,O,rfl,A,n,rfl⟩:=hrel;by_cases G:i<s.size
  ·by_cases z:s[i]=b
   ·have L:((s[i].toNat:Int)==(b.toNat:Int))=true:=(by rw[z];simp);have M:(i:Int)≤(s.size:Int):=(by omega);have N:(i:Int)+1≤(s.size:Int):=(by omega);go_wp2;go_quiet(fail);go_wp2
    go_ret3
    refine⟨s.extract 0 i,s.extract (i+1) s.size,true,rfl,Or.inl ⟨rfl,?_,?_⟩,n+nq,?_⟩
    ·rw[my,my];have E:i<s.data.toList.length:=G;have J:s.size=s.data.toList.length:=rfl;rw[J,List.drop_zero,Nat.sub_zero,MX (l:=s.data.toList.drop (i+1)) (by simp)];have K:s.data.toList[i]=b:=z;rw[←K]
     conv=>lhs;rw[←Nk i s.data.toList,Nl E]
    ·rw[my,List.drop_zero,Nat.sub_zero];exact A.out
    ·exact Eb w n nq
   ·have L:((s[i].toNat:Int)==(b.toNat:Int))=false:=by
     have:s[i].toNat≠b.toNat:=fun e=>z (UInt8.toNat_inj.1 e);simp;omega
    go_wp2;go_roundw
    case rel=>
     refine⟨i+1,by omega,by go_num,?_,n,rfl⟩;show b∉s.data.toList.take (i+1);have E:i<s.data.toList.length:=G;rw[MP E,Nb];intro h;rcases h with h|h
     ·exact A.out h
     ·rw[M9] at h;exact z h.symm
    case measure=>simp[RowKit.intOf];omega
  ·have I:i=s.size:=(by omega);subst I;go_wp2
   go_ret3
   refine⟨s,⟨#[]⟩,false,rfl,Or.inr ⟨rfl,?_,rfl,rfl⟩,n,rfl⟩;have h:=A.out;rw[MX (Nat.le_of_eq (j9 s))] at h;exact h
def Blk(w:World)(g:Nat)(cs:Array Value)(t:TypeId):Prop:=w.heap[g]? =some (.cells cs t (0,0))
theorem Blk.lt(h:Blk w g cs t):g<w.heap.size:=lt_of_block h
theorem Blk.cell(h:Blk w g cs t)(j:Nat):w.cell? ⟨g,j,none⟩=cs[j]? :=cell_of_row w g j _ _ (0,0) h
theorem Blk.fz(h:Blk w g cs t)(j:Nat):w.frozen? ⟨g,j,none⟩=false:=by unfold Blk at h;simp[World.frozen?,h]
theorem Blk.set(h:Blk w g cs t)(j:Nat)(u:Value):Blk (w.setCell ⟨g,j,none⟩ u) g (cs.setIfInBounds j u) t:=heap_setCell_same w g j _ _ u h
theorem Blk.other{g':Nat}(h:Blk w g cs t)(z:g≠g')(u:Value):Blk (w.setCell ⟨g',j,none⟩ u) g cs t:=(heap_setCell_other w ⟨g',j,none⟩ g u (by simpa using z)).trans h
theorem Blk.below(h:Blk w g cs t)(z:Below B w w')(A:g<B):Blk w' g cs t:=(z.block g A).trans h
theorem dN(w:World)(cs:Array Value)(t:TypeId):Blk (w.alloc (.cells cs t)) w.heap.size cs t:=heap_alloc_new w _
theorem Blk.c2{z A:Value}{r:List Value}(h:Blk w g (z::A::r).toArray t):w.cell? ⟨g,0,none⟩=some z∧w.cell? ⟨g,1,none⟩=some A:=⟨h.cell 0,h.cell 1⟩
theorem Blk.c3{z A:Value}{r:List Value}(h:Blk w g (z::A::E::r).toArray t):w.cell? ⟨g,0,none⟩=some z∧w.cell? ⟨g,1,none⟩=some A∧w.cell? ⟨g,2,none⟩=some E:=⟨h.cell 0,h.cell 1,h.cell 2⟩
theorem Blk.c4{z A:Value}{r:List Value}(h:Blk w g (z::A::E::G::r).toArray t):w.cell? ⟨g,0,none⟩=some z∧w.cell? ⟨g,1,none⟩=some A∧w.cell? ⟨g,2,none⟩=some E∧w.cell? ⟨g,3,none⟩=some G:=⟨h.cell 0,h.cell 1,h.cell 2,h.cell 3⟩
theorem Blk.c5{z A:Value}{r:List Value}(h:Blk w g (z::A::E::G::I::r).toArray t):w.cell? ⟨g,0,none⟩=some z∧w.cell? ⟨g,1,none⟩=some A∧w.cell? ⟨g,2,none⟩=some E∧w.cell? ⟨g,3,none⟩=some G∧w.cell? ⟨g,4,none⟩=some I:=⟨h.cell 0,h.cell 1,h.cell 2,h.cell 3,h.cell 4⟩
theorem Blk.c6{z A:Value}{r:List Value}(h:Blk w g (z::A::E::G::I::J::r).toArray t):w.cell? ⟨g,0,none⟩=some z∧w.cell? ⟨g,1,none⟩=some A∧w.cell? ⟨g,2,none⟩=some E∧w.cell? ⟨g,3,none⟩=some G∧w.cell? ⟨g,4,none⟩=some I∧w.cell? ⟨g,5,none⟩=some J:=⟨h.cell 0,h.cell 1,h.cell 2,h.cell 3,h.cell 4,h.cell 5⟩
theorem Blk.c7{z A:Value}{r:List Value}(h:Blk w g (z::A::E::G::I::J::K::r).toArray t):w.cell? ⟨g,0,none⟩=some z∧w.cell? ⟨g,1,none⟩=some A∧w.cell? ⟨g,2,none⟩=some E∧w.cell? ⟨g,3,none⟩=some G∧w.cell? ⟨g,4,none⟩=some I∧w.cell? ⟨g,5,none⟩=some J∧w.cell? ⟨g,6,none⟩=some K:=⟨h.cell 0,h.cell 1,h.cell 2,h.cell 3,h.cell 4,h.cell 5,h.cell 6⟩
theorem Blk.c8{z A:Value}{r:List Value}(h:Blk w g (z::A::E::G::I::J::K::L::r).toArray t):w.cell? ⟨g,0,none⟩=some z∧w.cell? ⟨g,1,none⟩=some A∧w.cell? ⟨g,2,none⟩=some E∧w.cell? ⟨g,3,none⟩=some G∧w.cell? ⟨g,4,none⟩=some I∧w.cell? ⟨g,5,none⟩=some J∧w.cell? ⟨g,6,none⟩=some K∧w.cell? ⟨g,7,none⟩=some L:=⟨h.cell 0,h.cell 1,h.cell 2,h.cell 3,h.cell 4,h.cell 5,h.cell 6,h.cell 7⟩
theorem Blk.c9{z A:Value}{r:List Value}(h:Blk w g (z::A::E::G::I::J::K::L::M::r).toArray t):w.cell? ⟨g,0,none⟩=some z∧w.cell? ⟨g,1,none⟩=some A∧w.cell? ⟨g,2,none⟩=some E∧w.cell? ⟨g,3,none⟩=some G∧w.cell? ⟨g,4,none⟩=some I∧w.cell? ⟨g,5,none⟩=some J∧w.cell? ⟨g,6,none⟩=some K∧w.cell? ⟨g,7,none⟩=some L∧w.cell? ⟨g,8,none⟩=some M:=⟨h.cell 0,h.cell 1,h.cell 2,h.cell 3,h.cell 4,h.cell 5,h.cell 6,h.cell 7,h.cell 8⟩
theorem Blk.c10{z A:Value}{r:List Value}(h:Blk w g (z::A::E::G::I::J::K::L::M::N::r).toArray t):w.cell? ⟨g,0,none⟩=some z∧w.cell? ⟨g,1,none⟩=some A∧w.cell? ⟨g,2,none⟩=some E∧w.cell? ⟨g,3,none⟩=some G∧w.cell? ⟨g,4,none⟩=some I∧w.cell? ⟨g,5,none⟩=some J∧w.cell? ⟨g,6,none⟩=some K∧w.cell? ⟨g,7,none⟩=some L∧w.cell? ⟨g,8,none⟩=some M∧w.cell? ⟨g,9,none⟩=some N:=⟨h.cell 0,h.cell 1,h.cell 2,h.cell 3,h.cell 4,h.cell 5,h.cell 6,h.cell 7,h.cell 8,h.cell 9⟩
theorem Blk.c11{A z:Value}{r:List Value}(h:Blk w g (A::E::G::I::J::K::L::M::N::O::z::r).toArray t):w.cell? ⟨g,0,none⟩=some A∧w.cell? ⟨g,1,none⟩=some E∧w.cell? ⟨g,2,none⟩=some G∧w.cell? ⟨g,3,none⟩=some I∧w.cell? ⟨g,4,none⟩=some J∧w.cell? ⟨g,5,none⟩=some K∧w.cell? ⟨g,6,none⟩=some L∧w.cell? ⟨g,7,none⟩=some M∧w.cell? ⟨g,8,none⟩=some N∧w.cell? ⟨g,9,none⟩=some O∧w.cell? ⟨g,10,none⟩=some z:=⟨h.cell 0,h.cell 1,h.cell 2,h.cell 3,h.cell 4,h.cell 5,h.cell 6,h.cell 7,h.cell 8,h.cell 9,h.cell 10⟩
theorem Blk.c12{Q z A:Value}{r:List Value}(h:Blk w g (E::G::I::J::K::L::M::N::O::Q::z::A::r).toArray t):w.cell? ⟨g,0,none⟩=some E∧w.cell? ⟨g,1,none⟩=some G∧w.cell? ⟨g,2,none⟩=some I∧w.cell? ⟨g,3,none⟩=some J∧w.cell? ⟨g,4,none⟩=some K∧w.cell? ⟨g,5,none⟩=some L∧w.cell? ⟨g,6,none⟩=some M∧w.cell? ⟨g,7,none⟩=some N∧w.cell? ⟨g,8,none⟩=some O∧w.cell? ⟨g,9,none⟩=some Q∧w.cell? ⟨g,10,none⟩=some z∧w.cell? ⟨g,11,none⟩=some A:=⟨h.cell 0,h.cell 1,h.cell 2,h.cell 3,h.cell 4,h.cell 5,h.cell 6,h.cell 7,h.cell 8,h.cell 9,h.cell 10,h.cell 11⟩
theorem Blk.c13{Q R z A:Value}{r:List Value}(h:Blk w g (G::I::J::K::L::M::N::O::Q::R::z::A::E::r).toArray t):w.cell? ⟨g,0,none⟩=some G∧w.cell? ⟨g,1,none⟩=some I∧w.cell? ⟨g,2,none⟩=some J∧w.cell? ⟨g,3,none⟩=some K∧w.cell? ⟨g,4,none⟩=some L∧w.cell? ⟨g,5,none⟩=some M∧w.cell? ⟨g,6,none⟩=some N∧w.cell? ⟨g,7,none⟩=some O∧w.cell? ⟨g,8,none⟩=some Q∧w.cell? ⟨g,9,none⟩=some R∧w.cell? ⟨g,10,none⟩=some z∧w.cell? ⟨g,11,none⟩=some A∧w.cell? ⟨g,12,none⟩=some E:=⟨h.cell 0,h.cell 1,h.cell 2,h.cell 3,h.cell 4,h.cell 5,h.cell 6,h.cell 7,h.cell 8,h.cell 9,h.cell 10,h.cell 11,h.cell 12⟩
theorem Tryz.infoStr:(Tryz.prog.info? 9).map (fun i=>(i.zero,i.size,i.bytes))=some (some (.string ⟨#[]⟩),1,16):=by kernel_rfl
def gZ(w:World)(base:Nat)(v:Value)(xs:List ByteArray):Prop:=w.ownsRow base 9 1 v xs.length (xs.map Value.string)
theorem gZ.nil(w:World)(z:Nat):gZ w z (.slice none 0 0) []:=⟨rfl,.inl ⟨rfl,rfl⟩⟩
theorem gZ.at{v:Value}{xs:List ByteArray}(h:gZ w z v xs):(v= .slice none 0 0∧xs=[])∨∃g cap,v= .slice (some ⟨g,0,none⟩) xs.length cap∧g<w.heap.size∧z≤g∧xs.length≤cap∧∀(j:Nat) x,xs[j]? =some x→w.cell? ⟨g,0+j,none⟩=some (.string x):=by
 rcases h.2 with⟨O,N⟩|⟨g,I,J,L,M,E,K,R,U,Q⟩
 ·exact .inl ⟨O,Nc.1 N⟩
 ·refine .inr ⟨g,I,L,lt_of_block E,M,K,fun j x G=> ?_⟩;rw[cell_of_row w g _ _ _ (0,0) E,Ng];have A:(J.toList.take (xs.length*1))[j]? =some (.string x):=(by rw[Q];simp[G]);have V:j<xs.length:=(List.getElem?_eq_some_iff.1 G).1;rw[List.getElem?_take_of_lt (by omega)] at A;simpa using A
theorem iL{K:Array Oper}{J:List Oper}{A:Act}(w:World)(R:o.guard=none)(s x:Operand)
  (ho:o.op= .call {callee:= .builtin .append,args:= #[s,x],argTypes:= #[120,120]})
  (z:Nat) (v:Value) (xs:List ByteArray) (t:ByteArray) (G c:Nat) (hs:A.eval s=v) (hx:A.eval x= .slice (some ⟨G,0,none⟩) 1 c) (O:gZ w z v xs)
  (Z:w.cell? ⟨G,0,none⟩=some (.string t)) (aa:xs.length≤1048576) (M:z≤w.heap.size)
  (h:∀E w',gZ w' z E (xs++[t])→w.grownBy w' v.ownBlock→wpList Tryz.prog K Q J (A.put o.dst E) w'):wpList Tryz.prog K Q (o::J) A w:=by
 obtain⟨i0,hi,U,V,Y⟩:=info_parts Tryz.infoStr;refine wpList_append_own w R s x 120 ho z 9 i0 (.string ⟨#[]⟩) 1 16 Tryz.underlying120 hi U V Y rfl (by decide) v xs.length (xs.map Value.string) hs O ⟨G,0,none⟩ 1 c [.string t] hx (by simp) ?_ ?_ (by unfold maxLen;omega) (by omega) M ?_
 ·intro j u I;rw[ej]
  match j with
  |0=>simp only[Nj,MK] at I;rw[←I];exact Z
  |j+1=>simp at I
 ·intro u L;simp only[M1,Nw,or_false] at L;rw[L];rfl
 ·intro E w' N hg _;refine h E w' ?_ hg;unfold gZ;rw[MT,MS];exact N
def iV(k n:Nat):List Nat:=(List.range n).map fun i=>(k+i)%256
theorem gQ(k n:Nat):(iV k n).length=n:=by simp[iV]
theorem Hd(k n i:Nat)(h:i<(iV k n).length):(iV k n)[i]=(k+i)%256:=by simp[iV]
theorem BP(k n:Nat):iV k (n+1)=iV k n++[(k+n)%256]:=by simp[iV,List.range_succ]
def jQ(k:Nat)(l:List Nat)(i:Nat):List Nat:=iV k i++l.drop i
theorem zG(k:Nat)(l:List Nat):jQ k l 0=l:=by simp[jQ,iV]
theorem BN(k:Nat)(l:List Nat):jQ k l l.length=iV k l.length:=by simp[jQ]
theorem ut(k:Nat)(l:List Nat)(i:Nat)(h:i≤l.length):(jQ k l i).length=l.length:=by simp[jQ,gQ];omega
theorem BO(k:Nat)(l:List Nat)(i:Nat)(h:i<l.length):(jQ k l i).set i ((k+i)%256)=jQ k l (i+1):=by
 unfold jQ;rw[List.set_append_right _ _ (by simp[gQ])];have e:i-(iV k i).length=0:=(by simp[gQ]);rw[e,Nl h,NA,BP];simp
theorem Jd(k j:Nat):bv ((k+j)%256)= .int .u8 (((k:Int)+(j:Int))%256):=fy (by omega)
theorem uq(A:Nat)(a:Option Addr)(cap k:Nat)(l:List Nat)(w:World)(Z:k≤4503599627370496)(hl:l.length≤4503599627370496)(K:dO w A (.slice a l.length cap) l):
  Calls Tryz.prog 51 #[.slice a l.length cap,.int .i64 (k:Int)] w fun e w'=>e= .returned (.int .i64 ((k+l.length:Nat):Int))∧dO w' A (.slice a l.length cap) (iV k l.length)∧w.grownBy w' (Value.slice a l.length cap).ownBlock∧w'.heap.size=w.heap.size:=by
 go_enter Tryz.func51,Tryz.ntmps51;go_wp2;go_loopw [1,5] (fun s i wr=>∃j:Nat,j≤l.length∧i= .int .i64 j∧s= .int .i64 ((k+j:Nat):Int)∧dO wr A (.slice a l.length cap) (jQ k l j)∧w.grownBy wr (Value.slice a l.length cap).ownBlock∧wr.heap.size=w.heap.size) (fun _ i _=>l.length-(intOf i).toNat)
 case atStart=>exact⟨0,MQ _,rfl,rfl,by rw[zG];exact K,Bu _ _,rfl⟩
 case round=>
  obtain⟨j,U,rfl,rfl,z,J,I⟩:=hrel;clear K;by_cases N:j<l.length
  ·have O:=ut k l j U;obtain⟨b,Q,rfl,R⟩:=z.row (by omega);have M:Q=0:=by
    rcases z.2 with⟨h,_⟩|⟨g,c,V,h,_⟩
    ·simp at h
    ·simp at h;exact h.1.2
   subst M;have L:=z.cellAt j (by omega);have Y:=z.frozenAt j;have E:=z.store j ((k+j)%256);rw[BO k l j N] at E;have G:Hid (dO (wr.setCell ⟨b,j,none⟩ (bv ((k+j)%256))) A (.slice (some ⟨b,0,none⟩) l.length cap) (jQ k l (j+1))∧w.grownBy (wr.setCell ⟨b,j,none⟩ (bv ((k+j)%256))) (some b)∧(wr.setCell ⟨b,j,none⟩ (bv ((k+j)%256))).heap.size=w.heap.size):=⟨E.1,yZ J E.2,by rw[←I];simp⟩
   generalize (jQ k l j)[j]'(by omega)=y at L;clear E z J R O I;rw[Jd] at G;go_wp2;go_roundw
   case rel=>exact⟨j+1,by omega,by go_num,fy (by omega),G.out.1,G.out.2.1,G.out.2.2⟩
   case measure=>simp[intOf];omega
  ·obtain rfl:j=l.length:=(by omega);rw[BN] at z;go_wp2;go_ret;exact⟨rfl,z,J,I⟩
theorem ue(a:Option Addr)(cap k n:Nat)(w:World)(M:k≤4503599627370496)(N:n≤4503599627370496)(E:dW w a (iV k n)):
  Calls Tryz.prog 53 #[.slice a n cap,.int .i64 (k:Int)] w fun e w'=>e= .returned (.int .i64 ((k+n:Nat):Int))∧w'=w:=by
 go_enter Tryz.func53,Tryz.ntmps53;go_wp2;go_loop [1,5] (fun s i=>∃j:Nat,j≤n∧i= .int .i64 j∧s= .int .i64 ((k+j:Nat):Int)) (fun _ i=>n-(intOf i).toNat)
 case atStart=>exact⟨0,MQ _,rfl,rfl⟩
 case round=>
  obtain⟨j,L,rfl,rfl⟩:=hrel;by_cases I:j<n
  ·have G:=gQ k n;obtain⟨b,K,rfl,A⟩:=E (by omega);have z:=A j (by omega);rw[Hd k n j (by omega)] at z;have e:(((k+j)%256:Nat):Int)=((k:Int)+(j:Int))%256:=(by omega);rw[e] at z;have J:((((k:Int)+(j:Int))%256) !=(((k:Int)+(j:Int))%256))=false:=(by simp);clear A E G e;go_wp2;go_round
   case rel=>exact⟨j+1,by omega,by go_num,fy (by omega)⟩
   case measure=>simp[intOf];omega
  ·obtain rfl:j=n:=(by omega);go_wp2;go_ret;exact⟨rfl,rfl⟩
end Go.Proofs.YtpdbolihakojcaaGreatDoor
namespace Go.Proofs.YtpdbolihakojcaaGreatDoor
set_option maxRecDepth 20000
set_option linter.unusedVariables false
set_option linter.unusedSimpArgs false
set_option maxHeartbeats 4000000
open Go.RowKit
variable {W Y w w' w0 wr : World} {b : List UInt8} {A B at_ base' c cap e f g gs i j k lo m n u z : Nat} {R d is l : List Nat} {E G I J K L M N O v0 v1 v2 v3 v4 v5 v6 x y : Value} {o : Oper} {Q : Exit → Act → World → Prop} {bvs xs : List Value} {t : TypeId} {cs tmps : Array Value} {p : Addr} {a : Option Addr} {first ok : Bool} {s : ByteArray} {rs : List (List Nat)}
section
open Go.Lib
open Go.Sort (grow HoldsK putRowK)
structure Cd where
 name:ByteArray
 ad:Option Addr
 dl:Nat
 dc:Nat
 uid:Nat
 stamp:Nat
 flags:Nat
instance:Inhabited Cd:=⟨⟨⟨#[]⟩,none,0,0,0,0,0⟩⟩
def d6(c:Cd):List Value:=[.string c.name,.slice c.ad c.dl c.dc,.int .i64 (c.dl:Int),.bool true,.int .u32 (c.uid:Int),.int .i64 (c.stamp:Int),.int .u32 (c.flags:Int)]
theorem mx(c:Cd):∀v∈d6 c,v.oneCell'=true:=by
 intro v z;simp only[d6,M1,Nw,or_false] at z;rcases z with rfl|rfl|rfl|rfl|rfl|rfl|rfl<;>rfl
section
variable {k:Nat}
abbrev srW(k:Nat)(w:World)(blk m:Nat)(dk:Array Cd)(os:Array Obj):World:=sortWorldK d6 k w blk 0 m dk os
theorem ki{w:World}{z:Nat}{d:Array Cd}(h:HoldsK d6 k w z 0 d):w=srW k w z 0 d #[]:=by
 show w=grow (putRowK d6 k (Go.Sort.ahead w 0) z 0 d) #[];rw[Go.Sort.grow_empty];exact(Go.Sort.putRowK_self d6 k w z 0 d h).symm
theorem ig{w:World}{z:Nat}{d A:Array Cd}(m:Nat)(os:Array Obj)(h:HoldsK d6 k w z 0 d)(E:z<w.heap.size)(G:A.size=d.size):HoldsK d6 k (srW k w z m A os) z 0 A:=holdsK_sortWorldK_c d6 k w z 0 d A m os h E G
theorem kA(w:World)(z m:Nat)(A:Array Cd)(os:Array Obj):w.heap.size≤(srW k w z m A os).heap.size:=size_sortWorldK_c d6 k w z 0 m A os
theorem nA(w:World)(z m n:Nat)(E:Array Cd)(os A:Array Obj):grow ((srW k w z m E os).drewN n) A=srW k w z (m+n) E (os++A):=sortWorldK_grown_c d6 k w z 0 m n E os A
theorem iJ{w:World}{z m n:Nat}{G A:Array Cd}{os E:Array Obj}(I:z<w.heap.size)(h:A.size=G.size):srW k (srW k w z m G os) z n A E=srW k w z (m+n) A (os++E):=Go.Sort.grow_step_growK d6 k w os E m n z 0 G A I h
end
theorem tE{d:Array Cd}{i j:Nat}(z:i<d.size)(A:j<d.size):(Go.Sort.swp d i j).toList=swp d.toList i j:=by
 rw[Cq (by simpa using z) (by simpa using A)];unfold Go.Sort.swp;simp[z,A]
def rA(k:Nat)(w:World)(blk:Nat)(R:Array Cd→Prop)(e:Ending)(w':World):Prop:=e= .returned (.tuple #[])∧∃n dk os,R dk∧w'=srW k w blk n dk os
def cmU(x y:Cd):Int:=if x.uid<y.uid then-1 else if y.uid<x.uid then 1 else 0
theorem jo(x:Int)(w:World):Calls Tryz.prog 178 #[.int .u32 x] w fun e w'=>e= .returned (.bool false)∧w'=w:=by
 go_enter Tryz.func178,Tryz.ntmps178;go_wp2;go_ret;exact⟨rfl,rfl⟩
theorem yz(x y:Nat)(w:World):Calls Tryz.prog 146 #[.int .u32 (x:Int),.int .u32 (y:Int)] w fun e w'=>e= .returned (.int .i64 (if x<y then-1 else if y<x then 1 else 0))∧w'=w:=by
 by_cases A:x<y
 ·have G:(x:Int)<(y:Int):=(by omega);rw[if_pos A];clear A;go_enter Tryz.func146,Tryz.ntmps146;go_wp2_with fail;refine(jo (x:Int) w).mono ?_;rintro e z ⟨rfl,rfl⟩;go_wp2_with fail;refine(jo (y:Int) z).mono ?_;rintro e z ⟨rfl,rfl⟩;go_wp2;go_ret;exact⟨rfl,rfl⟩
 ·have G:¬(x:Int)<(y:Int):=(by omega);rw[if_neg A];by_cases E:y<x
  ·have I:(y:Int)<(x:Int):=(by omega);rw[if_pos E];clear A E;go_enter Tryz.func146,Tryz.ntmps146;go_wp2_with fail;refine(jo (x:Int) w).mono ?_;rintro e z ⟨rfl,rfl⟩;go_wp2_with fail;refine(jo (y:Int) z).mono ?_;rintro e z ⟨rfl,rfl⟩;go_wp2;go_ret;exact⟨rfl,rfl⟩
  ·have I:¬(y:Int)<(x:Int):=(by omega);rw[if_neg E];clear A E;go_enter Tryz.func146,Tryz.ntmps146;go_wp2_with fail;refine(jo (x:Int) w).mono ?_;rintro e z ⟨rfl,rfl⟩;go_wp2_with fail;refine(jo (y:Int) z).mono ?_;rintro e z ⟨rfl,rfl⟩;go_wp2;go_ret;exact⟨rfl,rfl⟩
theorem Dd(x y:Cd)(W:World):Calls Tryz.prog 145 #[.agg (d6 x).toArray,.agg (d6 y).toArray] W fun e w'=>e= .returned (.int .i64 (cmU x y))∧∃q A,w'=grow (W.drewN q) A:=by
 have z:=fun W'=>yz x.uid y.uid W';unfold cmU;generalize (if x.uid<y.uid then-1 else if y.uid<x.uid then 1 else 0:Int)=r at z⊢;obtain⟨E,G,I,J,K,L,M⟩:=x;obtain⟨b1,b2,N,O,Q,R,U⟩:=y;simp only[d6] at z⊢;go_enter Tryz.func145,Tryz.ntmps145;go_wp2_with fail;refine(z _).mono ?_;rintro e w' ⟨rfl,rfl⟩;go_wp2;go_ret;exact⟨rfl,0,_,by rw[Go.Sort.alloc_eq_grow,Go.Sort.alloc_eq_grow,Go.Sort.grow_grow];rfl⟩
theorem K4(k:Nat)(z size:Nat)(w:World):CmpLays Tryz.prog 145 #[] d6 k cmU z 0 size w:=fun _ _ _ _ x y=>Dd x y _
theorem Tryz.enterC:∀args w,(callFunc 145 args).run Tryz.prog w= .ok (.enter 145 args) w:=enters_of Tryz.func145 (by kernel_rfl) rfl
structure SrP(P:Program)(k:Nat):Prop where
 mixed:P.follows .mixedOrders=true
 len:∀x,(d6 x).length=k
 fs:P.funcs[236]? =some Tryz.f236
 fr:P.funcs[218]? =some Tryz.f218
 fm:P.funcs[202]? =some Tryz.f202
 ft:P.funcs[177]? =some Tryz.f177
 es:∀args w,(callFunc 236 args).run P w= .ok (.enter 236 args) w
 er:∀args w,(callFunc 218 args).run P w= .ok (.enter 218 args) w
 em:∀args w,(callFunc 202 args).run P w= .ok (.enter 202 args) w
 ei:∀args w,(callFunc 201 args).run P w= .ok (.enter 201 args) w
 ec:∀args w,(callFunc 145 args).run P w= .ok (.enter 145 args) w
 t0:P.underlying 0=Tryz.prog.underlying 0
 a0:∀w,(isAgg 0).run P w=(isAgg 0).run Tryz.prog w
 z0:∀w,(Go.sizeOf 0).run P w=(Go.sizeOf 0).run Tryz.prog w
 t3:P.underlying 3=some (.int .i64)
 a3:∀w,(isAgg 3).run P w= .ok false w
 z3:∀w,(Go.sizeOf 3).run P w= .ok 1 w
 t4:P.underlying 4=some .bool
 a4:∀w,(isAgg 4).run P w= .ok false w
 z4:∀w,(Go.sizeOf 4).run P w= .ok 1 w
 tu:P.underlying 224=some (.int .u64)
 ts:P.underlying 204=some (.slice 219)
 as':∀w,(isAgg 204).run P w= .ok false w
 zs:∀w,(Go.sizeOf 204).run P w= .ok 1 w
 ae:∀w,(isAgg 219).run P w= .ok true w
 ze:∀w,(Go.sizeOf 219).run P w= .ok k w
 cm:∀x y W,Calls P 145 #[.agg (d6 x).toArray,.agg (d6 y).toArray] W fun e w'=>e= .returned (.int .i64 (cmU x y))∧∃q os',w'=grow (W.drewN q) os'
theorem Tryz.srP:SrP Tryz.prog 7:={
 mixed:=by kernel_rfl
 len:=fun _=>rfl
 fs:=Tryz.func236
 fr:=Tryz.func218
 fm:=Tryz.func202
 ft:=Tryz.func177
 es:=enters_of Tryz.func236 (by kernel_rfl) rfl
 er:=enters_of Tryz.func218 (by kernel_rfl) rfl
 em:=enters_of Tryz.func202 (by kernel_rfl) rfl
 ei:=enters_of Tryz.func201 (by kernel_rfl) rfl
 ec:=Tryz.enterC
 t0:=rfl
 a0:=fun _=>rfl
 z0:=fun _=>rfl
 t3:=Tryz.underlying3
 a3:=Tryz.isAgg3
 z3:=Tryz.sizeOf3
 t4:=Tryz.underlying4
 a4:=Tryz.isAgg4
 z4:=Tryz.sizeOf4
 tu:=Tryz.underlying224
 ts:=Tryz.underlying204
 as':=Tryz.isAgg204
 zs:=Tryz.sizeOf204
 ae:=Tryz.isAgg219
 ze:=Tryz.sizeOf219
 cm:=Dd}
end
section
open Go.Lib
open Go.Sort (grow HoldsK putRowK)
variable {P:Program} {k:Nat}
theorem oB(L:SrP P k){W:World}{z:Nat}{A:Array Cd}(E:HoldsK d6 k W z 0 A)(i j:Nat)(M:i<A.size)(O:j<A.size)(x y:Cd)(I:A[i]! =x)(Q:A[j]! =y):
  Sem.run P (loadCellsFrom ⟨z,i*k,none⟩ 0 k #[]) W= .ok (d6 x).toArray W∧
  Sem.run P (loadCellsFrom ⟨z,j*k,none⟩ 0 k #[]) W= .ok (d6 y).toArray W∧
  Sem.run P (storeCells ⟨z,i*k,none⟩ (d6 y) 0) W= .ok () (W.setCells z (i*k) (d6 y))∧
  Sem.run P (storeCells ⟨z,j*k,none⟩ (d6 x) 0) (W.setCells z (i*k) (d6 y))= .ok () ((W.setCells z (i*k) (d6 y)).setCells z (j*k) (d6 x)):=by
 have G:∀x,x<A.size→x*k+k≤A.size*k:=fun x I=>by
  have:=Ny k (show x+1≤A.size from I);rwa[Nat.add_mul,Nat.one_mul] at this
 have J:=run_loadCellsFrom_list P W ⟨z,0+i*k,none⟩ (d6 A[i]!) k (L.len _) (HoldsK.cells E L.len (by omega));have K:=run_loadCellsFrom_list P W ⟨z,0+j*k,none⟩ (d6 A[j]!) k (L.len _) (HoldsK.cells E L.len (by omega));have s1:Sem.run P (storeCells ⟨z,0+i*k,none⟩ (d6 y) 0) W= .ok () (W.setCells z (0+i*k) (d6 y)):=stores_of_holds P E (i*k) _ (by rw[L.len,Go.Sort.size_flatK];exact G i M) (mx _);have N:Sem.run P (storeCells ⟨z,0+j*k,none⟩ (d6 x) 0) (W.setCells z (0+i*k) (d6 y))= .ok () ((W.setCells z (0+i*k) (d6 y)).setCells z (0+j*k) (d6 x)):=
  stores_of_holds P (holds_setCells_c E (i*k) _ (by rw[L.len,Go.Sort.size_flatK];exact G i M)) (j*k) _ (by rw[L.len,Go.Sort.size_setMany,Go.Sort.size_flatK];exact G j O) (mx _)
 simp only[Ng] at J K s1 N;rw[I] at J;rw[Q] at K;exact⟨J,K,s1,N⟩
theorem tD(L:SrP P k){w:World}{A m i j:Nat}{z:Array Cd}{os:Array Obj}{x y:Cd}(E:A<w.heap.size)(G:i<z.size)(I:j<z.size)(J:z[i]! =x)(K:z[j]! =y):
  ((srW k w A m z os).drew.setCells A (i*k) (d6 y)).setCells A (j*k) (d6 x)=srW k w A (m+1) (Go.Sort.swp z i j) os:=by
 have h:=sortWorldK_swp_c d6 k w A 0 L.len m z os E i j G I;simp only[Ng] at h;rw[J,K] at h;exact h
theorem uH(L:SrP P k)(fv:Value)(A cap a b n:Nat)(d:Array Cd)(w:World)(J:HoldsK d6 k w A 0 d)(Q:A<w.heap.size)(am:a+n≤b)(hb:b+n≤d.size)(au:d.size≤1000000):
  Calls P 236 #[.slice (some ⟨A,0,none⟩) d.size cap,.int .i64 (a:Int),.int .i64 (b:Int),.int .i64 (n:Int),fv] w (rA k w A (fun z=>z.size=d.size∧(∀k,z.toList[k]? =swG (d.toList[·]?) a b n k)∧Seg a (b+n) d.toList z.toList)):=by
 have ag:=L.mixed;have t3:=L.t3;have a3:=L.a3;have z3:=L.z3;have t4:=L.t4;have a4:=L.a4;have z4:=L.z4;have ts:=L.ts;have ai:=L.as';have zs:=L.zs;have ae:=L.ae;have ze:=L.ze;have ac:=a8 (ki J);have HH:=a8 J;have I:=a8 L;have F:=L.fs;clear J L;go_enter F,Tryz.ntmps236;go_wp2;go_loopw [10] (fun O wr=>∃(i m:Nat) (z:Array Cd) (os:Array Obj),O= .int .i64 (i:Int)∧i≤n∧z.size=d.size∧wr=srW k w A m z os∧Hid (∀k,z.toList[k]? =swG (d.toList[·]?) a b i k)∧Hid (Seg a (b+n) d.toList z.toList)) (fun O _=>n-(intOf O).toNat)
 case atStart=>exact⟨0,0,d, #[],rfl,MQ _,rfl,ac.out,a8 (fun k=>(IF _ a b k).symm),a8 (Seg.refl _ _ _)⟩
 case round=>
  obtain⟨i,m,z,os,rfl,aq,E,rfl,Y,R⟩:=hrel;by_cases ar:i<n
  ·have ah:(i:Int)<(n:Int):=(by omega);have aj:(a:Int)+(i:Int)<(d.size:Int):=(by omega);have an:(b:Int)+(i:Int)<(d.size:Int):=(by omega);have ak:((a:Int)+(i:Int)).toNat=a+i:=(by omega);have ao:((b:Int)+(i:Int)).toNat=b+i:=(by omega);have al:(0:Int)≤(a:Int)+(i:Int):=(by omega);have ap:(0:Int)≤(b:Int)+(i:Int):=(by omega);obtain⟨x,K⟩:∃x,z[a+i]! =x:=⟨_,rfl⟩
   obtain⟨y,M⟩:∃y,z[b+i]! =y:=⟨_,rfl⟩
   have V:HoldsK d6 k (srW k w A m z os).drew A 0 z:=ig m os HH.out Q E;obtain⟨Z,l2,s1,N⟩:=oB I.out V (a+i) (b+i) (by omega) (by omega) x y K M;have G:=a8 (tD I.out (m:=m) (os:=os) Q (show a+i<z.size by omega) (show b+i<z.size by omega) K M);have ab:=a8 (fun k=>IE (k:=k) (xs:=d.toList) (ys:=z.toList) (a:=a) (b:=b) (n:=i) (by simpa using E) Y.out (by omega) (by simp;omega));have U:=a8 (tE (d:=z) (show a+i<z.size by omega) (show b+i<z.size by omega));have aa:=a8 (R.out.trans (xO (a:=a) (b:=b+n) (xs:=z.toList) (i:=a+i) (j:=b+i) (by simp;omega) (by simp;omega) (by omega) (by omega) (by omega) (by omega)));have ad:(d6 x).length=k:=I.out.len _;have af:(d6 y).length=k:=I.out.len _;clear V K M;generalize d6 x=cx at Z N G ad;generalize d6 y=cy at l2 s1 N G af;generalize srW k w A m z os=wq at Z l2 s1 N G⊢;go_wp2_with fail
   go_big_region_o
   all_goals go_wp2
   go_roundw
   case rel=>exact⟨i+1,m+1,Go.Sort.swp z (a+i) (b+i),os,by go_num,by omega,by rw[Go.Sort.size_swp];exact E,G.out,a8 (fun k=>by rw[U.out];exact ab.out k),a8 (by rw[U.out];exact aa.out)⟩
   case measure=>simp[intOf];omega
  ·obtain rfl:i=n:=(by omega);go_wp2
   go_end0
   exact⟨rfl,m,z,os,⟨E,Y.out,R.out⟩,rfl⟩
end
section
open Go.Lib
open Go.Sort (grow HoldsK putRowK)
variable {P:Program} {k:Nat}
theorem mS(L:SrP P k)(I:Value)(z cap a b n:Nat)(E G J:Int)(U:E=(a:Int))(O:G=(b:Int))(Y:J=(n:Int))(K:Nat)(d:Array Cd)(Z:K=d.size)(w:World)(R:HoldsK d6 k w z 0 d)(M:z<w.heap.size)(N:a+n≤b)(V:b+n≤d.size)(Q:d.size≤1000000):
  Calls P 236 #[.slice (some ⟨z,0,none⟩) K cap,.int .i64 E,.int .i64 G,.int .i64 J,I] w (rA k w z (fun A=>A.size=d.size∧(∀k,A.toList[k]? =swG (d.toList[·]?) a b n k)∧Seg a (b+n) d.toList A.toList)):=by
 subst U O Y Z;exact uH L I z cap a b n d w R M N V Q
theorem Cc(L:SrP P k)(V:Value)(A cap a m b:Nat)(d:Array Cd)(w:World)(hH:HoldsK d6 k w A 0 d)(O:A<w.heap.size)(al:a<m)(am:m<b)(hb:b≤d.size)(an:d.size≤1000000):
  Calls P 218 #[.slice (some ⟨A,0,none⟩) d.size cap,.int .i64 (a:Int),.int .i64 (m:Int),.int .i64 (b:Int),V] w (rA k w A (fun z=>z.size=d.size∧(∀k,z.toList[k]? =lD (d.toList[·]?) a m b k)∧Seg a b d.toList z.toList)):=by
 have t3:=L.t3;have a3:=L.a3;have z3:=L.z3;have t4:=L.t4;have a4:=L.a4;have z4:=L.z4;have ts:=L.ts;have ak:=L.as';have zs:=L.zs;have ae:=L.ae;have ze:=L.ze;have es:=L.es;have af:=a8 (ki hH);have HH:=a8 hH;have HL:=a8 L;have F:=L.fr;clear hH L;go_enter F,Tryz.ntmps218;go_wp2;go_loopw [10,11] (fun vi vj wr=>∃(i j q:Nat) (z:Array Cd) (os:Array Obj),vi= .int .i64 (i:Int)∧vj= .int .i64 (j:Int)∧0<i∧0<j∧a+i≤m∧m+j≤b∧z.size=d.size∧wr=srW k w A q z os∧Hid (∀k,lD (z.toList[·]?) (m-i) m (m+j) k=lD (d.toList[·]?) a m b k)∧Hid (Seg a b d.toList z.toList)) (fun vi vj _=>(intOf vi).toNat+(intOf vj).toNat)
 case atStart=>
  refine⟨m-a,b-m,0,d, #[],by congr 1;omega,by congr 1;omega,by omega,by omega,by omega,by omega,rfl,af.out,a8 (fun k=> ?_),a8 (Seg.refl _ _ _)⟩;rw[show m-(m-a)=a by omega,show m+(b-m)=b by omega]
 case round=>
  obtain⟨i,j,q,z,os,rfl,rfl,aa,ab,ag,ai,K,rfl,Z,Y⟩:=hrel;have M:=ig q os HH.out O K;have N:A<(srW k w A q z os).heap.size:=MW O (kA _ _ _ _ _);by_cases ah:i=j
  ·subst ah;have hq:((i:Int) !=(i:Int))=false:=(by simp);have C:=a8 (mS HL.out V A cap (m-i) m i ((m:Int)-(i:Int)) (m:Int) (i:Int) (by omega) rfl rfl d.size z K.symm _ M N (by omega) (by omega) (by omega));clear M;generalize Q:srW k w A q z os=wq at C N⊢;go_wp2_with fail;refine C.out.mono ?_;rintro e w2 ⟨rfl,q2,E,ac,⟨G,I,J⟩,rfl⟩;have R:=a8 I;have U:=a8 J;clear I J C;subst Q;rw[iJ O G];go_wp2
   go_end0
   refine⟨rfl,_,E,_,⟨G.trans K,fun k=> ?_,Y.out.trans (U.out.mono (by omega) (by omega))⟩,rfl⟩;rw[←Z.out k];exact Il (f:=fun x=>z.toList[x]?) (g:=fun x=>E.toList[x]?) (by omega) (fun k=>R.out k) k
  ·have hq:((i:Int) !=(j:Int))=true:=(by simp;omega);by_cases aj:j<i
   ·have ad:(j:Int)<(i:Int):=(by omega);have C:=a8 (mS HL.out V A cap (m-i) m j ((m:Int)-(i:Int)) (m:Int) (j:Int) (by omega) rfl rfl d.size z K.symm _ M N (by omega) (by omega) (by omega));clear M;generalize Q:srW k w A q z os=wq at C N⊢;go_wp2_with fail;refine C.out.mono ?_;rintro e w2 ⟨rfl,q2,E,ac,⟨G,I,J⟩,rfl⟩;have R:=a8 I;have U:=a8 J;clear I J C;subst Q;rw[iJ O G];go_wp2;go_roundw
    case rel=>
     refine⟨i-j,j,_,E,_,by congr 1;omega,rfl,by omega,ab,by omega,ai,G.trans K,rfl,a8 (fun k=> ?_),a8 (Y.out.trans (U.out.mono (by omega) (by omega)))⟩;rw[←Z.out k,show m-(i-j)=m-i+j by omega];exact Ik (f:=fun x=>z.toList[x]?) (g:=fun x=>E.toList[x]?) (by omega) aj ab (fun k=>R.out k) k
    case measure=>simp[intOf];omega
   ·have ad:¬(j:Int)<(i:Int):=(by omega);have C:=a8 (mS HL.out V A cap (m-i) (m+j-i) i ((m:Int)-(i:Int)) ((m:Int)+(j:Int)-(i:Int)) (i:Int) (by omega) (by omega) rfl d.size z K.symm _ M N (by omega) (by omega) (by omega));clear M;generalize Q:srW k w A q z os=wq at C N⊢;go_wp2_with fail;refine C.out.mono ?_;rintro e w2 ⟨rfl,q2,E,ac,⟨G,I,J⟩,rfl⟩;have R:=a8 I;have U:=a8 J;clear I J C;subst Q;rw[iJ O G];go_wp2;go_roundw
    case rel=>
     refine⟨i,j-i,_,E,_,rfl,by congr 1;omega,aa,by omega,ag,by omega,G.trans K,rfl,a8 (fun k=> ?_),a8 (Y.out.trans (U.out.mono (by omega) (by omega)))⟩;rw[←Z.out k];exact Ij (f:=fun x=>z.toList[x]?) (g:=fun x=>E.toList[x]?) (by omega) (by omega) aa (fun k=>R.out k) k
    case measure=>simp[intOf];omega
end
section
open Go.Lib
open Go.Sort (grow HoldsK putRowK)
variable {P:Program} {k:Nat}
abbrev fnC:Value:= .func (.func 145) #[] #[]
theorem mF{d:Array Cd}{i:Nat}(h:i<d.size):ky Cd.uid d.toList i=(d[i]!).uid:=by
 rw[GX Cd.uid (by simpa using h)];simp[h]
theorem lL(x y:Cd):cmU x y<0↔x.uid<y.uid:=by
 unfold cmU;split
 ·simp[*]
 ·split<;>simp<;>omega
theorem lx(L:SrP P k){w:World}{z:Nat}{d A:Array Cd}(q:Nat)(os:Array Obj)(h:HoldsK d6 k w z 0 d)(J:z<w.heap.size)(K:A.size=d.size)(i:Nat)(N:i<A.size)(x:Cd)(M:A[i]! =x):
  ∀G E,Sem.run P (loadCellsFrom ⟨z,i*k,none⟩ 0 k #[]) (grow ((srW k w z q A os).drewN G) E)= .ok (d6 x).toArray (grow ((srW k w z q A os).drewN G) E):=by
 intro G E;rw[nA];have I:=run_loadCellsFrom_list P (srW k w z (q+G) A (os++E)) ⟨z,0+i*k,none⟩ (d6 A[i]!) k (L.len _) (HoldsK.cells (ig _ _ h J K) L.len (by omega));simp only[Ng] at I;rw[M] at I;exact I
def oc(k:Nat)(w:World)(blk a b:Nat)(d:Array Cd):Ending→World→Prop:=rA k w blk (fun dk=>dk.size=d.size∧Seg a b d.toList dk.toList∧e9 Cd.uid dk.toList a b)
theorem Kl(L:SrP P k)(E cap a m b:Nat)(d:Array Cd)(w:World)(hH:HoldsK d6 k w E 0 d)(V:E<w.heap.size)(al:m=a+1)(aR:m<b)(hb:b≤d.size)(aT:d.size≤1000000)(an:e9 Cd.uid d.toList m b):
  Calls P 202 #[.slice (some ⟨E,0,none⟩) d.size cap,.int .i64 (a:Int),.int .i64 (m:Int),.int .i64 (b:Int),fnC] w (oc k w E a b d):=by
 have aB:=L.mixed;have t3:=L.t3;have a3:=L.a3;have z3:=L.z3;have t4:=L.t4;have a4:=L.a4;have z4:=L.z4;have ts:=L.ts;have aF:=L.as';have zs:=L.zs;have ae:=L.ae;have ze:=L.ze;have es:=L.es;have tu:=L.tu;have ec:=L.ec;have au:=a8 (ki hH);have HH:=a8 hH;have K:=a8 L;have ab:=a8 an;have F:=L.fm;have Y:=a8 al;have aQ:(m:Int)-(a:Int)=1:=(by omega);clear hH L an al;go_enter F,Tryz.ntmps202;go_wp2;go_loopw [10,11,12] (fun vi vj _ wr=>∃(p q n:Nat) (os:Array Obj),vi= .int .i64 (p:Int)∧vj= .int .i64 (q:Int)∧m≤p∧p≤q∧q≤b∧wr=srW k w E n d os∧Hid (∀x,m≤x→x<p→ky Cd.uid d.toList x<ky Cd.uid d.toList a)∧Hid (∀x,q≤x→x<b→ky Cd.uid d.toList a≤ky Cd.uid d.toList x)) (fun vi vj _ _=>(intOf vj).toNat-(intOf vi).toNat)
 case atStart=>exact⟨m,b,0, #[],rfl,rfl,MH _,by omega,MH _,au.out,a8 (fun x I M=>by omega),a8 (fun x I M=>by omega)⟩
 case round=>
  obtain⟨p,q,n,os,rfl,rfl,az,aS,aA,rfl,ah,ad⟩:=hrel;by_cases aP:p<q
  ·have aE:(p:Int)<(q:Int):=(by omega);obtain⟨h,hh⟩:∃h,h=(p+q)/2:=⟨_,rfl⟩
   have aM:p≤h∧h<q:=(by omega);have aO:((p:Int)+(q:Int))/2=(h:Int):=(by omega);have aN:(h:Int)<(d.size:Int):=(by omega);have aG:(a:Int)<(d.size:Int):=(by have:=Y.out;omega);clear hh;obtain⟨x,N⟩:∃x,d[h]! =x:=⟨_,rfl⟩
   obtain⟨y,O⟩:∃y,d[a]! =y:=⟨_,rfl⟩
   have R:=lx K.out n os HH.out V rfl h (by omega) x N;have U:=lx K.out n os HH.out V rfl a (by have:=Y.out;omega) y O;have Q:=fun n' ac=>K.out.cm x y (grow ((srW k w E n d os).drewN n') ac);have HC:=a8 (lL x y);have af:=a8 (show ky Cd.uid d.toList h=x.uid by rw[mF (by omega),N]);have ag:=a8 (show ky Cd.uid d.toList a=y.uid by rw[mF (by have:=Y.out;omega),O]);have aa:=a8 (fun n' ac=>nA (k:=k) w E n n' d os ac);clear N O;generalize cmU x y=cv at Q HC;generalize d6 x=cx at R Q;generalize d6 y=cy at U Q;generalize srW k w E n d os=wq at R U Q aa⊢;by_cases am:cv<0
   ·have HN:=a8 (show∀z,m≤z→z<h+1→ky Cd.uid d.toList z<ky Cd.uid d.toList a from fun z I M=>by
     have h3:=ab.out z h I (by omega) (by omega);have h4:=HC.out.1 am;rw[af.out] at h3;rw[ag.out];omega)
    go_wp2_with fail
    go_quiet_grown (first|(go_at_fn 145;refine Calls.grown_of (Q _ _)))
    go_wp2;go_roundw
    case rel=>exact⟨h+1,q,_,_,by go_num,rfl,by omega,by omega,aA,aa.out _ _,HN,ad⟩
    case measure=>simp[intOf];omega
   ·have HN:=a8 (show∀z,h≤z→z<b→ky Cd.uid d.toList a≤ky Cd.uid d.toList z from fun z I M=>by
     have h3:=ab.out h z (by omega) I (by omega);have h4:¬x.uid<y.uid:=fun e=>am (HC.out.2 e);rw[af.out] at h3;rw[ag.out];omega)
    go_wp2_with fail
    go_quiet_grown (first|(go_at_fn 145;refine Calls.grown_of (Q _ _)))
    go_wp2;go_roundw
    case rel=>exact⟨p,h,_,_,rfl,by go_num,az,by omega,by omega,aa.out _ _,ah,HN⟩
    case measure=>simp[intOf];omega
  ·obtain rfl:p=q:=(by omega);have ap:=Y.out;have aC:=a8 (show srW k w E n d os=srW k w E n d os from rfl);go_wp2;go_loopw [13] (fun vk wr=>∃(c J:Nat) (A:Array Cd) (G:Array Obj),vk= .int .i64 (c:Int)∧a≤c∧c+1≤p∧A.size=d.size∧wr=srW k w E J A G∧Hid (∀z,A.toList[z]? =upG (d.toList[·]?) a c z)∧Hid (Seg a b d.toList A.toList)) (fun vk _=>p-(intOf vk).toNat)
   case atStart=>exact⟨a,n,d,os,rfl,MH _,by omega,rfl,rfl,a8 (fun z=>(Ko _ a z).symm),a8 (Seg.refl _ _ _)⟩
   case round=>
    obtain⟨c,J,A,G,rfl,av,aL,Z,rfl,HG,ai⟩:=hrel;by_cases aD:c+1<p
    ·have aw:(c:Int)<(p:Int)-1:=(by omega);have aH:(c:Int)+1<(d.size:Int):=(by omega);have aI:((c:Int)+1).toNat=c+1:=(by omega);have aJ:(0:Int)≤(c:Int)+1:=(by omega);have aK:(c:Int)<(d.size:Int):=(by omega);obtain⟨x,N⟩:∃x,A[c]! =x:=⟨_,rfl⟩
     obtain⟨y,O⟩:∃y,A[c+1]! =y:=⟨_,rfl⟩
     have ak:HoldsK d6 k (srW k w E J A G).drew E 0 A:=ig J G HH.out V Z;obtain⟨R,U,s1,s2⟩:=oB K.out ak c (c+1) (by omega) (by omega) x y N O;have HE:=a8 (tD K.out (m:=J) (os:=G) V (show c<A.size by omega) (show c+1<A.size by omega) N O);have aq:=a8 (fun z=>Kn (k:=z) (xs:=d.toList) (ys:=A.toList) (a:=a) (i:=c) (by simpa using Z) HG.out av (by simp;omega));have aj:=a8 (tE (d:=A) (show c<A.size by omega) (show c+1<A.size by omega));have ao:=a8 (ai.out.trans (xO (a:=a) (b:=b) (xs:=A.toList) (i:=c) (j:=c+1) (by simp;omega) (by simp;omega) (by omega) (by omega) (by omega) (by omega)));have ax:(d6 x).length=k:=K.out.len _;have ay:(d6 y).length=k:=K.out.len _;clear ak N O;generalize d6 x=cx at R s2 HE ax;generalize d6 y=cy at U s1 s2 HE ay;generalize srW k w E J A G=wq at R U s1 s2 HE⊢;go_wp2_with fail
     go_big_region_o
     all_goals go_wp2
     go_roundw
     case rel=>exact⟨c+1,J+1,Go.Sort.swp A c (c+1),G,by go_num,by omega,by omega,by rw[Go.Sort.size_swp];exact Z,HE.out,a8 (fun z=>by rw[aj.out];exact aq.out z),a8 (by rw[aj.out];exact ao.out)⟩
     case measure=>simp[intOf];omega
    ·have aw:¬(c:Int)<(p:Int)-1:=(by omega);obtain rfl:c=p-1:=(by omega);have ar:=a8 (Lx Cd.uid (xs:=d.toList) (ys:=A.toList) (a:=a) (b:=b) (i:=p) (by omega) (by omega) (by rw[←ap];exact ab.out) (fun z I M=>Nat.le_of_lt (ah.out z (by omega) M)) (fun z I M=>ad.out z I M) HG.out);go_wp2
     go_end0
     exact⟨rfl,J,A,G,⟨Z,ai.out,ar.out⟩,rfl⟩
end
section
open Go.Lib
open Go.Sort (grow HoldsK putRowK)
variable {P:Program} {k:Nat}
theorem II(L:SrP P k)(E cap a m b:Nat)(d:Array Cd)(w:World)(hH:HoldsK d6 k w E 0 d)(Z:E<w.heap.size)(aG:a+1<m)(ao:b=m+1)(hb:b≤d.size)(aX:d.size≤1000000)(ap:e9 Cd.uid d.toList a m):
  Calls P 202 #[.slice (some ⟨E,0,none⟩) d.size cap,.int .i64 (a:Int),.int .i64 (m:Int),.int .i64 (b:Int),fnC] w (oc k w E a b d):=by
 have aA:=L.mixed;have t3:=L.t3;have a3:=L.a3;have z3:=L.z3;have t4:=L.t4;have a4:=L.a4;have z4:=L.z4;have ts:=L.ts;have aF:=L.as';have zs:=L.zs;have ae:=L.ae;have ze:=L.ze;have es:=L.es;have tu:=L.tu;have ec:=L.ec;have aE:∀(x:Bool) (w:World),(Op.unary .not (.bool x)).run P w= .ok (.bool (!x)) w:=fun _ _=>rfl;have au:=a8 (ki hH);have HH:=a8 hH;have M:=a8 L;have ac:=a8 ap;have F:=L.fm;have U:=a8 ao;have aT:((m:Int)-(a:Int)==1)=false:=(by simp;omega);have aJ:(b:Int)-(m:Int)=1:=(by omega);clear hH L ap ao;go_enter F,Tryz.ntmps202;go_wp2;go_loopw [14,15,16] (fun vi vj _ wr=>∃(p q n:Nat) (os:Array Obj),vi= .int .i64 (p:Int)∧vj= .int .i64 (q:Int)∧a≤p∧p≤q∧q≤m∧wr=srW k w E n d os∧Hid (∀x,a≤x→x<p→ky Cd.uid d.toList x≤ky Cd.uid d.toList m)∧Hid (∀x,q≤x→x<m→ky Cd.uid d.toList m≤ky Cd.uid d.toList x)) (fun vi vj _ _=>(intOf vj).toNat-(intOf vi).toNat)
 case atStart=>exact⟨a,m,0, #[],rfl,rfl,MH _,by omega,MH _,au.out,a8 (fun x G N=>by omega),a8 (fun x G N=>by omega)⟩
 case round=>
  obtain⟨p,q,n,os,rfl,rfl,av,aW,az,rfl,ai,af⟩:=hrel;by_cases aS:p<q
  ·have aD:(p:Int)<(q:Int):=(by omega);obtain⟨h,hh⟩:∃h,h=(p+q)/2:=⟨_,rfl⟩
   have aP:p≤h∧h<q:=(by omega);have aR:((p:Int)+(q:Int))/2=(h:Int):=(by omega);have aQ:(h:Int)<(d.size:Int):=(by have:=U.out;omega);have aU:(m:Int)<(d.size:Int):=(by have:=U.out;omega);clear hh;obtain⟨x,O⟩:∃x,d[m]! =x:=⟨_,rfl⟩
   obtain⟨y,Q⟩:∃y,d[h]! =y:=⟨_,rfl⟩
   have V:=lx M.out n os HH.out Z rfl m (by omega) x O;have Y:=lx M.out n os HH.out Z rfl h (by omega) y Q;have K:=fun n' ad=>M.out.cm x y (grow ((srW k w E n d os).drewN n') ad);have HC:=a8 (lL x y);have ag:=a8 (show ky Cd.uid d.toList m=x.uid by rw[mF (by omega),O]);have ah:=a8 (show ky Cd.uid d.toList h=y.uid by rw[mF (by omega),Q]);have ab:=a8 (fun n' ad=>nA (k:=k) w E n n' d os ad);clear O Q;generalize cmU x y=cv at K HC;generalize d6 x=cx at V K;generalize d6 y=cy at Y K;generalize srW k w E n d os=wq at V Y K ab⊢;by_cases an:cv<0
   ·have HN:=a8 (show∀z,h≤z→z<m→ky Cd.uid d.toList m≤ky Cd.uid d.toList z from fun z G N=>by
     have h3:=ac.out h z (by omega) G (by omega);have h4:=HC.out.1 an;rw[ah.out] at h3;rw[ag.out];omega)
    go_wp2_with fail
    go_quiet_grown (first|(go_at_fn 145;refine Calls.grown_of (K _ _)))
    go_wp2;go_roundw
    case rel=>exact⟨p,h,_,_,rfl,by go_num,av,by omega,by omega,ab.out _ _,ai,HN⟩
    case measure=>simp[intOf];omega
   ·have HN:=a8 (show∀z,a≤z→z<h+1→ky Cd.uid d.toList z≤ky Cd.uid d.toList m from fun z G N=>by
     have h3:=ac.out z h G (by omega) (by omega);have h4:¬x.uid<y.uid:=fun e=>an (HC.out.2 e);rw[ah.out] at h3;rw[ag.out];omega)
    have aB:(!decide (cv<0))=true:=(by simp;omega);go_wp2_with fail
    go_quiet_grown (first|(go_at_fn 145;refine Calls.grown_of (K _ _)))
    go_wp2;go_roundw
    case rel=>exact⟨h+1,q,_,_,by go_num,rfl,by omega,by omega,az,ab.out _ _,HN,af⟩
    case measure=>simp[intOf];omega
  ·obtain rfl:p=q:=(by omega);have aH:m<b:=(by have:=U.out;omega);have aI:b≤m+1:=(by have:=U.out;omega);go_wp2;go_loopw [17] (fun vk wr=>∃(c J:Nat) (A:Array Cd) (I:Array Obj),vk= .int .i64 (c:Int)∧p≤c∧c≤m∧A.size=d.size∧wr=srW k w E J A I∧Hid (∀z,A.toList[z]? =dnG (d.toList[·]?) m c z)∧Hid (Seg a b d.toList A.toList)) (fun vk _=>(intOf vk).toNat)
   case atStart=>exact⟨m,n,d,os,rfl,by omega,MH _,rfl,rfl,a8 (fun z=>(Jm _ m z).symm),a8 (Seg.refl _ _ _)⟩
   case round=>
    obtain⟨R,J,A,I,rfl,aV,K,aa,rfl,HG,aj⟩:=hrel;by_cases aC:p<R
    ·obtain⟨c,rfl⟩:∃c,R=c+1:=⟨R-1,by omega⟩
     have aw:(p:Int)<(c:Int)+1:=(by omega);have aK:(c:Int)+1<(d.size:Int):=(by omega);have aL:((c:Int)+1).toNat=c+1:=(by omega);have aM:(0:Int)≤(c:Int)+1:=(by omega);have aN:(c:Int)<(d.size:Int):=(by omega);have aO:(c:Int)+1-1=(c:Int):=(by omega);have aY:IntKind.i64.wrap (c:Int)=(c:Int):=(by rw[IntKind.wrap_i64];omega);obtain⟨x,O⟩:∃x,A[c+1]! =x:=⟨_,rfl⟩
     obtain⟨y,Q⟩:∃y,A[c]! =y:=⟨_,rfl⟩
     have am:HoldsK d6 k (srW k w E J A I).drew E 0 A:=ig J I HH.out Z aa;obtain⟨V,Y,s1,s2⟩:=oB M.out am (c+1) c (by omega) (by omega) x y O Q;have HE:=a8 (tD M.out (m:=J) (os:=I) Z (show c+1<A.size by omega) (show c<A.size by omega) O Q);have ar:=a8 (fun z=>Jl (k:=z) (xs:=d.toList) (ys:=A.toList) (m:=m) (i:=c) (by simpa using aa) HG.out (by omega) (by simp;omega));have ak:=a8 (tE (d:=A) (show c+1<A.size by omega) (show c<A.size by omega));have aq:=a8 (aj.out.trans (xO (a:=a) (b:=b) (xs:=A.toList) (i:=c+1) (j:=c) (by simp;omega) (by simp;omega) (by omega) (by omega) (by omega) (by omega)));have ax:(d6 x).length=k:=M.out.len _;have ay:(d6 y).length=k:=M.out.len _;clear am O Q;generalize d6 x=cx at V s2 HE ax;generalize d6 y=cy at Y s1 s2 HE ay;generalize srW k w E J A I=wq at V Y s1 s2 HE⊢;go_wp2_with fail
     go_big_region_o
     all_goals go_wp2
     go_roundw
     case rel=>exact⟨c,J+1,Go.Sort.swp A (c+1) c,I,by first|rfl|go_num|(congr 1;omega),by omega,by omega,by rw[Go.Sort.size_swp];exact aa,HE.out,a8 (fun z=>by rw[ak.out];exact ar.out z),a8 (by rw[ak.out];exact aq.out)⟩
     case measure=>simp[intOf]
    ·have aw:¬(p:Int)<(R:Int):=(by omega);obtain rfl:R=p:=(by omega);have al:=a8 (K6 Cd.uid (xs:=d.toList) (ys:=A.toList) (a:=a) (m:=m) (i:=R) (by omega) (by omega) ac.out (fun z G N=>ai.out z G N) (fun z G N=>af.out z G N) HG.out);rw[←U.out] at al;go_wp2
     go_end0
     exact⟨rfl,J,A,I,⟨aa,aj.out,al.out⟩,rfl⟩
end
end Go.Proofs.YtpdbolihakojcaaGreatDoor
