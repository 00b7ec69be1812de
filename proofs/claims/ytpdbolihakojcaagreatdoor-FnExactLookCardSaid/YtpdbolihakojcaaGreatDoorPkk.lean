import Derived.Test.YtpdbolihakojcaaGreatDoorPke
import Derived.Test.YtpdbolihakojcaaGreatDoorPkg
import Derived.Test.YtpdbolihakojcaaGreatDoorPkh
import Derived.Test.YtpdbolihakojcaaGreatDoorPkf
import Derived.Test.YtpdbolihakojcaaGreatDoorShelf
import Derived.Laws.Concat
import Derived.Lib.Walk
import Derived.BigCall
import Derived.BigGuard
import Derived.Lib.AtoiErrMem
namespace Go.Proofs.YtpdbolihakojcaaGreatDoor
set_option maxRecDepth 20000
set_option linter.unusedVariables false
set_option linter.unusedSimpArgs false
set_option maxHeartbeats 4000000
open Go.RowKit
variable {W Y w w' w0 wr : World} {b : List UInt8} {A B at_ base' c cap e f g gs i j k lo m n u z : Nat} {R d is l : List Nat} {E G I J K L M N O v0 v1 v2 v3 v4 v5 v6 x y : Value} {o : Oper} {Q : Exit → Act → World → Prop} {bvs xs : List Value} {t : TypeId} {cs tmps : Array Value} {p : Addr} {a : Option Addr} {first ok : Bool} {s : ByteArray} {rs : List (List Nat)}
def gg(nodes:Int):List EN→List DO→Option (List EN)
 |es,[]=>some es
 |es,o::r=>match hZ nodes es o with
  |none=>none
  |some l=>if 300<l.length then none else gg nodes l r
def eP(D:dQ):Prop:=0≤D.quota∧D.quota≤1000000∧D.pend.length≤1000∧fT D.nodes=true∧eL (D.nodes.length:Int) D.names=true∧eL (D.nodes.length:Int) D.kept=true∧gg (D.nodes.length:Int) D.kept D.pend=some D.names
def nb(w:World)(P:Prop)(e:Ending)(w':World):Prop:=∃r:Bool,e= .returned (.bool r)∧(r=true↔P)∧Below w.heap.size w w'
theorem gG{P:Prop}(h:¬P)(z:Below w.heap.size w w'):nb w P (.returned (.bool false)) w':=⟨false,rfl,⟨fun e=>(by cases e),fun p=>absurd p h⟩,z⟩
structure kW(D:dQ):Prop where
 n1:D.nodes.length≤1048576
 n2:D.names.length≤1048576
 n3:D.kept.length≤1048576
 n4:D.pend.length≤1048576
 sum:ib D.nodes≤1048576
 s2:∀e∈D.names,e.1.size≤1048576
 s3:∀e∈D.kept,e.1.size≤1048576
 s4:∀o∈D.pend,o.2.1.size≤1048576∧o.2.2.1.size≤1048576
theorem rq(ns:List (List Nat×Int)):∀e∈ns,e.1.length≤ib ns:=by
 induction ns with
 |nil=>intro e h;cases h
 |cons x r ih=>
  intro e h;rcases M1.1 h with rfl|h
  ·simp only[ib];omega
  ·have:=ih e h;simp only[ib];omega
theorem uC(K J M Y:Option Addr)(O N Q c4:Nat)(D:dQ)(w:World)(hM:kW D)(h1:iC w K D.nodes)(h2:fi w J D.names)(h3:fi w M D.kept)(h4:ob w Y D.pend):
  Calls Tryz.prog 35 #[.agg #[.slice K D.nodes.length O,.slice J D.names.length N,.slice M D.kept.length Q,.slice Y D.pend.length c4,.int .i64 D.quota]] w (nb w (eP D)):=by
 have aa:Below w.heap.size w (w.alloc (.cells #[.slice K D.nodes.length O,.slice J D.names.length N,.slice M D.kept.length Q,.slice Y D.pend.length c4,.int .i64 D.quota] 37)):=(MJ _ _).alloc (MH _) _;have L0:=dZ.new w #[.slice K D.nodes.length O,.slice J D.names.length N,.slice M D.kept.length Q,.slice Y D.pend.length c4,.int .i64 D.quota] 37;obtain⟨ns,nm,A,z,qt⟩:=D;obtain⟨m1,m2,m3,m4,bc,aN,aO,aP⟩:=hM;simp only at m1 m2 m3 m4 bc aN aO aP h1 h2 h3 h4 aa L0⊢;have G:=a8 (show eP ⟨ns,nm,A,z,qt⟩=(0≤qt∧qt≤1000000∧z.length≤1000∧fT ns=true∧eL (ns.length:Int) nm=true∧eL (ns.length:Int) A=true∧gg (ns.length:Int) A z=some nm) from rfl);generalize eP ⟨ns,nm,A,z,qt⟩=V at G⊢;have bh:=a8 aN;have bi:=a8 aO;have bj:=a8 aP;have aR:=a8 (h1.below aa);have aB:=a8 (h2.below aa);have aC:=a8 (h3.below aa);have aS:=a8 (h4.below aa);have E:=a8 aa;have ac:=a8 L0;clear aN aO aP h1 h2 h3 h4 aa L0;by_cases g1:qt<0
 ·have I:=a8 (show¬V by rw[G.out];exact fun h=>by omega);go_enter Tryz.func35,Tryz.ntmps35;go_wp2;go_ret;exact gG I.out E.out
 by_cases g2:1000000<qt
 ·have I:=a8 (show¬V by rw[G.out];exact fun h=>by omega);go_enter Tryz.func35,Tryz.ntmps35;go_wp2;go_ret;exact gG I.out E.out
 by_cases g3:(600:Int)<(ns.length:Int)
 ·have I:=a8 (show¬V by
   rw[G.out];intro h;have:=h.2.2.2.1;unfold fT at this;have:=of_decide_eq_true this;omega)
  go_enter Tryz.func35,Tryz.ntmps35;go_wp2;go_ret;exact gG I.out E.out
 by_cases g4:(1000:Int)<(z.length:Int)
 ·have I:=a8 (show¬V by rw[G.out];exact fun h=>by omega);go_enter Tryz.func35,Tryz.ntmps35;go_wp2;go_ret;exact gG I.out E.out
 go_enter Tryz.func35,Tryz.ntmps35;go_wp2;generalize w.alloc (.cells #[.slice K ns.length O,.slice J nm.length N,.slice M A.length Q,.slice Y z.length c4,.int .i64 qt] 37)=W0 at aR aB aC aS E ac⊢;go_loopw [3,5,34] (fun t _ i wr=>∃k:Nat,k≤ns.length∧i= .int .i64 (k:Int)∧t= .int .i64 (ib (ns.take k):Int)∧(∀i (h:i<ns.length),i<k→kw ns[i]=true)∧Below W0.heap.size W0 wr) (fun _ _ i _=>ns.length-(intOf i).toNat)
 case atStart=>exact⟨0,MQ _,rfl,rfl,fun i _ h=>by omega,MJ _ _⟩
 case round=>
  obtain⟨k,hk,rfl,rfl,aY,ab⟩:=hrel;have HK:=a8 aY;have ag:=a8 ab;have af:=bTr E ab;have bG:=ac.out.lt;have bH:=ab.size;clear aY;by_cases U:k<ns.length
  ·obtain⟨b,bC,rfl,hc⟩:=(aR.out.below ab) (by omega)
   obtain⟨ai,ci,bo,bp,_⟩:=hc k U;have br:=rq ns _ (MO U);have bw:=lZ ns (k+1);have aq:=a8 (jd ns k U);have bu:ib (ns.take k)≤1048576:=(by have:=aq.out;omega);have aD:=a8 (sQ (ns:=ns) U);have ad:=a8 (show kw ns[k]=decide (ns[k].1.length≤40000∧0≤ns[k].2∧ns[k].2≤ns[k].1.length) from rfl);have bk:=a8 (fun(e:kw ns[k]=true) (i:Nat) (h:i<ns.length) (h':i<k+1)=>(by
    by_cases e':i=k
    ·subst e';exact e
    ·exact HK.out i h (by omega):kw ns[i]=true))
   clear hc ab HK bw;generalize ib (ns.take k)=s0 at bu aq⊢;generalize ns[k].1.length=n0 at bo ad br aq;generalize ns[k].2=sf at bp ad;by_cases g5:(40000:Int)<(n0:Int)
   ·go_wp2;go_ret;exact gG (by rw[G.out];intro h;rw[aD.out (by rw[ad.out];exact decide_eq_false fun h=>by omega)] at h;exact absurd h.2.2.2.1 (by simp)) (af.out.alloc (by omega) _)
   by_cases g6:sf<0
   ·go_wp2;go_ret;exact gG (by rw[G.out];intro h;rw[aD.out (by rw[ad.out];exact decide_eq_false fun h=>by omega)] at h;exact absurd h.2.2.2.1 (by simp)) (af.out.alloc (by omega) _)
   by_cases g7:(n0:Int)<sf
   ·go_wp2;go_ret;exact gG (by rw[G.out];intro h;rw[aD.out (by rw[ad.out];exact decide_eq_false fun h=>by omega)] at h;exact absurd h.2.2.2.1 (by simp)) (af.out.alloc (by omega) _)
   have bb:=a8 (bk.out (by rw[ad.out];exact decide_eq_true ⟨by omega,by omega,by omega⟩));go_wp2;go_roundw
   case rel=>exact⟨k+1,by omega,by go_num,fy (by rw[aq.out];push_cast;rfl),bb.out,ag.out.alloc ag.out.size _⟩
   case measure=>simp[intOf];omega
  ·obtain rfl:k=ns.length:=(by omega);have ak:=ac.out.below ab (by omega);obtain⟨r0,r1,r2,r3⟩:=ak.c4;rw[NE];have aE:=a8 (show fT ns=decide (ib ns≤200000) by
    unfold fT;by_cases h2:ib ns≤200000
    ·rw[decide_eq_true h2];exact decide_eq_true ⟨by omega,fun i h=>HK.out i h h,h2⟩
    ·rw[decide_eq_false h2];exact decide_eq_false fun h=>h2 h.2.2)
   clear ab HK ak;by_cases g8:(200000:Int)<(ib ns:Int)
   ·go_wp2;go_ret;exact gG (by rw[G.out,aE.out];exact fun h=>by have:=of_decide_eq_true h.2.2.2.1;omega) af.out
   ·have aQ:=a8 (show fT ns=true by rw[aE.out];exact decide_eq_true (by omega));have bD:=r0;go_wp2_with fail;refine(nS J N nm (ns.length:Int) wr (by omega) (fun e he=>by have:=bh.out e he;omega) (aB.out.below ag.out)).mono ?_;rintro e w2 ⟨rfl,aU⟩;have ar:=bTr ag aU;have ah:=ac.out.below ar.out (by omega);obtain⟨t0,t1,t2,t3⟩:=ah.c4;have bl:=a8 (E.out.trans (ar.out.mono E.out.size));clear r0 r1 r2 r3 bD ah aU ag af;by_cases o1:eL (ns.length:Int) nm=true
    ·rw[o1];go_wp2_with fail;refine(nS M Q A (ns.length:Int) w2 (by omega) (fun e he=>by have:=bi.out e he;omega) (aC.out.below ar.out)).mono ?_;rintro e w3 ⟨rfl,aV⟩;have au:=bTr ar aV;have aj:=ac.out.below au.out (by omega);obtain⟨s0,s1,s2,s3⟩:=aj.c4;have bm:=a8 (E.out.trans (au.out.mono E.out.size));clear t0 t1 t2 t3 aj aV;by_cases o2:eL (ns.length:Int) A=true
     ·rw[o2];have aH:=a8 (show V=(gg (ns.length:Int) A z=some nm) by
       rw[G.out];exact propext ⟨fun h=>h.2.2.2.2.2.2,fun h=>⟨by omega,by omega,by omega,aQ.out,o1,o2,h⟩⟩)
      have bz:A.length≤1048573:=(by have h:=o2;unfold eL at h;have:=(of_decide_eq_true h).1;omega);clear G aE aQ o1 o2;go_wp2;go_loopw [6,8,9,10,86] (fun lv _ _ _ i wv=>∃(k:Nat) (Z:List EN) (al:Option Addr) (cl:Nat),k≤z.length∧i= .int .i64 (k:Int)∧lv= .slice al Z.length cl∧Z.length≤1048573∧fi wv al Z∧gg (ns.length:Int) A z=gg (ns.length:Int) Z (z.drop k)∧Below W0.heap.size W0 wv) (fun _ _ _ _ i _=>z.length-(intOf i).toNat)
      case atStart=>exact⟨0,A,M,Q,MQ _,rfl,rfl,bz,aC.out.below au.out,rfl,au.out⟩
      case round=>
       obtain⟨k,Z,al,cl,hk,rfl,rfl,bq,aW,aZ,ax⟩:=hrel;have aJ:=ac.out.below ax (by omega);obtain⟨v0,v1⟩:=aJ.c2;have bx:w.heap.size<wr.heap.size:=dH v0;have aA:=a8 aW;have aG:=a8 aZ;have aI:=a8 ax;have bn:=bTr E ax;clear aW aZ ax aJ s0 s1 s2 s3;by_cases U:k<z.length
       ·have aK:=aG.out;rw[Nl U,gg] at aK;obtain⟨b,bC,rfl,hc⟩:=(aS.out.below aI.out) (by omega)
        obtain⟨d0,d1,d2,d3⟩:=hc k U;obtain⟨aL,aM⟩:=bj.out _ (MO U);have ae:=a8 aK;clear aK hc aG;generalize bt:z[k]=oo at d0 d1 d2 d3 aL aM ae;obtain⟨kd,ao,ap,an⟩:=oo;clear bt;simp only at d0 d1 d2 d3 aL aM ae;have aw:=nAl wr (.cells #[.int .i64 kd,.string ao,.string ap,.int .i64 an] 95);have aF:=a8 (xe al cl Z kd ao ap an (ns.length:Int) _ bq aL aM (aA.out.below aw));have av:=bTr aI aw;have bE:(wr.alloc (.cells #[.int .i64 kd,.string ao,.string ap,.int .i64 an] 95)).cell? ⟨w.heap.size,0,none⟩=some (.slice K ns.length O):=(aw.cell (p:=⟨w.heap.size,0,none⟩) bx).trans v0;clear aw aA;go_wp2_with fail;generalize wr.alloc (.cells #[.int .i64 kd,.string ao,.string ap,.int .i64 an] 95)=W5 at aF av bE⊢;refine(aF.out).mono ?_;intro e w6 hp;clear aF;generalize hZ (ns.length:Int) Z (kd,ao,ap,an)=R at ae hp;cases R with
        |none=>
         obtain⟨rfl,am⟩:=hp;have I:=a8 (show¬V by rw[aH.out,ae.out];simp);have az:=a8 (E.out.trans ((av.out.trans (am.mono av.out.size)).mono E.out.size));clear am;go_wp2;go_ret;exact gG I.out az.out
        |some L=>
         obtain⟨a6,c6,rfl,aX,am⟩:=hp;have aT:=bTr av am;have be:=a8 aX;clear am aX;by_cases bF:(300:Int)<(L.length:Int)
         ·have I:=a8 (show¬V by rw[aH.out,ae.out];simp only;rw[if_pos (by omega)];simp);have az:=a8 (E.out.trans (aT.out.mono E.out.size));go_wp2;go_ret;exact gG I.out az.out
         ·have bf:=a8 (show gg (ns.length:Int) A z=gg (ns.length:Int) L (z.drop (k+1)) by rw[ae.out];simp only;rw[if_neg (by omega)]);go_wp2;go_roundw
          case rel=>exact⟨k+1,L,a6,c6,by omega,by go_num,rfl,by omega,be.out.at,bf.out,aT.out⟩
          case measure=>simp[intOf];omega
       ·obtain rfl:k=z.length:=(by omega);have ay:=aG.out;rw[Nx,gg] at ay;have bd:=a8 ay;clear ay;go_wp2_with fail;refine(BD al J cl N Z nm wr (by omega) aA.out (aB.out.below aI.out)).mono ?_;rintro e w5 ⟨⟨r,rfl,ba⟩,n5,rfl⟩;have bg:=a8 ba;clear ba;go_wp2;go_ret;exact⟨r,rfl,by rw[bg.out,aH.out,bd.out];simp,below_drewN bn.out _⟩
     ·have bB:eL (ns.length:Int) A=false:=(by simpa using o2);rw[bB];go_wp2;go_ret;exact gG (by rw[G.out];exact fun h=>o2 h.2.2.2.2.2.1) bm.out
    ·have bA:eL (ns.length:Int) nm=false:=(by simpa using o1);rw[bA];go_wp2;go_ret;exact gG (by rw[G.out];exact fun h=>o1 h.2.2.2.2.1) bl.out
theorem lC{b:Nat}(z:b<31):2^b<4294967296:=by
 have:2^b≤2^30:=Nat.pow_le_pow_right (by omega) (by omega);omega
theorem Db(f b:Nat):(f&&&2^b=0)↔f.testBit b=false:=by
 constructor
 ·intro h;have z:(f&&&2^b).testBit b=false:=(by rw[h];simp);rw[Nat.testBit_and,Nat.testBit_two_pow_self,Bool.and_true] at z;exact z
 ·intro h;apply Nat.eq_of_testBit_eq;intro i;rw[Nat.testBit_and,Nat.zero_testBit,Nat.testBit_two_pow];by_cases e:b=i
  ·subst e;rw[h];rfl
  ·simp[e]
theorem J9{a b:Int}(h:a=b):Ending.returned (.int .u32 a)= .returned (.int .u32 b):=by rw[h]
theorem Lr{a b:Int}(h:a=b):Ending.returned (.int .u8 a)= .returned (.int .u8 b):=by rw[h]
theorem zJ(b:Nat)(w:World)(z:b<31):
  Calls Tryz.prog 121 #[.int .u64 (b:Int)] w fun e w'=>e= .returned (.int .u32 ((2^b:Nat):Int))∧w'=w:=by
 have A:=a8 (lC z);go_enter Tryz.func121,Tryz.ntmps121;go_wp2;go_ret;refine⟨J9 ?_,rfl⟩;have h:=A.out;have e:((2^b:Nat):Int)=(2:Int)^b:=(by push_cast;rfl);rw[←e];generalize (2^b:Nat)=q at h⊢;omega
theorem Ez(f k:Nat)(w:World)(A:f<4294967296)(G:k<31):
  Calls Tryz.prog 164 #[.int .u32 (f:Int),.int .i64 (k:Int)] w fun e w'=>e= .returned (.bool (f.testBit k))∧w'=w:=by
 go_enter Tryz.func164,Tryz.ntmps164;go_wp2;go_ret;refine⟨eE ?_,rfl⟩;have e:((f:Int)/2^k)=((f/2^k:Nat):Int):=(by push_cast;rfl);have z:f/2^k<4294967296:=Nat.lt_of_le_of_lt (Nat.div_le_self _ _) A;show(bits BinOp.and IntKind.u32 ((f:Int)/2^k) 1==1)=_;rw[e,xq _ z,Nat.testBit_eq_decide_div_mod_eq];generalize f/2^k=q;have E:q%2=0∨q%2=1:=(by omega);rcases E with h|h<;>rw[h]<;>rfl
def l4(k:Nat):Nat:=if k=0 then 82 else if k=1 then 70 else if k=2 then 84 else if k=3 then 83 else if k=4 then 68 else 92+k
theorem oX(k:Nat)(w:World)(M:k<31):
  Calls Tryz.prog 130 #[.int .i64 (k:Int)] w fun e w'=>e= .returned (.int .u8 (l4 k:Int))∧w'=w:=by
 by_cases L:5≤k
 ·have E:((k:Int)==0)=false:=(by simp;omega);have G:((k:Int)==1)=false:=(by simp;omega);have I:((k:Int)==2)=false:=(by simp;omega);have J:((k:Int)==3)=false:=(by simp;omega);have K:((k:Int)==4)=false:=(by simp;omega);have A:l4 k=92+k:=(by unfold l4;rw[if_neg (by omega),if_neg (by omega),if_neg (by omega),if_neg (by omega),if_neg (by omega)]);rw[A];go_enter Tryz.func130,Tryz.ntmps130;go_wp2;go_ret;exact⟨Lr (by omega),rfl⟩
 ·have z:k=0∨k=1∨k=2∨k=3∨k=4:=(by omega);rcases z with rfl|rfl|rfl|rfl|rfl
  all_goals
   go_enter Tryz.func130,Tryz.ntmps130;go_wp2;go_ret;exact⟨rfl,rfl⟩
def fW(f k:Nat):List Nat:=((List.range k).filter fun i=>f.testBit (gO i)).map eW
def eu(f:Nat):List Nat:=fW f 31
theorem sB(f k:Nat):fW f (k+1)=fW f k++(if f.testBit (gO k) then[eW k] else[]):=by
 unfold fW;rw[List.range_succ,List.filter_append,MS];by_cases h:f.testBit (gO k)=true
 ·simp[h]
 ·simp at h;simp[h]
theorem jC(f k:Nat):(fW f k).length≤k:=by
 unfold fW;rw[MI];exact MN (List.length_filter_le _ _) (by simp)
def ik(f b k:Nat):List Nat:=((List.range k).filter fun i=>l4 i==b&&f.testBit i).map fun _=>b
def iK(f n:Nat):List Nat:=(List.range n).flatMap fun j=>ik f (65+j) 31
theorem wV(f b k:Nat):ik f b (k+1)=ik f b k++(if l4 k==b&&f.testBit k then[b] else[]):=by
 unfold ik;rw[List.range_succ,List.filter_append,MS];by_cases h:(l4 k==b&&f.testBit k)=true
 ·simp[h]
 ·simp only[Bool.not_eq_true] at h;simp[h]
theorem pf(f n:Nat):iK f (n+1)=iK f n++ik f (65+n) 31:=by
 unfold iK;rw[List.range_succ,List.flatMap_append];simp
theorem E2:((List.range 58).flatMap fun j=>((List.range 31).filter fun i=>l4 i==65+j).map fun i=>(65+j,i))=(List.range 31).map fun i=>(eW i,gO i):=by decide
theorem BJ(f:Nat):iK f 58=eu f:=by
 have z:eu f=(((List.range 31).map fun i=>(eW i,gO i)).filter fun p=>f.testBit p.2).map Prod.fst:=by
  unfold eu fW;rw[List.filter_map,NC];rfl
 rw[z,←E2];unfold iK ik;rw[List.filter_flatMap,List.map_flatMap];congr 1;funext j;rw[List.filter_map,NC,List.filter_filter];congr 1;congr 1;funext i;rw[Bool.and_comm];rfl
theorem EY(f n:Nat):(iK f n).length≤n*31:=by
 induction n with
 |zero=>simp[iK]
 |succ n ih=>
  rw[pf,MT];have:(ik f (65+n) 31).length≤31:=by
   unfold ik;rw[MI];exact MN (List.length_filter_le _ _) (by simp)
  omega
theorem By(f b k:Nat):(ik f b k).length≤k:=by
 unfold ik;rw[MI];exact MN (List.length_filter_le _ _) (by simp)
theorem Lw(k:Nat)(z:k<31):(jS 31).extract (k*2) (k*2+2)= #[.int .i32 (eW k:Int),.int .u64 (gO k:Int)]:=by
 have A:=pt (gu 31) k (by rw[fk];exact z);have E:=pu (gu 31) k (by rw[fk];exact z);have G:(gu 31)[k]'(by rw[fk];exact z)=xI k:=(by simp[gu,z]);rw[G] at A E;apply Array.ext_getElem?;intro i;rw[Array.getElem?_extract];rcases i with _|_|i
 ·simp only[jS,Nat.add_zero,List.getElem?_toArray];rw[A];simp[xI,l7,fk];omega
 ·simp only[jS,List.getElem?_toArray];rw[E];simp[xI,l7,fk];omega
 ·rw[if_neg (by rw[jz];omega)];simp
theorem uA(w:World)(k:Nat)(z:k<31):(Instr.index 228 (.agg (jS 31)) (.int .i64 (k:Int))).run Tryz.prog w= .ok (.agg #[.int .i32 (eW k:Int),.int .u64 (gO k:Int)]) w:=by
 have A:=run_underlying Tryz.underlying228;simp[Instr.index,asIntOf,A,part,Lw k z];intro h;omega
theorem qi{E:Array Oper}{A:List Oper}{z:Act}(w:World)(k:Nat)(G:o.guard=none)(x y:Operand)(L:o.op= .index 228 x y)
  (M:z.eval x= .agg (jS 31)) (N:z.eval y= .int .i64 (k:Int)) (J:k<31)
  (h:wpList Tryz.prog E Q A (z.put o.dst (.agg #[.int .i32 (eW k:Int),.int .u64 (gO k:Int)])) w):wpList Tryz.prog E Q (o::A) z w:=by
 refine wpList_plain G fun K I=> ?_;unfold Oper.wp execOp;simp only[L,M,N,Sem.run_bind,uA w k J,Result.andThen_ok];exact I _ _ h
theorem nh(k:Nat)(z:k<31):eW k<128:=by
 have h:∀k,k<31→eW k<128:=(by decide);exact h k z
theorem wL(k:Nat)(z:k<31):gO k<31:=by
 have h:∀k,k<31→gO k<31:=(by decide);exact h k z
theorem sC(f k:Nat)(E:k≤31):∀x∈fW f k,x<256:=by
 intro x z;simp only[fW,Na,List.mem_filter,List.mem_range] at z;obtain⟨i,⟨A,_⟩,rfl⟩:=z;have:=nh i (by omega);omega
theorem FO(f b:Nat)(A:f<4294967296)(z:b<31):(bits .and .u32 (f:Int) ((2^b:Nat):Int) !=0)=f.testBit b:=by
 rw[u32_and_nat f (2^b) A (lC z)];by_cases h:f.testBit b=true
 ·rw[h];have:f&&&2^b≠0:=fun e=>(by rw[(Db f b).1 e] at h;cases h);simp;omega
 ·simp only[Bool.not_eq_true] at h;rw[h,(Db f b).2 h];rfl
def lk(is:List Nat):Prop:=is.Pairwise (·<·)∧∀i∈is,i<31
def orB(is:List Nat):Nat:=is.foldl (fun f i=>f|||2^gO i) 0
theorem pO:∀i,i<31→∀j,j<31→(i<j↔eW i<eW j):=by decide
theorem Gr:∀i,i<31→∀j,j<31→gO i=gO j→i=j:=by decide
theorem yQ(A:i<31)(E:j<31)(h:eW i=eW j):i=j:=by
 rcases Nat.lt_trichotomy i j with z|z|z
 ·have:=(pO i A j E).1 z;omega
 ·exact z
 ·have:=(pO j E i A).1 z;omega
theorem Du{a b:Nat}(z:a<4294967296)(A:b<4294967296):a|||b<4294967296:=Nat.or_lt_two_pow (n:=32) z A
theorem Ej(is:List Nat)(f:Nat)(z:f<4294967296)(h:∀i∈is,i<31):is.foldl (fun f i=>f|||2^gO i) f<4294967296:=by
 induction is generalizing f with
 |nil=>exact z
 |cons i r ih=>exact ih _ (Du z (lC (wL i (h i (Nm ..))))) (fun j A=>h j (MV _ A))
theorem sR(h:lk is):orB is<4294967296:=Ej is 0 (by decide) h.2
theorem Bs(is:List Nat)(f b:Nat):(is.foldl (fun f i=>f|||2^gO i) f).testBit b=(f.testBit b||is.any fun i=>decide (gO i=b)):=by
 induction is generalizing f with
 |nil=>simp
 |cons i r ih=>
  rw[List.foldl_cons,ih,Nat.testBit_or,Nat.testBit_two_pow,List.any_cons,Bool.or_assoc]
theorem JU(is:List Nat)(b:Nat):(orB is).testBit b=is.any fun i=>decide (gO i=b):=by
 unfold orB;rw[Bs];simp
theorem Av(a b:List Nat)(G:a.Pairwise (·<·))(I:b.Pairwise (·<·))(h:∀x,x∈a↔x∈b):a=b:=by
 induction a generalizing b with
 |nil=>
  cases b with
  |nil=>rfl
  |cons y r=>have:=(h y).2 (Nm ..);cases this
 |cons x r ih=>
  cases b with
  |nil=>have:=(h x).1 (Nm ..);cases this
  |cons y s=>
   have J:∀{z},z∈r→x<z:=fun A=>List.rel_of_pairwise_cons G A;have K:∀{z},z∈s→y<z:=fun A=>List.rel_of_pairwise_cons I A;have L:x=y:=by
    rcases M1.1 ((h x).1 (Nm ..)) with e|e
    ·exact e
    ·rcases M1.1 ((h y).2 (Nm ..)) with E|E
     ·exact E.symm
     ·have:=K e;have:=J E;omega
   subst L;congr 1;refine ih s G.of_cons I.of_cons (fun z=>⟨fun A=> ?_,fun A=> ?_⟩)
   ·rcases M1.1 ((h z).1 (MV _ A)) with e|e
    ·subst e;have:=J A;omega
    ·exact e
   ·rcases M1.1 ((h z).2 (MV _ A)) with e|e
    ·subst e;have:=K A;omega
    ·exact e
theorem Ae(n:Nat):(List.range n).Pairwise (·<·):=List.pairwise_lt_range
theorem kO(h:lk is):eu (orB is)=is.map eW:=by
 unfold eu fW;congr 1;refine Av _ _ ((Ae 31).filter _) h.1 (fun x=> ?_);rw[List.mem_filter,List.mem_range,JU,List.any_eq_true];constructor
 ·rintro⟨z,i,A,e⟩;rw[←Gr i (h.2 i A) x z (of_decide_eq_true e)];exact A
 ·intro z;exact⟨h.2 x z,x,z,by simp⟩
theorem xp(f:Nat):∃is,lk is∧eu f=is.map eW:=by
 refine⟨(List.range 31).filter fun i=>f.testBit (gO i),⟨(Ae 31).filter _,fun i z=> ?_⟩,rfl⟩;have:=(List.mem_filter.1 z).1;simpa using this
def jU(t:List Nat)(ok:Bool)(f:Nat):Prop:=(ok=true∧∃is,lk is∧t=is.map eW∧f=orB is)∨(ok=false∧f=0∧¬∃is,lk is∧t=is.map eW)
theorem JH{a b:List Nat}(A:∀i∈a,i<31)(E:∀i∈b,i<31)(h:a.map eW=b.map eW):a=b:=by
 induction a generalizing b with
 |nil=>cases b with
  |nil=>rfl
  |cons y s=>simp at h
 |cons x r ih=>
  cases b with
  |nil=>simp at h
  |cons y s=>
   simp only[M0,List.cons.injEq] at h;rw[yQ (A x (Nm ..)) (E y (Nm ..)) h.1,ih (fun i z=>A i (MV _ z)) (fun i z=>E i (MV _ z)) h.2]
theorem ym{t:List Nat}{ok':Bool}{E:Nat}(h:jU t ok f)(K:jU t ok' E):ok=ok'∧f=E:=by
 rcases h with⟨rfl,is,G,I,rfl⟩|⟨rfl,rfl,L⟩<;>rcases K with⟨rfl,M,z,A,rfl⟩|⟨rfl,rfl,J⟩
 ·have:=JH G.2 z.2 (I.symm.trans A);subst this;exact⟨rfl,rfl⟩
 ·exact absurd ⟨is,G,I⟩ J
 ·exact absurd ⟨M,z,A⟩ L
 ·exact⟨rfl,rfl⟩
def kJ(x k:Nat):Nat:=(List.range k).foldl (fun f j=>if l4 j=x then f|||2^j else f) 0
def kx(l:List Nat):Nat:=l.foldl (fun f x=>f|||kJ x 31) 0
theorem rD(x k:Nat):kJ x (k+1)=if l4 k=x then kJ x k|||2^k else kJ x k:=by
 unfold kJ;rw[List.range_succ,List.foldl_append];rfl
theorem yq(x k:Nat)(z:k≤31):kJ x k<4294967296:=by
 induction k with
 |zero=>simp[kJ]
 |succ k ih=>
  rw[rD];split
  ·exact Du (ih (by omega)) (lC (by omega))
  ·exact ih (by omega)
theorem DQ:∀i,i<31→kJ (eW i) 31=2^gO i:=by decide+kernel
theorem BW(l:List Nat)(x:Nat):kx (l++[x])=kx l|||kJ x 31:=by unfold kx;rw[List.foldl_append];rfl
theorem zV(l:List Nat):kx l<4294967296:=by
 have h:∀(l:List Nat) (f:Nat),f<4294967296→l.foldl (fun f x=>f|||kJ x 31) f<4294967296:=by
  intro l
  induction l with
  |nil=>intro f z;exact z
  |cons x r ih=>intro f z;exact ih _ (Du z (yq x 31 (MH _)))
 exact h l 0 (by decide)
theorem vG(is:List Nat)(h:∀i∈is,i<31):kx (is.map eW)=orB is:=by
 have A:∀(is:List Nat) (f:Nat),(∀i∈is,i<31)→(is.map eW).foldl (fun f x=>f|||kJ x 31) f=is.foldl (fun f i=>f|||2^gO i) f:=by
  intro is
  induction is with
  |nil=>intro f _;rfl
  |cons i r ih=>
   intro f z;simp only[M0,List.foldl_cons];rw[DQ i (z i (Nm ..))];exact ih _ (fun j E=>z j (MV _ E))
 exact A is 0 h
theorem GF(h:lk is):is.length≤31:=by
 have e:=congrArg List.length (kO h);rw[MI] at e;have:=jC (orB is) 31;unfold eu at e;omega
theorem xW{t:List Nat}(h:eu (kx t)=t):jU t true (kx t):=by
 obtain⟨is,z,e⟩:=xp (kx t);have A:t=is.map eW:=(by rw[←e,h]);exact .inl ⟨rfl,is,z,A,by rw[A,vG is z.2]⟩
theorem AD{t:List Nat}(h:¬eu (kx t)=t):jU t false 0:=by
 refine .inr ⟨rfl,rfl,fun⟨is,z,e⟩=>h ?_⟩;rw[e,vG is z.2,kO z]
theorem zC{t:List Nat}(h:31<t.length):jU t false 0:=by
 refine .inr ⟨rfl,rfl,fun⟨is,z,e⟩=> ?_⟩;have:=GF z;rw[e,MI] at h;omega
theorem Iy(f c k:Nat)(z:c≤123)(A:k≤31):(iK f (c-65)++ik f c k).length≤2000:=by
 have:=EY f (c-65);have:=By f c k;rw[MT];omega
theorem jW(f:Nat)(w:World)(hf:f<4294967296):
  Calls Tryz.prog 131 #[.int .u32 (f:Int)] w fun e w'=>e= .returned (.string (fC (eu f)))∧Below w.heap.size w w':=by
 go_enter Tryz.func131,Tryz.ntmps131;go_wp2;go_loopw [3,4,5] (fun o b _ wr=>∃c:Nat,65≤c∧c≤123∧b= .int .i32 (c:Int)∧dO wr w.heap.size o (iK f (c-65))∧Below w.heap.size w wr) (fun _ b _ _=>123-(intOf b).toNat)
 case atStart=>exact⟨65,by omega,by omega,rfl,dO.nil _ _,MJ _ _⟩
 case round=>
  obtain⟨c,ac,ad,rfl,A,I⟩:=hrel;by_cases af:c<123
  ·have G:=a8 A;have E:=a8 I;clear A I;have ae:(c:Int)≤122:=(by omega);go_wp2;go_loopw [3,5] (fun o i wi=>∃k:Nat,k≤31∧i= .int .i64 (k:Int)∧dO wi w.heap.size o (iK f (c-65)++ik f c k)∧Below w.heap.size w wi) (fun _ i _=>31-(intOf i).toNat)
   case atStart=>exact⟨0,by omega,rfl,by simpa[ik] using G.out,E.out⟩
   case round=>
    obtain⟨k,hk,rfl,A,I⟩:=hrel;clear G E;by_cases O:k<31
    ·have G:=a8 A;have E:=a8 I;have J:=a8 (wV f c k);have HL:=a8 (Iy f c k (by omega) hk);have HF:=a8 (Ez f k);clear A I;go_wp2_with fail;refine(oX k _ O).mono ?_;rintro e w1 ⟨rfl,rfl⟩;by_cases N:l4 k=c
     ·have he:((l4 k:Int)==(c:Int))=true:=(by rw[N];simp);go_wp2_with fail;refine(HF.out _ hf O).mono ?_;rintro e w2 ⟨rfl,rfl⟩;have ab:c<256:=(by omega);by_cases L:f.testBit k=true
      ·have z:=J.out;rw[N,L] at z;simp only[BEq.rfl,Bool.and_self,if_true] at z;rw[L];have K:=a8 z;clear z J;have U:=xJ w2 c;have Q:=G.out.alloc1 (.cells #[.int .u8 (c:Int)] 5);have Z:=E.out.size;go_wp2_with (at_builtin;refine ez _ rfl _ _ rfl w.heap.size u3 _ [c] rfl Q _ _ rfl U (by simp) (by have:=HL.out;simp only[M2,List.length_nil];omega) (by simp;omega) ?_;intro v5 w5 R Y)
       rw[Nz,←K.out] at R;have aa:=((E.out.alloc Z (.cells #[.int .u8 (c:Int)] 5)).grown Y (by simp;omega) (fun j h=>(World.ownsRow.lt Q j h).1))
       go_roundw
       case rel=>exact⟨k+1,by omega,by go_num,R,aa⟩
       case measure=>simp[intOf];omega
      ·simp only[Bool.not_eq_true] at L;have z:=J.out;rw[L] at z;simp only[Bool.and_false,Bool.false_eq_true,if_false,Nn] at z;rw[L];have K:=a8 z;clear z J;go_wp2;go_roundw
       case rel=>exact⟨k+1,by omega,by go_num,by rw[K.out];exact G.out,E.out⟩
       case measure=>simp[intOf];omega
     ·have he:((l4 k:Int)==(c:Int))=false:=(by simp;omega);have z:=J.out;rw[show(l4 k==c)=false from by simpa using N] at z;simp only[Bool.false_and,Bool.false_eq_true,if_false,Nn] at z;have K:=a8 z;clear z J;go_wp2;go_roundw
      case rel=>exact⟨k+1,by omega,by go_num,by rw[K.out];exact G.out,E.out⟩
      case measure=>simp[intOf];omega
    ·obtain rfl:k=31:=(by omega);have e:iK f (c-65)++ik f c 31=iK f (c+1-65):=by
      rw[show c+1-65=(c-65)+1 from by omega,pf,show 65+(c-65)=c from by omega]
     rw[e] at A;have G:=a8 A;have E:=a8 I;clear A I;go_wp2;go_roundw
     case rel=>exact⟨c+1,by omega,by omega,by go_num,G.out,E.out⟩
     case measure=>simp[intOf];omega
  ·obtain rfl:c=123:=(by omega);have M:dO wr w.heap.size u3 (eu f):=(by rw[←BJ];exact A);obtain⟨a,cap,rfl⟩:=M.slice;have V:=fH wr a cap _ M.row;clear A M;generalize (eu f).length=n at V⊢;go_wp2;go_ret;exact⟨rfl,I⟩
section
open Go.Sort Go.Lib
def iG(u:Nat):ByteArray:=⟨(Lib.decDigits u).toArray⟩
def wF(m:Nat)(t:List UInt8):List UInt8:=if m=0 then t else Lib.decDigits m++t
theorem D9(m:Nat)(t:List UInt8)(h:0<m):wF (m/10) (UInt8.ofNat (48+m%10)::t)=wF m t:=by
 by_cases z:m<10
 ·have A:m/10=0:=(by omega);have E:m%10=m:=(by omega);unfold wF;rw[A,E,if_pos rfl,if_neg (by omega),Lib.decDigits_one z];rfl
 ·unfold wF;rw[if_neg (by omega),if_neg (by omega)]
  conv=>rhs;rw[Lib.decDigits,dif_neg z]
  simp
theorem JQ(u:Nat)(h:u<18446744073709551616):Lib.nDigits u≤20:=by
 by_cases z:1≤u
 ·have:=Lib.numDigits_eq u z h;split at this<;>omega
 ·rw[Lib.nDigits_small (by omega)];omega
theorem F6(m:Nat)(t:List UInt8):t.length≤(wF m t).length:=by
 unfold wF;split
 ·exact MH _
 ·simp
theorem qR{w w':World}{z:String}{k:IntKind}{E:List Int}(h:TabIs Tryz.prog w z k E)(I:Below w.heap.size w w'):TabIs Tryz.prog w' z k E:=by
 unfold TabIs World.var? at*;cases hg:Tryz.prog.globalNamed z with
 |none=>simp[hg] at h
 |some g=>
  simp only[hg,Option.bind_some] at h⊢;have G:g<w.heap.size:=by
   rcases NB g w.heap.size with A|A
   ·exact A
   ·rw[Array.getElem?_eq_none A] at h;simp at h
  rw[I.block g G];exact h
theorem qm(w:World)(k:Nat)(os:Array Obj):Below w.heap.size w (grow (w.drewN k) os):=by
 refine⟨rfl,rfl,rfl,?_,fun j z=> ?_⟩
 ·show w.heap.size≤(w.heap++os).size;simp
 ·show(w.heap++os)[j]? =w.heap[j]?;rw[Array.getElem?_append_left z]
theorem ID(x:Nat):fC [x]=⟨[UInt8.ofNat x].toArray⟩:=rfl
theorem D8:iG 0=⟨#[48]⟩:=by unfold iG;rw[Lib.decDigits_one (by omega)];rfl
theorem ni(n:Nat)(w:World)(V:n<9223372036854775808):
  Calls Tryz.prog 97 #[.int .i64 (n:Int)] w fun e w'=>e= .returned (.string (iG n))∧Below w.heap.size w w':=by
 by_cases K:n=0
 ·subst K;go_enter Tryz.func97,Tryz.ntmps97;go_wp2;go_ret;exact⟨by rw[D8];rfl,MJ _ _⟩
 ·have Y:¬(n:Int)=0:=(by omega);go_enter Tryz.func97,Tryz.ntmps97;go_wp2;go_loopw [0,3] (fun v s wr=>∃(m:Nat) (t:List UInt8),v= .int .i64 (m:Int)∧s= .string ⟨t.toArray⟩∧m≤n∧Hid (wF m t=Lib.decDigits n)∧Below w.heap.size w wr) (fun v _ _=>(RowKit.intOf v).toNat)
  case atStart=>exact⟨n,[],rfl,rfl,MH _,by show _=_;unfold wF;rw[if_neg K,Nn],MJ _ _⟩
  case round=>
   obtain⟨m,t,rfl,rfl,U,z,L⟩:=hrel;have A:=a8 L;have Q:t.length≤20:=by
    have E:=F6 m t;rw[z.out,Lib.decDigits_length] at E;have R:=JQ n (by omega);omega
   clear L;by_cases E:0<m
   ·have J:=a8 ((D9 m t E).trans z.out);have O:(0:Int)<(m:Int):=(by omega);clear z;have I:(convert 52 9 (.slice (some ⟨wr.heap.size,0,none⟩) 1 1)).run Tryz.prog (wr.alloc (.cells #[.int .u8 (48+(m:Int)%10)] 5))= .ok (.string ⟨[UInt8.ofNat (48+m%10)].toArray⟩) (wr.alloc (.cells #[.int .u8 (48+(m:Int)%10)] 5)):=by
     have h:=fH _ _ 1 [48+m%10] (xJ wr (48+m%10));rw[ID] at h;have e:(((48+m%10:Nat)):Int)=48+(m:Int)%10:=(by omega);rw[e] at h;exact h
    have M:=a8 (A.out.alloc A.out.size (.cells #[.int .u8 (48+(m:Int)%10)] 5));have G:(Op.stringOp .add ⟨[UInt8.ofNat (48+m%10)].toArray⟩ ⟨t.toArray⟩).run Tryz.prog (wr.alloc (.cells #[.int .u8 (48+(m:Int)%10)] 5))= .ok (.string ⟨(UInt8.ofNat (48+m%10)::t).toArray⟩) (wr.alloc (.cells #[.int .u8 (48+(m:Int)%10)] 5)):=
     run_string_add_lists _ [UInt8.ofNat (48+m%10)] t (by simp) (by omega)
    generalize UInt8.ofNat (48+m%10)=x at J I G;generalize [x].toArray=xs at I G;go_wp2;go_roundw
    case rel=>exact⟨m/10,x::t,by congr 1,rfl,by omega,J,M.out⟩
    case measure=>simp[RowKit.intOf];omega
   ·have O:¬(0:Int)<(m:Int):=(by omega);have N:m=0:=(by omega);subst N;go_wp2;go_ret;refine⟨?_,A.out⟩;have h:=z.out;unfold wF at h;rw[if_pos rfl] at h;unfold iG;rw[←h];rfl
end
theorem Ei(s:ByteArray)(f:Nat):((fC (eu f)).toList==s.toList)=decide (eu f=fe s):=by
 conv=>lhs;rw[←AI s]
 exact pn (sC f 31 (MH _)) (DR s)
theorem Hx(a b:Nat)(z:a<4294967296)(A:b<4294967296):bits .or .u32 (a:Int) (b:Int)=((a|||b:Nat):Int):=u32_or_nat a b z A
theorem nJ(s:ByteArray)(w:World)(hs:s.size≤1048576):
  Calls Tryz.prog 99 #[.string s] w fun e w'=>∃(ok:Bool) (f:Nat),e= .returned (.agg #[.bool ok,.int .u32 (f:Int)])∧jU (fe s) ok f∧Below w.heap.size w w':=by
 have hl:=ji s;go_enter Tryz.func99,Tryz.ntmps99;by_cases ak:31<s.size
 ·have hi:(31:Int)<(s.size:Int):=(by omega);go_wp2;refine bodyPost_ret (kh w.heap.size _ false 0 rfl rfl (heap_alloc_new w _)) rfl ⟨false,0,rfl,zC (by omega),(MJ _ _).alloc (MH _) _⟩
 ·have hi:¬(31:Int)<(s.size:Int):=(by omega);have ac:=heap_alloc_new w (.cells #[.bool false,.int .u32 0] 183);have ab:=nAl w (.cells #[.bool false,.int .u32 0] 183);have I:=a8 (And.intro ac ab);clear ac ab;go_wp2;generalize w.alloc (.cells #[.bool false,.int .u32 0] 183)=w0 at I⊢;go_loopw [3,4,5] (fun f i _ wr=>∃k:Nat,k≤s.size∧i= .int .i64 (k:Int)∧f= .int .u32 ((kx ((fe s).take k):Nat):Int)∧∃n,wr=w0.drewN n) (fun _ i _ _=>s.size-(intOf i).toNat)
  case atStart=>exact⟨0,MQ _,rfl,rfl,0,rfl⟩
  case round=>
   obtain⟨i,al,rfl,rfl,n,rfl⟩:=hrel;by_cases aj:i<s.size
   ·have O:=MP (l:=fe s) (i:=i) (by omega);rw[pH s i aj] at O;have G:=zV ((fe s).take i);have R:=a8 (congrArg kx O);rw[BW] at R;clear O;generalize kx ((fe s).take i)=F0 at G R⊢;go_wp2;go_loopw [3,5] (fun f j wr=>∃k:Nat,k≤31∧j= .int .i64 (k:Int)∧f= .int .u32 ((F0|||kJ s[i].toNat k:Nat):Int)∧∃n,wr=w0.drewN n) (fun _ j _=>31-(intOf j).toNat)
    case atStart=>exact⟨0,by omega,rfl,by simp[kJ],n,rfl⟩
    case round=>
     obtain⟨k,hk,rfl,rfl,J⟩:=hrel;by_cases ad:k<31
     ·have K:=a8 J;clear J;have hL:=a8 (fun W=>oX k W ad);have hB:=yq s[i].toNat k hk;have HS:=a8 (rD s[i].toNat k);have hO:=Du G hB;have hP:=lC ad;have af:=Hx _ _ hO hP;generalize hy:F0|||kJ s[i].toNat k=y at hO af⊢;by_cases U:l4 k=s[i].toNat
      ·have he:((l4 k:Int)==(s[i].toNat:Int))=true:=(by rw[U];simp);go_wp2;go_quiet((go_at_call 130;exact Calls.quiet_of_same (hL.out _)));go_wp2;go_roundw
       case rel=>
        refine⟨k+1,by omega,by go_num,?_,iU K.out _⟩;rw[HS.out,if_pos U,←Nat.or_assoc,hy];have e2:((2:Int)^k%4294967296)=((2^k:Nat):Int):=by
         have e3:((2^k:Nat):Int)=(2:Int)^k:=(by push_cast;rfl);rw[←e3];generalize (2^k:Nat)=q at hP⊢;omega
        rw[e2,af]
       case measure=>simp[intOf];omega
      ·have he:((l4 k:Int)==(s[i].toNat:Int))=false:=(by simp;omega);go_wp2;go_quiet((go_at_call 130;exact Calls.quiet_of_same (hL.out _)));go_wp2;go_roundw
       case rel=>
        refine⟨k+1,by omega,by go_num,?_,iU K.out _⟩;rw[HS.out,if_neg U,hy]
       case measure=>simp[intOf];omega
     ·obtain rfl:k=31:=(by omega);have K:=a8 J;clear J;go_wp2;go_roundw
      case rel=>exact⟨i+1,by omega,by go_num,by rw[R.out],K.out⟩
      case measure=>simp[intOf];omega
   ·obtain rfl:i=s.size:=(by omega);rw[MX (by omega)];have G:=zV (fe s);have A:=Ei s (kx (fe s));have M:=a8 (fun W=>jW (kx (fe s)) W G);have Y:=a8 (@xW (fe s));have ae:=a8 (@AD (fe s));generalize kx (fe s)=F at G A M Y ae⊢;generalize fC (eu F)=S at A M;go_wp2_with fail;refine(M.out _).mono ?_;rintro e z ⟨rfl,N⟩;have V:w.heap.size<w0.heap.size:=lt_of_block I.out.1;have E:z.heap[w.heap.size]? =some (.cells #[.bool false,.int .u32 0] 183 (0,0)):=(N.block w.heap.size V).trans I.out.1;have ah:Below w.heap.size w z:=(below_drewN I.out.2 n).trans (N.mono (Nat.le_of_lt V));have c0:z.cell? ⟨w.heap.size,0,none⟩=some (.bool false):=(by rw[cell_of_row _ _ _ _ _ _ E];rfl);have c1:z.cell? ⟨w.heap.size,1,none⟩=some (.int .u32 0):=(by rw[cell_of_row _ _ _ _ _ _ E];rfl);have f0:z.frozen? ⟨w.heap.size,0,none⟩=false:=(by simp[World.frozen?,E]);have f1:z.frozen? ⟨w.heap.size,1,none⟩=false:=(by simp[World.frozen?,E]);have Q:=a8 E;have ag:∀(b:Bool) (y:Int),((z.setCell ⟨w.heap.size,0,none⟩ (.bool b)).setCell ⟨w.heap.size,1,none⟩ (.int .u32 y)).heap[w.heap.size]? =some (.cells #[.bool b,.int .u32 y] 183 (0,0)):=fun b y=>by
     rw[setCell_eq_setRow z _ 0 _ _ _ _ Q.out,setCell_eq_setRow _ _ 1 _ _ _ _ (setRow_heap z _ _ _ _ _ Q.out),setRow_setRow,setRow_heap z _ _ _ _ _ Q.out];rfl
    have Z:=a8 ag;have aa:=a8 ah;clear E ag ah N;by_cases L:eu F=fe s
    ·have ai:(S.toList==s.toList)=true:=(by rw[A,decide_eq_true L]);clear A;go_wp2;exact bodyPost_ret (kh w.heap.size _ true (F:Int) rfl rfl (Z.out _ _)) rfl ⟨true,F,rfl,Y.out L,(aa.out.setCell (p:=⟨w.heap.size,0,none⟩) (MH _) _).setCell (p:=⟨w.heap.size,1,none⟩) (MH _) _⟩
    ·have ai:(S.toList==s.toList)=false:=(by rw[A,decide_eq_false L]);clear A;go_wp2;exact bodyPost_ret (kh w.heap.size _ false 0 rfl rfl (Z.out _ _)) rfl ⟨false,0,rfl,ae.out L,(aa.out.setCell (p:=⟨w.heap.size,0,none⟩) (MH _) _).setCell (p:=⟨w.heap.size,1,none⟩) (MH _) _⟩
section
open Go.Lib
def Ho(a b c:ByteArray):ByteArray:=⟨#[99,117,114,47]⟩++a++⟨#[46]⟩++b++⟨#[58,50,44]⟩++c
def jq(u:Nat)(s:Int)(f:Nat):ByteArray:=if u=0∨s<0∨1000000000000<s then⟨#[]⟩ else Ho (iG u) (iG s.toNat) (fC (eu f))
theorem nf(u:Nat)(h:u<18446744073709551616):(iG u).size≤20:=by
 show(Lib.decDigits u).toArray.size≤20;rw[List.size_toArray,Lib.decDigits_length];exact JQ u h
theorem oY(f:Nat):(fC (eu f)).size≤31:=by
 show((eu f).map UInt8.ofNat).toArray.size≤31;rw[List.size_toArray,MI];exact jC f 31
theorem ot{u:Nat}{s:Int}(f:Nat)(h:u=0∨s<0∨1000000000000<s):jq u s f=⟨#[]⟩:=if_pos h
theorem pX{u s:Nat}(f:Nat)(z:u≠0)(A:s≤1000000000000):jq u (s:Int) f=Ho (iG u) (iG s) (fC (eu f)):=by
 unfold jq;rw[if_neg (by omega)];rfl
theorem xT(u:Nat)(s:Int)(f:Nat)(w:World)(hu:u<4294967296)(N:f<4294967296):
  Calls Tryz.prog 100 #[.int .u32 (u:Int),.int .i64 s,.int .u32 (f:Int)] w fun e w'=>e= .returned (.string (jq u s f))∧Below w.heap.size w w':=by
 by_cases M:u=0∨s<0∨1000000000000<s
 ·rw[ot f M];by_cases L:u=0
  ·subst L;go_enter Tryz.func100,Tryz.ntmps100;go_wp2;go_ret;exact⟨rfl,MJ _ _⟩
  ·have O:¬(u:Int)=0:=(by omega);by_cases Z:s<0
   ·go_enter Tryz.func100,Tryz.ntmps100;go_wp2;go_ret;exact⟨rfl,MJ _ _⟩
   ·have K:1000000000000<s:=(by omega);go_enter Tryz.func100,Tryz.ntmps100;go_wp2;go_ret;exact⟨rfl,MJ _ _⟩
 ·obtain⟨k,rfl⟩:=Int.eq_ofNat_of_zero_le (show 0≤s by omega);have O:¬(u:Int)=0:=(by omega);have Y:¬(k:Int)<0:=(by omega);have K:¬(1000000000000:Int)<(k:Int):=(by omega);rw[pX f (by omega) (by omega)];have E:=a8 (fun w=>ni u w (by omega));have G:=a8 (fun w=>ni k w (by omega));have I:=a8 (fun w=>jW f w N);have U:=nf u (by omega);have z2:=nf k (by omega);have V:=oY f;generalize iG u=a at E U⊢;generalize iG k=b at G z2⊢;generalize fC (eu f)=c at I V⊢;go_enter Tryz.func100,Tryz.ntmps100;go_wp2_with fail;refine(E.out w).mono ?_;rintro e Q ⟨rfl,z⟩;go_wp2_with fail;refine(G.out Q).mono ?_;rintro e R ⟨rfl,A⟩;go_wp2_with fail;refine(I.out R).mono ?_;rintro e w3 ⟨rfl,J⟩;go_wp2;go_ret;exact⟨rfl,(z.trans (A.mono z.size)).trans (J.mono (MN z.size A.size))⟩
end
theorem Hp(k m:Nat)(h:m<10^(k+1)):Lib.nDigits m≤k+1:=by
 induction k generalizing m with
 |zero=>rw[Lib.nDigits_small (by simpa using h)];omega
 |succ k ih=>
  by_cases z:m<10
  ·rw[Lib.nDigits_small z];omega
  ·rw[Lib.nDigits_big z];have:=ih (m/10) (by rw[Nat.pow_succ] at h;omega);omega
theorem DJ(l:List UInt8)(h:∀c∈l,jJ c)(z k:Nat)(A:z<10^k):gz z l<10^(k+l.length):=by
 induction l generalizing z k with
 |nil=>simpa[gz] using A
 |cons c r ih=>
  have E:=h c (Nm ..);have:=ih (fun x G=>h x (MV _ G)) (z*10+(c.toNat-48)) (k+1) (by
   rw[Nat.pow_succ];have:=E.2;omega)
  show gz (z*10+(c.toNat-48)) r<_;rw[M2,show k+(r.length+1)=k+1+r.length from by omega];exact this
def uM(t:List UInt8)(n:Nat)(ok:Bool):Prop:=(ok=true∧t=Lib.decDigits n∧n<10000000000000)∨(ok=false∧∀m,m<10000000000000→t≠Lib.decDigits m)
theorem Dt{t:List UInt8}(h:t.length<1∨13<t.length):uM t 0 false:=Or.inr ⟨rfl,fun m A e=>by
 have z:=Lib.decDigits_length m;have E:=Lib.nDigits_pos m;have G:=Hp 12 m (by simpa using A);rw[←e] at z;omega⟩
theorem JR{t:List UInt8}{c:UInt8}(z:c∈t)(h:¬jJ c):uM t 0 false:=Or.inr ⟨rfl,fun m _ e=>h (oi m c (e▸z))⟩
theorem Cs{t:List UInt8}(h:i<t.length):gz 0 (t.take (i+1))=gz 0 (t.take i)*10+(t[i].toNat-48):=by
 rw[MP h,qd]
def I9(s:ByteArray)(w:World)(e:Ending)(w':World):Prop:=∃(n:Nat) (ok:Bool),e= .returned (.tuple #[.int .i64 (n:Int),.bool ok])∧uM s.data.toList n ok∧Below w.heap.size w w'
theorem lO(s:ByteArray)(w:World)(hs:s.size≤1048576):
  Calls Tryz.prog 98 #[.string s] w (I9 s w):=by
 have al:s.data.toList.length=s.size:=rfl;by_cases h1:s.size<1
 ·have hi:(s.size:Int)<1:=(by omega);go_enter Tryz.func98,Tryz.ntmps98;go_wp2;go_ret2;exact⟨0,false,rfl,Dt (by omega),MJ _ _⟩
 ·have hi:¬(s.size:Int)<1:=(by omega);by_cases h2:13<s.size
  ·have ad:(13:Int)<(s.size:Int):=(by omega);go_enter Tryz.func98,Tryz.ntmps98;go_wp2;go_ret2;exact⟨0,false,rfl,Dt (by omega),MJ _ _⟩
  ·have ad:¬(13:Int)<(s.size:Int):=(by omega);go_enter Tryz.func98,Tryz.ntmps98;go_wp2;go_loopw [4,5] (fun v i wr=>∃k:Nat,k≤s.size∧i= .int .i64 (k:Int)∧v= .int .i64 ((gz 0 (s.data.toList.take k):Nat):Int)∧Hid (∀c∈s.data.toList.take k,jJ c)∧∃n,wr=w.drewN n) (fun _ i _=>s.size-(RowKit.intOf i).toNat)
   case atStart=>exact⟨0,MQ _,rfl,rfl,by show∀c∈_,_;simp,0,rfl⟩
   case round=>
    obtain⟨i,aj,rfl,rfl,K,n,rfl⟩:=hrel;by_cases ak:i<s.size
    ·have O:i<s.data.toList.length:=(by omega);have I:=DJ _ K.out 0 0 (by decide);have G:(10:Nat)^(0+(s.data.toList.take i).length)≤10^12:=Nat.pow_le_pow_right (by omega) (by rw[MZ];omega);have U:=a8 (Cs O);have J:s.data.toList[i]=s[i]:=rfl;have Y:gz 0 (s.data.toList.take i)<1000000000000:=MW I (by simpa using G);clear I G;generalize gz 0 (s.data.toList.take i)=v at U Y⊢;by_cases N:jJ s[i]
     ·obtain⟨ac,hd2⟩:=N;have e1:¬(s[i].toNat:Int)<48:=(by omega);have e2:¬(57:Int)<(s[i].toNat:Int):=(by omega);obtain⟨d,ai⟩:∃d,s[i].toNat=48+d:=⟨s[i].toNat-48,by omega⟩
      have ag:(48:Int)≤(s[i].toNat:Int):=(by omega);go_wp2;go_roundw
      case rel=>
       refine⟨i+1,by omega,by go_num,?_,?_,n,rfl⟩
       ·rw[U.out,J];congr 1;omega
       ·show∀c∈s.data.toList.take (i+1),jJ c;rw[MP O];intro c E;rcases Nb.1 E with E|E
        ·exact K.out c E
        ·rw[M9] at E;rw[E,J];exact⟨ac,hd2⟩
      case measure=>simp[RowKit.intOf];omega
     ·have A:=a8 (JR (t:=s.data.toList) (c:=s[i]) (by rw[←J];exact MO O) N);by_cases e1:s[i].toNat<48
      ·have Z:(s[i].toNat:Int)<48:=(by omega);go_wp2;go_ret2;exact⟨0,false,rfl,A.out,below_drewN (MJ _ _) n⟩
      ·have e2:57<s[i].toNat:=(by unfold jJ at N;omega);have Z:¬(s[i].toNat:Int)<48:=(by omega);have ah:(57:Int)<(s[i].toNat:Int):=(by omega);go_wp2;go_ret2;exact⟨0,false,rfl,A.out,below_drewN (MJ _ _) n⟩
    ·have ae:i=s.size:=(by omega);subst ae;have M:=K.out;rw[MX (Nat.le_of_eq (j9 s))] at M⊢;have I:=DJ _ M 0 0 (by decide);have G:(10:Nat)^(0+s.data.toList.length)≤10^13:=Nat.pow_le_pow_right (by omega) (by omega);have Q:gz 0 s.data.toList<10000000000000:=MW I (by simpa using G);have D:=a8 (fun w=>ni (gz 0 s.data.toList) w (by omega));have R:((iG (gz 0 s.data.toList)).toList==s.toList)=decide (Lib.decDigits (gz 0 s.data.toList)=s.data.toList):=by
      rw[ByteArray.toList_eq,ByteArray.toList_eq];show(Lib.decDigits (gz 0 s.data.toList)==s.data.toList)=_;by_cases h:Lib.decDigits (gz 0 s.data.toList)=s.data.toList
      ·rw[decide_eq_true h,h];simp
      ·rw[decide_eq_false h];exact beq_eq_false_iff_ne.2 h
     have A:∀m,s.data.toList=Lib.decDigits m→Lib.decDigits (gz 0 s.data.toList)=s.data.toList:=fun m e=>(by rw[e,ng]);have L:=a8 (And.intro R A);clear I G R A M;generalize iG (gz 0 s.data.toList)=z at D L;generalize af:gz 0 s.data.toList=v at D L Q⊢;clear af;go_wp2_with fail;refine(D.out _).mono ?_;rintro e w1 ⟨rfl,aa⟩;go_wp2;go_ret2;have ab:Below w.heap.size w w1:=(below_drewN (MJ _ _) n).trans (aa.mono (MH _));obtain⟨V,A⟩:=L.out;refine⟨v,z.toList==s.toList,rfl,?_,ab⟩;by_cases h:Lib.decDigits v=s.data.toList
     ·rw[V,decide_eq_true h];exact Or.inl ⟨rfl,h.symm,Q⟩
     ·rw[V,decide_eq_false h];exact Or.inr ⟨rfl,fun m _ e=>h (A m e)⟩
section
open Go.Lib
def lR(is:List Nat):List UInt8:=is.map fun i=>UInt8.ofNat (eW i)
def nm(u s:Nat)(is:List Nat):List UInt8:=[99,117,114,47]++(decDigits u++([46]++(decDigits s++([58,50,44]++lR is))))
structure vX(t:List UInt8)(u s:Nat)(is:List Nat):Prop where
 good:lk is
 u1:1≤u
 u2:u<4294967296
 s2:s≤1000000000000
 eq:t=nm u s is
def nY(t:List UInt8)(ok:Bool)(u s f:Nat):Prop:=(ok=true∧∃is,vX t u s is∧f=orB is)∨(ok=false∧u=0∧s=0∧f=0∧¬∃u s is,vX t u s is)
theorem sA{is:List Nat}(h:lk is):(lR is).map UInt8.toNat=is.map eW:=by
 unfold lR;rw[NC];refine List.map_congr_left fun i z=> ?_;have:=nh i (h.2 i z);show(UInt8.ofNat (eW i)).toNat=eW i;rw[UInt8.toNat_ofNat'];omega
theorem JA{l:List UInt8}{is:List Nat}(h:l.map UInt8.toNat=is.map eW):l=lR is:=by
 have z:(l.map UInt8.toNat).map UInt8.ofNat=(is.map eW).map UInt8.ofNat:=(by rw[h]);rw[NC,NC] at z;have A:l.map (UInt8.ofNat∘UInt8.toNat)=l:=by
  conv=>rhs;rw[←List.map_id l]
  refine List.map_congr_left fun x _=> ?_;exact UInt8.ofNat_toNat
 rw[A] at z;exact z
theorem Eu{t:List UInt8}{u s I s':Nat}{is z:List Nat}(h:vX t u s is)(G:vX t I s' z):u=I∧s=s'∧orB is=orB z:=by
 have e:=h.eq.symm.trans G.eq;unfold nm at e;have N:=List.append_cancel_left e;have J:=iT (decDigits u) (decDigits s++([58,50,44]++lR is)) 46 [] (j5 Ds);have L:=iT (decDigits I) (decDigits s'++([58,50,44]++lR z)) 46 [] (j5 Ds);rw[N] at J;have A:=J.symm.trans L;simp only[Prod.mk.injEq,and_true] at A;have K:=iT (decDigits s) (lR is) 58 [50,44] (j5 zR);have M:=iT (decDigits s') (lR z) 58 [50,44] (j5 zR);rw[A.2] at K;have E:=K.symm.trans M;simp only[Prod.mk.injEq,and_true] at E;refine⟨oL A.1,oL E.1,?_⟩;have O:is.map eW=z.map eW:=(by rw[←sA h.good,←sA G.good,E.2]);exact(ym (t:=is.map eW) (ok:=true) (ok':=true) (Or.inl ⟨rfl,is,h.good,rfl,rfl⟩) (Or.inl ⟨rfl,z,G.good,O,rfl⟩)).2
theorem uO{t:List UInt8}{ok ok':Bool}{u s f A s' I:Nat}(h:nY t ok u s f)(J:nY t ok' A s' I):ok=ok'∧u=A∧s=s'∧f=I:=by
 rcases h with⟨rfl,is,K,rfl⟩|⟨rfl,rfl,rfl,rfl,O⟩
 ·rcases J with⟨rfl,G,z,rfl⟩|⟨rfl,rfl,rfl,rfl,E⟩
  ·obtain⟨L,M,N⟩:=Eu K z;exact⟨rfl,L,M,N⟩
  ·exact absurd ⟨u,s,is,K⟩ E
 ·rcases J with⟨rfl,G,z,rfl⟩|⟨rfl,rfl,rfl,rfl,E⟩
  ·exact absurd ⟨A,s',G,z⟩ O
  ·exact⟨rfl,rfl,rfl,rfl⟩
theorem vD{u s:Nat}{is:List Nat}(E:1≤u)(z:s≤1000000000000)(A:lk is):(jq u (s:Int) (orB is)).data.toList=nm u s is:=by
 rw[pX (orB is) (by omega) z,kO A];unfold Ho nm iG fC lR;simp[ByteArray.data_append]
end
theorem rO{t a c z c':List UInt8}{b:UInt8}(h:oC t b a c ok)(e:t=z++b::c')(K:b∉z):ok=true∧a=z∧c=c':=by
 rcases h with⟨rfl,h,J⟩|⟨rfl,h,_,_⟩
 ·have E:=iT a c b [] J;have G:=iT z c' b [] K;have I:a++([b]++c)=z++([b]++c'):=by
   have:=h.symm.trans e;simpa using this
  rw[I] at E;have A:=E.symm.trans G;simp only[Prod.mk.injEq,and_true] at A;exact⟨rfl,A.1,A.2⟩
 ·exact absurd (by rw[e];simp) h
theorem Gw{t:List UInt8}{s:Nat}(h:vX t u s is):4≤t.length∧t.length≤100∧t.take 4=[99,117,114,47]:=by
 have z:=Lib.decDigits_length u;have A:=Lib.decDigits_length s;have E:=Hp 9 u (by have:=h.u2;omega);have G:=Hp 12 s (by have:=h.s2;omega);have I:(lR is).length≤31:=by
  have e:=congrArg List.length (kO h.good);have l:=jC (orB is) 31;unfold lR;rw[MI] at e⊢;have:(eu (orB is)).length≤31:=l;omega
 rw[h.eq];unfold nm;refine⟨by simp,?_,rfl⟩;simp only[MT,M2,List.length_nil];omega
theorem Ek{t:List UInt8}{s:Nat}(h:vX t u s is):t.drop 4=(Lib.decDigits u++46::Lib.decDigits s)++58::50::44::lR is:=by
 rw[h.eq];unfold nm;simp
theorem yU{t:List UInt8}{s:Nat}(h:vX t u s is){a c:List UInt8}(A:oC (t.drop 4) 58 a c ok):ok=true∧a=Lib.decDigits u++46::Lib.decDigits s∧c=50::44::lR is:=
 rO A (Ek h) (by
  intro z;rcases Nb.1 z with z|z
  ·exact j5 zR z
  ·rcases M1.1 z with z|z
   ·cases z
   ·exact j5 zR z)
theorem Gv{s:Nat}{a c:List UInt8}(z:oC (Lib.decDigits u++46::Lib.decDigits s) 46 a c ok):ok=true∧a=Lib.decDigits u∧c=Lib.decDigits s:=rO z rfl (j5 Ds)
theorem yW(z:u<10000000000000)(h:uM (Lib.decDigits u) n ok):ok=true∧n=u:=by
 rcases h with⟨rfl,e,_⟩|⟨rfl,h⟩
 ·exact⟨rfl,(oL e).symm⟩
 ·exact absurd rfl (h u z)
theorem yV(z:lk is)(h:jU ((lR is).map UInt8.toNat) ok f):ok=true∧f=orB is:=by
 rw[sA z] at h;exact ym h (Or.inl ⟨rfl,is,z,rfl,rfl⟩)
structure CZ(t a c a2 c2:List UInt8)(ok ok2 k1 k2 fok:Bool)(n1 n2 f:Nat):Prop where
 cut:oC (t.drop 4) 58 a c ok
 dot:oC a 46 a2 c2 ok2
 num1:uM a2 n1 k1
 num2:uM c2 n2 k2
 let_:jU ((c.drop 2).map UInt8.toNat) fok f
theorem Bh{t a c L M:List UInt8}{E G I A:Bool}{J K:Nat}(h:CZ t a c L M ok E G I A J K f){s:Nat}(z:vX t u s is):E=true∧G=true∧I=true∧A=true∧J=u∧K=s∧f=orB is:=by
 obtain⟨_,rfl,rfl⟩:=yU z h.cut;obtain⟨rfl,rfl,rfl⟩:=Gv h.dot;obtain⟨rfl,rfl⟩:=yW (by have:=z.u2;omega) h.num1;obtain⟨rfl,rfl⟩:=yW (by have:=z.s2;omega) h.num2;obtain⟨rfl,rfl⟩:=yV z.good h.let_;exact⟨rfl,rfl,rfl,rfl,rfl,rfl,rfl⟩
theorem DW{t a c M N:List UInt8}{L Q R:Bool}(h:CZ t a c M N ok L Q R true z A f)(I:1≤z)(U:z≤4294967295)(J:4≤t.length)(E:(jq z (A:Int) f).data.toList=t):nY t true z A f:=by
 have G:A≤1000000000000:=by
  by_cases G:A≤1000000000000
  ·exact G
  ·rw[ot f (by omega)] at E;rw[←E] at J;simp at J
 rcases h.let_ with⟨_,is,K,V,rfl⟩|⟨O,_⟩
 ·rw[vD I G K] at E;exact Or.inl ⟨rfl,is,⟨K,I,by omega,G,E.symm⟩,rfl⟩
 ·cases O
theorem yx{t a c M N:List UInt8}{I J K G:Bool}{E L:Nat}(h:CZ t a c M N ok I J K G E L f)(z:I=false∨J=false∨K=false∨G=false∨E<1∨4294967295<E∨(jq E (L:Int) f).data.toList≠t):nY t false 0 0 0:=by
 refine Or.inr ⟨rfl,rfl,rfl,rfl,?_⟩;rintro⟨u,s,is,A⟩;obtain⟨O,Q,R,U,V,Y,Z⟩:=Bh h A;rcases z with z|z|z|z|z|z|z
 ·rw[O] at z;cases z
 ·rw[Q] at z;cases z
 ·rw[R] at z;cases z
 ·rw[U] at z;cases z
 ·have:=A.u1;omega
 ·have:=A.u2;omega
 ·rw[V,Y,Z] at z;exact z (by rw[vD A.u1 A.s2 A.good];exact A.eq.symm)
theorem BV{t:List UInt8}(h:100<t.length∨t.length<4∨t.take 4≠[99,117,114,47]):nY t false 0 0 0:=by
 refine Or.inr ⟨rfl,rfl,rfl,rfl,?_⟩;rintro⟨u,s,is,A⟩;obtain⟨E,G,z⟩:=Gw A;rcases h with h|h|h
 ·omega
 ·omega
 ·exact h z
theorem BU{t a c:List UInt8}(G:oC (t.drop 4) 58 a c ok)(h:ok=false∨c.length<2∨c.take 2≠[50,44]):nY t false 0 0 0:=by
 refine Or.inr ⟨rfl,rfl,rfl,rfl,?_⟩;rintro⟨u,s,is,E⟩;obtain⟨A,I,z⟩:=yU E G;rcases h with h|h|h
 ·rw[A] at h;cases h
 ·rw[z] at h;simp at h;omega
 ·rw[z] at h;exact h rfl
def mf(t:List UInt8)(lo hi:Nat)(n:Nat)(ok:Bool):Prop:=(ok=true∧t=Lib.decDigits n∧lo≤n∧n≤hi)∨(ok=false∧∀m,lo≤m→m≤hi→t≠Lib.decDigits m)
def FD(s:ByteArray)(lo hi:Nat)(w:World)(e:Ending)(w':World):Prop:=∃(n:Nat) (ok:Bool),e= .returned (.tuple #[.int .i64 (n:Int),.bool ok])∧mf s.data.toList lo hi n ok∧Below w.heap.size w w'
theorem fD(s:ByteArray)(lo z:Nat)(w:World)(Q:s.size≤1048576)(R:z<10000000000000):
  Calls Tryz.prog 92 #[.string s,.int .i64 (lo:Int),.int .i64 (z:Int)] w (FD s lo z w):=by
 go_enter Tryz.func92,Tryz.ntmps92;go_wp2_with fail;refine(lO s w Q).mono ?_;rintro e U ⟨n,ok,rfl,G,K⟩;have E:=a8 K;clear K;cases ok with
 |false=>
  have A:=a8 (show∀m,lo≤m→m≤z→s.data.toList≠Lib.decDigits m from fun m _ J=>by
   rcases G with⟨h,_⟩|⟨_,h⟩
   ·cases h
   ·exact h m (by omega))
  clear G;go_wp2;go_ret2;exact⟨n,false,rfl,Or.inr ⟨rfl,A.out⟩,E.out⟩
 |true=>
  have I:s.data.toList=Lib.decDigits n:=by
   rcases G with⟨_,h,_⟩|⟨h,_⟩
   ·exact h
   ·cases h
  have A:=a8 I;clear G I;by_cases N:lo≤n
  ·have L:(lo:Int)≤(n:Int):=(by omega);by_cases J:n≤z
   ·have M:(n:Int)≤(z:Int):=(by omega);go_wp2;go_ret2;exact⟨n,true,rfl,Or.inl ⟨rfl,A.out,N,J⟩,E.out⟩
   ·have M:¬(n:Int)≤(z:Int):=(by omega);go_wp2;go_ret2;refine⟨n,false,rfl,Or.inr ⟨rfl,fun m _ O e=> ?_⟩,E.out⟩;have:=oL (A.out.symm.trans e);omega
  ·have L:¬(lo:Int)≤(n:Int):=(by omega);go_wp2;go_ret2;refine⟨n,false,rfl,Or.inr ⟨rfl,fun m O _ e=> ?_⟩,E.out⟩;have:=oL (A.out.symm.trans e);omega
def dI(D:dQ)(nm:ByteArray):Bool×List Nat:=
 match fF D.names nm with
 |some n=>(true,(D.nodes.getD n.toNat ([],0)).1)
 |none=>(false,[])
def Kw(t:List UInt8)(w:World)(e:Ending)(w':World):Prop:=∃(ok:Bool) (u s f:Nat),e= .returned (.agg #[.bool ok,.int .u32 (u:Int),.int .i64 (s:Int),.int .u32 (f:Int)])∧nY t ok u s f∧Below w.heap.size w w'
theorem ep{fn:Func}{p:Tmp}(B:Nat)(W:World)(ok:Bool)(u s f:Int)(A:fn.results= #[.cell p 129])(E:tmps.getD p undef= .pointer (some ⟨B,0,none⟩))(z:W.heap[B]? =some (.cells #[.bool ok,.int .u32 u,.int .i64 s,.int .u32 f] 129 (0,0))):
  (results fn tmps).run Tryz.prog W= .ok (.agg #[.bool ok,.int .u32 u,.int .i64 s,.int .u32 f]) W:=
 results_cell_row (P:=Tryz.prog) A _ _ B _ _ _ _ E z Tryz.underlying129 rfl (by kernel_rfl)
theorem fB{z A:Value}(h:w.heap[B]? =some (.cells #[z,A,E,G] 129 (0,0)))(v0 v1 v2 v3:Value):
  ((((w.setCell ⟨B,0,none⟩ v0).setCell ⟨B,1,none⟩ v1).setCell ⟨B,2,none⟩ v2).setCell ⟨B,3,none⟩ v3).heap[B]? =some (.cells #[v0,v1,v2,v3] 129 (0,0)):=by
 have I:=heap_setCell_same w B 0 _ _ v0 h;have J:=heap_setCell_same _ B 1 _ _ v1 I;have K:=heap_setCell_same _ B 2 _ _ v2 J;exact heap_setCell_same _ B 3 _ _ v3 K
structure yl(w W:World):Prop where
 r2:W.heap[w.heap.size]? =some (.cells #[.bool false,.int .u32 0,.int .i64 0,.int .u32 0] 129 (0,0))
 r3:W.heap[w.heap.size+1]? =some (.cells #[.bool false,.int .u32 0,.int .i64 0,.int .u32 0] 129 (0,0))
 bel:Below w.heap.size w W
theorem yl.below{W':World}(h:yl w W)(z:Below W.heap.size W W'):yl w W':=
 ⟨(z.block _ (lt_of_block h.r2)).trans h.r2,(z.block _ (lt_of_block h.r3)).trans h.r3,h.bel.trans (z.mono h.bel.size)⟩
theorem yl.start(w:World):yl w ((w.alloc (.cells #[.bool false,.int .u32 0,.int .i64 0,.int .u32 0] 129)).alloc (.cells #[.bool false,.int .u32 0,.int .i64 0,.int .u32 0] 129)):=by
 have E:=heap_alloc_new w (.cells #[.bool false,.int .u32 0,.int .i64 0,.int .u32 0] 129);have b1:=nAl w (.cells #[.bool false,.int .u32 0,.int .i64 0,.int .u32 0] 129);have A:(w.alloc (.cells #[.bool false,.int .u32 0,.int .i64 0,.int .u32 0] 129)).heap.size=w.heap.size+1:=(by simp);have z:=heap_alloc_new (w.alloc (.cells #[.bool false,.int .u32 0,.int .i64 0,.int .u32 0] 129)) (.cells #[.bool false,.int .u32 0,.int .i64 0,.int .u32 0] 129);rw[A] at z;refine⟨?_,z,b1.alloc b1.size _⟩;rw[Below.heap_alloc _ _ _ (by rw[A];omega)];exact E
theorem yl.back(h:yl w W)(v0 v1 v2 v3:Value):Below w.heap.size w ((((W.setCell ⟨w.heap.size,0,none⟩ v0).setCell ⟨w.heap.size,1,none⟩ v1).setCell ⟨w.heap.size,2,none⟩ v2).setCell ⟨w.heap.size,3,none⟩ v3):=
 (((h.bel.setCell (p:=⟨w.heap.size,0,none⟩) (MH _) _).setCell (p:=⟨w.heap.size,1,none⟩) (MH _) _).setCell (p:=⟨w.heap.size,2,none⟩) (MH _) _).setCell (p:=⟨w.heap.size,3,none⟩) (MH _) _
theorem FN{a:List UInt8}:(a==b)=decide (a=b):=by
 by_cases h:a=b
 ·rw[decide_eq_true h,h];simp
 ·rw[decide_eq_false h];exact beq_eq_false_iff_ne.2 h
theorem oP(s:ByteArray)(k:Nat):(s.extract 0 k).toList=s.data.toList.take k:=by
 rw[ByteArray.toList_eq,my];simp
theorem yP(s:ByteArray)(k:Nat):(s.extract k s.size).data.toList=s.data.toList.drop k:=by
 rw[my,MX (by rw[MU,j9];omega)]
theorem oJ{z A:Value}(h:W.heap[B]? =some (.cells #[z,A,E,G] 129 (0,0))):W.cell? ⟨B,0,none⟩=some z∧W.cell? ⟨B,1,none⟩=some A∧W.cell? ⟨B,2,none⟩=some E∧W.cell? ⟨B,3,none⟩=some G:=by
 refine⟨?_,?_,?_,?_⟩<;>rw[cell_of_row _ _ _ _ _ _ h]<;>rfl
theorem uS{t a c:List UInt8}{b:UInt8}(h:oC t b a c ok):a.length≤t.length∧c.length≤t.length:=by
 rcases h with⟨_,rfl,_⟩|⟨_,_,rfl,rfl⟩
 ·simp;omega
 ·simp
theorem lY(s:ByteArray)(w:World)(hs:s.size≤1048576):
  Calls Tryz.prog 66 #[.string s] w (Kw s.data.toList w):=by
 have aK:s.data.toList.length=s.size:=rfl;have J:=a8 (yl.start w);go_enter Tryz.func66,Tryz.ntmps66;by_cases h1:100<s.size
 ·have hi:(100:Int)<(s.size:Int):=(by omega);go_wp2;exact bodyPost_ret (ep w.heap.size _ false 0 0 0 rfl rfl J.out.r2) rfl ⟨false,0,0,0,rfl,BV (by omega),J.out.bel⟩
 ·have hi:¬(100:Int)<(s.size:Int):=(by omega);by_cases h4:s.size<4
  ·have aF:(s.size:Int)<4:=(by omega);go_wp2;exact bodyPost_ret (ep w.heap.size _ false 0 0 0 rfl rfl J.out.r2) rfl ⟨false,0,0,0,rfl,BV (by omega),J.out.bel⟩
  ·have aF:¬(s.size:Int)<4:=(by omega);by_cases hc:s.data.toList.take 4=[99,117,114,47]
   ·have aE:((s.extract 0 4).toList==[99,117,114,47])=true:=(by rw[oP,hc];rfl);go_wp2_with fail;have L1:=a8 (yP s 4);have z1:(s.extract 4 s.size).size≤1048576:=(by rw[←j9,L1.out,MU];omega);generalize s.extract 4 s.size=s4 at L1 z1⊢;generalize (w.alloc (.cells #[.bool false,.int .u32 0,.int .i64 0,.int .u32 0] 129)).alloc (.cells #[.bool false,.int .u32 0,.int .i64 0,.int .u32 0] 129)=W0 at J⊢;refine(pU s4 58 W0 z1).mono ?_;rintro e W1 ⟨x,y,ok,rfl,hcut,n,ao⟩;rw[L1.out] at hcut;have V:=J.out.below (W':=W1) (by rw[ao];exact below_drewN (MJ _ _) n);obtain⟨p0,p1,p2,p3⟩:=oJ V.r2;obtain⟨q0,q1,q2,q3⟩:=oJ V.r3;have fz:=fun j=>frozen_of_row W1 w.heap.size j _ _ V.r2;have M:=uS hcut;have zx:x.size≤1048576:=(by rw[←j9];have:=M.1;rw[MU] at this;omega);have zy:y.size≤1048576:=(by rw[←j9];have:=M.2;rw[MU] at this;omega);clear M;have U:=a8 hcut;have L:=a8 V;clear hcut V ao J L1;cases ok with
    |false=>
     go_wp2;exact bodyPost_ret (ep w.heap.size _ false 0 0 0 rfl rfl (fB L.out.r2 _ _ _ _)) rfl ⟨false,0,0,0,rfl,BU U.out (Or.inl rfl),L.out.back _ _ _ _⟩
    |true=>
     by_cases aH:y.size<2
     ·have aC:(y.size:Int)<2:=(by omega);go_wp2;exact bodyPost_ret (ep w.heap.size _ false 0 0 0 rfl rfl (fB L.out.r2 _ _ _ _)) rfl ⟨false,0,0,0,rfl,BU U.out (Or.inr (Or.inl aH)),L.out.back _ _ _ _⟩
     ·have aC:¬(y.size:Int)<2:=(by omega);by_cases hp:y.data.toList.take 2=[50,44]
      ·have aG:((y.extract 0 2).toList==[50,44])=true:=(by rw[oP,hp];rfl);clear p0 p1 p2 p3 q0 q1 q2 q3 fz;go_wp2_with fail;refine(pU x 46 W1 zx).mono ?_;rintro e W2 ⟨x2,y2,ab,rfl,ac,n,ap⟩;have aj:=a8 (L.out.below (W':=W2) (by rw[ap];exact below_drewN (MJ _ _) n));have M:=uS ac;have aI:x2.size≤1048576:=MN M.1 zx;have aJ:y2.size≤1048576:=MN M.2 zx;have HD:=a8 ac;clear ap M ac L;go_wp2_with fail;refine(lO x2 W2 aI).mono ?_;rintro e W3 ⟨A,k1,rfl,av,aq⟩;have ah:=a8 av;have ak:=a8 (aj.out.below aq);clear aj av aq;go_wp2_with fail;refine(lO y2 W3 aJ).mono ?_;rintro e W4 ⟨G,k2,rfl,aw,ar⟩;have ai:=a8 aw;have al:=a8 (ak.out.below ar);clear ak aw ar;go_wp2_with fail;have L2:=a8 (yP y 2);have aA:(y.extract 2 y.size).size≤1048576:=(by rw[←j9,L2.out,MU,j9];omega);generalize y.extract 2 y.size=y3 at L2 aA⊢;refine(nJ y3 W4 aA).mono ?_;rintro e K ⟨I,f,rfl,ad,au⟩;have am:=al.out.below au;have Y:=am.below ((MJ _ _).alloc (MH _) (.cells #[.bool I,.int .u32 (f:Int)] 183));have ag:jU ((y.data.toList.drop 2).map UInt8.toNat) I f:=(by rw[←L2.out];exact ad);have N:=a8 (CZ.mk U.out HD.out ah.out ai.out ag);have aB:f<4294967296:=by
        rcases ad with⟨_,is,hg,_,rfl⟩|⟨_,rfl,_⟩
        ·exact sR hg
        ·decide
       have af:=heap_alloc_new K (.cells #[.bool I,.int .u32 (f:Int)] 183);have e0:(K.alloc (.cells #[.bool I,.int .u32 (f:Int)] 183)).cell? ⟨K.heap.size,0,none⟩=some (.bool I):=(by rw[cell_of_row _ _ _ _ _ _ af];rfl);have e1:(K.alloc (.cells #[.bool I,.int .u32 (f:Int)] 183)).cell? ⟨K.heap.size,1,none⟩=some (.int .u32 (f:Int)):=(by rw[cell_of_row _ _ _ _ _ _ af];rfl);obtain⟨p0,p1,p2,p3⟩:=oJ Y.r2;obtain⟨q0,q1,q2,q3⟩:=oJ Y.r3;have fz:=fun j=>frozen_of_row _ w.heap.size j _ _ Y.r2;have E:=a8 Y;clear au al am ad ag U HD ah ai L2 Y af;by_cases hg:ab=true∧k1=true∧k2=true∧I=true∧1≤A∧A≤4294967295
       ·obtain⟨rfl,rfl,rfl,rfl,g1,g2⟩:=hg;have an:¬(A:Int)<1:=(by omega);have aD:¬(4294967295:Int)<(A:Int):=(by omega);clear p0 p1 p2 p3 q0 q1 q2 q3 fz;go_wp2_with fail;have ay:(K.alloc (.cells #[.bool true,.int .u32 (f:Int)] 183)).heap.size=K.heap.size+1:=(by simp);have R:=heap_alloc_new (K.alloc (.cells #[.bool true,.int .u32 (f:Int)] 183)) (.cells #[.bool true,.int .u32 (A:Int),.int .i64 (G:Int),.int .u32 (f:Int)] 129);rw[ay] at R;have T7:=E.out.below ((MJ _ _).alloc (MH _) (.cells #[.bool true,.int .u32 (A:Int),.int .i64 (G:Int),.int .u32 (f:Int)] 129));clear e0 e1 E ay;generalize (K.alloc (.cells #[.bool true,.int .u32 (f:Int)] 183)).alloc (.cells #[.bool true,.int .u32 (A:Int),.int .i64 (G:Int),.int .u32 (f:Int)] 129)=W7 at R T7⊢;refine(xT A (G:Int) f W7 (by omega) aB).mono ?_;rintro e W8 ⟨rfl,ae⟩;have Z:=T7.below ae;have az:=(ae.block _ (lt_of_block R)).trans R;obtain⟨p0,p1,p2,p3⟩:=oJ Z.r2;obtain⟨q0,q1,q2,q3⟩:=oJ Z.r3;obtain⟨o0,o1,o2,o3⟩:=oJ az;have fz:=fun j=>frozen_of_row _ w.heap.size j _ _ Z.r2;have aa:=a8 Z;have hq:((jq A (G:Int) f).toList==s.toList)=decide ((jq A (G:Int) f).data.toList=s.data.toList):=(by rw[ByteArray.toList_eq,ByteArray.toList_eq,FN]);clear T7 Z R az ae;by_cases Q:(jq A (G:Int) f).data.toList=s.data.toList
        ·have HY:=a8 (DW N.out g1 g2 (by omega) Q);rw[decide_eq_true Q] at hq;clear Q N;generalize jq A (G:Int) f=z at hq⊢;go_wp2;exact bodyPost_ret (ep w.heap.size _ true A G f rfl rfl (fB aa.out.r2 _ _ _ _)) rfl ⟨true,A,G,f,rfl,HY.out,aa.out.back _ _ _ _⟩
        ·have HY:=a8 (yx N.out (Or.inr (Or.inr (Or.inr (Or.inr (Or.inr (Or.inr Q)))))));rw[decide_eq_false Q] at hq;clear Q N;generalize jq A (G:Int) f=z at hq⊢;go_wp2;exact bodyPost_ret (ep w.heap.size _ false 0 0 0 rfl rfl (fB aa.out.r2 _ _ _ _)) rfl ⟨false,0,0,0,rfl,HY.out,aa.out.back _ _ _ _⟩
       ·have ax:ab=false∨k1=false∨k2=false∨I=false∨A<1∨4294967295<A:=by
         cases ab<;>cases k1<;>cases k2<;>cases I<;>simp at hg⊢<;>omega
        have O:=a8 (yx N.out (by
         rcases ax with h|h|h|h|h|h
         ·exact Or.inl h
         ·exact Or.inr (Or.inl h)
         ·exact Or.inr (Or.inr (Or.inl h))
         ·exact Or.inr (Or.inr (Or.inr (Or.inl h)))
         ·exact Or.inr (Or.inr (Or.inr (Or.inr (Or.inl h))))
         ·exact Or.inr (Or.inr (Or.inr (Or.inr (Or.inr (Or.inl h)))))))
        clear ax N;cases ab with
        |false=>
         go_wp2;exact bodyPost_ret (ep w.heap.size _ false 0 0 0 rfl rfl (fB E.out.r2 _ _ _ _)) rfl ⟨false,0,0,0,rfl,O.out,E.out.back _ _ _ _⟩
        |true=>
         cases k1 with
         |false=>
          go_wp2;exact bodyPost_ret (ep w.heap.size _ false 0 0 0 rfl rfl (fB E.out.r2 _ _ _ _)) rfl ⟨false,0,0,0,rfl,O.out,E.out.back _ _ _ _⟩
         |true=>
          cases k2 with
          |false=>
           go_wp2;exact bodyPost_ret (ep w.heap.size _ false 0 0 0 rfl rfl (fB E.out.r2 _ _ _ _)) rfl ⟨false,0,0,0,rfl,O.out,E.out.back _ _ _ _⟩
          |true=>
           cases I with
           |false=>
            go_wp2;exact bodyPost_ret (ep w.heap.size _ false 0 0 0 rfl rfl (fB E.out.r2 _ _ _ _)) rfl ⟨false,0,0,0,rfl,O.out,E.out.back _ _ _ _⟩
           |true=>
            by_cases g1:A<1
            ·have an:(A:Int)<1:=(by omega);go_wp2;exact bodyPost_ret (ep w.heap.size _ false 0 0 0 rfl rfl (fB E.out.r2 _ _ _ _)) rfl ⟨false,0,0,0,rfl,O.out,E.out.back _ _ _ _⟩
            ·have an:¬(A:Int)<1:=(by omega);have aD:(4294967295:Int)<(A:Int):=(by simp at hg;omega);go_wp2;exact bodyPost_ret (ep w.heap.size _ false 0 0 0 rfl rfl (fB E.out.r2 _ _ _ _)) rfl ⟨false,0,0,0,rfl,O.out,E.out.back _ _ _ _⟩
      ·have aG:((y.extract 0 2).toList==[50,44])=false:=(by rw[oP];exact beq_eq_false_iff_ne.2 hp);go_wp2;exact bodyPost_ret (ep w.heap.size _ false 0 0 0 rfl rfl (fB L.out.r2 _ _ _ _)) rfl ⟨false,0,0,0,rfl,BU U.out (Or.inr (Or.inr hp)),L.out.back _ _ _ _⟩
   ·have aE:((s.extract 0 4).toList==[99,117,114,47])=false:=(by rw[oP];exact beq_eq_false_iff_ne.2 hc);go_wp2;exact bodyPost_ret (ep w.heap.size _ false 0 0 0 rfl rfl J.out.r2) rfl ⟨false,0,0,0,rfl,BV (Or.inr (Or.inr hc)),J.out.bel⟩
theorem IN{r:Nat}(h:fZ w g 31)(z:r<31):w.cell? ⟨g,r*2,none⟩=some (.int .i32 (eW r:Int))∧w.cell? ⟨g,r*2+1,none⟩=some (.int .u64 (gO r:Int)):=by
 have A:=pt (gu 31) r (by rw[fk];exact z);have E:=pu (gu 31) r (by rw[fk];exact z);have G:(gu 31)[r]'(by rw[fk];exact z)=xI r:=(by simp[gu,z]);rw[G] at A E;rw[cell_of_row w g _ _ _ _ h,cell_of_row w g _ _ _ _ h];simp only[jS,List.getElem?_toArray];exact⟨A,E⟩
theorem Hw(is:List Nat)(r:Nat):orB (is++[r])=orB is|||2^gO r:=by unfold orB;rw[List.foldl_append];rfl
def qj(s:ByteArray)(pos r:Nat)(is:List Nat):Prop:=pos≤s.size∧r≤31∧lk is∧(∀i∈is,i<r)∧(fe s).take pos=is.map eW∧∀js,lk js→js.map eW=fe s→js.take pos=is∧∀h:pos<js.length,r≤js[pos]
theorem Bj(s:ByteArray):qj s 0 0 []:=⟨MQ _,by omega,⟨List.Pairwise.nil,fun i h=>nomatch h⟩,fun i h=>(nomatch h),rfl,fun z _ _=>⟨rfl,fun _=>MQ _⟩⟩
theorem rm{A:List Nat}(h:A.map eW=fe s)(E:z<s.size):∃G:z<A.length,eW A[z]=(s[z]'E).toNat:=by
 have I:A.length=s.size:=(by rw[←ji,←h,MI]);refine⟨by omega,?_⟩;have e:(A.map eW)[z]'(by rw[MI];omega)=(fe s)[z]'(by rw[ji];exact E):=(by simp only[h]);rw[MY,pH s z E] at e;exact e
theorem pJ{r G:Nat}{A:List Nat}{X:Int}(L:qj s z r is)(I:z<s.size)(O:X=((s[z]'I).toNat:Int))(J:∀j,r≤j→j<G→(eW j:Int)<X)(M:lk A)(h:A.map eW=fe s)(N:z<A.length):G≤A[z]:=by
 obtain⟨_,e⟩:=rm h I;have K:=(L.2.2.2.2.2 A M h).2 N;rcases NB A[z] G with E|E
 ·have:=J _ K E;omega
 ·exact E
theorem DZ{r:Nat}{X:Int}(O:qj s z r is)(E:z<s.size)(hX:X=((s[z]'E).toNat:Int))(hr:r≤A)(Y:A<31)(R:∀j,r≤j→j<A→(eW j:Int)<X)(he:(eW A:Int)=X):qj s (z+1) (A+1) (is++[A]):=by
 have U:=O;obtain⟨h1,h2,L,M,Z,h6⟩:=O;refine⟨by omega,by omega,⟨?_,?_⟩,?_,?_,?_⟩
 ·rw[List.pairwise_append];exact⟨L.1,List.pairwise_singleton _ _,fun a ha b N=>by simp at N;subst N;have:=M a ha;omega⟩
 ·intro i J;rcases Nb.1 J with h|h
  ·exact L.2 i h
  ·simp at h;omega
 ·intro i J;rcases Nb.1 J with h|h
  ·have:=M i h;omega
  ·simp at h;omega
 ·rw[MP (by rw[ji];exact E),Z,pH s z E,MS];simp;omega
 ·intro K G h;obtain⟨I,e⟩:=rm h E;have aa:=pJ U E hX R G h I;have Q:K[z]<31:=G.2 _ (MO I);have V:K[z]=A:=yQ Q Y (by omega);refine⟨by rw[MP I,(h6 K G h).1,V],fun hn=> ?_⟩;have:=M8.1 G.1 z (z+1) I hn (by omega);omega
theorem tP{r:Nat}{X:Int}(L:qj s z r is)(E:z<s.size)(A:X=((s[z]'E).toNat:Int)∨128≤(s[z]'E).toNat)(K:∀j,r≤j→j<31→(eW j:Int)<X):jU (fe s) false 0:=by
 refine .inr ⟨rfl,rfl,fun⟨M,G,h⟩=> ?_⟩;obtain⟨I,e⟩:=rm h.symm E;have J:M[z]<31:=G.2 _ (MO I);rcases A with A|A
 ·have:=pJ L E A K G h.symm I;omega
 ·have:=nh _ J;omega
theorem wC{r:Nat}{X:Int}(Q:qj s z r is)(G:z<s.size)(E:X=((s[z]'G).toNat:Int)∨128≤(s[z]'G).toNat)(N:A<31)(M:∀j,r≤j→j<A→(eW j:Int)<X)(V:¬(eW A:Int)<X)(U:¬(eW A:Int)=X):jU (fe s) false 0:=by
 refine .inr ⟨rfl,rfl,fun⟨L,J,h⟩=> ?_⟩;obtain⟨K,e⟩:=rm h.symm G;have I:L[z]<31:=J.2 _ (MO K);rcases E with E|E
 ·have R:=pJ Q G E M J h.symm K;have O:eW L[z]<eW A:=(by omega);have:=(pO _ I _ N).2 O;omega
 ·have:=nh _ I;omega
theorem FU{r:Nat}(z:qj s s.size r is):jU (fe s) true (orB is):=by
 refine .inl ⟨rfl,is,z.2.2.1,?_,rfl⟩;have:=z.2.2.2.2.1;rwa[MX (by rw[ji];exact MH _)] at this
theorem Dy(A z:Nat)(h:z<31):∃E:Nat,Value.slice (if 31-z=1 then some (⟨A,z*2,none⟩:Addr) else some ⟨A,z*2+2,none⟩) (31-z-1) (31-z-1)= .slice (some ⟨A,E,none⟩) (31-(z+1)) (31-(z+1))∧(z+1<31→E=(z+1)*2):=by
 by_cases e:31-z=1
 ·rw[if_pos e];exact⟨z*2,by rw[show 31-z-1=31-(z+1) from by omega],fun h=>by omega⟩
 ·rw[if_neg e];exact⟨z*2+2,by rw[show 31-z-1=31-(z+1) from by omega],fun h=>by omega⟩
theorem pG{u v:Value}(h:W.heap[B]? =some (.cells #[u,v] 183 (0,0)))(b:Bool)(y:Int):((W.setCell ⟨B,0,none⟩ (.bool b)).setCell ⟨B,1,none⟩ (.int .u32 y)).heap[B]? =some (.cells #[.bool b,.int .u32 y] 183 (0,0)):=by
 rw[setCell_eq_setRow W _ 0 _ _ _ _ h,setCell_eq_setRow _ _ 1 _ _ _ _ (setRow_heap W _ _ _ _ _ h),setRow_setRow,setRow_heap W _ _ _ _ _ h];rfl
def Mb:Value→Nat
 | .slice _ n _=>n
 |_=>0
def I7(s:ByteArray)(w:World)(e:Ending)(w':World):Prop:=∃(ok:Bool) (f:Nat),e= .returned (.agg #[.bool ok,.int .u32 (f:Int)])∧jU (fe s) ok f∧Below w.heap.size w w'
theorem nH(s:ByteArray)(w:World):
  Calls Tryz.prog 176 #[.string s] w (I7 s w):=by
 have E:=heap_alloc_new w (.cells #[.bool false,.int .u32 0] 183);have ak:=nAl w (.cells #[.bool false,.int .u32 0] 183);go_enter Tryz.func176,Tryz.ntmps176;go_wp2_with fail;generalize w.alloc (.cells #[.bool false,.int .u32 0] 183)=w0 at E ak⊢;refine(nQ w0).mono ?_;rintro e w1 ⟨rfl,ab⟩;have az:w.heap.size<w0.heap.size:=lt_of_block E;have ax:=(ab.block _ az).trans E;have av:=ak.trans (ab.mono (Nat.le_of_lt az));have aN:=ab.size;clear E ak;go_wp2_with (first
  |(refine jA _ rfl rfl ?_;intro w2 V K)
  |(refine jB _ w1.heap.size 0 31 rfl _ _ rfl rfl rfl V ?_;intro I ao am))
 have ay:I.heap[w.heap.size]? =some (.cells #[.bool false,.int .u32 0] 183 (0,0)):=(am.block _ (by have:=K.size;omega) (by simp;omega)).trans ((K.block _ (by omega)).trans ax);have aw:Below w.heap.size w I:=(av.trans (K.mono (by omega))).grown am (by have:=K.size;omega) (fun k h=>by cases h;omega);have aD:w1.heap.size<I.heap.size:=lt_of_block ao;have ae:(I.iter s 0).heap[I.heap.size]? =some (.stringIter s 0):=World.iter_heap I s 0;have ac:Below I.heap.size I (I.iter s 0):=by
  have:=nAl I (.stringIter s 0);exact this
 have af:=ao.below ac;have ah:=(ac.block _ (by omega)).trans ay;have ag:=aw.trans (ac.mono (by omega));generalize aT:I.heap.size=G at ae aD⊢;generalize aS:w1.heap.size=O at af aD aN⊢;have aQ:w.heap.size<O:=(by omega);generalize I.iter s 0=w4 at ae af ah ag⊢;clear V K am ao ay aw ac ax av ab;generalize jS 31=TV;go_loopw [4,5,7] (fun v f _ wr=>∃(z r a:Nat) (is:List Nat),v= .slice (some ⟨O,a,none⟩) (31-r) (31-r)∧(r<31→a=r*2)∧f= .int .u32 ((orB is:Nat):Int)∧qj s z r is∧wr.heap[G]? =some (.stringIter s z)∧fZ wr O 31∧wr.heap[w.heap.size]? =some (.cells #[.bool false,.int .u32 0] 183 (0,0))∧Below w.heap.size w wr) (fun _ _ _ wr=>s.size-wr.iterPos G)
 case atStart=>exact⟨0,0,0,[],rfl,fun _=>rfl,rfl,Bj s,ae,af,ah,ag⟩
 case round=>
  obtain⟨z,r,a,is,rfl,ha,rfl,U,hi,ht,Q,hw⟩:=hrel;clear ae af ah ag;by_cases J:z<s.size
  ·have an:∀R,(Instr.next (.pointer (some ⟨G,0,none⟩)) true R).run Tryz.prog wr=_:=fun R=>Lib.run_next_any_at wr G s z R hi J;have hX:(((Utf8.decode s z).1:Int)=((s[z]'J).toNat:Int)∧(Utf8.decode s z).2=1)∨(128≤(s[z]'J).toNat∧(128:Int)≤((Utf8.decode s z).1:Int)):=by
    by_cases aE:(s[z]'J).toNat<128
    ·rw[decode_ascii s z J aE];exact .inl ⟨rfl,rfl⟩
    ·have:=decode_high s z J (by omega);exact .inr ⟨by omega,by omega⟩
   have aF:=decode_le s z;have ad:=Lib.iterAt_heap wr G s z (z+(Utf8.decode s z).2) hi;have V:fZ (wr.iterAt G s (z+(Utf8.decode s z).2)) O 31:=(Lib.iterAt_other wr G O s _ (by omega)).trans ht;have K:=(Lib.iterAt_other wr G w.heap.size s (z+(Utf8.decode s z).2) (by omega)).trans Q;have ap:=Lib.below_iterAt hw (k:=G) (by omega) s (z+(Utf8.decode s z).2);have HM:Hid (wr.iterPos G=z):=(by show _=_;simp only[World.iterPos,hi]);generalize wr.iterAt G s (z+(Utf8.decode s z).2)=L at an ad V K ap;generalize (Utf8.decode s z).2=wd at hX ad;generalize (Utf8.decode s z).1=X at hX an aF;have N:=a8 (And.intro ad (And.intro K ap));have Z:=a8 U;have HT:=a8 V;clear hi ht Q hw ad K ap U;go_wp2;have aH:=Z.out.2.1;go_loop [4] (fun v=>∃A a':Nat,v= .slice (some ⟨O,a',none⟩) (31-A) (31-A)∧r≤A∧A≤31∧(A<31→a'=A*2)∧∀j,r≤j→j<A→(eW j:Int)<(X:Int)) (fun v=>Mb v)
   case atStart=>exact⟨r,a,rfl,MH _,aH,ha,fun j h1 h2=>by omega⟩
   case round=>
    obtain⟨A,a',rfl,aM,aU,aJ,aa⟩:=hrel;by_cases M:A<31
    ·obtain⟨aR,aK⟩:=IN HT.out M;have ea:=aJ M;subst ea;have aP:(0:Int)<((31-A:Nat):Int):=(by omega);have ai:=a8 aa;clear aa;by_cases aB:(eW A:Int)<(X:Int)
     ·have aL:(1:Int)≤((31-A:Nat):Int):=(by omega);clear aK;obtain⟨a2,e2,h2⟩:=Dy O A M;have HE:=a8 e2;clear e2;go_wp2;go_round
      case rel=>exact⟨A+1,a2,HE.out,by omega,by omega,h2,fun j h3 h4=>by
       by_cases e:j=A
       ·subst e;exact aB
       ·exact ai.out j h3 (by omega)⟩
      case measure=>rw[HE.out];simp only[Mb];omega
     ·have E:=N.out.2.1;have c0:L.cell? ⟨w.heap.size,0,none⟩=some (.bool false):=(by rw[cell_of_row _ _ _ _ _ _ E];rfl);have c1:L.cell? ⟨w.heap.size,1,none⟩=some (.int .u32 0):=(by rw[cell_of_row _ _ _ _ _ _ E];rfl);have f0:L.frozen? ⟨w.heap.size,0,none⟩=false:=(by simp[World.frozen?,E]);have f1:L.frozen? ⟨w.heap.size,1,none⟩=false:=(by simp[World.frozen?,E]);have aO:(((31-A:Nat):Int)==0)=false:=(by simp;omega);clear E;by_cases al:(eW A:Int)=(X:Int)
      ·have aG:((eW A:Int)==(X:Int))=true:=(by simp[al]);have au:=wL A M;have aj:(X:Int)=((s[z]'J).toNat:Int)∧wd=1:=by
        rcases hX with h|h
        ·exact h
        ·have:=nh A M;omega
       have aq:=DZ Z.out J aj.1 aM M ai.out al;have hg:=Z.out.2.2.1;have aA:=sR hg;have aC:=Hx (orB is) (2^gO A) aA (lC au);rw[←Hw] at aC;have aL:(1:Int)≤((31-A:Nat):Int):=(by omega);obtain⟨a2,e2,h2⟩:=Dy O A M;have HE:=a8 e2;have aI:=a8 aq;clear e2 aq;go_wp2_with fail;refine(zJ (gO A) L au).mono ?_;rintro e w6 ⟨rfl,rfl⟩;generalize ((2^gO A:Nat):Int)=mk at aC⊢;go_wp2;go_roundw
       case rel=>
        obtain⟨q1,q2,q3⟩:=N.out;refine⟨z+1,A+1,a2,is++[A],HE.out,h2,rfl,aI.out,?_,HT.out,q2,q3⟩;rw[aj.2] at q1;exact q1
       case measure=>
        rw[HM.out];have q1:=N.out.1;rw[aj.2] at q1;simp only[World.iterPos,q1];omega
      ·have aG:((eW A:Int)==(X:Int))=false:=(by simp;omega);have ar:=wC Z.out J (hX.imp And.left And.left) M ai.out aB al;have Y:=a8 ar;clear ar;go_wp2;exact bodyPost_ret (kh w.heap.size _ false 0 rfl rfl (pG N.out.2.1 _ _)) rfl ⟨false,0,rfl,Y.out,(N.out.2.2.setCell (p:=⟨w.heap.size,0,none⟩) (MH _) _).setCell (p:=⟨w.heap.size,1,none⟩) (MH _) _⟩
    ·obtain rfl:A=31:=(by omega);have E:=N.out.2.1;have c0:L.cell? ⟨w.heap.size,0,none⟩=some (.bool false):=(by rw[cell_of_row _ _ _ _ _ _ E];rfl);have c1:L.cell? ⟨w.heap.size,1,none⟩=some (.int .u32 0):=(by rw[cell_of_row _ _ _ _ _ _ E];rfl);have f0:L.frozen? ⟨w.heap.size,0,none⟩=false:=(by simp[World.frozen?,E]);have f1:L.frozen? ⟨w.heap.size,1,none⟩=false:=(by simp[World.frozen?,E]);have Y:=a8 (tP Z.out J (hX.imp And.left And.left) aa);clear aa E;go_wp2;exact bodyPost_ret (kh w.heap.size _ false 0 rfl rfl (pG N.out.2.1 _ _)) rfl ⟨false,0,rfl,Y.out,(N.out.2.2.setCell (p:=⟨w.heap.size,0,none⟩) (MH _) _).setCell (p:=⟨w.heap.size,1,none⟩) (MH _) _⟩
  ·have an:∀R,(Instr.next (.pointer (some ⟨G,0,none⟩)) true R).run Tryz.prog wr=_:=fun R=>Lib.run_next_end_at wr G s z R hi J;obtain rfl:z=s.size:=(by have:=U.1;omega);have Y:=a8 (FU U);have aA:=sR U.2.2.1;have c0:wr.cell? ⟨w.heap.size,0,none⟩=some (.bool false):=(by rw[cell_of_row _ _ _ _ _ _ Q];rfl);have c1:wr.cell? ⟨w.heap.size,1,none⟩=some (.int .u32 0):=(by rw[cell_of_row _ _ _ _ _ _ Q];rfl);have f0:wr.frozen? ⟨w.heap.size,0,none⟩=false:=(by simp[World.frozen?,Q]);have f1:wr.frozen? ⟨w.heap.size,1,none⟩=false:=(by simp[World.frozen?,Q]);have HB:=a8 (And.intro Q hw);clear Q hw U ht;go_wp2;exact bodyPost_ret (kh w.heap.size _ true ((orB is:Nat):Int) rfl rfl (pG HB.out.1 _ _)) rfl ⟨true,orB is,rfl,Y.out,(HB.out.2.setCell (p:=⟨w.heap.size,0,none⟩) (MH _) _).setCell (p:=⟨w.heap.size,1,none⟩) (MH _) _⟩
theorem vT{w w':World}{z:String}{cs:Array Value}(h:w.var? Tryz.prog z=some cs)(G:Below w.heap.size w w'):w'.var? Tryz.prog z=some cs:=by
 unfold World.var? at*;cases hg:Tryz.prog.globalNamed z with
 |none=>simp[hg] at h
 |some g=>
  simp only[hg,Option.bind_some] at h⊢;have E:g<w.heap.size:=by
   rcases NB g w.heap.size with A|A
   ·exact A
   ·rw[Array.getElem?_eq_none A] at h;simp at h
  rw[G.block g E];exact h
structure Env(w:World):Prop where
 max:∃m,w.cell? ⟨6,0,none⟩=some (.int .i64 m)
 syn:∃tp p,w.var? Tryz.prog "strconv.ErrSyntax" =some #[.iface tp p]
 rng:∃tp p,w.var? Tryz.prog "strconv.ErrRange" =some #[.iface tp p]
theorem Env.below(h:Env w)(z:Below w.heap.size w w'):Env w':=by
 obtain⟨⟨m,A⟩,⟨K,I,E⟩,⟨L,J,G⟩⟩:=h;exact⟨⟨m,(z.cell (p:=⟨6,0,none⟩) (dH A)).trans A⟩,⟨K,I,vT E z⟩,⟨L,J,vT G z⟩⟩
theorem F7{m:Nat}(h:(Lib.decDigits m).head? =some 48):m=0:=by
 induction m using Nat.strongRecOn with
 |_ m ih=>
  by_cases z:m<10
  ·rw[Lib.decDigits_one z] at h;simp only[List.head?_cons,MK] at h;have:=rQ m z;rw[h] at this;have E:(48:UInt8).toNat=48:=rfl;omega
  ·rw[Lib.decDigits,dif_neg z] at h;have A:(Lib.decDigits (m/10)).head? =some 48:=by
    cases e:Lib.decDigits (m/10) with
    |nil=>exact absurd e (F8 _)
    |cons x r=>rw[e] at h;simpa using h
   have:=ih (m/10) (by omega) A;omega
def tL(t:List UInt8)(lo hi n:Nat)(ok:Bool):Prop:=(ok=true∧t=Lib.decDigits n∧lo≤n∧n≤hi)∨(ok=false∧n=0∧∀m,lo≤m→m≤hi→t≠Lib.decDigits m)
def KN(s:ByteArray)(lo hi:Nat)(w:World)(e:Ending)(w':World):Prop:=∃(n:Nat) (ok:Bool),e= .returned (.tuple #[.int .u64 (n:Int),.bool ok])∧tL s.data.toList lo hi n ok∧Below w.heap.size w w'
theorem Ie{t:List UInt8}(A:z<18446744073709551616)(h:∀m,Lib.parseUintB 64 t≠.ok m):tL t lo z 0 false:=Or.inr ⟨rfl,rfl,fun m _ E e=>h m (by rw[e];exact vI m (by omega))⟩
theorem B9{t:List UInt8}(G:A<18446744073709551616)(h:Lib.parseUintB 64 t= .ok n)(z:n<lo∨A<n∨(t.head? =some 48∧t≠[48])):tL t lo A 0 false:=Or.inr ⟨rfl,rfl,fun m I J e=>by
 rw[e,vI m (by omega)] at h;injection h with h;rcases z with z|z|⟨z,E⟩
 ·omega
 ·omega
 ·have:=F7 (e▸z);rw[this,Lib.decDigits_one (by omega)] at e;exact E e⟩
theorem zY{t:List UInt8}(h:Lib.parseUintB 64 t= .ok n):t≠[]:=by
 rintro rfl;unfold Lib.parseUintB at h;rw[if_pos rfl] at h;cases h
theorem KA{t:List UInt8}(h:Lib.parseUintB 64 t= .ok n)(E:lo≤n)(G:n≤A)(I:t.head? =some 48→t=[48]):tL t lo A n true:=by
 have z:=zY h;unfold Lib.parseUintB at h;rw[if_neg z] at h;obtain⟨J,K⟩:=zZ t 0 n h;exact Or.inl ⟨rfl,by rw[K];exact(yE t.length t (MH _) J z I).symm,E,G⟩
theorem jR(s:ByteArray)(lo E:Nat)(w:World)(L:Env w)(hs:s.size≤1048576)(G:E<18446744073709551616):
  Calls Tryz.prog 175 #[.string s,.int .u64 (lo:Int),.int .u64 (E:Int)] w (KN s lo E w):=by
 go_enter Tryz.func175,Tryz.ntmps175;go_wp2_with fail;cases hpar:Lib.parseUintB 64 s.data.toList with
 |«syntax»=>
  obtain⟨O,p,M⟩:=L.syn;refine(Tryz.strconv_ParseUint_10_at64_syntax_var s (by omega) hpar O p w M).mono ?_;rintro e Q ⟨N,rfl,_,_,A⟩;have z:=a8 (Ie (lo:=lo) G (t:=s.data.toList) (fun m h=>by rw[hpar] at h;cases h));go_wp2;go_ret2;exact⟨0,false,rfl,z.out,A⟩
 |range=>
  obtain⟨O,p,M⟩:=L.rng;refine(Tryz.strconv_ParseUint_10_at64_range_var s (by omega) hpar O p w M).mono ?_;rintro e Q ⟨N,rfl,_,_,A⟩;have z:=a8 (Ie (lo:=lo) G (t:=s.data.toList) (fun m h=>by rw[hpar] at h;cases h));go_wp2;go_ret2;exact⟨0,false,rfl,z.out,A⟩
 |ok n=>
  refine(Tryz.strconv_ParseUint_10_at64_ok s (by omega) n hpar w).mono ?_;rintro e Q ⟨rfl,U⟩;have A:Below w.heap.size w Q:=by
   rcases U with rfl|rfl
   ·exact MJ _ _
   ·exact Lib.bytesWorld_below w 5 s
  have I:=a8 hpar;have h0:0<s.size:=by
   rcases Nat.eq_zero_or_pos s.size with h|h
   ·exact absurd (Nt h) (zY hpar)
   ·exact h
  clear U hpar L;by_cases h1:n<lo
  ·have V:(n:Int)<(lo:Int):=(by omega);have z:=a8 (B9 (lo:=lo) G I.out (Or.inl h1));go_wp2;go_ret2;exact⟨0,false,rfl,z.out,A⟩
  ·have V:¬(n:Int)<(lo:Int):=(by omega);by_cases h2:E<n
   ·have Y:(E:Int)<(n:Int):=(by omega);have z:=a8 (B9 (lo:=lo) G I.out (Or.inr (Or.inl h2)));go_wp2;go_ret2;exact⟨0,false,rfl,z.out,A⟩
   ·have Y:¬(E:Int)<(n:Int):=(by omega);have R:s.data.toList.head? =some s[0]:=by
     rw[List.head?_eq_getElem?,MM (h:=h0)];rfl
    by_cases J:s[0]=48
    ·have Z:((s[0].toNat:Int)==48)=true:=(by rw[J];rfl);by_cases K:s.data.toList=[48]
     ·have aa:(s.toList==[48])=true:=(by rw[ByteArray.toList_eq,K];rfl);have z:=a8 (KA I.out (by omega:lo≤n) (by omega:n≤E) (fun _=>K));go_wp2;go_ret2;exact⟨n,true,rfl,z.out,A⟩
     ·have aa:(s.toList==[48])=false:=(by rw[ByteArray.toList_eq];exact beq_eq_false_iff_ne.2 K);have z:=a8 (B9 (lo:=lo) G I.out (Or.inr (Or.inr ⟨by rw[R,J],K⟩)));go_wp2;go_ret2;exact⟨0,false,rfl,z.out,A⟩
    ·have Z:((s[0].toNat:Int)==48)=false:=by
      have:s[0].toNat≠(48:UInt8).toNat:=fun e=>J (UInt8.toNat_inj.1 e);have ab:(48:UInt8).toNat=48:=rfl;simp;omega
     have z:=a8 (KA I.out (by omega:lo≤n) (by omega:n≤E) (fun e=>absurd (Nv (R.symm.trans e)) J));go_wp2;go_ret2;exact⟨n,true,rfl,z.out,A⟩
theorem J7{t:List UInt8}(h:Lib.hasPrefix t [99,117,114,47]=true):t=[99,117,114,47]++Lib.trimPrefix t [99,117,114,47]:=by
 unfold Lib.trimPrefix;rw[if_pos h];unfold Lib.hasPrefix at h;obtain⟨r,z⟩:=List.isPrefixOf_iff_prefix.1 h;rw[←z];simp
theorem Ic(r:List UInt8):Lib.hasPrefix ([99,117,114,47]++r) [99,117,114,47]=true∧Lib.trimPrefix ([99,117,114,47]++r) [99,117,114,47]=r:=by
 have h:Lib.hasPrefix ([99,117,114,47]++r) [99,117,114,47]=true:=by
  unfold Lib.hasPrefix;exact List.isPrefixOf_iff_prefix.2 ⟨r,rfl⟩
 refine⟨h,?_⟩;unfold Lib.trimPrefix;rw[if_pos h];simp
structure yi(t r1 a r2 st le:List UInt8)(b1 d sg:Bool):Prop where
 pre:b1=Lib.hasPrefix t [99,117,114,47]
 rest:r1=Lib.trimPrefix t [99,117,114,47]
 dot:Lib.cut r1 [46]=(a,r2,d)
 sign:Lib.cut r2 [58,50,44]=(st,le,sg)
theorem se{t N a O st I:List UInt8}{b1 d J:Bool}(h:yi t N a O st I b1 d J){s:Nat}(M:vX t u s is):b1=true∧d=true∧J=true∧a=Lib.decDigits u∧st=Lib.decDigits s∧I=lR is:=by
 have z:=Ic (Lib.decDigits u++([46]++(Lib.decDigits s++([58,50,44]++lR is))));have e:t=[99,117,114,47]++(Lib.decDigits u++([46]++(Lib.decDigits s++([58,50,44]++lR is)))):=M.eq;rw[←e] at z;have K:=iT (Lib.decDigits u) (Lib.decDigits s++([58,50,44]++lR is)) 46 [] (j5 Ds);have L:=iT (Lib.decDigits s) (lR is) 58 [50,44] (j5 zR);have G:=h.dot;rw[h.rest,z.2] at G;have A:=G.symm.trans K;simp only[Prod.mk.injEq] at A;obtain⟨rfl,rfl,rfl⟩:=A;have E:=h.sign.symm.trans L;simp only[Prod.mk.injEq] at E;obtain⟨rfl,rfl,rfl⟩:=E;exact⟨h.pre.trans z.1,rfl,rfl,rfl,rfl,rfl⟩
theorem GL{t L a M st K:List UInt8}{b1 d A:Bool}(h:yi t L a M st K b1 d A)(z:b1=false∨d=false∨A=false):nY t false 0 0 0:=by
 refine Or.inr ⟨rfl,rfl,rfl,rfl,?_⟩;rintro⟨u,s,is,J⟩;obtain⟨E,G,I,_⟩:=se h J;rcases z with z|z|z
 ·rw[E] at z;cases z
 ·rw[G] at z;cases z
 ·rw[I] at z;cases z
theorem Es{t R a U st J:List UInt8}{b1 d V G I E:Bool}{O Q:Nat}(h:yi t R a U st J b1 d V)(K:tL a 1 4294967295 O G)(L:tL st 0 1000000000000 Q I)(M:jU (J.map UInt8.toNat) E f)(N:G=false∨I=false∨E=false):nY t false 0 0 0:=by
 refine Or.inr ⟨rfl,rfl,rfl,rfl,?_⟩;rintro⟨u,s,is,A⟩;obtain⟨_,_,_,rfl,rfl,rfl⟩:=se h A;rcases N with rfl|rfl|rfl
 ·rcases K with⟨z,_⟩|⟨_,_,z⟩
  ·cases z
  ·exact z u A.u1 (by have:=A.u2;omega) rfl
 ·rcases L with⟨z,_⟩|⟨_,_,z⟩
  ·cases z
  ·exact z s (MQ _) A.s2 rfl
 ·have:=(yV A.good M).1;cases this
theorem Bx{t M a G st L:List UInt8}{E:Nat}(h:yi t M a G st L true true true)(Y:tL a 1 4294967295 A true)(Z:tL st 0 1000000000000 E true)(h3:jU (L.map UInt8.toNat) true f):nY t true A E f∧A≤4294967295∧E≤1000000000000:=by
 rcases Y with⟨_,ha,N,O⟩|⟨z,_⟩
 ·rcases Z with⟨_,R,_,I⟩|⟨z,_⟩
  ·rcases h3 with⟨_,is,hg,Q,rfl⟩|⟨z,_⟩
   ·have J:=J7 h.pre.symm;rw[←h.rest] at J;have K:=yC (s:=M) (sep:=[46]) (by rw[h.dot]);rw[h.dot] at K;have U:=yC (s:=G) (sep:=[58,50,44]) (by rw[h.sign]);rw[h.sign] at U;have V:=JA Q;refine⟨Or.inl ⟨rfl,is,⟨hg,N,by omega,I,?_⟩,rfl⟩,O,I⟩;unfold nm;rw[←ha,←R,←V,J];congr 1;rw[K];show a++([46]++G)=_;congr 2
   ·cases z
  ·cases z
 ·cases z
theorem De(s sep:List UInt8):(Lib.cut s sep).1.length≤s.length∧(Lib.cut s sep).2.1.length≤s.length:=by
 unfold Lib.cut;split
 ·simp;omega
 ·simp
theorem E8(s p:List UInt8):(Lib.trimPrefix s p).length≤s.length:=by
 unfold Lib.trimPrefix;split<;>simp
structure One(w W:World):Prop where
 r2:W.heap[w.heap.size]? =some (.cells #[.bool false,.int .u32 0,.int .i64 0,.int .u32 0] 129 (0,0))
 bel:Below w.heap.size w W
 env:Env W
theorem One.below{W':World}(h:One w W)(z:Below W.heap.size W W'):One w W':=
 ⟨(z.block _ (lt_of_block h.r2)).trans h.r2,h.bel.trans (z.mono h.bel.size),h.env.below z⟩
theorem One.back(h:One w W)(v0 v1 v2 v3:Value):Below w.heap.size w ((((W.setCell ⟨w.heap.size,0,none⟩ v0).setCell ⟨w.heap.size,1,none⟩ v1).setCell ⟨w.heap.size,2,none⟩ v2).setCell ⟨w.heap.size,3,none⟩ v3):=
 (((h.bel.setCell (p:=⟨w.heap.size,0,none⟩) (MH _) _).setCell (p:=⟨w.heap.size,1,none⟩) (MH _) _).setCell (p:=⟨w.heap.size,2,none⟩) (MH _) _).setCell (p:=⟨w.heap.size,3,none⟩) (MH _) _
theorem wS(s:ByteArray)(w:World)(hs:s.size≤1048576)(hE:Env w):
  Calls Tryz.prog 143 #[.string s] w (Kw s.data.toList w):=by
 have V:One w (w.alloc (.cells #[.bool false,.int .u32 0,.int .i64 0,.int .u32 0] 129)):=
  ⟨heap_alloc_new w _,nAl w _,hE.below (nAl w _)⟩
 go_enter Tryz.func143,Tryz.ntmps143;go_wp2_with fail;generalize w.alloc (.cells #[.bool false,.int .u32 0,.int .i64 0,.int .u32 0] 129)=W0 at V⊢;refine(Tryz.strings_CutPrefix s ⟨#[99,117,114,47]⟩ W0).mono ?_;rintro e W1 ⟨rfl,rfl⟩;have I1:Hid (Lib.hasPrefix s.data.toList [99,117,114,47]=Lib.hasPrefix s.data.toList [99,117,114,47]):=rfl;have l1:=E8 s.data.toList [99,117,114,47];rw[j9] at l1;obtain⟨I,R⟩:∃I,I=Lib.trimPrefix s.data.toList [99,117,114,47]:=⟨_,rfl⟩
 obtain⟨b1,ac⟩:∃b1,b1=Lib.hasPrefix s.data.toList [99,117,114,47]:=⟨_,rfl⟩
 rw[←R] at l1;have HR:=a8 R;have HB:=a8 ac;rw[show Lib.trimPrefix s.data.toList (⟨#[99,117,114,47]⟩:ByteArray).data.toList=I from R.symm,show Lib.hasPrefix s.data.toList (⟨#[99,117,114,47]⟩:ByteArray).data.toList=b1 from ac.symm];clear R ac I1 hE;go_wp2_with fail;obtain⟨m,N⟩:=V.env.max;refine(Tryz.strings_Cut ⟨I.toArray⟩ ⟨#[46]⟩ m W1 (by show I.toArray.size<_;simp;omega) N).mono ?_;rintro e W2 ⟨rfl,n,ai⟩;have O2:=V.below (W':=W2) (by rw[ai];exact below_drewN (MJ _ _) n);have l2:=De I [46];rw[show Lib.cut (⟨I.toArray⟩:ByteArray).data.toList (⟨#[46]⟩:ByteArray).data.toList=Lib.cut I [46] from rfl];obtain⟨⟨a,L,d⟩,ad⟩:∃x,x=Lib.cut I [46]:=⟨_,rfl⟩
 rw[←ad] at l2⊢;have ag:=a8 ad.symm;clear ai ad N m V;simp only[] at l2⊢;go_wp2_with fail;obtain⟨m,N⟩:=O2.env.max;refine(Tryz.strings_Cut ⟨L.toArray⟩ ⟨#[58,50,44]⟩ m W2 (by show L.toArray.size<_;simp;omega) N).mono ?_;rintro e W3 ⟨rfl,n,aj⟩;have Y:=O2.below (W':=W3) (by rw[aj];exact below_drewN (MJ _ _) n);have l3:=De L [58,50,44];rw[show Lib.cut (⟨L.toArray⟩:ByteArray).data.toList (⟨#[58,50,44]⟩:ByteArray).data.toList=Lib.cut L [58,50,44] from rfl];obtain⟨⟨st,le,sg⟩,ae⟩:∃x,x=Lib.cut L [58,50,44]:=⟨_,rfl⟩
 rw[←ae] at l3⊢;have K:=a8 (yi.mk HB.out HR.out ag.out ae.symm);clear aj ae N m O2 HR HB ag;simp only[] at l3⊢;obtain⟨p0,p1,p2,p3⟩:=oJ Y.r2;have fz:=fun j=>frozen_of_row _ w.heap.size j _ _ Y.r2;have z:=a8 Y;clear Y;by_cases G:b1=true∧d=true∧sg=true
 ·obtain⟨rfl,rfl,rfl⟩:=G;clear p0 p1 p2 p3 fz;go_wp2_with fail;have R1:=jR ⟨a.toArray⟩ 1 4294967295 W3 z.out.env (by show a.toArray.size≤_;simp;omega) (by omega);refine(show Calls _ _ #[_,.int .u64 1,.int .u64 4294967295] _ _ from R1).mono ?_;rintro e W4 ⟨n1,k1,rfl,an,ak⟩;have O:=a8 (show tL a 1 4294967295 n1 k1 from an);have ab:=a8 (z.out.below ak);clear an ak z R1;go_wp2_with fail;have R2:=jR ⟨st.toArray⟩ 0 1000000000000 W4 ab.out.env (by show st.toArray.size≤_;simp;omega) (by omega);refine(show Calls _ _ #[_,.int .u64 0,.int .u64 1000000000000] _ _ from R2).mono ?_;rintro e W5 ⟨n2,k2,rfl,ao,al⟩;have Q:=a8 (show tL st 0 1000000000000 n2 k2 from ao);have ah:=a8 (ab.out.below al);clear ao al ab R2;go_wp2_with fail;refine(nH ⟨le.toArray⟩ W5).mono ?_;rintro e M ⟨A,f,rfl,aa,am⟩;have U:=a8 (show jU (le.map UInt8.toNat) A f from aa);have ap:f<4294967296:=by
   rcases aa with⟨_,is,G,_,rfl⟩|⟨_,rfl,_⟩
   ·exact sR G
   ·decide
  have Z:=(ah.out.below am).below ((MJ _ _).alloc (MH _) (.cells #[.bool A,.int .u32 (f:Int)] 183));have af:=heap_alloc_new M (.cells #[.bool A,.int .u32 (f:Int)] 183);have e0:(M.alloc (.cells #[.bool A,.int .u32 (f:Int)] 183)).cell? ⟨M.heap.size,0,none⟩=some (.bool A):=(by rw[cell_of_row _ _ _ _ _ _ af];rfl);have e1:(M.alloc (.cells #[.bool A,.int .u32 (f:Int)] 183)).cell? ⟨M.heap.size,1,none⟩=some (.int .u32 (f:Int)):=(by rw[cell_of_row _ _ _ _ _ _ af];rfl);obtain⟨p0,p1,p2,p3⟩:=oJ Z.r2;have fz:=fun j=>frozen_of_row _ w.heap.size j _ _ Z.r2;have J:=a8 Z;clear Z af am ah aa;by_cases G:k1=true∧k2=true∧A=true
  ·obtain⟨rfl,rfl,rfl⟩:=G;obtain⟨hA,g1,g2⟩:=Bx K.out O.out Q.out U.out;have E:=a8 hA;have aq:(n1:Int)≤4294967295:=(by omega);have ar:(n2:Int)≤1000000000000:=(by omega);clear hA K O Q U;go_wp2;exact bodyPost_ret (ep w.heap.size _ true n1 n2 f rfl rfl (fB J.out.r2 _ _ _ _)) rfl ⟨true,n1,n2,f,rfl,E.out,J.out.back _ _ _ _⟩
  ·have E:=a8 (Es K.out O.out Q.out U.out (by cases k1<;>cases k2<;>cases A<;>simp at G⊢));clear K O Q U;cases k1 with
   |false=>
    go_wp2;exact bodyPost_ret (ep w.heap.size _ false 0 0 0 rfl rfl (fB J.out.r2 _ _ _ _)) rfl ⟨false,0,0,0,rfl,E.out,J.out.back _ _ _ _⟩
   |true=>
    cases k2 with
    |false=>
     go_wp2;exact bodyPost_ret (ep w.heap.size _ false 0 0 0 rfl rfl (fB J.out.r2 _ _ _ _)) rfl ⟨false,0,0,0,rfl,E.out,J.out.back _ _ _ _⟩
    |true=>
     cases A with
     |false=>
      go_wp2;exact bodyPost_ret (ep w.heap.size _ false 0 0 0 rfl rfl (fB J.out.r2 _ _ _ _)) rfl ⟨false,0,0,0,rfl,E.out,J.out.back _ _ _ _⟩
     |true=>simp at G
 ·have E:=a8 (GL K.out (by cases b1<;>cases d<;>cases sg<;>simp at G⊢));clear K;cases b1 with
  |false=>
   go_wp2;exact bodyPost_ret (ep w.heap.size _ false 0 0 0 rfl rfl (fB z.out.r2 _ _ _ _)) rfl ⟨false,0,0,0,rfl,E.out,z.out.back _ _ _ _⟩
  |true=>
   cases d with
   |false=>
    go_wp2;exact bodyPost_ret (ep w.heap.size _ false 0 0 0 rfl rfl (fB z.out.r2 _ _ _ _)) rfl ⟨false,0,0,0,rfl,E.out,z.out.back _ _ _ _⟩
   |true=>
    cases sg with
    |false=>
     go_wp2;exact bodyPost_ret (ep w.heap.size _ false 0 0 0 rfl rfl (fB z.out.r2 _ _ _ _)) rfl ⟨false,0,0,0,rfl,E.out,z.out.back _ _ _ _⟩
    |true=>simp at G
section
open Go.Sort Go.Lib
theorem zc(w:World)(T:TypeId)(nd:Nat)(E:nd≤24):Holds (fun(b:UInt8)=>Value.int .u8 (b.toNat:Int)) (w.alloc (.cells Lib.zeros24 T)) w.heap.size 0 (Array.replicate nd (0:UInt8)):=fun j z=>by
 have A:j<nd:=(by simpa using z);refine⟨?_,World.frozen?_alloc_new _ _ _ _⟩;rw[World.cell?_alloc_new,Lib.zeros24_at _ (by omega),getElem!_pos _ j z];simp
theorem Mt(w:World)(o:Obj)(z:Array UInt8)(k:Nat):Below w.heap.size w ((putRow (fun(b:UInt8)=>Value.int .u8 (b.toNat:Int)) (w.alloc o) w.heap.size 0 z).drewN k):=by
 rw[alloc_eq_grow];obtain⟨A,_,e⟩:=putRow_grow_new (fun(b:UInt8)=>Value.int .u8 (b.toNat:Int)) w #[o] w.heap.size 0 z (MH _);rw[e];exact qm w k A
theorem rY(u:Nat)(w:World)(I:u<18446744073709551616)(L:TabIs Tryz.prog w "internal/strconv.uint64pow10" .u64 Lib.pow10Tab):
  Calls Tryz.prog 118 #[.int .u64 (u:Int),.int .i64 10] w fun e w'=>e= .returned (.string (iG u))∧Below w.heap.size w w':=by
 by_cases O:u<100
 ·have N:(u:Int)<100:=(by omega);go_enter Tryz.func118,Tryz.ntmps118;go_wp2_with fail;refine(Tryz.internal_strconv_small u O _).mono ?_;rintro e Q ⟨rfl,rfl⟩;go_wp2;go_ret;exact⟨rfl,MJ _ _⟩
 ·have N:¬(u:Int)<100:=(by omega);have V:=JQ u I;have R:Lib.nDigits u≤24:=(by omega);have K:Tryz.prog.arrayLen 272=24:=(by simp[Program.arrayLen,Tryz.underlying272]);have Y:∀W,(Instr.sliceAt 272 (.pointer (some ⟨w.heap.size,0,none⟩)) none (some (.int .i64 (Lib.nDigits u:Int))) none).run Tryz.prog W= .ok (.slice (some ⟨w.heap.size,0,none⟩) (Lib.nDigits u) 24) W:=fun W=>by
   rw[run_sliceAt_array_h W 272 ⟨w.heap.size,0,none⟩ (by simp[Program.arrayLen,Program.elem,Tryz.underlying272]) .i64 (Lib.nDigits u:Int) (by omega) (by rw[K];omega)];go_simp
  have A:=zc w 272 (Lib.nDigits u) (by omega);have J:=Tryz.internal_strconv_formatBase10 w.heap.size 0 24 u (Array.replicate (Lib.nDigits u) 0) (w.alloc (.cells Lib.zeros24 272)) A (by rw[Array.size_replicate];exact Lib.lt_pow_nDigits u) I (by rw[Array.size_replicate];omega);rw[Array.size_replicate] at J;have M:=a8 A;clear A K;go_enter Tryz.func118,Tryz.ntmps118;go_wp2_with fail;refine(Tryz.internal_strconv_numDigits u (by omega) I _ (Lib.tabIs_alloc L _)).mono ?_;rintro e Q ⟨rfl,rfl⟩;go_wp2_with fail;refine J.mono ?_;rintro e w2 ⟨rfl,k,Z,z,rfl,E⟩;have U:(convert 52 9 (.slice (some ⟨w.heap.size,0,none⟩) (Lib.nDigits u) 24)).run Tryz.prog ((putRow (fun(b:UInt8)=>Value.int .u8 (b.toNat:Int)) (w.alloc (.cells Lib.zeros24 272)) w.heap.size 0 z).drewN k)= .ok (.string ⟨(Lib.decDigits u).toArray⟩) ((putRow (fun(b:UInt8)=>Value.int .u8 (b.toNat:Int)) (w.alloc (.cells Lib.zeros24 272)) w.heap.size 0 z).drewN k):=by
   have h:=run_convert_bytes_back (P:=Tryz.prog) ((putRow (fun(b:UInt8)=>Value.int .u8 (b.toNat:Int)) (w.alloc (.cells Lib.zeros24 272)) w.heap.size 0 z).drewN k) 52 9 5 ⟨w.heap.size,0,none⟩ 24 (Lib.decDigits u) Tryz.underlying52 Tryz.underlying5 Tryz.underlying9 (fun j G=>by
    rw[Lib.row_is_numeral E j G,Lib.add_plain,World.cell?_drewN];exact cell?_putRow (fun(b:UInt8)=>Value.int .u8 (b.toNat:Int)) _ w.heap.size 0 _ z M.out (by rw[E.size,Array.size_replicate]) j (by rw[E.size];rw[Lib.decDigits_length] at G;exact G))
   rw[Lib.decDigits_length] at h;exact h
  go_wp2;go_ret;exact⟨rfl,Mt w _ z k⟩
theorem kR(u:Nat)(w:World)(E:u<18446744073709551616)(z:TabIs Tryz.prog w "internal/strconv.uint64pow10" .u64 Lib.pow10Tab):
  Calls Tryz.prog 78 #[.int .u64 (u:Int),.int .i64 10] w fun e w'=>e= .returned (.string (iG u))∧Below w.heap.size w w':=by
 go_enter Tryz.func78,Tryz.ntmps78;go_wp2_with fail;refine(rY u w E z).mono ?_;rintro e G ⟨rfl,A⟩;go_wp2;go_ret;exact⟨rfl,A⟩
end
theorem nG(f:Nat)(w:World)(hf:f<4294967296):
  Calls Tryz.prog 80 #[.int .u32 (f:Int)] w fun e w'=>e= .returned (.string (fC (eu f)))∧Below w.heap.size w w':=by
 have L:l9 (w.alloc (.cells #[.pointer none,.slice none 0 0] 223)) w.heap.size []:=by
  refine⟨Lib.fresh_isBuilder _ _ w,fun _=> ?_⟩;rw[cell_of_row _ _ _ _ _ _ (heap_alloc_new w _)];rfl
 have I:Below w.heap.size w (w.alloc (.cells #[.pointer none,.slice none 0 0] 223)):=(MJ _ _).alloc (MH _) _;go_enter Tryz.func80,Tryz.ntmps80;go_wp2_with fail;generalize w.alloc (.cells #[.pointer none,.slice none 0 0] 223)=w0 at L I⊢;refine(nQ w0).mono ?_;rintro e w1 ⟨rfl,N⟩;have ab:=L.below N;have ad:=I.trans (N.mono I.size);clear L I N;generalize hT:jS 31=T;go_wp2;go_loopw [5,7] (fun _ i wr=>∃k:Nat,k≤31∧i= .int .i64 (k:Int)∧l9 wr w.heap.size (fW f k)∧Below w.heap.size w wr) (fun _ i _=>31-(intOf i).toNat)
 case atStart=>exact⟨0,by omega,rfl,ab,ad⟩
 case round=>
  obtain⟨k,hk,rfl,K,V⟩:=hrel;clear ab ad;by_cases Q:k<31
  ·have Y:=wL k Q;have af:=nh k Q;have ae:=a8 (jC f k);have J:=a8 (sB f k);have hW:=a8 V;have ah:=a8 K;clear V K;go_wp2_with (refine qi _ k rfl _ _ rfl (by rw[←hT];rfl) rfl Q ?_)
   have G:=nAl wr (.cells #[.int .i32 (eW k:Int),.int .u64 (gO k:Int)] 227);have ai:(wr.alloc (.cells #[.int .i32 (eW k:Int),.int .u64 (gO k:Int)] 227)).cell? ⟨wr.heap.size,0,none⟩=some (.int .i32 (eW k:Int)):=(by rw[cell_of_row _ _ _ _ _ _ (heap_alloc_new wr _)];rfl);have M:=ah.out.below G;have R:=hW.out.trans (G.mono hW.out.size);generalize wr.alloc (.cells #[.int .i32 (eW k:Int),.int .u64 (gO k:Int)] 227)=w2 at G ai M R⊢;refine(zJ (gO k) w2 Y).mono ?_;rintro e w3 ⟨rfl,rfl⟩;have E:=FO f (gO k) hf Y;have Z:=a8 M;have aa:=a8 R;clear M R G;by_cases A:f.testBit (gO k)=true
   ·rw[A] at E;have z:=J.out;rw[if_pos A] at z;have U:=a8 z;clear J z;generalize ((2^gO k:Nat):Int)=m at E⊢;go_wp2_with fail;refine(rj w.heap.size (fW f k) (eW k) w3 af Z.out (by have:=ae.out;omega)).mono ?_;rintro e w4 ⟨rfl,ac,O⟩;have aj:=aa.out.trans O;rw[←U.out] at ac;go_wp2;go_roundw
    case rel=>exact⟨k+1,by omega,by go_num,ac,aj⟩
    case measure=>simp[intOf];omega
   ·simp only[Bool.not_eq_true] at A;rw[A] at E;have z:=J.out;rw[if_neg (by rw[A];simp),Nn] at z;have U:=a8 z;clear J z;generalize ((2^gO k:Nat):Int)=m at E⊢;go_wp2;go_roundw
    case rel=>exact⟨k+1,by omega,by go_num,by rw[U.out];exact Z.out,aa.out⟩
    case measure=>simp[intOf];omega
  ·obtain rfl:k=31:=(by omega);have ag:l9 wr w.heap.size (((fW f 31).map UInt8.ofNat).map UInt8.toNat):=(by rw[sG _ (sC f 31 (MH _))];exact K);clear K;go_wp2_with fail;refine(oG w.heap.size _ wr ag).mono ?_;rintro e w4 ⟨rfl,O⟩;go_wp2;go_ret;exact⟨rfl,V.trans O⟩
end Go.Proofs.YtpdbolihakojcaaGreatDoor
