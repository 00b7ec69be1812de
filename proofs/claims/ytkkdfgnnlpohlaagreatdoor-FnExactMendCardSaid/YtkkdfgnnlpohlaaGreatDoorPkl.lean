import Derived.Test.YtkkdfgnnlpohlaaGreatDoorPke
import Derived.Test.YtkkdfgnnlpohlaaGreatDoorPkh
import Derived.Test.YtkkdfgnnlpohlaaGreatDoorPkg
import Derived.Test.YtkkdfgnnlpohlaaGreatDoorPkf
import Derived.Test.YtkkdfgnnlpohlaaGreatDoorPki
import Derived.Lib.ConvBytes
namespace Go.Proofs.YtkkdfgnnlpohlaaGreatDoor
set_option maxRecDepth 20000
set_option linter.unusedVariables false
set_option linter.unusedSimpArgs false
set_option maxHeartbeats 4000000
open Go.RowKit Go.Proofs.Tryz
variable {W X Y w w' w0 wr : World} {A B at_ b b2 base' c cap e f g go gs hi i j k lo m n s u val z : Nat} {E G I J K L M N O u0 u1 u2 v0 v1 v2 v3 v4 v5 v6 x y : Value} {o : Oper} {Q : Exit → Act → World → Prop} {cs tmps : Array Value} {t : TypeId} {p : Addr} {l : List Nat} {bvs xs : List Value} {a : List UInt8} {first ok : Bool}
def gO(nodes:Int):List EN→List DO→Option (List EN)
 |es,[]=>some es
 |es,o::r=>match iB nodes es o with
  |none=>none
  |some l=>if 300<l.length then none else gO nodes l r
def eM(D:dO):Prop:=0≤D.quota∧D.quota≤1000000∧D.pend.length≤1000∧gz D.nodes=true∧eU (D.nodes.length:Int) D.names=true∧eU (D.nodes.length:Int) D.kept=true∧gO (D.nodes.length:Int) D.kept D.pend=some D.names
def oj(w:World)(P:Prop)(e:Ending)(w':World):Prop:=∃r:Bool,e= .returned (.bool r)∧(r=true↔P)∧Below w.heap.size w w'
theorem ii{P:Prop}(h:¬P)(z:Below w.heap.size w w'):oj w P (.returned (.bool false)) w':=⟨false,rfl,⟨fun e=>(by cases e),fun p=>OH p h⟩,z⟩
structure l6(D:dO):Prop where
 n1:D.nodes.length≤1048576
 n2:D.names.length≤1048576
 n3:D.kept.length≤1048576
 n4:D.pend.length≤1048576
 sum:iC D.nodes≤1048576
 s2:∀e∈D.names,e.1.size≤1048576
 s3:∀e∈D.kept,e.1.size≤1048576
 s4:∀o∈D.pend,o.2.1.size≤1048576∧o.2.2.1.size≤1048576
theorem sQ(ns:List (LN×Int)):∀e∈ns,e.1.length≤iC ns:=by
 induction ns with
 |nil=>intro e h;cases h
 |cons x r ih=>
  intro e h;rcases Pd.1 h with rfl|h
  ·simp only[iC];omega
  ·have:=ih e h;simp only[iC];omega
theorem wg(K J M Y:OA)(O N Q c4:Nat)(D:dO)(w:World)(hM:l6 D)(h1:ja w K D.nodes)(h2:fI w J D.names)(h3:fI w M D.kept)(h4:o9 w Y D.pend):
  Calls prog 43 #[.agg (dkA K O J N M Q Y c4 D)] w (oj w (eM D)):=by
 have aa:Below w.heap.size w (w.alloc (.cells (dkA K O J N M Q Y c4 D) 34)):=(OX _ _).alloc (OV _) _;have L0:=ed.new w (dkA K O J N M Q Y c4 D) 34;obtain⟨ns,nm,A,z,qt⟩:=D;obtain⟨m1,m2,m3,m4,bc,aN,aO,aP⟩:=hM;simp only at m1 m2 m3 m4 bc aN aO aP h1 h2 h3 h4 aa L0⊢;have G:=a8 (show eM ⟨ns,nm,A,z,qt⟩=(0≤qt∧qt≤1000000∧z.length≤1000∧gz ns=true∧eU (ns.length:Int) nm=true∧eU (ns.length:Int) A=true∧gO (ns.length:Int) A z=some nm) from rfl);generalize eM ⟨ns,nm,A,z,qt⟩=V at G⊢;have bh:=a8 aN;have bi:=a8 aO;have bj:=a8 aP;have aR:=a8 (h1.below aa);have aB:=a8 (h2.below aa);have aC:=a8 (h3.below aa);have aS:=a8 (h4.below aa);have E:=a8 aa;have ac:=a8 L0;clear aN aO aP h1 h2 h3 h4 aa L0;by_cases g1:qt<0
 ·have I:=a8 (show¬V by rw[G.out];exact fun h=>by omega);go_enter func43,ntmps43;go_wp2;go_ret;exact ii I E.out
 by_cases g2:1000000<qt
 ·have I:=a8 (show¬V by rw[G.out];exact fun h=>by omega);go_enter func43,ntmps43;go_wp2;go_ret;exact ii I E.out
 by_cases g3:(600:Int)<(ns.length:Int)
 ·have I:=a8 (show¬V by
   rw[G.out];intro h;have:=h.2.2.2.1;unfold gz at this;have:=OU this;omega)
  go_enter func43,ntmps43;go_wp2;go_ret;exact ii I E.out
 by_cases g4:(1000:Int)<(z.length:Int)
 ·have I:=a8 (show¬V by rw[G.out];exact fun h=>by omega);go_enter func43,ntmps43;go_wp2;go_ret;exact ii I E.out
 go_enter func43,ntmps43;go_wp2;generalize w.alloc (.cells #[.slice K ns.length O,.slice J nm.length N,.slice M A.length Q,.slice Y z.length c4,.int .i64 qt] 34)=W0 at aR aB aC aS E ac⊢;go_loopw [3,5,34] (fun t _ i wr=>∃k:Nat,k≤ns.length∧i=iI k∧t= .int .i64 (iC (ns.take k):Int)∧(∀i (h:i<ns.length),i<k→lz ns[i]=true)∧Below W0.heap.size W0 wr) (fun _ _ i _=>ns.length-(intOf i).toNat)
 case atStart=>exact⟨0,O4 _,rfl,rfl,fun i _ h=>by omega,OX _ _⟩
 case round=>
  obtain⟨k,hk,rfl,rfl,aY,ab⟩:=hrel;have HK:=a8 aY;have ag:=a8 ab;have af:=bTr E ab;have bG:=ac.lt;have bH:=ab.size;clear aY;by_cases U:k<ns.length
  ·obtain⟨b,bC,rfl,hc⟩:=(aR.below ab) (by omega)
   obtain⟨ai,ci,bo,bp,_⟩:=hc k U;have br:=sQ ns _ (O6 U);have bw:=mY ns (k+1);have aq:=a8 (jE ns k U);have bu:iC (ns.take k)≤1048576:=(by have:=aq.out;omega);have aD:=a8 (uw (ns:=ns) U);have ad:=a8 (show lz ns[k]=decide (ns[k].1.length≤40000∧0≤ns[k].2∧ns[k].2≤ns[k].1.length) from rfl);have bk:=a8 (fun(e:lz ns[k]=true) (i:Nat) (h:i<ns.length) (h':i<k+1)=>(by
    by_cases e':i=k
    ·subst e';exact e
    ·exact HK.out i h (by omega):lz ns[i]=true))
   clear hc ab HK bw;generalize iC (ns.take k)=s0 at bu aq⊢;generalize ns[k].1.length=n0 at bo ad br aq;generalize ns[k].2=sf at bp ad;by_cases g5:(40000:Int)<(n0:Int)
   ·go_wp2;go_ret;exact ii (by rw[G.out];intro h;rw[aD.out (by rw[ad.out];exact OM fun h=>by omega)] at h;exact OH h.2.2.2.1 (by simp)) (af.alloc (by omega) _)
   by_cases g6:sf<0
   ·go_wp2;go_ret;exact ii (by rw[G.out];intro h;rw[aD.out (by rw[ad.out];exact OM fun h=>by omega)] at h;exact OH h.2.2.2.1 (by simp)) (af.alloc (by omega) _)
   by_cases g7:(n0:Int)<sf
   ·go_wp2;go_ret;exact ii (by rw[G.out];intro h;rw[aD.out (by rw[ad.out];exact OM fun h=>by omega)] at h;exact OH h.2.2.2.1 (by simp)) (af.alloc (by omega) _)
   have bb:=a8 (bk.out (by rw[ad.out];exact ON ⟨by omega,by omega,by omega⟩));go_wp2;go_roundw
   case rel=>exact⟨k+1,by omega,by go_num,fM (by rw[aq.out];push_cast;rfl),bb,ag.alloc ag.size _⟩
   case measure=>simp[intOf];omega
  ·obtain rfl:k=ns.length:=(by omega);have ak:=ac.below ab (by omega);obtain⟨r0,r1,r2,r3⟩:=ak.c4;rw[PA];have aE:=a8 (show gz ns=decide (iC ns≤200000) by
    unfold gz;by_cases h2:iC ns≤200000
    ·rw[ON h2];exact ON ⟨by omega,fun i h=>HK.out i h h,h2⟩
    ·rw[OM h2];exact OM fun h=>h2 h.2.2)
   clear ab HK ak;by_cases g8:(200000:Int)<(iC ns:Int)
   ·go_wp2;go_ret;exact ii (by rw[G.out,aE.out];exact fun h=>by have:=OU h.2.2.2.1;omega) af.out
   ·have aQ:=a8 (show gz ns=true by rw[aE.out];exact ON (by omega));have bD:=r0;go_wp2_with fail;refine(oU J N nm (ns.length:Int) wr (by omega) (fun e he=>by have:=bh.out e he;omega) (aB.below ag)).mono ?_;rintro e w2 ⟨rfl,aU⟩;have ar:=bTr ag aU;have ah:=ac.below ar (by omega);obtain⟨t0,t1,t2,t3⟩:=ah.c4;have bl:=a8 (E.trans (ar.mono E.size));clear r0 r1 r2 r3 bD ah aU ag af;by_cases o1:eU (ns.length:Int) nm=true
    ·rw[o1];go_wp2_with fail;refine(oU M Q A (ns.length:Int) w2 (by omega) (fun e he=>by have:=bi.out e he;omega) (aC.below ar)).mono ?_;rintro e w3 ⟨rfl,aV⟩;have au:=bTr ar aV;have aj:=ac.below au (by omega);obtain⟨s0,s1,s2,s3⟩:=aj.c4;have bm:=a8 (E.trans (au.mono E.size));clear t0 t1 t2 t3 aj aV;by_cases o2:eU (ns.length:Int) A=true
     ·rw[o2];have aH:=a8 (show V=(gO (ns.length:Int) A z=some nm) by
       rw[G.out];exact propext ⟨fun h=>h.2.2.2.2.2.2,fun h=>⟨by omega,by omega,by omega,aQ,o1,o2,h⟩⟩)
      have bz:A.length≤1048573:=(by have h:=o2;unfold eU at h;have:=(OU h).1;omega);clear G aE aQ o1 o2;go_wp2;go_loopw [6,8,9,10,86] (fun lv _ _ _ i wv=>∃(k:Nat) (Z:List EN) (al:OA) (cl:Nat),k≤z.length∧i=iI k∧lv= .slice al Z.length cl∧Z.length≤1048573∧fI wv al Z∧gO (ns.length:Int) A z=gO (ns.length:Int) Z (z.drop k)∧Below W0.heap.size W0 wv) (fun _ _ _ _ i _=>z.length-(intOf i).toNat)
      case atStart=>exact⟨0,A,M,Q,O4 _,rfl,rfl,bz,aC.below au,rfl,au⟩
      case round=>
       obtain⟨k,Z,al,cl,hk,rfl,rfl,bq,aW,aZ,ax⟩:=hrel;have aJ:=ac.below ax (by omega);obtain⟨v0,v1⟩:=aJ.c2;have bx:w.heap.size<wr.heap.size:=dG v0;have aA:=a8 aW;have aG:=a8 aZ;have aI:=a8 ax;have bn:=bTr E ax;clear aW aZ ax aJ s0 s1 s2 s3;by_cases U:k<z.length
       ·have aK:=aG.out;rw[Pv U,gO] at aK;obtain⟨b,bC,rfl,hc⟩:=(aS.below aI) (by omega)
        obtain⟨d0,d1,d2,d3⟩:=hc k U;obtain⟨aL,aM⟩:=bj.out _ (O6 U);have ae:=a8 aK;clear aK hc aG;generalize bt:z[k]=oo at d0 d1 d2 d3 aL aM ae;obtain⟨kd,ao,ap,an⟩:=oo;clear bt;simp only at d0 d1 d2 d3 aL aM ae;have aw:=nAl wr (.cells #[.int .i64 kd,.string ao,.string ap,.int .i64 an] 111);have aF:=a8 (yy al cl Z kd ao ap an (ns.length:Int) _ bq aL aM (aA.below aw));have av:=bTr aI aw;have bE:(wr.alloc (.cells #[.int .i64 kd,.string ao,.string ap,.int .i64 an] 111)).cell? ⟨w.heap.size,0,none⟩=some (.slice K ns.length O):=(aw.cell (p:=⟨w.heap.size,0,none⟩) bx).trans v0;clear aw aA;go_wp2_with fail;generalize wr.alloc (.cells #[.int .i64 kd,.string ao,.string ap,.int .i64 an] 111)=W5 at aF av bE⊢;refine(aF.out).mono ?_;intro e w6 hp;clear aF;generalize iB (ns.length:Int) Z (kd,ao,ap,an)=R at ae hp;cases R with
        |none=>
         obtain⟨rfl,am⟩:=hp;have I:=a8 (show¬V by rw[aH.out,ae.out];simp);have az:=a8 (E.trans ((av.trans (am.mono av.size)).mono E.size));clear am;go_wp2;go_ret;exact ii I az.out
        |some L=>
         obtain⟨a6,c6,rfl,aX,am⟩:=hp;have aT:=bTr av am;have be:=a8 aX;clear am aX;by_cases bF:(300:Int)<(L.length:Int)
         ·have I:=a8 (show¬V by rw[aH.out,ae.out];simp only;rw[OS (by omega)];simp);have az:=a8 (E.trans (aT.mono E.size));go_wp2;go_ret;exact ii I az.out
         ·have bf:=a8 (show gO (ns.length:Int) A z=gO (ns.length:Int) L (z.drop (k+1)) by rw[ae.out];simp only;rw[OR (by omega)]);go_wp2;go_roundw
          case rel=>exact⟨k+1,L,a6,c6,by omega,by go_num,rfl,by omega,be.at,bf,aT⟩
          case measure=>simp[intOf];omega
       ·obtain rfl:k=z.length:=(by omega);have ay:=aG.out;rw[PO,gO] at ay;have bd:=a8 ay;clear ay;go_wp2_with fail;refine(Dr al J cl N Z nm wr (by omega) aA (aB.below aI)).mono ?_;rintro e w5 ⟨⟨r,rfl,ba⟩,n5,rfl⟩;have bg:=a8 ba;clear ba;go_wp2;go_ret;exact⟨r,rfl,by rw[bg.out,aH.out,bd.out];simp,OI bn _⟩
     ·have bB:eU (ns.length:Int) A=false:=(by simpa using o2);rw[bB];go_wp2;go_ret;exact ii (by rw[G.out];exact fun h=>o2 h.2.2.2.2.2.1) bm.out
    ·have bA:eU (ns.length:Int) nm=false:=(by simpa using o1);rw[bA];go_wp2;go_ret;exact ii (by rw[G.out];exact fun h=>o1 h.2.2.2.2.1) bl.out
def b9(D:dO)(nm:BA):Bool×LN:=
 match fT D.names nm with
 |some n=>(true,(D.nodes.getD n.toNat ([],0)).1)
 |none=>(false,[])
def szS:Value→Nat
 | .string t=>t.size
 |_=>0
theorem FA{t c:List UInt8}{b:UInt8}(h:pw t b a c ok):(ok=true→e9 b t=a::e9 b c∧c.length+1≤t.length)∧(ok=false→e9 b t=[a]):=by
 rcases h with⟨A,z,E⟩|⟨A,z,E,G⟩
 ·refine⟨fun _=>⟨?_,?_⟩,(fun h=>by rw[A] at h;cases h)⟩
  ·rw[z,pq E]
  ·rw[z];simp
 ·refine⟨(fun h=>by rw[A] at h;cases h),fun _=> ?_⟩;rw[E,pr z]
theorem i7(l:LN):(fw l).size=l.length:=by simp[fw,ByteArray.size]
theorem nQ(a:OA)(cap:Nat)(l:LN)(w:World)(hs:l.length≤1048575)(hr:dW w a l):
  Calls prog 71 #[.slice a l.length cap] w fun e w'=>∃v ws,e= .returned v∧fB w' w.heap.size v ws∧ws.map (·.data.toList)=e9 32 (fw l).data.toList∧Below w.heap.size w w':=by
 have V:=fY w a cap l hr;have ab:(fw l).size≤1048575:=(by rw[i7];exact hs);clear hr;generalize fw l=s at V ab⊢;go_enter func71,ntmps71;go_wp2;clear V;go_loopw [3,4,5,6,7] (fun ov N _ _ _ wr=>∃(t:BA) (ws:List BA),N= .string t∧fB wr w.heap.size ov ws∧ws.length+t.size≤s.size∧ws.map (·.data.toList)++e9 32 t.data.toList=e9 32 s.data.toList∧Below w.heap.size w wr) (fun _ N _ _ _ _=>szS N)
 case atStart=>exact⟨s,[],rfl,fB.nil _ _,by simp,by simp,OX _ _⟩
 case round=>
  obtain⟨t,ws,rfl,ho,hz,Y,hb⟩:=hrel;have Z:=a8 ho;have U:=a8 Y;have HB:=a8 hb;clear ho Y hb;go_wp2_with fail;refine(qW t 32 wr (by omega)).mono ?_;rintro e w2 ⟨x,y,ok,rfl,hcut,E,rfl⟩;have L:=a8 (FA hcut);have M:=a8 (OI HB E);have G:=a8 (show fB (wr.drewN E) w.heap.size u3 ws from Z.out);clear hcut;have J:((wr.drewN E).alloc (.cells #[.string x] 9)).cell? ⟨wr.heap.size,0,none⟩=some (.string x):=by
   have:=OK _ _ 0 _ _ _ (OP (wr.drewN E) (.cells #[.string x] 9));exact this
  generalize hW:wr.drewN E=W at M G J;have af:wr.heap.size=W.heap.size:=(by rw[←hW];rfl);rw[af] at J;have Q:=a8 J;have z:=a8 (M.alloc M.size (.cells #[.string x] 9));have R:=a8 (show fB (W.alloc (.cells #[.string x] 9)) w.heap.size u3 ws from World.ownsRow.alloc G _);have O:=a8 (fun j hj=>(OF G j hj).1);clear J Z G;cases ok with
  |false=>
   have A:=a8 (L.2 rfl);clear L;go_wp2_with (first
    |(at_builtin;refine gd _ rfl (.tmp 16) (.tmp 18) rfl w.heap.size u3 ws x W.heap.size 1 rfl rfl ?_ ?_ ?_ ?_ ?_;(exact R.out);(exact Q.out);(omega);(exact z.size);intro v4 w4 K I)
    |go_in)
   go_ret;exact⟨v4,ws++[x],rfl,K,by rw[O7,←U.out,A.out];rfl,z.grown I z.size O⟩
  |true=>
   have A:=a8 (L.1 rfl);clear L;have ah:y.data.toList.length=y.size:=rfl;have ag:t.data.toList.length=t.size:=rfl;have aa:=A.2;have HZ:=a8 (show(ws++[x]).length+y.size≤s.size by rw[O1];simp;omega);have HE:=a8 (show(ws++[x]).map (·.data.toList)++e9 32 y.data.toList=e9 32 s.data.toList by rw[←U.out,A.1,O7];simp);have ae:y.size<t.size:=(by omega);clear aa ah ag A;go_wp2_with (first
    |(at_builtin;refine gd _ rfl (.tmp 16) (.tmp 18) rfl w.heap.size u3 ws x W.heap.size 1 rfl rfl ?_ ?_ ?_ ?_ ?_;(exact R.out);(exact Q.out);(omega);(exact z.size);intro v4 w4 K I;have ad:=a8 K;have ac:=a8 I;clear K I)
    |go_in)
   go_roundw
   case rel=>exact⟨y,ws++[x],rfl,ad,HZ,HE,z.grown ac z.size O⟩
   case measure=>exact ae
end Go.Proofs.YtkkdfgnnlpohlaaGreatDoor
