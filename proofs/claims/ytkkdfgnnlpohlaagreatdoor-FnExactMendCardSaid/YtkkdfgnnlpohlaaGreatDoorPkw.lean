import Derived.Test.YtkkdfgnnlpohlaaGreatDoorPkf
import Derived.Deep.DeepCutAuto
namespace Go.Proofs.YtkkdfgnnlpohlaaGreatDoor
set_option maxRecDepth 20000
set_option linter.unusedVariables false
set_option linter.unusedSimpArgs false
set_option maxHeartbeats 4000000
open Go.RowKit Go.Proofs.Tryz
variable {W X Y w w' w0 wr : World} {A B at_ b b2 base' c cap e f g go gs hi i j k lo m n s u val z : Nat} {E G I J K L M N O u0 u1 u2 v0 v1 v2 v3 v4 v5 v6 x y : Value} {o : Oper} {Q : Exit → Act → World → Prop} {cs tmps : Array Value} {t : TypeId} {p : Addr} {l : List Nat} {bvs xs : List Value} {a : List UInt8} {first ok : Bool}
section
open Go.Lib
open Go.Sort (grow HoldsK putRowK)
variable {P:Program} {k:Nat}
theorem JY(L:SrP P k)(I:Value)(z cap a m b:Nat)(E J G:Int)(V:E=(a:Int))(Z:J=(m:Int))(O:G=(b:Int))(K:Nat)(d:Array Cd)(hs:K=d.size)(w:World)(U:HoldsK ee k w z 0 d)(M:z<w.heap.size)(N:a<m)(Q:m<b)(Y:b≤d.size)(R:d.size≤1000000):
  Calls P 218 #[sS z K cap,.int .i64 E,.int .i64 J,.int .i64 G,I] w (sX k w z (fun A=>A.size=d.size∧(∀k,A.toList[k]? =mG (d.toList[·]?) a m b k)∧Seg a b d.toList A.toList)):=by
 subst V Z O hs;exact D6 L I z cap a m b d w U M N Q Y R
def Ms(P:Program)(k n:Nat):Prop:=∀(blk cap a m b:Nat) (az mz bz:Int) (sz:Nat) (d:Array Cd) (w:World),az=(a:Int)→mz=(m:Int)→bz=(b:Int)→sz=d.size→b-a<n→HoldsK ee k w blk 0 d→blk<w.heap.size→a<m→m<b→b≤d.size→d.size≤1000000→fC Cd.uid d.toList a m→fC Cd.uid d.toList m b→
 Calls P 202 #[sS blk sz cap,.int .i64 az,.int .i64 mz,.int .i64 bz,fnC] w (pa k w blk a b d)
theorem Me(L:SrP P k)(G cap a m b:Nat)(d:Array Cd)(w:World)(hH:HoldsK ee k w G 0 d)(N:G<w.heap.size)(bd:a+1<m)(bm:m+1<b)(hb:b≤d.size)(bu:d.size≤1000000)(aF:fC Cd.uid d.toList a m)(aG:fC Cd.uid d.toList m b)(ih:Ms P k (b-a)):
  Calls P 202 #[sS G d.size cap,.int .i64 (a:Int),.int .i64 (m:Int),.int .i64 (b:Int),fnC] w (pa k w G a b d):=by
 have aX:=L.mixed;have t3:=L.t3;have a3:=L.a3;have z3:=L.z3;have t4:=L.t4;have a4:=L.a4;have z4:=L.z4;have ts:=L.ts;have bc:=L.as';have zs:=L.zs;have ae:=L.ae;have ze:=L.ze;have es:=L.es;have tu:=L.tu;have ec:=L.ec;have er:=L.er;have em:=L.em;have bb:∀(x:Bool) (w:World),(Op.unary .not (.bool x)).run P w= .ok (.bool (!x)) w:=fun _ _=>rfl;have aS:=a8 (lj hH);have HH:=a8 hH;have HL:=a8 L;have aP:=a8 aF;have aQ:=a8 aG;have HI:=a8 ih;have F:=L.fm;have bl:((m:Int)-(a:Int)==1)=false:=(by simp;omega);have be:((b:Int)-(m:Int)==1)=false:=(by simp;omega);obtain⟨A,aq⟩:∃A,A=(a+b)/2:=⟨_,rfl⟩
 have aL:=a8 aq;have bn:((a:Int)+(b:Int))/2=(A:Int):=(by omega);have bj:2*A≤a+b:=(by omega);have bk:a+b<2*A+2:=(by omega);clear hH L aF aG ih aq;go_enter F,ntmps202
 go_upto_if 140 with fail
 go_cut [20,21] (fun s r wx=>∃Y V:Nat,s=iI Y∧r=iI V∧(m≤A∧Y=a∧V=m∨A<m∧Y+b=A+m∧V=A)∧wx=w)
 case first=>
  as_aux_lemma=>
   by_cases hc:A<m
   ·have aT:(A:Int)<(m:Int):=(by omega);go_wp2_with fail;go_meet
    case rel=>exact⟨A+m-b,A,by congr 1;omega,rfl,Or.inr ⟨hc,by omega,rfl⟩,rfl⟩
   ·have aT:¬(A:Int)<(m:Int):=(by omega);go_wp2_with fail;go_meet
    case rel=>exact⟨a,m,rfl,rfl,Or.inl ⟨by omega,rfl,rfl⟩,rfl⟩
 case rest=>
 obtain⟨Y,V,rfl,rfl,aH,I⟩:=hcut;rw[I];clear I;have az:=a8 aH;have bt:a≤Y∧Y≤V∧V≤m∧V≤A:=(by omega);clear aH;go_wp2;go_loopw [20,21,23] (fun vi vj _ wr=>∃(p q n:Nat) (os:Array Obj),vi=iI p∧vj=iI q∧Y≤p∧p≤q∧q≤V∧wr=srW k w G n d os∧Hid (p=Y∨ky Cd.uid d.toList (p-1)≤ky Cd.uid d.toList (A+m-p))∧Hid (q=V∨ky Cd.uid d.toList (A+m-1-q)≤ky Cd.uid d.toList q)) (fun vi vj _ _=>(intOf vj).toNat-(intOf vi).toNat)
 case atStart=>exact⟨Y,V,0, #[],rfl,rfl,OV _,by omega,OV _,aS,a8 (Or.inl rfl),a8 (Or.inl rfl)⟩
 case round=>
  obtain⟨p,q,n,os,rfl,rfl,aV,br,aU,rfl,ay,ar⟩:=hrel;by_cases bi:p<q
  ·as_aux_lemma=>
   have ba:(p:Int)<(q:Int):=(by omega);obtain⟨h,hh⟩:∃h,h=(p+q)/2:=⟨_,rfl⟩
   have bf:p≤h∧h<q:=(by omega);have bh:((p:Int)+(q:Int))/2=(h:Int):=(by omega);have bg:(h:Int)<(d.size:Int):=(by omega);have aW:A+m-1-h<d.size∧h≤A+m-1:=(by have:=az.out;omega);obtain⟨t,ht⟩:∃t,t=A+m-1-h:=⟨_,rfl⟩
   have bx:(A:Int)+(m:Int)-1-(h:Int)=(t:Int):=(by omega);have bz:(t:Int)<(d.size:Int):=(by omega);have aI:t<d.size:=(by omega);have bw:IntKind.i64.wrap (t:Int)=(t:Int):=(by rw[IntKind.wrap_i64];omega);have HT:=a8 ht;clear hh ht aW;obtain⟨x,hx⟩:∃x,d[t]! =x:=⟨_,rfl⟩
   obtain⟨y,hy⟩:∃y,d[h]! =y:=⟨_,rfl⟩
   have l1:=mw HL n os HH N rfl t aI x hx;have l2:=mw HL n os HH N rfl h (by omega) y hy;have ab:=fun n' ap=>HL.cm x y (grow ((srW k w G n d os).drewN n') ap);have HC:=a8 (mO x y);have aw:=a8 (show ky Cd.uid d.toList (A+m-1-h)=x.uid by rw[←HT.out,nP aI,hx]);have ax:=a8 (show ky Cd.uid d.toList h=y.uid by rw[nP (by omega),hy]);have am:=a8 (fun n' ap=>oE (k:=k) w G n n' d os ap);clear hx hy;generalize cmU x y=cv at ab HC;generalize ee x=cx at l1 ab;generalize ee y=cy at l2 ab;generalize srW k w G n d os=wq at l1 l2 ab am⊢;by_cases aC:cv<0
   ·have HN:=a8 (show h=V∨ky Cd.uid d.toList (A+m-1-h)≤ky Cd.uid d.toList h from Or.inr (by
     have h4:=HC.1 aC;rw[aw.out,ax.out];omega))
    go_wp2_with fail
    go_quiet_grown (first|(go_at_fn 147;refine Calls.grown_of (ab _ _)))
    go_wp2;go_roundw
    case rel=>exact⟨p,h,_,_,rfl,by go_num,aV,by omega,by omega,am.out _ _,ay,HN⟩
    case measure=>simp[intOf];omega
   ·have HN:=a8 (show h+1=Y∨ky Cd.uid d.toList (h+1-1)≤ky Cd.uid d.toList (A+m-(h+1)) from Or.inr (by
     have h4:¬x.uid<y.uid:=fun e=>aC (HC.2 e);rw[Nat.add_sub_cancel,show A+m-(h+1)=A+m-1-h by omega,aw.out,ax.out];omega))
    have aY:(!decide (cv<0))=true:=(by simp;omega);go_wp2_with fail
    go_quiet_grown (first|(go_at_fn 147;refine Calls.grown_of (ab _ _)))
    go_wp2;go_roundw
    case rel=>exact⟨h+1,q,_,_,by go_num,rfl,by omega,by omega,aU,am.out _ _,HN,ar⟩
    case measure=>simp[intOf];omega
  ·obtain rfl:p=q:=(by omega);obtain⟨E,aD⟩:∃E,E=A+m-p:=⟨_,rfl⟩
   have aZ:(A:Int)+(m:Int)-(p:Int)=(E:Int):=(by omega);have hcut:=show NC Cd.uid d.toList a m b A p E from by
    have g:=az.out;refine⟨aL,by omega,by omega,by omega,by omega,by omega,fun h1 h2=> ?_,fun h1 h2=> ?_⟩
    ·rcases ay.out with e|e
     ·omega
     ·rw[aD];exact e
    ·rcases ar.out with e|e
     ·omega
     ·rw[show E-1=A+m-1-p by omega];exact e
   have aK:=a8 hcut;have bp:p+E=A+m:=hcut.sum;have bo:a≤p∧p≤m∧m≤E∧E≤b:=⟨hcut.sa,hcut.sm,hcut.em,hcut.eb⟩
   have bq:p≤A:=(by omega);have ak:=iG n os HH N (rfl:d.size=d.size);have K:G<(srW k w G n d os).heap.size:=Pb N (lC _ _ _ _ _);clear aD hcut;go_upto_region 39 with fail;go_cut [185] (fun c wx=>c= .bool (decide (p<m∧m<E))∧wx=srW k w G n d os)
   case first=>
    as_aux_lemma=>
     clear ak K;generalize R:srW k w G n d os=wq;have aa:=a8 R.symm;clear R;by_cases O:p<m
     ·have ac:(p:Int)<(m:Int):=(by omega);by_cases Q:m<E
      ·have ad:(m:Int)<(E:Int):=(by omega);have U:decide (p<m∧m<E)=true:=ON ⟨O,Q⟩;go_wp2_with fail;go_meet
       case rel=>exact⟨by rw[U],aa⟩
      ·have ad:¬(m:Int)<(E:Int):=(by omega);have U:decide (p<m∧m<E)=false:=OM (fun h=>Q h.2);go_wp2_with fail;go_meet
       case rel=>exact⟨by rw[U],aa⟩
     ·have ac:¬(p:Int)<(m:Int):=(by omega);have U:decide (p<m∧m<E)=false:=OM (fun h=>O h.1);go_wp2_with fail;go_meet
      case rel=>exact⟨by rw[U],aa⟩
   case rest=>
   obtain⟨rfl,I⟩:=hcut;rw[I];clear I;have Z:=a8 (show decide (p<m∧m<E)=true↔(p<m∧m<E) from decide_eq_true_iff);generalize decide (p<m∧m<E)=cd at Z⊢
   go_upto_if 185 with fail
   go_cut [20] (fun s wx=>s=iI p∧∃(n1:Nat) (J:Array Cd) (o1:Array Obj),wx=srW k w G n1 J o1∧J.size=d.size∧Hid (∀z,J.toList[z]? =mG (d.toList[·]?) p m E z)∧Hid (Seg a b d.toList J.toList))
   case first=>
    as_aux_lemma=>
     cases cd with
     |true=>
      obtain⟨O,Q⟩:=Z.1 rfl;have C:=a8 (JY HL fnC G cap p m E (p:Int) (m:Int) (E:Int) rfl rfl rfl d.size d rfl _ ak K O Q (by omega) (by omega));clear ak;generalize R:srW k w G n d os=wq at C K⊢;go_wp2_with fail;refine C.mono ?_;rintro e w2 ⟨rfl,q2,dj,aJ,⟨g1,g2,g3⟩,rfl⟩;have HA:=a8 g2;have HB:=a8 g3;clear g2 g3 C;subst R;rw[jf N g1];go_wp2_with fail;go_meet
      case rel=>exact⟨rfl,_,dj,_,rfl,g1,HA,a8 (HB.mono (by omega) (by omega))⟩
     |false=>
      have aE:p=m∨m=E:=by
       by_cases h:p<m∧m<E
       ·have:=Z.2 h;cases this
       ·omega
      have HR:=a8 (fun z=>(JU (f:=fun x=>d.toList[x]?) aE (by omega) (by omega) z).symm);clear aE;go_wp2_with fail;go_meet
      case rel=>exact⟨rfl,n,d,os,rfl,rfl,HR,a8 (Seg.refl _ _ _)⟩
   case rest=>
   clear ak K Z;obtain⟨rfl,n1,J,o1,I,ag,HR,aR⟩:=hcut;rw[I];clear I;obtain⟨k1,k2,k3,k4,k5⟩:=Ia Cd.uid aK aP aQ HR.out;have au:=a8 k1;have av:=a8 k2;have aM:=a8 k3;have aN:=a8 k4;have aO:=a8 k5;clear k1 k2 k3 k4 k5;have ai:=iG n1 o1 HH N ag;have K:G<(srW k w G n1 J o1).heap.size:=Pb N (lC _ _ _ _ _);go_upto_region 41 with fail;go_cut [199] (fun c wx=>c= .bool (decide (a<p∧p<A))∧wx=srW k w G n1 J o1)
   case first=>
    as_aux_lemma=>
     clear ai K;generalize R:srW k w G n1 J o1=wq;have aa:=a8 R.symm;clear R;by_cases O:a<p
     ·have ac:(a:Int)<(p:Int):=(by omega);by_cases Q:p<A
      ·have ad:(p:Int)<(A:Int):=(by omega);have U:decide (a<p∧p<A)=true:=ON ⟨O,Q⟩;go_wp2_with fail;go_meet
       case rel=>exact⟨by rw[U],aa⟩
      ·have ad:¬(p:Int)<(A:Int):=(by omega);have U:decide (a<p∧p<A)=false:=OM (fun h=>Q h.2);go_wp2_with fail;go_meet
       case rel=>exact⟨by rw[U],aa⟩
     ·have ac:¬(a:Int)<(p:Int):=(by omega);have U:decide (a<p∧p<A)=false:=OM (fun h=>O h.1);go_wp2_with fail;go_meet
      case rel=>exact⟨by rw[U],aa⟩
   case rest=>
   obtain⟨rfl,I⟩:=hcut;rw[I];clear I;have Z:=a8 (show decide (a<p∧p<A)=true↔(a<p∧p<A) from decide_eq_true_iff);generalize decide (a<p∧p<A)=cd at Z⊢
   go_upto_if 199 with fail
   go_cut [20] (fun s wx=>s=iI p∧∃(n2:Nat) (M:Array Cd) (o2:Array Obj),wx=srW k w G n2 M o2∧M.size=d.size∧Hid (Seg a A J.toList M.toList)∧Hid (fC Cd.uid M.toList a A))
   case first=>
    as_aux_lemma=>
     cases cd with
     |true=>
      obtain⟨O,Q⟩:=Z.1 rfl;have C:=a8 (HI.out G cap a p A (a:Int) (p:Int) (A:Int) d.size J _ rfl rfl rfl ag.symm (by omega) ai K O Q (by omega) (by omega) au av);clear ai;generalize R:srW k w G n1 J o1=wq at C K⊢;go_wp2_with fail;refine C.mono ?_;rintro e w2 ⟨rfl,q2,dj,aJ,⟨g1,g2,g3⟩,rfl⟩;have HA:=a8 g2;have HB:=a8 g3;clear g2 g3 C;subst R;rw[jf N g1];go_wp2_with fail;go_meet
      case rel=>exact⟨rfl,_,dj,_,rfl,g1.trans ag,HA,HB⟩
     |false=>
      have HT:=a8 (show fC Cd.uid J.toList a A by
       by_cases h:a<p∧p<A
       ·have:=Z.2 h;cases this
       ·by_cases hc:a<p
        ·obtain rfl:p=A:=(by omega);exact au
        ·obtain rfl:a=p:=(by omega);exact av.out)
      go_wp2_with fail;go_meet
      case rel=>exact⟨rfl,n1,J,o1,rfl,ag,a8 (Seg.refl _ _ _),HT⟩
   case rest=>
   clear ai K Z;obtain⟨rfl,n2,M,o2,I,af,ah,an⟩:=hcut;rw[I];clear I;have aj:=iG n2 o2 HH N af;have K:G<(srW k w G n2 M o2).heap.size:=Pb N (lC _ _ _ _ _);have ao:=a8 (aO.left Cd.uid ah);have aA:=a8 (aM.out.out Cd.uid ah (Or.inr (OV _)));have aB:=a8 (aN.out.out Cd.uid ah (Or.inr (show A≤E by omega)));have al:=a8 (aR.trans (ah.mono (OV _) (show A≤b by omega)));by_cases O:A<E
   ·have ac:(A:Int)<(E:Int):=(by omega);by_cases Q:E<b
    ·have ad:(E:Int)<(b:Int):=(by omega);have C:=a8 (HI.out G cap A E b (A:Int) (E:Int) (b:Int) d.size M _ rfl rfl rfl af.symm (by omega) aj K O Q (by omega) (by omega) aA aB);clear aj;generalize R:srW k w G n2 M o2=wq at C K⊢;go_wp2_with fail;refine C.mono ?_;rintro e w2 ⟨rfl,q2,dj,aJ,⟨g1,g2,g3⟩,rfl⟩;have HA:=a8 g2;have HB:=a8 g3;clear g2 g3 C;subst R;rw[jf N g1];go_wp2
     go_end0
     exact⟨rfl,_,dj,_,⟨g1.trans af,al.trans (HA.mono (by omega) (OV _)),uU Cd.uid (an.out.out Cd.uid HA (Or.inl (OV _))) HB (ao.right Cd.uid HA)⟩,rfl⟩
    ·have ad:¬(E:Int)<(b:Int):=(by omega);have HZ:=a8 (show fC Cd.uid M.toList A b by
      obtain rfl:E=b:=(by omega);exact aA.out)
     clear aj;go_wp2
     go_end0
     exact⟨rfl,n2,M,o2,⟨af,al,uU Cd.uid an HZ ao⟩,rfl⟩
   ·have ac:¬(A:Int)<(E:Int):=(by omega);have HZ:=a8 (show fC Cd.uid M.toList A b by
     obtain rfl:E=A:=(by omega);exact aB.out)
    clear aj;go_wp2
    go_end0
    exact⟨rfl,n2,M,o2,⟨af,al,uU Cd.uid an HZ ao⟩,rfl⟩
theorem zw(L:SrP P k):∀n,Ms P k n
 |0=>fun z cap a m b I R J U d w _ _ _ _ h=>by omega
 |n+1=>by
  intro z cap a m b I R J U d w M O E Q hn K A aa Z N G V Y;subst M O E Q;by_cases c1:m=a+1
  ·exact Mf L z cap a m b d w K A c1 Z N G Y
  ·by_cases c2:b=m+1
   ·exact Kl L z cap a m b d w K A (by omega) c2 N G V
   ·refine Me L z cap a m b d w K A (by omega) (by omega) N G V Y ?_;intro z cap a' m' b' I R J U d w M O E Q ab;exact zw L n z cap a' m' b' I R J U d w M O E Q (by omega)
end
end Go.Proofs.YtkkdfgnnlpohlaaGreatDoor
