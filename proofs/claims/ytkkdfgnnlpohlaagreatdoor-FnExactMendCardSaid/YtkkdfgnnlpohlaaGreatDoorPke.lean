import Derived.Test.YtkkdfgnnlpohlaaGreatDoorPka
namespace Go.Proofs.YtkkdfgnnlpohlaaGreatDoor
set_option maxRecDepth 20000
set_option linter.unusedVariables false
set_option linter.unusedSimpArgs false
set_option maxHeartbeats 4000000
open Go.RowKit Go.Proofs.Tryz
variable {W X Y w w' w0 wr : World} {A B at_ b b2 base' c cap e f g go gs hi i j k lo m n s u val z : Nat} {E G I J K L M N O u0 u1 u2 v0 v1 v2 v3 v4 v5 v6 x y : Value} {o : Oper} {Q : Exit → Act → World → Prop} {cs tmps : Array Value} {t : TypeId} {p : Addr} {l : List Nat} {bvs xs : List Value} {a : List UInt8} {first ok : Bool}
abbrev EN:=BA×Int
abbrev DO:=Int×BA×BA×Int
def noName(es:List EN)(nm:BA):List EN:=es.filter fun e=>decide (e.1≠nm)
def fT(es:List EN)(nm:BA):Option Int:=(es.find? fun e=>decide (e.1=nm)).map (·.2)
def iB(nodes:Int)(es:List EN)(o:DO):Option (List EN):=
 if o.1=1 then(if eX o.2.1=true∧o.2.2.1.toList=[]∧0≤o.2.2.2∧o.2.2.2<nodes∧(∀e∈es,e.2≠o.2.2.2) then some (kh (noName es o.2.1) o.2.1 o.2.2.2) else none)
 else if o.1=4 then(match fT es o.2.1 with
  |none=>none
  |some nd=>if eX o.2.2.1=true∧o.2.2.1≠o.2.1∧o.2.2.2=0 then some (kh (noName (noName es o.2.1) o.2.2.1) o.2.2.1 nd) else none)
 else if o.1=5 then(match fT es o.2.1 with
  |none=>none
  |some _=>if o.2.2.1.toList=[]∧o.2.2.2=0 then some (noName es o.2.1) else none)
 else none
def xV(w:World):Option (List EN)→Ending→World→Prop
 |none,e,w'=>e= .returned (.tuple #[sN,.bool false])∧Below w.heap.size w w'
 |some l,e,w'=>∃a c,e= .returned (.tuple #[.slice a l.length c,.bool true])∧ib w' w.heap.size (.slice a l.length c) l∧Below w.heap.size w w'
theorem Bh{z:List EN}{nm:BA}(h:∀i (h:i<z.length),z[i].1≠nm):fT z nm=none:=by
 unfold fT;rw[List.find?_eq_none.2 (fun x A=>by
  obtain⟨i,hi,rfl⟩:=Pr A;simpa using h i hi)]
 rfl
theorem Bi{z:List EN}{nm:BA}(hi:i<z.length)(A:z[i].1=nm)(E:∀k (I:k<i),z[k].1≠nm):fT z nm=some z[i].2:=by
 unfold fT;have:z.find? (fun e=>decide (e.1=nm))=some z[i]:=by
  rw[List.find?_eq_some_iff_getElem];refine⟨by simpa using A,i,hi,rfl,fun j G=>by simpa using E j G⟩
 rw[this];rfl
theorem AK(a:OA)(cap:Nat)(z:List EN)(nm:BA)(w:World)(N:z.length≤1048574)(G:fI w a z):
  Calls prog 46 #[.slice a z.length cap,.string nm] w fun e w'=>((∃i nd,i<z.length∧fT z nm=some nd∧(∀b A,a=some ⟨b,A,none⟩→w.cell? ⟨b,A+i*2+1,none⟩=some (.int .i64 nd))∧e= .returned (.int .i64 ((i:Nat):Int)))∨(fT z nm=none∧e= .returned (.int .i64 (-1))))∧w'=w:=by
 refine(Dq a cap z nm w (by omega) G).mono ?_;rintro e w' ⟨h,rfl⟩;refine⟨?_,rfl⟩;rcases h with⟨i,hi,I,J,rfl⟩|⟨h,rfl⟩
 ·refine .inl ⟨i,z[i].2,hi,Bi hi I J,fun b A e=> ?_,rfl⟩;obtain⟨M,L,E,K⟩:=G (by omega);rw[e] at E;simp only[OY,PG,and_true] at E;obtain⟨rfl,rfl⟩:=E;exact(K i hi).2
 ·exact .inr ⟨Bh h,rfl⟩
theorem jW{R:Option (List EN)}(h:R=none)(z:Below w.heap.size w w'):xV w R (.returned (.tuple #[sN,.bool false])) w':=by subst h;exact⟨rfl,z⟩
theorem yV{R:Option (List EN)}{l:List EN}{a:OA}(h:R=some l)(A:ib w' w.heap.size (.slice a l.length c) l)(z:Below w.heap.size w w'):xV w R (.returned (.tuple #[.slice a l.length c,.bool true])) w':=by subst h;exact⟨a,c,rfl,A,z⟩
theorem Np(nodes:Int)(z:List EN)(nm A:BA)(nd:Int):iB nodes z (1,nm,A,nd)=if eX nm=true∧A.toList=[]∧0≤nd∧nd<nodes∧(∀e∈z,e.2≠nd) then some (kh (noName z nm) nm nd) else none:=rfl
theorem Nq(nodes:Int)(A:List EN)(nm z:BA)(nd:Int):iB nodes A (4,nm,z,nd)=(match fT A nm with|none=>none|some n0=>if eX z=true∧z≠nm∧nd=0 then some (kh (noName (noName A nm) z) z n0) else none):=rfl
theorem Nr(nodes:Int)(z:List EN)(nm A:BA)(nd:Int):iB nodes z (5,nm,A,nd)=(match fT z nm with|none=>none|some _=>if A.toList=[]∧nd=0 then some (noName z nm) else none):=rfl
theorem yy(a:OA)(cap:Nat)(A:List EN)(Q:Int)(nm G:BA)(nd nodes:Int)(w:World)(hn:A.length≤1048573)(aV:nm.size≤1048576)(aW:G.size≤1048576)(hr:fI w a A):
  Calls prog 68 #[.slice a A.length cap,.agg #[.int .i64 Q,.string nm,.string G,.int .i64 nd],.int .i64 nodes] w (xV w (iB nodes A (Q,nm,G,nd))):=by
 have hB0:Below w.heap.size w (w.alloc (.cells #[.int .i64 Q,.string nm,.string G,.int .i64 nd] 111)):=(OX _ _).alloc (OV _) _;have L0:=ed.new w #[.int .i64 Q,.string nm,.string G,.int .i64 nd] 111;have ah:=hr.below hB0;have ak:=a8 (fun nm=>AK a cap A nm _ (by omega) ah);go_enter func68,ntmps68;go_wp2_with fail;generalize w.alloc (.cells #[.int .i64 Q,.string nm,.string G,.int .i64 nd] 111)=W0 at hB0 L0 ah ak⊢;refine(ak.out nm).mono ?_;rintro e O ⟨aq,rfl⟩;obtain⟨q0,q1,q2,q3⟩:=L0.c4;have Z:=a8 aq;have I:=a8 hB0;have af:=a8 ah;have aT:=a8 L0;clear aq hB0 ah L0 ak hr;obtain⟨at_,aP⟩:∃v,e= .returned (.int .i64 v):=by
  rcases Z.out with⟨i,_,_,_,_,rfl⟩|⟨_,rfl⟩
  ·exact⟨_,rfl⟩
  ·exact⟨_,rfl⟩
 subst aP;by_cases k1:Q=1
 ·subst k1;have z:=Np nodes A nm G nd;by_cases N:eX nm=true
  ·by_cases J:G.toList=[]
   ·have an:(G.toList==[])=true:=(by simpa using J);by_cases R:0≤nd
    ·by_cases c4:nd<nodes
     ·have ay:¬nd<0:=(by omega);have aN:¬nodes≤nd:=(by omega);have E:=a8 z;clear z;go_wp2_with fail;refine(eS nm O (by omega)).mono ?_;rintro e K ⟨rfl,rfl⟩;rw[N];go_wp2;go_loopw [10,42] (fun _ i wr=>∃k:Nat,k≤A.length∧i=iI k∧(∀j (h:j<A.length),j<k→A[j].2≠nd)∧Below K.heap.size K wr) (fun _ i _=>A.length-(intOf i).toNat)
      case atStart=>exact⟨0,O4 _,rfl,fun j _ h=>by omega,OX _ _⟩
      case round=>
       obtain⟨k,hk,rfl,aE,aa⟩:=hrel;have av:=a8 aE;have aj:=bTr I aa;have p1:=(aa.cell (p:=⟨w.heap.size,1,none⟩) (dG q1)).trans q1;have p3:=(aa.cell (p:=⟨w.heap.size,3,none⟩) (dG q3)).trans q3;have ax:=a8 (af.below aa);have HN:=a8 aa;clear aE aa;by_cases aD:k<A.length
       ·obtain⟨b,ap,rfl,hc⟩:=ax.out (by omega);obtain⟨aB,aC⟩:=hc k aD;have aY:w.heap.size<wr.heap.size:=dG p3;by_cases hx:A[k].2=nd
        ·have HX:=a8 (show¬(eX nm=true∧G.toList=[]∧0≤nd∧nd<nodes∧∀e∈A,e.2≠nd) from fun h=>h.2.2.2.2 A[k] (O6 aD) hx);rw[hx] at aC;generalize A[k].1=x0 at aB;clear hc hx;go_wp2;go_ret2;exact jW (by rw[E.out,OR HX.out]) (aj.alloc (by omega) _)
        ·have aS:(A[k].2==nd)=false:=(by simpa using hx);have HX:=a8 hx;generalize A[k].1=x0 at aB;generalize aR:A[k].2=x1 at aC aS;clear hc hx aR;go_wp2;go_roundw
         case rel=>exact⟨k+1,by omega,by go_num,fun j h h'=>by
          by_cases e:j=k
          ·subst e;exact HX
          ·exact av.out j h (by omega),HN.alloc HN.size _⟩
         case measure=>simp[intOf];omega
       ·obtain rfl:k=A.length:=(by omega);have HX:=a8 (show(eX nm=true∧G.toList=[]∧0≤nd∧nd<nodes∧∀e∈A,e.2≠nd) from⟨N,J,R,c4,fun e he=>by
         obtain⟨j,hj,rfl⟩:=Pr he;exact av.out j hj hj⟩)
        go_wp2_with fail;refine(tY a cap A nm nd wr (by omega) ax).mono ?_;rintro e w3 ⟨v3,rfl,V,ac⟩;obtain⟨a3,aM,rfl⟩:=V.slice;have ab:=a8 V;have ai:=a8 ac;clear V ac;generalize ad:kh (A.filter fun e=>decide (e.1≠nm)) nm nd=L at ab;have al:=a8 ad;clear ad;have Y:w.heap.size≤wr.heap.size:=aj.size;go_wp2;go_ret2;exact yV (by rw[E.out,OS HX.out];exact OL some al) (ab.mono Y) (aj.trans (ai.mono Y))
     ·have ay:¬nd<0:=(by omega);have aN:nodes≤nd:=(by omega);have E:=a8 (z.trans (OR (fun h=>c4 h.2.2.2.1)));clear z;go_wp2_with fail;refine(eS nm O (by omega)).mono ?_;rintro e K ⟨rfl,rfl⟩;rw[N];go_wp2;go_ret2;exact jW E I.out
    ·have ay:nd<0:=(by omega);have E:=a8 (z.trans (OR (fun h=>R h.2.2.1)));clear z;go_wp2_with fail;refine(eS nm O (by omega)).mono ?_;rintro e K ⟨rfl,rfl⟩;rw[N];go_wp2;go_ret2;exact jW E I.out
   ·have an:(G.toList==[])=false:=(by simpa using J);have E:=a8 (z.trans (OR (fun h=>J h.2.1)));clear z;go_wp2_with fail;refine(eS nm O (by omega)).mono ?_;rintro e K ⟨rfl,rfl⟩;rw[N];go_wp2;go_ret2;exact jW E I.out
  ·have am:eX nm=false:=(by simpa using N);have E:=a8 (z.trans (OR (fun h=>N h.1)));clear z;go_wp2_with fail;refine(eS nm O (by omega)).mono ?_;rintro e K ⟨rfl,rfl⟩;rw[am];go_wp2;go_ret2;exact jW E I.out
 ·have aZ:(Q==1)=false:=(by simpa using k1);by_cases k4:Q=4
  ·subst k4;have z:=Nq nodes A nm G nd;rcases Z.out with⟨i,n0,hi,M,ag,U⟩|⟨M,U⟩
   ·obtain rfl:at_=(i:Int):=by simpa using U
    rw[M] at z;simp only at z;have aO:¬(i:Int)<0:=(by omega);have au:=a8 ag;clear Z ag U;by_cases N:eX G=true
    ·by_cases J:G=nm
     ·have E:=a8 (z.trans (OR (fun h=>h.2.1 J)));have hq:=iE J;clear z M J;go_wp2_with fail;refine(eS G O (by omega)).mono ?_;rintro e K ⟨rfl,rfl⟩;rw[N];go_wp2;go_ret2;exact jW E I.out
     ·have hq:=iF J;by_cases R:nd=0
      ·have E:=a8 (z.trans (OS ⟨N,J,R⟩));subst R;obtain⟨b,ap,rfl,hc⟩:=af.out (by omega);have aU:=au.out b ap rfl;clear z M J hc au;go_wp2_with fail;refine(eS G O (by omega)).mono ?_;rintro e K ⟨rfl,rfl⟩;rw[N];go_wp2;have aL:=a8 (fun(W:World) (hW:Below K.heap.size K W)=>mi (some ⟨b,ap,none⟩) cap A nm W (by omega) (af.below hW));have aQ:(noName A nm).length≤1048573:=O0 (PK _ _) hn;go_region_with (first
        |(go_at_call 98;refine(aL.out _ (OX _ _).drew).mono ?_;rintro e w4 ⟨v4,rfl,aF,ao⟩;have ae:ib w4 K.heap.size v4 (noName A nm):=aF;generalize az:noName A nm=L4 at ae aQ;obtain⟨a4,c4,rfl⟩:=ae.slice;have p2:w4.cell? ⟨w.heap.size,2,none⟩=some (.string G):=(ao.cell (p:=⟨w.heap.size,2,none⟩) (dG q2)).trans q2;have aK:=a8 ae;have aH:=a8 ao;have aJ:=a8 az;clear aF ae ao az)
        |(go_at_call 97;refine(tY a4 c4 L4 G n0 w4 (by omega) aK.at).mono ?_;rintro e w5 ⟨v5,rfl,aG,aA⟩;have aw:=a8 aG;have aI:=a8 aA;clear aG aA))
       all_goals
        obtain⟨a5,c5,e5⟩:=aw.slice;subst e5;have Y:=I.size;have ar:Below K.heap.size K w4:=(OX K.heap.size K).drew.trans aH.out;have aX:=ar.size;go_wp2;go_ret2;exact yV (E.trans (by rw[aJ.out];rfl)) (aw.mono (by omega)) ((I.trans (ar.mono Y)).trans (aI.mono (by omega)))
      ·have hz:(nd !=0)=true:=(by simpa using R);have E:=a8 (z.trans (OR (fun h=>R h.2.2)));clear z M J;go_wp2_with fail;refine(eS G O (by omega)).mono ?_;rintro e K ⟨rfl,rfl⟩;rw[N];go_wp2;go_ret2;exact jW E I.out
    ·have am:eX G=false:=(by simpa using N);have E:=a8 (z.trans (OR (fun h=>N h.1)));clear z M;go_wp2_with fail;refine(eS G O (by omega)).mono ?_;rintro e K ⟨rfl,rfl⟩;rw[am];go_wp2;go_ret2;exact jW E I.out
   ·obtain rfl:at_= -1:=by simpa using U
    rw[M] at z;simp only at z;have E:=a8 z;clear z M Z U;go_wp2;go_ret2;exact jW E I.out
  ·have ba:(Q==4)=false:=(by simpa using k4);by_cases k5:Q=5
   ·subst k5;have z:=Nr nodes A nm G nd;rcases Z.out with⟨i,n0,hi,M,ag,U⟩|⟨M,U⟩
    ·obtain rfl:at_=(i:Int):=by simpa using U
     rw[M] at z;simp only at z;have aO:¬(i:Int)<0:=(by omega);clear Z ag U;by_cases J:G.toList=[]
     ·have an:(G.toList==[])=true:=(by simpa using J);by_cases R:nd=0
      ·have E:=a8 (z.trans (OS ⟨J,R⟩));subst R;clear z M;go_wp2_with fail;refine(mi a cap A nm O (by omega) af).mono ?_;rintro e w3 ⟨v3,rfl,V,ac⟩;obtain⟨a3,aM,rfl⟩:=V.slice;have ab:=a8 V;have ai:=a8 ac;clear V ac;generalize ad:(A.filter fun e=>decide (e.1≠nm))=L at ab;have al:=a8 ad;clear ad;have Y:=I.size;go_wp2;go_ret2;exact yV (E.trans (OL some al)) (ab.mono Y) (I.trans (ai.mono Y))
      ·have hz:(nd !=0)=true:=(by simpa using R);have E:=a8 (z.trans (OR (fun h=>R h.2)));clear z M;go_wp2;go_ret2;exact jW E I.out
     ·have an:(G.toList==[])=false:=(by simpa using J);have E:=a8 (z.trans (OR (fun h=>J h.1)));clear z M;go_wp2;go_ret2;exact jW E I.out
    ·obtain rfl:at_= -1:=by simpa using U
     rw[M] at z;simp only at z;have E:=a8 z;clear z M Z U;go_wp2;go_ret2;exact jW E I.out
   ·have bb:(Q==5)=false:=(by simpa using k5);have E:=a8 (show iB nodes A (Q,nm,G,nd)=none by unfold iB;simp only;rw[OR k1,OR k4,OR k5]);go_wp2;go_ret2;exact jW E I.out
end Go.Proofs.YtkkdfgnnlpohlaaGreatDoor
