import Derived.Test.YtkkdfgnnlpohlaaGreatDoorPkzd
namespace Go.Proofs.YtkkdfgnnlpohlaaGreatDoor
set_option maxRecDepth 20000
set_option linter.unusedVariables false
set_option linter.unusedSimpArgs false
set_option maxHeartbeats 4000000
open Go.RowKit Go.Proofs.Tryz
variable {W X Y w w' w0 wr : World} {A B at_ b b2 base' c cap e f g go gs hi i j k lo m n s u val z : Nat} {E G I J K L M N O u0 u1 u2 v0 v1 v2 v3 v4 v5 v6 x y : Value} {o : Oper} {Q : Exit → Act → World → Prop} {cs tmps : Array Value} {t : TypeId} {p : Addr} {l : List Nat} {bvs xs : List Value} {a : List UInt8} {first ok : Bool}
theorem BE{ms:List IM}(h:0<ms.length):lB ms u=decide ((ms[ms.length-1]'(by omega)).uid<u):=by
 unfold lB;rw[List.getLast?_eq_getElem?,OZ (by omega)]
theorem yR(M V B:Nat)(w wr:World)(s:IX)(mv:Value)(ws:List BA)(hR:RdI M V B w wr s mv ws)(hE:∀w',dX M B w w'→Env w')(aH:∀y∈ws,y.size≤40000)(bK:s.mails.length≤100):
  Calls prog 150 #[pP M,pP V] wr (xT M V B w (dV false ([65]::ws.map (·.data.toList)) s)):=by
 have HE:=a8 hE;have HR:=a8 hR;have bn:=a8 aH;have C1:=a8 (kX V ws wr hR.tw (hR.env hE) aH);clear hR hE aH;go_enter func150,ntmps150;go_wp2_with fail;refine C1.mono ?_;rintro e z ⟨aA,⟨x1,r1,u,rfl,hn1,rfl,aS⟩|⟨Z,hn1⟩⟩
 ·have N:=a8 (HR.word aA aS);have aN:=a8 hn1;have bL:=ey hn1;have bM:(u:Int)≤4294967295:=(by omega);clear aA aS hn1 C1 HR;by_cases ay:u=4294967295
  ·have L:=a8 (show dV false ([65]::(x1::r1).map (·.data.toList)) s=none from mQ (fun _ _=>NU (yM (by have h:=aN.out;rw[ay] at h;exact h))));have bw:((u:Int)==4294967295)=true:=(by simp;omega);clear ay;go_wp2;exact⟨rfl,Or.inr ⟨⟨_,rfl⟩,L,N.bad⟩⟩
  ·have bw:((u:Int)==4294967295)=false:=(by simp;omega);have aK:=a8 (Gz aN ay);have bC:(u:Int)≤4294967294:=(by omega);obtain⟨Q,nm,R,bt⟩:=eG N.row;subst bt;have bu:nm=s.mails.length:=by
    obtain⟨a',c',e'⟩:=dM.slice N.row;rw[OW] at e';simp only[O3] at e';exact e'.2.1
   subst bu;obtain⟨-,-,-,-,-,-,-,-,-,c9⟩:=N.st.c10;clear ay;by_cases an:s.mails.length=100
   ·have L:=a8 (show dV false ([65]::(x1::r1).map (·.data.toList)) s=none from mQ (fun _ h=>by omega));have aJ:((s.mails.length:Int)==100)=true:=(by simp;omega);clear an;go_wp2;exact⟨rfl,Or.inr ⟨⟨_,rfl⟩,L,N.bad⟩⟩
   ·have aJ:((s.mails.length:Int)==100)=false:=(by simp;omega);by_cases aa:lB s.mails u=true
    ·have bm:=a8 aa;have bh:=a8 (show s.mails.length<100 by omega);have be:=a8 (show∀g,(Value.slice Q s.mails.length R).ownBlock=some g→g<z.heap.size from fun g hg=>(dM.lt N.row g hg).2);go_upto_region 6 with fail;go_cut [35] (fun c wx=>c= .bool false∧wx=z)
     case first=>
      by_cases hp:0<s.mails.length
      ·obtain⟨g,aF,_,_⟩:=N.row.at0 (by rw[OW];omega);subst aF;obtain⟨k,hk⟩:∃k,s.mails.length=k+1:=⟨s.mails.length-1,by omega⟩
       have k0:z.cell? ⟨g,k*6,none⟩=some (.int .u32 (((s.mails[k]'(by omega)).uid:Nat):Int)):=qR N.row k (by omega) 0 (by omega);have bc:(s.mails[k]'(by omega)).uid<u:=by
        rw[BE hp] at aa;have:=OU aa;simp only[hk,Nat.add_sub_cancel] at this;omega
       generalize (s.mails[k]'(by omega)).uid=lu at k0 bc;have bf:¬(u:Int)≤(lu:Int):=(by omega);have bq:(0:Int)<(s.mails.length:Int):=(by omega);have bJ:(s.mails.length:Int)-1=(k:Int):=(by omega);have br:(k:Int)<(s.mails.length:Int):=(by omega);have bN:IntKind.i64.wrap (k:Int)=(k:Int):=(by rw[IntKind.wrap_i64];omega);clear aa hp hk an bc;go_wp2_with fail;go_meet
       case rel=>exact⟨rfl,rfl⟩
      ·have h0:¬(0:Int)<(s.mails.length:Int):=(by omega);clear aa hp an;go_wp2_with fail;go_meet
       case rel=>exact⟨rfl,rfl⟩
     case rest=>
     obtain⟨rfl,bd⟩:=hcut;rw[bd];clear bd c9 aa an;have aX:=nAl z (.cells #[uI u,.int .i64 0,.int .u32 0,sN,.int .i64 0,.bool false] 243);have ao:=a8 (dQ z #[uI u,.int .i64 0,.int .u32 0,sN,.int .i64 0,.bool false] 243);have ad:=a8 (N.below aX);have aO:=a8 (show∀y∈r1,y.size≤40000 from fun y hy=>bn.out y (O8 _ hy));have aB:B≤z.heap.size:=N.sz;have ba:∀g,(Value.slice Q s.mails.length R).ownBlock=some g→g≠z.heap.size:=fun g hg e=>(by have:=be.out g hg;omega);have az:=a8 (show(Value.slice Q s.mails.length R).ownBlock≠some z.heap.size from fun e=>ba _ e rfl);clear aX ba N;go_upto_region 9 with fail;generalize z.alloc (.cells #[uI u,.int .i64 0,.int .u32 0,sN,.int .i64 0,.bool false] 243)=W2 at ao ad⊢;have C2:=a8 (jT V 0 1000000000000 r1 W2 ad.tw (ad.env HE) aO (by omega));obtain⟨-,g2⟩:=ao.c2;go_wp2_with fail;refine C2.mono ?_;rintro e w2 ⟨au,⟨x2,r2,E,rfl,ah,rfl,aT⟩|⟨Z,ah⟩⟩
     rotate_left
     ·obtain⟨t,rfl⟩:=Z;have L:=a8 (show dV false ([65]::(x1::r1).map (·.data.toList)) s=none from mQ (fun hl _=>by
       match r1,hl,ah with
       |x::r,hl,hn=>exact Oo hn))
      have U:=a8 (oX ad au);clear ah au C2 g2;go_wp2;exact⟨rfl,Or.inr ⟨⟨t,rfl⟩,L,U⟩⟩
     have bi:=a8 ah;have bE:=(ey ah).2;have bx:(E:Int)≤1000000000000:=(by omega);have O:=a8 (ad.word au aT);have A:=a8 (ao.keepB (au.block z.heap.size ao.lt (by
      obtain⟨gr,aI,c,aE,hq,_⟩:=ad.tw;exact l9 ao hq (by decide))))
     have aP:=a8 (show∀y∈r2,y.size≤40000 from fun y hy=>aO.out y (O8 _ hy));have ae:=a8 (O.aside (j:=1) A aB az (iI E));have ap:=a8 (show Blk (w2.setCell ⟨z.heap.size,1,none⟩ (iI E)) z.heap.size #[uI u,iI E,.int .u32 0,sN,.int .i64 0,.bool false] 243 from by
      have h:=A.set 1 (iI E);simpa using h)
     obtain⟨-,g2⟩:=A.c2;have fg:=fun j=>A.fz j;clear au ah aT C2 O A;go_upto_region 10 with fail;clear g2 fg;generalize w2.setCell ⟨z.heap.size,1,none⟩ (iI E)=W3 at ae ap⊢;have C3:=a8 (wN V r2 W3 ae.tw (ae.env HE) aP);obtain⟨-,-,g3⟩:=ap.c3;go_wp2_with fail;refine C3.mono ?_;rintro e w3 ⟨av,⟨x3,r3,I,rfl,ai,rfl,aU⟩|⟨Z,ai⟩⟩
     rotate_left
     ·obtain⟨t,rfl⟩:=Z;have L:=a8 (show dV false ([65]::(x1::x2::r2).map (·.data.toList)) s=none from mQ (fun hl _=>by
       match r2,hl,ai with
       |x::r,hl,hn=>exact Oq hn))
      have U:=a8 (oX ae av);clear ai av C3 g3;go_wp2;exact⟨rfl,Or.inr ⟨⟨t,rfl⟩,L,U⟩⟩
     have bj:=a8 ai;have bF:=(ey ai).2;have bz:(I:Int)≤2147483647:=(by omega);have O:=a8 (ae.word av aU);have A:=a8 (ap.keepB (av.block z.heap.size ap.lt (by
      obtain⟨gr,aI,c,aE,hq,_⟩:=ae.tw;exact l9 ap hq (by decide))))
     have aQ:=a8 (show∀y∈r3,y.size≤40000 from fun y hy=>aP.out y (O8 _ hy));have af:=a8 (O.aside (j:=2) A aB az (uI I));have aq:=a8 (show Blk (w3.setCell ⟨z.heap.size,2,none⟩ (uI I)) z.heap.size #[uI u,iI E,uI I,sN,.int .i64 0,.bool false] 243 from by
      have h:=A.set 2 (uI I);simpa using h)
     obtain⟨-,-,g3⟩:=A.c3;have fg:=fun j=>A.fz j;clear av ai aU C3 O A;go_upto_region 11 with fail;clear g3 fg;generalize w3.setCell ⟨z.heap.size,2,none⟩ (uI I)=W4 at af aq⊢;have C4:=a8 (jT V 0 40000 r3 W4 af.tw (af.env HE) aQ (by omega));obtain⟨-,-,-,-,g4⟩:=aq.c5;go_wp2_with fail;refine C4.mono ?_;rintro e w4 ⟨aw,⟨x4,r4,J,rfl,aj,rfl,aV⟩|⟨Z,aj⟩⟩
     rotate_left
     ·obtain⟨t,rfl⟩:=Z;have L:=a8 (show dV false ([65]::(x1::x2::x3::r3).map (·.data.toList)) s=none from mQ (fun hl _=>by
       match r3,hl,aj with
       |x::r,hl,hn=>exact Ot hn))
      have U:=a8 (oX af aw);clear aj aw C4 g4;go_wp2;exact⟨rfl,Or.inr ⟨⟨t,rfl⟩,L,U⟩⟩
     have bk:=a8 aj;have bG:=(ey aj).2;have bA:(J:Int)≤40000:=(by omega);have O:=a8 (af.word aw aV);have A:=a8 (aq.keepB (aw.block z.heap.size aq.lt (by
      obtain⟨gr,aI,c,aE,hq,_⟩:=af.tw;exact l9 aq hq (by decide))))
     have aR:=a8 (show∀y∈r4,y.size≤40000 from fun y hy=>aQ.out y (O8 _ hy));have ag:=a8 (O.aside (j:=4) A aB az (iI J));have ar:=a8 (show Blk (w4.setCell ⟨z.heap.size,4,none⟩ (iI J)) z.heap.size #[uI u,iI E,uI I,sN,iI J,.bool false] 243 from by
      have h:=A.set 4 (iI J);simpa using h)
     obtain⟨-,-,-,-,g4⟩:=A.c5;have fg:=fun j=>A.fz j;clear aw aj aV C4 O A;go_upto_region 12 with fail;clear g4 fg;generalize w4.setCell ⟨z.heap.size,4,none⟩ (iI J)=W5 at ag ar⊢;have C5:=a8 (jT V 0 1 r4 W5 ag.tw (ag.env HE) aR (by omega));obtain⟨-,-,-,-,-,g5⟩:=ar.c6;go_wp2_with fail;refine C5.mono ?_;rintro e w5 ⟨ax,⟨x5,r5,G,rfl,ak,rfl,aW⟩|⟨Z,ak⟩⟩
     rotate_left
     ·obtain⟨t,rfl⟩:=Z;have L:=a8 (show dV false ([65]::(x1::x2::x3::x4::r4).map (·.data.toList)) s=none from mQ (fun hl _=>by
       match r4,hl,ak with
       |x::r,hl,hn=>exact Ou hn))
      have U:=a8 (oX ag ax);clear ak ax C5 g5;go_wp2;exact⟨rfl,Or.inr ⟨⟨t,rfl⟩,L,U⟩⟩
     have bl:=a8 ak;have bH:=(ey ak).2;have bB:(G:Int)≤1:=(by omega);have O:=a8 (ag.word ax aW);have A:=a8 (ar.keepB (ax.block z.heap.size ar.lt (by
      obtain⟨gr,aI,c,aE,hq,_⟩:=ag.tw;exact l9 ar hq (by decide))))
     have bD:=a8 (show∀y∈r5,y.size≤40000 from fun y hy=>aR.out y (O8 _ hy));have ac:=a8 (O.aside (j:=5) A aB az (.bool (decide (G=1))));have ab:=a8 (show Blk (w5.setCell ⟨z.heap.size,5,none⟩ (.bool (decide (G=1)))) z.heap.size #[uI u,iI E,uI I,sN,iI J,.bool (decide (G=1))] 243 from by
      have h:=A.set 5 (.bool (decide (G=1)));simpa using h)
     obtain⟨-,-,-,-,-,g5⟩:=A.c6;have fg:=fun j=>A.fz j;have bI:((G:Int)==1)=decide (G=1):=(by by_cases h:G=1<;>simp[h]<;>omega);clear ax ak aW C5 O A;go_upto_region 13 with fail;clear g5 fg;generalize w5.setCell ⟨z.heap.size,5,none⟩ (.bool (decide (G=1)))=K at ac ab⊢;have bg:s.mails.length≤1048576:=(by omega);have LK:=a8 (fun(Y:World) (e1:Y.heap=(K.alloc (.cells #[uI u,iI E,uI I,sN,iI J,.bool (decide (G=1))] 243)).heap) (e2:Y.os=K.os) (e3:Y.tape=K.tape) (e4:Y.output=K.output)=>((⟨dM.keep ac.row (fun g hg=>by rw[e1];exact(nAl K _).block g (dM.lt ac.row g hg).2),(fun j v hj=>by rw[ef (w:=K.alloc (.cells #[uI u,iI E,uI I,sN,iI J,.bool (decide (G=1))] 243)) (by rw[e1]),(dQ K #[uI u,iI E,uI I,sN,iI J,.bool (decide (G=1))] 243).cell j];simpa[il0] using hj),(by rw[e1];simp;have:=ac.sz;omega),(fun v' w' ho hg=>No ac e1 e2 e3 e4 ho hg)⟩):nC Y B (.slice Q s.mails.length R) s.mails∧(∀j v,(il0 ⟨u,E,I,J,G⟩)[j]? =some v→Y.cell? ⟨K.heap.size,j,none⟩=some v)∧B≤Y.heap.size∧(∀v' w',nC w' B v' (s.mails++[⟨u,E,I,J,G⟩])→Y.grownBy w' (Value.slice Q s.mails.length R).ownBlock→w'.cell? ⟨M,9,none⟩=some (.slice Q s.mails.length R)∧w'.frozen? ⟨M,9,none⟩=false∧RdI M V B w (w'.setCell ⟨M,9,none⟩ v') {s with mails:=s.mails++[⟨u,E,I,J,G⟩]} v' r5)));obtain⟨-,-,-,-,-,-,-,-,-,c9⟩:=ac.st.c10;obtain⟨q0,q1,q2,q3,q4,q5⟩:=ab.c6;have aY:=(nAl K (.cells #[uI u,iI E,uI I,sN,iI J,.bool (decide (G=1))] 243)).drew;have bo:(K.alloc (.cells #[uI u,iI E,uI I,sN,iI J,.bool (decide (G=1))] 243)).drew.cell? ⟨M,9,none⟩=some (.slice Q s.mails.length R):=(aY.cell (p:=⟨M,9,none⟩) ac.st.lt).trans c9;clear aY;go_region_law (first
      |(refine uV _ (by rfl) (.tmp 61) (.tmp 63) (by rfl) B (.slice Q s.mails.length R) s.mails ⟨u,E,I,J,G⟩ K.heap.size 1 (by simp[go_sem]) (by simp[go_sem]) (LK.out _ (by rfl) (by rfl) (by rfl) (by rfl)).1 (LK.out _ (by rfl) (by rfl) (by rfl) (by rfl)).2.1 bg (LK.out _ (by rfl) (by rfl) (by rfl) (by rfl)).2.2.1 ?_;intro v7 w7 aG aZ;have aC:=(LK.out _ (by rfl) (by rfl) (by rfl) (by rfl)).2.2.2 v7 w7 aG aZ;obtain⟨a7,n7,c7,rfl⟩:=eG aG;have z9:=aC.1;have bp:=aC.2.1;have aD:=a8 aC.2.2;clear aC aG aZ)
      |fail)
     all_goals
      clear z9 bp c9 bo q0 q1 q2 q3 q4 q5;go_upto_region 14 with fail;generalize w7.setCell ⟨M,9,none⟩ (.slice a7 n7 c7)=W8 at aD⊢;have CP:=a8 (Bu M {s with mails:=s.mails++[⟨u,E,I,J,G⟩]} (.slice a7 n7 c7) u W8 aD.st (by omega));have L:=a8 (show dV false ([65]::(x1::x2::x3::x4::x5::r5).map (·.data.toList)) s=if r5=[] then some {s with next:=if s.next≤u then u+1 else s.next,mails:=s.mails++[⟨u,E,I,J,G⟩]} else none from by
       by_cases hr:r5=[]
       ·subst hr;rw[OS rfl];exact Le bh aK bi bj bk bl bm.out
       ·rw[OR hr];exact mQ (fun hl _=>OH (by simpa using hl) hr))
      have aM:=a8 (aD.put 1 (.int .u32 ((if s.next≤u then u+1 else s.next:Nat):Int)) {s with next:=if s.next≤u then u+1 else s.next,mails:=s.mails++[⟨u,E,I,J,G⟩]} rfl rfl);go_wp2_with fail;refine CP.mono ?_;rintro e w8 ⟨rfl,rfl⟩;generalize W8.setCell ⟨M,1,none⟩ (.int .u32 ((if s.next≤u then u+1 else s.next:Nat):Int))=W9 at aM⊢;clear CP;go_wp2
      go_end0
      exact Or.inl ⟨_,_,r5,rfl,aM,L⟩
    ·have al:lB s.mails u=false:=(by simpa using aa);have L:=a8 (show dV false ([65]::(x1::r1).map (·.data.toList)) s=none from mQ (fun _ _=>Ov aK al));have aL:0<s.mails.length:=by
      by_cases h:0<s.mails.length
      ·exact h
      ·exfalso;have:s.mails=[]:=Pp.1 (by omega);rw[this] at al;simp[lB] at al
     obtain⟨g,aF,_,_⟩:=N.row.at0 (by rw[OW];omega);subst aF;obtain⟨k,hk⟩:∃k,s.mails.length=k+1:=⟨s.mails.length-1,by omega⟩
     have k0:z.cell? ⟨g,k*6,none⟩=some (.int .u32 (((s.mails[k]'(by omega)).uid:Nat):Int)):=qR N.row k (by omega) 0 (by omega);have bb:u≤(s.mails[k]'(by omega)).uid:=by
      rw[BE aL] at al;have:=of_decide_eq_false al;simp only[hk,Nat.add_sub_cancel] at this;omega
     generalize (s.mails[k]'(by omega)).uid=lu at k0 bb;have bf:(u:Int)≤(lu:Int):=(by omega);have bq:(0:Int)<(k:Int)+1:=(by omega);have br:(k:Int)≤100:=(by omega);rw[hk] at c9 aJ;clear aa al aL hk an bb;go_wp2;exact⟨rfl,Or.inr ⟨⟨_,rfl⟩,L,N.bad⟩⟩
 ·obtain⟨t,rfl⟩:=Z;have L:=a8 (show dV false ([65]::ws.map (·.data.toList)) s=none from mQ (fun hl _=>by
   match ws,hl,hn1 with
   |x::r,hl,hn1=>exact NU (yN hn1)))
  have U:=a8 (oX HR aA);clear hn1 aA C1;go_wp2;exact⟨rfl,Or.inr ⟨⟨t,rfl⟩,L,U⟩⟩
theorem GI(z B:Nat)(s:IX)(a:OA)(cap u:Nat)(w:World)(h:MbI w z s (.slice a s.mails.length cap))(L:nC w B (.slice a s.mails.length cap) s.mails)(K:s.mails.length≤1048576)(A:(s.mails.map (·.uid)).Pairwise (·<·)):
  Calls prog 151 #[pP z,.int .u32 (u:Int)] w fun e w'=>Hi s.mails u e∧Below w.heap.size w w':=by
 obtain⟨-,-,-,-,-,-,-,-,-,Q⟩:=h.c10;have E:=a8 (fun(Y:World) (R:Below w.heap.size w Y)=>KP B a cap s.mails u Y K (dM.below L R (OV _)) A);generalize s.mails=ms at Q E⊢;clear h L K A;go_enter func151,ntmps151;go_wp2_with fail;refine(E.out _ (by first|exact OX _ _|exact(OX _ _).drew)).mono ?_;rintro e U ⟨⟨i,f,rfl,G,I⟩,J⟩;have M:=a8 G;have N:=a8 I;have O:=a8 J;clear G I J;go_wp2;go_ret2;exact⟨⟨i,f,rfl,M,N⟩,O⟩
theorem tV{ws:List (List UInt8)}{s:IX}(h:ws.head?≠some [86]):dV true ws s=none:=by
 unfold dV;rw[OS rfl];unfold kv;split
 ·next a b c d=>
  rw[OR (fun e=>h (by rw[e];rfl))]
 ·rfl
theorem I4{r:List (List UInt8)}{s:IX}(h:(match r with|[]=>none|x::_=>dT x 1 4294967295)=none):dV true ([86]::r) s=none:=by
 unfold dV;rw[OS rfl];unfold kv;split
 ·next a b c d e=>
  simp only[List.cons.injEq] at e;obtain⟨rfl,rfl⟩:=e;rw[OS rfl];simp only at h;rw[h]
 ·rfl
theorem I5{b:List UInt8}{r:List (List UInt8)}{s:IX}(h:(match r with|[]=>none|x::_=>dT x 1 4294967295)=none):dV true ([86]::b::r) s=none:=by
 unfold dV;rw[OS rfl];unfold kv;split
 ·next a b c d e=>
  simp only[List.cons.injEq] at e;obtain⟨rfl,rfl,rfl⟩:=e;rw[OS rfl];simp only at h;rw[h];split<;>first|rfl|(next h1 h2 h3=>cases h2)
 ·rfl
theorem I6{b c:List UInt8}{r:List (List UInt8)}{s:IX}(h:(match r with|[]=>none|x::_=>dT x 0 99999)=none):dV true ([86]::b::c::r) s=none:=by
 unfold dV;rw[OS rfl];unfold kv;split
 ·next a b c d e=>
  simp only[List.cons.injEq] at e;obtain⟨rfl,rfl,rfl,rfl⟩:=e;rw[OS rfl];simp only at h;rw[h];split<;>first|rfl|(next h1 h2 h3=>cases h3)
 ·rfl
theorem Dp{b c d:List UInt8}{r:List (List UInt8)}{s:IX}{v n g:Nat}(z:dT b 1 4294967295=some v)(A:dT c 1 4294967295=some n)(E:dT d 0 99999=some g):dV true ([86]::b::c::d::r) s=if r=[] then some ⟨v,n,g,s.mails⟩ else none:=by
 unfold dV;rw[OS rfl];unfold kv;cases r with
 |nil=>
  rw[show gH=4294967295 from rfl];simp[z,A,E]
 |cons x xs=>rfl
theorem xh{ws:List (List UInt8)}{s:IX}(z:ws.head?≠some [65])(A:ws.head?≠some [70]):dV false ws s=none:=by
 unfold dV;rw[OR (by simp)];unfold nh;rw[OR (fun h=>A h.2),OR (fun h=>z h.2.1)]
theorem rt{x:BA}{l:List UInt8}(h:x.data.toList=l):x=⟨l.toArray⟩:=by
 subst h;rfl
theorem sZ{x:BA}{l:List UInt8}(h:x≠⟨l.toArray⟩):(x.toList==l)=false:=by
 rw[OC];exact beq_eq_false_iff_ne.2 (fun e=>h (rt e))
theorem vV(A I B k:Nat)(w wr:World)(s:IX)(mv:Value)(ws:List BA)(hR:RdI A I B w wr s mv ws)(hE:∀w',dX A B w w'→Env w')(ap:∀y∈ws,y.size≤40000)(ax:s.mails.length≤100)(hF:k=0∨ws.head?≠some ⟨#[70]⟩):
  Calls prog 119 #[pP A,.int .i64 (k:Int),pP I] wr (xT A I B w (dV (decide (k=0)) (ws.map (·.data.toList)) s)):=by
 have HE:=a8 hE;have HR:=a8 hR;have aj:=a8 ap;have HF:=a8 hF;have CW:=a8 (og I ws wr hR.tw);clear hE hR ap hF;go_enter func119,ntmps119;go_wp2_with fail;refine CW.mono ?_;rintro e w1 (⟨x,r,rfl,rfl,al,ak⟩|⟨rfl,aw,rfl⟩)
 ·have G:=a8 (HR.word ak al);have ac:=a8 (show∀y∈r,y.size≤40000 from fun y Y=>aj.out y (O8 _ Y));have ai:=a8 (show k=0∨x≠⟨#[70]⟩ from HF.imp id (fun h e=>h (by rw[e];rfl)));clear al ak CW HR aj HF;by_cases L:k=0
  ·subst L;by_cases E:x=⟨#[86]⟩
   ·subst E;have C1:=a8 (kX I r w1 G.tw (G.env HE) ac);go_wp2_with fail;refine C1.mono ?_;rintro e w2 ⟨ad,⟨x1,r1,Z,rfl,N,rfl,am⟩|⟨V,N⟩⟩
    rotate_left
    ·obtain⟨t,rfl⟩:=V;have z:=a8 (show dV (decide (0=0)) ([86]::r.map (·.data.toList)) s=none from I4 (by cases r<;>exact N));have M:=a8 (oX G ad);clear N ad C1;go_wp2;exact⟨rfl,Or.inr ⟨⟨t,rfl⟩,z,M⟩⟩
    have aa:=a8 (G.word ad am);have aq:=a8 N;have g0:w2.cell? ⟨A,0,none⟩=some (uI s.val):=aa.st.cell 0;have fg:=fun j=>aa.st.fz j;have J:=a8 (aa.put 0 (uI Z) {s with val:=Z} rfl rfl);clear ad am N C1 G;go_upto_region 4 with fail;generalize w2.setCell ⟨A,0,none⟩ (uI Z)=W2 at J⊢;clear g0 fg aa;have C2:=a8 (kX I r1 W2 J.tw (J.env HE) (fun y Y=>ac.out y (O8 _ Y)));go_wp2_with fail;refine C2.mono ?_;rintro e w3 ⟨ae,⟨x2,r2,n2,rfl,O,rfl,an⟩|⟨V,O⟩⟩
    rotate_left
    ·obtain⟨t,rfl⟩:=V;have z:=a8 (show dV (decide (0=0)) ([86]::x1.data.toList::r1.map (·.data.toList)) s=none from I5 (by cases r1<;>exact O));have M:=a8 (oX J ae);clear O ae C2;go_wp2;exact⟨rfl,Or.inr ⟨⟨t,rfl⟩,z,M⟩⟩
    have ab:=a8 (J.word ae an);have ar:=a8 O;obtain⟨-,g1⟩:=ab.st.c2;have fg:=fun j=>ab.st.fz j;have K:=a8 (ab.put 1 (uI n2) {s with val:=Z,next:=n2} rfl rfl);clear ae an O C2 J;go_upto_region 5 with fail;generalize w3.setCell ⟨A,1,none⟩ (uI n2)=W3 at K⊢;clear g1 fg ab;have C3:=a8 (jT I 0 99999 r2 W3 K.tw (K.env HE) (fun y Y=>ac.out y (O8 _ (O8 _ Y))) (by omega));go_wp2_with fail;refine C3.mono ?_;rintro e w4 ⟨af,⟨x3,r3,n3,rfl,Q,rfl,ao⟩|⟨V,Q⟩⟩
    rotate_left
    ·obtain⟨t,rfl⟩:=V;have z:=a8 (show dV (decide (0=0)) ([86]::x1.data.toList::x2.data.toList::r2.map (·.data.toList)) s=none from I6 (by cases r2<;>exact Q));have M:=a8 (oX K af);clear Q af C3;go_wp2;exact⟨rfl,Or.inr ⟨⟨t,rfl⟩,z,M⟩⟩
    have ah:=a8 (K.word af ao);have au:=a8 Q;obtain⟨-,-,g2⟩:=ah.st.c3;have fg:=fun j=>ah.st.fz j;have av:=a8 (ah.put 2 (.int .u64 (n3:Int)) {s with val:=Z,next:=n2,gen:=n3} rfl rfl);clear af ao Q C3 K;go_wp2
    go_end0
    exact Or.inl ⟨_,_,_,rfl,av,(Dp (r:=r3.map (·.data.toList)) aq ar au).trans (by cases r3<;>simp)⟩
   ·have z:=a8 (show dV (decide (0=0)) ((x::r).map (·.data.toList)) s=none from tV (fun e=>E (rt (by simpa using e))));have ay:(x.toList==[86])=false:=sZ E;clear E;go_wp2;exact⟨rfl,Or.inr ⟨⟨_,rfl⟩,z,G.bad⟩⟩
  ·have aB:((k:Int)==0)=false:=(by simp;omega);have aA:(0:Int)<(k:Int):=(by omega);have ag:=a8 (show decide (k=0)=false by simpa using L);have az:(x.toList==[70])=false:=sZ (ai.resolve_left L);by_cases E:x=⟨#[65]⟩
   ·subst E;have CM:=a8 (yR A I B w w1 s mv r G HE ac ax);clear L;go_wp2_with fail;refine CM.mono ?_;rintro e w2 (⟨s',aC,r',rfl,R,U⟩|⟨⟨t,rfl⟩,R,U⟩)
    ·have H2:=a8 R;have H3:=a8 (show dV (decide (k=0)) ([65]::r.map (·.data.toList)) s=if r'=[] then some s' else none by rw[ag.out];exact U);clear R U CM;go_wp2
     go_end0
     exact Or.inl ⟨_,_,_,rfl,H2,H3⟩
    ·have H2:=a8 (show dV (decide (k=0)) ([65]::r.map (·.data.toList)) s=none by rw[ag.out];exact R);have H3:=a8 U;clear R U CM;go_wp2;exact⟨rfl,Or.inr ⟨⟨t,rfl⟩,H2,H3⟩⟩
   ·have z:=a8 (show dV (decide (k=0)) ((x::r).map (·.data.toList)) s=none by rw[ag.out];exact xh (fun e=>E (rt (by simpa using e))) (fun e=>ai.resolve_left L (rt (by simpa using e))));have ay:(x.toList==[65])=false:=sZ E;clear E L;go_wp2;exact⟨rfl,Or.inr ⟨⟨_,rfl⟩,z,G.bad⟩⟩
 ·obtain⟨t,rfl⟩:=aw;have z:=a8 (show dV (decide (k=0)) (([]:List BA).map (·.data.toList)) s=none from by
   cases decide (k=0)
   ·exact xh (by simp) (by simp)
   ·exact tV (by simp))
  clear CW;go_wp2;exact⟨rfl,Or.inr ⟨⟨t,rfl⟩,z,HR.bad⟩⟩
theorem wl(f:FuncId)(L:∀(v:Value) (w:World),(callFunc f #[v]).run prog w= .ok (.enter f #[v]) w){I:Array Oper}{z:Act}{K:Act→World→Prop}{E:Prop}(x:Operand)(ts:Array TypeId)(G:o.guard=none)
  (J:o.op= .call {callee:= .value (.func f),args:= #[x],argTypes:=ts}) (v:Value) (N:z.eval x=v) (h:Calls prog f #[v] w fun e w'=>(∃u,e= .returned u∧K (z.put o.dst u) w')∨(∃c,e= .panicked c∧Q (.panic c) z w')):
  if Region.wanted o (yielded I z.tmps)=true then Oper.wp prog o z w K Q else E:=by
 have M:Region.wanted o (yielded I z.tmps)=true:=(by simp[Region.wanted,G]);rw[OS M];obtain⟨U,Y,Z,V,O,R⟩:=o;simp only at J G;subst J;unfold Oper.wp;rw[execOp_call_go];simp only[List.map_toArray,Pe,PD,N,List.append_toArray,PC,Pm,L,Oper.upon_enter];refine h.mono ?_;rintro e w' (⟨u,rfl,A⟩|⟨c,rfl,A⟩)
 ·exact A
 ·exact A
theorem BR(v:Value)(w:World):(callFunc 152 #[v]).run prog w= .ok (.enter 152 #[v]) w:=by
 go_simp
theorem NR{r:List (List UInt8)}{s:IX}(h:(match r with|[]=>none|x::_=>dT x 1 4294967295)=none):dV false ([70]::r) s=none:=by
 unfold dV;rw[OR (by simp)];unfold nh;by_cases z:([70]::r).length=3∧([70]::r).head? =some [70]
 ·rw[OS z]
  match r,h,z with
  |[b,c],h,_=>
   unfold pg;simp only at h;rw[show gH=4294967295 from rfl];simp[h]
 ·rw[OR z,OR (fun h=>by have:=h.2.1;simp at this)]
theorem NT{b:List UInt8}{r:List (List UInt8)}{s:IX}(A:dT b 1 4294967295=some u)(h:jB s.mails u=none):dV false ([70]::b::r) s=none:=by
 unfold dV;rw[OR (by simp)];unfold nh;by_cases z:([70]::b::r).length=3∧([70]::b::r).head? =some [70]
 ·rw[OS z]
  match r,z with
  |[c],_=>
   unfold pg;rw[show gH=4294967295 from rfl];simp only[A];cases dT c 0 2147483647<;>simp[h]
 ·rw[OR z,OR (fun h=>by have:=h.2.1;simp at this)]
theorem NS{b:List UInt8}{r:List (List UInt8)}{s:IX}(h:(match r with|[]=>none|x::_=>dT x 0 2147483647)=none):dV false ([70]::b::r) s=none:=by
 unfold dV;rw[OR (by simp)];unfold nh;by_cases z:([70]::b::r).length=3∧([70]::b::r).head? =some [70]
 ·rw[OS z]
  match r,h,z with
  |[c],h,_=>
   unfold pg;simp only at h⊢;rw[h];cases dT b 1 gH<;>rfl
 ·rw[OR z,OR (fun h=>by have:=h.2.1;simp at this)]
theorem Lf{b c:List UInt8}{r:List (List UInt8)}{s:IX}{u f i:Nat}(z:dT b 1 4294967295=some u)(A:dT c 0 2147483647=some f)(E:jB s.mails u=some i):dV false ([70]::b::c::r) s=if r=[] then some {s with mails:=s.mails.modify i (fun m=>{m with flags:=f})} else none:=by
 unfold dV;rw[OR (by simp)];unfold nh;cases r with
 |nil=>
  rw[OS ⟨rfl,rfl⟩,OS rfl];unfold pg;rw[show gH=4294967295 from rfl];simp only[z,A,E]
 |cons x xs=>
  rw[OR (fun h=>by have:=h.1;simp at this),OR (fun h=>by have:=h.2.1;simp at this),OR (by simp)]
theorem FS(ms:List IM)(i f:Nat):(ms.modify i (fun m=>{m with flags:=f})).map il0=(ms.map il0).modify i (fun x=>x.set 2 (.int .u32 (f:Int))):=by
 apply List.ext_getElem?;intro j;rw[PE,List.getElem?_modify,List.getElem?_modify,PE];cases ms[j]? with
 |none=>rfl
 |some m=>
  by_cases h:i=j
  ·simp[h,il0]
  ·simp[h]
theorem RdI.flag{s:IX}{ws:List BA}(h:RdI z A B w wr s (sS g n cap) ws)(i f:Nat):RdI z A B w (wr.setCell ⟨g,i*6+2,none⟩ (.int .u32 (f:Int))) {s with mails:=s.mails.modify i (fun m=>{m with flags:=f})} (sS g n cap) ws:=by
 have J:=dM.lt h.row g rfl;have G:z≠g:=(by have:=h.n1;omega);refine⟨h.st.other G _,?_,?_,h.fr.high J.1 _,by simpa using h.sz,h.n1,h.n2⟩
 ·have E:=dM.store h.row i 2 (by omega) (uI f);rw[←FS] at E;exact E
 ·exact h.tw.keep (fun k L t I K=>OQ wr ⟨g,i*6+2,none⟩ k _ (by
   intro e;have e:k=g:=e;subst e;exact eV h.row I (by rcases K with rfl|rfl<;>decide) rfl))
def si(g j:Nat)(c:Value)(w:World):Prop:=w.cell? ⟨g,j,none⟩=some c
theorem yS(A I B k:Nat)(w wr:World)(s:IX)(mv:Value)(M:List BA)(hR:RdI A I B w wr s mv (⟨#[70]⟩::M))(hE:∀w',dX A B w w'→Env w')(ap:∀y∈M,y.size≤40000)(ao:l5 s)(hk:0<k):
  Calls prog 119 #[pP A,.int .i64 (k:Int),pP I] wr (xT A I B w (dV false ([70]::M.map (·.data.toList)) s)):=by
 have HE:=a8 hE;have ah:=a8 ap;have af:=a8 ao;have CW:=a8 (og I _ wr hR.tw);have HR:=a8 hR;have aD:((k:Int)==0)=false:=(by simp;omega);have aC:(0:Int)<(k:Int):=(by omega);clear hE hR ap ao hk;go_enter func119,ntmps119;go_wp2_with fail;refine CW.mono ?_;rintro e w1 (⟨x,r,ac,rfl,aj,ai⟩|⟨ac,aA,rfl⟩)
 rotate_left
 ·cases ac
 simp only[List.cons.injEq] at ac;obtain⟨rfl,rfl⟩:=ac;have N:=a8 (HR.word ai aj);clear aj ai CW HR;have C1:=a8 (kX I M w1 N.tw (N.env HE) ah);go_wp2_with fail;refine C1.mono ?_;rintro e w2 ⟨aa,⟨x1,r1,n1,rfl,O,rfl,ak⟩|⟨hf,O⟩⟩
 rotate_left
 ·obtain⟨t,rfl⟩:=hf;have R:=a8 (show dV false ([70]::M.map (·.data.toList)) s=none from NR (by cases M<;>exact O));have ad:=a8 (oX N aa);clear O aa C1;go_wp2;exact⟨rfl,Or.inr ⟨⟨t,rfl⟩,R,ad⟩⟩
 have J:=a8 (N.word aa ak);have ae:=a8 O;clear aa ak O C1 N;obtain⟨am,nm,L,ax⟩:=eG J.row;subst ax;have ay:nm=s.mails.length:=by
  obtain⟨a',c',e'⟩:=dM.slice J.row;rw[OW] at e';simp only[O3] at e';exact e'.2.1
 subst ay;have CP:=a8 (GI A B s am L n1 w2 J.st J.row (by have:=af.len;omega) af.rise);go_wp2_with fail;refine CP.mono ?_;rintro e V ⟨⟨i,f,rfl,h1,h2⟩,hb⟩;have G:=a8 (J.below hb);clear hb CP J;cases f with
 |false=>
  have R:=a8 (show dV false ([70]::(x1::r1).map (·.data.toList)) s=none from NT ae (h2 rfl));clear h1 h2;go_wp2;exact⟨rfl,Or.inr ⟨⟨_,rfl⟩,R,G.bad⟩⟩
 |true=>
  have ag:=a8 (h1 rfl);have an:=Bv ag.out;have az:(i:Int)<(s.mails.length:Int):=(by omega);obtain⟨g,aw,_,_⟩:=G.row.at0 (by rw[OW];omega);subst aw;have CF:=a8 (fun(Y:World) (hY:Below V.heap.size V Y)=>wN I r1 Y (G.below hY).tw ((G.below hY).env HE) (fun y hy=>ah.out y (O8 _ hy)));obtain⟨-,-,-,-,-,-,-,-,-,c9⟩:=G.st.c10;have aB:A<V.heap.size:=G.st.lt;clear h1 h2;go_upto_region 12 with fail;have E:si A 9 (sS g s.mails.length L) V.drew:=c9;refine gF (by kernel_rfl) (si A 9 (sS g s.mails.length L)) 10 ?_;clear c9;refine dZ 0 (pP A) rfl E ?_ ?_
  ·intro wz z;unfold si at z;go_simp
  simp only[dI,dJ,dK,dL];refine dZ 1 (pP A) rfl E ?_ ?_
  ·intro wz z;unfold si at z;go_simp
  simp only[dI,dJ,dK,dL];refine dZ 2 (.pointer (some ⟨A,9,none⟩)) rfl E ?_ ?_
  ·intro wz z;unfold si at z;go_simp
  simp only[dI,dJ,dK,dL];refine dZ 3 (sS g s.mails.length L) rfl E ?_ ?_
  ·intro wz z;unfold si at z;go_simp
  simp only[dI,dJ,dK,dL];refine dZ 4 (iI i) rfl E ?_ ?_
  ·intro wz z;unfold si at z;go_simp
  simp only[dI,dJ,dK,dL];refine dZ 5 (pP I) rfl E ?_ ?_
  ·intro wz z;unfold si at z;go_simp
  simp only[dI,dJ,dK,dL];refine dY 6 rfl (by kernel_rfl) (fun K U=> ?_);refine wl 152 BR (.tmp 68) #[240] (by rfl) (by rfl) (pP I) (by simp[go_sem]) ?_;refine(CF.out _ (OX _ _).drew).mono ?_;rintro e w4 ⟨ab,⟨x2,r2,n2,rfl,Q,rfl,al⟩|⟨hf,Q⟩⟩
  rotate_left
  ·obtain⟨t,rfl⟩:=hf;have R:=a8 (show dV false ([70]::x1.data.toList::r1.map (·.data.toList)) s=none from NS (by cases r1<;>exact Q));have ad:=a8 (oX (G.below (OX _ _).drew) ab);clear Q ab CF U;refine Or.inr ⟨_,rfl,?_⟩;exact⟨rfl,Or.inr ⟨⟨t,rfl⟩,R,ad⟩⟩
  have Z:=a8 ((G.below (OX _ _).drew).word ab al);have ar:=a8 Q;have av:si A 9 (sS g s.mails.length L) w4:=Z.st.cell 9;clear ab al Q E CF;have E:=av;refine Or.inl ⟨_,rfl,U _ _ (fun _=>E) ?_⟩;clear U K;simp only[dI,dJ,dK,dL];refine dZ 7 (.pointer (some ⟨g,i*6,none⟩)) rfl E ?_ ?_
  ·intro wz z;unfold si at z;go_simp
  simp only[dI,dJ,dK,dL];refine dZ 8 (.pointer (some ⟨g,i*6,none⟩)) rfl E ?_ ?_
  ·intro wz z;unfold si at z;go_simp
  simp only[dI,dJ,dK,dL];refine dZ 9 (.pointer (some ⟨g,i*6+2,none⟩)) rfl E ?_ ?_
  ·intro wz z;unfold si at z;go_simp
  simp only[dI,dJ,dK,dL];have k2:w4.cell? ⟨g,i*6+2,none⟩=some (.int .u32 ((s.mails[i]'an).flags:Int)):=qR Z.row i an 2 (by omega);have fz:=fun j=>Z.row.frozen j;have au:=a8 (Z.flag i n2);have aq:=a8 (show dV false ([70]::(x1::x2::r2).map (·.data.toList)) s=if r2=[] then some {s with mails:=s.mails.modify i (fun m=>{m with flags:=n2})} else none from(Lf (r:=r2.map (fun x:BA=>x.data.toList)) ae ar ag).trans (by cases r2<;>simp));refine dY 10 rfl (by kernel_rfl) (fun K U=> ?_);go_simp;refine U _ _ (fun h=>by cases h) (fe (by kernel_rfl) ?_ _);go_wp2
  go_end0
  exact Or.inl ⟨_,_,_,rfl,au,aq⟩
theorem uM(z A B k:Nat)(w wr:World)(s:IX)(G:Value)(ws:List BA)(M:RdI z A B w wr s G ws)(K:∀w',dX z B w w'→Env w')(J:∀y∈ws,y.size≤40000)(I:l5 s):
  Calls prog 119 #[pP z,.int .i64 (k:Int),pP A] wr (xT z A B w (dV (decide (k=0)) (ws.map (·.data.toList)) s)):=by
 by_cases L:k=0∨ws.head?≠some ⟨#[70]⟩
 ·exact vV z A B k w wr s G ws M K J I.len L
 ·obtain⟨N,O⟩:=not_or.1 L;have E:ws.head? =some ⟨#[70]⟩:=Classical.not_not.1 O;cases ws with
  |nil=>cases E
  |cons x r=>
   simp only[List.head?_cons,OY] at E;subst E;have:=yS z A B k w wr s G r M K (fun y Q=>J y (O8 _ Q)) I (by omega);rw[show decide (k=0)=false by simpa using N];exact this
def il1(m:IM)(bv:Value):List Value:=[.int .u32 (m.uid:Int),.int .i64 (m.stamp:Int),.int .u32 (m.flags:Int),bv,.int .i64 (m.size:Int),.bool (decide (m.bare=1))]
theorem La(ms:List IM)(bvs:List Value)(j:Nat)(bv:Value):List.zipWith il1 ms (bvs.set j bv)=(List.zipWith il1 ms bvs).modify j (fun x=>x.set 3 bv):=by
 apply List.ext_getElem?;intro k;rw[List.getElem?_zipWith,List.getElem?_modify,List.getElem?_zipWith,List.getElem?_set];by_cases h:j=k
 ·subst h;cases ms[j]? with
  |none=>simp
  |some m=>
   cases hb:bvs[j]? with
   |none=>
    have:¬j<bvs.length:=fun z=>(by rw[OZ z] at hb;cases hb);simp[this]
   |some b=>
    have:j<bvs.length:=by
     rcases PV j bvs.length with h|h
     ·exact h
     ·rw[Pt h] at hb;cases hb
    simp[this,il1]
 ·simp[h]
theorem IS(ms:List IM):ms.map il0=List.zipWith il1 ms (List.replicate ms.length (sN)):=by
 induction ms with
 |nil=>rfl
 |cons m ms ih=>simp only[Pe,Pf,List.replicate_succ,List.zipWith_cons_cons,ih];rfl
theorem pf{ms:List IM}(h:dM w A 243 6 (sS g n cap) (List.zipWith il1 ms bvs))(i:Nat)(hi:i<ms.length)(G:i<bvs.length)(j:Nat)(z:j<6):w.cell? ⟨g,i*6+j,none⟩=(il1 ms[i] bvs[i])[j]? :=by
 have E:((List.zipWith il1 ms bvs)[i]'(by rw[List.length_zipWith];omega)).length=6:=(by rw[List.getElem_zipWith];rfl);rw[h.cell i j (by rw[List.length_zipWith];omega) (by rw[E];exact z),OZ (by show j<6;exact z)];congr 1;simp
theorem DS{a:OA}{l:LN}(n:Nat)(h:dR w A (.slice a l.length cap) l)(M:n≤l.length)(O:0<l.length):dR w A (.slice a n cap) (l.take n):=by
 rcases h.2 with⟨e,R⟩|⟨g,N,G,e,K,L,Q,I,J,E⟩
 ·omega
 ·simp only[O3,true_and] at e;obtain⟨rfl,rfl⟩:=e;have z:(l.take n).length=n:=(by rw[Pa];omega);refine⟨by simp,.inr ⟨g,cap,G,by rw[z],K,L,by rw[z];omega,I,J,?_⟩⟩;rw[z,List.map_take,Nat.mul_one];rw[Nat.mul_one] at E;rw[←E,List.take_take,Nat.min_eq_left M]
structure TkR(gr LO:Nat)(w0 w:World)(n cap:Nat)(ms:List IM)(bvs:List Value):Prop where
 row:dM w 0 243 6 (sS gr n cap) (List.zipWith il1 ms bvs)
 bel:dX gr LO w0 w
 sz:LO≤w.heap.size
 lt:gr<LO
theorem TkR.below{gr LO:Nat}{ms:List IM}(h:TkR gr LO w0 w n cap ms bvs)(z:Below w.heap.size w w'):TkR gr LO w0 w' n cap ms bvs:=
 ⟨dM.below h.row z (OV _),h.bel.trans (dX.of_below z h.sz),O0 h.sz z.size,h.lt⟩
theorem TkR.set{gr LO:Nat}{ms:List IM}(h:TkR gr LO w0 w n cap ms bvs)(i:Nat)(bv:Value):TkR gr LO w0 (w.setCell ⟨gr,i*6+3,none⟩ bv) n cap ms (bvs.set i bv):=by
 refine⟨?_,h.bel.set bv,by simpa using h.sz,h.lt⟩;rw[La];exact dM.store h.row i 3 (by omega) bv
def MM(gr LO lo:Nat)(w0:World)(n cap:Nat)(ms:List IM)(bvs:List Value)(i:Nat)(m:IM)(x:Nat×Nat×LN)(ba:OA)(e:Ending)(w':World):Prop:=
 ∃(ok:Bool) (k bc:Nat),e= .returned (.bool ok)∧TkR gr LO w0 w' n cap ms (bvs.set i (.slice ba k bc))∧(ok=false→eY m x=none)∧(ok=true→∃b,eY m x=some b∧dR w' lo (.slice ba k bc) b)
theorem ER{l:LN}(h:l.getLast? =some 10):0<l.length∧l.drop (l.length-1)=[10]∧l.dropLast=l.take (l.length-1):=by
 cases l with
 |nil=>cases h
 |cons y ys=>
  refine⟨by simp,?_,by rw[List.dropLast_eq_take]⟩;rw[List.getLast?_eq_getElem?] at h;have z:(y::ys).length-1<(y::ys).length:=(by simp);rw[OZ z] at h;rw[Pv z,PJ h,List.drop_eq_nil_of_le (by simp)]
theorem Jz{l:LN}(h:¬l.getLast? =some 10):¬(l.drop (l.length-1)=[10]∧0<l.length):=by
 rintro⟨z,A⟩;apply h;rw[List.getLast?_eq_getElem?];have:=OL (fun x=>x[0]?) z;simp only[List.getElem?_drop,Nat.add_zero] at this;exact this
theorem vD(z:OA)(w:World):Calls prog 207 #[sN,.slice z 1 1] w fun e w'=>e= .returned (.bool false)∧w'=w:=by
 go_enter func207,ntmps207;go_wp2;go_ret;exact⟨rfl,rfl⟩
theorem vx(z:OA)(w:World):Calls prog 184 #[sN,.slice z 1 1] w fun e w'=>e= .returned (.tuple #[sN,.bool false])∧w'=w:=by
 have A:=a8 (vD z w);go_enter func184,ntmps184;go_wp2_with fail;refine(A.out).mono ?_;rintro e w' ⟨rfl,rfl⟩;go_wp2;go_ret2;exact⟨rfl,rfl⟩
theorem Fz(A:OA)(lo:Nat)(G:OA)(E:Nat)(l:LN)(w:World)(J:dR w lo (.slice G l.length E) l)(M:dW w A [10])(K:∀x∈l,x<256)(L:l.length≤1048576):
  Calls prog 184 #[.slice G l.length E,.slice A 1 1] w fun e w'=>e= .returned (.tuple #[.slice G (if l.getLast? =some 10 then l.length-1 else l.length) E,.bool (decide (l.getLast? =some 10))])∧w'=w:=by
 rcases J.2 with⟨e,I⟩|⟨g,R,U,e,Z,hg,N,V,Y,ht⟩
 ·have I:l=[]:=Pp.1 I;subst I;simp only[O3] at e;obtain⟨rfl,_,rfl⟩:=e;exact(vx A w).mono (fun e w' h=>by simpa using h)
 ·simp only[O3,true_and] at e;obtain⟨rfl,rfl⟩:=e;by_cases z:l.getLast? =some 10
  ·obtain⟨O,Q,_⟩:=ER z;refine(me g 0 E l.length A l w rfl N L J.text M K O Q).mono (fun e w' h=> ?_);rw[OS z,ON z];exact h
  ·refine(kO g 0 E l.length A l w rfl N L J.text M K (Jz z)).mono (fun e w' h=> ?_);rw[OR z,OM z];exact h
theorem Kq(gr LO lo:Nat)(w0 w:World)(n cap:Nat)(ms:List IM)(bvs:List Value)(i:Nat)(hi:i<ms.length)(Z:bvs.length=ms.length)(st A:Nat)(E:OA)(z:Nat)(l:LN)(hR:TkR gr LO w0 w n cap ms bvs)(ho:dR w lo (.slice E l.length z) l)(ag:gr<lo)(ah:∀x∈l,x<256)(aj:l.length≤1048576)(am:st≤A∧A≤1048576):
  Calls prog 155 #[.pointer (some ⟨gr,i*6,none⟩),.agg #[.int .i64 (st:Int),.int .i64 (A:Int),.slice E l.length z]] w (MM gr LO lo w0 n cap ms bvs i ms[i] (st,A,l) E):=by
 have hA:=nAl w (.cells #[iI st,iI A,.slice E l.length z] 182);have HX:=a8 (dQ w #[iI st,iI A,.slice E l.length z] 182);have HR:=a8 (hR.below hA);have HO:=a8 (ho.below hA (OV _));have af:gr≠w.heap.size:=(by have:=(dM.lt hR.row gr rfl).2;omega);clear hR ho hA;go_enter func155,ntmps155;go_upto_region 1 with fail;generalize w.alloc (.cells #[iI st,iI A,.slice E l.length z] 182)=w1 at HX HR HO⊢;obtain⟨-,-,x2⟩:=HX.c3;have k3:w1.cell? ⟨gr,i*6+3,none⟩=some (bvs[i]'(by omega)):=pf HR.row i hi (by omega) 3 (by omega);have fz:=fun j=>HR.row.frozen j;have M:=a8 (HR.set i (.slice E l.length z));have R:=a8 (HO.set_low (p:=⟨gr,i*6+3,none⟩) ag (.slice E l.length z));have N:=a8 (HX.other (fun e=>af e.symm) (.slice E l.length z) (j:=i*6+3));go_upto_region 3 with fail;generalize w1.setCell ⟨gr,i*6+3,none⟩ (.slice E l.length z)=I at M R N⊢;clear x2 k3 fz HR HO HX;have V:I.cell? ⟨gr,i*6+4,none⟩=some (.int .i64 (ms[i].size:Int)):=pf M.row i hi (by simpa[Z] using hi) 4 (by omega);have k5:I.cell? ⟨gr,i*6+5,none⟩=some (.bool (decide (ms[i].bare=1))):=pf M.row i hi (by simpa[Z] using hi) 5 (by omega);obtain⟨x0,x1,x2⟩:=N.c3;have ak:(A:Int)-(st:Int)=((A-st:Nat):Int):=(by omega);have an:IntKind.i64.wrap ((A-st:Nat):Int)=((A-st:Nat):Int):=(by rw[IntKind.wrap_i64];omega);by_cases O:ms[i].bare=1
 ·rw[ON O] at k5;have G:=a8 (show eY ms[i] (st,A,l)=if A-st=ms[i].size then(if l.getLast? =some 10 then some l.dropLast else none) else none by unfold eY;rw[OS O]);have Y:=nAl I (.cells #[.int .u8 10] 5 (1,2));have CC:=a8 (Fz (some ⟨I.heap.size,0,none⟩) lo E z l (I.alloc (.cells #[.int .u8 10] 5 (1,2))) (R.below Y (OV _)) (EV I) ah aj);have U:=a8 (M.below Y);have aa:=a8 (R.below Y (OV _));have ac:=a8 (N.below Y N.lt);have al:=fun(w:World) (C:Array Value) (n c:Nat)=>Lib.run_convert_bytes_const (P:=prog) w 52 5 C n c underlying52 underlying5;clear Y O;go_wp2_with fail;refine CC.mono ?_;rintro e w3 ⟨rfl,rfl⟩;generalize I.alloc (.cells #[.int .u8 10] 5 (1,2))=w4 at U aa ac⊢;have ab:=a8 (fun(bv:Value)=>U.set i bv);have HL:=a8 ag;have q3:w4.cell? ⟨gr,i*6+3,none⟩=some ((bvs.set i (.slice E l.length z))[i]'(by simpa[Z] using hi)):=pf U.row i hi (by simpa[Z] using hi) 3 (by omega);have fz:=fun j=>U.row.frozen j;clear V k5 x0 x1 x2 CC;by_cases K:l.getLast? =some 10
  ·rw[OS K] at G;rw[OS K,ON K];have ae:=a8 (show dR (w4.setCell ⟨gr,i*6+3,none⟩ (.slice E (l.length-1) z)) lo (.slice E (l.length-1) z) l.dropLast from by
    have h1:=ER K;rw[h1.2.2];exact(DS _ aa (by omega) h1.1).set_low (p:=⟨gr,i*6+3,none⟩) HL _)
   have ad:=a8 (ac.other (fun e=>af e.symm) (.slice E (l.length-1) z) (j:=i*6+3));have J:=a8 (ab.out (.slice E (l.length-1) z));generalize l.length-1=kk at ae ad J⊢;clear K ab aa ac U R N M;go_upto_region 5 with fail;generalize w4.setCell ⟨gr,i*6+3,none⟩ (.slice E kk z)=w5 at ae ad J⊢;clear q3 fz;rw[List.set_set] at J;have V:w5.cell? ⟨gr,i*6+4,none⟩=some (.int .i64 (ms[i].size:Int)):=pf J.row i hi (by simpa[Z] using hi) 4 (by omega);obtain⟨x0,x1⟩:=ad.c2;by_cases L:A-st=ms[i].size
   ·have Q:(((A-st:Nat):Int)==(ms[i].size:Int))=true:=(by simp;omega);rw[OS L] at G;generalize ms[i].size=sz at V Q;clear L;go_quiet(fail);go_wp2;go_ret;exact⟨true,kk,z,rfl,J.below (OI (OX _ _) _),(fun h=>by cases h),fun _=>⟨_,G,ae.below (OI (OX _ _) _) (OV _)⟩⟩
   ·have Q:(((A-st:Nat):Int)==(ms[i].size:Int))=false:=(by simp;omega);rw[OR L] at G;generalize ms[i].size=sz at V Q;clear L;go_quiet(fail);go_wp2;go_ret;exact⟨false,kk,z,rfl,J.below (OI (OX _ _) _),(fun _=>G.out),(fun h=>by cases h)⟩
  ·rw[OR K] at G;rw[OR K,OM K];have J:=a8 (ab.out (.slice E l.length z));clear K ab aa ac U R N M;have ai:=a8 (show eY ms[i] (st,A,l)=none by rw[G.out];split<;>rfl);go_wp2;go_quiet(fail);go_wp2;go_ret;rw[List.set_set] at J;exact⟨false,l.length,z,rfl,J.below (OI (OX _ _) _),(fun _=>ai.out),(fun h=>by cases h)⟩
 ·rw[OM O] at k5;have G:=a8 (show eY ms[i] (st,A,l)=if A-st=ms[i].size then some l else none by unfold eY;rw[OR O]);by_cases L:A-st=ms[i].size
  ·have Q:(((A-st:Nat):Int)==(ms[i].size:Int))=true:=(by simp;omega);rw[OS L] at G;generalize ms[i].size=sz at V Q;clear L O;go_wp2;go_quiet(fail);go_wp2;go_ret;exact⟨true,l.length,z,rfl,M.below (OI (OX _ _) _),(fun h=>by cases h),fun _=>⟨l,G,R.below (OI (OX _ _) _) (OV _)⟩⟩
  ·have Q:(((A-st:Nat):Int)==(ms[i].size:Int))=false:=(by simp;omega);rw[OR L] at G;generalize ms[i].size=sz at V Q;clear L O;go_wp2;go_quiet(fail);go_wp2;go_ret;exact⟨false,l.length,z,rfl,M.below (OI (OX _ _) _),(fun _=>G.out),(fun h=>by cases h)⟩
end Go.Proofs.YtkkdfgnnlpohlaaGreatDoor
