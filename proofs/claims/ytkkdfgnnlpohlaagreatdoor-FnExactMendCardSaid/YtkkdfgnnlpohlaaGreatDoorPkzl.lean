import Derived.Test.YtkkdfgnnlpohlaaGreatDoorPkzk
import Derived.Test.YtkkdfgnnlpohlaaGreatDoorPkzj
namespace Go.Proofs.YtkkdfgnnlpohlaaGreatDoor
set_option maxRecDepth 20000
set_option linter.unusedVariables false
set_option linter.unusedSimpArgs false
set_option maxHeartbeats 4000000
open Go.RowKit Go.Proofs.Tryz
variable {W X Y w w' w0 wr : World} {A B at_ b b2 base' c cap e f g go gs hi i j k lo m n s u val z : Nat} {E G I J K L M N O u0 u1 u2 v0 v1 v2 v3 v4 v5 v6 x y : Value} {o : Oper} {Q : Exit → Act → World → Prop} {cs tmps : Array Value} {t : TypeId} {p : Addr} {l : List Nat} {bvs xs : List Value} {a : List UInt8} {first ok : Bool}
theorem It(v:Value)(w:World):(Go.method 454 161 v "loop.example/s02349/impl.files").run prog w= .ok (275,v) w:=by kernel_rfl
theorem Iv(v:Value)(w:World):(Go.method 454 158 v "loop.example/s02349/impl.files").run prog w= .ok (266,v) w:=by kernel_rfl
theorem Iu(v:Value)(w:World):(Go.method 454 164 v "loop.example/s02349/impl.files").run prog w= .ok (279,v) w:=by kernel_rfl
theorem Ik(a:Value)(w:World):(callFunc 275 #[a]).run prog w= .ok (.enter 275 #[a]) w:=by go_simp
theorem Im(a:Value)(w:World):(callFunc 266 #[a]).run prog w= .ok (.enter 266 #[a]) w:=by go_simp
theorem Il(a:Value)(w:World):(callFunc 279 #[a]).run prog w= .ok (.enter 279 #[a]) w:=by go_simp
def KG(D:dO)(w:World)(sv:Value)(fl:List FF):Prop:=∃(T:TypeId) (ff:FuncId) (p:OA),sv= .iface T (.pointer p)∧(∀(v:Value) (w:World),(Go.method 454 T v "loop.example/s02349/impl.files").run prog w= .ok (ff,v) w)∧(∀(a:Value) (w:World),(callFunc ff #[a]).run prog w= .ok (.enter ff #[a]) w)∧(∀X,Below w.heap.size w X→Calls prog ff #[.pointer p] X (ny fl X))∧fl.length≤1000∧∀f∈fl,fV w f.ad f.cap f.data∧f.name.size≤1000∧f.data.length≤40000
theorem wF{D:dO}(I:eM D)(A:Below w0.heap.size w0 w){cs:List Cd}(h:∀x∈cs,Fj w0 D x)(G:∀x∈cs,x.name.size≤1000):∀f∈cs.map (jF D),fV w f.ad f.cap f.data∧f.name.size≤1000∧f.data.length≤40000:=fun f E=>by
 obtain⟨c,z,rfl⟩:=Pg.1 E;exact⟨(h c z).tx.below A,G c z,gU I _⟩
theorem BF:∀(is:LN) (lo n:Nat),is.Pairwise (·<·)→(∀i∈is,lo≤i∧i<n)→is=[]∨lo+is.length≤n
 |[],_,_,_,_=> .inl rfl
 |i::r,lo,n,h,hb=>by
  rw[List.pairwise_cons] at h;have A:=hb i (by simp);rcases BF r (i+1) n h.2 (fun x z=>⟨h.1 x z,(hb x (O8 _ z)).2⟩) with rfl|E
  ·right;simp;omega
  ·right;simp;omega
theorem Ab{t:List UInt8}{k:Nat×Nat×Nat}(h:eR t=some k):t.length≤100:=by
 unfold eR at h;split at h
 ·next hx=>
  have A:=hx.choose_spec;rcases A with⟨_,is,z,_⟩|⟨E,_⟩
  ·rw[z.eq];have G:=Gx _ (Nat.lt_trans z.u2 (by omega));have I:=Gx _ (Nat.lt_of_le_of_lt z.s2 (by omega));have J:is.length≤31:=by
    rcases BF is 0 31 z.good.1 (fun i hi=>⟨O4 _,z.good.2 i hi⟩) with rfl|h
    ·simp
    ·omega
   unfold Go.Proofs.YtkkdfgnnlpohlaaGreatDoor.nm mx;simp only[O1,Pf,PM,OW,Lib.decDigits_length];omega
  ·cases E
 ·cases h
theorem Dh{D:dO}{sv:Value}(J:eM D)(K:(eu D).code=0)(h:o8 D w sv):∃fl,KG D w sv fl∧rO D (fl.map ftF)=iT D:=by
 rcases h with⟨w0,V,s,r,ia,ic,ta,tc,am,cm,bvs,rfl,N,O,h4,h5,Q,Z⟩|⟨w0,V,go,s,r,c,r',fs,ia,ic,la,lc,ca,cc,ta,tc,am,cm,bvs,rfl,N,O,h4,h5,Q,Z,h8,R,ha,hb⟩|⟨w0,V,bd,s,n,ms,cs,ua,uc,ca,cc,rfl,N,O,h4,h5,Q,Z,h8,R⟩
 ·have I:=Jm J N O h4 K;have ac:=un h4;refine⟨[⟨ixN,ia,ic,(b9 D ixN).2,(dP (b9 D ixN).2).2⟩,⟨ej s.gen,ta,tc,(b9 D (ej s.gen)).2,dH s.mails⟩],⟨_,_,_,rfl,It,Ik,fun X hX=> ?_,by simp,fun f A=> ?_⟩,?_⟩
  ·have z:=(Q.below hX).mb.st;exact A9 V _ _ X ⟨z.cell 3,z.cell 4,z.cell 5⟩ ⟨z.cell 6,z.cell 7,z.cell 8⟩
  ·simp only[Pd,Pw,or_false] at A;rcases A with rfl|rfl
   ·exact⟨Z,show ixN.size≤1000 by decide,gU J _⟩
   ·exact⟨Q.tx.below Q.mb.bel,O0 (pj _ h5.gen) (by omega),gU J _⟩
  ·refine qY (cf:=[]) K ?_ (by simp) (fun nm _=> ?_)
   ·rw[I];rfl
   ·have G:¬(eu D).kind=3:=(by rw[I];simp);have hg:(eu D).gen=s.gen:=(by rw[I]);simp only[Pe,PD,ftF,Pd,Pw,or_false];constructor
    ·rintro(h|h)
     ·exact ld G (.inl h)
     ·exact ld G (.inr (.inl (by rw[hg];exact h)))
    ·intro h;by_cases E:nm=ixN
     ·exact .inl E
     by_cases U:nm=ej s.gen
     ·exact .inr U
     rw[qV G E (by rw[hg];exact U) (by rw[I];simp),List.any_eq_true] at h;obtain⟨m,hm,L⟩:=h;rw[I] at hm;rw[ac m hm] at L;simp at L
 ·have I:=Jv J N O h4 K;have ac:=Q (un h5);have ag:r.length=s.mails.length:=R.mb.rl;have af:=h8.len;have ab:=R.mb.mb.bel;refine⟨⟨ixN,ia,ic,(b9 D ixN).2,(dP (b9 D ixN).2).2⟩::⟨fh,la,lc,(b9 D fh).2,(dP (b9 D fh).2).2⟩::⟨ej s.gen,ta,tc,(b9 D (ej s.gen)).2,dH s.mails⟩::fs.map (jF D),⟨_,_,_,rfl,Iv,Im,fun X hX=> ?_,by simp;omega,fun f A=> ?_⟩,?_⟩
  ·have z:=R.below hX;refine Bf V go _ _ _ _ X (by rw[OW];omega) ⟨z.st.cell 0,⟨z.mb.mb.st.cell 3,z.mb.mb.st.cell 4,z.mb.mb.st.cell 5⟩,⟨z.st.cell 1,z.st.cell 2,z.st.cell 3⟩,⟨z.mb.mb.st.cell 6,z.mb.mb.st.cell 7,z.mb.mb.st.cell 8⟩⟩ (fun Y hY=> ?_);have M:=z.below hY;exact oO D V 5 w0.heap.size Y ca cc fs (M.st.cell 11) M.row (fun c K=>(M.ok c K).dl) (by omega)
  ·rcases Pd.1 A with rfl|A
   ·exact⟨ha,show ixN.size≤1000 by decide,gU J _⟩
   rcases Pd.1 A with rfl|A
   ·exact⟨hb,show fh.size≤1000 by decide,gU J _⟩
   rcases Pd.1 A with rfl|A
   ·exact⟨R.mb.tx.below ab,O0 (pj _ h8.gen) (by omega),gU J _⟩
   ·exact wF J ab R.ok (fun x L=>O0 (show x.name.data.toList.length≤100 from Ab (R.ok x L).card) (by omega)) f A
  ·refine qY (cf:=(fs.map (jF D)).map ftF) K ?_ (fun f A=> ?_) (fun nm _=> ?_)
   ·rw[I];rfl
   ·obtain⟨x,L,rfl⟩:=Pg.1 A;obtain⟨y,_,rfl⟩:=Pg.1 L;rfl
   ·have G:¬(eu D).kind=3:=(by rw[I];simp);have M:(eu D).kind=2:=(by rw[I]);have hg:(eu D).gen=s.gen:=(by rw[I]);have aa:nm∈((fs.map (jF D)).map ftF).map (·.1)↔nm∈fs.map Cd.name:=(by simp[PP,ftF,jF,Function.comp_def]);have ae:nm∈fs.map Cd.name↔∃m∈(eu D).mails,m.moved=true∧m.card=nm:=by
     rw[←ac,I];simp only[Pg,List.mem_filter];constructor
     ·rintro⟨m,⟨h1,N⟩,O⟩;exact⟨m,h1,N,O⟩
     ·rintro⟨m,h1,N,O⟩;exact⟨m,⟨h1,N⟩,O⟩
    simp only[Pe,Pd] at aa⊢;rw[aa];show(nm=ixN∨nm=fh∨nm=ej s.gen∨nm∈fs.map Cd.name)↔_;by_cases E:nm=ixN
    ·exact⟨fun _=>ld G (.inl E),fun _=> .inl E⟩
    by_cases U:nm=ej s.gen
    ·exact⟨fun _=>ld G (.inr (.inl (by rw[hg];exact U))),fun _=> .inr (.inr (.inl U))⟩
    by_cases e3:nm=fh
    ·exact⟨fun _=>ld G (.inr (.inr ⟨e3,M⟩)),fun _=> .inr (.inl e3)⟩
    rw[qV G E (by rw[hg];exact U) (fun h=>e3 h.1),List.any_eq_true];simp only[Bool.and_eq_true,decide_eq_true_eq];rw[←ae];exact⟨fun h=>by rcases h with h|h|h|h;exact OH h E;exact OH h e3;exact OH h U;exact h,fun h=> .inr (.inr (.inr h))⟩
 ·obtain⟨G,ad⟩:=Jp J N O h4 h5 Q K;have ab:=Z.bel;refine⟨⟨uxN,ua,uc,(b9 D uxN).2,(dP (b9 D uxN).2).2⟩::ms.map (jF D),⟨_,_,_,rfl,Iu,Il,fun X hX=> ?_,by simp;omega,fun f A=> ?_⟩,?_⟩
  ·have z:=Z.below hX;refine Ba V _ _ X (by rw[OW];omega) ⟨z.st.cell 2,z.st.cell 3,z.st.cell 4⟩ (fun Y hY=> ?_);have M:=z.below hY;exact oO D V 0 w0.heap.size Y ca cc ms (M.st.cell 6) M.row (fun c K=>(M.ok c K).dl) (by omega)
  ·rcases Pd.1 A with rfl|A
   ·exact⟨R,show uxN.size≤1000 by decide,gU J _⟩
   ·exact wF J ab Z.ok (fun x L=>O0 (show x.name.data.toList.length≤100 from Ab (Z.ok x L).card) (by omega)) f A
  ·refine qY (cf:=(ms.map (jF D)).map ftF) K ?_ (fun f A=> ?_) (fun nm hn=> ?_)
   ·unfold gY;rw[G];rfl
   ·obtain⟨x,L,rfl⟩:=Pg.1 A;obtain⟨y,_,rfl⟩:=Pg.1 L;rfl
   ·have aa:nm∈((ms.map (jF D)).map ftF).map (·.1)↔nm∈ms.map Cd.name:=(by simp[PP,ftF,jF,Function.comp_def]);simp only[Pe,Pd] at aa⊢;rw[aa,DB h5 Q nm hn];show(nm=uxN∨_)↔_;by_cases E:nm=uxN
    ·exact⟨fun _=>xk G E,fun _=> .inl E⟩
    cases hcc:eR nm.data.toList with
    |none=>
     rw[tX G E hcc];simp[E]
    |some k=>
     rw[tW G E hcc,ad];simp[E]
theorem DI{D:dO}(h:iT D=[])(z:Below w.heap.size w w'):Cq w (iT D) (.returned (sN)) w':=by
 rw[h];exact⟨_,[],rfl,fU.nil _ _,List.Pairwise.nil,z⟩
theorem yn(v:Value)(D:dO)(a1 a2:Addr)(w:World)(hM:l6 D)(hw:∀o∈D.pend,(Lit.int .i64 o.2.2.2).wf=true)(hd:kJ w v D)(hE:oH w)(ad:w.cell? ⟨0,0,none⟩=some (.iface 332 (.pointer (some a1))))(ac:w.cell? ⟨1,0,none⟩=some (.iface 332 (.pointer (some a2)))):
  Calls prog 7 #[v] w (Cq w (iT D)):=by
 have HD:=a8 hd;obtain⟨p1,Y,p2,Z,p3,c3,p4,c4,am,r1,r2,r3,r4⟩:=hd;subst am;have R:=nAl w (.cells (dkA p1 Y p2 Z p3 c3 p4 c4 D) 34);have E:=a8 (dQ w (dkA p1 Y p2 Z p3 c3 p4 c4 D) 34);have J:=a8 (vS _ D (.iface 332 (.pointer (some a1))) 332 (some a2) _ hM hw (HD.below R) (hE.below R) ((R.cell (p:=⟨0,0,none⟩) (dG ad)).trans ad) ((R.cell (p:=⟨1,0,none⟩) (dG ac)).trans ac));have G:=a8 R;clear r1 r2 r3 r4 hE ad ac R hM hw;go_enter func7,ntmps7;go_upto_region 1 with fail;generalize w.alloc (.cells (dkA p1 Y p2 Z p3 c3 p4 c4 D) 34)=w1 at J G E⊢;obtain⟨K,M,N,O,Q⟩:=E.c5;go_wp2_with fail;refine J.mono ?_;rintro e U (⟨sv,h,ls,L,rfl,z,A,h3,h4,h5⟩|⟨nm,t,rfl,z,A⟩|⟨rfl,z,A⟩|⟨rfl,z,A⟩)
 ·have ab:=bTr G h5;have V:=a8 (E.below h5 E.lt);have aa:(eu D).code=0:=Hh (by rw[z]);obtain⟨fl,⟨T,ff,p,al,hm,ah,hC,hn,ai⟩,ae⟩:=Dh (lV aa) aa A.2;subst al;have CM:=a8 (Bc _ D U T ff p fl (lV aa) (HD.below ab) hm ah hC hn ai);rw[ae] at CM;clear z A h3 h4 h5 aa hm ah hC hn ai ae J K M N O Q E;obtain⟨K,M,N,O,Q⟩:=V.c5;go_wp2_with fail;refine CM.mono ?_;rintro e w3 ⟨mv,vs,rfl,ho,af,ag⟩;have HO:=a8 (ho.mono ab.size);have I:=a8 af;have aj:=bTr ab ag;obtain⟨ma,mc,ak⟩:=ho.slice;subst ak;clear ho af ag CM K M N O Q;go_wp2;go_ret;exact⟨_,vs,rfl,HO,I,aj⟩
 ·have I:=a8 (DI (yJ z (by decide)) (G.trans (A.mono G.size)));clear z A J K M N O Q;unfold gB;go_wp2;go_ret;exact I
 ·have I:=a8 (DI (yJ z (by decide)) (G.trans (A.mono G.size)));clear z A J K M N O Q;go_wp2;go_ret;exact I
 ·have I:=a8 (DI (yJ z (by decide)) (G.trans (A.mono G.size)));clear z A J K M N O Q;go_wp2;go_ret;exact I
theorem VA.out{v:Value}{E:List V4}{os:List OpV}(h:VA w z v E os)(J:Out lo hi w w')(L:hi≤z):VA w' z v E os:=by
 have A:∀g,z≤g→g<w.heap.size→w'.heap[g]? =w.heap[g]? :=fun g M K=>J.block g K (.inr (by omega));refine⟨h.len,oC h.row A,fun i hi=> ?_,h.ap⟩;obtain⟨a,c,G,I⟩:=h.body i hi;exact⟨a,c,G,fun n=>oC (I n) A⟩
theorem Fk{nm:BA}{d:LN}(h:d.length≤n):∀o∈gG nm d,o.2.2.2.length≤n:=fun o z=>by
 simp only[gG,kz,List.cons_append,PC,Pd,Pw,or_false] at z;rcases z with rfl|rfl|rfl|rfl|rfl<;>simp<;>omega
theorem DJ(D:dO):(iT D).length≤1000∧∀o∈iT D,o.2.2.2.length≤40000:=by
 unfold iT;split
 ·rename_i I;have E:=lV I;have K:=lO eK 5 ko (gY D (eu D));have L:(gY D (eu D)).length≤3:=by
   unfold gY;have:=(AW (eu D).kind).2;rw[O1,OW];split<;>simp<;>omega
  have G:=PK (iu ((gY D (eu D)).flatMap fH) (eu D)) (D.names.map (·.1));have M:=(fX E.2.2.2.2.1).2.2.1;rw[OW] at G;generalize (D.names.map (·.1)).filter (iu ((gY D (eu D)).flatMap fH) (eu D))=F at G;have N:(iX F).length≤F.length+1:=(by unfold iX;split<;>simp);refine⟨by rw[O1];omega,fun o z=> ?_⟩;rcases Pj.1 z with z|z
  ·obtain⟨f,A,z⟩:=List.mem_flatMap.1 z;have J:f.2.1.length≤40000:=by
    unfold gY at A;rcases Pj.1 A with A|A
    ·obtain⟨n,_,rfl⟩:=Pg.1 A;exact gU E n
    ·split at A
     ·cases A
     ·rw[Ph.1 A];exact gU E _
   unfold eK at z;split at z
   ·exact Fk (by rw[Pa];omega) o z
   ·cases z
  ·unfold iX at z;split at z
   ·cases z
   ·rcases Pj.1 z with z|z
    ·obtain⟨n,_,rfl⟩:=Pg.1 z;simp[f8]
    ·rw[Ph.1 z];simp
 ·exact⟨by simp,by simp⟩
theorem xi:∀(us:List OpV) (k:Nat),(∀o∈us,o.2.2.2.length≤40000)→kVo k us us.length≤k+us.length*40003
 |[],k,_=>by simp[kVo]
 |u::r,k,h=>by
  have A:=xi r (k+3+u.2.2.2.length) (fun o z=>h o (O8 _ z));have E:=h u (by simp);show kVo (k+3+u.2.2.2.length) r r.length≤_;simp only[Pf];omega
theorem Jr{v:Value}{D:dO}(p1 p2:Addr)(h:nA w v D)(bG:∀e∈D.nodes,∀x∈e.1,x<256)(hE:oH w)(bI:w.cell? ⟨0,0,none⟩=some (.iface 332 (.pointer (some p1))))(bH:w.cell? ⟨1,0,none⟩=some (.iface 332 (.pointer (some p2)))):
  Calls prog 3 #[v] w fun e w'=>e= .returned (.bool true)∧Below w.heap.size w w':=by
 have bt:=a8 (fun w' (hb:Below w.heap.size w w')=>Km (h.below hb));have bk:=a8 (fun w' (hb:Below w.heap.size w w')=>h.at_.below hb);have bw:=a8 h.wf;have aI:=a8 bG;have HE:=a8 hE;have aO:=a8 bI;have aK:=a8 bH;obtain⟨a1,m1,c1,a2,m2,c2,a3,m3,c3,a4,m4,c4,q,hv⟩:=h.shape;clear h bG hE bI bH;subst hv;have hA:=nAl w (.cells #[.slice a1 m1 c1,.slice a2 m2 c2,.slice a3 m3 c3,.slice a4 m4 c4,.int .i64 q] 26);have L0:=ed.new w #[.slice a1 m1 c1,.slice a2 m2 c2,.slice a3 m3 c3,.slice a4 m4 c4,.int .i64 q] 26;go_enter func3,ntmps3;go_wp2_with fail;generalize w.alloc (.cells #[.slice a1 m1 c1,.slice a2 m2 c2,.slice a3 m3 c3,.slice a4 m4 c4,.int .i64 q] 26)=w0 at hA L0⊢;refine(bt.out w0 hA).mono ?_;rintro e w1 ⟨rfl,aQ⟩;have aG:=a8 (hA.trans (aQ.mono hA.size));have M:=L0.below aQ L0.lt;obtain⟨t0,t1,t2,t3,t4⟩:=M.c5;clear L0 hA aQ;by_cases bd:1048576<zA D
 ·rw[fA bd];go_wp2;go_ret;exact⟨rfl,aG⟩
 have ar:zA D≤1048576:=(by omega);have G:=a8 (Gu ar);have aN:=a8 (Bk ar);rw[jY ar];have bN:¬((1048576:Nat):Int)-(zA D:Int)<0:=(by omega);generalize ((1048576:Nat):Int)-(zA D:Int)=cm at bN⊢;have ao:=a8 (fun(X:World) (hX:Below w.heap.size w X)=>Es _ D X G.n1 G.n2 G.n3 G.n4 aN (bk.out X hX));have br:=a8 (fun(x:Value) (X:World) (I:kJ X x D)=>zi x D X G I);have aM:=a8 (fun(x:Value) (X:World) (hX:Below w.heap.size w X) (I:kJ X x D)=>yn x D p1 p2 X G bw I (HE.below hX) ((hX.cell (p:=⟨0,0,none⟩) (dG aO)).trans aO) ((hX.cell (p:=⟨1,0,none⟩) (dG aK)).trans aK));have bo:=a8 (fun(x y:Value) (X:World) (I:ji X x D) (hy:ji X y D)=>Af x y D X G.n1 G.n2 G.n3 G.n4 aN I hy);have aj:=DJ D;generalize iT D=R at br aM aj;have cq:R.length≤1000:=aj.1;have bV:=xi R 1 aj.2;have aJ:=a8 (fun(a b:OA) (c d:Nat) (X:World) (I:lI X a R) (hy:lI X b R)=>Dd a b c d R X (by omega) (fun e he=>by have:=aj.2 e he;omega) I hy);have bq:=a8 (fun(au:Nat) (a:OA) (c:Nat) (vs:List V4) (X:World) (hB:au≤X.heap.size) (I:VA X au (.slice a R.length c) vs R)=>Gr au a c 1 R vs X hB (by omega) (by omega) (by omega) I);have aL:=a8 (fun(a:OA) (c:Nat) (X:World) (I:lI X a (muV 1 R))=>FQ a c 1 R X (by omega) (by omega) (by omega) I);clear bd ar bt bk bw aN aj HE aO aK bV;generalize ((kVo 1 R R.length:Nat))=KR at bq aL;go_wp2_with fail;refine(ao.out w1 aG).mono ?_;rintro e w2 ⟨x,rfl,bJ,aR⟩;have L2:=M.below aR M.lt;have bQ:=bTr aG aR;have bn:=a8 (yO bJ aI);clear bJ aR t0 t1 t2 t3 t4 M;go_wp2_with fail;refine(br.out x w2 bn).mono ?_;rintro e J ⟨v3,ct,rfl,aT,aS⟩;obtain⟨a5,c5,bW⟩:=aT.slice;subst bW;have N:=L2.below aS L2.lt;have o4:=aT.at;have ae:=bTr bQ aS;clear L2 aS bn aT;obtain⟨t0,t1,t2,t3,t4⟩:=N.c5;go_wp2_with fail;have H4:=a8 (fun(W:World) (hW:Below J.heap.size J W)=>And.intro (N.below hW (by have:=N.lt;omega)) (o4.below hW));refine(ao.out J ae).mono ?_;rintro e z ⟨x5,rfl,aq,ap⟩;have bR:=bTr ae ap;have X5:=a8 (yO aq aI);have R5:=JL aq G.out;have s5:=ap.size;have C5:=a8 ap;obtain⟨Y,k1,O,Z,k2,Q,e3,k3,U,e4,k4,V,q4,bY⟩:=aq.at.shape;subst bY;clear aq ap t0 t1 t2 t3 t4 N o4;have n6:=Cx z (.cells #[.slice Y k1 O,.slice Z k2 Q,.slice e3 k3 U,.slice e4 k4 V,.int .i64 q4] 34);have K:=ed.new z #[.slice Y k1 O,.slice Z k2 Q,.slice e3 k3 U,.slice e4 k4 V,.int .i64 q4] 34;have X6:=a8 (X5.below n6);have R6:=R5.below n6;have C6:=bTr C5 n6;have bl:=bTr bR n6;have bZ:(z.alloc (.cells #[.slice Y k1 O,.slice Z k2 Q,.slice e3 k3 U,.slice e4 k4 V,.int .i64 q4] 34)).heap.size=z.heap.size+1:=OG ..;generalize bU:z.alloc (.cells #[.slice Y k1 O,.slice Z k2 Q,.slice e3 k3 U,.slice e4 k4 V,.int .i64 q4] 34)=w6 at n6 K X6 R6 bl bZ C6;clear X5 R5 C5;obtain⟨b0,b1,b2,b3,b4⟩:=K.c5;go_wp2_with fail;refine(aM.out _ w6 bl X6).mono ?_;rintro e w7 ⟨v7,ca,rfl,aU,bF,ag⟩;obtain⟨a7,c7,bX⟩:=aU.slice;subst bX;have g7:=a8 (aU.va bF);have X7:=a8 (X6.at.below ag);have R7:=R6.below ag;have B7:=K.below ag K.lt;have s7:=ag.size;have C7:=bTr C6 ag;clear ag X6 R6 K n6 bU b0 b1 b2 b3 b4 aU bF C6;go_wp2_with fail;refine(aJ.out a7 a5 c7 c5 w7 g7.out.at (H4.out w7 C7).2).mono ?_;rintro e A ⟨rfl,ab⟩;have X9:=a8 (X7.below ab);have R9:=R7.below ab;have E:=B7.below ab B7.lt;have g9:=a8 (g7.out.below ab);have s9:=ab.size;have C9:=bTr C7 ab;have bm:=a8 (ae.trans (C9.mono ae.size));obtain⟨L9,_⟩:=H4.out A C9.out;clear ab X7 R7 B7 g7 C7;obtain⟨t0,t1,t2,t3,t4⟩:=L9.c5;obtain⟨b0,b1,b2,b3,b4⟩:=E.c5;go_wp2;have bu:=a8 (fun(X:World) (hX:Below A.heap.size A X)=>ao.out X (bm.trans (hX.mono bm.size)));have bx:=X9;have bp:=a8 (And.intro R9 (And.intro E g9.out));clear L9 X9 R9 E g9;go_region_with (first
  |(go_at_call 6;refine(bu.out _ (OX _ _).drew).mono ?_;rintro e ah ⟨cu,rfl,be,aa⟩;have z0:ah.cell? ⟨z.heap.size,0,none⟩=some (.slice Y k1 O):=(aa.cell (p:=⟨z.heap.size,0,none⟩) (dG b0)).trans b0;have z1:ah.cell? ⟨z.heap.size,1,none⟩=some (.slice Z k2 Q):=(aa.cell (p:=⟨z.heap.size,1,none⟩) (dG b1)).trans b1;have z2:ah.cell? ⟨z.heap.size,2,none⟩=some (.slice e3 k3 U):=(aa.cell (p:=⟨z.heap.size,2,none⟩) (dG b2)).trans b2;have z3:ah.cell? ⟨z.heap.size,3,none⟩=some (.slice e4 k4 V):=(aa.cell (p:=⟨z.heap.size,3,none⟩) (dG b3)).trans b3;have z4:ah.cell? ⟨z.heap.size,4,none⟩=some (.int .i64 q4):=(aa.cell (p:=⟨z.heap.size,4,none⟩) (dG b4)).trans b4;have ak:=a8 (((OX A.heap.size A).drew).trans aa);have aW:=a8 be.at;clear be aa)
  |(go_at_call 9;refine(bo.out _ _ ah (bx.below ak) aW).mono ?_;rintro e ai ⟨rfl,bb⟩;have aV:=a8 bb;clear bb))
 all_goals
  have ac:=ak.trans (aV.mono ak.size);obtain⟨R9,E,g9⟩:=bp.out;have bz:=R9.below ac;have ad:=E.below ac E.lt;have bB:=a8 (g9.below ac);have aC:=bTr C9 ac;have cg:=ac.size;clear R9 E g9 bp bu bx bo ak aV aW t0 t1 t2 t3 t4 b0 b1 b2 b3 b4 z0 z1 z2 z3 z4 ac;obtain⟨b0,b1,b2,b3,b4⟩:=ad.c5;go_wp2_with fail;refine(yI J.heap.size z.heap.size _ ai (by omega) bz).mono ?_;rintro e bK ⟨⟨kk,rfl⟩,am⟩;have aD:=a8 (aC.trans (am.below (OV _) aC.size));have aP:=a8 (bB.out.out am (by omega));have cp:¬((kk:Nat):Int)<0:=(by omega);have ch:=am.size;clear bz ad bB am aC b0 b1 b2 b3 b4;go_wp2_with fail;refine(aJ.out a7 a5 c7 c5 bK aP.out.at (H4.out bK aD).2).mono ?_;rintro e cb ⟨rfl,al⟩;have bg:=bTr aD al;have bC:=a8 (aP.out.below al);have ci:=al.size;clear al aD aP;have bj:=a8 (bq.out w6.heap.size a7 c7 ca cb (by omega) bC.out);go_wp2_with fail;refine bj.mono ?_;rintro e cc ⟨rfl,⟨cn,bD⟩,aA⟩;have bh:=a8 (bg.trans (aA.mono (by omega)));have cj:=aA.size;have av:=a8 bD.at;clear aA bg bC bD bj;have cl:¬((KR:Nat):Int)<0:=(by omega);have ck:(((KR:Nat):Int) !=((KR:Nat):Int))=false:=(by simp);go_wp2_with fail;refine(aL.out a7 c7 cc av.out).mono ?_;rintro e L ⟨rfl,aw⟩;have an:=bTr bh aw;have aX:=a8 (av.out.below aw);have aH:=a8 (fun(W:World) (hW:Below J.heap.size J W)=>ae.trans (hW.mono ae.size));clear aw bh av;obtain⟨af,_⟩:=H4.out L an.out;obtain⟨t0,t1,t2,t3,t4⟩:=af.c5;clear af;go_wp2_with fail;refine(ao.out L (aH.out L an)).mono ?_;rintro e bL ⟨cv,rfl,bf,ax⟩;have aE:=bTr an ax;have aY:=a8 (aX.out.below ax);have bA:=a8 (yO bf aI);clear ax an aX bf t0 t1 t2 t3 t4;go_wp2_with fail;refine(aM.out _ bL (aH.out bL aE) bA).mono ?_;rintro e bM ⟨cr,co,rfl,aB,-,ay⟩;obtain⟨bS,bT,bO⟩:=aB.slice;subst bO;have aF:=bTr aE ay;have aZ:=a8 (aY.out.below ay);have bE:=a8 aB.at;clear ay aE aY bA aB;go_wp2_with fail;refine(aJ.out bS a5 bT c5 bM bE.out (H4.out bM aF).2).mono ?_;rintro e cd ⟨rfl,az⟩;have bi:=bTr aF az;have ba:=a8 (aZ.out.below az);clear az aF aZ bE;go_wp2_with fail;refine(aL.out a7 c7 cd ba.out).mono ?_;rintro e ce ⟨rfl,bc⟩;have bP:=bTr bi bc;clear bc bi ba;go_wp2;go_ret;exact⟨rfl,aH.out ce bP⟩
end Go.Proofs.YtkkdfgnnlpohlaaGreatDoor
