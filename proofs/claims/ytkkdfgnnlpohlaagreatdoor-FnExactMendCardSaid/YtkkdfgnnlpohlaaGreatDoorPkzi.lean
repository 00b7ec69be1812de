import Derived.Test.YtkkdfgnnlpohlaaGreatDoorPkzg
namespace Go.Proofs.YtkkdfgnnlpohlaaGreatDoor
set_option maxRecDepth 20000
set_option linter.unusedVariables false
set_option linter.unusedSimpArgs false
set_option maxHeartbeats 4000000
open Go.RowKit Go.Proofs.Tryz
variable {W X Y w w' w0 wr : World} {A B at_ b b2 base' c cap e f g go gs hi i j k lo m n s u val z : Nat} {E G I J K L M N O u0 u1 u2 v0 v1 v2 v3 v4 v5 v6 x y : Value} {o : Oper} {Q : Exit → Act → World → Prop} {cs tmps : Array Value} {t : TypeId} {p : Addr} {l : List Nat} {bvs xs : List Value} {a : List UInt8} {first ok : Bool}
section
open Go.Sort Go.Lib
def mvF(p l0 l1 l2:Value)(c:Nat)(cv:Value):Array Value:= #[p,l0,l1,l2,.int .u32 (c:Int),.int .u32 0,.int .u32 0,.string ⟨#[]⟩,sN,.int .i64 0,.map none,cv]
def lk(w:World)(gm:Nat)(v:Value)(ys:List Cd):Prop:=(v=sN∧ys=[])∨∃ga off cap,v= .slice (some ⟨ga,off,none⟩) ys.length cap∧ys.length≤cap∧cap≤9223372036854775807∧ga<w.heap.size∧ga≠gm∧∀i (h:i<ys.length) j,j<7→w.cell? ⟨ga,off+i*7+j,none⟩=(ee ys[i])[j]?
theorem lk.slice{w:World}{z:Nat}{v:Value}{ys:List Cd}(h:lk w z v ys):∃a cap,v= .slice a ys.length cap:=by
 rcases h with⟨rfl,rfl⟩|⟨E,A,cap,rfl,_⟩
 ·exact⟨_,_,rfl⟩
 ·exact⟨_,_,rfl⟩
theorem Hp{w:World}{E lo:Nat}{a:OA}{cap:Nat}{ys:List Cd}(h:l7 w lo (.slice a ys.length cap) ys)(L:∀g,(Value.slice a ys.length cap).ownBlock=some g→g≠E):lk w E (.slice a ys.length cap) ys:=by
 rcases h.2.2 with⟨z,A⟩|⟨g,M,N,z,O,J,G,K,_⟩
 ·exact .inl ⟨z,by simpa using A⟩
 ·simp only[O3] at z;obtain⟨rfl,_,rfl⟩:=z;rw[OW] at G;refine .inr ⟨g,0,cap,rfl,G,K,OT J,L g rfl,fun i hi j I=> ?_⟩;have A:((ys.map ee)[i]'(by simpa using hi)).length=7:=(by rw[Po];rfl);rw[Ps,h.cell i j (by simpa using hi) (by rw[A];exact I),OZ (by show j<7;exact I)];congr 1;simp
theorem lk.tail{w:World}{G:Nat}{E z cap:Nat}{y:Cd}{ys:List Cd}(h:lk w G (.slice (some ⟨E,z,none⟩) (ys.length+1) cap) (y::ys))(U:cap≠1):lk w G (.slice (some ⟨E,z+7,none⟩) ys.length (cap-1)) ys:=by
 rcases h with⟨A,_⟩|⟨Q,O,N,A,I,R,J,K,L⟩
 ·cases A
 ·simp only[O3,OY,PG,and_true] at A;obtain⟨⟨rfl,rfl⟩,_,rfl⟩:=A;simp only[Pf] at I;refine .inr ⟨E,z+7,cap-1,rfl,by omega,by omega,J,K,fun i hi j M=> ?_⟩;have:=L (i+1) (by simpa using hi) j M;rw[show z+7+i*7+j=z+(i+1)*7+j by omega,this];simp
theorem lk.tail1{w:World}{G:Nat}{E A:Nat}{y:Cd}{ys:List Cd}(h:lk w G (.slice (some ⟨E,A,none⟩) (ys.length+1) 1) (y::ys)):lk w G (.slice (some ⟨E,A,none⟩) ys.length 0) ys:=by
 rcases h with⟨z,_⟩|⟨N,M,L,z,I,O,J,K,Q⟩
 ·cases z
 ·simp only[O3,OY,PG,and_true] at z;obtain⟨⟨rfl,rfl⟩,_,rfl⟩:=z;simp only[Pf] at I;have:ys=[]:=Pp.1 (by omega);subst this;exact .inr ⟨E,A,0,rfl,OV _,by omega,J,K,fun i hi=>by cases hi⟩
def usF(c:Nat)(ms:List IM):LN:=(ms.map (·.uid)).takeWhile (fun u=>decide (u≤c))
theorem Mj{c:Nat}{ms:List IM}{i:Nat}(h:i<ms.length)(z:ms[i].uid≤c):usF c (ms.drop i)=ms[i].uid::usF c (ms.drop (i+1)):=by
 unfold usF;rw[fP ms i h,Pe,List.takeWhile_cons,OS (ON z)]
theorem Nz{c:Nat}{ms:List IM}{i:Nat}(h:i<ms.length)(z:¬ms[i].uid≤c):usF c (ms.drop i)=[]:=by
 unfold usF;rw[fP ms i h,Pe,List.takeWhile_cons,OR (by simpa using z)]
def lenOf:Value→Nat
 | .slice _ n _=>n
 |_=>0
def FmS(gm ga off:Nat)(v c0 c1 c2 c3 c4 c5 c6:Value)(w:World):Prop:=w.cell? ⟨gm,11,none⟩=some v∧w.cell? ⟨ga,off,none⟩=some c0∧w.cell? ⟨ga,off+1,none⟩=some c1∧w.cell? ⟨ga,off+2,none⟩=some c2∧w.cell? ⟨ga,off+3,none⟩=some c3∧w.cell? ⟨ga,off+4,none⟩=some c4∧w.cell? ⟨ga,off+5,none⟩=some c5∧w.cell? ⟨ga,off+6,none⟩=some c6
structure FmI(gm:Nat)(w wr:World)(p l0 l1 l2:Value)(c:Nat)(cv:Value)(fs:List Cd):Prop where
 st:Blk wr gm (mvF p l0 l1 l2 c cv) 206
 row:l7 wr w.heap.size cv fs
 bel:dX gm w.heap.size w wr
 lt:gm<w.heap.size
theorem FmI.below{E:Nat}{w wr wr':World}{p G I J:Value}{c:Nat}{A:Value}{fs:List Cd}(h:FmI E w wr p G I J c A fs)(z:Below wr.heap.size wr wr'):FmI E w wr' p G I J c A fs:=
 ⟨h.st.below z h.st.lt,dM.below h.row z (OV _),h.bel.trans (dX.of_below z h.bel.size),h.lt⟩
theorem FmI.app{z:Nat}{w W w':World}{p K L M:Value}{c:Nat}{E A:Value}{fs:List Cd}{x:Cd}(h:FmI z w W p K L M c E fs)(O:l7 w' w.heap.size A (fs++[x]))(G:W.grownBy w' E.ownBlock):
  w'.cell? ⟨z,11,none⟩=some E∧w'.frozen? ⟨z,11,none⟩=false∧FmI z w (w'.setCell ⟨z,11,none⟩ A) p K L M c A (fs++[x]):=by
 have N:∀b,b<W.heap.size→E.ownBlock≠some b→w'.heap[b]? =W.heap[b]? :=fun b R U=>G.block b R (fun e=>U e.symm);have Q:E.ownBlock≠some z:=fun e=>(by have:=(dM.lt h.row z e).1;have:=h.lt;omega);have J:Blk w' z (mvF p K L M c E) 206:=eA h.st (N z h.st.lt Q);refine⟨J.cell 11,J.fz 11,J.set 11 A,dM.keep O (fun b I=>OQ w' ⟨z,11,none⟩ b A (by intro e;have e:b=z:=e;subst e;have:=(dM.lt O b I).1;have:=h.lt;omega)),?_,h.lt⟩;exact dX.set ⟨G.os.trans h.bel.os,G.tape.trans h.bel.tape,G.output.trans h.bel.output,O0 h.bel.size G.size,fun b I V=>(N b (Pb I h.bel.size) (fun e=>by have:=(dM.lt h.row b e).1;omega)).trans (h.bel.block b I V)⟩ A
theorem FmI.grew{E:Nat}{w W w':World}{p J K L:Value}{c:Nat}{A:Value}{fs:List Cd}(h:FmI E w W p J K L c A fs)(z:W.grownBy w' A.ownBlock):dX E w.heap.size w w':=
 ⟨z.os.trans h.bel.os,z.tape.trans h.bel.tape,z.output.trans h.bel.output,O0 h.bel.size z.size,fun b G I=>(z.block b (Pb G h.bel.size) (fun e=>by have:=(dM.lt h.row b e.symm).1;omega)).trans (h.bel.block b G I)⟩
theorem jC{M:Array Oper}{o:Oper}{A:Act}{K:Act→World→Prop}{Q:Exit→Act→World→Prop}{E:Prop}(w:World)(V:o.guard=none)(s x:Operand)
  (ho:o.op= .call {callee:= .builtin .append,args:= #[s,x],argTypes:= #[202,202]})
  (G:Nat) (v:Value) (cs:List Cd) (c:Cd) (J N:Nat) (hs:A.eval s=v) (hx:A.eval x=sS J 1 N) (L:l7 w G v cs)
  (hc:∀j u,(ee c)[j]? =some u→w.cell? ⟨J,j,none⟩=some u) (ab:cs.length≤1048576) (O:G≤w.heap.size)
  (h:∀I w',l7 w' G I (cs++[c])→w.grownBy w' v.ownBlock→K (A.put o.dst I) w'):if Region.wanted o (yielded M A.tmps)=true then Oper.wp prog o A w K Q else E:=by
 have hw:Region.wanted o (yielded M A.tmps)=true:=(by simp[Region.wanted,V]);rw[OS hw];obtain⟨i0,hi,Y,Z,aa⟩:=info_parts EL;have R:w.ownsRow G 217 7 v cs.length (cs.map ee).flatten:=(by have:=L.2;rw[OW] at this;exact this);refine wp_append_own w s x 202 ho G 217 i0 (.agg #[.string ⟨#[]⟩,sN,.int .i64 0,.bool false,.int .u32 0,.int .i64 0,.int .u32 0]) 7 72 underlying202 hi Y Z aa rfl (by decide) v cs.length (cs.map ee).flatten hs R ⟨J,0,none⟩ 1 N (ee c) hx (by simp[ee]) ?_ ?_ (by unfold maxLen;omega) (by omega) O ?_
 ·intro j u hj;rw[ez,Ps];exact hc j u hj
 ·exact nI c
 ·intro I w' U hg _;refine h I w' ⟨?_,?_⟩ hg
  ·intro y z;rw[O7,Pj] at z;rcases z with z|z
   ·exact L.1 y z
   ·simp only[Pe,PD,Ph] at z;rw[z];rfl
  ·rw[OW,O1,O7,PQ];simpa using U
def ME(gm:Nat)(w:World)(p l0 l1 l2:Value)(c:Nat)(o:Option (List Cd))(e:Ending)(w':World):Prop:=
 (∃fs ca cc,o=some fs∧e= .returned .nilIface∧FmI gm w w' p l0 l1 l2 c (.slice ca fs.length cc) fs)∨(o=none∧∃nm t,e= .returned (gB nm t)∧dX gm w.heap.size w w')
theorem vA(z go lo:Nat)(w:World)(l0 l1 l2:Value)(c:Nat)(ms:List IM)(bvs:List Value)(am:OA)(cm:Nat)(av:Value)(all:List Cd)(aK:Blk w z (mvF (pP go) l0 l1 l2 c (sN)) 206)(bO:go≠z)(h9:w.cell? ⟨go,9,none⟩=some (.slice am ms.length cm))(aU:dM w lo 243 6 (.slice am ms.length cm) (List.zipWith il1 ms bvs))(bh:bvs.length=ms.length)(bq:∀b∈bvs,∃a n c,b= .slice a n c)(aT:lk w z av all)(hn:ms.length≤100)(bJ:all.length≤300)(hE:∀w',dX z w.heap.size w w'→oH w')(hb:∀m∈ms,m.uid≤4294967294∧m.flags≤2147483647):
  Calls prog 117 #[pP z,av] w (ME z w (pP go) l0 l1 l2 c (fmG Cd.uid all (usF c ms))):=by
 have m0:w.cell? ⟨z,0,none⟩=some (pP go):=aK.cell 0;have bE:=a8 (show FmI z w w (pP go) l0 l1 l2 c (sN) [] from⟨aK,dM.nil _ _ _ _,dX.refl _ _ _,aK.lt⟩);have bt:=a8 aT;have be:=a8 aU;have bd:=a8 bh;have HE:=a8 hE;have bB:=a8 hb;obtain⟨aa,ac,bK⟩:=aT.slice;subst bK;have bC:=a8 bq;have bD:=a8 (show(Value.slice am ms.length cm).ownBlock≠some z from eV aU aK (by decide));clear aK bO aU bh aT hE hb bq;go_enter func117,ntmps117;go_wp2;go_loopw [1,6,15] (fun t1 _ i wr=>∃(j:Nat) (aa:OA) (ac:Nat) (aj fs:List Cd) (ca:OA) (cc:Nat),j≤ms.length∧i=iI j∧t1= .slice aa aj.length ac∧aj.length≤300∧fs.length≤j∧Hid (lk w z (.slice aa aj.length ac) aj)∧Hid (fmG Cd.uid all (usF c ms)=(fmG Cd.uid aj (usF c (ms.drop j))).map (fs++·))∧Hid (FmI z w wr (pP go) l0 l1 l2 c (.slice ca fs.length cc) fs)) (fun _ _ i _=>ms.length-(intOf i).toNat)
 case atStart=>exact⟨0,aa,ac,all,[],none,0,O4 _,rfl,rfl,bJ,OV _,bt,a8 (by simp),bE⟩
 case round=>
  obtain⟨j,bH,bI,aj,fs,ca,cc,hj,rfl,rfl,bQ,bX,bA,az,HI⟩:=hrel;by_cases aJ:j<ms.length
  ·have bT:(j:Int)<(ms.length:Int):=(by omega);have br:j<bvs.length:=(by have:=bd.out;omega);obtain⟨g,bN,_,bf⟩:=be.at0 (by rw[List.length_zipWith,bd.out];omega);subst bN;have bg:g≠z:=fun e=>bD.out (by rw[e];rfl);obtain⟨ba,bn,bc,bo⟩:=bC.out bvs[j] (O6 br);have HC:=a8 (show∀k (hk:k<6),wr.cell? ⟨g,j*6+k,none⟩=(il1 ms[j] bvs[j])[k]? from fun k hk=>by
    rw[ef (HI.bel.block g bf bg)];exact pf be j aJ br k hk)
   rw[bo] at HC;have bl:=a8 (Mj (c:=c) aJ);have bk:=a8 (Nz (c:=c) aJ);obtain⟨bS,bM⟩:=bB.out ms[j] (O6 aJ);generalize ms[j]=m at HC bl bk bS bM;unfold il1 at HC;generalize decide (m.bare=1)=y5 at HC;have k0:wr.cell? ⟨g,j*6,none⟩=some (uI m.uid):=HC.out 0 (by omega);have k1:wr.cell? ⟨g,j*6+1,none⟩=some (iI m.stamp):=HC.out 1 (by omega);have k2:wr.cell? ⟨g,j*6+2,none⟩=some (uI m.flags):=HC.out 2 (by omega);have k3:wr.cell? ⟨g,j*6+3,none⟩=some (.slice ba bn bc):=HC.out 3 (by omega);have k4:wr.cell? ⟨g,j*6+4,none⟩=some (iI m.size):=HC.out 4 (by omega);have k5:wr.cell? ⟨g,j*6+5,none⟩=some (.bool y5):=HC.out 5 (by omega);have bp:=nAl wr (.cells #[uI m.uid,iI m.stamp,uI m.flags,.slice ba bn bc,iI m.size,.bool y5] 243);have HM:=a8 (dQ wr #[uI m.uid,iI m.stamp,uI m.flags,.slice ba bn bc,iI m.size,.bool y5] 243);have aG:=a8 (HI.below bp);clear bp HC bo bg bf;go_upto_region 4 with fail;generalize wr.alloc (.cells #[uI m.uid,iI m.stamp,uI m.flags,.slice ba bn bc,iI m.size,.bool y5] 243)=X at HM aG⊢;clear k0 k1 k2 k3 k4 k5;have m0:X.cell? ⟨wr.heap.size,0,none⟩=some (uI m.uid):=HM.cell 0;obtain⟨-,-,-,-,c4⟩:=aG.st.c5;by_cases aP:m.uid≤c
   ·have bw:¬(c:Int)<(m.uid:Int):=(by omega);have HU:=a8 (bl.out aP);clear aP;go_quiet(fail);go_wp2;have bj:=a8 (aG.below (OI (OX _ _) nq));have aO:=a8 (HM.below (OI (OX X.heap.size X) nq) HM.lt);generalize X.drewN nq=Z at bj aO⊢;clear m0 c4 HM aG;generalize wr.heap.size=gx at aO⊢;go_loopw [1] (fun t1 wz=>∃(ab:OA) (ad:Nat) (rs:List Cd),t1= .slice ab rs.length ad∧rs.length≤300∧Hid (lk w z (.slice ab rs.length ad) rs)∧Hid (rs.dropWhile (fun x=>decide (x.uid<m.uid))=aj.dropWhile (fun x=>decide (x.uid<m.uid)))∧Hid (Below Z.heap.size Z wz)) (fun t1 _=>lenOf t1)
    case atStart=>exact⟨bH,bI,aj,rfl,bQ,bA,a8 rfl,a8 (OX _ _)⟩
    case round=>
     obtain⟨ab,ad,rs,rfl,aY,ar,aV,an⟩:=hrel;have aN:=a8 (bj.below an);have au:=a8 (aO.below an aO.lt);have m0:wr.cell? ⟨gx,0,none⟩=some (uI m.uid):=au.cell 0;cases rs with
     |nil=>
      have HN:=a8 (show fmG Cd.uid all (usF c ms)=none by rw[az.out,HU.out];unfold fmG;rw[←aV.out];rfl);go_upto_region 5 with fail;go_quiet(fail);go_wp2;have ai:=a8 (au.below (OI (OX wr.heap.size wr) nq) au.lt);have ah:=a8 (aN.below (OI (OX wr.heap.size wr) nq));have aA:=a8 (an.trans ((OI (OX wr.heap.size wr) nq).mono an.size));generalize wr.drewN nq=E at ai ah aA⊢;have aC:E.cell? ⟨gx,0,none⟩=some (uI m.uid):=ai.cell 0;go_quiet(fail);have ag:=a8 (ai.below (OI (OX E.heap.size E) nq) ai.lt);have U:=a8 (ah.below (OI (OX E.heap.size E) nq));generalize E.drewN nq=Y at ag U⊢;clear m0 aC;obtain⟨q0,q1,q2⟩:=ag.c3;have CN:=a8 (kR m.uid (m.stamp:Int) m.flags Y (by omega) (by omega) (HE.out Y U.bel).tab);go_wp2_with fail;refine CN.mono ?_;rintro e w8 ⟨rfl,ao⟩;have aF:=a8 (U.below ao).bel;clear ao CN;go_wp2;go_ret;exact Or.inr ⟨HN,_,_,rfl,aF⟩
     |cons y ys=>
      have bR:∃G I,ab=some ⟨G,I,none⟩:=by
       rcases ar.out with⟨hv,hl⟩|⟨G,I,cap,hv,_⟩
       ·cases hl
       ·simp only[O3] at hv;exact⟨G,I,hv.1⟩
      obtain⟨G,I,rfl⟩:=bR;obtain⟨h1,h2,h3,h4,h5⟩:ys.length+1≤ad∧ad≤9223372036854775807∧G<w.heap.size∧G≠z∧∀i (h:i<(y::ys).length) j,j<7→w.cell? ⟨G,I+i*7+j,none⟩=(ee (y::ys)[i])[j]? :=by
       rcases ar.out with⟨hv,hl⟩|⟨bV,bU,cap,hv,e1,e2,e3,e4,e5⟩
       ·cases hl
       ·simp only[O3,OY,PG,and_true] at hv;obtain⟨⟨rfl,rfl⟩,_,rfl⟩:=hv;exact⟨by simpa using e1,e2,e3,e4,e5⟩
      have ae:=a8 (show∀Y,dX z w.heap.size w Y→∀k (hk:k<7),Y.cell? ⟨G,I+k,none⟩=(ee y)[k]? from fun Y hY k hk=>by
       rw[ef (hY.block G h3 h4)];have:=h5 0 (by simp) k hk;simpa using this)
      have bm:=a8 (show∀Y,dX z w.heap.size w Y→∀d q,ys=d::q→Y.cell? ⟨G,I+7+4,none⟩=some (uI d.uid) from fun Y hY d q e=>by
       rw[ef (hY.block G h3 h4)];subst e;have:=h5 1 (by simp) 4 (by omega);rw[show I+7+4=I+1*7+4 by omega,this];rfl)
      have y4:wr.cell? ⟨G,I+4,none⟩=some (uI y.uid):=ae.out wr aN.bel 4 (by omega);have bY:(0:Int)<((ys.length:Int)+1):=(by omega);have bZ:(((ys.length:Int)+1)==0)=false:=(by simp;omega);have bW:((ys.length:Int)+1)≤(ad:Int):=(by omega);simp only[Pf] at ar aY⊢;by_cases aZ:y.uid<m.uid
      ·have bz:(y.uid:Int)<(m.uid:Int):=(by omega);have aD:=a8 (show ys.dropWhile (fun x=>decide (x.uid<m.uid))=aj.dropWhile (fun x=>decide (x.uid<m.uid)) by rw[←aV.out,List.dropWhile_cons,OS (ON aZ)]);have bF:=a8 (fun h=>lk.tail ar h);have bG:=a8 (show ad=1→lk w z (.slice (some ⟨G,I,none⟩) ys.length 0) ys from fun e=>by have h:=ar.out;rw[e] at h;exact lk.tail1 h);clear aZ h5;go_upto_region 5 with fail;go_quiet(fail);go_wp2;have ai:=a8 (au.below (OI (OX wr.heap.size wr) nq) au.lt);have ah:=a8 (aN.below (OI (OX wr.heap.size wr) nq));have aA:=a8 (an.trans ((OI (OX wr.heap.size wr) nq).mono an.size));generalize wr.drewN nq=E at ai ah aA⊢;refine⟨⟨_,ad-1,ys,rfl,by omega,a8 ?_,aD,aA⟩,by simp[lenOf]⟩;by_cases h:ad=1
       ·rw[OS h,h];exact bG.out h
       ·rw[OR h];exact bF.out h
      ·have bz:¬(y.uid:Int)<(m.uid:Int):=(by omega);have aD:=a8 (show aj.dropWhile (fun x=>decide (x.uid<m.uid))=y::ys by rw[←aV.out,List.dropWhile_cons,OR (by simpa using aZ)]);go_upto_region 5 with fail;go_quiet(fail);go_wp2;have ai:=a8 (au.below (OI (OX wr.heap.size wr) nq) au.lt);have ah:=a8 (aN.below (OI (OX wr.heap.size wr) nq));have aA:=a8 (an.trans ((OI (OX wr.heap.size wr) nq).mono an.size));generalize wr.drewN nq=E at ai ah aA⊢;have aC:E.cell? ⟨gx,0,none⟩=some (uI m.uid):=ai.cell 0;have aR:E.cell? ⟨G,I+4,none⟩=some (uI y.uid):=ae.out E ah.bel 4 (by omega);clear m0 y4 h5;by_cases aB:y.uid=m.uid
       ·have bx:((y.uid:Int) !=(m.uid:Int))=false:=(by simp;omega);by_cases aq:(ys.head?.map Cd.uid)=some m.uid
        ·obtain⟨d,q,ap,bL⟩:∃d q,ys=d::q∧d.uid=m.uid:=by
          cases ys with
          |nil=>cases aq
          |cons d q=>exact⟨d,q,rfl,by simpa using aq⟩
         have aX:E.cell? ⟨G,I+7+4,none⟩=some (uI d.uid):=bm.out E ah.bel d q ap;have bi:(1:Int)<((ys.length:Int)+1):=(by rw[ap];simp;omega);have bu:((d.uid:Int)==(m.uid:Int))=true:=(by simp;omega);have HN:=a8 (show fmG Cd.uid all (usF c ms)=none by rw[az.out,HU.out];unfold fmG;rw[aD.out];simp only;rw[OR (fun h=>h.2 aq)];rfl);clear aq ap bL aB;go_quiet(fail);have ag:=a8 (ai.below (OI (OX E.heap.size E) nq) ai.lt);have U:=a8 (ah.below (OI (OX E.heap.size E) nq));generalize E.drewN nq=Y at ag U⊢;clear aC aR aX;obtain⟨q0,q1,q2⟩:=ag.c3;have CN:=a8 (kR m.uid (m.stamp:Int) m.flags Y (by omega) (by omega) (HE.out Y U.bel).tab);go_wp2_with fail;refine CN.mono ?_;rintro e w8 ⟨rfl,ao⟩;have aF:=a8 (U.below ao).bel;clear ao CN;go_wp2;go_ret;exact Or.inr ⟨HN,_,_,rfl,aF⟩
        ·have bb:=a8 (show fmG Cd.uid all (usF c ms)=(fmG Cd.uid (y::ys) (usF c (ms.drop (j+1)))).map ((fs++[y])++·) by
          rw[az.out,HU.out]
          conv=>lhs;unfold fmG
          rw[aD.out];simp only;rw[OS ⟨aB,aq⟩];cases fmG Cd.uid (y::ys) (usF c (ms.drop (j+1)))<;>simp)
         by_cases aQ:ys=[]
         ·have bi:¬(1:Int)<((ys.length:Int)+1):=(by rw[aQ];simp);clear aq aB aQ;go_quiet(fail);go_wp2;have U:=a8 (ah.below (OI (OX E.heap.size E) nq));generalize E.drewN nq=Y at U⊢;clear aC aR;have aw:=a8 (show∀Q,dX z w.heap.size w Q→Q.cell? ⟨z,11,none⟩=some (.slice ca fs.length cc)→FmS z G I (.slice ca fs.length cc) (.string y.name) (.slice y.ad y.dl y.dc) (iI y.dl) (.bool true) (uI y.uid) (iI y.stamp) (uI y.flags) Q from fun Q hQ h=>⟨h,ae.out Q hQ 0 (by omega),ae.out Q hQ 1 (by omega),ae.out Q hQ 2 (by omega),ae.out Q hQ 3 (by omega),ae.out Q hQ 4 (by omega),ae.out Q hQ 5 (by omega),ae.out Q hQ 6 (by omega)⟩);have ak:=a8 (U.below (OX _ _).drew);refine gF (by kernel_rfl) (FmS z G I (.slice ca fs.length cc) (.string y.name) (.slice y.ad y.dl y.dc) (iI y.dl) (.bool true) (uI y.uid) (iI y.stamp) (uI y.flags)) 14 ?_;generalize Y.drew=V at ak⊢;have A:=aw.out V ak.bel (ak.st.cell 11);refine dZ 0 (pP z) rfl A ?_ ?_
          ·rintro wz ⟨J,L,z2,M,z4,N,O,R⟩;go_simp
          simp only[dI,dJ,dK,dL];refine dZ 1 (pP z) rfl A ?_ ?_
          ·rintro wz ⟨J,L,z2,M,z4,N,O,R⟩;go_simp
          simp only[dI,dJ,dK,dL];refine dZ 2 (pP z) rfl A ?_ ?_
          ·rintro wz ⟨J,L,z2,M,z4,N,O,R⟩;go_simp
          simp only[dI,dJ,dK,dL];refine dZ 3 (.pointer (some ⟨z,5,none⟩)) rfl A ?_ ?_
          ·rintro wz ⟨J,L,z2,M,z4,N,O,R⟩;go_simp
          simp only[dI,dJ,dK,dL];refine dZ 4 (.pointer (some ⟨z,11,none⟩)) rfl A ?_ ?_
          ·rintro wz ⟨J,L,z2,M,z4,N,O,R⟩;go_simp
          simp only[dI,dJ,dK,dL];refine dZ 5 (.slice ca fs.length cc) rfl A ?_ ?_
          ·rintro wz ⟨J,L,z2,M,z4,N,O,R⟩;go_simp
          simp only[dI,dJ,dK,dL];refine dZ 6 (.slice (some ⟨G,I,none⟩) (ys.length+1) ad) rfl A ?_ ?_
          ·rintro wz ⟨J,L,z2,M,z4,N,O,R⟩;go_simp
          simp only[dI,dJ,dK,dL];refine dZ 7 (.pointer (some ⟨G,I,none⟩)) rfl A ?_ ?_
          ·rintro wz ⟨J,L,z2,M,z4,N,O,R⟩;go_simp
          simp only[dI,dJ,dK,dL];refine dZ 8 (.agg #[.string y.name,.slice y.ad y.dl y.dc,iI y.dl,.bool true,uI y.uid,iI y.stamp,uI y.flags]) rfl A ?_ ?_
          ·rintro wz ⟨J,L,z2,M,z4,N,O,R⟩;go_simp
          simp only[dI,dJ,dK,dL];refine dY 9 rfl (by kernel_rfl) (fun K hK=> ?_);go_simp;have aE:=nAl V (.cells #[.string y.name,.slice y.ad y.dl y.dc,iI y.dl,.bool true,uI y.uid,iI y.stamp,uI y.flags] 217);have aH:=a8 (dQ V #[.string y.name,.slice y.ad y.dl y.dc,iI y.dl,.bool true,uI y.uid,iI y.stamp,uI y.flags] 217);have af:=a8 (ak.below aE);refine hK _ _ (fun _=>aw.out _ af.bel (af.st.cell 11)) ?_;clear hK K aE A
          try simp only[dI,dJ,dK,dL]
          generalize V.alloc (.cells #[.string y.name,.slice y.ad y.dl y.dc,iI y.dl,.bool true,uI y.uid,iI y.stamp,uI y.flags] 217)=V2 at aH af⊢;refine dY 10 rfl (by kernel_rfl) (fun K hK=> ?_);refine jC _ (by rfl) (.tmp 91) (.tmp 95) (by rfl) w.heap.size (.slice ca fs.length cc) fs y V.heap.size 1 (by simp[go_sem]) (by simp[go_sem]) af.row (fun j v hj=>(aH.cell j).trans (by simpa[ee] using hj)) (by omega) af.bel.size ?_;intro v7 w7 ay ax;have al:=af.app ay ax;have aI:=af.grew ax;obtain⟨a7,c7,aL⟩:=dM.slice ay;rw[OW] at aL;subst aL;have aM:=al.1;have aS:=al.2.1;have aW:=a8 al.2.2;have A:=aw.out w7 aI aM;refine hK _ _ (fun _=>A) ?_;clear hK K al ax ay aI
          try simp only[dI,dJ,dK,dL]
          refine dZ 11 (pP z) rfl A ?_ ?_
          ·rintro wz ⟨J,L,z2,M,z4,N,O,R⟩;go_simp
          simp only[dI,dJ,dK,dL];refine dZ 12 (.pointer (some ⟨z,5,none⟩)) rfl A ?_ ?_
          ·rintro wz ⟨J,L,z2,M,z4,N,O,R⟩;go_simp
          simp only[dI,dJ,dK,dL];refine dZ 13 (.pointer (some ⟨z,11,none⟩)) rfl A ?_ ?_
          ·rintro wz ⟨J,L,z2,M,z4,N,O,R⟩;go_simp
          simp only[dI,dJ,dK,dL];refine dY 14 rfl (by kernel_rfl) (fun K hK=> ?_);go_simp;refine hK _ _ (fun h=>by cases h) (fe (by kernel_rfl) ?_ _);clear hK K A aM aS;go_wp2;refine⟨⟨j+1,some ⟨G,I,none⟩,ad,y::ys,fs++[y],a7,c7,by omega,by go_num,by simp,by simpa using aY,by simp;omega,a8 (by simpa using ar.out),bb,?_⟩,by simp[intOf];omega⟩;have:=aW;simpa using this
         ·obtain⟨d,q,ap⟩:∃d q,ys=d::q:=by
           cases ys with
           |nil=>exact OH rfl aQ
           |cons d q=>exact⟨d,q,rfl⟩
          have aX:E.cell? ⟨G,I+7+4,none⟩=some (uI d.uid):=bm.out E ah.bel d q ap;have bi:(1:Int)<((ys.length:Int)+1):=(by rw[ap];simp;omega);have bu:((d.uid:Int)==(m.uid:Int))=false:=by
           have:d.uid≠m.uid:=fun e=>aq (by rw[ap];simp[e]);simp;omega
          clear aq aB aQ ap;go_quiet(fail);go_wp2;have U:=a8 (ah.below (OI (OX E.heap.size E) nq));generalize E.drewN nq=Y at U⊢;clear aC aR aX;have aw:=a8 (show∀Q,dX z w.heap.size w Q→Q.cell? ⟨z,11,none⟩=some (.slice ca fs.length cc)→FmS z G I (.slice ca fs.length cc) (.string y.name) (.slice y.ad y.dl y.dc) (iI y.dl) (.bool true) (uI y.uid) (iI y.stamp) (uI y.flags) Q from fun Q hQ h=>⟨h,ae.out Q hQ 0 (by omega),ae.out Q hQ 1 (by omega),ae.out Q hQ 2 (by omega),ae.out Q hQ 3 (by omega),ae.out Q hQ 4 (by omega),ae.out Q hQ 5 (by omega),ae.out Q hQ 6 (by omega)⟩);have ak:=a8 (U.below (OX _ _).drew);refine gF (by kernel_rfl) (FmS z G I (.slice ca fs.length cc) (.string y.name) (.slice y.ad y.dl y.dc) (iI y.dl) (.bool true) (uI y.uid) (iI y.stamp) (uI y.flags)) 14 ?_;generalize Y.drew=V at ak⊢;have A:=aw.out V ak.bel (ak.st.cell 11);refine dZ 0 (pP z) rfl A ?_ ?_
          ·rintro wz ⟨J,L,z2,M,z4,N,O,R⟩;go_simp
          simp only[dI,dJ,dK,dL];refine dZ 1 (pP z) rfl A ?_ ?_
          ·rintro wz ⟨J,L,z2,M,z4,N,O,R⟩;go_simp
          simp only[dI,dJ,dK,dL];refine dZ 2 (pP z) rfl A ?_ ?_
          ·rintro wz ⟨J,L,z2,M,z4,N,O,R⟩;go_simp
          simp only[dI,dJ,dK,dL];refine dZ 3 (.pointer (some ⟨z,5,none⟩)) rfl A ?_ ?_
          ·rintro wz ⟨J,L,z2,M,z4,N,O,R⟩;go_simp
          simp only[dI,dJ,dK,dL];refine dZ 4 (.pointer (some ⟨z,11,none⟩)) rfl A ?_ ?_
          ·rintro wz ⟨J,L,z2,M,z4,N,O,R⟩;go_simp
          simp only[dI,dJ,dK,dL];refine dZ 5 (.slice ca fs.length cc) rfl A ?_ ?_
          ·rintro wz ⟨J,L,z2,M,z4,N,O,R⟩;go_simp
          simp only[dI,dJ,dK,dL];refine dZ 6 (.slice (some ⟨G,I,none⟩) (ys.length+1) ad) rfl A ?_ ?_
          ·rintro wz ⟨J,L,z2,M,z4,N,O,R⟩;go_simp
          simp only[dI,dJ,dK,dL];refine dZ 7 (.pointer (some ⟨G,I,none⟩)) rfl A ?_ ?_
          ·rintro wz ⟨J,L,z2,M,z4,N,O,R⟩;go_simp
          simp only[dI,dJ,dK,dL];refine dZ 8 (.agg #[.string y.name,.slice y.ad y.dl y.dc,iI y.dl,.bool true,uI y.uid,iI y.stamp,uI y.flags]) rfl A ?_ ?_
          ·rintro wz ⟨J,L,z2,M,z4,N,O,R⟩;go_simp
          simp only[dI,dJ,dK,dL];refine dY 9 rfl (by kernel_rfl) (fun K hK=> ?_);go_simp;have aE:=nAl V (.cells #[.string y.name,.slice y.ad y.dl y.dc,iI y.dl,.bool true,uI y.uid,iI y.stamp,uI y.flags] 217);have aH:=a8 (dQ V #[.string y.name,.slice y.ad y.dl y.dc,iI y.dl,.bool true,uI y.uid,iI y.stamp,uI y.flags] 217);have af:=a8 (ak.below aE);refine hK _ _ (fun _=>aw.out _ af.bel (af.st.cell 11)) ?_;clear hK K aE A
          try simp only[dI,dJ,dK,dL]
          generalize V.alloc (.cells #[.string y.name,.slice y.ad y.dl y.dc,iI y.dl,.bool true,uI y.uid,iI y.stamp,uI y.flags] 217)=V2 at aH af⊢;refine dY 10 rfl (by kernel_rfl) (fun K hK=> ?_);refine jC _ (by rfl) (.tmp 91) (.tmp 95) (by rfl) w.heap.size (.slice ca fs.length cc) fs y V.heap.size 1 (by simp[go_sem]) (by simp[go_sem]) af.row (fun j v hj=>(aH.cell j).trans (by simpa[ee] using hj)) (by omega) af.bel.size ?_;intro v7 w7 ay ax;have al:=af.app ay ax;have aI:=af.grew ax;obtain⟨a7,c7,aL⟩:=dM.slice ay;rw[OW] at aL;subst aL;have aM:=al.1;have aS:=al.2.1;have aW:=a8 al.2.2;have A:=aw.out w7 aI aM;refine hK _ _ (fun _=>A) ?_;clear hK K al ax ay aI
          try simp only[dI,dJ,dK,dL]
          refine dZ 11 (pP z) rfl A ?_ ?_
          ·rintro wz ⟨J,L,z2,M,z4,N,O,R⟩;go_simp
          simp only[dI,dJ,dK,dL];refine dZ 12 (.pointer (some ⟨z,5,none⟩)) rfl A ?_ ?_
          ·rintro wz ⟨J,L,z2,M,z4,N,O,R⟩;go_simp
          simp only[dI,dJ,dK,dL];refine dZ 13 (.pointer (some ⟨z,11,none⟩)) rfl A ?_ ?_
          ·rintro wz ⟨J,L,z2,M,z4,N,O,R⟩;go_simp
          simp only[dI,dJ,dK,dL];refine dY 14 rfl (by kernel_rfl) (fun K hK=> ?_);go_simp;refine hK _ _ (fun h=>by cases h) (fe (by kernel_rfl) ?_ _);clear hK K A aM aS;go_wp2;refine⟨⟨j+1,some ⟨G,I,none⟩,ad,y::ys,fs++[y],a7,c7,by omega,by go_num,by simp,by simpa using aY,by simp;omega,a8 (by simpa using ar.out),bb,?_⟩,by simp[intOf];omega⟩;have:=aW;simpa using this
       ·have bx:((y.uid:Int) !=(m.uid:Int))=true:=(by simp;omega);have HN:=a8 (show fmG Cd.uid all (usF c ms)=none by rw[az.out,HU.out];unfold fmG;rw[aD.out];simp only;rw[OR (fun h=>aB h.1)];rfl);clear aB;go_quiet(fail);have ag:=a8 (ai.below (OI (OX E.heap.size E) nq) ai.lt);have U:=a8 (ah.below (OI (OX E.heap.size E) nq));generalize E.drewN nq=Y at ag U⊢;clear aC aR;obtain⟨q0,q1,q2⟩:=ag.c3;have CN:=a8 (kR m.uid (m.stamp:Int) m.flags Y (by omega) (by omega) (HE.out Y U.bel).tab);go_wp2_with fail;refine CN.mono ?_;rintro e w8 ⟨rfl,ao⟩;have aF:=a8 (U.below ao).bel;clear ao CN;go_wp2;go_ret;exact Or.inr ⟨HN,_,_,rfl,aF⟩
   ·have bw:(c:Int)<(m.uid:Int):=(by omega);have HF:=a8 (show fmG Cd.uid all (usF c ms)=some fs by rw[az.out,bk.out aP];simp[fmG]);clear aP;go_quiet(fail);go_wp2;go_ret;exact Or.inl ⟨fs,ca,cc,HF,rfl,aG.below (OI (OX _ _) _)⟩
  ·have bP:j=ms.length:=(by omega);subst bP;have HF:=a8 (show fmG Cd.uid all (usF c ms)=some fs by rw[az.out,PO];simp[usF,fmG]);clear aJ;go_wp2;go_ret;exact Or.inl ⟨fs,ca,cc,HF,rfl,HI⟩
end
theorem uB(g next u:Nat)(w:World)(I:w.cell? ⟨g,1,none⟩=some (.int .u32 (next:Int)))(J:∀j,w.frozen? ⟨g,j,none⟩=false)(K:u≤4294967294):Calls prog 157 #[pP g,.int .u32 (u:Int)] w fun e w'=>e= .returned (.tuple #[])∧w'=w.setCell ⟨g,1,none⟩ (.int .u32 ((max next (u+1):Nat):Int)):=by
 have G:(u:Int)≤4294967294:=(by omega);by_cases z:next≤u
 ·have A:(next:Int)≤(u:Int)+1:=(by omega);have E:max (next:Int) ((u:Int)+1)=(u:Int)+1:=(by omega);rw[show max next (u+1)=u+1 by omega];clear z;go_enter func157,ntmps157;go_wp2
  go_end0
  exact⟨rfl,rfl⟩
 ·have A:(u:Int)+1≤(next:Int):=(by omega);have E:max (next:Int) ((u:Int)+1)=(next:Int):=(by omega);rw[show max next (u+1)=next by omega];clear z;go_enter func157,ntmps157;go_wp2
  go_end0
  exact⟨rfl,rfl⟩
theorem rR(v u:Value)(w:World):(callFunc 157 #[v,u]).run prog w= .ok (.enter 157 #[v,u]) w:=by
 go_simp
structure MdR(gm bd:Nat)(w0 w:World)(val next:Nat)(u0 u1 u2:Value)(cv:Value)(ms:List Cd):Prop where
 st:Blk w gm #[.int .u32 (val:Int),.int .u32 (next:Int),u0,u1,u2,.map (some bd),cv] 204
 row:l7 w w0.heap.size cv ms
 bel:dX gm w0.heap.size w0 w
 lt:gm<w0.heap.size
theorem MdR.below{G:Nat}{next:Nat}{ms:List Cd}(h:MdR G A w0 w val next u0 u1 u2 E ms)(z:Below w.heap.size w w'):MdR G A w0 w' val next u0 u1 u2 E ms:=
 ⟨h.st.below z h.st.lt,dM.below h.row z (OV _),h.bel.trans (dX.of_below z h.bel.size),h.lt⟩
theorem MdR.app{L:Nat}{next:Nat}{A:Value}{ms:List Cd}{x:Cd}(h:MdR z L w0 W val next u0 u1 u2 E ms)(M:l7 w' w0.heap.size A (ms++[x]))(G:W.grownBy w' E.ownBlock):
  w'.cell? ⟨z,6,none⟩=some E∧w'.frozen? ⟨z,6,none⟩=false∧MdR z L w0 (w'.setCell ⟨z,6,none⟩ A) val next u0 u1 u2 A (ms++[x]):=by
 have K:∀b,b<W.heap.size→E.ownBlock≠some b→w'.heap[b]? =W.heap[b]? :=fun b O Q=>G.block b O (fun e=>Q e.symm);have N:E.ownBlock≠some z:=fun e=>(by have:=(dM.lt h.row z e).1;have:=h.lt;omega);have J:=eA h.st (K z h.st.lt N);refine⟨J.cell 6,J.fz 6,?_,dM.keep M (fun b I=>OQ w' ⟨z,6,none⟩ b A (by intro e;have e:b=z:=e;subst e;have:=(dM.lt M b I).1;have:=h.lt;omega)),?_,h.lt⟩
 ·have:=J.set 6 A;simpa using this
 ·exact dX.set ⟨G.os.trans h.bel.os,G.tape.trans h.bel.tape,G.output.trans h.bel.output,O0 h.bel.size G.size,fun b I R=>(K b (Pb I h.bel.size) (fun e=>by have:=(dM.lt h.row b e).1;omega)).trans (h.bel.block b I R)⟩ A
theorem MdR.pass{next:Nat}{ms:List Cd}(h:MdR z A w0 w val next u0 u1 u2 E ms)(n:Nat):MdR z A w0 (w.setCell ⟨z,1,none⟩ (.int .u32 (n:Int))) val n u0 u1 u2 E ms:=by
 refine⟨?_,dM.keep h.row (fun b G=>OQ w ⟨z,1,none⟩ b _ (by intro e;have e:b=z:=e;subst e;have:=(dM.lt h.row b G).1;have:=h.lt;omega)),h.bel.set _,h.lt⟩;have:=h.st.set 1 (uI n);simpa using this
def oG(g j:Nat)(c:Value)(w:World):Prop:=w.cell? ⟨g,j,none⟩=some c
def okT(c:Cd)(ms:List Cd):Prop:=c.uid≠4294967295∧ms.length≠100∧(ms.getLast?.map Cd.uid)≠some c.uid
def MN(gm bd:Nat)(w0:World)(val next:Nat)(u0 u1 u2:Value)(ms:List Cd)(c:Cd)(e:Ending)(w':World):Prop:=
 (okT c ms∧∃ca cc,e= .returned .nilIface∧MdR gm bd w0 w' val (max next (c.uid+1)) u0 u1 u2 (.slice ca (ms++[c]).length cc) (ms++[c]))∨(¬okT c ms∧∃nm t,e= .returned (gB nm t)∧dX gm w0.heap.size w0 w')
theorem pd{cs:List Cd}(h:l7 w A (sS g n cap) cs)(i:Nat)(hi:i<cs.length)(j:Nat)(z:j<7):w.cell? ⟨g,i*7+j,none⟩=(ee cs[i])[j]? :=by
 have E:((cs.map ee)[i]'(by simpa using hi)).length=7:=(by rw[Po];rfl);rw[h.cell i j (by simpa using hi) (by rw[E];exact z),OZ (by show j<7;exact z)];congr 1;simp
def TmS(gm gb:Nat)(v c0 c1 c2 c3 c4 c5 c6:Value)(w:World):Prop:=w.cell? ⟨gm,6,none⟩=some v∧w.cell? ⟨gb,0,none⟩=some c0∧w.cell? ⟨gb,1,none⟩=some c1∧w.cell? ⟨gb,2,none⟩=some c2∧w.cell? ⟨gb,3,none⟩=some c3∧w.cell? ⟨gb,4,none⟩=some c4∧w.cell? ⟨gb,5,none⟩=some c5∧w.cell? ⟨gb,6,none⟩=some c6
theorem Ev(A bd:Nat)(w0 w:World)(val next:Nat)(u0 u1 u2:Value)(Z:OA)(U:Nat)(ms:List Cd)(c:Cd)(hR:MdR A bd w0 w val next u0 u1 u2 (.slice Z ms.length U) ms)(hn:ms.length≤100)(hu:c.uid≤4294967295):
  Calls prog 122 #[pP A,.agg #[.string c.name,.slice c.ad c.dl c.dc,.int .i64 (c.dl:Int),.bool true,.int .u32 (c.uid:Int),.int .i64 (c.stamp:Int),.int .u32 (c.flags:Int)]] w (MN A bd w0 val next u0 u1 u2 ms c):=by
 have hA:=nAl w (.cells #[.string c.name,.slice c.ad c.dl c.dc,iI c.dl,.bool true,uI c.uid,iI c.stamp,uI c.flags] 217);have HX:=a8 (dQ w #[.string c.name,.slice c.ad c.dl c.dc,iI c.dl,.bool true,uI c.uid,iI c.stamp,uI c.flags] 217);have HR:=a8 (hR.below hA);have az:=a8 (show¬(Value.slice Z ms.length U).ownBlock=some w.heap.size from fun e=>by have:=(dM.lt hR.row _ e).2;omega);have aD:A<w.heap.size:=hR.st.lt;clear hA hR;go_enter func122,ntmps122;go_upto_region 1 with fail;generalize w.alloc (.cells #[.string c.name,.slice c.ad c.dl c.dc,iI c.dl,.bool true,uI c.uid,iI c.stamp,uI c.flags] 217)=X at HX HR⊢;obtain⟨-,-,-,-,-,-,g6⟩:=HR.st.c7;obtain⟨b0,-,-,-,b4⟩:=HX.c5;by_cases h1:c.uid=4294967295
 ·have aF:((c.uid:Int)==4294967295)=true:=(by simp;omega);have HN:=a8 (show¬okT c ms from fun h=>h.1 h1);clear h1;go_wp2;go_ret;exact Or.inr ⟨HN,_,_,rfl,HR.bel⟩
 have aF:((c.uid:Int)==4294967295)=false:=(by simp;omega);by_cases h2:ms.length=100
 ·have aG:((ms.length:Int)==100)=true:=(by simp;omega);have HN:=a8 (show¬okT c ms from fun h=>h.2.1 h2);clear h2 h1;go_wp2;go_ret;exact Or.inr ⟨HN,_,_,rfl,HR.bel⟩
 have aG:((ms.length:Int)==100)=false:=(by simp;omega);by_cases h3:(ms.getLast?.map Cd.uid)=some c.uid
 ·have HN:=a8 (show¬okT c ms from fun h=>h.2.2 h3);obtain⟨k,hk⟩:∃k,ms.length=k+1:=by
   cases ms with
   |nil=>cases h3
   |cons x xs=>exact⟨xs.length,rfl⟩
  obtain⟨gr,ax,_,_⟩:=HR.row.at0 (by rw[OW];omega);subst ax;have k4:X.cell? ⟨gr,k*7+4,none⟩=some (uI c.uid):=by
   have e:=pd HR.row k (by omega) 4 (by omega);rw[e];have:ms[k].uid=c.uid:=by
    rw[List.getLast?_eq_getElem?,show ms.length-1=k by omega,OZ (by omega)] at h3;simpa using h3
   simp[ee,this]
  have hp:(0:Int)<(ms.length:Int):=(by omega);have aC:0<ms.length:=(by omega);have aI:(ms.length:Int)-1=(k:Int):=(by omega);have aJ:(k:Int)<(ms.length:Int):=(by omega);have aL:IntKind.i64.wrap (k:Int)=(k:Int):=(by rw[IntKind.wrap_i64];omega);clear h1 h2 h3 hk;go_upto_region 6 with fail;go_quiet(fail);have ay:=a8 (HR.below (OI (OX X.heap.size X) nq)).bel;have aB:=a8 (HX.below (OI (OX X.heap.size X) nq) HX.lt);generalize X.drewN nq=Y at ay aB⊢;clear g6 b0 b4 k4;have b0:Y.cell? ⟨w.heap.size,0,none⟩=some (.string c.name):=aB.cell 0;go_wp2;go_ret;exact Or.inr ⟨HN,_,_,rfl,ay⟩
 ·have ar:=a8 (show okT c ms from⟨h1,h2,h3⟩);have aA:=a8 (show A<w.heap.size from aD);by_cases h0:ms.length=0
  ·have aE:ms=[]:=Pp.1 h0;have aC:¬0<ms.length:=(by omega);clear h1 h2 h3 h0 aE;go_upto_region 6 with fail;go_quiet(fail);have ao:=a8 (HR.below (OI (OX X.heap.size X) nq));have ah:=a8 (HX.below (OI (OX X.heap.size X) nq) HX.lt);generalize X.drewN nq=Y at ao ah⊢;clear g6 b0 b4;go_upto_region 8 with fail;have ai:=a8 (ao.below (OX _ _).drew);have ac:=a8 (ah.below (OX Y.heap.size Y).drew ah.lt);refine gF (by kernel_rfl) (TmS A w.heap.size (.slice Z ms.length U) (.string c.name) (.slice c.ad c.dl c.dc) (iI c.dl) (.bool true) (uI c.uid) (iI c.stamp) (uI c.flags)) 10 ?_;generalize Y.drew=V at ai ac⊢;have aj:=a8 (show∀Q,Blk Q w.heap.size #[.string c.name,.slice c.ad c.dl c.dc,iI c.dl,.bool true,uI c.uid,iI c.stamp,uI c.flags] 217→Q.cell? ⟨A,6,none⟩=some (.slice Z ms.length U)→TmS A w.heap.size (.slice Z ms.length U) (.string c.name) (.slice c.ad c.dl c.dc) (iI c.dl) (.bool true) (uI c.uid) (iI c.stamp) (uI c.flags) Q from fun Q J h=>⟨h,J.cell 0,J.cell 1,J.cell 2,J.cell 3,J.cell 4,J.cell 5,J.cell 6⟩);have z:=aj.out V ac (ai.st.cell 6);refine dZ 0 (pP A) rfl z ?_ ?_
   ·rintro wz ⟨L,M,z2,N,z4,O,I,R⟩;go_simp
   simp only[dI,dJ,dK,dL];refine dZ 1 (pP A) rfl z ?_ ?_
   ·rintro wz ⟨L,M,z2,N,z4,O,I,R⟩;go_simp
   simp only[dI,dJ,dK,dL];refine dZ 2 (pP A) rfl z ?_ ?_
   ·rintro wz ⟨L,M,z2,N,z4,O,I,R⟩;go_simp
   simp only[dI,dJ,dK,dL];refine dZ 3 (.pointer (some ⟨A,6,none⟩)) rfl z ?_ ?_
   ·rintro wz ⟨L,M,z2,N,z4,O,I,R⟩;go_simp
   simp only[dI,dJ,dK,dL];refine dZ 4 (.slice Z ms.length U) rfl z ?_ ?_
   ·rintro wz ⟨L,M,z2,N,z4,O,I,R⟩;go_simp
   simp only[dI,dJ,dK,dL];refine dZ 5 (.agg #[.string c.name,.slice c.ad c.dl c.dc,iI c.dl,.bool true,uI c.uid,iI c.stamp,uI c.flags]) rfl z ?_ ?_
   ·rintro wz ⟨L,M,z2,N,z4,O,I,R⟩;go_simp
   simp only[dI,dJ,dK,dL];refine dY 6 rfl (by kernel_rfl) (fun K E=> ?_);go_simp;have ag:=nAl V (.cells #[.string c.name,.slice c.ad c.dl c.dc,iI c.dl,.bool true,uI c.uid,iI c.stamp,uI c.flags] 217);have ap:=a8 (dQ V #[.string c.name,.slice c.ad c.dl c.dc,iI c.dl,.bool true,uI c.uid,iI c.stamp,uI c.flags] 217);have aa:=a8 (ai.below ag);have ab:=a8 (ac.below ag ac.lt);refine E _ _ (fun _=>aj.out _ ab (aa.st.cell 6)) ?_;clear E K ag z
   try simp only[dI,dJ,dK,dL]
   generalize V.alloc (.cells #[.string c.name,.slice c.ad c.dl c.dc,iI c.dl,.bool true,uI c.uid,iI c.stamp,uI c.flags] 217)=V2 at ap aa ab⊢;refine dY 7 rfl (by kernel_rfl) (fun K E=> ?_);refine jC _ (by rfl) (.tmp 60) (.tmp 62) (by rfl) w0.heap.size (.slice Z ms.length U) ms c V.heap.size 1 (by simp[go_sem]) (by simp[go_sem]) aa.row (fun j v hj=>(ap.cell j).trans (by simpa[ee] using hj)) (by omega) aa.bel.size ?_;intro v7 w7 al ak;have af:=aa.app al ak;obtain⟨a7,c7,aq⟩:=dM.slice al;rw[OW,show(ms++[c]).length=ms.length+1 by simp] at aq;subst aq;have am:=a8 (eA ab (ak.block _ ab.lt (fun e=>az.out e.symm)));have I:=af.1;have av:=af.2.1;have ae:=a8 af.2.2;have z:=aj.out w7 am I;refine E _ _ (fun _=>z) ?_;clear E K af ak al
   try simp only[dI,dJ,dK,dL]
   refine dZ 8 (pP A) rfl z ?_ ?_
   ·rintro wz ⟨L,M,z2,N,z4,O,I,R⟩;go_simp
   simp only[dI,dJ,dK,dL];refine dZ 9 (.pointer (some ⟨A,6,none⟩)) rfl z ?_ ?_
   ·rintro wz ⟨L,M,z2,N,z4,O,I,R⟩;go_simp
   simp only[dI,dJ,dK,dL];refine dY 10 rfl (by kernel_rfl) (fun K E=> ?_);go_simp;refine E _ _ (fun h=>by cases h) (fe (by kernel_rfl) ?_ _);clear E K z I av;have an:=a8 (am.other (show w.heap.size≠A by have:=aA.out;omega) (.slice a7 (ms.length+1) c7) (j:=6));go_upto_region 9 with fail;generalize aw:w7.setCell ⟨A,6,none⟩ (.slice a7 (ms.length+1) c7)=W8 at ae an⊢;clear aw;have CP:=a8 (fun(Y:World) (hY:Below W8.heap.size W8 Y)=>uB A next c.uid Y ((ae.below hY).st.cell 1) (fun j=>(ae.below hY).st.fz j) (by have:=ar.1;omega));have z:oG w.heap.size 4 (uI c.uid) W8.drew:=an.cell 4;refine gF (by kernel_rfl) (oG w.heap.size 4 (uI c.uid)) 6 ?_;refine dZ 0 (pP A) rfl z ?_ ?_
   ·intro wz G;unfold oG at G;go_simp
   simp only[dI,dJ,dK,dL];refine dZ 1 (pP A) rfl z ?_ ?_
   ·intro wz G;unfold oG at G;go_simp
   simp only[dI,dJ,dK,dL];refine dZ 2 (pP A) rfl z ?_ ?_
   ·intro wz G;unfold oG at G;go_simp
   simp only[dI,dJ,dK,dL];refine dZ 3 (.pointer (some ⟨w.heap.size,3,none⟩)) rfl z ?_ ?_
   ·intro wz G;unfold oG at G;go_simp
   simp only[dI,dJ,dK,dL];refine dZ 4 (.pointer (some ⟨w.heap.size,4,none⟩)) rfl z ?_ ?_
   ·intro wz G;unfold oG at G;go_simp
   simp only[dI,dJ,dK,dL];refine dZ 5 (uI c.uid) rfl z ?_ ?_
   ·intro wz G;unfold oG at G;go_simp
   simp only[dI,dJ,dK,dL];refine dY 6 rfl (by kernel_rfl) (fun K E=> ?_);refine gV 157 rR (.tmp 68) (.tmp 71) #[200,44] (by rfl) (by rfl) (pP A) (uI c.uid) (by simp[go_sem]) (by simp[go_sem]) ?_;refine(CP.out _ (OX _ _).drew).mono ?_;rintro e w9 ⟨rfl,rfl⟩;refine⟨_,rfl,E _ _ (fun h=>by cases h) (fe (by kernel_rfl) ?_ _)⟩;have au:=a8 ((ae.below (OX _ _).drew).pass (max next (c.uid+1)));clear E K z CP;go_wp2;go_ret;exact Or.inl ⟨ar,a7,c7,rfl,by rw[show(ms++[c]).length=ms.length+1 by simp];exact au.out⟩
  ·obtain⟨k,hk⟩:∃k,ms.length=k+1:=⟨ms.length-1,by omega⟩
   obtain⟨gr,ax,_,_⟩:=HR.row.at0 (by rw[OW];omega);subst ax;have k4:X.cell? ⟨gr,k*7+4,none⟩=some (.int .u32 ((ms[k]'(by omega)).uid:Int)):=by
    rw[pd HR.row k (by omega) 4 (by omega)];simp[ee]
   have aK:(((ms[k]'(by omega)).uid:Int)==(c.uid:Int))=false:=by
    have:(ms[k]'(by omega)).uid≠c.uid:=fun e=>h3 (by
     rw[List.getLast?_eq_getElem?,show ms.length-1=k by omega,OZ (by omega)];simp[e])
    simp;omega
   generalize (ms[k]'(by omega)).uid=lu at k4 aK;have aC:0<ms.length:=(by omega);have aI:(ms.length:Int)-1=(k:Int):=(by omega);have aJ:(k:Int)<(ms.length:Int):=(by omega);have aL:IntKind.i64.wrap (k:Int)=(k:Int):=(by rw[IntKind.wrap_i64];omega);obtain⟨Z,aH⟩:∃Z,Z=some (⟨gr,0,none⟩:Addr):=⟨_,rfl⟩
   clear h1 h2 h3 h0 hk;go_upto_region 6 with fail;go_quiet(fail);have ao:=a8 (HR.below (OI (OX X.heap.size X) nq));have ah:=a8 (HX.below (OI (OX X.heap.size X) nq) HX.lt);generalize X.drewN nq=Y at ao ah⊢;clear g6 b0 b4 k4 aH Z;go_upto_region 8 with fail;have ai:=a8 (ao.below (OX _ _).drew);have ac:=a8 (ah.below (OX Y.heap.size Y).drew ah.lt);refine gF (by kernel_rfl) (TmS A w.heap.size (sS gr ms.length U) (.string c.name) (.slice c.ad c.dl c.dc) (iI c.dl) (.bool true) (uI c.uid) (iI c.stamp) (uI c.flags)) 10 ?_;generalize Y.drew=V at ai ac⊢;have aj:=a8 (show∀Q,Blk Q w.heap.size #[.string c.name,.slice c.ad c.dl c.dc,iI c.dl,.bool true,uI c.uid,iI c.stamp,uI c.flags] 217→Q.cell? ⟨A,6,none⟩=some (sS gr ms.length U)→TmS A w.heap.size (sS gr ms.length U) (.string c.name) (.slice c.ad c.dl c.dc) (iI c.dl) (.bool true) (uI c.uid) (iI c.stamp) (uI c.flags) Q from fun Q J h=>⟨h,J.cell 0,J.cell 1,J.cell 2,J.cell 3,J.cell 4,J.cell 5,J.cell 6⟩);have z:=aj.out V ac (ai.st.cell 6);refine dZ 0 (pP A) rfl z ?_ ?_
   ·rintro wz ⟨L,M,z2,N,z4,O,I,R⟩;go_simp
   simp only[dI,dJ,dK,dL];refine dZ 1 (pP A) rfl z ?_ ?_
   ·rintro wz ⟨L,M,z2,N,z4,O,I,R⟩;go_simp
   simp only[dI,dJ,dK,dL];refine dZ 2 (pP A) rfl z ?_ ?_
   ·rintro wz ⟨L,M,z2,N,z4,O,I,R⟩;go_simp
   simp only[dI,dJ,dK,dL];refine dZ 3 (.pointer (some ⟨A,6,none⟩)) rfl z ?_ ?_
   ·rintro wz ⟨L,M,z2,N,z4,O,I,R⟩;go_simp
   simp only[dI,dJ,dK,dL];refine dZ 4 (sS gr ms.length U) rfl z ?_ ?_
   ·rintro wz ⟨L,M,z2,N,z4,O,I,R⟩;go_simp
   simp only[dI,dJ,dK,dL];refine dZ 5 (.agg #[.string c.name,.slice c.ad c.dl c.dc,iI c.dl,.bool true,uI c.uid,iI c.stamp,uI c.flags]) rfl z ?_ ?_
   ·rintro wz ⟨L,M,z2,N,z4,O,I,R⟩;go_simp
   simp only[dI,dJ,dK,dL];refine dY 6 rfl (by kernel_rfl) (fun K E=> ?_);go_simp;have ag:=nAl V (.cells #[.string c.name,.slice c.ad c.dl c.dc,iI c.dl,.bool true,uI c.uid,iI c.stamp,uI c.flags] 217);have ap:=a8 (dQ V #[.string c.name,.slice c.ad c.dl c.dc,iI c.dl,.bool true,uI c.uid,iI c.stamp,uI c.flags] 217);have aa:=a8 (ai.below ag);have ab:=a8 (ac.below ag ac.lt);refine E _ _ (fun _=>aj.out _ ab (aa.st.cell 6)) ?_;clear E K ag z
   try simp only[dI,dJ,dK,dL]
   generalize V.alloc (.cells #[.string c.name,.slice c.ad c.dl c.dc,iI c.dl,.bool true,uI c.uid,iI c.stamp,uI c.flags] 217)=V2 at ap aa ab⊢;refine dY 7 rfl (by kernel_rfl) (fun K E=> ?_);refine jC _ (by rfl) (.tmp 60) (.tmp 62) (by rfl) w0.heap.size (sS gr ms.length U) ms c V.heap.size 1 (by simp[go_sem]) (by simp[go_sem]) aa.row (fun j v hj=>(ap.cell j).trans (by simpa[ee] using hj)) (by omega) aa.bel.size ?_;intro v7 w7 al ak;have af:=aa.app al ak;obtain⟨a7,c7,aq⟩:=dM.slice al;rw[OW,show(ms++[c]).length=ms.length+1 by simp] at aq;subst aq;have am:=a8 (eA ab (ak.block _ ab.lt (fun e=>az.out e.symm)));have I:=af.1;have av:=af.2.1;have ae:=a8 af.2.2;have z:=aj.out w7 am I;refine E _ _ (fun _=>z) ?_;clear E K af ak al
   try simp only[dI,dJ,dK,dL]
   refine dZ 8 (pP A) rfl z ?_ ?_
   ·rintro wz ⟨L,M,z2,N,z4,O,I,R⟩;go_simp
   simp only[dI,dJ,dK,dL];refine dZ 9 (.pointer (some ⟨A,6,none⟩)) rfl z ?_ ?_
   ·rintro wz ⟨L,M,z2,N,z4,O,I,R⟩;go_simp
   simp only[dI,dJ,dK,dL];refine dY 10 rfl (by kernel_rfl) (fun K E=> ?_);go_simp;refine E _ _ (fun h=>by cases h) (fe (by kernel_rfl) ?_ _);clear E K z I av;have an:=a8 (am.other (show w.heap.size≠A by have:=aA.out;omega) (.slice a7 (ms.length+1) c7) (j:=6));go_upto_region 9 with fail;generalize aw:w7.setCell ⟨A,6,none⟩ (.slice a7 (ms.length+1) c7)=W8 at ae an⊢;clear aw;have CP:=a8 (fun(Y:World) (hY:Below W8.heap.size W8 Y)=>uB A next c.uid Y ((ae.below hY).st.cell 1) (fun j=>(ae.below hY).st.fz j) (by have:=ar.1;omega));have z:oG w.heap.size 4 (uI c.uid) W8.drew:=an.cell 4;refine gF (by kernel_rfl) (oG w.heap.size 4 (uI c.uid)) 6 ?_;refine dZ 0 (pP A) rfl z ?_ ?_
   ·intro wz G;unfold oG at G;go_simp
   simp only[dI,dJ,dK,dL];refine dZ 1 (pP A) rfl z ?_ ?_
   ·intro wz G;unfold oG at G;go_simp
   simp only[dI,dJ,dK,dL];refine dZ 2 (pP A) rfl z ?_ ?_
   ·intro wz G;unfold oG at G;go_simp
   simp only[dI,dJ,dK,dL];refine dZ 3 (.pointer (some ⟨w.heap.size,3,none⟩)) rfl z ?_ ?_
   ·intro wz G;unfold oG at G;go_simp
   simp only[dI,dJ,dK,dL];refine dZ 4 (.pointer (some ⟨w.heap.size,4,none⟩)) rfl z ?_ ?_
   ·intro wz G;unfold oG at G;go_simp
   simp only[dI,dJ,dK,dL];refine dZ 5 (uI c.uid) rfl z ?_ ?_
   ·intro wz G;unfold oG at G;go_simp
   simp only[dI,dJ,dK,dL];refine dY 6 rfl (by kernel_rfl) (fun K E=> ?_);refine gV 157 rR (.tmp 68) (.tmp 71) #[200,44] (by rfl) (by rfl) (pP A) (uI c.uid) (by simp[go_sem]) (by simp[go_sem]) ?_;refine(CP.out _ (OX _ _).drew).mono ?_;rintro e w9 ⟨rfl,rfl⟩;refine⟨_,rfl,E _ _ (fun h=>by cases h) (fe (by kernel_rfl) ?_ _)⟩;have au:=a8 ((ae.below (OX _ _).drew).pass (max next (c.uid+1)));clear E K z CP;go_wp2;go_ret;exact Or.inl ⟨ar,a7,c7,rfl,by rw[show(ms++[c]).length=ms.length+1 by simp];exact au.out⟩
section
open Go.Sort Go.Lib
noncomputable def lmC(D:dO)(c:Cd):LM:=⟨c.uid,c.stamp,c.flags,(b9 D c.name).2⟩
theorem Fs{w0:World}{D:dO}{all:List Cd}(h:jw w0 D (D.names.map (·.1)) all)(u:Nat):(all.filter (fun c=>c.uid==u)).map (·.name)=jJ D u:=by
 have A:(all.filter (fun c=>c.uid==u)).map cdK=(all.map cdK).filter (fun x=>x.2.1==u):=by
  rw[List.filter_map];rfl
 rw[h.1] at A;have G:(all.filter (fun c=>c.uid==u)).map (·.name)=((all.filter (fun c=>c.uid==u)).map cdK).map (·.1):=by
  rw[PP];rfl
 rw[G,A];unfold jJ;generalize D.names.map (·.1)=ns
 induction ns with
 |nil=>rfl
 |cons nm ns ih=>
  rw[List.filterMap_cons,List.filter_cons];cases hc:eR nm.data.toList with
  |none=>
   have z:lx nm=none:=(by unfold lx;rw[hc];rfl);rw[z];simpa using ih
  |some k=>
   have z:lx nm=some (nm,k):=(by unfold lx;rw[hc];rfl);rw[z];simp only[List.filter_cons];by_cases E:k.1=u
   ·simpa[E] using ih
   ·simpa[E] using ih
theorem uq{D:dO}{c:Nat}:∀{r:List XM},(∀m∈r,c<m.uid)→gT D c r=some r
 |[],_=>rfl
 |m::r,h=>by
  unfold gT mA;rw[OS (h m (by simp)),uq (fun x z=>h x (O8 _ z))]
theorem Bd{w0:World}{D:dO}{c:Nat}{all:List Cd}(J:jw w0 D (D.names.map (·.1)) all):∀{ms:List IM} {r:List XM},r.map (·.uid)=ms.map (·.uid)→(ms.map (·.uid)).Pairwise (·<·)→
  (pX Cd.uid all (usF c ms)=none→gT D c r=none)∧(∀fs,pX Cd.uid all (usF c ms)=some fs→(∀x∈fs,x∈all)∧fs.length≤r.length∧∃G,gT D c r=some G∧G.map lmX=fs.map (lmC D)++(r.drop fs.length).map lmX∧((∀m∈r,m.moved=false)→(G.filter (·.moved)).map (·.card)=fs.map Cd.name))
 |[],[],_,_=>⟨(fun h=>by cases h),fun fs h=>by
  have:fs=[]:=(by simp only[usF,PD,List.takeWhile_nil,pX,OY] at h;exact h.symm);subst this;exact⟨(fun x V=>by cases V),OV _,[],rfl,rfl,fun _=>rfl⟩⟩
 |[],_::_,h,_=>by cases h
 |_::_,[],h,_=>by cases h
 |m::ms,x::r,h,hp=>by
  simp only[Pe,List.cons.injEq] at h;rw[Pe,List.pairwise_cons] at hp;by_cases O:m.uid≤c
  ·have e:usF c (m::ms)=m.uid::usF c ms:=by
    unfold usF;rw[Pe,List.takeWhile_cons,OS (ON O)]
   rw[e];have Q:=Bd (c:=c) J (ms:=ms) (r:=r) h.2 hp.2;have E:=Fs J m.uid;have I:¬c<x.uid:=(by rw[h.1];omega);unfold pX;cases hf:all.filter (fun c=>c.uid==m.uid) with
   |nil=>
    rw[hf] at E;refine⟨fun _=> ?_,fun fs h=>by cases h⟩;unfold gT mA;rw[OR I,h.1,←E];rfl
   |cons d q=>
    have K:d∈all∧d.uid=m.uid:=by
     have:d∈all.filter (fun c=>c.uid==m.uid):=(by rw[hf];simp);rw[List.mem_filter] at this;exact⟨this.1,by simpa using this.2⟩
    cases q with
    |cons d2 q=>
     rw[hf] at E;refine⟨fun _=> ?_,fun fs h=>by cases h⟩;unfold gT mA;rw[OR I,h.1,←E];rfl
    |nil=>
     rw[hf] at E;simp only;have U:=(J.2 d K.1).card;have M:mA D c x=some {x with stamp:=d.stamp,flags:=d.flags,body:=(b9 D d.name).2,moved:=true,card:=d.name}:=by
      unfold mA;rw[OR I,h.1,←E];simp only[Pe,PD,U]
     refine⟨fun N=> ?_,fun fs A=> ?_⟩
     ·cases ho:pX Cd.uid all (usF c ms) with
      |some q=>rw[ho] at N;cases N
      |none=>
       unfold gT;rw[M,Q.1 ho]
     ·cases ho:pX Cd.uid all (usF c ms) with
      |none=>rw[ho] at A;cases A
      |some q=>
       rw[ho] at A;simp only[Option.map_some,OY] at A;subst A;obtain⟨Y,Z,G,i3,i4,i5⟩:=Q.2 q ho;refine⟨fun y z=> ?_,by simpa using Z,_::G,by unfold gT;rw[M,i3],?_,fun L=> ?_⟩
       ·rcases Pd.1 z with rfl|z
        ·exact K.1
        ·exact Y y z
       ·simp only[Pe,Pf,List.drop_succ_cons,List.cons_append,List.cons.injEq];refine⟨?_,i4⟩;unfold lmX lmC;simp only;rw[h.1,K.2]
       ·rw[List.filter_cons_of_pos (by rfl),Pe,Pe,i5 (fun y z=>L y (O8 _ z))]
  ·have e:usF c (m::ms)=[]:=by
    unfold usF;rw[Pe,List.takeWhile_cons,OR (by simpa using O)]
   rw[e];refine⟨(fun h=>by cases h),fun fs A=> ?_⟩;simp only[pX,OY] at A;subst A;refine⟨(fun y z=>by cases z),O4 _,x::r,uq (fun y z=> ?_),by simp,fun L=>by rw[List.filter_eq_nil_iff.2 (fun y z=>by rw[L y z];simp)];rfl⟩;rcases Pd.1 z with rfl|z
   ·rw[h.1];omega
   ·have R:y.uid∈ms.map (·.uid):=(by rw[←h.2];exact List.mem_map_of_mem z);have:=hp.1 _ R;omega
theorem KA{c:Nat}{ms:List IM}(h:(ms.map (·.uid)).Pairwise (·<·)):(usF c ms).Pairwise (·<·):=h.sublist (List.takeWhile_sublist _)
theorem Ks{ms:List IM}{f:Bool×LN}{r:List XM}(h:fd ms f=some r):r.map lmX=List.zipWith (fun m x=>⟨m.uid,m.stamp,m.flags,x.body⟩) ms r∧r.map (·.uid)=ms.map (·.uid):=by
 unfold fd at h;by_cases z:f.1=true∧dH ms≤f.2.length
 ·rw[OS z] at h;cases h2:iK (f.2.take (dH ms)) with
  |none=>rw[h2] at h;cases h
  |some xs=>
   rw[h2] at h;simp only at h;generalize f.2=text at h;clear z h2
   induction ms generalizing xs r with
   |nil=>
    cases xs with
    |nil=>simp only[ke,OY] at h;subst h;exact⟨rfl,rfl⟩
    |cons x xs=>cases h
   |cons m ms ih=>
    cases xs with
    |nil=>cases h
    |cons x xs=>
     unfold ke at h;cases hb:eY m x with
     |none=>rw[hb] at h;cases h
     |some b=>
      rw[hb] at h;cases he:ke text ms xs with
      |none=>rw[he] at h;cases h
      |some q=>
       rw[he] at h;simp only[OY] at h;subst h;obtain⟨A,E⟩:=ih xs he;exact⟨by simp only[Pe,List.zipWith_cons_cons,A];rfl,by simp only[Pe,E];rfl⟩
 ·rw[OR z] at h;cases h
end
section
open Go.Sort Go.Lib
theorem In(a b c:Value)(w:World):(callFunc 116 #[a,b,c]).run prog w= .ok (.enter 116 #[a,b,c]) w:=by
 go_simp
def H8(gm:Nat)(p:Value)(wb w:World)(hE:oH wb)(hb:Below wb.heap.size wb w)(hlo:wb.heap.size≤gm)(hst:Blk w gm (mvI p 0) 206):xU Nat 116 gm (·=gm) eW (fun _ _=>True) w 0 (fun X c=>Blk X gm (mvI p c) 206) (fun X=>∃c,Blk X gm (mvI p c) 206) where
 Inv:=fun B w0 wr c=>gm<B∧B≤wr.heap.size∧dX gm B w0 wr∧Blk wr gm (mvI p c) 206
 enter:=In
 start:=fun w0 h=>⟨Pb hst.lt h.size,OV _,dX.refl _ _ _,hst.below h hst.lt⟩
 ok0:=trivial
 okS:=fun _ _ _=>trivial
 low:=fun k hk=>by rw[hk];exact hst.lt
 env:=fun w' h=>(hE.below (jH h hb hlo hb.size)).env
 below:=fun{B w0 wr wr' s} h hb'=>⟨h.1,O0 h.2.1 hb'.size,h.2.2.1.trans (dX.of_below hb' h.2.1),h.2.2.2.below hb' h.2.2.2.lt⟩
 frame:=fun h=>im.ofX h.2.2.1
 sz:=fun h=>h.2.1
 badI:=fun{B w0 wr s} h=>⟨s,h.2.2.2⟩
 badS:=fun{X g j} u h hg=>by
  obtain⟨c,h4⟩:=h;exact⟨c,h4.other (by have:=hst.lt;omega) u⟩
 fin:=fun{B w0 wr X s} h hb' hB ho=>eA h.2.2.2 (ho.block gm h.2.2.2.lt (.inl hst.lt))
 call:=fun k B gw w0 wr c ws h hok htw hgw hws _ _ hE'=>by
  refine(uJ gm gw B k w0 wr p c ws ⟨h.2.2.2,htw,h.2.2.1,h.2.1,h.1,hgw⟩ (fun w' hx=>hE' w' (im.ofX hx)) hws).mono (fun e w' hr=> ?_);rcases hr with⟨c',r,rfl,hR,ho⟩|⟨hf,ho,hx⟩
  ·exact Or.inl ⟨c',r,rfl,⟨h.1,hR.sz,hR.fr,hR.st⟩,hR.tw,ho⟩
  ·exact Or.inr ⟨hf,ho,im.ofX hx.1,hx.2⟩
theorem MbS.below{w0 w X:World}{E:Nat}{s:IX}{D:dO}{I J K:Value}{r:List XM}{L:OA}{M:Nat}{z:OA}{A:Nat}{bvs:List Value}(h:MbS w0 w E s D I J K r L M z A bvs)(G:Below w.heap.size w X):MbS w0 X E s D I J K r L M z A bvs:=
 ⟨h.mb.below G,h.tx,h.len,h.rl,fun k N O=>(h.bod k N O).below G (OV _),h.apart⟩
noncomputable def nS(D:dO)(idx cur:LN):Option (IX×Nat×List XM):=match kT D idx with
 |none=>none
 |some (s,r)=>match f5 (dP cur).1 with
  |none=>none
  |some c=>(gT D c r).map fun r'=>(s,c,r')
structure MvS(w0 w:World)(gm go:Nat)(D:dO)(s:IX)(r:List XM)(i0 i1 i2 l0 l1 l2:Value)(c:Nat)(fs:List Cd)(ca:OA)(cc:Nat)(ta:OA)(tc:Nat)(am:OA)(cm:Nat)(bvs:List Value):Prop where
 mb:MbS w0 w go s D i0 i1 i2 r ta tc am cm bvs
 st:Blk w gm (mvF (pP go) l0 l1 l2 c (.slice ca fs.length cc)) 206
 row:l7 w w0.heap.size (.slice ca fs.length cc) fs
 ok:∀x∈fs,Fj w0 D x
 lo:w0.heap.size≤gm
def MG(D:dO)(ia:OA)(ic:Nat)(idx:LN)(la:OA)(lc:Nat)(cur:LN)(w:World)(e:Ending)(w':World):Prop:=
 (∃w0 gm go s r c r' fs ca cc ta tc am cm bvs,nS D idx cur=some (s,c,r')∧kT D idx=some (s,r)∧(r'.map lmX=fs.map (lmC D)++(r.drop fs.length).map lmX∧((∀m∈r,m.moved=false)→(r'.filter (·.moved)).map (·.card)=fs.map Cd.name))∧fs.length≤r.length∧l5 s∧e= .returned (.tuple #[pP gm,.nilIface])∧MvS w0 w' gm go D s r (.string ixN) (.slice ia idx.length ic) (.int .i64 ((dP idx).2:Int)) (.string fh) (.slice la cur.length lc) (.int .i64 ((dP cur).2:Int)) c fs ca cc ta tc am cm bvs∧Below w.heap.size w w0)∨
 (nS D idx cur=none∧∃nm t,e= .returned (.tuple #[.pointer none,gB nm t])∧Below w.heap.size w w')
theorem xw{D:dO}(z:eM D):D.names.length≤300:=(fX z.2.2.2.2.1).2.2.1
theorem my{D:dO}{z:LN}{s:IX}{r:List XM}(h:kT D z=some (s,r)):r.map lmX=List.zipWith (fun m x=>⟨m.uid,m.stamp,m.flags,x.body⟩) s.mails r∧r.map (·.uid)=s.mails.map (·.uid):=by
 unfold kT at h;cases h1:nN (dP z).1 with
 |none=>rw[h1] at h;cases h
 |some s1=>
  rw[h1] at h;simp only at h;cases h2:fd s1.mails (b9 D (ej s1.gen)) with
  |none=>rw[h2] at h;cases h
  |some r1=>
   rw[h2] at h;simp only[Option.map_some,OY,Prod.mk.injEq] at h;obtain⟨rfl,rfl⟩:=h;exact Ks h2
theorem uL(v:Value)(D:dO)(ia:OA)(ic:Nat)(M:LN)(J:OA)(K:Nat)(A:LN)(w:World)(hv:eM D)(hd:kJ w v D)(hi:fV w ia ic M)(hl:fV w J K A)(hE:oH w):
  Calls prog 88 #[v,.slice ia M.length ic,.slice J A.length K] w (MG D ia ic M J K A w):=by
 have aS:∀(fn:Fn) (first cap:Array Value) (w:World),(Instr.makeFunc fn first cap).run prog w= .ok (.func fn first cap) w:=fun _ _ _ _=>rfl;have HD:=a8 hd;obtain⟨a1,c1,a2,c2,a3,c3,a4,c4,aR,r1,r2,r3,r4⟩:=hd;subst aR;have Q:=nAl w (.cells (dkA a1 c1 a2 c2 a3 c3 a4 c4 D) 34);have O:=a8 (dQ w (dkA a1 c1 a2 c2 a3 c3 a4 c4 D) 34);have HV:=a8 hv;have R:=a8 Q;have ax:=a8 (HD.below Q);have ai:=a8 (hE.below Q);have ay:=a8 (hl.below Q);have CM:=a8 (qc _ D ia ic M _ hv (HD.below Q) (hi.below Q) (hE.below Q));clear r1 r2 r3 r4 hv hE Q hi hl HD;go_enter func88,ntmps88;go_upto_region 1 with fail;generalize w.alloc (.cells (dkA a1 c1 a2 c2 a3 c3 a4 c4 D) 34)=L at R O ax ai ay CM⊢;obtain⟨d0,d1,d2,d3,d4⟩:=O.c5;go_wp2_with fail;refine CM.mono ?_;clear d0 d1 d2 d3 d4;rintro e z (⟨s,r,go,ta,tc,am,cm,bvs,ag,rfl,hS,aG⟩|⟨ag,nm,t,rfl,aC⟩)
 ·have ad:=a8 ag;have Y:=a8 hS;have V:=a8 aG;have au:=nAl z (.cells #[pP go,.string ⟨#[]⟩,sN,.int .i64 0,.int .u32 0,.int .u32 0,.int .u32 0,.string ⟨#[]⟩,sN,.int .i64 0,.map none,sN] 206);have HG:=a8 (show Blk (z.alloc (.cells #[pP go,.string ⟨#[]⟩,sN,.int .i64 0,.int .u32 0,.int .u32 0,.int .u32 0,.string ⟨#[]⟩,sN,.int .i64 0,.map none,sN] 206)) z.heap.size (mvI (pP go) 0) 206 from dQ z _ _);have ao:=a8 (hS.mb.bel.trans (au.mono hS.mb.bel.size));have ab:=a8 au;clear ag hS aG au CM;go_upto_region 5 with fail;generalize z.alloc (.cells #[pP go,.string ⟨#[]⟩,sN,.int .i64 0,.int .u32 0,.int .u32 0,.int .u32 0,.string ⟨#[]⟩,sN,.int .i64 0,.map none,sN] 206)=w3 at HG ao ab⊢;have ak:=a8 (show L.heap.size≤z.heap.size from Y.mb.bel.size);have CL:=a8 (nV (H8 z.heap.size (pP go) L w3 ai ao ak HG) fh J K A (ay.below ao));go_wp2_with fail;refine CL.mono ?_;rintro e N (⟨c,I,rfl,E,_,af⟩|⟨I,t,rfl,af,c9,E⟩)
  ·have aw:=a8 (show f5 (dP A).1=some c by rw[←JA];exact I);have ah:=a8 (jH af ab (OV _) ab.size);obtain⟨-,n1,n2,n3⟩:=E.c4;have fz:=fun j=>E.fz j;have aj:=a8 (show Blk (((N.setCell ⟨z.heap.size,1,none⟩ (.string fh)).setCell ⟨z.heap.size,2,none⟩ (.slice J A.length K)).setCell ⟨z.heap.size,3,none⟩ (.int .i64 ((dP A).2:Int))) z.heap.size (mvF (pP go) (.string fh) (.slice J A.length K) (.int .i64 ((dP A).2:Int)) c (sN)) 206 from((E.set 1 (.string fh)).set 2 (.slice J A.length K)).set 3 (.int .i64 ((dP A).2:Int)));have an:=a8 (show Below z.heap.size z (((N.setCell ⟨z.heap.size,1,none⟩ (.string fh)).setCell ⟨z.heap.size,2,none⟩ (.slice J A.length K)).setCell ⟨z.heap.size,3,none⟩ (.int .i64 ((dP A).2:Int))) from((ah.setCell (p:=⟨z.heap.size,1,none⟩) (OV _) _).setCell (p:=⟨z.heap.size,2,none⟩) (OV _) _).setCell (p:=⟨z.heap.size,3,none⟩) (OV _) _);clear I E af CL HG ah;go_upto_region 6 with fail;generalize (((N.setCell ⟨z.heap.size,1,none⟩ (.string fh)).setCell ⟨z.heap.size,2,none⟩ (.slice J A.length K)).setCell ⟨z.heap.size,3,none⟩ (.int .i64 ((dP A).2:Int)))=U at aj an⊢;clear n1 n2 n3 fz;have ar:=a8 (Y.below an);have ae:=a8 (O.below ar.mb.bel O.lt);have CC:=a8 (rz _ D L U HV ax ar.mb.bel ai);obtain⟨d0,d1,d2,d3,d4⟩:=ae.c5;go_wp2_with fail;refine CC.mono ?_;rintro e w6 ⟨aa,ac,cs,all,rfl,aF,aH,aE,aD,al⟩;clear d0 d1 d2 d3 d4 CC;have G:=a8 (ar.below al);have aK:=a8 (aj.below al aj.lt);have aA:=a8 aF;have aB:=a8 aH;have aM:=a8 aE;have aq:=a8 aD;have av:=bTr an al;have aJ:=a8 (show z.heap.size<U.heap.size from aj.lt);have aL:=a8 (show go<z.heap.size from Y.mb.st.lt);have aO:=a8 (show cs.length≤300 from by
    have h1:=aB.length_eq;have h2:=OL List.length aq.1;rw[OW] at h2;have h3:((D.names.map (·.1)).filterMap lx).length≤(D.names.map (·.1)).length:=List.length_filterMap_le _ _;rw[OW] at h3;have h4:=xw HV.out;omega)
   have CF:=a8 (vA z.heap.size go L.heap.size w6 (.string fh) (.slice J A.length K) (.int .i64 ((dP A).2:Int)) c s.mails bvs am cm (.slice aa cs.length ac) cs aK (by have:=aL.out;omega) (G.mb.st.cell 9) G.mb.row G.len (fun b hb=>by
    obtain⟨k,hk,rfl⟩:=Pr hb;obtain⟨a,cp,e⟩:=(G.bod k hk (by rw[G.rl,←G.len];exact hk)).slice;exact⟨_,_,_,e⟩) (Hp aA (fun g hg=>by have:=(dM.lt aA g hg).1;have:=aJ.out;omega)) V.len aO (fun w' Z=>ai.below (gX G.mb.bel Z ak G.mb.bel.size)) (fun m hm=>⟨(V.uid m hm).2,V.flags m hm⟩))
   rw[Ly Cd.uid aB.out aM.out (KA V.rise)] at CF;have aQ:=a8 (my ad);have az:=a8 (Bd (c:=c) aq aQ.2 V.rise);clear aF aH aE aD al;go_wp2_with fail;refine CF.mono ?_;rintro e w7 (⟨fs,ca,cc,I,rfl,hI⟩|⟨I,nm,t,rfl,Z⟩)
   ·obtain⟨h1,h2,r',h3,h4⟩:=az.2 fs I;have HP:=a8 (show nS D M A=some (s,c,r') by unfold nS;rw[ad.out];simp only;rw[aw.out];simp only;rw[h3];rfl);have HQ:=a8 h4;have aP:=a8 h2;have aI:=a8 (gX av hI.bel (OV _) av.size);have aN:=a8 (show MvS L w7 z.heap.size go D s r (.string ixN) (.slice ia M.length ic) (.int .i64 ((dP M).2:Int)) (.string fh) (.slice J A.length K) (.int .i64 ((dP A).2:Int)) c fs ca cc ta tc am cm bvs from⟨Y.below aI,hI.st,hI.row.mono G.mb.bel.size,fun x Z=>aq.2 x (h1 x Z),ak⟩);clear I hI h1 h2 h3 h4 CF;go_wp2;go_ret2;exact Or.inl ⟨L,_,go,s,r,c,r',fs,ca,cc,ta,tc,am,cm,bvs,HP,ad,HQ,aP,V,rfl,aN,R⟩
   ·have HN:=a8 (show nS D M A=none by unfold nS;rw[ad.out];simp only;rw[aw.out];simp only;rw[az.1 I];rfl);have ap:=a8 (R.trans ((gX G.mb.bel Z ak G.mb.bel.size).mono R.size));clear I Z CF;unfold gB;go_wp2;go_ret2;exact Or.inr ⟨HN,_,_,rfl,ap⟩
  ·have HN:=a8 (show nS D M A=none by unfold nS;rw[ad.out];simp only;rw[←JA,I]);have ah:=a8 (jH af ab (OV _) ab.size);obtain⟨-,n1,n2,n3⟩:=E.c4;have fz:=fun j=>E.fz j;have ap:=a8 (R.trans ((Y.mb.bel.trans ((((ah.setCell (p:=⟨z.heap.size,1,none⟩) (OV _) (.string ⟨#[]⟩)).setCell (p:=⟨z.heap.size,2,none⟩) (OV _) (sN)).setCell (p:=⟨z.heap.size,3,none⟩) (OV _) (.int .i64 0)).mono Y.mb.bel.size)).mono R.size));clear I E af CL;unfold gB;go_wp2;go_ret2;exact Or.inr ⟨HN,_,_,rfl,ap⟩
 ·have HN:=a8 (show nS D M A=none by unfold nS;rw[ag]);have HB:=bTr R aC;clear ag aC CM;unfold gB;go_wp2;go_ret2;exact Or.inr ⟨HN,_,_,rfl,HB⟩
end
theorem vX(P:Program)(w:World)(J sT ty A:TypeId)(k n g E M:Nat)(a:Addr)(G Q:Nat)(z:Array Value)(t:TypeId)(cs:List Value)
  (Z:P.underlying J=some (.slice A)) (L:(P.info? A).map (·.size)=some k) (R:Nat.min G E=n)
  (V:w.heap[g]? =some (.cells z t (0,0))) (Y:cs.length=n*k)
  (O:∀j v,cs[j]? =some v→w.cell? (a.add j)=some v) (N:cs.length≤z.size) (U:∀v∈cs,v.oneCell'=true):
  (Builtin.copy_ #[J,sT] ty #[sS g E M,.slice (some a) G Q]).run P w=
   .ok (goInt n) (w.setRow g (cs++z.toList.drop cs.length).toArray):=by
 have K:=run_loadCells_list (P:=P) w a cs O;have I:=run_storeCells_at P g 0 t cs 0 z w V (by simpa using N) U;simp only[Ps,List.take_zero,PC] at I;cases hq:P.info? A with
 |none=>simp[hq] at L
 |some i=>
  have hi:i.size=k:=(by simpa[hq] using L);rw[Y] at K;simp[Builtin.copy_,run_underlying Z,Builtin.lenOf,Builtin.firstCells,sizeOf,typeInfo,hq,hi,R,K,I]
theorem uO(P:Program)(w:World)(G O Q z:TypeId)(k:Nat)(d a:OA)(A I E J:Nat)(N:P.underlying G=some (.slice z))(M:(P.info? z).map (·.size)=some k)(L:Nat.min E A=0):
  (Builtin.copy_ #[G,O] Q #[.slice d A I,.slice a E J]).run P w= .ok (goInt 0) w:=by
 cases hq:P.info? z with
 |none=>simp[hq] at M
 |some i=>
  have K:∀(x:Addr),(loadCells x 0).run P w= .ok #[] w:=fun x=>(by simpa using run_loadCells_list (P:=P) w x [] (by simp));cases d<;>cases a<;>simp[Builtin.copy_,run_underlying N,Builtin.lenOf,Builtin.firstCells,sizeOf,typeInfo,hq,L,storeCells,K]
theorem Fi:(prog.info? 118).map (·.size)=some 4:=by kernel_rfl
theorem zt{ad:Array Oper}{a:Act}{K:Act→World→Prop}{E:Prop}(ai:o.guard=none)(d s:Operand)
  (ho:o.op= .call {callee:= .builtin .copy,args:= #[d,s],argTypes:= #[113,113]})
  (B B2:Nat) (M sa:OA) (A R:Nat) (ys z:List VM) (hd:a.eval d= .slice M ys.length A) (Y:a.eval s= .slice sa z.length R) (O:oN w B (.slice M ys.length A) ys) (hh:oN w B2 (.slice sa z.length R) z) (ab:z.length≤ys.length)
  (h:∀w',oN w' B (.slice M ys.length A) (z++ys.drop z.length)→(∀b,(Value.slice M ys.length A).ownBlock≠some b→w'.heap[b]? =w.heap[b]?)→w'.heap.size=w.heap.size→w'.os=w.os→w'.tape=w.tape→w'.output=w.output→K (a.put o.dst (goInt z.length)) w'):
  if Region.wanted o (yielded ad a.tmps)=true then Oper.wp prog o a w K Q else E:=by
 have hw:Region.wanted o (yielded ad a.tmps)=true:=(by simp[Region.wanted,ai]);rw[OS hw];have af:Nat.min z.length ys.length=z.length:=Nat.min_eq_left ab;by_cases h0:z.length=0
 ·obtain rfl:z=[]:=PF h0;have N:=uO prog w 113 113 o.type 118 4 M sa ys.length A 0 R underlying113 Fi (by simp);unfold Oper.wp;simp only[PM] at Y;simp[execOp,ho,resolve,invoke,builtin,hd,Y,N,Result.andThen];exact h w (by simpa using O) (fun _ _=>rfl) rfl rfl rfl rfl
 ·obtain⟨g,rfl,_,_⟩:=O.at0 (by rw[OW];omega);obtain⟨g2,rfl,_,_⟩:=hh.at0 (by rw[OW];omega);rcases O.2.2 with⟨I,_⟩|⟨g',aj,J,I,ah,aa,e1,e2,e3,e4⟩
  ·cases I
  ·simp only[O3,OY,PG,and_true] at I;obtain⟨rfl,_,rfl⟩:=I;rw[OW] at e1 e4;have L:((z.map vmC).flatten).length=z.length*4:=(by rw[iO (k:=4) hh.1,OW]);have ak:((ys.map vmC).flatten).length=ys.length*4:=(by rw[iO (k:=4) O.1,OW]);have ae:((z.map vmC).flatten).length≤J.size:=(by rw[L,e3];omega);have N:=vX prog w 113 113 o.type 118 4 z.length g ys.length A ⟨g2,0,none⟩ z.length R J 118 (z.map vmC).flatten underlying113 Fi af aa L (fun j v hj=>OD hh.2 (g:=g2) rfl j v hj) ae (fun v I=>by
    obtain⟨x,G,ac⟩:=List.mem_flatten.1 I;obtain⟨m,_,rfl⟩:=Pg.1 G;simp only[vmC,Pd,Pw,or_false] at ac;rcases ac with rfl|rfl|rfl|rfl<;>rfl)
   obtain⟨Z,V⟩:∃Z,Z=((z.map vmC).flatten++J.toList.drop ((z.map vmC).flatten).length).toArray:=⟨_,rfl⟩
   rw[←V] at N;unfold Oper.wp;simp[execOp,ho,resolve,invoke,builtin,hd,Y,N,Result.andThen];have U:(z++ys.drop z.length).length=ys.length:=(by simp;omega);refine h _ ⟨?_,?_,?_⟩ (fun b hb=>setRow_other w g b _ (fun e=>hb (by rw[e];rfl))) (by simp[World.setRow]) rfl rfl rfl
   ·intro x G;obtain⟨m,_,rfl⟩:=Pg.1 G;rfl
   ·rw[iO (k:=4) (fun x G=>by obtain⟨m,_,rfl⟩:=Pg.1 G;rfl)]
   ·refine .inr ⟨g,A,Z,?_,ah,setRow_heap w g J _ 118 _ aa,?_,e2,?_,?_⟩
    ·rw[OW,U]
    ·rw[OW,U];exact e1
    ·have ag:J.toList.length=A*4:=(by rw[Array.length_toList];exact e3);rw[V,List.size_toArray,O1,O9,L,ag];omega
    ·rw[OW,U,O7,PQ];rw[V,List.toList_toArray,List.take_append,L,Pc (by rw[L];omega)];congr 1;have e5:((ys.drop z.length).map vmC).flatten=((ys.map vmC).flatten).drop (z.length*4):=by
      have e6:(ys.map vmC).flatten=((ys.take z.length).map vmC).flatten++((ys.drop z.length).map vmC).flatten:=by
       rw[←PQ,←O7,Pz]
      rw[e6];have e7:(((ys.take z.length).map vmC).flatten).length=z.length*4:=by
       rw[iO (k:=4) (fun x G=>by obtain⟨m,_,rfl⟩:=Pg.1 G;rfl),OW,Pa,Nat.min_eq_left ab]
      rw[←e7,List.drop_left]
     rw[e5,←e4,List.drop_take]
theorem BL(v:Value)(w:World):(callFunc 271 #[v]).run prog w= .ok (.enter 271 #[v]) w:=by
 go_simp
def xM(g j:Nat)(c:Value)(w:World):Prop:=w.cell? ⟨g,j,none⟩=some c
theorem MvS.below{J:Nat}{D:dO}{s:IX}{r:List XM}{Q:Value}{fs:List Cd}{E:OA}{G:Nat}{R:OA}{U:Nat}{A:OA}{I:Nat}(h:MvS w0 w J go D s r K L M N O Q c fs E G R U A I bvs)(z:Below w.heap.size w X):MvS w0 X J go D s r K L M N O Q c fs E G R U A I bvs:=
 ⟨h.mb.below z,h.st.below z h.st.lt,dM.below h.row z (OV _),h.ok,h.lo⟩
def Cp(L:Nat)(h:VH)(ls:List LM)(w:World)(e:Ending)(w':World):Prop:=∃ys:List VM,xR L h ys w e w'∧ys.map VM.x=ls∧mK (ys.map VM.v)
theorem uQ(a b c d e v:Value)(w:World):(Instr.field 115 (.agg #[a,b,c,d,e,v]) 5).run prog w= .ok v w:=by kernel_rfl
theorem IQ{K:Nat}{D:dO}{s:IX}{r:List XM}{i0 i1 i2 l0 l1 l2:Value}{fs:List Cd}{L:OA}{M:Nat}{ta:OA}{tc:Nat}{R:OA}{U:Nat}(h:MvS w0 X K go D s r i0 i1 i2 l0 l1 l2 c fs L M ta tc R U bvs)(hv:eM D)(hn:fs.length≤1048576)(E:Below X.heap.size X Y):
  Calls prog 271 #[.pointer (some ⟨K,5,none⟩)] Y fun e w'=>∃G I z,e= .returned (.agg #[.int .i64 0,.int .i64 3,.int .u32 0,.int .u32 0,.int .u32 0,.slice G z.length I])∧oN w' X.heap.size (.slice G z.length I) z∧(∀m∈z,dR w' X.heap.size m.v m.x.body)∧Below X.heap.size X w'∧z.map VM.x=fs.map (lmC D)∧mK (z.map VM.v):=by
 have A:=h.below E;refine(uo K 5 w0.heap.size w0 Y (fun x=>(b9 D x.name).2) 0 0 L M fs A.mb.mb.bel (A.st.cell 5) (A.st.cell 6) (A.st.cell 11) A.row (fun x J=>⟨(h.ok x J).tx,(h.ok x J).dl,by have:=gU hv x.name;omega⟩) hn).mono (fun e w' hp=> ?_);obtain⟨z,⟨G,I,V,ho,Q,O⟩,J,N⟩:=hp;exact⟨G,I,z,V,ho.mono E.size,fun m Z=>(Q m Z).mono E.size,E.trans (O.mono E.size),J,N⟩
theorem ut{O:Nat}{D:dO}{s:IX}{r:List XM}{i0 i1 i2 l0 l1 l2:Value}{fs:List Cd}{ca:OA}{cc:Nat}{ta:OA}{tc:Nat}{am:OA}{cm:Nat}(h:MvS w0 w O go D s r i0 i1 i2 l0 l1 l2 c fs ca cc ta tc am cm bvs)(an:l5 s)(hv:eM D)(aL:fs.length≤r.length)(aP:r.map lmX=List.zipWith (fun m x=>⟨m.uid,m.stamp,m.flags,x.body⟩) s.mails r):
  Calls prog 267 #[pP O] w (Cp w0.heap.size ⟨2,s.val,s.next,c⟩ (fs.map (lmC D)++(r.map lmX).drop fs.length) w):=by
 obtain⟨ys,ao,ap,aq,aS⟩:=Jo (w0:=w0) h.mb.len h.mb.rl h.mb.bod;have aT:∀k (Q:k<ys.length) (h2:k<s.mails.length),ys[k].x.uid=s.mails[k].uid∧ys[k].x.stamp=s.mails[k].stamp∧ys[k].x.flags=s.mails[k].flags:=fun k Q h2=>by
  have e:(ys.map VM.x)[k]? =(List.zipWith (fun m x=>(⟨m.uid,m.stamp,m.flags,x.body⟩:LM)) s.mails r)[k]? :=(by rw[aq]);have h3:k<r.length:=(by rw[h.mb.rl];exact h2);rw[PE,OZ Q,List.getElem?_zipWith,OZ h2,OZ h3] at e;simp only[Option.map_some,OY] at e;rw[e];exact⟨rfl,rfl,rfl⟩
 have hA:=nAl w (.cells #[.int .i64 0,.int .i64 0,.int .u32 0,.int .u32 0,.int .u32 0,sN] 115);have HR:=a8 (dQ w #[.int .i64 0,.int .i64 0,.int .u32 0,.int .u32 0,.int .u32 0,sN] 115);have HA:=a8 hA;have HS:=a8 (h.below hA);have CM:=a8 (pU go w0.heap.size w0.heap.size _ s i0 i1 i2 (.string (ej s.gen)) (.slice ta (b9 D (ej s.gen)).2.length tc) (.int .i64 (dH s.mails:Int)) am cm bvs ys (h.below hA).mb.mb.st (h.below hA).mb.mb.row h.mb.len ao ap aT (fun m I=>(aS m I).below hA (OV _)) an.len);have be:=a8 (aq.trans aP.symm);have bd:=a8 ap;have al:=a8 (show ys.length=r.length by rw[ao,h.mb.rl]);have HN:=a8 an.len;have ag:=a8 aL;have HV:=a8 hv;clear h an hv aL aP ao ap aq aS aT hA;go_enter func267,ntmps267;go_upto_region 1 with fail;generalize w.alloc (.cells #[.int .i64 0,.int .i64 0,.int .u32 0,.int .u32 0,.int .u32 0,sN] 115)=w1 at HR HA HS CM⊢;have m0:w1.cell? ⟨O,0,none⟩=some (pP go):=HS.st.cell 0;go_wp2_with fail;refine CM.mono ?_;rintro e z ⟨E,G,rfl,aB,az,af⟩;have aK:=nAl z (.cells (vhA ⟨1,s.val,s.next,0⟩ (.slice E ys.length G)) 115);have U:=a8 (dQ z (vhA ⟨1,s.val,s.next,0⟩ (.slice E ys.length G)) 115);have ai:=a8 (HS.below af);have aX:=a8 aB;have aV:=a8 az;have aD:=a8 af;have ac:=a8 aK;have aF:=a8 (HR.below af HR.lt);clear aB az af aK CM m0;go_upto_region 2 with fail;generalize z.alloc (.cells (vhA ⟨1,s.val,s.next,0⟩ (.slice E ys.length G)) 115)=W at U ac⊢;obtain⟨-,v1,-,-,v4⟩:=U.c5;have fv:=fun j=>U.fz j;have c4:W.cell? ⟨O,4,none⟩=some (uI c):=(ai.below ac).st.cell 4;have bg:¬O=z.heap.size:=(by have:=ai.st.lt;omega);have ae:=a8 (show Blk ((W.setCell ⟨z.heap.size,1,none⟩ (.int .i64 2)).setCell ⟨z.heap.size,4,none⟩ (uI c)) z.heap.size (vhA ⟨2,s.val,s.next,c⟩ (.slice E ys.length G)) 115 from(U.set 1 (.int .i64 2)).set 4 (uI c));have R:=a8 (show Below z.heap.size z ((W.setCell ⟨z.heap.size,1,none⟩ (.int .i64 2)).setCell ⟨z.heap.size,4,none⟩ (uI c)) from(ac.setCell (p:=⟨z.heap.size,1,none⟩) (OV _) _).setCell (p:=⟨z.heap.size,4,none⟩) (OV _) _);go_upto_region 4 with fail;generalize ((W.setCell ⟨z.heap.size,1,none⟩ (.int .i64 2)).setCell ⟨z.heap.size,4,none⟩ (uI c))=X at ae R⊢;clear v1 v4 fv c4 bg U ac;have ad:=a8 (ai.below R);have bb:=a8 (dM.below aX R (OV _));have au:=a8 (fun m I=>(aV.out m I).below R (OV _));have aH:=a8 (aF.below R aF.lt);have CH:=a8 (fun(Y:World) (hY:Below X.heap.size X Y)=>IQ ad HV (by have:=ag.out;have:=al.out;have:=HN.out;have:=ad.mb.rl;omega) hY);have N:xM z.heap.size 5 (.slice E ys.length G) X.drew:=ae.cell 5;have bf:=uQ;refine gF (by kernel_rfl) (xM z.heap.size 5 (.slice E ys.length G)) 7 ?_;refine dZ 0 (.pointer (some ⟨z.heap.size,5,none⟩)) rfl N ?_ ?_
 ·intro wz L;unfold xM at L;go_simp
 simp only[dI,dJ,dK,dL];refine dZ 1 (.slice E ys.length G) rfl N ?_ ?_
 ·intro wz L;unfold xM at L;go_simp
 simp only[dI,dJ,dK,dL];refine dZ 2 (pP O) rfl N ?_ ?_
 ·intro wz L;unfold xM at L;go_simp
 simp only[dI,dJ,dK,dL];refine dZ 3 (pP O) rfl N ?_ ?_
 ·intro wz L;unfold xM at L;go_simp
 simp only[dI,dJ,dK,dL];refine dZ 4 (.pointer (some ⟨O,5,none⟩)) rfl N ?_ ?_
 ·intro wz L;unfold xM at L;go_simp
 simp only[dI,dJ,dK,dL];refine dY 5 rfl (by kernel_rfl) (fun K hK=> ?_);refine fZ 271 BL (.tmp 19) #[204] (by rfl) (by rfl) (.pointer (some ⟨O,5,none⟩)) (by simp[go_sem]) ?_;refine(CH.out _ (OX _ _).drew).mono ?_;rintro e w9 ⟨ha,hc,J,rfl,aN,ay,Z,aR,ax⟩;have ak:=a8 (ae.below Z ae.lt);have aa:=a8 (dM.below bb Z (OV _));have aW:=a8 (fun m I=>(au.out m I).below Z (OV _));have aw:=a8 (aH.below Z aH.lt);have aZ:=a8 aN;have av:=a8 ay;have aI:=a8 aR;have aU:=a8 ax;have aY:=a8 Z;have aj:xM z.heap.size 5 (.slice E ys.length G) w9:=ak.cell 5;refine⟨_,rfl,hK _ _ (fun _=>aj) ?_⟩;clear hK K N CH aN ay Z aR ax;have N:=aj
 try simp only[dI,dJ,dK,dL]
 refine dZ 6 (.slice ha J.length hc) rfl N ?_ ?_
 ·intro wz L;unfold xM at L;go_simp
 simp only[dI,dJ,dK,dL];have ah:=a8 (show J.length=fs.length by have h:=OL List.length aI.out;simpa using h);refine dY 7 rfl (by kernel_rfl) (fun K hK=> ?_);refine zt (by rfl) (.tmp 16) (.tmp 21) (by rfl) w1.heap.size X.heap.size E ha G hc ys J (by simp[go_sem]) (by simp[go_sem]) aa.out aZ.out (by have:=ah.out;have:=ag.out;have:=al.out;omega) ?_;intro A aO ab aQ aA aC ar;have aJ:=a8 (show(J++ys.drop J.length).length=ys.length by rw[O1,O9];have:=ah.out;have:=ag.out;have:=al.out;omega);have V:=a8 (eA ak (ab _ (eV aa ak (by decide))));have M:=a8 (eA aw (ab _ (eV aa aw (by decide))));have ba:=a8 aO;have aE:=a8 (show∀m∈J++ys.drop J.length,dR A w0.heap.size m.v m.x.body from fun m I=>by
  have aM:dR w9 w0.heap.size m.v m.x.body:=by
   rcases Pj.1 I with h|h
   ·exact(av.out m h).mono ad.mb.mb.bel.size
   ·exact aW.out m (Pk h)
  exact jU aM (fun g hg _=>ab g (fun e=>qa aa aM (by decide) g e hg)))
 have bc:=a8 (show Below w.heap.size w A from by
  have Q:Below w.heap.size w w9:=HA.trans ((aD.trans ((R.trans (aY.mono R.size)).mono aD.size)).mono HA.size);exact⟨aA.trans Q.os,aC.trans Q.tape,ar.trans Q.output,by rw[aQ];exact Q.size,fun k hk=>(ab k (fun e=>by have:=(dM.lt aa k e).1;have:=HA.size;omega)).trans (Q.block k hk)⟩)
 clear aO ab aQ aA aC ar;refine hK _ _ (fun h=>by cases h) (fe (by kernel_rfl) ?_ _);clear hK K N aj;obtain⟨r0,r1,r2,r3,r4,r5⟩:=M.c6;have fr:=fun j=>M.fz j;obtain⟨y0,y1,y2,y3,y4,y5⟩:=V.c6;have aG:=a8 (show oN A w.heap.size (.slice E ys.length G) (J++ys.drop J.length) from ba.mono HA.size);clear bf;go_wp2;refine OJ (qe w.heap.size _ (.int .i64 0) (.int .i64 2) (uI s.val) (uI s.next) (uI c) (.slice E ys.length G) rfl rfl (E4 M)) rfl ?_;have hk:=fun b (hb:b≠w.heap.size)=>rS A w.heap.size (.int .i64 0) (.int .i64 2) (uI s.val) (uI s.next) (uI c) (.slice E ys.length G) b hb;have bi:(Value.slice E ys.length G).ownBlock≠some w.heap.size:=eV aG M (by decide);refine⟨J++ys.drop J.length,⟨E,G,by rw[aJ.out],?_,fun m I=>jU (aE.out m I) (fun g hg _=>hk g (fun e=>lT (aE.out m I) M.out (by decide) (by rw[←e];exact hg))),?_⟩,?_,?_⟩
 ·rw[aJ.out];exact dM.keep aG (fun g hg=>hk g (fun e=>bi (by rw[←e];exact hg)))
 ·exact(((((bc.setCell (p:=⟨w.heap.size,0,none⟩) (OV _) _).setCell (p:=⟨w.heap.size,1,none⟩) (OV _) _).setCell (p:=⟨w.heap.size,2,none⟩) (OV _) _).setCell (p:=⟨w.heap.size,3,none⟩) (OV _) _).setCell (p:=⟨w.heap.size,4,none⟩) (OV _) _).setCell (p:=⟨w.heap.size,5,none⟩) (OV _) _
 ·rw[O7,aI.out,List.map_drop,be.out,ah.out]
 ·unfold mK;rw[O7,PS];refine⟨aU,?_,fun x hx y hy=> ?_⟩
  ·rw[List.map_drop,bd.out];exact ad.mb.apart.sublist (List.drop_sublist _ _)
  ·obtain⟨m,I,rfl⟩:=Pg.1 hx;obtain⟨m2,bh,rfl⟩:=Pg.1 hy;cases he:m.v.ownBlock with
   |none=>exact .inl rfl
   |some g=>
    refine .inr (fun e=> ?_);have Q:=(OF (av.out m I) g he).1;have h2:=(OF (au.out m2 (Pk bh)) g e.symm).2;omega
section
open Go.Maps
theorem Ip(a b c:Value)(w:World):(callFunc 121 #[a,b,c]).run prog w= .ok (.enter 121 #[a,b,c]) w:=by
 go_simp
theorem rC{n:Nat}:∀{l:List (List UInt8)} {last:Nat} {ds ds':LN},fG n l last ds=some ds'→ds'.length=ds.length+l.length∧(0<l.length→1≤n)
 |[],last,ds,ds',h=>by
  simp only[fG,OY] at h;subst h;exact⟨rfl,fun h=>by cases h⟩
 |x::xs,last,ds,ds',h=>by
  unfold fG at h;cases hx:dT x (last+1) (n-1) with
  |none=>rw[hx] at h;cases h
  |some u=>
   rw[hx] at h;have A:=ey hx;have z:=(rC h).1;rw[O1] at z;simp only[Pf,PM] at z⊢;exact⟨by omega,fun _=>by omega⟩
theorem Hg{k:Nat}{first:Bool}{ws:List (List UInt8)}{s s':UX}(h:d9 first ws s=some s')(G:ws.length≤40001)(I:(0<k→1≤s.next)∧s.dead.length≤k*40001):(0<k+1→1≤s'.next)∧s'.dead.length≤(k+1)*40001:=by
 unfold d9 at h;cases first with
 |true=>
  rw[OS rfl] at h;unfold kD at h;split at h
  ·next a b c=>
   by_cases z:a=[86]
   ·rw[OS z] at h;cases h1:dT b 1 gH with
    |none=>rw[h1] at h;cases h
    |some v=>
     cases h2:dT c 1 gH with
     |none=>rw[h1,h2] at h;cases h
     |some n=>
      rw[h1,h2] at h;simp only[OY] at h;subst h;have:=ey h2;exact⟨fun _=>this.1,by simp only;omega⟩
   ·rw[OR z] at h;cases h
  ·cases h
 |false=>
  rw[OR (by simp)] at h;unfold oZ at h;split at h
  ·next a b x xs=>
   by_cases z:a=[88]
   ·rw[OS z] at h;cases h1:dT b s.next gH with
    |none=>rw[h1] at h;cases h
    |some n=>
     rw[h1] at h;simp only at h;cases h2:fG n (x::xs) 0 s.dead with
     |none=>rw[h2] at h;cases h
     |some ds=>
      rw[h2] at h;simp only[OY] at h;subst h;obtain⟨E,A⟩:=rC h2;simp only[Pf] at E A G;exact⟨fun _=>A (by omega),by simp only;omega⟩
   ·rw[OR z] at h;cases h
  ·cases h
theorem nG{z w w':World}{S:Nat→Prop}{B:Nat}(h:im S B w w')(A:Below z.heap.size z w)(E:∀k,S k→z.heap.size≤k)(J:z.heap.size≤B):Below z.heap.size z w':=
 ⟨h.os.trans A.os,h.tape.trans A.tape,h.output.trans A.output,O0 A.size h.size,fun k G=>(h.block k (by omega) (fun I=>by have:=E k I;omega)).trans (A.block k G)⟩
def Kx(gm bd:Nat)(wb w:World)(hE:oH wb)(hb:Below wb.heap.size wb w)(hlo:wb.heap.size≤gm)(hlo2:wb.heap.size≤bd)(hne:gm≠bd)(hst:Blk w gm (mdI ⟨0,0,[]⟩ bd) 204)(hdd:iH w bd []):xU UX 121 gm (fun k=>k=gm∨k=bd) d9 (fun k s=>(0<k→1≤s.next)∧s.dead.length≤k*40001) w ⟨0,0,[]⟩ (fun X s=>Blk X gm (mdI s bd) 204∧iH X bd s.dead) (fun X=>∃s,Blk X gm (mdI s bd) 204) where
 Inv:=fun B w0 wr s=>gm<B∧bd<B∧B≤wr.heap.size∧im (fun k=>k=gm∨k=bd) B w0 wr∧Blk wr gm (mdI s bd) 204∧iH wr bd s.dead
 enter:=Ip
 start:=fun w0 h=>⟨Pb hst.lt h.size,Pb hdd.lt h.size,OV _,⟨rfl,rfl,rfl,OV _,fun _ _ _=>rfl⟩,hst.below h hst.lt,hdd.keep (h.block bd hdd.lt)⟩
 ok0:=⟨fun h=>by omega,by simp⟩
 okS:=fun h1 h2 h3=>Hg h1 h2 h3
 low:=fun k hk=>hk.elim (fun e=>by rw[e];exact hst.lt) (fun e=>by rw[e];exact hdd.lt)
 env:=fun w' h=>(hE.below (nG h hb (fun k hk=>hk.elim (fun e=>by rw[e];exact hlo) (fun e=>by rw[e];exact hlo2)) hb.size)).env
 below:=fun{B w0 wr wr' s} h hb'=>⟨h.1,h.2.1,O0 h.2.2.1 hb'.size,⟨hb'.os.trans h.2.2.2.1.os,hb'.tape.trans h.2.2.2.1.tape,hb'.output.trans h.2.2.2.1.output,O0 h.2.2.2.1.size hb'.size,fun k hk hn=>(hb'.block k (by have:=h.2.2.1;omega)).trans (h.2.2.2.1.block k hk hn)⟩,h.2.2.2.2.1.below hb' h.2.2.2.2.1.lt,h.2.2.2.2.2.keep (hb'.block bd h.2.2.2.2.2.lt)⟩
 frame:=fun h=>h.2.2.2.1
 sz:=fun h=>h.2.2.1
 badI:=fun{B w0 wr s} h=>⟨s,h.2.2.2.2.1⟩
 badS:=fun{X g j} u h hg=>by
  obtain⟨s,h4⟩:=h;exact⟨s,h4.other (by have:=hst.lt;omega) u⟩
 fin:=fun{B w0 wr X s} h hb' hB ho=>⟨eA h.2.2.2.2.1 (ho.block gm h.2.2.2.2.1.lt (.inl hst.lt)),h.2.2.2.2.2.keep (ho.block bd h.2.2.2.2.2.lt (.inl hdd.lt))⟩
 call:=fun k B gw w0 wr s ws h hok htw hgw hws hwl hk hE'=>by
  refine(zC gm bd gw B k w0 wr s ws ⟨h.2.2.2.2.1,h.2.2.2.2.2,htw,h.2.2.2.1,h.2.2.1,h.1,h.2.1,hne,hgw⟩ hE' hws hok.1 (by
   have h1:=hok.2;have h2:k*40001≤40000*40001:=PN _ hk;omega)).mono (fun e w' hr=> ?_)
  rcases hr with⟨s',r,rfl,hR,ho⟩|⟨hf,ho,hx⟩
  ·exact Or.inl ⟨s',r,rfl,⟨h.1,h.2.1,hR.sz,hR.fr,hR.st,hR.dd⟩,hR.tw,ho⟩
  ·exact Or.inr ⟨hf,ho,hx.1,hx.2⟩
end
end Go.Proofs.YtkkdfgnnlpohlaaGreatDoor
