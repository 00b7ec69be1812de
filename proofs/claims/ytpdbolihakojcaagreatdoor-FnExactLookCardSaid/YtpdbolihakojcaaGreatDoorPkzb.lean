import Derived.Test.YtpdbolihakojcaaGreatDoorPkz
namespace Go.Proofs.YtpdbolihakojcaaGreatDoor
set_option maxRecDepth 20000
set_option linter.unusedVariables false
set_option linter.unusedSimpArgs false
set_option maxHeartbeats 4000000
open Go.RowKit
variable {W Y w w' w0 wr : World} {b : List UInt8} {A B at_ base' c cap e f g gs i j k lo m n u z : Nat} {R d is l : List Nat} {E G I J K L M N O v0 v1 v2 v3 v4 v5 v6 x y : Value} {o : Oper} {Q : Exit → Act → World → Prop} {bvs xs : List Value} {t : TypeId} {cs tmps : Array Value} {p : Addr} {a : Option Addr} {first ok : Bool} {s : ByteArray} {rs : List (List Nat)}
section
open Go.Sort Go.Lib
def mvF(p l0 l1 l2:Value)(c:Nat)(cv:Value):Array Value:= #[p,l0,l1,l2,.int .u32 (c:Int),.int .u32 0,.int .u32 0,.string ⟨#[]⟩,.slice none 0 0,.int .i64 0,.map none,cv]
def kl(w:World)(gm:Nat)(v:Value)(ys:List Cd):Prop:=(v= .slice none 0 0∧ys=[])∨∃ga off cap,v= .slice (some ⟨ga,off,none⟩) ys.length cap∧ys.length≤cap∧cap≤9223372036854775807∧ga<w.heap.size∧ga≠gm∧∀i (h:i<ys.length) j,j<7→w.cell? ⟨ga,off+i*7+j,none⟩=(d6 ys[i])[j]?
theorem kl.slice{w:World}{z:Nat}{v:Value}{ys:List Cd}(h:kl w z v ys):∃a cap,v= .slice a ys.length cap:=by
 rcases h with⟨rfl,rfl⟩|⟨E,A,cap,rfl,_⟩
 ·exact⟨_,_,rfl⟩
 ·exact⟨_,_,rfl⟩
theorem FI{w:World}{E lo:Nat}{a:Option Addr}{cap:Nat}{ys:List Cd}(h:lm w lo (.slice a ys.length cap) ys)(M:∀g,(Value.slice a ys.length cap).ownBlock=some g→g≠E):kl w E (.slice a ys.length cap) ys:=by
 rcases h.2.2 with⟨z,A⟩|⟨g,N,O,z,Q,K,G,L,_⟩
 ·exact .inl ⟨z,by simpa using A⟩
 ·simp only[MR] at z;obtain⟨rfl,_,rfl⟩:=z;rw[MI] at G;refine .inr ⟨g,0,cap,rfl,G,L,lt_of_block K,M g rfl,fun i I j J=> ?_⟩;have A:((ys.map d6)[i]'(by simpa using I)).length=7:=(by rw[MY];rfl);rw[Ng,h.cell i j (by simpa using I) (by rw[A];exact J),MM (by show j<7;exact J)];congr 1;simp
theorem kl.tail{w:World}{G:Nat}{E z cap:Nat}{y:Cd}{ys:List Cd}(h:kl w G (.slice (some ⟨E,z,none⟩) (ys.length+1) cap) (y::ys))(V:cap≠1):kl w G (.slice (some ⟨E,z+7,none⟩) ys.length (cap-1)) ys:=by
 rcases h with⟨A,_⟩|⟨R,Q,O,A,I,U,J,K,L⟩
 ·cases A
 ·simp only[MR,MK,Np,and_true] at A;obtain⟨⟨rfl,rfl⟩,_,rfl⟩:=A;simp only[M2] at I;refine .inr ⟨E,z+7,cap-1,rfl,by omega,by omega,J,K,fun i M j N=> ?_⟩;have:=L (i+1) (by simpa using M) j N;rw[show z+7+i*7+j=z+(i+1)*7+j by omega,this];simp
theorem kl.tail1{w:World}{G:Nat}{E A:Nat}{y:Cd}{ys:List Cd}(h:kl w G (.slice (some ⟨E,A,none⟩) (ys.length+1) 1) (y::ys)):kl w G (.slice (some ⟨E,A,none⟩) ys.length 0) ys:=by
 rcases h with⟨z,_⟩|⟨O,N,M,z,I,Q,J,K,R⟩
 ·cases z
 ·simp only[MR,MK,Np,and_true] at z;obtain⟨⟨rfl,rfl⟩,_,rfl⟩:=z;simp only[M2] at I;have:ys=[]:=Nc.1 (by omega);subst this;exact .inr ⟨E,A,0,rfl,MH _,by omega,J,K,fun i L=>by cases L⟩
def usF(c:Nat)(ms:List IM):List Nat:=(ms.map (·.uid)).takeWhile (fun u=>decide (u≤c))
theorem Kp{c:Nat}{ms:List IM}{i:Nat}(h:i<ms.length)(z:ms[i].uid≤c):usF c (ms.drop i)=ms[i].uid::usF c (ms.drop (i+1)):=by
 unfold usF;rw[fw ms i h,M0,List.takeWhile_cons,if_pos (decide_eq_true z)]
theorem Ly{c:Nat}{ms:List IM}{i:Nat}(h:i<ms.length)(z:¬ms[i].uid≤c):usF c (ms.drop i)=[]:=by
 unfold usF;rw[fw ms i h,M0,List.takeWhile_cons,if_neg (by simpa using z)]
def lenOf:Value→Nat
 | .slice _ n _=>n
 |_=>0
def FmS(gm ga off:Nat)(v c0 c1 c2 c3 c4 c5 c6:Value)(w:World):Prop:=w.cell? ⟨gm,11,none⟩=some v∧w.cell? ⟨ga,off,none⟩=some c0∧w.cell? ⟨ga,off+1,none⟩=some c1∧w.cell? ⟨ga,off+2,none⟩=some c2∧w.cell? ⟨ga,off+3,none⟩=some c3∧w.cell? ⟨ga,off+4,none⟩=some c4∧w.cell? ⟨ga,off+5,none⟩=some c5∧w.cell? ⟨ga,off+6,none⟩=some c6
structure FmI(gm:Nat)(w wr:World)(p l0 l1 l2:Value)(c:Nat)(cv:Value)(fs:List Cd):Prop where
 st:Blk wr gm (mvF p l0 l1 l2 c cv) 208
 row:lm wr w.heap.size cv fs
 bel:dV gm w.heap.size w wr
 lt:gm<w.heap.size
theorem FmI.below{E:Nat}{w wr wr':World}{p G I J:Value}{c:Nat}{A:Value}{fs:List Cd}(h:FmI E w wr p G I J c A fs)(z:Below wr.heap.size wr wr'):FmI E w wr' p G I J c A fs:=
 ⟨h.st.below z h.st.lt,b9.below h.row z (MH _),h.bel.trans (dV.of_below z h.bel.size),h.lt⟩
theorem FmI.app{z:Nat}{w W w':World}{p K L M:Value}{c:Nat}{E A:Value}{fs:List Cd}{x:Cd}(h:FmI z w W p K L M c E fs)(O:lm w' w.heap.size A (fs++[x]))(G:W.grownBy w' E.ownBlock):
  w'.cell? ⟨z,11,none⟩=some E∧w'.frozen? ⟨z,11,none⟩=false∧FmI z w (w'.setCell ⟨z,11,none⟩ A) p K L M c A (fs++[x]):=by
 have N:∀b,b<W.heap.size→E.ownBlock≠some b→w'.heap[b]? =W.heap[b]? :=fun b R U=>G.block b R (fun e=>U e.symm);have Q:E.ownBlock≠some z:=fun e=>(by have:=(b9.lt h.row z e).1;have:=h.lt;omega);have J:Blk w' z (mvF p K L M c E) 208:=ey h.st (N z h.st.lt Q);refine⟨J.cell 11,J.fz 11,J.set 11 A,b9.keep O (fun b I=>heap_setCell_other w' ⟨z,11,none⟩ b A (by intro e;have e:b=z:=e;subst e;have:=(b9.lt O b I).1;have:=h.lt;omega)),?_,h.lt⟩;exact dV.set ⟨G.os.trans h.bel.os,G.tape.trans h.bel.tape,G.output.trans h.bel.output,MN h.bel.size G.size,fun b I V=>(N b (MW I h.bel.size) (fun e=>by have:=(b9.lt h.row b e).1;omega)).trans (h.bel.block b I V)⟩ A
theorem FmI.grew{E:Nat}{w W w':World}{p J K L:Value}{c:Nat}{A:Value}{fs:List Cd}(h:FmI E w W p J K L c A fs)(z:W.grownBy w' A.ownBlock):dV E w.heap.size w w':=
 ⟨z.os.trans h.bel.os,z.tape.trans h.bel.tape,z.output.trans h.bel.output,MN h.bel.size z.size,fun b G I=>(z.block b (MW G h.bel.size) (fun e=>by have:=(b9.lt h.row b e.symm).1;omega)).trans (h.bel.block b G I)⟩
theorem jc{M:Array Oper}{o:Oper}{A:Act}{K:Act→World→Prop}{Q:Exit→Act→World→Prop}{E:Prop}(w:World)(V:o.guard=none)(s x:Operand)
  (ho:o.op= .call {callee:= .builtin .append,args:= #[s,x],argTypes:= #[204,204]})
  (G:Nat) (v:Value) (cs:List Cd) (c:Cd) (J N:Nat) (hs:A.eval s=v) (hx:A.eval x= .slice (some ⟨J,0,none⟩) 1 N) (L:lm w G v cs)
  (hc:∀j u,(d6 c)[j]? =some u→w.cell? ⟨J,j,none⟩=some u) (ab:cs.length≤1048576) (O:G≤w.heap.size)
  (h:∀I w',lm w' G I (cs++[c])→w.grownBy w' v.ownBlock→K (A.put o.dst I) w'):if Region.wanted o (yielded M A.tmps)=true then Oper.wp Tryz.prog o A w K Q else E:=by
 have hw:Region.wanted o (yielded M A.tmps)=true:=(by simp[Region.wanted,V]);rw[if_pos hw];obtain⟨i0,hi,Y,Z,aa⟩:=info_parts Tryz.infoCdL;have R:w.ownsRow G 219 7 v cs.length (cs.map d6).flatten:=(by have:=L.2;rw[MI] at this;exact this);refine wp_append_own w s x 204 ho G 219 i0 (.agg #[.string ⟨#[]⟩,.slice none 0 0,.int .i64 0,.bool false,.int .u32 0,.int .i64 0,.int .u32 0]) 7 72 Tryz.underlying204 hi Y Z aa rfl (by decide) v cs.length (cs.map d6).flatten hs R ⟨J,0,none⟩ 1 N (d6 c) hx (by simp[d6]) ?_ ?_ (by unfold maxLen;omega) (by omega) O ?_
 ·intro j u hj;rw[ej,Ng];exact hc j u hj
 ·exact mx c
 ·intro I w' U hg _;refine h I w' ⟨?_,?_⟩ hg
  ·intro y z;rw[MS,Nb] at z;rcases z with z|z
   ·exact L.1 y z
   ·simp only[M0,Ns,M9] at z;rw[z];rfl
  ·rw[MI,MT,MS,NG];simpa using U
def KJ(gm:Nat)(w:World)(p l0 l1 l2:Value)(c:Nat)(o:Option (List Cd))(e:Ending)(w':World):Prop:=
 (∃fs ca cc,o=some fs∧e= .returned .nilIface∧FmI gm w w' p l0 l1 l2 c (.slice ca fs.length cc) fs)∨(o=none∧∃nm t,e= .returned (fA nm t)∧dV gm w.heap.size w w')
theorem tY(z go lo:Nat)(w:World)(l0 l1 l2:Value)(c:Nat)(ms:List IM)(bvs:List Value)(am:Option Addr)(cm:Nat)(av:Value)(all:List Cd)(aL:Blk w z (mvF (.pointer (some ⟨go,0,none⟩)) l0 l1 l2 c (.slice none 0 0)) 208)(bP:go≠z)(h9:w.cell? ⟨go,9,none⟩=some (.slice am ms.length cm))(aV:b9 w lo 262 6 (.slice am ms.length cm) (List.zipWith il1 ms bvs))(bi:bvs.length=ms.length)(br:∀b∈bvs,∃a n c,b= .slice a n c)(aU:kl w z av all)(hn:ms.length≤100)(bK:all.length≤300)(hE:∀w',dV z w.heap.size w w'→nD w')(hb:∀m∈ms,m.uid≤4294967294∧m.flags≤2147483647):
  Calls Tryz.prog 112 #[.pointer (some ⟨z,0,none⟩),av] w (KJ z w (.pointer (some ⟨go,0,none⟩)) l0 l1 l2 c (fmG Cd.uid all (usF c ms))):=by
 have m0:w.cell? ⟨z,0,none⟩=some (.pointer (some ⟨go,0,none⟩)):=aL.cell 0;have bF:=a8 (show FmI z w w (.pointer (some ⟨go,0,none⟩)) l0 l1 l2 c (.slice none 0 0) [] from⟨aL,b9.nil _ _ _ _,dV.refl _ _ _,aL.lt⟩);have bu:=a8 aU;have bf:=a8 aV;have be:=a8 bi;have HE:=a8 hE;have bC:=a8 hb;obtain⟨aa,ac,bL⟩:=aU.slice;subst bL;have bD:=a8 br;have bE:=a8 (show(Value.slice am ms.length cm).ownBlock≠some z from eM aV aL (by decide));clear aL bP aV bi aU hE hb br;go_enter Tryz.func112,Tryz.ntmps112;go_wp2;go_loopw [1,6,15] (fun t1 _ i wr=>∃(j:Nat) (aa:Option Addr) (ac:Nat) (ak fs:List Cd) (ca:Option Addr) (cc:Nat),j≤ms.length∧i= .int .i64 (j:Int)∧t1= .slice aa ak.length ac∧ak.length≤300∧fs.length≤j∧Hid (kl w z (.slice aa ak.length ac) ak)∧Hid (fmG Cd.uid all (usF c ms)=(fmG Cd.uid ak (usF c (ms.drop j))).map (fs++·))∧Hid (FmI z w wr (.pointer (some ⟨go,0,none⟩)) l0 l1 l2 c (.slice ca fs.length cc) fs)) (fun _ _ i _=>ms.length-(intOf i).toNat)
 case atStart=>exact⟨0,aa,ac,all,[],none,0,MQ _,rfl,rfl,bK,MH _,bu,a8 (by simp),bF⟩
 case round=>
  obtain⟨j,bI,bJ,ak,fs,ca,cc,hj,rfl,rfl,bR,bY,bB,aA,HI⟩:=hrel;by_cases aK:j<ms.length
  ·have bU:(j:Int)<(ms.length:Int):=(by omega);have bt:j<bvs.length:=(by have:=be.out;omega);obtain⟨g,bO,_,bg⟩:=bf.out.at0 (by rw[List.length_zipWith,be.out];omega);subst bO;have bh:g≠z:=fun e=>bE.out (by rw[e];rfl);obtain⟨ba,bn,bc,bp⟩:=bD.out bvs[j] (MO bt);have HC:=a8 (show∀k (hk:k<6),wr.cell? ⟨g,j*6+k,none⟩=(il1 ms[j] bvs[j])[k]? from fun k hk=>by
    rw[d5 (HI.out.bel.block g bg bh)];exact oj bf.out j aK bt k hk)
   rw[bp] at HC;have bm:=a8 (Kp (c:=c) aK);have bl:=a8 (Ly (c:=c) aK);obtain⟨bT,bN⟩:=bC.out ms[j] (MO aK);generalize ms[j]=m at HC bm bl bT bN;unfold il1 at HC;generalize decide (m.bare=1)=y5 at HC;have k0:wr.cell? ⟨g,j*6,none⟩=some (.int .u32 (m.uid:Int)):=HC.out 0 (by omega);have k1:wr.cell? ⟨g,j*6+1,none⟩=some (.int .i64 (m.stamp:Int)):=HC.out 1 (by omega);have k2:wr.cell? ⟨g,j*6+2,none⟩=some (.int .u32 (m.flags:Int)):=HC.out 2 (by omega);have k3:wr.cell? ⟨g,j*6+3,none⟩=some (.slice ba bn bc):=HC.out 3 (by omega);have k4:wr.cell? ⟨g,j*6+4,none⟩=some (.int .i64 (m.size:Int)):=HC.out 4 (by omega);have k5:wr.cell? ⟨g,j*6+5,none⟩=some (.bool y5):=HC.out 5 (by omega);have bq:=nAl wr (.cells #[.int .u32 (m.uid:Int),.int .i64 (m.stamp:Int),.int .u32 (m.flags:Int),.slice ba bn bc,.int .i64 (m.size:Int),.bool y5] 262);have HM:=a8 (dN wr #[.int .u32 (m.uid:Int),.int .i64 (m.stamp:Int),.int .u32 (m.flags:Int),.slice ba bn bc,.int .i64 (m.size:Int),.bool y5] 262);have aH:=a8 (HI.out.below bq);clear bq HC bp bh bg;go_upto_region 4 with fail;generalize wr.alloc (.cells #[.int .u32 (m.uid:Int),.int .i64 (m.stamp:Int),.int .u32 (m.flags:Int),.slice ba bn bc,.int .i64 (m.size:Int),.bool y5] 262)=X at HM aH⊢;clear k0 k1 k2 k3 k4 k5;have m0:X.cell? ⟨wr.heap.size,0,none⟩=some (.int .u32 (m.uid:Int)):=HM.out.cell 0;obtain⟨-,-,-,-,c4⟩:=aH.out.st.c5;by_cases aQ:m.uid≤c
   ·have bx:¬(c:Int)<(m.uid:Int):=(by omega);have HU:=a8 (bm.out aQ);clear aQ;go_quiet(fail);go_wp2;have bk:=a8 (aH.out.below (below_drewN (MJ _ _) nq));have aP:=a8 (HM.out.below (below_drewN (MJ X.heap.size X) nq) HM.out.lt);generalize X.drewN nq=Z at bk aP⊢;clear m0 c4 HM aH;generalize wr.heap.size=gx at aP⊢;go_loopw [1] (fun t1 wz=>∃(ab:Option Addr) (ad:Nat) (rs:List Cd),t1= .slice ab rs.length ad∧rs.length≤300∧Hid (kl w z (.slice ab rs.length ad) rs)∧Hid (rs.dropWhile (fun x=>decide (x.uid<m.uid))=ak.dropWhile (fun x=>decide (x.uid<m.uid)))∧Hid (Below Z.heap.size Z wz)) (fun t1 _=>lenOf t1)
    case atStart=>exact⟨bI,bJ,ak,rfl,bR,bB,a8 rfl,a8 (MJ _ _)⟩
    case round=>
     obtain⟨ab,ad,rs,rfl,aZ,au,aW,ao⟩:=hrel;have aO:=a8 (bk.out.below ao.out);have aw:=a8 (aP.out.below ao.out aP.out.lt);have m0:wr.cell? ⟨gx,0,none⟩=some (.int .u32 (m.uid:Int)):=aw.out.cell 0;cases rs with
     |nil=>
      have HN:=a8 (show fmG Cd.uid all (usF c ms)=none by rw[aA.out,HU.out];unfold fmG;rw[←aW.out];rfl);go_upto_region 5 with fail;go_quiet(fail);go_wp2;have aj:=a8 (aw.out.below (below_drewN (MJ wr.heap.size wr) nq) aw.out.lt);have ai:=a8 (aO.out.below (below_drewN (MJ wr.heap.size wr) nq));have aB:=a8 (ao.out.trans ((below_drewN (MJ wr.heap.size wr) nq).mono ao.out.size));generalize wr.drewN nq=E at aj ai aB⊢;have aD:E.cell? ⟨gx,0,none⟩=some (.int .u32 (m.uid:Int)):=aj.out.cell 0;go_quiet(fail);have ah:=a8 (aj.out.below (below_drewN (MJ E.heap.size E) nq) aj.out.lt);have ae:=a8 (ai.out.below (below_drewN (MJ E.heap.size E) nq));generalize E.drewN nq=Y at ah ae⊢;clear m0 aD;obtain⟨q0,q1,q2⟩:=ah.out.c3;have CN:=a8 (j7 m.uid (m.stamp:Int) m.flags Y (by omega) (by omega) (HE.out Y ae.out.bel).tab);go_wp2_with fail;refine CN.out.mono ?_;rintro e w8 ⟨rfl,ap⟩;have aG:=a8 (ae.out.below ap).bel;clear ap CN;go_wp2;go_ret;exact Or.inr ⟨HN.out,_,_,rfl,aG.out⟩
     |cons y ys=>
      have bS:∃G I,ab=some ⟨G,I,none⟩:=by
       rcases au.out with⟨hv,hl⟩|⟨G,I,cap,hv,_⟩
       ·cases hl
       ·simp only[MR] at hv;exact⟨G,I,hv.1⟩
      obtain⟨G,I,rfl⟩:=bS;obtain⟨h1,h2,h3,h4,h5⟩:ys.length+1≤ad∧ad≤9223372036854775807∧G<w.heap.size∧G≠z∧∀i (h:i<(y::ys).length) j,j<7→w.cell? ⟨G,I+i*7+j,none⟩=(d6 (y::ys)[i])[j]? :=by
       rcases au.out with⟨hv,hl⟩|⟨bW,bV,cap,hv,e1,e2,e3,e4,e5⟩
       ·cases hl
       ·simp only[MR,MK,Np,and_true] at hv;obtain⟨⟨rfl,rfl⟩,_,rfl⟩:=hv;exact⟨by simpa using e1,e2,e3,e4,e5⟩
      have af:=a8 (show∀Y,dV z w.heap.size w Y→∀k (hk:k<7),Y.cell? ⟨G,I+k,none⟩=(d6 y)[k]? from fun Y hY k hk=>by
       rw[d5 (hY.block G h3 h4)];have:=h5 0 (by simp) k hk;simpa using this)
      have bo:=a8 (show∀Y,dV z w.heap.size w Y→∀d q,ys=d::q→Y.cell? ⟨G,I+7+4,none⟩=some (.int .u32 (d.uid:Int)) from fun Y hY d q e=>by
       rw[d5 (hY.block G h3 h4)];subst e;have:=h5 1 (by simp) 4 (by omega);rw[show I+7+4=I+1*7+4 by omega,this];rfl)
      have y4:wr.cell? ⟨G,I+4,none⟩=some (.int .u32 (y.uid:Int)):=af.out wr aO.out.bel 4 (by omega);have bZ:(0:Int)<((ys.length:Int)+1):=(by omega);have cb:(((ys.length:Int)+1)==0)=false:=(by simp;omega);have bX:((ys.length:Int)+1)≤(ad:Int):=(by omega);simp only[M2] at au aZ⊢;by_cases bb:y.uid<m.uid
      ·have bA:(y.uid:Int)<(m.uid:Int):=(by omega);have aE:=a8 (show ys.dropWhile (fun x=>decide (x.uid<m.uid))=ak.dropWhile (fun x=>decide (x.uid<m.uid)) by rw[←aW.out,List.dropWhile_cons,if_pos (decide_eq_true bb)]);have bG:=a8 (fun h=>kl.tail au.out h);have bH:=a8 (show ad=1→kl w z (.slice (some ⟨G,I,none⟩) ys.length 0) ys from fun e=>by have h:=au.out;rw[e] at h;exact kl.tail1 h);clear bb h5;go_upto_region 5 with fail;go_quiet(fail);go_wp2;have aj:=a8 (aw.out.below (below_drewN (MJ wr.heap.size wr) nq) aw.out.lt);have ai:=a8 (aO.out.below (below_drewN (MJ wr.heap.size wr) nq));have aB:=a8 (ao.out.trans ((below_drewN (MJ wr.heap.size wr) nq).mono ao.out.size));generalize wr.drewN nq=E at aj ai aB⊢;refine⟨⟨_,ad-1,ys,rfl,by omega,a8 ?_,aE,aB⟩,by simp[lenOf]⟩;by_cases h:ad=1
       ·rw[if_pos h,h];exact bH.out h
       ·rw[if_neg h];exact bG.out h
      ·have bA:¬(y.uid:Int)<(m.uid:Int):=(by omega);have aE:=a8 (show ak.dropWhile (fun x=>decide (x.uid<m.uid))=y::ys by rw[←aW.out,List.dropWhile_cons,if_neg (by simpa using bb)]);go_upto_region 5 with fail;go_quiet(fail);go_wp2;have aj:=a8 (aw.out.below (below_drewN (MJ wr.heap.size wr) nq) aw.out.lt);have ai:=a8 (aO.out.below (below_drewN (MJ wr.heap.size wr) nq));have aB:=a8 (ao.out.trans ((below_drewN (MJ wr.heap.size wr) nq).mono ao.out.size));generalize wr.drewN nq=E at aj ai aB⊢;have aD:E.cell? ⟨gx,0,none⟩=some (.int .u32 (m.uid:Int)):=aj.out.cell 0;have aS:E.cell? ⟨G,I+4,none⟩=some (.int .u32 (y.uid:Int)):=af.out E ai.out.bel 4 (by omega);clear m0 y4 h5;by_cases aC:y.uid=m.uid
       ·have bz:((y.uid:Int) !=(m.uid:Int))=false:=(by simp;omega);by_cases ar:(ys.head?.map Cd.uid)=some m.uid
        ·obtain⟨d,q,aq,bM⟩:∃d q,ys=d::q∧d.uid=m.uid:=by
          cases ys with
          |nil=>cases ar
          |cons d q=>exact⟨d,q,rfl,by simpa using ar⟩
         have aY:E.cell? ⟨G,I+7+4,none⟩=some (.int .u32 (d.uid:Int)):=bo.out E ai.out.bel d q aq;have bj:(1:Int)<((ys.length:Int)+1):=(by rw[aq];simp;omega);have bw:((d.uid:Int)==(m.uid:Int))=true:=(by simp;omega);have HN:=a8 (show fmG Cd.uid all (usF c ms)=none by rw[aA.out,HU.out];unfold fmG;rw[aE.out];simp only;rw[if_neg (fun h=>h.2 ar)];rfl);clear ar aq bM aC;go_quiet(fail);have ah:=a8 (aj.out.below (below_drewN (MJ E.heap.size E) nq) aj.out.lt);have ae:=a8 (ai.out.below (below_drewN (MJ E.heap.size E) nq));generalize E.drewN nq=Y at ah ae⊢;clear aD aS aY;obtain⟨q0,q1,q2⟩:=ah.out.c3;have CN:=a8 (j7 m.uid (m.stamp:Int) m.flags Y (by omega) (by omega) (HE.out Y ae.out.bel).tab);go_wp2_with fail;refine CN.out.mono ?_;rintro e w8 ⟨rfl,ap⟩;have aG:=a8 (ae.out.below ap).bel;clear ap CN;go_wp2;go_ret;exact Or.inr ⟨HN.out,_,_,rfl,aG.out⟩
        ·have bd:=a8 (show fmG Cd.uid all (usF c ms)=(fmG Cd.uid (y::ys) (usF c (ms.drop (j+1)))).map ((fs++[y])++·) by
          rw[aA.out,HU.out]
          conv=>lhs;unfold fmG
          rw[aE.out];simp only;rw[if_pos ⟨aC,ar⟩];cases fmG Cd.uid (y::ys) (usF c (ms.drop (j+1)))<;>simp)
         by_cases aR:ys=[]
         ·have bj:¬(1:Int)<((ys.length:Int)+1):=(by rw[aR];simp);clear ar aC aR;go_quiet(fail);go_wp2;have ae:=a8 (ai.out.below (below_drewN (MJ E.heap.size E) nq));generalize E.drewN nq=Y at ae⊢;clear aD aS;have ax:=a8 (show∀Q,dV z w.heap.size w Q→Q.cell? ⟨z,11,none⟩=some (.slice ca fs.length cc)→FmS z G I (.slice ca fs.length cc) (.string y.name) (.slice y.ad y.dl y.dc) (.int .i64 (y.dl:Int)) (.bool true) (.int .u32 (y.uid:Int)) (.int .i64 (y.stamp:Int)) (.int .u32 (y.flags:Int)) Q from fun Q hQ h=>⟨h,af.out Q hQ 0 (by omega),af.out Q hQ 1 (by omega),af.out Q hQ 2 (by omega),af.out Q hQ 3 (by omega),af.out Q hQ 4 (by omega),af.out Q hQ 5 (by omega),af.out Q hQ 6 (by omega)⟩);have al:=a8 (ae.out.below (MJ _ _).drew);refine gD (by kernel_rfl) (FmS z G I (.slice ca fs.length cc) (.string y.name) (.slice y.ad y.dl y.dc) (.int .i64 (y.dl:Int)) (.bool true) (.int .u32 (y.uid:Int)) (.int .i64 (y.stamp:Int)) (.int .u32 (y.flags:Int))) 14 ?_;generalize Y.drew=V at al⊢;have A:=ax.out V al.out.bel (al.out.st.cell 11);refine d7 0 (.pointer (some ⟨z,0,none⟩)) rfl (fun _ _ _ h=>h) (Or.inl ⟨by rfl,?_⟩) A ?_
          ·rintro wz ⟨J,L,z2,M,N,O,R,U⟩;go_simp
          simp only[dJ,dK,dL,dM];refine d7 1 (.pointer (some ⟨z,0,none⟩)) rfl (fun _ _ _ h=>h) (Or.inl ⟨by rfl,?_⟩) A ?_
          ·rintro wz ⟨J,L,z2,M,N,O,R,U⟩;go_simp
          simp only[dJ,dK,dL,dM];refine d7 2 (.pointer (some ⟨z,0,none⟩)) rfl (fun _ _ _ h=>h) (Or.inl ⟨by rfl,?_⟩) A ?_
          ·rintro wz ⟨J,L,z2,M,N,O,R,U⟩;go_simp
          simp only[dJ,dK,dL,dM];refine d7 3 (.pointer (some ⟨z,5,none⟩)) rfl (fun _ _ _ h=>h) (Or.inl ⟨by rfl,?_⟩) A ?_
          ·rintro wz ⟨J,L,z2,M,N,O,R,U⟩;go_simp
          simp only[dJ,dK,dL,dM];refine d7 4 (.pointer (some ⟨z,11,none⟩)) rfl (fun _ _ _ h=>h) (Or.inl ⟨by rfl,?_⟩) A ?_
          ·rintro wz ⟨J,L,z2,M,N,O,R,U⟩;go_simp
          simp only[dJ,dK,dL,dM];refine d7 5 (.slice ca fs.length cc) rfl (fun _ _ _ h=>h) (Or.inl ⟨by rfl,?_⟩) A ?_
          ·rintro wz ⟨J,L,z2,M,N,O,R,U⟩;go_simp
          simp only[dJ,dK,dL,dM];refine d7 6 (.slice (some ⟨G,I,none⟩) (ys.length+1) ad) rfl (fun _ _ _ h=>h) (Or.inl ⟨by rfl,?_⟩) A ?_
          ·rintro wz ⟨J,L,z2,M,N,O,R,U⟩;go_simp
          simp only[dJ,dK,dL,dM];refine d7 7 (.pointer (some ⟨G,I,none⟩)) rfl (fun _ _ _ h=>h) (Or.inl ⟨by rfl,?_⟩) A ?_
          ·rintro wz ⟨J,L,z2,M,N,O,R,U⟩;go_simp
          simp only[dJ,dK,dL,dM];refine d7 8 (.agg #[.string y.name,.slice y.ad y.dl y.dc,.int .i64 (y.dl:Int),.bool true,.int .u32 (y.uid:Int),.int .i64 (y.stamp:Int),.int .u32 (y.flags:Int)]) rfl (fun _ _ _ h=>h) (Or.inl ⟨by rfl,?_⟩) A ?_
          ·rintro wz ⟨J,L,z2,M,N,O,R,U⟩;go_simp
          simp only[dJ,dK,dL,dM];refine ee 9 rfl (by kernel_rfl) (fun K hK=> ?_);go_simp;have aF:=nAl V (.cells #[.string y.name,.slice y.ad y.dl y.dc,.int .i64 (y.dl:Int),.bool true,.int .u32 (y.uid:Int),.int .i64 (y.stamp:Int),.int .u32 (y.flags:Int)] 219);have aI:=a8 (dN V #[.string y.name,.slice y.ad y.dl y.dc,.int .i64 (y.dl:Int),.bool true,.int .u32 (y.uid:Int),.int .i64 (y.stamp:Int),.int .u32 (y.flags:Int)] 219);have ag:=a8 (al.out.below aF);refine hK _ _ (fun _=>ax.out _ ag.out.bel (ag.out.st.cell 11)) ?_;clear hK K aF A
          try simp only[dJ,dK,dL,dM]
          generalize V.alloc (.cells #[.string y.name,.slice y.ad y.dl y.dc,.int .i64 (y.dl:Int),.bool true,.int .u32 (y.uid:Int),.int .i64 (y.stamp:Int),.int .u32 (y.flags:Int)] 219)=V2 at aI ag⊢;refine ee 10 rfl (by kernel_rfl) (fun K hK=> ?_);refine jc _ (by rfl) (.tmp 91) (.tmp 95) (by rfl) w.heap.size (.slice ca fs.length cc) fs y V.heap.size 1 (by simp[go_sem]) (by simp[go_sem]) ag.out.row (fun j v hj=>(aI.out.cell j).trans (by simpa[d6] using hj)) (by omega) ag.out.bel.size ?_;intro v7 w7 az ay;have an:=ag.out.app az ay;have aJ:=ag.out.grew ay;obtain⟨a7,c7,aM⟩:=b9.slice az;rw[MI] at aM;subst aM;have aN:=an.1;have aT:=an.2.1;have aX:=a8 an.2.2;have A:=ax.out w7 aJ aN;refine hK _ _ (fun _=>A) ?_;clear hK K an ay az aJ
          try simp only[dJ,dK,dL,dM]
          refine d7 11 (.pointer (some ⟨z,0,none⟩)) rfl (fun _ _ _ h=>h) (Or.inl ⟨by rfl,?_⟩) A ?_
          ·rintro wz ⟨J,L,z2,M,N,O,R,U⟩;go_simp
          simp only[dJ,dK,dL,dM];refine d7 12 (.pointer (some ⟨z,5,none⟩)) rfl (fun _ _ _ h=>h) (Or.inl ⟨by rfl,?_⟩) A ?_
          ·rintro wz ⟨J,L,z2,M,N,O,R,U⟩;go_simp
          simp only[dJ,dK,dL,dM];refine d7 13 (.pointer (some ⟨z,11,none⟩)) rfl (fun _ _ _ h=>h) (Or.inl ⟨by rfl,?_⟩) A ?_
          ·rintro wz ⟨J,L,z2,M,N,O,R,U⟩;go_simp
          simp only[dJ,dK,dL,dM];refine ee 14 rfl (by kernel_rfl) (fun K hK=> ?_);go_simp;refine hK _ _ (fun h=>by cases h) (fI (by kernel_rfl) ?_ _);clear hK K A aN aT;go_wp2;refine⟨⟨j+1,some ⟨G,I,none⟩,ad,y::ys,fs++[y],a7,c7,by omega,by go_num,by simp,by simpa using aZ,by simp;omega,a8 (by simpa using au.out),bd,?_⟩,by simp[intOf];omega⟩;have:=aX;simpa using this
         ·obtain⟨d,q,aq⟩:∃d q,ys=d::q:=by
           cases ys with
           |nil=>exact absurd rfl aR
           |cons d q=>exact⟨d,q,rfl⟩
          have aY:E.cell? ⟨G,I+7+4,none⟩=some (.int .u32 (d.uid:Int)):=bo.out E ai.out.bel d q aq;have bj:(1:Int)<((ys.length:Int)+1):=(by rw[aq];simp;omega);have bw:((d.uid:Int)==(m.uid:Int))=false:=by
           have:d.uid≠m.uid:=fun e=>ar (by rw[aq];simp[e]);simp;omega
          clear ar aC aR aq;go_quiet(fail);go_wp2;have ae:=a8 (ai.out.below (below_drewN (MJ E.heap.size E) nq));generalize E.drewN nq=Y at ae⊢;clear aD aS aY;have ax:=a8 (show∀Q,dV z w.heap.size w Q→Q.cell? ⟨z,11,none⟩=some (.slice ca fs.length cc)→FmS z G I (.slice ca fs.length cc) (.string y.name) (.slice y.ad y.dl y.dc) (.int .i64 (y.dl:Int)) (.bool true) (.int .u32 (y.uid:Int)) (.int .i64 (y.stamp:Int)) (.int .u32 (y.flags:Int)) Q from fun Q hQ h=>⟨h,af.out Q hQ 0 (by omega),af.out Q hQ 1 (by omega),af.out Q hQ 2 (by omega),af.out Q hQ 3 (by omega),af.out Q hQ 4 (by omega),af.out Q hQ 5 (by omega),af.out Q hQ 6 (by omega)⟩);have al:=a8 (ae.out.below (MJ _ _).drew);refine gD (by kernel_rfl) (FmS z G I (.slice ca fs.length cc) (.string y.name) (.slice y.ad y.dl y.dc) (.int .i64 (y.dl:Int)) (.bool true) (.int .u32 (y.uid:Int)) (.int .i64 (y.stamp:Int)) (.int .u32 (y.flags:Int))) 14 ?_;generalize Y.drew=V at al⊢;have A:=ax.out V al.out.bel (al.out.st.cell 11);refine d7 0 (.pointer (some ⟨z,0,none⟩)) rfl (fun _ _ _ h=>h) (Or.inl ⟨by rfl,?_⟩) A ?_
          ·rintro wz ⟨J,L,z2,M,N,O,R,U⟩;go_simp
          simp only[dJ,dK,dL,dM];refine d7 1 (.pointer (some ⟨z,0,none⟩)) rfl (fun _ _ _ h=>h) (Or.inl ⟨by rfl,?_⟩) A ?_
          ·rintro wz ⟨J,L,z2,M,N,O,R,U⟩;go_simp
          simp only[dJ,dK,dL,dM];refine d7 2 (.pointer (some ⟨z,0,none⟩)) rfl (fun _ _ _ h=>h) (Or.inl ⟨by rfl,?_⟩) A ?_
          ·rintro wz ⟨J,L,z2,M,N,O,R,U⟩;go_simp
          simp only[dJ,dK,dL,dM];refine d7 3 (.pointer (some ⟨z,5,none⟩)) rfl (fun _ _ _ h=>h) (Or.inl ⟨by rfl,?_⟩) A ?_
          ·rintro wz ⟨J,L,z2,M,N,O,R,U⟩;go_simp
          simp only[dJ,dK,dL,dM];refine d7 4 (.pointer (some ⟨z,11,none⟩)) rfl (fun _ _ _ h=>h) (Or.inl ⟨by rfl,?_⟩) A ?_
          ·rintro wz ⟨J,L,z2,M,N,O,R,U⟩;go_simp
          simp only[dJ,dK,dL,dM];refine d7 5 (.slice ca fs.length cc) rfl (fun _ _ _ h=>h) (Or.inl ⟨by rfl,?_⟩) A ?_
          ·rintro wz ⟨J,L,z2,M,N,O,R,U⟩;go_simp
          simp only[dJ,dK,dL,dM];refine d7 6 (.slice (some ⟨G,I,none⟩) (ys.length+1) ad) rfl (fun _ _ _ h=>h) (Or.inl ⟨by rfl,?_⟩) A ?_
          ·rintro wz ⟨J,L,z2,M,N,O,R,U⟩;go_simp
          simp only[dJ,dK,dL,dM];refine d7 7 (.pointer (some ⟨G,I,none⟩)) rfl (fun _ _ _ h=>h) (Or.inl ⟨by rfl,?_⟩) A ?_
          ·rintro wz ⟨J,L,z2,M,N,O,R,U⟩;go_simp
          simp only[dJ,dK,dL,dM];refine d7 8 (.agg #[.string y.name,.slice y.ad y.dl y.dc,.int .i64 (y.dl:Int),.bool true,.int .u32 (y.uid:Int),.int .i64 (y.stamp:Int),.int .u32 (y.flags:Int)]) rfl (fun _ _ _ h=>h) (Or.inl ⟨by rfl,?_⟩) A ?_
          ·rintro wz ⟨J,L,z2,M,N,O,R,U⟩;go_simp
          simp only[dJ,dK,dL,dM];refine ee 9 rfl (by kernel_rfl) (fun K hK=> ?_);go_simp;have aF:=nAl V (.cells #[.string y.name,.slice y.ad y.dl y.dc,.int .i64 (y.dl:Int),.bool true,.int .u32 (y.uid:Int),.int .i64 (y.stamp:Int),.int .u32 (y.flags:Int)] 219);have aI:=a8 (dN V #[.string y.name,.slice y.ad y.dl y.dc,.int .i64 (y.dl:Int),.bool true,.int .u32 (y.uid:Int),.int .i64 (y.stamp:Int),.int .u32 (y.flags:Int)] 219);have ag:=a8 (al.out.below aF);refine hK _ _ (fun _=>ax.out _ ag.out.bel (ag.out.st.cell 11)) ?_;clear hK K aF A
          try simp only[dJ,dK,dL,dM]
          generalize V.alloc (.cells #[.string y.name,.slice y.ad y.dl y.dc,.int .i64 (y.dl:Int),.bool true,.int .u32 (y.uid:Int),.int .i64 (y.stamp:Int),.int .u32 (y.flags:Int)] 219)=V2 at aI ag⊢;refine ee 10 rfl (by kernel_rfl) (fun K hK=> ?_);refine jc _ (by rfl) (.tmp 91) (.tmp 95) (by rfl) w.heap.size (.slice ca fs.length cc) fs y V.heap.size 1 (by simp[go_sem]) (by simp[go_sem]) ag.out.row (fun j v hj=>(aI.out.cell j).trans (by simpa[d6] using hj)) (by omega) ag.out.bel.size ?_;intro v7 w7 az ay;have an:=ag.out.app az ay;have aJ:=ag.out.grew ay;obtain⟨a7,c7,aM⟩:=b9.slice az;rw[MI] at aM;subst aM;have aN:=an.1;have aT:=an.2.1;have aX:=a8 an.2.2;have A:=ax.out w7 aJ aN;refine hK _ _ (fun _=>A) ?_;clear hK K an ay az aJ
          try simp only[dJ,dK,dL,dM]
          refine d7 11 (.pointer (some ⟨z,0,none⟩)) rfl (fun _ _ _ h=>h) (Or.inl ⟨by rfl,?_⟩) A ?_
          ·rintro wz ⟨J,L,z2,M,N,O,R,U⟩;go_simp
          simp only[dJ,dK,dL,dM];refine d7 12 (.pointer (some ⟨z,5,none⟩)) rfl (fun _ _ _ h=>h) (Or.inl ⟨by rfl,?_⟩) A ?_
          ·rintro wz ⟨J,L,z2,M,N,O,R,U⟩;go_simp
          simp only[dJ,dK,dL,dM];refine d7 13 (.pointer (some ⟨z,11,none⟩)) rfl (fun _ _ _ h=>h) (Or.inl ⟨by rfl,?_⟩) A ?_
          ·rintro wz ⟨J,L,z2,M,N,O,R,U⟩;go_simp
          simp only[dJ,dK,dL,dM];refine ee 14 rfl (by kernel_rfl) (fun K hK=> ?_);go_simp;refine hK _ _ (fun h=>by cases h) (fI (by kernel_rfl) ?_ _);clear hK K A aN aT;go_wp2;refine⟨⟨j+1,some ⟨G,I,none⟩,ad,y::ys,fs++[y],a7,c7,by omega,by go_num,by simp,by simpa using aZ,by simp;omega,a8 (by simpa using au.out),bd,?_⟩,by simp[intOf];omega⟩;have:=aX;simpa using this
       ·have bz:((y.uid:Int) !=(m.uid:Int))=true:=(by simp;omega);have HN:=a8 (show fmG Cd.uid all (usF c ms)=none by rw[aA.out,HU.out];unfold fmG;rw[aE.out];simp only;rw[if_neg (fun h=>aC h.1)];rfl);clear aC;go_quiet(fail);have ah:=a8 (aj.out.below (below_drewN (MJ E.heap.size E) nq) aj.out.lt);have ae:=a8 (ai.out.below (below_drewN (MJ E.heap.size E) nq));generalize E.drewN nq=Y at ah ae⊢;clear aD aS;obtain⟨q0,q1,q2⟩:=ah.out.c3;have CN:=a8 (j7 m.uid (m.stamp:Int) m.flags Y (by omega) (by omega) (HE.out Y ae.out.bel).tab);go_wp2_with fail;refine CN.out.mono ?_;rintro e w8 ⟨rfl,ap⟩;have aG:=a8 (ae.out.below ap).bel;clear ap CN;go_wp2;go_ret;exact Or.inr ⟨HN.out,_,_,rfl,aG.out⟩
   ·have bx:(c:Int)<(m.uid:Int):=(by omega);have HF:=a8 (show fmG Cd.uid all (usF c ms)=some fs by rw[aA.out,bl.out aQ];simp[fmG]);clear aQ;go_quiet(fail);go_wp2;go_ret;exact Or.inl ⟨fs,ca,cc,HF.out,rfl,aH.out.below (below_drewN (MJ _ _) _)⟩
  ·have bQ:j=ms.length:=(by omega);subst bQ;have HF:=a8 (show fmG Cd.uid all (usF c ms)=some fs by rw[aA.out,Nx];simp[usF,fmG]);clear aK;go_wp2;go_ret;exact Or.inl ⟨fs,ca,cc,HF.out,rfl,HI.out⟩
end
section
open Go.Sort Go.Lib
noncomputable def lmC(D:dQ)(c:Cd):LM:=⟨c.uid,c.stamp,c.flags,(dI D c.name).2⟩
theorem DV{w0:World}{D:dQ}{all:List Cd}(h:iZ w0 D (D.names.map (·.1)) all)(u:Nat):(all.filter (fun c=>c.uid==u)).map (·.name)=jj D u:=by
 have A:(all.filter (fun c=>c.uid==u)).map cdK=(all.map cdK).filter (fun x=>x.2.1==u):=by
  rw[List.filter_map];rfl
 rw[h.1] at A;have G:(all.filter (fun c=>c.uid==u)).map (·.name)=((all.filter (fun c=>c.uid==u)).map cdK).map (·.1):=by
  rw[NC];rfl
 rw[G,A];unfold jj;generalize D.names.map (·.1)=ns
 induction ns with
 |nil=>rfl
 |cons nm ns ih=>
  rw[List.filterMap_cons,List.filter_cons];cases hc:fo nm.data.toList with
  |none=>
   have z:lq nm=none:=(by unfold lq;rw[hc];rfl);rw[z];simpa using ih
  |some k=>
   have z:lq nm=some (nm,k):=(by unfold lq;rw[hc];rfl);rw[z];simp only[List.filter_cons];by_cases E:k.1=u
   ·simpa[E] using ih
   ·simpa[E] using ih
theorem sK{D:dQ}{c:Nat}:∀{r:List XM},(∀m∈r,c<m.uid)→gC D c r=some r
 |[],_=>rfl
 |m::r,h=>by
  unfold gC lz;rw[if_pos (h m (by simp)),sK (fun x z=>h x (MV _ z))]
theorem zL{w0:World}{D:dQ}{c:Nat}{all:List Cd}(J:iZ w0 D (D.names.map (·.1)) all):∀{ms:List IM} {r:List XM},r.map (·.uid)=ms.map (·.uid)→(ms.map (·.uid)).Pairwise (·<·)→
  (pe Cd.uid all (usF c ms)=none→gC D c r=none)∧(∀fs,pe Cd.uid all (usF c ms)=some fs→(∀x∈fs,x∈all)∧fs.length≤r.length∧∃G,gC D c r=some G∧G.map lmX=fs.map (lmC D)++(r.drop fs.length).map lmX)
 |[],[],_,_=>⟨(fun h=>by cases h),fun fs h=>by
  have:fs=[]:=(by simp only[usF,Ns,List.takeWhile_nil,pe,MK] at h;exact h.symm);subst this;exact⟨(fun x U=>by cases U),MH _,[],rfl,rfl⟩⟩
 |[],_::_,h,_=>by cases h
 |_::_,[],h,_=>by cases h
 |m::ms,x::r,h,hp=>by
  simp only[M0,List.cons.injEq] at h;rw[M0,List.pairwise_cons] at hp;by_cases N:m.uid≤c
  ·have e:usF c (m::ms)=m.uid::usF c ms:=by
    unfold usF;rw[M0,List.takeWhile_cons,if_pos (decide_eq_true N)]
   rw[e];have O:=zL (c:=c) J (ms:=ms) (r:=r) h.2 hp.2;have E:=DV J m.uid;have I:¬c<x.uid:=(by rw[h.1];omega);unfold pe;cases hf:all.filter (fun c=>c.uid==m.uid) with
   |nil=>
    rw[hf] at E;refine⟨fun _=> ?_,fun fs h=>by cases h⟩;unfold gC lz;rw[if_neg I,h.1,←E];rfl
   |cons d q=>
    have K:d∈all∧d.uid=m.uid:=by
     have:d∈all.filter (fun c=>c.uid==m.uid):=(by rw[hf];simp);rw[List.mem_filter] at this;exact⟨this.1,by simpa using this.2⟩
    cases q with
    |cons d2 q=>
     rw[hf] at E;refine⟨fun _=> ?_,fun fs h=>by cases h⟩;unfold gC lz;rw[if_neg I,h.1,←E];rfl
    |nil=>
     rw[hf] at E;simp only;have R:=(J.2 d K.1).card;have L:lz D c x=some {x with stamp:=d.stamp,flags:=d.flags,body:=(dI D d.name).2,moved:=true,card:=d.name}:=by
      unfold lz;rw[if_neg I,h.1,←E];simp only[M0,Ns,R]
     refine⟨fun M=> ?_,fun fs A=> ?_⟩
     ·cases ho:pe Cd.uid all (usF c ms) with
      |some q=>rw[ho] at M;cases M
      |none=>
       unfold gC;rw[L,O.1 ho]
     ·cases ho:pe Cd.uid all (usF c ms) with
      |none=>rw[ho] at A;cases A
      |some q=>
       rw[ho] at A;simp only[Option.map_some,MK] at A;subst A;obtain⟨V,Y,G,Z,i4⟩:=O.2 q ho;refine⟨fun y z=> ?_,by simpa using Y,_::G,by unfold gC;rw[L,Z],?_⟩
       ·rcases M1.1 z with rfl|z
        ·exact K.1
        ·exact V y z
       ·simp only[M0,M2,List.drop_succ_cons,List.cons_append,List.cons.injEq];refine⟨?_,i4⟩;unfold lmX lmC;simp only;rw[h.1,K.2]
  ·have e:usF c (m::ms)=[]:=by
    unfold usF;rw[M0,List.takeWhile_cons,if_neg (by simpa using N)]
   rw[e];refine⟨(fun h=>by cases h),fun fs A=> ?_⟩;simp only[pe,MK] at A;subst A;refine⟨(fun y z=>by cases z),MQ _,x::r,sK (fun y z=> ?_),by simp⟩;rcases M1.1 z with rfl|z
   ·rw[h.1];omega
   ·have Q:y.uid∈ms.map (·.uid):=(by rw[←h.2];exact List.mem_map_of_mem z);have:=hp.1 _ Q;omega
theorem IW{c:Nat}{ms:List IM}(h:(ms.map (·.uid)).Pairwise (·<·)):(usF c ms).Pairwise (·<·):=h.sublist (List.takeWhile_sublist _)
theorem IQ{ms:List IM}{f:Bool×List Nat}{r:List XM}(h:eZ ms f=some r):r.map lmX=List.zipWith (fun m x=>⟨m.uid,m.stamp,m.flags,x.body⟩) ms r∧r.map (·.uid)=ms.map (·.uid):=by
 unfold eZ at h;by_cases z:f.1=true∧dF ms≤f.2.length
 ·rw[if_pos z] at h;cases h2:iy (f.2.take (dF ms)) with
  |none=>rw[h2] at h;cases h
  |some xs=>
   rw[h2] at h;simp only at h;generalize f.2=text at h;clear z h2
   induction ms generalizing xs r with
   |nil=>
    cases xs with
    |nil=>simp only[kD,MK] at h;subst h;exact⟨rfl,rfl⟩
    |cons x xs=>cases h
   |cons m ms ih=>
    cases xs with
    |nil=>cases h
    |cons x xs=>
     unfold kD at h;cases hb:eS m x with
     |none=>rw[hb] at h;cases h
     |some b=>
      rw[hb] at h;cases he:kD text ms xs with
      |none=>rw[he] at h;cases h
      |some q=>
       rw[he] at h;simp only[MK] at h;subst h;obtain⟨A,E⟩:=ih xs he;exact⟨by simp only[M0,List.zipWith_cons_cons,A];rfl,by simp only[M0,E];rfl⟩
 ·rw[if_neg z] at h;cases h
end
section
open Go.Sort Go.Lib
theorem Gn(a b c:Value)(w:World):(callFunc 111 #[a,b,c]).run Tryz.prog w= .ok (.enter 111 #[a,b,c]) w:=by
 go_simp
def FX(gm:Nat)(p:Value)(wb w:World)(hE:nD wb)(hb:Below wb.heap.size wb w)(hlo:wb.heap.size≤gm)(hst:Blk w gm (mvI p 0) 208):wi Nat 111 gm (·=gm) eN (fun _ _=>True) w 0 (fun X c=>Blk X gm (mvI p c) 208) (fun X=>∃c,Blk X gm (mvI p c) 208) where
 Inv:=fun B w0 wr c=>gm<B∧B≤wr.heap.size∧dV gm B w0 wr∧Blk wr gm (mvI p c) 208
 enter:=Gn
 start:=fun w0 h=>⟨MW hst.lt h.size,MH _,dV.refl _ _ _,hst.below h hst.lt⟩
 ok0:=trivial
 okS:=fun _ _ _=>trivial
 low:=fun k hk=>by rw[hk];exact hst.lt
 env:=fun w' h=>(hE.below (jf h hb hlo hb.size)).env
 below:=fun{B w0 wr wr' s} h hb'=>⟨h.1,MN h.2.1 hb'.size,h.2.2.1.trans (dV.of_below hb' h.2.1),h.2.2.2.below hb' h.2.2.2.lt⟩
 frame:=fun h=>gM.ofX h.2.2.1
 sz:=fun h=>h.2.1
 badI:=fun{B w0 wr s} h=>⟨s,h.2.2.2⟩
 badS:=fun{X g j} u h hg=>by
  obtain⟨c,h4⟩:=h;exact⟨c,h4.other (by have:=hst.lt;omega) u⟩
 fin:=fun{B w0 wr X s} h hb' hB ho=>ey h.2.2.2 (ho.block gm h.2.2.2.lt (.inl hst.lt))
 call:=fun k B gw w0 wr c ws h hok htw hgw hws _ _ hE'=>by
  refine(te gm gw B k w0 wr p c ws ⟨h.2.2.2,htw,h.2.2.1,h.2.1,h.1,hgw⟩ (fun w' hx=>hE' w' (gM.ofX hx)) hws).mono (fun e w' hr=> ?_);rcases hr with⟨c',r,rfl,hR,ho⟩|⟨hf,ho,hx⟩
  ·exact Or.inl ⟨c',r,rfl,⟨h.1,hR.sz,hR.fr,hR.st⟩,hR.tw,ho⟩
  ·exact Or.inr ⟨hf,ho,gM.ofX hx.1,hx.2⟩
theorem MbS.below{w0 w X:World}{E:Nat}{s:IX}{D:dQ}{I J K:Value}{r:List XM}{L:Option Addr}{M:Nat}{z:Option Addr}{A:Nat}{bvs:List Value}(h:MbS w0 w E s D I J K r L M z A bvs)(G:Below w.heap.size w X):MbS w0 X E s D I J K r L M z A bvs:=
 ⟨h.mb.below G,h.tx,h.len,h.rl,fun k N O=>(h.bod k N O).below G (MH _),h.apart⟩
noncomputable def pc(D:dQ)(idx cur:List Nat):Option (IX×Nat×List XM):=match lT D idx with
 |none=>none
 |some (s,r)=>match fN (dP cur).1 with
  |none=>none
  |some c=>(gC D c r).map fun r'=>(s,c,r')
structure MvS(w0 w:World)(gm go:Nat)(D:dQ)(s:IX)(r:List XM)(i0 i1 i2 l0 l1 l2:Value)(c:Nat)(fs:List Cd)(ca:Option Addr)(cc:Nat)(ta:Option Addr)(tc:Nat)(am:Option Addr)(cm:Nat)(bvs:List Value):Prop where
 mb:MbS w0 w go s D i0 i1 i2 r ta tc am cm bvs
 st:Blk w gm (mvF (.pointer (some ⟨go,0,none⟩)) l0 l1 l2 c (.slice ca fs.length cc)) 208
 row:lm w w0.heap.size (.slice ca fs.length cc) fs
 ok:∀x∈fs,Fz w0 D x
 lo:w0.heap.size≤gm
def KL(D:dQ)(ia:Option Addr)(ic:Nat)(idx:List Nat)(la:Option Addr)(lc:Nat)(cur:List Nat)(w:World)(e:Ending)(w':World):Prop:=
 (∃w0 gm go s r c r' fs ca cc ta tc am cm bvs,pc D idx cur=some (s,c,r')∧lT D idx=some (s,r)∧r'.map lmX=fs.map (lmC D)++(r.drop fs.length).map lmX∧fs.length≤r.length∧lG s∧e= .returned (.tuple #[.pointer (some ⟨gm,0,none⟩),.nilIface])∧MvS w0 w' gm go D s r (.string ixN) (.slice ia idx.length ic) (.int .i64 ((dP idx).2:Int)) (.string gN) (.slice la cur.length lc) (.int .i64 ((dP cur).2:Int)) c fs ca cc ta tc am cm bvs∧Below w.heap.size w w0)∨
 (pc D idx cur=none∧∃nm t,e= .returned (.tuple #[.pointer none,fA nm t])∧Below w.heap.size w w')
theorem vF{D:dQ}(z:eP D):D.names.length≤300:=(gR z.2.2.2.2.1).2.2.1
theorem ly{D:dQ}{z:List Nat}{s:IX}{r:List XM}(h:lT D z=some (s,r)):r.map lmX=List.zipWith (fun m x=>⟨m.uid,m.stamp,m.flags,x.body⟩) s.mails r∧r.map (·.uid)=s.mails.map (·.uid):=by
 unfold lT at h;cases h1:nI (dP z).1 with
 |none=>rw[h1] at h;cases h
 |some s1=>
  rw[h1] at h;simp only at h;cases h2:eZ s1.mails (dI D (eH s1.gen)) with
  |none=>rw[h2] at h;cases h
  |some r1=>
   rw[h2] at h;simp only[Option.map_some,MK,Prod.mk.injEq] at h;obtain⟨rfl,rfl⟩:=h;exact IQ h2
theorem tg(v:Value)(D:dQ)(ia:Option Addr)(ic:Nat)(M:List Nat)(J:Option Addr)(K:Nat)(A:List Nat)(w:World)(hv:eP D)(hd:km w v D)(hi:fX w ia ic M)(hl:fX w J K A)(hE:nD w):
  Calls Tryz.prog 75 #[v,.slice ia M.length ic,.slice J A.length K] w (KL D ia ic M J K A w):=by
 have aS:∀(fn:Fn) (first cap:Array Value) (w:World),(Instr.makeFunc fn first cap).run Tryz.prog w= .ok (.func fn first cap) w:=fun _ _ _ _=>rfl;have HD:=a8 hd;obtain⟨a1,c1,a2,c2,a3,c3,a4,c4,aR,r1,r2,r3,r4⟩:=hd;subst aR;have Q:=nAl w (.cells #[.slice a1 D.nodes.length c1,.slice a2 D.names.length c2,.slice a3 D.kept.length c3,.slice a4 D.pend.length c4,.int .i64 D.quota] 37);have O:=a8 (dN w #[.slice a1 D.nodes.length c1,.slice a2 D.names.length c2,.slice a3 D.kept.length c3,.slice a4 D.pend.length c4,.int .i64 D.quota] 37);have HV:=a8 hv;have R:=a8 Q;have ax:=a8 (HD.out.below Q);have ai:=a8 (hE.below Q);have ay:=a8 (hl.below Q);have CM:=a8 (pg _ D ia ic M _ hv (HD.out.below Q) (hi.below Q) (hE.below Q));clear r1 r2 r3 r4 hv hE Q hi hl HD;go_enter Tryz.func75,Tryz.ntmps75;go_upto_region 1 with fail;generalize w.alloc (.cells #[.slice a1 D.nodes.length c1,.slice a2 D.names.length c2,.slice a3 D.kept.length c3,.slice a4 D.pend.length c4,.int .i64 D.quota] 37)=L at R O ax ai ay CM⊢;obtain⟨d0,d1,d2,d3,d4⟩:=O.out.c5;go_wp2_with fail;refine CM.out.mono ?_;clear d0 d1 d2 d3 d4;rintro e z (⟨s,r,go,ta,tc,am,cm,bvs,ag,rfl,hS,aG⟩|⟨ag,nm,t,rfl,aC⟩)
 ·have ad:=a8 ag;have Y:=a8 hS;have V:=a8 aG;have au:=nAl z (.cells #[.pointer (some ⟨go,0,none⟩),.string ⟨#[]⟩,.slice none 0 0,.int .i64 0,.int .u32 0,.int .u32 0,.int .u32 0,.string ⟨#[]⟩,.slice none 0 0,.int .i64 0,.map none,.slice none 0 0] 208);have HG:=a8 (show Blk (z.alloc (.cells #[.pointer (some ⟨go,0,none⟩),.string ⟨#[]⟩,.slice none 0 0,.int .i64 0,.int .u32 0,.int .u32 0,.int .u32 0,.string ⟨#[]⟩,.slice none 0 0,.int .i64 0,.map none,.slice none 0 0] 208)) z.heap.size (mvI (.pointer (some ⟨go,0,none⟩)) 0) 208 from dN z _ _);have ao:=a8 (hS.mb.bel.trans (au.mono hS.mb.bel.size));have ab:=a8 au;clear ag hS aG au CM;go_upto_region 5 with fail;generalize z.alloc (.cells #[.pointer (some ⟨go,0,none⟩),.string ⟨#[]⟩,.slice none 0 0,.int .i64 0,.int .u32 0,.int .u32 0,.int .u32 0,.string ⟨#[]⟩,.slice none 0 0,.int .i64 0,.map none,.slice none 0 0] 208)=w3 at HG ao ab⊢;have ak:=a8 (show L.heap.size≤z.heap.size from Y.out.mb.bel.size);have CL:=a8 (mL (FX z.heap.size (.pointer (some ⟨go,0,none⟩)) L w3 ai.out ao.out ak.out HG.out) gN J K A (ay.out.below ao.out));go_wp2_with fail;refine CL.out.mono ?_;rintro e N (⟨c,I,rfl,E,_,af⟩|⟨I,t,rfl,af,c9,E⟩)
  ·have aw:=a8 (show fN (dP A).1=some c by rw[←Hs];exact I);have ah:=a8 (jf af ab.out (MH _) ab.out.size);obtain⟨-,n1,n2,n3⟩:=E.c4;have fz:=fun j=>E.fz j;have aj:=a8 (show Blk (((N.setCell ⟨z.heap.size,1,none⟩ (.string gN)).setCell ⟨z.heap.size,2,none⟩ (.slice J A.length K)).setCell ⟨z.heap.size,3,none⟩ (.int .i64 ((dP A).2:Int))) z.heap.size (mvF (.pointer (some ⟨go,0,none⟩)) (.string gN) (.slice J A.length K) (.int .i64 ((dP A).2:Int)) c (.slice none 0 0)) 208 from((E.set 1 (.string gN)).set 2 (.slice J A.length K)).set 3 (.int .i64 ((dP A).2:Int)));have an:=a8 (show Below z.heap.size z (((N.setCell ⟨z.heap.size,1,none⟩ (.string gN)).setCell ⟨z.heap.size,2,none⟩ (.slice J A.length K)).setCell ⟨z.heap.size,3,none⟩ (.int .i64 ((dP A).2:Int))) from((ah.out.setCell (p:=⟨z.heap.size,1,none⟩) (MH _) _).setCell (p:=⟨z.heap.size,2,none⟩) (MH _) _).setCell (p:=⟨z.heap.size,3,none⟩) (MH _) _);clear I E af CL HG ah;go_upto_region 6 with fail;generalize (((N.setCell ⟨z.heap.size,1,none⟩ (.string gN)).setCell ⟨z.heap.size,2,none⟩ (.slice J A.length K)).setCell ⟨z.heap.size,3,none⟩ (.int .i64 ((dP A).2:Int)))=U at aj an⊢;clear n1 n2 n3 fz;have ar:=a8 (Y.out.below an.out);have ae:=a8 (O.out.below ar.out.mb.bel O.out.lt);have CC:=a8 (qo _ D L U HV.out ax.out ar.out.mb.bel ai.out);obtain⟨d0,d1,d2,d3,d4⟩:=ae.out.c5;go_wp2_with fail;refine CC.out.mono ?_;rintro e w6 ⟨aa,ac,cs,all,rfl,aF,aH,aE,aD,al⟩;clear d0 d1 d2 d3 d4 CC;have G:=a8 (ar.out.below al);have aK:=a8 (aj.out.below al aj.out.lt);have aA:=a8 aF;have aB:=a8 aH;have aM:=a8 aE;have aq:=a8 aD;have av:=bTr an al;have aJ:=a8 (show z.heap.size<U.heap.size from aj.out.lt);have aL:=a8 (show go<z.heap.size from Y.out.mb.st.lt);have aO:=a8 (show cs.length≤300 from by
    have h1:=aB.out.length_eq;have h2:=congrArg List.length aq.out.1;rw[MI] at h2;have h3:((D.names.map (·.1)).filterMap lq).length≤(D.names.map (·.1)).length:=List.length_filterMap_le _ _;rw[MI] at h3;have h4:=vF HV.out;omega)
   have CF:=a8 (tY z.heap.size go L.heap.size w6 (.string gN) (.slice J A.length K) (.int .i64 ((dP A).2:Int)) c s.mails bvs am cm (.slice aa cs.length ac) cs aK.out (by have:=aL.out;omega) (G.out.mb.st.cell 9) G.out.mb.row G.out.len (fun b hb=>by
    obtain⟨k,hk,rfl⟩:=Nd hb;obtain⟨a,cp,e⟩:=(G.out.bod k hk (by rw[G.out.rl,←G.out.len];exact hk)).slice;exact⟨_,_,_,e⟩) (FI aA.out (fun g hg=>by have:=(b9.lt aA.out g hg).1;have:=aJ.out;omega)) V.out.len aO.out (fun w' Z=>ai.out.below (ip G.out.mb.bel Z ak.out G.out.mb.bel.size)) (fun m hm=>⟨(V.out.uid m hm).2,V.out.flags m hm⟩))
   rw[JN Cd.uid aB.out aM.out (IW V.out.rise)] at CF;have aQ:=a8 (ly ad.out);have az:=a8 (zL (c:=c) aq.out aQ.out.2 V.out.rise);clear aF aH aE aD al;go_wp2_with fail;refine CF.out.mono ?_;rintro e w7 (⟨fs,ca,cc,I,rfl,hI⟩|⟨I,nm,t,rfl,Z⟩)
   ·obtain⟨h1,h2,r',h3,h4⟩:=az.out.2 fs I;have HP:=a8 (show pc D M A=some (s,c,r') by unfold pc;rw[ad.out];simp only;rw[aw.out];simp only;rw[h3];rfl);have HQ:=a8 h4;have aP:=a8 h2;have aI:=a8 (ip av.out hI.bel (MH _) av.out.size);have aN:=a8 (show MvS L w7 z.heap.size go D s r (.string ixN) (.slice ia M.length ic) (.int .i64 ((dP M).2:Int)) (.string gN) (.slice J A.length K) (.int .i64 ((dP A).2:Int)) c fs ca cc ta tc am cm bvs from⟨Y.out.below aI.out,hI.st,hI.row.mono G.out.mb.bel.size,fun x Z=>aq.out.2 x (h1 x Z),ak.out⟩);clear I hI h1 h2 h3 h4 CF;go_wp2;go_ret2;exact Or.inl ⟨L,_,go,s,r,c,r',fs,ca,cc,ta,tc,am,cm,bvs,HP.out,ad.out,HQ.out,aP.out,V.out,rfl,aN.out,R.out⟩
   ·have HN:=a8 (show pc D M A=none by unfold pc;rw[ad.out];simp only;rw[aw.out];simp only;rw[az.out.1 I];rfl);have ap:=a8 (R.out.trans ((ip G.out.mb.bel Z ak.out G.out.mb.bel.size).mono R.out.size));clear I Z CF;unfold fA;go_wp2;go_ret2;exact Or.inr ⟨HN.out,_,_,rfl,ap.out⟩
  ·have HN:=a8 (show pc D M A=none by unfold pc;rw[ad.out];simp only;rw[←Hs,I]);have ah:=a8 (jf af ab.out (MH _) ab.out.size);obtain⟨-,n1,n2,n3⟩:=E.c4;have fz:=fun j=>E.fz j;have ap:=a8 (R.out.trans ((Y.out.mb.bel.trans ((((ah.out.setCell (p:=⟨z.heap.size,1,none⟩) (MH _) (.string ⟨#[]⟩)).setCell (p:=⟨z.heap.size,2,none⟩) (MH _) (.slice none 0 0)).setCell (p:=⟨z.heap.size,3,none⟩) (MH _) (.int .i64 0)).mono Y.out.mb.bel.size)).mono R.out.size));clear I E af CL;unfold fA;go_wp2;go_ret2;exact Or.inr ⟨HN.out,_,_,rfl,ap.out⟩
 ·have HN:=a8 (show pc D M A=none by unfold pc;rw[ag]);have HB:=bTr R aC;clear ag aC CM;unfold fA;go_wp2;go_ret2;exact Or.inr ⟨HN.out,_,_,rfl,HB.out⟩
end
theorem uz(P:Program)(w:World)(J sT ty A:TypeId)(k n g E M:Nat)(a:Addr)(G Q:Nat)(z:Array Value)(t:TypeId)(cs:List Value)
  (hu:P.underlying J=some (.slice A)) (L:(P.info? A).map (·.size)=some k) (R:Nat.min G E=n)
  (V:w.heap[g]? =some (.cells z t (0,0))) (Z:cs.length=n*k)
  (O:∀j v,cs[j]? =some v→w.cell? (a.add j)=some v) (N:cs.length≤z.size) (U:∀v∈cs,v.oneCell'=true):
  (Builtin.copy_ #[J,sT] ty #[.slice (some ⟨g,0,none⟩) E M,.slice (some a) G Q]).run P w=
   .ok (goInt n) (w.setRow g (cs++z.toList.drop cs.length).toArray):=by
 have K:=run_loadCells_list (P:=P) w a cs O;have I:=run_storeCells_at P g 0 t cs 0 z w V (by simpa using N) U;simp only[Ng,List.take_zero,Nq] at I;cases hq:P.info? A with
 |none=>simp[hq] at L
 |some i=>
  have Y:i.size=k:=(by simpa[hq] using L);rw[Z] at K;simp[Builtin.copy_,run_underlying hu,Builtin.lenOf,Builtin.firstCells,sizeOf,typeInfo,hq,Y,R,K,I]
theorem tl(P:Program)(w:World)(G O Q z:TypeId)(k:Nat)(d a:Option Addr)(A I E J:Nat)(N:P.underlying G=some (.slice z))(M:(P.info? z).map (·.size)=some k)(L:Nat.min E A=0):
  (Builtin.copy_ #[G,O] Q #[.slice d A I,.slice a E J]).run P w= .ok (goInt 0) w:=by
 cases hq:P.info? z with
 |none=>simp[hq] at M
 |some i=>
  have K:∀(x:Addr),(loadCells x 0).run P w= .ok #[] w:=fun x=>(by simpa using run_loadCells_list (P:=P) w x [] (by simp));cases d<;>cases a<;>simp[Builtin.copy_,run_underlying N,Builtin.lenOf,Builtin.firstCells,sizeOf,typeInfo,hq,L,storeCells,K]
theorem DL:(Tryz.prog.info? 57).map (·.size)=some 4:=by kernel_rfl
theorem x7{ad:Array Oper}{a:Act}{K:Act→World→Prop}{E:Prop}(ai:o.guard=none)(d s:Operand)
  (ho:o.op= .call {callee:= .builtin .copy,args:= #[d,s],argTypes:= #[29,29]})
  (B B2:Nat) (M sa:Option Addr) (A R:Nat) (ys z:List VM) (hd:a.eval d= .slice M ys.length A) (Y:a.eval s= .slice sa z.length R) (O:je w B (.slice M ys.length A) ys) (hh:je w B2 (.slice sa z.length R) z) (ab:z.length≤ys.length)
  (h:∀w',je w' B (.slice M ys.length A) (z++ys.drop z.length)→(∀b,(Value.slice M ys.length A).ownBlock≠some b→w'.heap[b]? =w.heap[b]?)→w'.heap.size=w.heap.size→w'.os=w.os→w'.tape=w.tape→w'.output=w.output→K (a.put o.dst (goInt z.length)) w'):
  if Region.wanted o (yielded ad a.tmps)=true then Oper.wp Tryz.prog o a w K Q else E:=by
 have hw:Region.wanted o (yielded ad a.tmps)=true:=(by simp[Region.wanted,ai]);rw[if_pos hw];have af:Nat.min z.length ys.length=z.length:=Nat.min_eq_left ab;by_cases h0:z.length=0
 ·obtain rfl:z=[]:=Nt h0;have N:=tl Tryz.prog w 29 29 o.type 57 4 M sa ys.length A 0 R Tryz.underlying29 DL (by simp);unfold Oper.wp;simp only[List.length_nil] at Y;simp[execOp,ho,resolve,invoke,builtin,hd,Y,N,Result.andThen];exact h w (by simpa using O) (fun _ _=>rfl) rfl rfl rfl rfl
 ·obtain⟨g,rfl,_,_⟩:=O.at0 (by rw[MI];omega);obtain⟨g2,rfl,_,_⟩:=hh.at0 (by rw[MI];omega);rcases O.2.2 with⟨I,_⟩|⟨g',aj,J,I,ah,aa,e1,e2,e3,e4⟩
  ·cases I
  ·simp only[MR,MK,Np,and_true] at I;obtain⟨rfl,_,rfl⟩:=I;rw[MI] at e1 e4;have L:((z.map vmC).flatten).length=z.length*4:=(by rw[kv (k:=4) hh.1,MI]);have ak:((ys.map vmC).flatten).length=ys.length*4:=(by rw[kv (k:=4) O.1,MI]);have ae:((z.map vmC).flatten).length≤J.size:=(by rw[L,e3];omega);have N:=uz Tryz.prog w 29 29 o.type 57 4 z.length g ys.length A ⟨g2,0,none⟩ z.length R J 57 (z.map vmC).flatten Tryz.underlying29 DL af aa L (fun j v hj=>World.ownsRow.cells hh.2 (g:=g2) rfl j v hj) ae (fun v I=>by
    obtain⟨x,G,ac⟩:=List.mem_flatten.1 I;obtain⟨m,_,rfl⟩:=Na.1 G;simp only[vmC,M1,Nw,or_false] at ac;rcases ac with rfl|rfl|rfl|rfl<;>rfl)
   obtain⟨Z,V⟩:∃Z,Z=((z.map vmC).flatten++J.toList.drop ((z.map vmC).flatten).length).toArray:=⟨_,rfl⟩
   rw[←V] at N;unfold Oper.wp;simp[execOp,ho,resolve,invoke,builtin,hd,Y,N,Result.andThen];have U:(z++ys.drop z.length).length=ys.length:=(by simp;omega);refine h _ ⟨?_,?_,?_⟩ (fun b hb=>setRow_other w g b _ (fun e=>hb (by rw[e];rfl))) (by simp[World.setRow]) rfl rfl rfl
   ·intro x G;obtain⟨m,_,rfl⟩:=Na.1 G;rfl
   ·rw[kv (k:=4) (fun x G=>by obtain⟨m,_,rfl⟩:=Na.1 G;rfl)]
   ·refine .inr ⟨g,A,Z,?_,ah,setRow_heap w g J _ 57 _ aa,?_,e2,?_,?_⟩
    ·rw[MI,U]
    ·rw[MI,U];exact e1
    ·have ag:J.toList.length=A*4:=(by rw[Array.length_toList];exact e3);rw[V,List.size_toArray,MT,MU,L,ag];omega
    ·rw[MI,U,MS,NG];rw[V,List.toList_toArray,List.take_append,L,MX (by rw[L];omega)];congr 1;have e5:((ys.drop z.length).map vmC).flatten=((ys.map vmC).flatten).drop (z.length*4):=by
      have e6:(ys.map vmC).flatten=((ys.take z.length).map vmC).flatten++((ys.drop z.length).map vmC).flatten:=by
       rw[←NG,←MS,Nk]
      rw[e6];have e7:(((ys.take z.length).map vmC).flatten).length=z.length*4:=by
       rw[kv (k:=4) (fun x G=>by obtain⟨m,_,rfl⟩:=Na.1 G;rfl),MI,MZ,Nat.min_eq_left ab]
      rw[←e7,List.drop_left]
     rw[e5,←e4,List.drop_take]
theorem An(v:Value)(w:World):(callFunc 273 #[v]).run Tryz.prog w= .ok (.enter 273 #[v]) w:=by
 go_simp
def vU(g j:Nat)(c:Value)(w:World):Prop:=w.cell? ⟨g,j,none⟩=some c
theorem MvS.below{X:World}{J go:Nat}{D:dQ}{s:IX}{r:List XM}{Q:Value}{fs:List Cd}{E:Option Addr}{G:Nat}{R:Option Addr}{U:Nat}{A:Option Addr}{I:Nat}(h:MvS w0 w J go D s r K L M N O Q c fs E G R U A I bvs)(z:Below w.heap.size w X):MvS w0 X J go D s r K L M N O Q c fs E G R U A I bvs:=
 ⟨h.mb.below z,h.st.below z h.st.lt,b9.below h.row z (MH _),h.ok,h.lo⟩
def AY(L:Nat)(h:VH)(ls:List LM)(w:World)(e:Ending)(w':World):Prop:=∃ys:List VM,we L h ys w e w'∧ys.map VM.x=ls∧iM (ys.map VM.v)
theorem tm(a b c d e v:Value)(w:World):(Instr.field 31 (.agg #[a,b,c,d,e,v]) 5).run Tryz.prog w= .ok v w:=by kernel_rfl
theorem GK{X:World}{K go:Nat}{D:dQ}{s:IX}{r:List XM}{i0 i1 i2 l0 l1 l2:Value}{fs:List Cd}{L:Option Addr}{M:Nat}{ta:Option Addr}{tc:Nat}{R:Option Addr}{U:Nat}(h:MvS w0 X K go D s r i0 i1 i2 l0 l1 l2 c fs L M ta tc R U bvs)(hv:eP D)(hn:fs.length≤1048576)(E:Below X.heap.size X Y):
  Calls Tryz.prog 273 #[.pointer (some ⟨K,5,none⟩)] Y fun e w'=>∃G I z,e= .returned (.agg #[.int .i64 0,.int .i64 3,.int .u32 0,.int .u32 0,.int .u32 0,.slice G z.length I])∧je w' X.heap.size (.slice G z.length I) z∧(∀m∈z,dO w' X.heap.size m.v m.x.body)∧Below X.heap.size X w'∧z.map VM.x=fs.map (lmC D)∧iM (z.map VM.v):=by
 have A:=h.below E;refine(sI K 5 w0.heap.size w0 Y (fun x=>(dI D x.name).2) 0 0 L M fs A.mb.mb.bel (A.st.cell 5) (A.st.cell 6) (A.st.cell 11) A.row (fun x J=>⟨(h.ok x J).tx,(h.ok x J).dl,by have:=pi hv x.name;omega⟩) hn).mono (fun e w' hp=> ?_);obtain⟨z,⟨G,I,V,ho,Q,O⟩,J,N⟩:=hp;exact⟨G,I,z,V,ho.mono E.size,fun m Z=>(Q m Z).mono E.size,E.trans (O.mono E.size),J,N⟩
theorem sM{O go:Nat}{D:dQ}{s:IX}{r:List XM}{i0 i1 i2 l0 l1 l2:Value}{fs:List Cd}{ca:Option Addr}{cc:Nat}{ta:Option Addr}{tc:Nat}{am:Option Addr}{cm:Nat}(h:MvS w0 w O go D s r i0 i1 i2 l0 l1 l2 c fs ca cc ta tc am cm bvs)(an:lG s)(hv:eP D)(aL:fs.length≤r.length)(aP:r.map lmX=List.zipWith (fun m x=>⟨m.uid,m.stamp,m.flags,x.body⟩) s.mails r):
  Calls Tryz.prog 270 #[.pointer (some ⟨O,0,none⟩)] w (AY w0.heap.size ⟨2,s.val,s.next,c⟩ (fs.map (lmC D)++(r.map lmX).drop fs.length) w):=by
 obtain⟨ys,ao,ap,aq,aS⟩:=Hh (w0:=w0) h.mb.len h.mb.rl h.mb.bod;have aT:∀k (Q:k<ys.length) (h2:k<s.mails.length),ys[k].x.uid=s.mails[k].uid∧ys[k].x.stamp=s.mails[k].stamp∧ys[k].x.flags=s.mails[k].flags:=fun k Q h2=>by
  have e:(ys.map VM.x)[k]? =(List.zipWith (fun m x=>(⟨m.uid,m.stamp,m.flags,x.body⟩:LM)) s.mails r)[k]? :=(by rw[aq]);have h3:k<r.length:=(by rw[h.mb.rl];exact h2);rw[Nr,MM Q,List.getElem?_zipWith,MM h2,MM h3] at e;simp only[Option.map_some,MK] at e;rw[e];exact⟨rfl,rfl,rfl⟩
 have hA:=nAl w (.cells #[.int .i64 0,.int .i64 0,.int .u32 0,.int .u32 0,.int .u32 0,.slice none 0 0] 31);have HR:=a8 (dN w #[.int .i64 0,.int .i64 0,.int .u32 0,.int .u32 0,.int .u32 0,.slice none 0 0] 31);have HA:=a8 hA;have HS:=a8 (h.below hA);have CM:=a8 (pa go w0.heap.size w0.heap.size _ s i0 i1 i2 (.string (eH s.gen)) (.slice ta (dI D (eH s.gen)).2.length tc) (.int .i64 (dF s.mails:Int)) am cm bvs ys (h.below hA).mb.mb.st (h.below hA).mb.mb.row h.mb.len ao ap aT (fun m I=>(aS m I).below hA (MH _)) an.len);have be:=a8 (aq.trans aP.symm);have bd:=a8 ap;have al:=a8 (show ys.length=r.length by rw[ao,h.mb.rl]);have HN:=a8 an.len;have ag:=a8 aL;have HV:=a8 hv;clear h an hv aL aP ao ap aq aS aT hA;go_enter Tryz.func270,Tryz.ntmps270;go_upto_region 1 with fail;generalize w.alloc (.cells #[.int .i64 0,.int .i64 0,.int .u32 0,.int .u32 0,.int .u32 0,.slice none 0 0] 31)=w1 at HR HA HS CM⊢;have m0:w1.cell? ⟨O,0,none⟩=some (.pointer (some ⟨go,0,none⟩)):=HS.out.st.cell 0;go_wp2_with fail;refine CM.out.mono ?_;rintro e z ⟨E,G,rfl,aB,az,af⟩;have aK:=nAl z (.cells (vhA ⟨1,s.val,s.next,0⟩ (.slice E ys.length G)) 31);have U:=a8 (dN z (vhA ⟨1,s.val,s.next,0⟩ (.slice E ys.length G)) 31);have ai:=a8 (HS.out.below af);have aX:=a8 aB;have aV:=a8 az;have aD:=a8 af;have ac:=a8 aK;have aF:=a8 (HR.out.below af HR.out.lt);clear aB az af aK CM m0;go_upto_region 2 with fail;generalize z.alloc (.cells (vhA ⟨1,s.val,s.next,0⟩ (.slice E ys.length G)) 31)=W at U ac⊢;obtain⟨-,v1,-,-,v4⟩:=U.out.c5;have fv:=fun j=>U.out.fz j;have c4:W.cell? ⟨O,4,none⟩=some (.int .u32 (c:Int)):=(ai.out.below ac.out).st.cell 4;have bg:¬O=z.heap.size:=(by have:=ai.out.st.lt;omega);have ae:=a8 (show Blk ((W.setCell ⟨z.heap.size,1,none⟩ (.int .i64 2)).setCell ⟨z.heap.size,4,none⟩ (.int .u32 (c:Int))) z.heap.size (vhA ⟨2,s.val,s.next,c⟩ (.slice E ys.length G)) 31 from(U.out.set 1 (.int .i64 2)).set 4 (.int .u32 (c:Int)));have R:=a8 (show Below z.heap.size z ((W.setCell ⟨z.heap.size,1,none⟩ (.int .i64 2)).setCell ⟨z.heap.size,4,none⟩ (.int .u32 (c:Int))) from(ac.out.setCell (p:=⟨z.heap.size,1,none⟩) (MH _) _).setCell (p:=⟨z.heap.size,4,none⟩) (MH _) _);go_upto_region 4 with fail;generalize ((W.setCell ⟨z.heap.size,1,none⟩ (.int .i64 2)).setCell ⟨z.heap.size,4,none⟩ (.int .u32 (c:Int)))=X at ae R⊢;clear v1 v4 fv c4 bg U ac;have ad:=a8 (ai.out.below R.out);have bb:=a8 (b9.below aX.out R.out (MH _));have au:=a8 (fun m I=>(aV.out m I).below R.out (MH _));have aH:=a8 (aF.out.below R.out aF.out.lt);have CH:=a8 (fun(Y:World) (hY:Below X.heap.size X Y)=>GK ad.out HV.out (by have:=ag.out;have:=al.out;have:=HN.out;have:=ad.out.mb.rl;omega) hY);have N:vU z.heap.size 5 (.slice E ys.length G) X.drew:=ae.out.cell 5;have bf:=tm;refine gD (by kernel_rfl) (vU z.heap.size 5 (.slice E ys.length G)) 7 ?_;refine d7 0 (.pointer (some ⟨z.heap.size,5,none⟩)) rfl (fun _ _ _ h=>h) (Or.inl ⟨by rfl,?_⟩) N ?_
 ·intro wz L;unfold vU at L;go_simp
 simp only[dJ,dK,dL,dM];refine d7 1 (.slice E ys.length G) rfl (fun _ _ _ h=>h) (Or.inl ⟨by rfl,?_⟩) N ?_
 ·intro wz L;unfold vU at L;go_simp
 simp only[dJ,dK,dL,dM];refine d7 2 (.pointer (some ⟨O,0,none⟩)) rfl (fun _ _ _ h=>h) (Or.inl ⟨by rfl,?_⟩) N ?_
 ·intro wz L;unfold vU at L;go_simp
 simp only[dJ,dK,dL,dM];refine d7 3 (.pointer (some ⟨O,0,none⟩)) rfl (fun _ _ _ h=>h) (Or.inl ⟨by rfl,?_⟩) N ?_
 ·intro wz L;unfold vU at L;go_simp
 simp only[dJ,dK,dL,dM];refine d7 4 (.pointer (some ⟨O,5,none⟩)) rfl (fun _ _ _ h=>h) (Or.inl ⟨by rfl,?_⟩) N ?_
 ·intro wz L;unfold vU at L;go_simp
 simp only[dJ,dK,dL,dM];refine ee 5 rfl (by kernel_rfl) (fun K hK=> ?_);refine ii 273 An (.tmp 19) #[206] (by rfl) (by rfl) (.pointer (some ⟨O,5,none⟩)) (by simp[go_sem]) ?_;refine(CH.out _ (MJ _ _).drew).mono ?_;rintro e w9 ⟨ha,hc,J,rfl,aN,ay,Z,aR,ax⟩;have ak:=a8 (ae.out.below Z ae.out.lt);have aa:=a8 (b9.below bb.out Z (MH _));have aW:=a8 (fun m I=>(au.out m I).below Z (MH _));have aw:=a8 (aH.out.below Z aH.out.lt);have aZ:=a8 aN;have av:=a8 ay;have aI:=a8 aR;have aU:=a8 ax;have aY:=a8 Z;have aj:vU z.heap.size 5 (.slice E ys.length G) w9:=ak.out.cell 5;refine⟨_,rfl,hK _ _ (fun _=>aj) ?_⟩;clear hK K N CH aN ay Z aR ax;have N:=aj
 try simp only[dJ,dK,dL,dM]
 refine d7 6 (.slice ha J.length hc) rfl (fun _ _ _ h=>h) (Or.inl ⟨by rfl,?_⟩) N ?_
 ·intro wz L;unfold vU at L;go_simp
 simp only[dJ,dK,dL,dM];have ah:=a8 (show J.length=fs.length by have h:=congrArg List.length aI.out;simpa using h);refine ee 7 rfl (by kernel_rfl) (fun K hK=> ?_);refine x7 (by rfl) (.tmp 16) (.tmp 21) (by rfl) w1.heap.size X.heap.size E ha G hc ys J (by simp[go_sem]) (by simp[go_sem]) aa.out aZ.out (by have:=ah.out;have:=ag.out;have:=al.out;omega) ?_;intro A aO ab aQ aA aC ar;have aJ:=a8 (show(J++ys.drop J.length).length=ys.length by rw[MT,MU];have:=ah.out;have:=ag.out;have:=al.out;omega);have V:=a8 (ey ak.out (ab _ (eM aa.out ak.out (by decide))));have M:=a8 (ey aw.out (ab _ (eM aa.out aw.out (by decide))));have ba:=a8 aO;have aE:=a8 (show∀m∈J++ys.drop J.length,dO A w0.heap.size m.v m.x.body from fun m I=>by
  have aM:dO w9 w0.heap.size m.v m.x.body:=by
   rcases Nb.1 I with h|h
   ·exact(av.out m h).mono ad.out.mb.mb.bel.size
   ·exact aW.out m (M7 h)
  exact gS aM (fun g hg _=>ab g (fun e=>j8 aa.out aM (by decide) g e hg)))
 have bc:=a8 (show Below w.heap.size w A from by
  have Q:Below w.heap.size w w9:=HA.out.trans ((aD.out.trans ((R.out.trans (aY.out.mono R.out.size)).mono aD.out.size)).mono HA.out.size);exact⟨aA.trans Q.os,aC.trans Q.tape,ar.trans Q.output,by rw[aQ];exact Q.size,fun k hk=>(ab k (fun e=>by have:=(b9.lt aa.out k e).1;have:=HA.out.size;omega)).trans (Q.block k hk)⟩)
 clear aO ab aQ aA aC ar;refine hK _ _ (fun h=>by cases h) (fI (by kernel_rfl) ?_ _);clear hK K N aj;obtain⟨r0,r1,r2,r3,r4,r5⟩:=M.out.c6;have fr:=fun j=>M.out.fz j;obtain⟨y0,y1,y2,y3,y4,y5⟩:=V.out.c6;have aG:=a8 (show je A w.heap.size (.slice E ys.length G) (J++ys.drop J.length) from ba.out.mono HA.out.size);clear bf;go_wp2;refine bodyPost_ret (iI w.heap.size _ (.int .i64 0) (.int .i64 2) (.int .u32 (s.val:Int)) (.int .u32 (s.next:Int)) (.int .u32 (c:Int)) (.slice E ys.length G) rfl rfl (nV M.out)) rfl ?_;have hk:=fun b (hb:b≠w.heap.size)=>mM A w.heap.size (.int .i64 0) (.int .i64 2) (.int .u32 (s.val:Int)) (.int .u32 (s.next:Int)) (.int .u32 (c:Int)) (.slice E ys.length G) b hb;have bi:(Value.slice E ys.length G).ownBlock≠some w.heap.size:=eM aG.out M.out (by decide);refine⟨J++ys.drop J.length,⟨E,G,by rw[aJ.out],?_,fun m I=>gS (aE.out m I) (fun g hg _=>hk g (fun e=>kP (aE.out m I) M.out (by decide) (by rw[←e];exact hg))),?_⟩,?_,?_⟩
 ·rw[aJ.out];exact b9.keep aG.out (fun g hg=>hk g (fun e=>bi (by rw[←e];exact hg)))
 ·exact(((((bc.out.setCell (p:=⟨w.heap.size,0,none⟩) (MH _) _).setCell (p:=⟨w.heap.size,1,none⟩) (MH _) _).setCell (p:=⟨w.heap.size,2,none⟩) (MH _) _).setCell (p:=⟨w.heap.size,3,none⟩) (MH _) _).setCell (p:=⟨w.heap.size,4,none⟩) (MH _) _).setCell (p:=⟨w.heap.size,5,none⟩) (MH _) _
 ·rw[MS,aI.out,List.map_drop,be.out,ah.out]
 ·unfold iM;rw[MS,List.pairwise_append];refine⟨aU.out,?_,fun x hx y hy=> ?_⟩
  ·rw[List.map_drop,bd.out];exact ad.out.mb.apart.sublist (List.drop_sublist _ _)
  ·obtain⟨m,I,rfl⟩:=Na.1 hx;obtain⟨m2,bh,rfl⟩:=Na.1 hy;cases he:m.v.ownBlock with
   |none=>exact .inl rfl
   |some g=>
    refine .inr (fun e=> ?_);have Q:=(World.ownsRow.lt (av.out m I) g he).1;have h2:=(World.ownsRow.lt (au.out m2 (M7 bh)) g e.symm).2;omega
end Go.Proofs.YtpdbolihakojcaaGreatDoor
