import Derived.Test.YtpdbolihakojcaaGreatDoorPkx
import Derived.Test.YtpdbolihakojcaaGreatDoorPky
import Derived.Test.YtpdbolihakojcaaGreatDoorPks
namespace Go.Proofs.YtpdbolihakojcaaGreatDoor
set_option maxRecDepth 20000
set_option linter.unusedVariables false
set_option linter.unusedSimpArgs false
set_option maxHeartbeats 4000000
open Go.RowKit
variable {W Y w w' w0 wr : World} {b : List UInt8} {A B at_ base' c cap e f g gs i j k lo m n u z : Nat} {R d is l : List Nat} {E G I J K L M N O v0 v1 v2 v3 v4 v5 v6 x y : Value} {o : Oper} {Q : Exit → Act → World → Prop} {bvs xs : List Value} {t : TypeId} {cs tmps : Array Value} {p : Addr} {a : Option Addr} {first ok : Bool} {s : ByteArray} {rs : List (List Nat)}
section
open Go.Sort Go.Lib
theorem Iz{d:List Nat}{l:List (Nat×Nat×List Nat)}(h:iy d=some l)(G:∀x∈d,x<256):∀i (I:i<l.length),∀x∈l[i].2.2,x<256:=by
 unfold iy at h;split at h
 ·cases h
 ·next hn=>
  simp only[MK] at h;subst h;intro i I x A;have e:((List.range (dG (d9 d)).length).map (mN d (dG (d9 d))))[i]=mN d (dG (d9 d)) i:=(by simp);rw[e] at A;refine yh _ (fun y E=> ?_) x A;unfold ed at E;have z:=M7 (M4 E);unfold f9 at z;exact G y (M7 (M4 z))
def mbF(s:IX)(i0 i1 i2 t0 t1 t2 mv:Value):Array Value:= #[.int .u32 (s.val:Int),.int .u32 (s.next:Int),.int .u64 (s.gen:Int),i0,i1,i2,t0,t1,t2,mv]
structure MbP(w0 wr:World)(gm:Nat)(A:Array Value)(mv:Value)(es:List (List Value)):Prop where
 st:Blk wr gm A 216
 row:b9 wr w0.heap.size 262 6 mv es
 bel:Below w0.heap.size w0 wr
 lo:w0.heap.size≤gm
theorem MbP.below{w0 wr wr':World}{G:Nat}{A:Array Value}{I:Value}{E:List (List Value)}(h:MbP w0 wr G A I E)(z:Below wr.heap.size wr wr'):MbP w0 wr' G A I E:=
 ⟨h.st.below z h.st.lt,b9.below h.row z (MH _),h.bel.trans (z.mono h.bel.size),h.lo⟩
theorem MbP.set{w0 wr:World}{z:Nat}{A:Array Value}{G:Value}{E:List (List Value)}(h:MbP w0 wr z A G E)(j:Nat)(u:Value):MbP w0 (wr.setCell ⟨z,j,none⟩ u) z (A.setIfInBounds j u) G E:=
 ⟨h.st.set j u,b9.keep h.row (fun g I=>heap_setCell_other wr ⟨z,j,none⟩ g u (by
  intro e;have e:g=z:=e;subst e;exact eM h.row h.st (by decide) I)),h.bel.setCell (p:=⟨z,j,none⟩) h.lo u,h.lo⟩
theorem Fp{ms:List IM}(I:ms.length≤100)(z:∀m∈ms,m.size≤40000)(j:Nat):dF (ms.take j)≤4000000:=by
 have:∀(l:List IM),(∀m∈l,m.size≤40000)→dF l≤l.length*40000:=by
  intro l
  induction l with
  |nil=>intro _;simp[dF]
  |cons m l ih=>
   intro h;have:=ih (fun x G=>h x (MV _ G));have:=h m (by simp);simp only[dF,M0,List.sum_cons,M2] at*;omega
 have A:=this (ms.take j) (fun m E=>z m (M4 E));rw[MZ] at A;have:min j ms.length*40000≤100*40000:=Ny _ (by omega);omega
theorem Ct(ms:List IM)(j:Nat)(h:j<ms.length):dF (ms.take (j+1))=dF (ms.take j)+ms[j].size:=by
 unfold dF;rw[gF ms j h,MS,List.sum_append];simp only[M0,Ns,List.sum_cons,List.sum_nil,Nat.add_zero]
theorem Ir{w W:World}{a:Option Addr}{c n:Nat}{d:List Nat}(h:fX w a c d)(z:n≤d.length):(Instr.sliceAt 52 (.slice a d.length c) none (some (.int .i64 (n:Int))) none).run Tryz.prog W= .ok (.slice a n c) W:=by
 have E:=h.room;have G:(n:Int)≤(c:Int):=(by omega);rcases h.cases with⟨rfl,rfl,rfl⟩|⟨b,A,rfl⟩
 ·have:n=0:=(by simpa using z);subst this;go_simp
 ·go_simp
theorem Cl{w:World}{lo:Nat}{a:Option Addr}{n cap:Nat}{z:List S3}{L:List (List Nat)}(h:gq w lo (.slice a n cap) z L)(V:0<L.length):∃g,a=some ⟨g,0,none⟩∧∀j (K:j<z.length),w.cell? ⟨g,j*3,none⟩=some (.int .i64 (z[j].1:Int))∧w.cell? ⟨g,j*3+1,none⟩=some (.int .i64 (z[j].2.1:Int))∧w.cell? ⟨g,j*3+2,none⟩=some z[j].2.2:=by
 have A:=h.row;rcases A.2 with⟨_,U⟩|⟨g,Q,R,J,_⟩
 ·omega
 ·simp only[MR] at J;obtain⟨rfl,rfl,rfl⟩:=J;refine⟨g,rfl,fun j K=> ?_⟩;obtain⟨M,N,O⟩:=rI z j K;have E:=World.ownsRow.cells A (g:=g) rfl _ _ M;have G:=World.ownsRow.cells A (g:=g) rfl _ _ N;have I:=World.ownsRow.cells A (g:=g) rfl _ _ O;rw[ej,Ng] at E G I;exact⟨E,G,I⟩
theorem E0{w w':World}{lo:Nat}{v:Value}{E:List S3}{A:List (List Nat)}(h:gq w lo v E A)(z:∀g,lo≤g→g<w.heap.size→w'.heap[g]? =w.heap[g]?):gq w' lo v E A:=
 ⟨h.len,kg h.row z,fun i G=>by
  obtain⟨x,J,I⟩:=h.body i G;exact⟨x,J,kg I z⟩,h.apart⟩
theorem BZ{w:World}{b1 b2 e k g n cap:Nat}{A:List (List Value)}(h:b9 w b1 e k (.slice (some ⟨g,0,none⟩) n cap) A)(J:b2≤g):b9 w b2 e k (.slice (some ⟨g,0,none⟩) n cap) A:=by
 refine⟨h.1,h.2.1,?_⟩;rcases h.2.2 with⟨z,_⟩|⟨g',K,I,E,L,G⟩
 ·cases z
 ·simp only[MR,MK,Np] at E;obtain⟨⟨rfl,_⟩,z,rfl⟩:=E;exact .inr ⟨g,cap,I,by rw[z],J,G⟩
def TkS(gm gp:Nat)(c0 p0 p1 p2:Value)(w:World):Prop:=w.cell? ⟨gm,9,none⟩=some c0∧w.cell? ⟨gp,0,none⟩=some p0∧w.cell? ⟨gp,1,none⟩=some p1∧w.cell? ⟨gp,2,none⟩=some p2
theorem Aq(v u:Value)(w:World):(callFunc 153 #[v,u]).run Tryz.prog w= .ok (.enter 153 #[v,u]) w:=by
 go_simp
theorem ip{w0 w w':World}{gr B:Nat}(h:Below w0.heap.size w0 w)(z:dV gr B w w')(G:w0.heap.size≤gr)(E:w0.heap.size≤B:=by omega):Below w0.heap.size w0 w':=
 ⟨z.os.trans h.os,z.tape.trans h.tape,z.output.trans h.output,MN h.size z.size,fun k A=>(z.block k (by omega) (by omega)).trans (h.block k A)⟩
structure wg(w0 wr:World)(gm:Nat)(A:Array Value)(mv:Value)(L5:Nat)(lv:Value)(vs:List S3)(ms:List IM)(xs:List (Nat×Nat×List Nat))(j:Nat)(bvs:List Value):Prop where
 mb:MbP w0 wr gm A mv (List.zipWith il1 ms bvs)
 os:gq wr L5 lv vs (xs.map (·.2.2))
 len:bvs.length=ms.length
 sz:L5≤wr.heap.size
 don:∀k (h:k<j) (h1:k<ms.length) (h2:k<xs.length) (h3:k<bvs.length) (h4:k<vs.length),∃b,eS ms[k] xs[k]=some b∧dO wr L5 bvs[k] b∧bvs[k].ownBlock=vs[k].2.2.ownBlock
theorem wg.below{w0 wr wr':World}{G:Nat}{A:Array Value}{J:Value}{E:Nat}{I:Value}{K:List S3}{ms:List IM}{xs:List (Nat×Nat×List Nat)}{j:Nat}{bvs:List Value}(h:wg w0 wr G A J E I K ms xs j bvs)(z:Below wr.heap.size wr wr'):wg w0 wr' G A J E I K ms xs j bvs:=
 ⟨h.mb.below z,h.os.below z (MH _),h.len,MN h.sz z.size,fun k V O Q R U=>by
  obtain⟨b,L,M,N⟩:=h.don k V O Q R U;exact⟨b,L,M.below z (MH _),N⟩⟩
theorem wg.step{w0 X w':World}{G gr n cap:Nat}{A:Array Value}{E:Nat}{N:Value}{I:List S3}{ms:List IM}{xs:List (Nat×Nat×List Nat)}{j:Nat}{bvs:List Value}{bv:Value}{b:List Nat}(h:wg w0 X G A (.slice (some ⟨gr,0,none⟩) n cap) E N I ms xs j bvs)(z:TkR gr X.heap.size X w' n cap ms (bvs.set j bv))(hg:gr<E)(hj:j<ms.length)(hx:j<xs.length)(hv:j<I.length)(hb:eS ms[j] xs[j]=some b)(ho:dO w' E bv b)(Q:bv.ownBlock=I[j].2.2.ownBlock):wg w0 w' G A (.slice (some ⟨gr,0,none⟩) n cap) E N I ms xs (j+1) (bvs.set j bv):=by
 have M:∀g,E≤g→g<X.heap.size→w'.heap[g]? =X.heap[g]? :=fun g L J=>z.bel.block g J (by omega);have O:G≠gr:=fun e=>by
  have:=eM h.mb.row h.mb.st (by decide);exact this (by rw[e];rfl)
 refine⟨⟨ey h.mb.st (z.bel.block G h.mb.st.lt O),BZ z.row (b9.lt h.mb.row gr rfl).1,?_,h.mb.lo⟩,E0 h.os M,by simp[h.len],MN h.sz z.bel.size,fun k aa L J Z h4=> ?_⟩
 ·exact⟨z.bel.os.trans h.mb.bel.os,z.bel.tape.trans h.mb.bel.tape,z.bel.output.trans h.mb.bel.output,MN h.mb.bel.size z.bel.size,fun g K=>(z.bel.block g (MW K h.mb.bel.size) (by have:=(b9.lt h.mb.row gr rfl).1;omega)).trans (h.mb.bel.block g K)⟩
 ·by_cases e:k=j
  ·subst e;exact⟨b,hb,by rw[Nh];exact ho,by rw[Nh];exact Q⟩
  ·obtain⟨R,U,V,Y⟩:=h.don k (by omega) L J (by simpa using Z) h4;refine⟨R,U,?_,?_⟩
   ·rw[List.getElem_set_ne (fun h=>e h.symm)];exact kg V M
   ·rw[List.getElem_set_ne (fun h=>e h.symm)];exact Y
structure MbS(w0 w:World)(gm:Nat)(s:IX)(D:dQ)(i0 i1 i2:Value)(r:List XM)(ta:Option Addr)(tc:Nat)(am:Option Addr)(cm:Nat)(bvs:List Value):Prop where
 mb:MbP w0 w gm (mbF s i0 i1 i2 (.string (eH s.gen)) (.slice ta (dI D (eH s.gen)).2.length tc) (.int .i64 (dF s.mails:Int)) (.slice am s.mails.length cm)) (.slice am s.mails.length cm) (List.zipWith il1 s.mails bvs)
 tx:fX w0 ta tc (dI D (eH s.gen)).2
 len:bvs.length=s.mails.length
 rl:r.length=s.mails.length
 bod:∀k (h1:k<bvs.length) (h2:k<r.length),dO w w0.heap.size bvs[k] r[k].body
 apart:bvs.Pairwise fun x y=>x.ownBlock=none∨x.ownBlock≠y.ownBlock
def KP(w0:World)(gm:Nat)(s:IX)(D:dQ)(i0 i1 i2:Value)(e:Ending)(w':World):Prop:=
 (∃r ta tc am cm bvs,eZ s.mails (dI D (eH s.gen))=some r∧e= .returned .nilIface∧MbS w0 w' gm s D i0 i1 i2 r ta tc am cm bvs)∨
 (eZ s.mails (dI D (eH s.gen))=none∧∃t,e= .returned (fA (eH s.gen) t)∧Below w0.heap.size w0 w')
theorem xE(z:Nat)(w0 w:World)(v:Value)(D:dQ)(s:IX)(i0 i1 i2:Value)(I:Option Addr)(E:Nat)(hv:eP D)(hd:km w0 v D)(aA:lG s)(bb:TabIs Tryz.prog w "internal/strconv.uint64pow10" .u64 Lib.pow10Tab)
  (hP:MbP w0 w z (mbF s i0 i1 i2 (.string ⟨#[]⟩) (.slice none 0 0) (.int .i64 0) (.slice I s.mails.length E)) (.slice I s.mails.length E) (s.mails.map il0)):
  Calls Tryz.prog 115 #[.pointer (some ⟨z,0,none⟩),v] w (KP w0 z s D i0 i1 i2):=by
 have HD:=a8 hd;obtain⟨a1,c1,a2,c2,a3,c3,a4,c4,bP,r1,r2,r3,r4⟩:=hd;subst bP;have hA:=nAl w (.cells #[.slice a1 D.nodes.length c1,.slice a2 D.names.length c2,.slice a3 D.kept.length c3,.slice a4 D.pend.length c4,.int .i64 D.quota] 37);have HX:=a8 (dN w #[.slice a1 D.nodes.length c1,.slice a2 D.names.length c2,.slice a3 D.kept.length c3,.slice a4 D.pend.length c4,.int .i64 D.quota] 37);have HP:=a8 (hP.below hA);have bj:=a8 aA;have HV:=a8 hv;have CT:=a8 (Cv s.gen _ aA.gen (Lib.tabIs_alloc bb (.cells #[.slice a1 D.nodes.length c1,.slice a2 D.names.length c2,.slice a3 D.kept.length c3,.slice a4 D.pend.length c4,.int .i64 D.quota] 37)));have bS:=aA.len;clear r1 r2 r3 r4 hP aA hv bb hA;go_enter Tryz.func115,Tryz.ntmps115;go_upto_region 1 with fail;generalize w.alloc (.cells #[.slice a1 D.nodes.length c1,.slice a2 D.names.length c2,.slice a3 D.kept.length c3,.slice a4 D.pend.length c4,.int .i64 D.quota] 37)=w1 at HX HP CT⊢;obtain⟨-,-,g2⟩:=HP.out.st.c3;go_wp2_with fail;refine CT.out.mono ?_;rintro e w2 ⟨rfl,aM⟩;have aI:=a8 (HP.out.below aM);have ah:=a8 (HX.out.below aM HX.out.lt);have CD:=a8 (nc _ D (eH s.gen) w0 w2 HV.out HD.out aI.out.bel);obtain⟨d0,d1,d2,d3,d4⟩:=ah.out.c5;clear aM HP HX CT g2;go_wp2_with fail;refine CD.out.mono ?_;rintro e w3 ⟨R,L,rfl,br,bp⟩;clear d0 d1 d2 d3 d4 CD;have af:=a8 (aI.out.below bp);have ag:=a8 br;have ab:=a8 (show∃th A,dI D (eH s.gen)=(th,A) from⟨_,_,rfl⟩);obtain⟨th,A,aT⟩:=ab.out;simp only[aT] at ag⊢;have ab:=a8 aT;clear bp br aI ah aT;obtain⟨-,-,-,-,-,-,t6,t7,t8⟩:=af.out.st.c9;have fg:=fun j=>af.out.st.fz j;have au:=a8 (show MbP w0 (((w3.setCell ⟨z,6,none⟩ (.string (eH s.gen))).setCell ⟨z,7,none⟩ (.slice R A.length L)).setCell ⟨z,8,none⟩ (.int .i64 0)) z (mbF s i0 i1 i2 (.string (eH s.gen)) (.slice R A.length L) (.int .i64 0) (.slice I s.mails.length E)) (.slice I s.mails.length E) (s.mails.map il0) from((af.out.set 6 (.string (eH s.gen))).set 7 (.slice R A.length L)).set 8 (.int .i64 0));go_upto_region 4 with fail;generalize ((w3.setCell ⟨z,6,none⟩ (.string (eH s.gen))).setCell ⟨z,7,none⟩ (.slice R A.length L)).setCell ⟨z,8,none⟩ (.int .i64 0)=w4 at au⊢;clear t6 t7 t8 fg af;obtain⟨-,-,-,-,-,-,-,-,-,g9⟩:=au.out.st.c10;go_wp2;clear g9;have aK:=a8 (fun j=>Fp bj.out.len bj.out.size j);have bo:=a8 (fun j h=>Ct s.mails j h);go_loopw [9,35] (fun _ i wr=>∃(j:Nat),j≤s.mails.length∧i= .int .i64 (j:Int)∧Hid (MbP w0 wr z (mbF s i0 i1 i2 (.string (eH s.gen)) (.slice R A.length L) (.int .i64 (dF (s.mails.take j):Int)) (.slice I s.mails.length E)) (.slice I s.mails.length E) (s.mails.map il0))) (fun _ i _=>s.mails.length-(intOf i).toNat)
 case atStart=>exact⟨0,MQ _,rfl,au⟩
 case round=>
  obtain⟨j,hj,rfl,HI⟩:=hrel;by_cases N:j<s.mails.length
  ·have bC:(j:Int)<(s.mails.length:Int):=(by omega);obtain⟨g,aP,_,_⟩:=HI.out.row.at0 (by rw[MI];omega);subst aP;have aE:=a8 (bo.out j N);have aY:=a8 (aK.out (j+1));have HC:=a8 (show∀k (hk:k<6),wr.cell? ⟨g,j*6+k,none⟩=(il0 s.mails[j])[k]? from fun k hk=>pS HI.out.row j N k hk);generalize bO:s.mails[j]=m at aE HC;clear bO;have k0:wr.cell? ⟨g,j*6,none⟩=some (.int .u32 (m.uid:Int)):=HC.out 0 (by omega);have k1:wr.cell? ⟨g,j*6+1,none⟩=some (.int .i64 (m.stamp:Int)):=HC.out 1 (by omega);have k2:wr.cell? ⟨g,j*6+2,none⟩=some (.int .u32 (m.flags:Int)):=HC.out 2 (by omega);have k3:wr.cell? ⟨g,j*6+3,none⟩=some (.slice none 0 0):=HC.out 3 (by omega);have k4:wr.cell? ⟨g,j*6+4,none⟩=some (.int .i64 (m.size:Int)):=HC.out 4 (by omega);have k5:wr.cell? ⟨g,j*6+5,none⟩=some (.bool (decide (m.bare=1))):=HC.out 5 (by omega);have aj:=nAl wr (.cells #[.int .u32 (m.uid:Int),.int .i64 (m.stamp:Int),.int .u32 (m.flags:Int),.slice none 0 0,.int .i64 (m.size:Int),.bool (decide (m.bare=1))] 262);have HM:=a8 (dN wr #[.int .u32 (m.uid:Int),.int .i64 (m.stamp:Int),.int .u32 (m.flags:Int),.slice none 0 0,.int .i64 (m.size:Int),.bool (decide (m.bare=1))] 262);have G:=a8 (HI.out.below aj);have bY:z≠wr.heap.size:=(by have:=HI.out.st.lt;omega);clear aj HC;go_upto_region 7 with fail;generalize wr.alloc (.cells #[.int .u32 (m.uid:Int),.int .i64 (m.stamp:Int),.int .u32 (m.flags:Int),.slice none 0 0,.int .i64 (m.size:Int),.bool (decide (m.bare=1))] 262)=X at HM G⊢;clear k0 k1 k2 k3 k4 k5;obtain⟨-,-,-,-,m4⟩:=HM.out.c5;obtain⟨-,-,-,-,-,-,-,-,t8⟩:=G.out.st.c9;have fg:=fun j=>G.out.st.fz j;have bf:=a8 (fun(Y:World) (hY:Below X.heap.size X Y)=>show MbP w0 (Y.setCell ⟨z,8,none⟩ (.int .i64 (dF (s.mails.take (j+1)):Int))) z (mbF s i0 i1 i2 (.string (eH s.gen)) (.slice R A.length L) (.int .i64 (dF (s.mails.take (j+1)):Int)) (.slice (some ⟨g,0,none⟩) s.mails.length E)) (.slice (some ⟨g,0,none⟩) s.mails.length E) (s.mails.map il0) from(G.out.below hY).set 8 (.int .i64 (dF (s.mails.take (j+1)):Int)));have bB:(dF (s.mails.take j):Int)+(m.size:Int)=(dF (s.mails.take (j+1)):Int):=(by have:=aE.out;omega);have bQ:IntKind.i64.wrap (dF (s.mails.take (j+1)):Int)=(dF (s.mails.take (j+1)):Int):=(by have:=aY.out;rw[IntKind.wrap_i64];omega);have an:=a8 (show∃x,x=dF (s.mails.take (j+1)) from⟨_,rfl⟩);obtain⟨bZ,aV⟩:=an.out;rw[←aV] at bf bB bQ;have bH:=a8 aV;clear aV an aE aY;go_region
   all_goals
    go_wp2;go_roundw
    case rel=>exact⟨j+1,by omega,by go_num,a8 (by rw[←bH.out];exact bf.out _ (MJ _ _).drew)⟩
    case measure=>simp[intOf];omega
  ·have ay:j=s.mails.length:=(by omega);have bW:¬(j:Int)<(s.mails.length:Int):=(by omega);have bI:=a8 (show dF (s.mails.take j)=dF s.mails by rw[ay,NE]);have bn:=a8 (aK.out j);have aZ:=a8 (ag.out.below HI.out.bel);obtain⟨-,-,-,-,-,-,-,-,t8⟩:=HI.out.st.c9;rw[bI.out] at t8 HI bn;have aH:=a8 (fun(h:¬(th=true∧dF s.mails≤A.length))=>show eZ s.mails (dI D (eH s.gen))=none by
    unfold eZ;rw[ab.out,if_neg h])
   clear ay N aK bo au;cases th with
   |false=>
    have HN:=a8 (aH.out (by simp));have M:=a8 HI.out.bel;go_wp2;go_ret;exact Or.inr ⟨HN.out,_,rfl,M.out⟩
   |true=>
    by_cases ap:dF s.mails≤A.length
    ·have bD:¬(A.length:Int)<(dF s.mails:Int):=(by omega);have bU:(dF s.mails:Int)≤(A.length:Int):=(by omega);have bE:=a8 (show A.length≤40000 by have h:=pi HV.out (eH s.gen);rw[ab.out] at h;exact h);have bV:(dF s.mails:Int)≤(L:Int):=(by have:=ag.out.room;omega);have an:=a8 (show(A.take (dF s.mails)).length=dF s.mails by rw[MZ];omega);have CS:=a8 (GN (aZ.out.take (dF s.mails)) (by rw[an.out];have:=bE.out;omega));rw[an.out] at CS;have bX:=fun(W:World)=>Ir (W:=W) ag.out ap;have ae:=a8 (show eZ s.mails (dI D (eH s.gen))=match iy (A.take (dF s.mails)) with|some xs=>kD A s.mails xs|none=>none by
      unfold eZ;rw[ab.out,if_pos ⟨rfl,ap⟩];rfl)
     have bl:=a8 (fun xs h=>vO (d:=A.take (dF s.mails)) (l:=xs) h);have be:=a8 (fun xs h=>Iz (d:=A.take (dF s.mails)) (l:=xs) h (fun x hx=>ag.out.byte x (M4 hx)));clear ap aH bn;go_wp2_with fail;refine CS.out.mono ?_;rintro e V ⟨v,rfl,aC,ax⟩;have aG:=a8 (HI.out.below ax);cases hso:iy (A.take (dF s.mails)) with
     |none=>
      rw[hso] at aC ae;obtain rfl:=aC;have ak:=nAl V (.cells #[.bool false,.slice none 0 0] 176);have HS:=a8 (dN V #[.bool false,.slice none 0 0] 176);have M:=a8 (aG.out.below ak).bel;clear ax hso ak CS;go_upto_region 12 with fail;generalize V.alloc (.cells #[.bool false,.slice none 0 0] 176)=W at HS M⊢;have s0:W.cell? ⟨V.heap.size,0,none⟩=some (.bool false):=HS.out.cell 0;go_quiet(fail);go_wp2;go_ret;exact Or.inr ⟨ae.out,_,rfl,below_drewN M.out _⟩
     |some xs=>
      rw[hso] at aC ae;obtain⟨lv,U,rfl,bu,aB⟩:=aC;obtain⟨la,lc,rfl⟩:=aB.slice;rw[MI];have ak:=nAl V (.cells #[.bool true,.slice la xs.length lc] 176);have HS:=a8 (dN V #[.bool true,.slice la xs.length lc] 176);have al:=a8 (aG.out.below ak);rw[MI] at aB;have ar:=a8 (aB.below ak (MH _));have bK:=a8 bu;have bA:=a8 (bl.out xs hso);have bx:=a8 (be.out xs hso);have aL:=a8 (show wr.heap.size≤V.heap.size from ax.size);clear ax ak aB bu bl be CS aG;go_upto_region 12 with fail;generalize V.alloc (.cells #[.bool true,.slice la xs.length lc] 176)=W at HS al ar⊢;obtain⟨s0,s1⟩:=HS.out.c2;obtain⟨-,-,-,-,-,-,-,-,-,g9⟩:=al.out.st.c10;by_cases aD:xs.length=s.mails.length
      ·have bd:((xs.length:Int)==(s.mails.length:Int))=true:=(by simp;omega);have aW:((xs.length:Int) !=(s.mails.length:Int))=false:=(by simp;omega);have bg:=a8 (show∃O,O=wr.heap.size from⟨_,rfl⟩);obtain⟨O,av⟩:=bg.out;rw[←av] at ar aL;have bm:=a8 (show∀g,(Value.slice I s.mails.length E).ownBlock=some g→g<O from fun g hg=>by rw[av];exact(b9.lt HI.out.row g hg).2);have bk:=a8 (show wg w0 W z (mbF s i0 i1 i2 (.string (eH s.gen)) (.slice R A.length L) (.int .i64 (dF s.mails:Int)) (.slice I s.mails.length E)) (.slice I s.mails.length E) O (.slice la xs.length lc) U s.mails xs 0 (List.replicate s.mails.length (.slice none 0 0)) from⟨by rw[←GM];exact al.out,ar.out,by simp,by have:=aL.out;have:=HS.out.lt;omega,fun k hk=>by omega⟩);have bG:=a8 (show w0.heap.size≤O by rw[av];exact HI.out.bel.size);have bR:xs.length≤100:=(by omega);have ai:=a8 aD;clear av bg HI al ar aL aZ t8 aD;go_quiet(fail);go_wp2;have aJ:=a8 (bk.out.below (below_drewN (MJ _ _) nq));have bz:=a8 ag.out;clear bk s0 s1 g9 HS;generalize W.drewN nq=Z at aJ⊢;have bt:U.length=xs.length:=(by have:=aJ.out.os.len;simpa using this);have ac:=a8 bt;clear bt bd aW;go_loopw [11,12,96] (fun _ _ i wr=>∃(j:Nat) (bvs:List Value),j≤xs.length∧i= .int .i64 (j:Int)∧Hid (wg w0 wr z (mbF s i0 i1 i2 (.string (eH s.gen)) (.slice R A.length L) (.int .i64 (dF s.mails:Int)) (.slice I s.mails.length E)) (.slice I s.mails.length E) O (.slice la xs.length lc) U s.mails xs j bvs)) (fun _ _ i _=>xs.length-(intOf i).toNat)
       case atStart=>exact⟨0,_,MQ _,rfl,aJ⟩
       case round=>
        obtain⟨j,bvs,hj,rfl,HI⟩:=hrel;by_cases N:j<xs.length
        ·have bC:(j:Int)<(xs.length:Int):=(by omega);have aQ:j<s.mails.length:=(by have:=ai.out;omega);have az:j<U.length:=(by have:=ac.out;omega);have bT:(j:Int)<(s.mails.length:Int):=(by omega);obtain⟨bL,aP,hc⟩:=Cl HI.out.os (by rw[MI];omega);subst aP;obtain⟨gr,bM,_,_⟩:=HI.out.mb.row.at0 (by rw[List.length_zipWith,HI.out.len];omega);subst bM;obtain⟨k0,k1,k2⟩:=hc j az;obtain⟨x,hx,ad⟩:=HI.out.os.body j (by rw[MI];omega);rw[MM az] at hx;have hx:=(Nv hx).symm;subst hx;rw[MY] at ad;obtain⟨J,bc,aN⟩:=ad.slice;have aU:U[j].1=xs[j].1∧U[j].2.1=xs[j].2.1:=by
          have e:(U.map (fun x:S3=>(x.1,x.2.1)))[j]? =(xs.map (fun x=>(x.1,x.2.1)))[j]? :=(by rw[bK.out]);rw[Nr,Nr,MM az,MM N] at e;simpa using e
         have bJ:=a8 aN;rw[aN] at ad k2;rw[aU.1] at k0;rw[aU.2] at k1;have bq:=bA.out j N;have aO:=bx.out j N;have bh:=a8 (fun(h:eS s.mails[j] xs[j]=none)=>ae.out.trans (pM (MM aQ) (MM N) h));have aX:=a8 (fun(w':World) (bv:Value) (b:List Nat) (X:World) (hX:wg w0 X z (mbF s i0 i1 i2 (.string (eH s.gen)) (.slice R A.length L) (.int .i64 (dF s.mails:Int)) (.slice (some ⟨gr,0,none⟩) s.mails.length E)) (.slice (some ⟨gr,0,none⟩) s.mails.length E) O (.slice (some ⟨bL,0,none⟩) xs.length lc) U s.mails xs j bvs) (ht:TkR gr X.heap.size X w' s.mails.length E s.mails (bvs.set j bv)) (hb:eS s.mails[j] xs[j]=some b) (ho:dO w' O bv b) (hq:bv.ownBlock=(Value.slice J xs[j].2.2.length bc).ownBlock)=>hX.step ht (bm.out gr rfl) aQ N az hb ho (by rw[bJ.out];exact hq));obtain⟨st,Q,l,bw⟩:∃st Q l,xs[j]=(st,Q,l):=⟨_,_,_,rfl⟩
         rw[bw] at ad k0 k1 k2 bq aO bh aX;simp only at ad k0 k1 k2 bq aO;have aj:=nAl wr (.cells #[.int .i64 (st:Int),.int .i64 (Q:Int),.slice J l.length bc] 179);have HM:=a8 (dN wr #[.int .i64 (st:Int),.int .i64 (Q:Int),.slice J l.length bc] 179);have G:=a8 (HI.out.below aj);have bi:=a8 (ad.below aj (MH _));clear aj hc ad bw aN aU;go_upto_region 17 with fail;generalize wr.alloc (.cells #[.int .i64 (st:Int),.int .i64 (Q:Int),.slice J l.length bc] 179)=X at HM G bi⊢;clear k0 k1 k2;have aa:TkS z wr.heap.size (.slice (some ⟨gr,0,none⟩) s.mails.length E) (.int .i64 (st:Int)) (.int .i64 (Q:Int)) (.slice J l.length bc) X.drew:=⟨G.out.mb.st.cell 9,HM.out.cell 0,HM.out.cell 1,HM.out.cell 2⟩
         have CT:=a8 (qII gr X.drew.heap.size O X.drew X.drew s.mails.length E s.mails bvs j aQ G.out.len st Q J bc l ⟨(b9.below G.out.mb.row (MJ _ _).drew (MH _)).mono (MQ _),dV.refl _ _ _,MH _,(b9.lt G.out.mb.row gr rfl).2⟩ (bi.out.below (MJ _ _).drew (MH _)) (bm.out gr rfl) aO (by omega) (by omega));refine gD (by kernel_rfl) (TkS z wr.heap.size (.slice (some ⟨gr,0,none⟩) s.mails.length E) (.int .i64 (st:Int)) (.int .i64 (Q:Int)) (.slice J l.length bc)) 7 ?_;refine d7 0 (.pointer (some ⟨z,0,none⟩)) rfl (fun _ _ _ h=>h) (Or.inl ⟨by rfl,?_⟩) aa ?_
         ·rintro wz ⟨z0,z1,z2,z3⟩;go_simp
         simp only[dJ,dK,dL,dM];refine d7 1 (.pointer (some ⟨z,0,none⟩)) rfl (fun _ _ _ h=>h) (Or.inl ⟨by rfl,?_⟩) aa ?_
         ·rintro wz ⟨z0,z1,z2,z3⟩;go_simp
         simp only[dJ,dK,dL,dM];refine d7 2 (.pointer (some ⟨z,9,none⟩)) rfl (fun _ _ _ h=>h) (Or.inl ⟨by rfl,?_⟩) aa ?_
         ·rintro wz ⟨z0,z1,z2,z3⟩;go_simp
         simp only[dJ,dK,dL,dM];refine d7 3 (.slice (some ⟨gr,0,none⟩) s.mails.length E) rfl (fun _ _ _ h=>h) (Or.inl ⟨by rfl,?_⟩) aa ?_
         ·rintro wz ⟨z0,z1,z2,z3⟩;go_simp
         simp only[dJ,dK,dL,dM];refine d7 4 (.int .i64 (j:Int)) rfl (fun _ _ _ h=>h) (Or.inl ⟨by rfl,?_⟩) aa ?_
         ·rintro wz ⟨z0,z1,z2,z3⟩;go_simp
         simp only[dJ,dK,dL,dM];refine d7 5 (.pointer (some ⟨gr,j*6,none⟩)) rfl (fun _ _ _ h=>h) (Or.inl ⟨by rfl,?_⟩) aa ?_
         ·rintro wz ⟨z0,z1,z2,z3⟩;go_simp
         simp only[dJ,dK,dL,dM];refine d7 6 (.agg #[.int .i64 (st:Int),.int .i64 (Q:Int),.slice J l.length bc]) rfl (fun _ _ _ h=>h) (Or.inl ⟨by rfl,?_⟩) aa ?_
         ·rintro wz ⟨z0,z1,z2,z3⟩;go_simp
         simp only[dJ,dK,dL,dM];refine ee 7 rfl (by kernel_rfl) (fun K hK=> ?_);refine gV 153 Aq (.tmp 106) (.tmp 107) #[262,179] (by rfl) (by rfl) (.pointer (some ⟨gr,j*6,none⟩)) (.agg #[.int .i64 (st:Int),.int .i64 (Q:Int),.slice J l.length bc]) (by simp[go_sem]) (by simp[go_sem]) ?_;refine CT.out.mono ?_;rintro e w7 ⟨ok,kk,kc,rfl,aw,aS,aF⟩;refine⟨_,rfl,hK _ _ (fun h=>by cases h) ?_⟩;clear hK K aa CT
         try simp only[dJ,dK,dL,dM]
         cases ok with
         |true=>
          obtain⟨b,hb,ho⟩:=aF rfl;have bF:=a8 (aX.out w7 (.slice J kk kc) b X.drew (G.out.below (MJ _ _).drew) aw hb ho (by cases J<;>rfl));clear aw aS aF hb ho;refine ee 8 rfl (by kernel_rfl) (fun K hK=> ?_);go_simp;refine hK _ _ (fun h=>by cases h) (fI (by kernel_rfl) ?_ _);clear hK K;go_wp2;go_roundw
          case rel=>exact⟨j+1,bvs.set j (.slice J kk kc),by omega,by go_num,bF⟩
          case measure=>simp[intOf];omega
         |false=>
          have HN:=a8 (bh.out (aS rfl));have M:=a8 (show Below w0.heap.size w0 w7 from ip (show Below w0.heap.size w0 X.drew from G.out.mb.bel.drew) aw.bel (b9.lt G.out.mb.row gr rfl).1 G.out.mb.bel.size);clear aw aS aF;refine ee 8 rfl (by kernel_rfl) (fun K hK=> ?_);go_simp;refine hK _ _ (fun h=>by cases h) (fI (by kernel_rfl) ?_ _);clear hK K;go_wp2;go_ret;exact Or.inr ⟨HN.out,_,rfl,M.out⟩
        ·have ay:j=xs.length:=(by omega);have aq:=a8 (show∀k (h1:k<s.mails.length) (h2:k<xs.length) (h3:k<bvs.length) (h4:k<U.length),∃b,eS s.mails[k] xs[k]=some b∧dO wr O bvs[k] b∧bvs[k].ownBlock=U[k].2.2.ownBlock from fun k h1 h2 h3 h4=>HI.out.don k (by omega) h1 h2 h3 h4);clear N;subst ay;go_wp2;go_ret;refine Or.inl ⟨List.zipWith (fun m x=>CY A m x ((eS m x).getD [])) s.mails xs,R,L,I,E,bvs,?_,rfl,?_⟩
         ·rw[ae.out];refine rR ai.out.symm (by rw[List.length_zipWith];have:=ai.out;omega) (fun k h1 h2 h3=> ?_);obtain⟨b,e1,_,_⟩:=aq.out k h1 h2 (by rw[HI.out.len];exact h1) (by have:=ac.out;omega);exact⟨b,e1,by rw[List.getElem_zipWith,e1];rfl⟩
         ·refine⟨by rw[ab.out];exact HI.out.mb,by rw[ab.out];exact bz.out,HI.out.len,by rw[List.length_zipWith];have:=ai.out;omega,fun k h1 h2=> ?_,?_⟩
          ·have ao:k<s.mails.length:=(by rw[←HI.out.len];exact h1);have aR:k<xs.length:=(by rw[ai.out];exact ao);obtain⟨b,e1,e2,_⟩:=aq.out k ao aR h1 (by have:=ac.out;omega);rw[List.getElem_zipWith,e1];exact e2.mono bG.out
          ·refine M8.2 (fun i k hi hk bN=> ?_);have ao:k<s.mails.length:=(by rw[←HI.out.len];exact hk);have aR:k<xs.length:=(by rw[ai.out];exact ao);obtain⟨_,_,_,e1⟩:=aq.out i (by omega) (by omega) hi (by have:=ac.out;omega);obtain⟨_,_,_,e2⟩:=aq.out k ao aR hk (by have:=ac.out;omega);rw[e1,e2];exact M8.1 HI.out.os.apart i k (by have:=ac.out;omega) (by have:=ac.out;omega) bN
      ·have bd:((xs.length:Int)==(s.mails.length:Int))=false:=(by simp;omega);have aW:((xs.length:Int) !=(s.mails.length:Int))=true:=(by simp;omega);have HN:=a8 (ae.out.trans (rS (fun e=>aD e.symm)));have M:=a8 al.out.bel;clear aD;go_quiet(fail);go_wp2;go_ret;exact Or.inr ⟨HN.out,_,rfl,below_drewN M.out _⟩
    ·have bD:(A.length:Int)<(dF s.mails:Int):=(by omega);have HN:=a8 (aH.out (fun h=>ap h.2));have M:=a8 HI.out.bel;clear ap;go_wp2;go_ret;exact Or.inr ⟨HN.out,_,rfl,M.out⟩
end
section
open Go.Sort Go.Lib
structure nD(w:World):Prop where
 env:Env w
 tab:TabIs Tryz.prog w "internal/strconv.uint64pow10" .u64 Lib.pow10Tab
theorem nD.below{w w':World}(h:nD w)(z:Below w.heap.size w w'):nD w':=⟨h.env.below z,qR h.tab z⟩
theorem jf{z w w':World}{E B:Nat}(h:gM (·=E) B w w')(A:Below z.heap.size z w)(J:z.heap.size≤E)(I:z.heap.size≤B):Below z.heap.size z w':=
 ⟨h.os.trans A.os,h.tape.trans A.tape,h.output.trans A.output,MN A.size h.size,fun k G=>(h.block k (by omega) (by omega)).trans (A.block k G)⟩
theorem Gp(a b c:Value)(w:World):(callFunc 114 #[a,b,c]).run Tryz.prog w= .ok (.enter 114 #[a,b,c]) w:=by
 go_simp
def Ms(gm lo:Nat)(X:World)(s:IX):Prop:=∃mv,MbI X gm s mv∧mr X lo mv s.mails
def He(gm:Nat)(wb w:World)(hE:nD wb)(hb:Below wb.heap.size wb w)(hlo:wb.heap.size≤gm)(hst:MbI w gm ⟨0,0,0,[]⟩ (.slice none 0 0)):wi IX 114 gm (·=gm) dU (fun _=>lG) w ⟨0,0,0,[]⟩ (Ms gm w.heap.size) (fun X=>∃s mv,MbI X gm s mv) where
 Inv:=fun B w0 wr s=>gm<B∧B≤wr.heap.size∧dV gm B w0 wr∧∃mv,MbI wr gm s mv∧mr wr B mv s.mails
 enter:=Gp
 start:=fun w0 h=>⟨MW hst.lt h.size,MH _,dV.refl _ _ _,_,hst.below h hst.lt,b9.nil _ _ _ _⟩
 ok0:=GU
 okS:=fun h1 _ h2=>om h1 h2
 low:=fun k hk=>by rw[hk];exact hst.lt
 env:=fun w' h=>(hE.below (jf h hb hlo hb.size)).env
 below:=fun{B w0 wr wr' s} h hb'=>by
  obtain⟨h1,h2,h3,mv,h4,h5⟩:=h;exact⟨h1,MN h2 hb'.size,h3.trans (dV.of_below hb' h2),mv,h4.below hb' h4.lt,b9.below h5 hb' (MH _)⟩
 frame:=fun h=>gM.ofX h.2.2.1
 sz:=fun h=>h.2.1
 badI:=fun{B w0 wr s} h=>by
  obtain⟨_,_,_,mv,h4,_⟩:=h;exact⟨s,mv,h4⟩
 badS:=fun{X g j} u h hg=>by
  obtain⟨s,mv,h4⟩:=h;exact⟨s,mv,h4.other (by have:=hst.lt;omega) u⟩
 fin:=fun{B w0 wr X s} h hb' hB ho=>by
  obtain⟨h1,h2,h3,mv,h4,h5⟩:=h;have h0:w.heap.size≤B:=(by rw[hB];exact hb'.size);exact⟨mv,ey h4 (ho.block gm h4.lt (.inl hst.lt)),(b9.keep h5 (fun g hg=>ho.block g (b9.lt h5 g hg).2 (.inr (b9.lt h5 g hg).1))).mono h0⟩
 call:=fun k B gw w0 wr s ws h hok htw hgw hws _ _ hE'=>by
  obtain⟨h1,h2,h3,mv,h4,h5⟩:=h;refine(tj gm gw B k w0 wr s mv ws ⟨h4,h5,htw,h3,h2,h1,hgw⟩ (fun w' hx=>hE' w' (gM.ofX hx)) hws hok).mono (fun e w' hr=> ?_);rcases hr with⟨s',mv',r,rfl,hR,ho⟩|⟨hf,ho,hx⟩
  ·exact Or.inl ⟨s',r,rfl,⟨h1,hR.sz,hR.fr,mv',hR.st,hR.row⟩,hR.tw,ho⟩
  ·exact Or.inr ⟨hf,ho,gM.ofX hx.1,hx.2⟩
def lT(D:dQ)(idx:List Nat):Option (IX×List XM):=match nI (dP idx).1 with
 |none=>none
 |some s=>(eZ s.mails (dI D (eH s.gen))).map fun r=>(s,r)
def KO(D:dQ)(ia:Option Addr)(ic:Nat)(idx:List Nat)(w:World)(e:Ending)(w':World):Prop:=
 (∃s r gm ta tc am cm bvs,lT D idx=some (s,r)∧e= .returned (.tuple #[.pointer (some ⟨gm,0,none⟩),.nilIface])∧MbS w w' gm s D (.string ixN) (.slice ia idx.length ic) (.int .i64 ((dP idx).2:Int)) r ta tc am cm bvs∧lG s)∨
 (lT D idx=none∧∃nm t,e= .returned (.tuple #[.pointer none,fA nm t])∧Below w.heap.size w w')
theorem pg(v:Value)(D:dQ)(E:Option Addr)(G:Nat)(z:List Nat)(w:World)(hv:eP D)(hd:km w v D)(hi:fX w E G z)(hE:nD w):
  Calls Tryz.prog 76 #[v,.slice E z.length G] w (KO D E G z w):=by
 have an:∀(fn:Fn) (first cap:Array Value) (w:World),(Instr.makeFunc fn first cap).run Tryz.prog w= .ok (.func fn first cap) w:=fun _ _ _ _=>rfl;have HD:=a8 hd;obtain⟨a1,c1,a2,c2,a3,c3,a4,c4,al,r1,r2,r3,r4⟩:=hd;subst al;obtain⟨L1,L2,hA,hz⟩:=nE w #[.slice a1 D.nodes.length c1,.slice a2 D.names.length c2,.slice a3 D.kept.length c3,.slice a4 D.pend.length c4,.int .i64 D.quota] #[.int .u32 0,.int .u32 0,.int .u64 0,.string ⟨#[]⟩,.slice none 0 0,.int .i64 0,.string ⟨#[]⟩,.slice none 0 0,.int .i64 0,.slice none 0 0] 37 216;have HV:=a8 hv;have HE:=a8 hE;have J:=a8 hA;have HI:=a8 (hi.below hA);have Q:=a8 L1;have Z:=a8 L2;clear r1 r2 r3 r4 hv hE hA hi L1 L2 hz;go_enter Tryz.func76,Tryz.ntmps76;go_wp2_with fail;generalize (w.alloc (.cells #[.slice a1 D.nodes.length c1,.slice a2 D.names.length c2,.slice a3 D.kept.length c3,.slice a4 D.pend.length c4,.int .i64 D.quota] 37)).alloc (.cells #[.int .u32 0,.int .u32 0,.int .u64 0,.string ⟨#[]⟩,.slice none 0 0,.int .i64 0,.string ⟨#[]⟩,.slice none 0 0,.int .i64 0,.slice none 0 0] 216)=w1 at J HI Q Z⊢;have CL:=a8 (mL (He (w.heap.size+1) w w1 HE.out J.out (by omega) Z.out) ixN E G z HI.out);refine CL.out.mono ?_;rintro e I (⟨s,V,rfl,⟨mv,A,Y⟩,⟨_,_,af⟩,L⟩|⟨V,t,rfl,L,s9,ao,A⟩)
 ·have aa:=a8 (jf L J.out (by omega) J.out.size);have ad:=a8 (ey Q.out (L.block w.heap.size Q.out.lt (by omega)));have HO:=a8 (show nI (dP z).1=some s by rw[←Ht];exact V);have ac:=a8 af;obtain⟨R,nm,U,aj⟩:=eA Y;subst aj;have ak:nm=s.mails.length:=by
   obtain⟨a',c',e'⟩:=b9.slice Y;rw[MI] at e';simp only[MR] at e';exact e'.2.1
  subst ak;obtain⟨-,-,-,i3,i4,i5⟩:=A.c6;have fz:=fun j=>A.fz j;have HP:=a8 (show MbP w I (w.heap.size+1) (mbF s (.string ⟨#[]⟩) (.slice none 0 0) (.int .i64 0) (.string ⟨#[]⟩) (.slice none 0 0) (.int .i64 0) (.slice R s.mails.length U)) (.slice R s.mails.length U) (s.mails.map il0) from⟨A,Y.mono J.out.size,aa.out,by omega⟩);have ab:=a8 (show MbP w (((I.setCell ⟨w.heap.size+1,3,none⟩ (.string ixN)).setCell ⟨w.heap.size+1,4,none⟩ (.slice E z.length G)).setCell ⟨w.heap.size+1,5,none⟩ (.int .i64 ((dP z).2:Int))) (w.heap.size+1) (mbF s (.string ixN) (.slice E z.length G) (.int .i64 ((dP z).2:Int)) (.string ⟨#[]⟩) (.slice none 0 0) (.int .i64 0) (.slice R s.mails.length U)) (.slice R s.mails.length U) (s.mails.map il0) from((HP.out.set 3 (.string ixN)).set 4 (.slice E z.length G)).set 5 (.int .i64 ((dP z).2:Int)));have K:=a8 (show Blk (((I.setCell ⟨w.heap.size+1,3,none⟩ (.string ixN)).setCell ⟨w.heap.size+1,4,none⟩ (.slice E z.length G)).setCell ⟨w.heap.size+1,5,none⟩ (.int .i64 ((dP z).2:Int))) w.heap.size _ 37 from((ad.out.other (by omega) _).other (by omega) _).other (by omega) _);clear V A Y af L CL Q Z HI HP ad;go_upto_region 4 with fail;generalize ((I.setCell ⟨w.heap.size+1,3,none⟩ (.string ixN)).setCell ⟨w.heap.size+1,4,none⟩ (.slice E z.length G)).setCell ⟨w.heap.size+1,5,none⟩ (.int .i64 ((dP z).2:Int))=M at ab K⊢;clear i3 i4 i5 fz;have CR:=a8 (xE (w.heap.size+1) w M _ D s (.string ixN) (.slice E z.length G) (.int .i64 ((dP z).2:Int)) R U HV.out HD.out ac.out (HE.out.below ab.out.bel).tab ab.out);obtain⟨d0,d1,d2,d3,d4⟩:=K.out.c5;go_wp2_with fail;refine CR.out.mono ?_;rintro e w4 (⟨r,ta,tc,ah,ai,bvs,O,rfl,hS⟩|⟨O,t,rfl,ae⟩)
  ·have N:=a8 (show lT D z=some (s,r) by unfold lT;rw[HO.out];simp only;rw[O];rfl);have HS:=a8 hS;clear O hS CR d0 d1 d2 d3 d4;go_wp2;go_ret2;exact Or.inl ⟨s,r,_,ta,tc,ah,ai,bvs,N.out,rfl,HS.out,ac.out⟩
  ·have N:=a8 (show lT D z=none by unfold lT;rw[HO.out];simp only;rw[O];rfl);have ag:=a8 ae;clear O ae CR d0 d1 d2 d3 d4;unfold fA;go_wp2;go_ret2;exact Or.inr ⟨N.out,_,_,rfl,ag.out⟩
 ·have N:=a8 (show lT D z=none by unfold lT;rw[←Ht,V]);have aa:=a8 (((((jf L J.out (by omega) J.out.size).setCell (p:=⟨w.heap.size+1,3,none⟩) (No _) (.string ⟨#[]⟩)).setCell (p:=⟨w.heap.size+1,4,none⟩) (No _) (.slice none 0 0)).setCell (p:=⟨w.heap.size+1,5,none⟩) (No _) (.int .i64 0)));obtain⟨-,-,-,i3,i4,i5⟩:=A.c6;have fz:=fun j=>A.fz j;clear V A L CL Q Z HI;unfold fA;go_wp2;go_ret2;exact Or.inr ⟨N.out,_,_,rfl,aa.out⟩
end
section
open Go.Sort Go.Lib
theorem Tryz.infoCdL:(Tryz.prog.info? 219).map (fun i=>(i.zero,i.size,i.bytes))=some (some (.agg #[.string ⟨#[]⟩,.slice none 0 0,.int .i64 0,.bool false,.int .u32 0,.int .i64 0,.int .u32 0]),7,72):=by kernel_rfl
abbrev lm(w:World)(base:Nat)(v:Value)(cs:List Cd):Prop:=b9 w base 219 7 v (cs.map d6)
theorem qf{L:Array Oper}{K:List Oper}{o:Oper}{E:Act}{Q:Exit→Act→World→Prop}(w:World)(U:o.guard=none)(s x:Operand)
  (ho:o.op= .call {callee:= .builtin .append,args:= #[s,x],argTypes:= #[204,204]})
  (A:Nat) (v:Value) (cs:List Cd) (c:Cd) (I M:Nat) (hs:E.eval s=v) (hx:E.eval x= .slice (some ⟨I,0,none⟩) 1 M) (J:lm w A v cs)
  (hc:∀j u,(d6 c)[j]? =some u→w.cell? ⟨I,j,none⟩=some u) (aa:cs.length≤1048576) (N:A≤w.heap.size)
  (h:∀G w',lm w' A G (cs++[c])→w.grownBy w' v.ownBlock→wpList Tryz.prog L Q K (E.put o.dst G) w'):wpList Tryz.prog L Q (o::K) E w:=by
 obtain⟨i0,hi,V,Y,Z⟩:=info_parts Tryz.infoCdL;have O:w.ownsRow A 219 7 v cs.length (cs.map d6).flatten:=(by have:=J.2;rw[MI] at this;exact this);refine wpList_append_own w U s x 204 ho A 219 i0 (.agg #[.string ⟨#[]⟩,.slice none 0 0,.int .i64 0,.bool false,.int .u32 0,.int .i64 0,.int .u32 0]) 7 72 Tryz.underlying204 hi V Y Z rfl (by decide) v cs.length (cs.map d6).flatten hs O ⟨I,0,none⟩ 1 M (d6 c) hx (by simp[d6]) ?_ ?_ (by unfold maxLen;omega) (by omega) N ?_
 ·intro j u hj;rw[ej,Ng];exact hc j u hj
 ·exact mx c
 ·intro G w' R hg _;refine h G w' ⟨?_,?_⟩ hg
  ·intro y z;rw[MS,Nb] at z;rcases z with z|z
   ·exact J.1 y z
   ·simp only[M0,Ns,M9] at z;rw[z];rfl
  ·rw[MI,MT,MS,NG];simpa using R
theorem Gm(c:Cd):(d6 c).length=7:=rfl
theorem rX(d:Array Cd):(flatK d6 7 d).toList=(d.toList.map d6).flatten:=by
 have z:∀x∈d.toList.map d6,x.length=7:=fun x L=>by
  obtain⟨c,_,rfl⟩:=Na.1 L;rfl
 apply List.ext_getElem?;intro t;by_cases A:t<d.size*7
 ·have K:t=t/7*7+t%7:=(by omega);have E:t/7<d.size:=(by omega);have G:t%7<7:=Nat.mod_lt _ (by omega);have I:=get_flatK d6 7 d t A;rw[getElem!_pos _ t (by rw[size_flatK];exact A),getElem!_pos d (t/7) E,getElem!_pos _ (t%7) (by rw[Gm];exact G)] at I;rw[Array.getElem?_toList,Array.getElem?_eq_getElem (by rw[size_flatK];exact A),I]
  conv=>rhs;rw[K]
  have J:t/7<(d.toList.map d6).length:=(by simpa using E);rw[Dh z (t/7) (t%7) J (by rw[z _ (MO J)];exact G)];simp
 ·rw[Nf (by rw[Array.length_toList,size_flatK];omega),Nf (by rw[kv z];simp;omega)]
theorem Bw{w:World}{G z cap:Nat}{cs:List Cd}(h:lm w G (.slice (some ⟨z,0,none⟩) cs.length cap) cs):HoldsK d6 7 w z 0 cs.toArray:=by
 intro j A;have J:j<(flatK d6 7 cs.toArray).toList.length:=(by rw[Array.length_toList];exact A);refine⟨?_,h.frozen _⟩;rw[getElem!_pos _ j A];have I:=rX cs.toArray;have e:(cs.map d6).flatten[j]? =some (flatK d6 7 cs.toArray)[j]:=by
  have:(flatK d6 7 cs.toArray).toList[j]? =some (flatK d6 7 cs.toArray)[j]:=(by rw[Array.getElem?_toList,Array.getElem?_eq_getElem A]);rw[I] at this;exact this
 have E:=World.ownsRow.cells h.2 (g:=z) rfl j _ e;rw[ej] at E;exact E
theorem Kg{w:World}{I A cap m:Nat}{cs:List Cd}{z:Array Cd}{os:Array Obj}(h:lm w I (.slice (some ⟨A,0,none⟩) cs.length cap) cs)(hs:z.size=cs.length):lm (srW 7 w A m z os) I (.slice (some ⟨A,0,none⟩) z.toList.length cap) z.toList:=by
 refine⟨fun x G=>by obtain⟨c,_,rfl⟩:=Na.1 G;rfl,?_,?_⟩
 ·rw[kv (k:=7) (fun x G=>by obtain⟨c,_,rfl⟩:=Na.1 G;rfl)]
 ·rcases h.2.2 with⟨V,_⟩|⟨g,Y,J,M,N,L,Q,R,K,Z⟩
  ·cases V
  ·simp only[MR,MK,Np] at M;obtain⟨⟨rfl,_⟩,_,rfl⟩:=M;rw[MI] at Q;refine .inr ⟨A,cap,putCells id 0 (flatK d6 7 z) J,by simp,N,?_,by simp;omega,R,by simp[putCells,K],?_⟩
   ·show((w.heap.modify A (onCells (putCells id 0 (flatK d6 7 z))))++os)[A]? =_;have O:=lt_of_block L;rw[Array.getElem?_append_left (by simpa using O),Array.getElem?_modify,if_pos rfl,L];rfl
   ·rw[←rX];apply List.ext_getElem?;intro t;by_cases E:t<z.size*7
    ·have U:t<J.size:=(by rw[K];omega);rw[List.getElem?_take,if_pos (by simpa using E)];simp only[Array.getElem?_toList];rw[Array.getElem?_eq_getElem (by simp[putCells,U]),Array.getElem?_eq_getElem (by rw[size_flatK];exact E)];simp only[putCells,Array.getElem_mapIdx,id];rw[if_pos (by rw[size_flatK];omega),Nat.sub_zero,getElem!_pos _ t (by rw[size_flatK];exact E)]
    ·rw[List.getElem?_take,if_neg (by simpa using E),Nf (by rw[Array.length_toList,size_flatK];omega)]
theorem Fi(w:World)(z m:Nat)(A:Array Cd)(os:Array Obj)(g:Nat)(G:g<w.heap.size)(E:g≠z):(srW 7 w z m A os).heap[g]? =w.heap[g]? :=by
 show((w.heap.modify z (onCells (putCells id 0 (flatK d6 7 A))))++os)[g]? =_;rw[Array.getElem?_append_left (by simpa using G),Array.getElem?_modify,if_neg (fun e=>E e.symm)]
theorem Fh{w0 w:World}{B z m:Nat}{A:Array Cd}{os:Array Obj}(h:Below B w0 w)(G:B≤w.heap.size)(I:B≤z):Below B w0 (srW 7 w z m A os):=
 ⟨h.os,h.tape,h.output,MN h.size (kA w z m A os),fun k E=>(Fi w z m A os k (by omega) (by omega)).trans (h.block k E)⟩
theorem BH{l:List Cd}(h:e9 Cd.uid l 0 l.length):LeG Cd.uid l:=by
 unfold LeG;refine M8.2 (fun i j A z E=> ?_);have:=h i j (MQ _) (by omega) z;rw[GX Cd.uid A,GX Cd.uid z] at this;exact this
theorem Fa(G:Nat)(a:Option Addr)(cap:Nat)(cs:List Cd)(w0 w:World)(B:Nat)(J:Below B w0 w)(N:B≤w.heap.size)(ab:B≤G)(h:lm w G (.slice a cs.length cap) cs)(V:cs.length≤1000000):
  Calls Tryz.prog 144 #[.slice a cs.length cap,.func (.func 145) #[] #[]] w fun e w'=>e= .returned (.tuple #[])∧∃ys:List Cd,ys.length=cs.length∧ys.Perm cs∧LeG Cd.uid ys∧lm w' G (.slice a cs.length cap) ys∧Below B w0 w':=by
 rcases h.2.2 with⟨A,U⟩|⟨g,Z,aa,A,ac,R,_⟩
 ·simp only[MR] at A;obtain⟨rfl,_,rfl⟩:=A;have M:cs=[]:=(by simpa using U);subst M;exact(Iv w).mono (fun e w' z=>⟨z.1,[],rfl,.refl _,List.Pairwise.nil,by rw[z.2];exact h,by rw[z.2];exact J⟩)
 ·simp only[MR] at A;obtain⟨rfl,_,rfl⟩:=A;have O:=Iu g cap cs.toArray w (Bw h) (lt_of_block R) (by simpa using V);refine O.mono (fun e w' z=> ?_);obtain⟨Q,n,I,os,⟨Y,K,L⟩,rfl⟩:=z;have E:I.size=cs.length:=(by simpa using Y);refine⟨Q,I.toList,by simpa using E,by simpa using K.perm,BH (by simpa[E] using L),?_,Fh J N (by omega)⟩;have:=Kg (m:=n) (os:=os) h E;rw[show I.toList.length=cs.length by simpa using E] at this;exact this
theorem wo{B A e k:Nat}{w0 X w':World}{v:Value}{E:List (List Value)}(h:Below B w0 X)(z:X.grownBy w' v.ownBlock)(I:b9 X A e k v E)(K:B≤A)(J:B≤X.heap.size):Below B w0 w':=
 ⟨z.os.trans h.os,z.tape.trans h.tape,z.output.trans h.output,MN h.size z.size,fun i G=>(z.block i (by omega) (fun e=>by have:=(b9.lt I i e.symm).1;omega)).trans (h.block i G)⟩
def cdK(c:Cd):ByteArray×(Nat×Nat×Nat):=(c.name,c.uid,c.stamp,c.flags)
noncomputable def lq(nm:ByteArray):Option (ByteArray×(Nat×Nat×Nat)):=(fo nm.data.toList).map fun k=>(nm,k)
structure Fz(w0:World)(D:dQ)(c:Cd):Prop where
 tx:fX w0 c.ad c.dc (dI D c.name).2
 dl:c.dl=(dI D c.name).2.length
 card:fo c.name.data.toList=some (c.uid,c.stamp,c.flags)
def iZ(w0:World)(D:dQ)(ns:List ByteArray)(cs:List Cd):Prop:=cs.map cdK=ns.filterMap lq∧∀c∈cs,Fz w0 D c
def KG(w0:World)(D:dQ)(w:World)(e:Ending)(w':World):Prop:=∃a cap cs all,e= .returned (.slice a cs.length cap)∧lm w' w.heap.size (.slice a cs.length cap) cs∧cs.Perm all∧LeG Cd.uid cs∧iZ w0 D (D.names.map (·.1)) all∧Below w.heap.size w w'
theorem qo(v:Value)(D:dQ)(w0 w:World)(hv:eP D)(hd:km w0 v D)(hb:Below w0.heap.size w0 w)(hE:nD w0):
  Calls Tryz.prog 113 #[v] w (KG w0 D w):=by
 obtain⟨a1,c1,a2,c2,a3,c3,a4,c4,rfl,r1,r2,r3,r4⟩:=hd;have aw:eL (D.nodes.length:Int) D.names=true:=hv.2.2.2.2.1;obtain⟨aE,bf,O,aM⟩:=gR aw;have bj:D.names.length≤300:=O;have bk:D.nodes.length≤600:=(by have h:=hv.2.2.2.1;unfold fT at h;exact(of_decide_eq_true h).1);have ba:=a8 (nr aw);have hA:=nAl w (.cells #[.slice a1 D.nodes.length c1,.slice a2 D.names.length c2,.slice a3 D.kept.length c3,.slice a4 D.pend.length c4,.int .i64 D.quota] 37);have HX:=a8 (dN w #[.slice a1 D.nodes.length c1,.slice a2 D.names.length c2,.slice a3 D.kept.length c3,.slice a4 D.pend.length c4,.int .i64 D.quota] 37);have K:=a8 hA;have L:=a8 hb;have HE:=a8 hE;have aY:=a8 r1;have aZ:=a8 r2;have aX:=a8 (fun(nm:ByteArray) (n:Int)=>lU (n:=n) (s:=nm) aE.good);have aW:=a8 aM;clear r1 r2 r3 r4 aE bf aM aw hv O hA hb hE;go_enter Tryz.func113,Tryz.ntmps113;go_upto_region 2 with fail;generalize w.alloc (.cells #[.slice a1 D.nodes.length c1,.slice a2 D.names.length c2,.slice a3 D.kept.length c3,.slice a4 D.pend.length c4,.int .i64 D.quota] 37)=W at K HX⊢;obtain⟨-,t1⟩:=HX.out.c2;go_wp2;clear t1;go_loopw [3,5,6,7,11] (fun cv _ _ _ i wr=>∃(j:Nat) (G:Option Addr) (I:Nat) (cs:List Cd),j≤D.names.length∧i= .int .i64 (j:Int)∧cv= .slice G cs.length I∧cs.length≤j∧Hid (lm wr W.heap.size (.slice G cs.length I) cs)∧Hid (iZ w0 D ((D.names.take j).map (·.1)) cs)∧Hid (Below W.heap.size W wr)) (fun _ _ _ _ i _=>D.names.length-(intOf i).toNat)
 case atStart=>exact⟨0,none,0,[],MQ _,rfl,rfl,MH _,a8 (b9.nil _ _ _ _),a8 ⟨by simp,(fun c hc=>by cases hc)⟩,a8 (MJ _ _)⟩
 case round=>
  obtain⟨j,G,I,cs,hj,rfl,rfl,bi,HC,R,ab⟩:=hrel;by_cases Q:j<D.names.length
  ·have bh:(j:Int)<(D.names.length:Int):=(by omega);have aA:=a8 (K.out.trans (ab.out.mono K.out.size));have aR:=a8 (L.out.trans (aA.out.mono L.out.size));obtain⟨b2,o2,e2,aI⟩:=(aZ.out.below aR.out) (by omega)
   subst e2;obtain⟨k0,k1⟩:=aI j Q;have ak:(D.names[j].1,D.names[j].2)∈D.names:=MO Q;obtain⟨aK,aL⟩:=aW.out _ ak;obtain⟨z,ah⟩:=Int.eq_ofNat_of_zero_le aK;simp only at ah aL;have aJ:z<D.nodes.length:=(by omega);have ae:=a8 (ow ((aX.out _ _).2 ak) ah aJ);obtain⟨b1,o1,e1,aH⟩:=aY.out (by omega);subst e1;obtain⟨V,Z,ax,_,aQ⟩:=aH z aJ;have ao:=a8 (fun(X:World) (hX:Below w0.heap.size w0 X)=>(hX.cell (p:=⟨b1,o1+z*2,none⟩) (dH ax)).trans ax);have ap:=a8 aQ;have be:=ba.out j Q;have aq:=a8 (show(D.names.take (j+1)).map (·.1)=(D.names.take j).map (·.1)++[D.names[j].1] by rw[gF D.names j Q,MS];rfl);rw[ah] at k1;generalize D.names[j].1=nm at k0 ae be aq;generalize D.nodes[z].1=E at ae ao ap;clear ak aK aL ah aH aI ax aQ;have ag:=nAl wr (.cells #[.string nm,.int .i64 (z:Int)] 93);have U:=a8 (dN wr #[.string nm,.int .i64 (z:Int)] 93);have aa:=bTr aA ag;have al:=a8 (b9.below HC.out ag (MH _));have aj:=bTr ab ag;have bg:(z:Int)<(D.nodes.length:Int):=(by omega);clear ag;go_upto_region 5 with fail;generalize wr.alloc (.cells #[.string nm,.int .i64 (z:Int)] 93)=X at U aa al aj⊢;clear k0 k1;have m0:X.cell? ⟨wr.heap.size,0,none⟩=some (.string nm):=U.out.cell 0;have CM:=a8 (wS nm X (by omega) (HE.out.below (L.out.trans (aa.out.mono L.out.size))).env);go_wp2_with fail;refine CM.out.mono ?_;rintro e J ⟨ok,u,A,fl,rfl,ay,av⟩;have aG:=nAl J (.cells #[.bool ok,.int .u32 (u:Int),.int .i64 (A:Int),.int .u32 (fl:Int)] 129);have N:=av.trans (aG.mono av.size);have M:=a8 (dN J #[.bool ok,.int .u32 (u:Int),.int .i64 (A:Int),.int .u32 (fl:Int)] 129);have ad:=a8 (U.out.below N U.out.lt);have az:=bTr aa N;have am:=a8 (b9.below al.out N (MH _));have af:=bTr aj N;have ac:=a8 (lK ay);clear aG N av ay CM m0 U aa al aj;go_upto_region 6 with fail;generalize J.alloc (.cells #[.bool ok,.int .u32 (u:Int),.int .i64 (A:Int),.int .u32 (fl:Int)] 129)=Y at M ad az am af⊢;have t0:Y.cell? ⟨J.heap.size,0,none⟩=some (.bool ok):=M.out.cell 0;cases ok with
   |false=>
    have an:=a8 (show iZ w0 D ((D.names.take (j+1)).map (·.1)) cs from⟨by rw[aq.out,List.filterMap_append,←R.out.1];simp[lq,ac.out],R.out.2⟩);go_wp2;go_roundw
    case rel=>exact⟨j+1,G,I,cs,by omega,by go_num,rfl,by omega,am,an,af⟩
    case measure=>simp[intOf];omega
   |true=>
    have aC:=a8 (HX.out.below af.out HX.out.lt);have d0:Y.cell? ⟨w.heap.size,0,none⟩=some (.slice (some ⟨b1,o1,none⟩) D.nodes.length c1):=aC.out.cell 0;obtain⟨m0,m1⟩:=ad.out.c2;obtain⟨-,t1,t2,t3⟩:=M.out.c4;have q0:=ao.out Y (L.out.trans (az.out.mono L.out.size));have au:=nAl Y (.cells #[.string nm,.slice V E.length Z,.int .i64 (E.length:Int),.bool true,.int .u32 (u:Int),.int .i64 (A:Int),.int .u32 (fl:Int)] 219);have aV:=a8 (dN Y #[.string nm,.slice V E.length Z,.int .i64 (E.length:Int),.bool true,.int .u32 (u:Int),.int .i64 (A:Int),.int .u32 (fl:Int)] 219);have aB:=a8 (b9.below am.out au (MH _));have ar:=bTr af au;have bb:cs.length≤1048576:=(by omega);have an:=a8 (show iZ w0 D ((D.names.take (j+1)).map (·.1)) (cs++[⟨nm,V,E.length,Z,u,A,fl⟩]) from⟨by rw[aq.out,List.filterMap_append,MS,←R.out.1];simp[lq,ac.out,cdK],fun c hc=>by
     rcases Nb.1 hc with h|h
     ·exact R.out.2 c h
     ·rw[M9.1 h];exact⟨by rw[ae.out];exact ap.out,by rw[ae.out],by simpa using ac.out⟩⟩)
    clear au ao ap ac M ad aC;go_wp2_with (at_builtin;refine qf _ rfl (.tmp 27) (.tmp 36) rfl W.heap.size (.slice G cs.length I) cs ⟨nm,V,E.length,Z,u,A,fl⟩ Y.heap.size 1 rfl rfl aB.out (fun j v hj=>(aV.out.cell j).trans (by simpa[d6] using hj)) bb ar.out.size ?_;intro v6 w6 aN bc)
    obtain⟨a7,c7,aO⟩:=b9.slice aN;rw[MI] at aO;subst aO;exact⟨⟨j+1,a7,c7,cs++[⟨nm,V,E.length,Z,u,A,fl⟩],by omega,by go_num,rfl,by simp;omega,a8 aN,an,a8 (wo ar.out bc aB.out (MH _) ar.out.size)⟩,by simp[intOf];omega⟩
  ·have bd:j=D.names.length:=(by omega);subst bd;have CS:=a8 (Fa W.heap.size G I cs W wr W.heap.size ab.out ab.out.size (MH _) HC.out (by omega));have aT:=a8 (show iZ w0 D (D.names.map (·.1)) cs by have:=R.out;rw[NE] at this;exact this);clear Q;go_wp2_with fail;refine CS.out.mono ?_;rintro e w9 ⟨rfl,ys,aP,hp,O,ho,aF⟩;have HO:=a8 ho;have HP:=a8 hp;have aU:=a8 O;have aD:=a8 aP;have aS:=a8 aF;clear ho hp O aP aF CS;go_wp2;go_ret;refine⟨G,I,ys,cs,by rw[aD.out];rfl,by rw[aD.out];exact HO.out.mono K.out.size,HP.out,aU.out,aT.out,K.out.trans (aS.out.mono K.out.size)⟩
end
structure VH where
 kind:Int
 val:Nat
 next:Nat
 cur:Nat
abbrev vhA(h:VH)(v:Value):Array Value:= #[.int .i64 0,.int .i64 h.kind,.int .u32 (h.val:Int),.int .u32 (h.next:Int),.int .u32 (h.cur:Int),v]
theorem vp(val next:Nat)(E:Int)(w:World):
  Calls Tryz.prog 274 #[.agg #[.int .u32 (val:Int),.int .u32 (next:Int)],.int .i64 E] w fun e w'=>e= .returned (.agg (vhA ⟨E,val,next,0⟩ (.slice none 0 0)))∧Below w.heap.size w w':=by
 obtain⟨A,z,J,K⟩:=nE w #[.int .u32 (val:Int),.int .u32 (next:Int)] #[.int .i64 0,.int .i64 0,.int .u32 0,.int .u32 0,.int .u32 0,.slice none 0 0] 202 31;have G:=a8 z;have I:=a8 J;go_enter Tryz.func274,Tryz.ntmps274;go_upto_region 1 with fail;generalize (w.alloc (.cells #[.int .u32 (val:Int),.int .u32 (next:Int)] 202)).alloc (.cells #[.int .i64 0,.int .i64 0,.int .u32 0,.int .u32 0,.int .u32 0,.slice none 0 0] 31)=W at A z G I⊢;obtain⟨M,N⟩:=A.c2;obtain⟨O,Q,R,U,V,Y⟩:=z.c6;have L:=fun j=>z.fz j;clear A z J K;go_wp2;refine bodyPost_ret (iI (w.heap.size+1) _ (.int .i64 0) (.int .i64 E) (.int .u32 (val:Int)) (.int .u32 (next:Int)) (.int .u32 0) (.slice none 0 0) rfl rfl (nV G.out)) rfl ?_;exact⟨rfl,(((((I.out.setCell (p:=⟨w.heap.size+1,0,none⟩) (No _) _).setCell (p:=⟨w.heap.size+1,1,none⟩) (No _) _).setCell (p:=⟨w.heap.size+1,2,none⟩) (No _) _).setCell (p:=⟨w.heap.size+1,3,none⟩) (No _) _).setCell (p:=⟨w.heap.size+1,4,none⟩) (No _) _).setCell (p:=⟨w.heap.size+1,5,none⟩) (No _) _⟩
abbrev je(w:World)(base:Nat)(v:Value)(ys:List VM):Prop:=b9 w base 57 4 v (ys.map vmC)
theorem qg{L:Array Oper}{K:List Oper}{E:Act}(w:World)(U:o.guard=none)(s x:Operand)
  (ho:o.op= .call {callee:= .builtin .append,args:= #[s,x],argTypes:= #[29,29]})
  (A:Nat) (v:Value) (ms:List VM) (m:VM) (I c:Nat) (hs:E.eval s=v) (hx:E.eval x= .slice (some ⟨I,0,none⟩) 1 c) (J:je w A v ms)
  (hc:∀j u,(vmC m)[j]? =some u→w.cell? ⟨I,j,none⟩=some u) (aa:ms.length≤1048576) (N:A≤w.heap.size)
  (h:∀G w',je w' A G (ms++[m])→w.grownBy w' v.ownBlock→wpList Tryz.prog L Q K (E.put o.dst G) w'):wpList Tryz.prog L Q (o::K) E w:=by
 obtain⟨i0,hi,V,Y,Z⟩:=info_parts Tryz.infoVM;have O:w.ownsRow A 57 4 v ms.length (ms.map vmC).flatten:=(by have:=J.2;rw[MI] at this;exact this);refine wpList_append_own w U s x 29 ho A 57 i0 (.agg #[.int .u32 0,.int .i64 0,.int .u32 0,.slice none 0 0]) 4 48 Tryz.underlying29 hi V Y Z rfl (by decide) v ms.length (ms.map vmC).flatten hs O ⟨I,0,none⟩ 1 c (vmC m) hx (by simp[vmC]) ?_ ?_ (by unfold maxLen;omega) (by omega) N ?_
 ·intro j u hj;rw[ej,Ng];exact hc j u hj
 ·intro u M;simp only[vmC,M1,Nw,or_false] at M;rcases M with rfl|rfl|rfl|rfl<;>rfl
 ·intro G w' R hg _;refine h G w' ⟨?_,?_⟩ hg
  ·intro y z;rw[MS,Nb] at z;rcases z with z|z
   ·exact J.1 y z
   ·simp only[M0,Ns,M9] at z;rw[z];rfl
  ·rw[MI,MT,MS,NG];simpa using R
structure VwJ(gv L:Nat)(w0 w:World)(h:VH)(v:Value)(ys:List VM):Prop where
 st:Blk w gv (vhA h v) 31
 row:je w w0.heap.size v ys
 bod:∀m∈ys,dO w L m.v m.x.body
 bel:dV gv w0.heap.size w0 w
 lt:gv<w0.heap.size
theorem VwJ.below{E L:Nat}{h:VH}{v:Value}{ys:List VM}(z:VwJ E L w0 w h v ys)(A:Below w.heap.size w w'):VwJ E L w0 w' h v ys:=
 ⟨z.st.below A z.st.lt,b9.below z.row A (MH _),fun m G=>(z.bod m G).below A (MH _),z.bel.trans (dV.of_below A z.bel.size),z.lt⟩
theorem kP{b:Nat}{u:Value}{A:Array Value}(M:dO w b u l)(z:Blk w g A t)(I:t≠5):u.ownBlock≠some g:=fun e=>by
 rcases M.2 with⟨L,_⟩|⟨K,N,O,E,_,G,_⟩
 ·rw[L] at e;cases e
 ·rw[E] at e;have J:K=g:=Nv e;subst J;unfold Blk at z;rw[G] at z;simp only[MK,Obj.cells.injEq] at z;exact I z.2.1.symm
theorem gS{v:Value}(h:dO w B v l)(J:∀g,v.ownBlock=some g→g<w.heap.size→w'.heap[g]? =w.heap[g]?):dO w' B v l:=by
 refine⟨h.1,?_⟩;rcases h.2 with K|⟨g,cap,G,A,I,z,E⟩
 ·exact .inl K
 ·exact .inr ⟨g,cap,G,A,I,(J g (by rw[A];rfl) (lt_of_block z)).trans z,E⟩
theorem VwJ.app{L:Nat}{h:VH}{v:Value}{ys:List VM}{m:VM}(z:VwJ A L w0 W h v ys)(Z:dO W L m.v m.x.body)(R:je w' w0.heap.size E (ys++[m]))(J:W.grownBy w' v.ownBlock):
  w'.cell? ⟨A,5,none⟩=some v∧w'.frozen? ⟨A,5,none⟩=false∧VwJ A L w0 (w'.setCell ⟨A,5,none⟩ E) h E (ys++[m]):=by
 have M:∀b,b<W.heap.size→v.ownBlock≠some b→w'.heap[b]? =W.heap[b]? :=fun b z G=>J.block b z (fun e=>G e.symm);have V:v.ownBlock≠some A:=eM z.row z.st (by decide);have I:Blk w' A (vhA h v) 31:=ey z.st (M A z.st.lt V);have U:E.ownBlock≠some A:=eM R I (by decide);refine⟨I.cell 5,I.fz 5,?_,?_,?_,?_,z.lt⟩
 ·have:=I.set 5 E;simpa[vhA] using this
 ·exact b9.keep R (fun b K=>heap_setCell_other w' ⟨A,5,none⟩ b E (by intro e;have e:b=A:=e;subst e;exact U K))
 ·intro x hx;have O:dO W L x.v x.x.body:=by
   rcases Nb.1 hx with G|G
   ·exact z.bod x G
   ·rw[M9.1 G];exact Z
  have Q:dO w' L x.v x.x.body:=gS O (fun g N Y=>M g Y (fun e=>j8 z.row O (by decide) g e N));exact gS Q (fun g N _=>heap_setCell_other w' ⟨A,5,none⟩ g E (by intro e;have e:g=A:=e;subst e;exact kP Q I (by decide) N))
 ·exact dV.set ⟨J.os.trans z.bel.os,J.tape.trans z.bel.tape,J.output.trans z.bel.output,MN z.bel.size J.size,fun b K hn=>(M b (MW K z.bel.size) (fun e=>by have:=(b9.lt z.row b e).1;omega)).trans (z.bel.block b K hn)⟩ E
def we(L:Nat)(h:VH)(ys:List VM)(w:World)(e:Ending)(w':World):Prop:=∃ma mc,e= .returned (.agg (vhA h (.slice ma ys.length mc)))∧je w' w.heap.size (.slice ma ys.length mc) ys∧(∀m∈ys,dO w' L m.v m.x.body)∧Below w.heap.size w w'
theorem Hh{w0 w:World}{L:Nat}{ms:List IM}{r:List XM}{bvs:List Value}(hl:bvs.length=ms.length)(hr:r.length=ms.length)(I:∀k (A:k<bvs.length) (E:k<r.length),dO w L bvs[k] r[k].body):
  ∃ys:List VM,ys.length=ms.length∧ys.map VM.v=bvs∧ys.map VM.x=List.zipWith (fun m x=>⟨m.uid,m.stamp,m.flags,x.body⟩) ms r∧(∀m∈ys,dO w L m.v m.x.body):=by
 induction ms generalizing r bvs with
 |nil=>
  have A:bvs=[]:=(by simpa using hl);have E:r=[]:=(by simpa using hr);subst A E;exact⟨[],rfl,rfl,rfl,(fun m Q=>by cases Q)⟩
 |cons m ms ih=>
  match bvs,r,hl,hr with
  |bv::bvs,x::r,hl,hr=>
   obtain⟨ys,K,M,N,O⟩:=ih (r:=r) (bvs:=bvs) (by simpa using hl) (by simpa using hr) (fun k A E=>by
    have:=I (k+1) (by simpa using A) (by simpa using E);simpa using this)
   have z:=I 0 (by simp) (by simp);simp only[List.getElem_cons_zero] at z;obtain⟨a,c,J⟩:=z.slice;refine⟨⟨⟨m.uid,m.stamp,m.flags,x.body⟩,a,c⟩::ys,by simp[K],by simp[M,VM.v,J],by simp[N],?_⟩;intro y G;rcases M1.1 G with rfl|G
   ·rw[J] at z;exact z
   ·exact O y G
theorem mM(W:World)(g:Nat)(v0 v1 v2 v3 v4 v5:Value)(b:Nat)(z:b≠g):((((((W.setCell ⟨g,0,none⟩ v0).setCell ⟨g,1,none⟩ v1).setCell ⟨g,2,none⟩ v2).setCell ⟨g,3,none⟩ v3).setCell ⟨g,4,none⟩ v4).setCell ⟨g,5,none⟩ v5).heap[b]? =W.heap[b]? :=by
 rw[heap_setCell_other _ _ _ _ z,heap_setCell_other _ _ _ _ z,heap_setCell_other _ _ _ _ z,heap_setCell_other _ _ _ _ z,heap_setCell_other _ _ _ _ z,heap_setCell_other _ _ _ _ z]
abbrev Me(W:World)(g:Nat)(h:VH)(v:Value):World:=(((((W.setCell ⟨g,0,none⟩ (.int .i64 0)).setCell ⟨g,1,none⟩ (.int .i64 h.kind)).setCell ⟨g,2,none⟩ (.int .u32 (h.val:Int))).setCell ⟨g,3,none⟩ (.int .u32 (h.next:Int))).setCell ⟨g,4,none⟩ (.int .u32 (h.cur:Int))).setCell ⟨g,5,none⟩ v
theorem VwJ.fin{M L gr:Nat}{wE:World}{h:VH}{E:Option Addr}{G:Nat}{ys:List VM}{A:Array Value}(I:VwJ M L w0 w h (.slice E ys.length G) ys)(J:Below wE.heap.size wE w0)(R:wE.heap.size≤M)(Q:Blk w gr A 31)(z:wE.heap.size≤gr):
  we L h ys wE (.returned (.agg (vhA h (.slice E ys.length G)))) (Me w gr h (.slice E ys.length G)):=by
 have N:=fun b (J:b≠gr)=>mM w gr (.int .i64 0) (.int .i64 h.kind) (.int .u32 (h.val:Int)) (.int .u32 (h.next:Int)) (.int .u32 (h.cur:Int)) (.slice E ys.length G) b J;have U:(Value.slice E ys.length G).ownBlock≠some gr:=eM I.row Q (by decide);refine⟨E,G,rfl,(b9.keep I.row (fun g K=>N g (fun e=>U (by rw[←e];exact K)))).mono J.size,fun m O=>gS (I.bod m O) (fun g K _=>N g (fun e=>kP (I.bod m O) Q (by decide) (by rw[←e];exact K))),?_⟩;have V:Below wE.heap.size wE w:=ip J I.bel R J.size;exact(((((V.setCell (p:=⟨gr,0,none⟩) z _).setCell (p:=⟨gr,1,none⟩) z _).setCell (p:=⟨gr,2,none⟩) z _).setCell (p:=⟨gr,3,none⟩) z _).setCell (p:=⟨gr,4,none⟩) z _).setCell (p:=⟨gr,5,none⟩) z _
theorem pa(U lo L:Nat)(w:World)(s:IX)(i0 i1 i2 t0 t1 t2:Value)(am:Option Addr)(cm:Nat)(bvs:List Value)(ys:List VM)(ao:Blk w U (mbF s i0 i1 i2 t0 t1 t2 (.slice am s.mails.length cm)) 216)(ax:b9 w lo 262 6 (.slice am s.mails.length cm) (List.zipWith il1 s.mails bvs))(aw:bvs.length=s.mails.length)(aK:ys.length=s.mails.length)(aM:ys.map VM.v=bvs)(aN:∀k (h1:k<ys.length) (h2:k<s.mails.length),ys[k].x.uid=s.mails[k].uid∧ys[k].x.stamp=s.mails[k].stamp∧ys[k].x.flags=s.mails[k].flags)(au:∀m∈ys,dO w L m.v m.x.body)(hn:s.mails.length≤100):
  Calls Tryz.prog 272 #[.pointer (some ⟨U,0,none⟩)] w (we L ⟨1,s.val,s.next,0⟩ ys w):=by
 have V:=nAl w (.cells #[.int .i64 0,.int .i64 0,.int .u32 0,.int .u32 0,.int .u32 0,.slice none 0 0] 31);have Q:=a8 (dN w #[.int .i64 0,.int .i64 0,.int .u32 0,.int .u32 0,.int .u32 0,.slice none 0 0] 31);have HA:=a8 V;have G:=a8 (ao.below V ao.lt);have ae:=a8 (b9.below ax V (MH _));have ad:=a8 (fun m Y=>(au m Y).below V (MH _));have aC:=a8 (fun W=>vp s.val s.next 1 W);have ai:=a8 aK;have aZ:=a8 (show∀k (h:k<ys.length) (h2:k<s.mails.length) (h3:k<bvs.length),il1 s.mails[k] bvs[k]=vmC ys[k]++[.int .i64 (s.mails[k].size:Int),.bool (decide (s.mails[k].bare=1))] from fun k h h2 h3=>by
  obtain⟨e1,e2,e3⟩:=aN k h h2;have e4:bvs[k]=ys[k].v:=by
   have:bvs[k]? =(ys.map VM.v)[k]? :=(by rw[aM]);rw[MM h3,Nr,MM h] at this;exact Nv this
  unfold il1 vmC;rw[e1,e2,e3,e4];rfl)
 have ap:=a8 aw;clear ao ax aM aN au V aw;go_enter Tryz.func272,Tryz.ntmps272;go_upto_region 1 with fail;generalize w.alloc (.cells #[.int .i64 0,.int .i64 0,.int .u32 0,.int .u32 0,.int .u32 0,.slice none 0 0] 31)=w1 at Q HA G ae ad⊢;obtain⟨g0,g1⟩:=G.out.c2;go_wp2_with fail;refine(aC.out _).mono ?_;rintro e z ⟨rfl,O⟩;have aE:=nAl z (.cells (vhA ⟨1,s.val,s.next,0⟩ (.slice none 0 0)) 31);have R:=a8 (dN z (vhA ⟨1,s.val,s.next,0⟩ (.slice none 0 0)) 31);have I:=O.trans (aE.mono O.size);have aq:=a8 (G.out.below I G.out.lt);have N:=a8 (b9.below ae.out I (MH _));have ac:=a8 (fun m Y=>(ad.out m Y).below I (MH _));have ah:=a8 (Q.out.below I Q.out.lt);have az:=bTr HA I;have aU:=a8 (show w.heap.size≤z.heap.size from MN HA.out.size O.size);have aX:=a8 (show w.heap.size<z.heap.size from MW Q.out.lt O.size);clear g0 g1 O aE I aC G ae ad Q;go_upto_region 2 with fail;generalize z.alloc (.cells (vhA ⟨1,s.val,s.next,0⟩ (.slice none 0 0)) 31)=W at R aq N ac ah az⊢;obtain⟨-,-,-,-,-,-,-,-,-,g9⟩:=aq.out.c10;have aS:=a8 (show VwJ z.heap.size L W W ⟨1,s.val,s.next,0⟩ (.slice none 0 0) [] from⟨R.out,b9.nil _ _ _ _,(fun m Y=>by cases Y),dV.refl _ _ _,R.out.lt⟩);clear aK;go_wp2;clear g9;go_loopw [5,16] (fun _ i wr=>∃(j:Nat) (K:Option Addr) (M:Nat),j≤s.mails.length∧i= .int .i64 (j:Int)∧Hid (VwJ z.heap.size L W wr ⟨1,s.val,s.next,0⟩ (.slice K j M) (ys.take j))) (fun _ i _=>s.mails.length-(intOf i).toNat)
 case atStart=>exact⟨0,none,0,MQ _,rfl,aS⟩
 case round=>
  obtain⟨j,K,M,hj,rfl,HI⟩:=hrel;by_cases al:j<s.mails.length
  ·have bd:(j:Int)<(s.mails.length:Int):=(by omega);have ab:j<ys.length:=(by have:=ai.out;omega);have aG:j<bvs.length:=(by have:=ap.out;omega);have aB:=a8 HI.out.bel;obtain⟨g,bb,_,_⟩:=N.out.at0 (by rw[List.length_zipWith,ap.out];omega);subst bb;have aR:=a8 (show g≠z.heap.size from fun e=>eM N.out R.out (by decide) (by rw[e];rfl));have A:=a8 (show∀k (hk:k<6),wr.cell? ⟨g,j*6+k,none⟩=(vmC ys[j]++[.int .i64 (s.mails[j].size:Int),.bool (decide (s.mails[j].bare=1))])[k]? from fun k hk=>by
    rw[←aZ.out j ab al aG,←oj N.out j al aG k hk];exact d5 (aB.out.block g (b9.lt N.out g rfl).2 aR.out))
   have aD:=a8 (show ys.take (j+1)=ys.take j++[ys[j]] from gF ys j ab);have aA:=a8 (show dO wr L ys[j].v ys[j].x.body from gS (ac.out ys[j] (MO ab)) (fun q hq aP=>aB.out.block q aP (fun e=>kP (ac.out ys[j] (MO ab)) R.out (by decide) (by rw[←e];exact hq))));generalize ys[j]=m at A aD aA;generalize s.mails[j].size=Z at A;generalize decide (s.mails[j].bare=1)=y5 at A;have k0:wr.cell? ⟨g,j*6,none⟩=some (.int .u32 (m.x.uid:Int)):=A.out 0 (by omega);have k1:wr.cell? ⟨g,j*6+1,none⟩=some (.int .i64 (m.x.stamp:Int)):=A.out 1 (by omega);have k2:wr.cell? ⟨g,j*6+2,none⟩=some (.int .u32 (m.x.flags:Int)):=A.out 2 (by omega);have k3:wr.cell? ⟨g,j*6+3,none⟩=some (.slice m.ba m.x.body.length m.bc):=A.out 3 (by omega);have k4:wr.cell? ⟨g,j*6+4,none⟩=some (.int .i64 (Z:Int)):=A.out 4 (by omega);have k5:wr.cell? ⟨g,j*6+5,none⟩=some (.bool y5):=A.out 5 (by omega);have ak:=nAl wr (.cells #[.int .u32 (m.x.uid:Int),.int .i64 (m.x.stamp:Int),.int .u32 (m.x.flags:Int),.slice m.ba m.x.body.length m.bc,.int .i64 (Z:Int),.bool y5] 262);have J:=a8 (dN wr #[.int .u32 (m.x.uid:Int),.int .i64 (m.x.stamp:Int),.int .u32 (m.x.flags:Int),.slice m.ba m.x.body.length m.bc,.int .i64 (Z:Int),.bool y5] 262);have af:=a8 (HI.out.below ak);have ay:=a8 (aA.out.below ak (MH _));clear ak A;go_upto_region 5 with fail;generalize wr.alloc (.cells #[.int .u32 (m.x.uid:Int),.int .i64 (m.x.stamp:Int),.int .u32 (m.x.flags:Int),.slice m.ba m.x.body.length m.bc,.int .i64 (Z:Int),.bool y5] 262)=X at J af ay⊢;clear k0 k1 k2 k3 k4 k5;obtain⟨m0,m1,m2,m3⟩:=J.out.c4;obtain⟨-,-,-,-,-,v5⟩:=af.out.st.c6;have aj:=nAl X (.cells #[.int .u32 (m.x.uid:Int),.int .i64 (m.x.stamp:Int),.int .u32 (m.x.flags:Int),.slice m.ba m.x.body.length m.bc] 57);have aV:=a8 (dN X #[.int .u32 (m.x.uid:Int),.int .i64 (m.x.stamp:Int),.int .u32 (m.x.flags:Int),.slice m.ba m.x.body.length m.bc] 57);have ag:=a8 (af.out.below aj);have aO:=a8 (ay.out.below aj (MH _));have aI:(ys.take j).length≤1048576:=(by rw[MZ];omega);have aT:=a8 aI;have aY:=a8 (show(ys.take j).length=j by rw[MZ];omega);clear aj aI J;go_wp2_with (at_builtin;refine qg _ rfl (.tmp 21) (.tmp 24) rfl W.heap.size (.slice K j M) (ys.take j) m X.heap.size 1 rfl rfl ag.out.row (fun j v hj=>(aV.out.cell j).trans (by simpa[vmC] using hj)) aT.out ag.out.bel.size ?_;intro v6 w6 an aF;have aa:=ag.out.app aO.out an aF;obtain⟨a7,c7,aJ⟩:=b9.slice an;rw[show((ys.take j++[m]).map vmC).length=j+1 by rw[MI,MT,aY.out];rfl] at aJ;subst aJ;have bf:=aa.1;have be:=aa.2.1;have aQ:=a8 aa.2.2;clear aa an aF)
   exact⟨⟨j+1,a7,c7,by omega,by go_num,by rw[aD.out];exact aQ⟩,by simp[intOf];omega⟩
  ·have aH:j=s.mails.length:=(by omega);have aL:ys.take j=ys:=(by rw[MX (by have:=ai.out;omega)]);rw[aL] at HI;have ar:=a8 (show j=ys.length by rw[aH];exact ai.out.symm);subst aH;have aW:=a8 (show w.heap.size≠z.heap.size from by have:=aX.out;omega);have E:=a8 (ey ah.out (HI.out.bel.block w.heap.size ah.out.lt aW.out));obtain⟨r0,r1,r2,r3,r4,r5⟩:=E.out.c6;have fr:=fun j=>E.out.fz j;obtain⟨y0,y1,y2,y3,Z,y5⟩:=HI.out.st.c6;clear aL al;go_wp2;refine bodyPost_ret (iI w.heap.size _ (.int .i64 0) (.int .i64 1) (.int .u32 (s.val:Int)) (.int .u32 (s.next:Int)) (.int .u32 0) (.slice K s.mails.length M) rfl rfl (nV E.out)) rfl ?_;have av:=VwJ.fin (wE:=w) (gr:=w.heap.size) (ys:=ys) (by rw[←ar.out];exact HI.out) az.out aU.out E.out (MH _);rw[←ar.out] at av;exact av
theorem Ih{fn:Func}{p:Tmp}(B:Nat)(W:World)(v0 v1 v2 v3:Value)(A:fn.results= #[.cell p 57])(E:tmps.getD p undef= .pointer (some ⟨B,0,none⟩))(z:Blk W B #[v0,v1,v2,v3] 57):
  (results fn tmps).run Tryz.prog W= .ok (.agg #[v0,v1,v2,v3]) W:=results_cell_row (P:=Tryz.prog) A _ _ B _ _ _ _ E z Tryz.underlying57 rfl (by kernel_rfl)
theorem Mh{z A:Value}(h:Blk W g #[z,A,E,G] t):Blk ((((W.setCell ⟨g,0,none⟩ v0).setCell ⟨g,1,none⟩ v1).setCell ⟨g,2,none⟩ v2).setCell ⟨g,3,none⟩ v3) g #[v0,v1,v2,v3] t:=by
 have:=((((h.set 0 v0).set 1 v1).set 2 v2).set 3 v3)
 simpa using this
theorem xL(v:Value)(w:World):(callFunc 170 #[v]).run Tryz.prog w= .ok (.enter 170 #[v]) w:=by
 go_simp
def CmS(g:Nat)(c1 c4 c5 c6:Value)(w:World):Prop:=w.cell? ⟨g,1,none⟩=some c1∧w.cell? ⟨g,4,none⟩=some c4∧w.cell? ⟨g,5,none⟩=some c5∧w.cell? ⟨g,6,none⟩=some c6
theorem FS(K:l.length≤1048576)(L:dW W a l)(E:Below W.heap.size W Y):
  Calls Tryz.prog 170 #[.slice a l.length cap] Y fun e w'=>∃z A,e= .returned (.slice z l.length A)∧dO w' W.heap.size (.slice z l.length A) l∧Below W.heap.size W w':=
 (DX a cap l Y K (L.below E)).mono (fun e w' h=>by
  obtain⟨v,J,G,I⟩:=h;obtain⟨z,A,rfl⟩:=G.slice;exact⟨z,A,J,G.mono E.size,E.trans (I.mono E.size)⟩)
def KK(c:Cd)(l:List Nat)(w:World)(e:Ending)(w':World):Prop:=∃ba bc,e= .returned (.agg #[.int .u32 (c.uid:Int),.int .i64 (c.stamp:Int),.int .u32 (c.flags:Int),.slice ba l.length bc])∧dO w' w.heap.size (.slice ba l.length bc) l∧Below w.heap.size w w'
theorem ww(c:Cd)(l:List Nat)(w:World)(hr:dW w c.ad l)(hl:l.length≤1048576):
  Calls Tryz.prog 275 #[.agg #[.string c.name,.slice c.ad l.length c.dc,.int .i64 (l.length:Int),.bool true,.int .u32 (c.uid:Int),.int .i64 (c.stamp:Int),.int .u32 (c.flags:Int)]] w (KK c l w):=by
 obtain⟨L1,L2,hA,hz⟩:=nE w #[.string c.name,.slice c.ad l.length c.dc,.int .i64 (l.length:Int),.bool true,.int .u32 (c.uid:Int),.int .i64 (c.stamp:Int),.int .u32 (c.flags:Int)] #[.int .u32 0,.int .i64 0,.int .u32 0,.slice none 0 0] 219 57;have J:=a8 L1;have V:=a8 L2;have HA:=a8 hA;have HR:=a8 (hr.below hA);clear hr L1 L2 hA hz;go_enter Tryz.func275,Tryz.ntmps275;go_upto_region 1 with fail;generalize (w.alloc (.cells #[.string c.name,.slice c.ad l.length c.dc,.int .i64 (l.length:Int),.bool true,.int .u32 (c.uid:Int),.int .i64 (c.stamp:Int),.int .u32 (c.flags:Int)] 219)).alloc (.cells #[.int .u32 0,.int .i64 0,.int .u32 0,.slice none 0 0] 57)=X at J V HA HR⊢;have z:CmS w.heap.size (.slice c.ad l.length c.dc) (.int .u32 (c.uid:Int)) (.int .i64 (c.stamp:Int)) (.int .u32 (c.flags:Int)) X.drew:=⟨J.out.cell 1,J.out.cell 4,J.out.cell 5,J.out.cell 6⟩
 have CC:=a8 (fun(Y:World) (hY:Below X.heap.size X Y)=>FS (cap:=c.dc) hl HR.out hY);refine gD (by kernel_rfl) (CmS w.heap.size (.slice c.ad l.length c.dc) (.int .u32 (c.uid:Int)) (.int .i64 (c.stamp:Int)) (.int .u32 (c.flags:Int))) 14 ?_;refine d7 0 (.pointer (some ⟨w.heap.size,3,none⟩)) rfl (fun _ _ _ h=>h) (Or.inl ⟨by rfl,?_⟩) z ?_
 ·rintro wz ⟨A,E,G,I⟩;go_simp
 simp only[dJ,dK,dL,dM];refine d7 1 (.pointer (some ⟨w.heap.size,4,none⟩)) rfl (fun _ _ _ h=>h) (Or.inl ⟨by rfl,?_⟩) z ?_
 ·rintro wz ⟨A,E,G,I⟩;go_simp
 simp only[dJ,dK,dL,dM];refine d7 2 (.int .u32 (c.uid:Int)) rfl (fun _ _ _ h=>h) (Or.inl ⟨by rfl,?_⟩) z ?_
 ·rintro wz ⟨A,E,G,I⟩;go_simp
 simp only[dJ,dK,dL,dM];refine d7 3 (.pointer (some ⟨w.heap.size,3,none⟩)) rfl (fun _ _ _ h=>h) (Or.inl ⟨by rfl,?_⟩) z ?_
 ·rintro wz ⟨A,E,G,I⟩;go_simp
 simp only[dJ,dK,dL,dM];refine d7 4 (.pointer (some ⟨w.heap.size,5,none⟩)) rfl (fun _ _ _ h=>h) (Or.inl ⟨by rfl,?_⟩) z ?_
 ·rintro wz ⟨A,E,G,I⟩;go_simp
 simp only[dJ,dK,dL,dM];refine d7 5 (.int .i64 (c.stamp:Int)) rfl (fun _ _ _ h=>h) (Or.inl ⟨by rfl,?_⟩) z ?_
 ·rintro wz ⟨A,E,G,I⟩;go_simp
 simp only[dJ,dK,dL,dM];refine d7 6 (.pointer (some ⟨w.heap.size,3,none⟩)) rfl (fun _ _ _ h=>h) (Or.inl ⟨by rfl,?_⟩) z ?_
 ·rintro wz ⟨A,E,G,I⟩;go_simp
 simp only[dJ,dK,dL,dM];refine d7 7 (.pointer (some ⟨w.heap.size,6,none⟩)) rfl (fun _ _ _ h=>h) (Or.inl ⟨by rfl,?_⟩) z ?_
 ·rintro wz ⟨A,E,G,I⟩;go_simp
 simp only[dJ,dK,dL,dM];refine d7 8 (.int .u32 (c.flags:Int)) rfl (fun _ _ _ h=>h) (Or.inl ⟨by rfl,?_⟩) z ?_
 ·rintro wz ⟨A,E,G,I⟩;go_simp
 simp only[dJ,dK,dL,dM];refine d7 9 (.pointer (some ⟨w.heap.size,0,none⟩)) rfl (fun _ _ _ h=>h) (Or.inl ⟨by rfl,?_⟩) z ?_
 ·rintro wz ⟨A,E,G,I⟩;go_simp
 simp only[dJ,dK,dL,dM];refine d7 10 (.pointer (some ⟨w.heap.size,1,none⟩)) rfl (fun _ _ _ h=>h) (Or.inl ⟨by rfl,?_⟩) z ?_
 ·rintro wz ⟨A,E,G,I⟩;go_simp
 simp only[dJ,dK,dL,dM];refine d7 11 (.slice c.ad l.length c.dc) rfl (fun _ _ _ h=>h) (Or.inl ⟨by rfl,?_⟩) z ?_
 ·rintro wz ⟨A,E,G,I⟩;go_simp
 simp only[dJ,dK,dL,dM];refine ee 12 rfl (by kernel_rfl) (fun K O=> ?_);refine ii 170 xL (.tmp 14) #[52] (by rfl) (by rfl) (.slice c.ad l.length c.dc) (by simp[go_sem]) ?_;refine(CC.out _ (MJ _ _).drew).mono ?_;rintro e Q ⟨M,N,rfl,ac,U⟩;have ae:=a8 U;have af:=a8 ac;have R:=a8 (J.out.below U J.out.lt);have L:=a8 (V.out.below U V.out.lt);have aa:CmS w.heap.size (.slice c.ad l.length c.dc) (.int .u32 (c.uid:Int)) (.int .i64 (c.stamp:Int)) (.int .u32 (c.flags:Int)) Q:=⟨R.out.cell 1,R.out.cell 4,R.out.cell 5,R.out.cell 6⟩
 refine⟨_,rfl,O _ _ (fun _=>aa) ?_⟩;clear O K z ac U CC;have z:=aa
 try simp only[dJ,dK,dL,dM]
 refine d7 13 (.agg #[.int .u32 (c.uid:Int),.int .i64 (c.stamp:Int),.int .u32 (c.flags:Int),.slice M l.length N]) rfl (fun _ _ _ h=>h) (Or.inl ⟨by rfl,?_⟩) z ?_
 ·rintro wz ⟨A,E,G,I⟩;go_simp
 simp only[dJ,dK,dL,dM];have r0:Q.cell? ⟨w.heap.size+1,0,none⟩=some (.int .u32 0):=L.out.cell 0;have r1:Q.cell? ⟨w.heap.size+1,1,none⟩=some (.int .i64 0):=L.out.cell 1;have r2:Q.cell? ⟨w.heap.size+1,2,none⟩=some (.int .u32 0):=L.out.cell 2;have r3:Q.cell? ⟨w.heap.size+1,3,none⟩=some (.slice none 0 0):=L.out.cell 3;have fr:=fun j=>L.out.fz j;have ab:=a8 (show w.heap.size+1<X.heap.size from V.out.lt);refine ee 14 rfl (by kernel_rfl) (fun K O=> ?_);go_simp;refine O _ _ (fun h=>by cases h) (fI (by kernel_rfl) ?_ _);clear O K z aa;go_wp2;refine bodyPost_ret (Ih (w.heap.size+1) _ (.int .u32 (c.uid:Int)) (.int .i64 (c.stamp:Int)) (.int .u32 (c.flags:Int)) (.slice M l.length N) rfl rfl (Mh L.out)) rfl ?_;refine⟨M,N,rfl,?_,?_⟩
 ·have Z:∀p j u W,dO W X.heap.size (.slice M l.length N) l→p=w.heap.size+1→dO (W.setCell ⟨p,j,none⟩ u) X.heap.size (.slice M l.length N) l:=fun p j u W h e=>h.set_low (p:=⟨p,j,none⟩) (by have:=ab.out;simp only;omega) u;exact(Z _ _ _ _ (Z _ _ _ _ (Z _ _ _ _ (Z _ _ _ _ af.out rfl) rfl) rfl) rfl).mono (by have:=ab.out;omega)
 ·exact(((((HA.out.trans (ae.out.mono HA.out.size)).setCell (p:=⟨w.heap.size+1,0,none⟩) (No _) _).setCell (p:=⟨w.heap.size+1,1,none⟩) (No _) _).setCell (p:=⟨w.heap.size+1,2,none⟩) (No _) _).setCell (p:=⟨w.heap.size+1,3,none⟩) (No _) _)
theorem yv{X:World}(c:Cd)(l:List Nat)(L:dW X c.ad l)(J:l.length≤1048576)(E:Below X.heap.size X Y):
  Calls Tryz.prog 275 #[.agg #[.string c.name,.slice c.ad l.length c.dc,.int .i64 (l.length:Int),.bool true,.int .u32 (c.uid:Int),.int .i64 (c.stamp:Int),.int .u32 (c.flags:Int)]] Y fun e w'=>∃z A,e= .returned (.agg #[.int .u32 (c.uid:Int),.int .i64 (c.stamp:Int),.int .u32 (c.flags:Int),.slice z l.length A])∧dO w' X.heap.size (.slice z l.length A) l∧Below X.heap.size X w':=
 (ww c l Y (L.below E) J).mono (fun e w' h=>by
  obtain⟨z,A,I,K,G⟩:=h;exact⟨z,A,I,K.mono E.size,E.trans (G.mono E.size)⟩)
theorem Al(v:Value)(w:World):(callFunc 275 #[v]).run Tryz.prog w= .ok (.enter 275 #[v]) w:=by
 go_simp
def LdS(gc gv:Nat)(c0 c1 c2 c3 c4 c5 c6 v5:Value)(w:World):Prop:=w.cell? ⟨gc,0,none⟩=some c0∧w.cell? ⟨gc,1,none⟩=some c1∧w.cell? ⟨gc,2,none⟩=some c2∧w.cell? ⟨gc,3,none⟩=some c3∧w.cell? ⟨gc,4,none⟩=some c4∧w.cell? ⟨gc,5,none⟩=some c5∧w.cell? ⟨gc,6,none⟩=some c6∧w.cell? ⟨gv,5,none⟩=some v5
theorem LdS.below{G:Nat}(h:LdS z G I J K L M N O v5 w)(A:Below w.heap.size w w')(E:z<w.heap.size)(Q:G<w.heap.size):LdS z G I J K L M N O v5 w':=
 ⟨(A.cell (p:=⟨z,0,none⟩) E).trans h.1,(A.cell (p:=⟨z,1,none⟩) E).trans h.2.1,(A.cell (p:=⟨z,2,none⟩) E).trans h.2.2.1,(A.cell (p:=⟨z,3,none⟩) E).trans h.2.2.2.1,(A.cell (p:=⟨z,4,none⟩) E).trans h.2.2.2.2.1,(A.cell (p:=⟨z,5,none⟩) E).trans h.2.2.2.2.2.1,(A.cell (p:=⟨z,6,none⟩) E).trans h.2.2.2.2.2.2.1,(A.cell (p:=⟨G,5,none⟩) Q).trans h.2.2.2.2.2.2.2⟩
def iM(vs:List Value):Prop:=vs.Pairwise fun x y=>x.ownBlock=none∨x.ownBlock≠y.ownBlock
theorem Ba{w:World}{L:Nat}{ys:List VM}{m:VM}{w':World}(h:iM (ys.map VM.v))(E:∀y∈ys,dO w L y.v y.x.body)(G:dO w' w.heap.size m.v m.x.body):iM ((ys++[m]).map VM.v):=by
 unfold iM at*;rw[MS,List.pairwise_append];refine⟨h,List.pairwise_singleton _ _,fun x I y A=> ?_⟩;simp only[M0,Ns,M9] at A;subst A;obtain⟨z,J,rfl⟩:=Na.1 I;cases he:z.v.ownBlock with
 |none=>exact .inl rfl
 |some g=>
  refine .inr (fun e=> ?_);have K:=(World.ownsRow.lt (E z J) g he).2;have M:=(World.ownsRow.lt G g e.symm).1;omega
def I8(dat:Cd→List Nat)(val next:Nat)(cs:List Cd)(w:World)(e:Ending)(w':World):Prop:=∃ys:List VM,we w.heap.size ⟨3,val,next,0⟩ ys w e w'∧ys.map VM.x=cs.map (fun c=>⟨c.uid,c.stamp,c.flags,dat c⟩)∧iM (ys.map VM.v)
theorem sI(g o lo:Nat)(wd w:World)(J:Cd→List Nat)(val next:Nat)(ca:Option Addr)(cc:Nat)(cs:List Cd)(hb:Below wd.heap.size wd w)(h0:w.cell? ⟨g,o,none⟩=some (.int .u32 (val:Int)))(h1:w.cell? ⟨g,o+1,none⟩=some (.int .u32 (next:Int)))(h6:w.cell? ⟨g,o+6,none⟩=some (.slice ca cs.length cc))(aC:lm w lo (.slice ca cs.length cc) cs)(hd:∀c∈cs,fX wd c.ad c.dc (J c)∧c.dl=(J c).length∧(J c).length≤1048576)(hn:cs.length≤1048576):
  Calls Tryz.prog 273 #[.pointer (some ⟨g,o,none⟩)] w (I8 J val next cs w):=by
 have hA:=nAl w (.cells #[.int .i64 0,.int .i64 0,.int .u32 0,.int .u32 0,.int .u32 0,.slice none 0 0] 31);have HR:=a8 (dN w #[.int .i64 0,.int .i64 0,.int .u32 0,.int .u32 0,.int .u32 0,.slice none 0 0] 31);have HA:=a8 hA;have HB:=a8 hb;have HD:=a8 hd;have am:=a8 (b9.below aC hA (MH _));have aF:=a8 (fun W=>vp val next 3 W);have H0:=a8 ((hA.cell (p:=⟨g,o,none⟩) (dH h0)).trans h0);have H1:=a8 ((hA.cell (p:=⟨g,o+1,none⟩) (dH h1)).trans h1);have H6:=a8 ((hA.cell (p:=⟨g,o+6,none⟩) (dH h6)).trans h6);clear aC hA hb hd h0 h1 h6;go_enter Tryz.func273,Tryz.ntmps273;go_upto_region 1 with fail;generalize w.alloc (.cells #[.int .i64 0,.int .i64 0,.int .u32 0,.int .u32 0,.int .u32 0,.slice none 0 0] 31)=w1 at HR HA am H0 H1 H6⊢;have g0:=H0.out;have g1:=H1.out;go_wp2_with fail;refine(aF.out _).mono ?_;rintro e z ⟨rfl,ag⟩;have aM:=nAl z (.cells (vhA ⟨3,val,next,0⟩ (.slice none 0 0)) 31);have HV:=a8 (dN z (vhA ⟨3,val,next,0⟩ (.slice none 0 0)) 31);have ah:=ag.trans (aM.mono ag.size);have ab:=a8 (b9.below am.out ah (MH _));have ao:=a8 (HR.out.below ah HR.out.lt);have ac:=bTr HA ah;have aD:=a8 ((ah.cell (p:=⟨g,o+6,none⟩) (dH H6.out)).trans H6.out);have aH:=a8 (show w.heap.size≤z.heap.size from MN HA.out.size ag.size);have aZ:=a8 (show w.heap.size<z.heap.size from MW HR.out.lt ag.size);clear g0 g1 ag aM ah aF am HR H0 H1 H6;go_upto_region 2 with fail;generalize z.alloc (.cells (vhA ⟨3,val,next,0⟩ (.slice none 0 0)) 31)=W at HV ab ao ac aD⊢;have g6:=aD.out;have aV:=a8 (show VwJ z.heap.size W.heap.size W W ⟨3,val,next,0⟩ (.slice none 0 0) [] from⟨HV.out,b9.nil _ _ _ _,(fun m hm=>by cases hm),dV.refl _ _ _,HV.out.lt⟩);go_wp2;clear g6;go_loopw [5,16] (fun _ i wr=>∃(j:Nat) (E:Option Addr) (G:Nat) (ys:List VM),j≤cs.length∧i= .int .i64 (j:Int)∧Hid (ys.length=j)∧Hid (ys.map VM.x=(cs.take j).map (fun c=>⟨c.uid,c.stamp,c.flags,J c⟩))∧Hid (iM (ys.map VM.v))∧Hid (VwJ z.heap.size W.heap.size W wr ⟨3,val,next,0⟩ (.slice E j G) ys)) (fun _ i _=>cs.length-(intOf i).toNat)
 case atStart=>exact⟨0,none,0,[],MQ _,rfl,a8 rfl,a8 rfl,a8 List.Pairwise.nil,aV⟩
 case round=>
  obtain⟨j,E,G,ys,hj,rfl,aa,aK,aE,HI⟩:=hrel;by_cases ai:j<cs.length
  ·have bg:(j:Int)<(cs.length:Int):=(by omega);have aS:=a8 HI.out.bel;obtain⟨gr,be,_,_⟩:=ab.out.at0 (by rw[MI];omega);subst be;have aU:=a8 (show gr≠z.heap.size from fun e=>eM ab.out HV.out (by decide) (by rw[e];rfl));obtain⟨aN,ax,aw⟩:=HD.out cs[j] (MO ai);have I:=a8 (show∀k (hk:k<7),wr.cell? ⟨gr,j*7+k,none⟩=(d6 cs[j])[k]? from fun k hk=>by
    have hl:((cs.map d6)[j]'(by simpa using ai)).length=7:=(by rw[MY];rfl);rw[d5 (aS.out.block gr (b9.lt ab.out gr rfl).2 aU.out),ab.out.cell j k (by simpa using ai) (by rw[hl];exact hk),MM (by show k<7;exact hk)];congr 1;simp)
   have au:=a8 (show(cs.take (j+1)).map (fun c=>(⟨c.uid,c.stamp,c.flags,J c⟩:LM))=(cs.take j).map (fun c=>⟨c.uid,c.stamp,c.flags,J c⟩)++[⟨cs[j].uid,cs[j].stamp,cs[j].flags,J cs[j]⟩] by rw[gF cs j ai,MS];rfl);have av:=a8 (show∀X,Below w.heap.size w X→dW X cs[j].ad (J cs[j]) from fun X hX=>(aN.below (HB.out.trans (hX.mono HB.out.size))).row);generalize cs[j]=c at I au av ax aw;unfold d6 at I;rw[ax] at I;clear aN ax;generalize J c=l at I au av aw;have k0:wr.cell? ⟨gr,j*7,none⟩=some (.string c.name):=I.out 0 (by omega);have k1:wr.cell? ⟨gr,j*7+1,none⟩=some (.slice c.ad l.length c.dc):=I.out 1 (by omega);have k2:wr.cell? ⟨gr,j*7+2,none⟩=some (.int .i64 (l.length:Int)):=I.out 2 (by omega);have k3:wr.cell? ⟨gr,j*7+3,none⟩=some (.bool true):=I.out 3 (by omega);have k4:wr.cell? ⟨gr,j*7+4,none⟩=some (.int .u32 (c.uid:Int)):=I.out 4 (by omega);have k5:wr.cell? ⟨gr,j*7+5,none⟩=some (.int .i64 (c.stamp:Int)):=I.out 5 (by omega);have k6:wr.cell? ⟨gr,j*7+6,none⟩=some (.int .u32 (c.flags:Int)):=I.out 6 (by omega);have aL:=nAl wr (.cells #[.string c.name,.slice c.ad l.length c.dc,.int .i64 (l.length:Int),.bool true,.int .u32 (c.uid:Int),.int .i64 (c.stamp:Int),.int .u32 (c.flags:Int)] 219);have A:=a8 (dN wr #[.string c.name,.slice c.ad l.length c.dc,.int .i64 (l.length:Int),.bool true,.int .u32 (c.uid:Int),.int .i64 (c.stamp:Int),.int .u32 (c.flags:Int)] 219);have Q:=a8 (HI.out.below aL);clear aL I;go_upto_region 5 with fail;generalize wr.alloc (.cells #[.string c.name,.slice c.ad l.length c.dc,.int .i64 (l.length:Int),.bool true,.int .u32 (c.uid:Int),.int .i64 (c.stamp:Int),.int .u32 (c.flags:Int)] 219)=X at A Q⊢;clear k0 k1 k2 k3 k4 k5 k6;have aQ:=a8 (ip ac.out Q.out.bel aH.out ac.out.size);have CC:=a8 (fun(Y:World) (hY:Below X.heap.size X Y)=>yv c l (av.out X aQ.out) aw hY);have U:LdS wr.heap.size z.heap.size (.string c.name) (.slice c.ad l.length c.dc) (.int .i64 (l.length:Int)) (.bool true) (.int .u32 (c.uid:Int)) (.int .i64 (c.stamp:Int)) (.int .u32 (c.flags:Int)) (.slice E j G) X.drew:=⟨A.out.cell 0,A.out.cell 1,A.out.cell 2,A.out.cell 3,A.out.cell 4,A.out.cell 5,A.out.cell 6,Q.out.st.cell 5⟩
   have bb:=a8 (show LdS wr.heap.size z.heap.size (.string c.name) (.slice c.ad l.length c.dc) (.int .i64 (l.length:Int)) (.bool true) (.int .u32 (c.uid:Int)) (.int .i64 (c.stamp:Int)) (.int .u32 (c.flags:Int)) (.slice E j G) X from⟨A.out.cell 0,A.out.cell 1,A.out.cell 2,A.out.cell 3,A.out.cell 4,A.out.cell 5,A.out.cell 6,Q.out.st.cell 5⟩);refine gD (by kernel_rfl) (LdS wr.heap.size z.heap.size (.string c.name) (.slice c.ad l.length c.dc) (.int .i64 (l.length:Int)) (.bool true) (.int .u32 (c.uid:Int)) (.int .i64 (c.stamp:Int)) (.int .u32 (c.flags:Int)) (.slice E j G)) 7 ?_;refine d7 0 (.pointer (some ⟨z.heap.size,5,none⟩)) rfl (fun _ _ _ h=>h) (Or.inl ⟨by rfl,?_⟩) U ?_
   ·rintro wz ⟨z0,z1,z2,z3,z4,z5,z6,z7⟩;go_simp
   simp only[dJ,dK,dL,dM];refine d7 1 (.slice E j G) rfl (fun _ _ _ h=>h) (Or.inl ⟨by rfl,?_⟩) U ?_
   ·rintro wz ⟨z0,z1,z2,z3,z4,z5,z6,z7⟩;go_simp
   simp only[dJ,dK,dL,dM];refine d7 2 (.agg #[.string c.name,.slice c.ad l.length c.dc,.int .i64 (l.length:Int),.bool true,.int .u32 (c.uid:Int),.int .i64 (c.stamp:Int),.int .u32 (c.flags:Int)]) rfl (fun _ _ _ h=>h) (Or.inl ⟨by rfl,?_⟩) U ?_
   ·rintro wz ⟨z0,z1,z2,z3,z4,z5,z6,z7⟩;go_simp
   simp only[dJ,dK,dL,dM];refine ee 3 rfl (by kernel_rfl) (fun K L=> ?_);refine ii 275 Al (.tmp 22) #[219] (by rfl) (by rfl) (.agg #[.string c.name,.slice c.ad l.length c.dc,.int .i64 (l.length:Int),.bool true,.int .u32 (c.uid:Int),.int .i64 (c.stamp:Int),.int .u32 (c.flags:Int)]) (by simp[go_sem]) ?_;refine(CC.out _ (MJ _ _).drew).mono ?_;rintro e V ⟨M,N,rfl,aA,ak⟩;have aG:=a8 (Q.out.below ak);have aY:=a8 aA;have an:=a8 (A.out.below ak A.out.lt);have aq:LdS wr.heap.size z.heap.size (.string c.name) (.slice c.ad l.length c.dc) (.int .i64 (l.length:Int)) (.bool true) (.int .u32 (c.uid:Int)) (.int .i64 (c.stamp:Int)) (.int .u32 (c.flags:Int)) (.slice E j G) V:=bb.out.below ak A.out.lt Q.out.st.lt;have aP:=a8 (show iM ((ys++[(⟨⟨c.uid,c.stamp,c.flags,l⟩,M,N⟩:VM)]).map VM.v) from Ba aE.out Q.out.bod aA);have aW:=a8 (show W.heap.size≤X.heap.size from Q.out.bel.size);refine⟨_,rfl,L _ _ (fun _=>aq) ?_⟩;clear L K U CC aA ak
   try simp only[dJ,dK,dL,dM]
   refine ee 4 rfl (by kernel_rfl) (fun K L=> ?_);go_simp;have af:=nAl V (.cells #[.int .u32 (c.uid:Int),.int .i64 (c.stamp:Int),.int .u32 (c.flags:Int),.slice M l.length N] 57);have aI:=a8 (dN V #[.int .u32 (c.uid:Int),.int .i64 (c.stamp:Int),.int .u32 (c.flags:Int),.slice M l.length N] 57);have ae:=a8 (aG.out.below af);have aJ:=a8 (show dO (V.alloc (.cells #[.int .u32 (c.uid:Int),.int .i64 (c.stamp:Int),.int .u32 (c.flags:Int),.slice M l.length N] 57)) W.heap.size (.slice M l.length N) l from(aY.out.below af (MH _)).mono aW.out);have ar:LdS wr.heap.size z.heap.size (.string c.name) (.slice c.ad l.length c.dc) (.int .i64 (l.length:Int)) (.bool true) (.int .u32 (c.uid:Int)) (.int .i64 (c.stamp:Int)) (.int .u32 (c.flags:Int)) (.slice E j G) (V.alloc (.cells #[.int .u32 (c.uid:Int),.int .i64 (c.stamp:Int),.int .u32 (c.flags:Int),.slice M l.length N] 57)):=aq.below af an.out.lt aG.out.st.lt;have aj:=a8 (an.out.below af an.out.lt);refine L _ _ (fun _=>ar) ?_;clear L K af
   try simp only[dJ,dK,dL,dM]
   generalize V.alloc (.cells #[.int .u32 (c.uid:Int),.int .i64 (c.stamp:Int),.int .u32 (c.flags:Int),.slice M l.length N] 57)=Z at aI ae aJ ar aj⊢;refine ee 5 rfl (by kernel_rfl) (fun K L=> ?_);refine mQ _ (by rfl) (.tmp 21) (.tmp 24) (by rfl) W.heap.size (.slice E j G) ys (⟨⟨c.uid,c.stamp,c.flags,l⟩,M,N⟩:VM) V.heap.size 1 (by simp[go_sem]) (by simp[go_sem]) ae.out.row (fun j v hj=>(aI.out.cell j).trans (by simpa[vmC] using hj)) (by have:=aa.out;omega) ae.out.bel.size ?_;intro v7 w7 az ay;have al:=ae.out.app aJ.out az ay;obtain⟨a7,c7,aO⟩:=b9.slice az;rw[show((ys++[(⟨⟨c.uid,c.stamp,c.flags,l⟩,M,N⟩:VM)]).map vmC).length=j+1 by rw[MI,MT,aa.out];rfl] at aO;subst aO;have z5:=al.1;have bd:=al.2.1;have aT:=a8 al.2.2;have R:=a8 (ey aj.out (ay.block _ aj.out.lt (fun e=>eM ae.out.row aj.out (by decide) e.symm)));have ap:LdS wr.heap.size z.heap.size (.string c.name) (.slice c.ad l.length c.dc) (.int .i64 (l.length:Int)) (.bool true) (.int .u32 (c.uid:Int)) (.int .i64 (c.stamp:Int)) (.int .u32 (c.flags:Int)) (.slice E j G) w7:=⟨R.out.cell 0,R.out.cell 1,R.out.cell 2,R.out.cell 3,R.out.cell 4,R.out.cell 5,R.out.cell 6,z5⟩
   refine L _ _ (fun _=>ap) ?_;clear L K al ay ar aq az;have U:=ap
   try simp only[dJ,dK,dL,dM]
   refine d7 6 (.pointer (some ⟨z.heap.size,5,none⟩)) rfl (fun _ _ _ h=>h) (Or.inl ⟨by rfl,?_⟩) U ?_
   ·rintro wz ⟨z0,z1,z2,z3,z4,z5,z6,z7⟩;go_simp
   simp only[dJ,dK,dL,dM];refine ee 7 rfl (by kernel_rfl) (fun K L=> ?_);go_simp;refine L _ _ (fun h=>by cases h) (fI (by kernel_rfl) ?_ _);clear L K U ap z5 bd;go_wp2;refine⟨⟨j+1,a7,c7,ys++[(⟨⟨c.uid,c.stamp,c.flags,l⟩,M,N⟩:VM)],by omega,by go_num,a8 (by rw[MT,aa.out];rfl),a8 ?_,aP,aT⟩,by simp[intOf];omega⟩;rw[MS,aK.out,au.out];rfl
  ·have bf:j=cs.length:=(by omega);subst bf;have aR:=a8 (show ys.map VM.x=cs.map (fun c=>⟨c.uid,c.stamp,c.flags,J c⟩) by have:=aK.out;rw[NE] at this;exact this);have aX:=a8 (show w.heap.size≠z.heap.size from by have:=aZ.out;omega);have O:=a8 (ey ao.out (HI.out.bel.block w.heap.size ao.out.lt aX.out));obtain⟨r0,r1,r2,r3,r4,r5⟩:=O.out.c6;have fr:=fun j=>O.out.fz j;obtain⟨y0,y1,y2,y3,y4,y5⟩:=HI.out.st.c6;clear ai;go_wp2;refine bodyPost_ret (iI w.heap.size _ (.int .i64 0) (.int .i64 3) (.int .u32 (val:Int)) (.int .u32 (next:Int)) (.int .u32 0) (.slice E cs.length G) rfl rfl (nV O.out)) rfl ?_;have aB:=VwJ.fin (wE:=w) (gr:=w.heap.size) (ys:=ys) (by rw[aa.out];exact HI.out) ac.out aH.out O.out (MH _);rw[aa.out] at aB;obtain⟨ma,mc,e1,e2,e3,e4⟩:=aB;exact⟨ys,⟨ma,mc,e1.trans (by rw[aa.out] at*),e2,fun m hm=>(e3 m hm).mono ac.out.size,e4⟩,aR.out,aE.out⟩
def mvI(p:Value)(c:Nat):Array Value:= #[p,.string ⟨#[]⟩,.slice none 0 0,.int .i64 0,.int .u32 (c:Int),.int .u32 0,.int .u32 0,.string ⟨#[]⟩,.slice none 0 0,.int .i64 0,.map none,.slice none 0 0]
structure CuR(gm gw B:Nat)(w wr:World)(p:Value)(c:Nat)(ws:List ByteArray):Prop where
 st:Blk wr gm (mvI p c) 208
 tw:TW wr gw ws
 fr:dV gm B w wr
 sz:B≤wr.heap.size
 n1:gm<B
 n2:B≤gw
section
variable {gm gw B:Nat} {w wr wr':World} {p:Value} {c:Nat} {ws:List ByteArray}
theorem CuR.word{r:List ByteArray}(h:CuR gm gw B w wr p c ws)(z:kC gw wr wr')(E:TW wr' gw r):CuR gm gw B w wr' p c r:=by
 have A:gm≠gw:=(by have:=h.n1;have:=h.n2;omega);exact⟨ey h.st (z.block gm h.st.lt A),E,h.fr.trans ⟨z.os,z.tape,z.output,z.size,fun k G I=>z.block k (by have:=h.sz;omega) (by have:=h.n2;omega)⟩,MN h.sz z.size,h.n1,h.n2⟩
theorem CuR.env(h:CuR gm gw B w wr p c ws)(A:∀w',dV gm B w w'→Env w'):∀w',kC gw wr w'→Env w':=fun w' z=>A w' (h.fr.trans ⟨z.os,z.tape,z.output,z.size,fun k E G=>z.block k (by have:=h.sz;omega) (by have:=h.n2;omega)⟩)
theorem CuR.set(h:CuR gm gw B w wr p c ws)(n:Nat):CuR gm gw B w (wr.setCell ⟨gm,4,none⟩ (.int .u32 (n:Int))) p n ws:=by
 refine⟨h.st.set 4 (.int .u32 (n:Int)),?_,h.fr.set _,by simpa using h.sz,h.n1,h.n2⟩;exact h.tw.keep (fun g E t z A=>heap_setCell_other wr ⟨gm,4,none⟩ g _ (by
  have:g≠gm:=kY z h.st (by rcases A with rfl|rfl<;>decide);simpa using this))
def KB(gm B:Nat)(w0 w':World)(p:Value):Prop:=dV gm B w0 w'∧∃c,Blk w' gm (mvI p c) 208
theorem CuR.bad(h:CuR gm gw B w wr p c ws):KB gm B w wr p:=⟨h.fr,c,h.st⟩
theorem CuR.on(h:CuR gm gw B w wr p c ws)(z:kC gw wr wr'):KB gm B w wr' p:=
 ⟨h.fr.trans ⟨z.os,z.tape,z.output,z.size,fun k A E=>z.block k (by have:=h.sz;omega) (by have:=h.n2;omega)⟩,c,ey h.st (z.block gm h.st.lt (by have:=h.n1;have:=h.n2;omega))⟩
end
def Mr(gm gw B:Nat)(w0:World)(p:Value)(o:Option Nat)(e:Ending)(w':World):Prop:=(∃c' r,e= .returned (.tuple #[])∧CuR gm gw B w0 w' p c' r∧o=if r=[] then some c' else none)∨(mp e∧o=none∧KB gm B w0 w' p)
theorem Ji{x:List UInt8}{r:List (List UInt8)}{c:Nat}(h:x=[66]):eN true (x::r) c=if r=[] then some c else none:=by
 subst h;unfold eN;rw[if_pos rfl];cases r with
 |nil=>rfl
 |cons y r=>rw[if_neg (by simp),if_neg (by simp)]
theorem rL{ws:List (List UInt8)}{c:Nat}(h:ws.head?≠some [66]):eN true ws c=none:=by
 unfold eN;rw[if_pos rfl,if_neg];rintro rfl;exact h rfl
theorem yB{ws:List (List UInt8)}{c:Nat}(h:ws.head?≠some [67]):eN false ws c=none:=by
 unfold eN;rw[if_neg (by simp)];split
 ·next a b=>rw[if_neg (fun e=>h (by rw[e];rfl))]
 ·rfl
theorem Jk{r:List (List UInt8)}{c:Nat}(h:(match r with|[]=>none|x::_=>dS x 1 4294967295)=none):eN false ([67]::r) c=none:=by
 unfold eN;rw[if_neg (by simp)];split
 ·next a b e=>
  simp only[List.cons.injEq] at e;obtain⟨rfl,rfl⟩:=e;simp only at h;rw[show fY=4294967295 from rfl,h];simp
 ·rfl
theorem D4{b:List UInt8}{r:List (List UInt8)}{c n:Nat}(h:dS b 1 4294967295=some n):eN false ([67]::b::r) c=if c<n then(if r=[] then some n else none) else none:=by
 unfold eN;rw[if_neg (by simp)];cases r with
 |nil=>
  simp only;rw[show fY=4294967295 from rfl];simp[h]
 |cons y r=>simp
theorem te(J K B k:Nat)(w wr:World)(p:Value)(c:Nat)(ws:List ByteArray)(hR:CuR J K B w wr p c ws)(hE:∀w',dV J B w w'→Env w')(ae:∀y∈ws,y.size≤40000):
  Calls Tryz.prog 111 #[.pointer (some ⟨J,0,none⟩),.int .i64 (k:Int),.pointer (some ⟨K,0,none⟩)] wr (Mr J K B w p (eN (decide (k=0)) (ws.map (·.data.toList)) c)):=by
 have HE:=a8 hE;have Z:=a8 hR;have aa:=a8 ae;have Y:=a8 (mW K ws wr hR.tw);clear hE hR ae;go_enter Tryz.func111,Tryz.ntmps111;go_wp2_with fail;refine Y.out.mono ?_;rintro e w1 (⟨x,r,rfl,rfl,ac,ab⟩|⟨rfl,aj,rfl⟩)
 ·have E:=a8 (Z.out.word ab ac);have ai:=a8 (show∀y∈r,y.size≤40000 from fun y hy=>aa.out y (MV _ hy));clear ac ab Y Z aa;by_cases R:k=0
  ·subst R;by_cases A:x=⟨#[66]⟩
   ·subst A;have z:=a8 (show eN (decide (0=0)) ((⟨#[66]⟩::r).map (·.data.toList)) c=if r=[] then some c else none from(Ji (r:=r.map (fun x:ByteArray=>x.data.toList)) rfl).trans (by cases r<;>simp));go_wp2
    go_end0
    exact Or.inl ⟨c,r,rfl,E.out,z.out⟩
   ·have z:=a8 (show eN (decide (0=0)) ((x::r).map (·.data.toList)) c=none from rL (fun e=>A (ql (by simpa using e))));have ak:(x.toList==[66])=false:=rC A;clear A;go_wp2;exact⟨rfl,Or.inr ⟨⟨_,rfl⟩,z.out,E.out.bad⟩⟩
  ·have am:((k:Int)==0)=false:=(by simp;omega);have al:(0:Int)<(k:Int):=(by omega);have U:=a8 (show decide (k=0)=false by simpa using R);by_cases A:x=⟨#[67]⟩
   ·subst A;have V:=a8 (ka K r w1 E.out.tw (E.out.env HE.out) ai.out);clear R;go_wp2_with fail;refine V.out.mono ?_;rintro e w2 ⟨N,⟨x1,L,G,rfl,I,rfl,ad⟩|⟨hf,I⟩⟩
    ·have M:=a8 (E.out.word N ad);have Q:=a8 (show eN (decide (k=0)) ((⟨#[67]⟩::x1::L).map (·.data.toList)) c=if c<G then(if L=[] then some G else none) else none by
      rw[U.out];exact(D4 (r:=L.map (fun x:ByteArray=>x.data.toList)) I).trans (by cases L<;>simp))
     obtain⟨-,-,-,-,c4⟩:=M.out.st.c5;have fz:=fun j=>M.out.st.fz j;have ah:=a8 (M.out.set G);clear N ad I V;by_cases O:c<G
     ·have af:¬(G:Int)≤(c:Int):=(by omega);rw[if_pos O] at Q;clear O;go_wp2
      go_end0
      exact Or.inl ⟨G,L,rfl,ah.out,Q.out⟩
     ·have af:(G:Int)≤(c:Int):=(by omega);rw[if_neg O] at Q;clear O;go_wp2;exact⟨rfl,Or.inr ⟨⟨_,rfl⟩,Q.out,M.out.bad⟩⟩
    ·obtain⟨t,rfl⟩:=hf;have z:=a8 (show eN (decide (k=0)) ([67]::r.map (·.data.toList)) c=none by rw[U.out];exact Jk (by cases r<;>exact I));have ag:=a8 (E.out.on N);clear I N V;go_wp2;exact⟨rfl,Or.inr ⟨⟨t,rfl⟩,z.out,ag.out⟩⟩
   ·have z:=a8 (show eN (decide (k=0)) ((x::r).map (·.data.toList)) c=none by rw[U.out];exact yB (fun e=>A (ql (by simpa using e))));have ak:(x.toList==[67])=false:=rC A;clear A R;go_wp2;exact⟨rfl,Or.inr ⟨⟨_,rfl⟩,z.out,E.out.bad⟩⟩
 ·obtain⟨t,rfl⟩:=aj;have z:=a8 (show eN (decide (k=0)) (([]:List ByteArray).map (·.data.toList)) c=none from by
   cases decide (k=0)
   ·exact yB (by simp)
   ·exact rL (by simp))
  clear Y;go_wp2;exact⟨rfl,Or.inr ⟨⟨t,rfl⟩,z.out,Z.out.bad⟩⟩
section
open Go.Maps
def kU(u:Nat):Lit:= .int .u32 (u:Int)
theorem Ma:Keyed Tryz.prog 28:=int_keyed Tryz.underlying28
theorem LZ(u:Nat)(h:u≤4294967295):keyOf Tryz.prog 28 (.int .u32 (u:Int))=some (kU u):=keyOf_int_mk Tryz.underlying28 (by
 have z:IntKind.u32.min=0:=(by decide);have A:IntKind.u32.max=4294967295:=(by decide);simp[Lit.wf,z,A];omega)
def ij(w:World)(b:Nat)(ds:List Nat):Prop:=∃(n:Nat) (D:DataW Unit),n≤ds.length∧w.ownsMap Tryz.prog 28 unitElem b n D∧∀u,u≤4294967295→Maps.has D (kU u)=decide (u∈ds)
theorem ij.keep{w w':World}{b:Nat}{ds:List Nat}(h:ij w b ds)(J:w'.heap[b]? =w.heap[b]?):ij w' b ds:=by
 obtain⟨n,D,E,⟨A,c,G,z⟩,I⟩:=h;exact⟨n,D,E,⟨A,c,J.trans G,z⟩,I⟩
theorem ij.lt{w:World}{b:Nat}{ds:List Nat}(h:ij w b ds):b<w.heap.size:=by
 obtain⟨n,D,A,z,E⟩:=h;exact z.lt
theorem Ld(u:Nat):WideAt.IsKeyLit (kU u):=trivial
theorem Lf{u v:Nat}(h:kU u=kU v):u=v:=by
 unfold kU at h;simp only[Lit.int.injEq,true_and] at h;omega
theorem ij.put{w':World}{b n u:Nat}{D:DataW Unit}{ds:List Nat}(z:n≤ds.length)(A:∀u,u≤4294967295→Maps.has D (kU u)=decide (u∈ds))(E:IsMap D)(G:w'.ownsMap Tryz.prog 28 unitElem b (n+1) (D.put (kU u) (.agg []))):ij w' b (ds++[u]):=by
 refine⟨n+1,_,by simpa using z,G,fun v I=> ?_⟩;by_cases e:v=u
 ·subst e;rw[has_put_same E (Ld v)];simp
 ·rw[has_put_other (fun h=>e (Lf h)),A v I];simp[e]
def mdI(s:UX)(bd:Nat):Array Value:= #[.int .u32 (s.val:Int),.int .u32 (s.next:Int),.string ⟨#[]⟩,.slice none 0 0,.int .i64 0,.map (some bd),.slice none 0 0]
structure UdR(gm bd gw B:Nat)(w wr:World)(s:UX)(ws:List ByteArray):Prop where
 st:Blk wr gm (mdI s bd) 206
 dd:ij wr bd s.dead
 tw:TW wr gw ws
 fr:gM (fun k=>k=gm∨k=bd) B w wr
 sz:B≤wr.heap.size
 n1:gm<B
 n3:bd<B
 ne:gm≠bd
 n2:B≤gw
section
variable {gm bd gw B:Nat} {w wr wr':World} {s:UX} {ws:List ByteArray}
theorem gM.one{S:Nat→Prop}(h:gM S B w wr)(z:kC gw wr wr')(I:B≤wr.heap.size)(G:B≤gw):gM S B w wr':=
 ⟨z.os.trans h.os,z.tape.trans h.tape,z.output.trans h.output,MN h.size z.size,fun k A E=>(z.block k (by omega) (by omega)).trans (h.block k A E)⟩
theorem UdR.word{r:List ByteArray}(h:UdR gm bd gw B w wr s ws)(z:kC gw wr wr')(A:TW wr' gw r):UdR gm bd gw B w wr' s r:=by
 have E:=h.n1;have G:=h.n2;have I:=h.n3;exact⟨ey h.st (z.block gm h.st.lt (by omega)),h.dd.keep (z.block bd h.dd.lt (by omega)),A,h.fr.one z h.sz h.n2,MN h.sz z.size,h.n1,h.n3,h.ne,h.n2⟩
theorem UdR.env(h:UdR gm bd gw B w wr s ws)(z:∀w',gM (fun k=>k=gm∨k=bd) B w w'→Env w'):∀w',kC gw wr w'→Env w':=fun w' A=>z w' (h.fr.one A h.sz h.n2)
theorem UdR.put(h:UdR gm bd gw B w wr s ws)(j:Nat)(u:Value)(s':UX)(I:s'.dead=s.dead)(E:(mdI s bd).setIfInBounds j u=mdI s' bd):UdR gm bd gw B w (wr.setCell ⟨gm,j,none⟩ u) s' ws:=by
 have L:=h.n1;refine⟨?_,?_,?_,?_,by simpa using h.sz,h.n1,h.n3,h.ne,h.n2⟩
 ·have:=h.st.set j u;rw[E] at this;exact this
 ·rw[I];exact h.dd.keep (heap_setCell_other wr ⟨gm,j,none⟩ bd u (fun e=>h.ne (show gm=bd from(show bd=gm from e).symm)))
 ·exact h.tw.keep (fun g K t A J=>heap_setCell_other wr ⟨gm,j,none⟩ g u (by
   have:g≠gm:=kY A h.st (by rcases J with rfl|rfl<;>decide);simpa using this))
 ·exact⟨h.fr.os,h.fr.tape,h.fr.output,by simpa using h.fr.size,fun k G z=>(heap_setCell_other wr ⟨gm,j,none⟩ k u (fun e=>z (.inl e))).trans (h.fr.block k G z)⟩
def KC(gm bd B:Nat)(w0 w':World):Prop:=gM (fun k=>k=gm∨k=bd) B w0 w'∧∃s,Blk w' gm (mdI s bd) 206
theorem UdR.bad(h:UdR gm bd gw B w wr s ws):KC gm bd B w wr:=⟨h.fr,s,h.st⟩
theorem UdR.on(h:UdR gm bd gw B w wr s ws)(z:kC gw wr wr'):KC gm bd B w wr':=⟨h.fr.one z h.sz h.n2,s,ey h.st (z.block gm h.st.lt (by have:=h.n1;have:=h.n2;omega))⟩
theorem UdR.bury{u n:Nat}{D:DataW Unit}(h:UdR gm bd gw B w wr s ws)(J:n≤s.dead.length)(K:∀u,u≤4294967295→Maps.has D (kU u)=decide (u∈s.dead))(M:IsMap D)(N:wr'.ownsMap Tryz.prog 28 unitElem bd (n+1) (D.put (kU u) (.agg [])))(z:wr.grownBy wr' (some bd)):UdR gm bd gw B w wr' {s with dead:=s.dead++[u]} ws:=by
 have R:=h.n1;have U:=h.n2;have V:=h.n3;refine⟨ey h.st (z.block gm h.st.lt (fun e=>h.ne (by simpa using e))),ij.put J K M N,?_,?_,MN h.sz z.size,h.n1,h.n3,h.ne,h.n2⟩
 ·obtain⟨n9,Q,_,⟨Y,c,G,_⟩,_⟩:=h.dd;exact h.tw.keep (fun g O t A Z=>z.block g A.lt (fun e=>by
   have I:g=bd:=(by simpa using e);subst I;unfold Blk at A;rw[G] at A;cases A))
 ·exact⟨z.os.trans h.fr.os,z.tape.trans h.fr.tape,z.output.trans h.fr.output,MN h.fr.size z.size,fun k L E=>(z.block k (by have:=h.sz;omega) (fun e=>E (.inr (by simpa using e)))).trans (h.fr.block k L E)⟩
end
def LI(gm bd gw B:Nat)(w0:World)(o:Option UX)(e:Ending)(w':World):Prop:=(∃s' r,e= .returned (.tuple #[])∧UdR gm bd gw B w0 w' s' r∧o=if r=[] then some s' else none)∨(mp e∧o=none∧KC gm bd B w0 w')
theorem nu{x:List UInt8}{lo E LO HI:Nat}(I:LO≤lo)(J:E≤HI):dS x lo E=match dS x LO HI with
  |some u=>if lo≤u∧u≤E then some u else none
  |none=>none:=by
 unfold dS;by_cases z:x=Lib.decDigits (gz 0 x)
 ·by_cases A:lo≤gz 0 x∧gz 0 x≤E
  ·rw[if_pos ⟨z,A⟩,if_pos ⟨z,by omega,by omega⟩];simp only;rw[if_pos A]
  ·rw[if_neg (fun h=>A h.2)];by_cases G:LO≤gz 0 x∧gz 0 x≤HI
   ·rw[if_pos ⟨z,G⟩];simp only;rw[if_neg A]
   ·rw[if_neg (fun h=>G h.2)]
 ·rw[if_neg (fun h=>z h.1),if_neg (fun h=>z h.1)]
end
end Go.Proofs.YtpdbolihakojcaaGreatDoor
