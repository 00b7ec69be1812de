import Derived.Test.YtkkdfgnnlpohlaaGreatDoorPkzf
import Derived.Test.YtkkdfgnnlpohlaaGreatDoorPkze
import Derived.Test.YtkkdfgnnlpohlaaGreatDoorPkz
namespace Go.Proofs.YtkkdfgnnlpohlaaGreatDoor
set_option maxRecDepth 20000
set_option linter.unusedVariables false
set_option linter.unusedSimpArgs false
set_option maxHeartbeats 4000000
open Go.RowKit Go.Proofs.Tryz
variable {W X Y w w' w0 wr : World} {A B at_ b b2 base' c cap e f g go gs hi i j k lo m n s u val z : Nat} {E G I J K L M N O u0 u1 u2 v0 v1 v2 v3 v4 v5 v6 x y : Value} {o : Oper} {Q : Exit → Act → World → Prop} {cs tmps : Array Value} {t : TypeId} {p : Addr} {l : List Nat} {bvs xs : List Value} {a : List UInt8} {first ok : Bool}
section
open Go.Sort Go.Lib
theorem Kd{d:LN}{l:List (Nat×Nat×LN)}(h:iK d=some l)(G:∀x∈d,x<256):∀i (hi:i<l.length),∀x∈l[i].2.2,x<256:=by
 unfold iK at h;split at h
 ·cases h
 ·next hn=>
  simp only[OY] at h;subst h;intro i hi x A;have e:((List.range (dN (eo d)).length).map (nW d (dN (eo d))))[i]=nW d (dN (eo d)) i:=(by simp);rw[e] at A;refine zD _ (fun y E=> ?_) x A;unfold et at E;have z:=Pk (Pi E);unfold gM at z;exact G y (Pk (Pi z))
def mbF(s:IX)(i0 i1 i2 t0 t1 t2 mv:Value):Array Value:= #[.int .u32 (s.val:Int),.int .u32 (s.next:Int),.int .u64 (s.gen:Int),i0,i1,i2,t0,t1,t2,mv]
structure MbP(w0 wr:World)(gm:Nat)(A:Array Value)(mv:Value)(es:List (List Value)):Prop where
 st:Blk wr gm A 214
 row:dM wr w0.heap.size 243 6 mv es
 bel:Below w0.heap.size w0 wr
 lo:w0.heap.size≤gm
theorem MbP.below{w0 wr wr':World}{G:Nat}{A:Array Value}{I:Value}{E:List (List Value)}(h:MbP w0 wr G A I E)(z:Below wr.heap.size wr wr'):MbP w0 wr' G A I E:=
 ⟨h.st.below z h.st.lt,dM.below h.row z (OV _),h.bel.trans (z.mono h.bel.size),h.lo⟩
theorem MbP.set{w0 wr:World}{z:Nat}{A:Array Value}{G:Value}{E:List (List Value)}(h:MbP w0 wr z A G E)(j:Nat)(u:Value):MbP w0 (wr.setCell ⟨z,j,none⟩ u) z (A.setIfInBounds j u) G E:=
 ⟨h.st.set j u,dM.keep h.row (fun g I=>OQ wr ⟨z,j,none⟩ g u (by
  intro e;have e:g=z:=e;subst e;exact eV h.row h.st (by decide) I)),h.bel.setCell (p:=⟨z,j,none⟩) h.lo u,h.lo⟩
theorem G9{ms:List IM}(I:ms.length≤100)(z:∀m∈ms,m.size≤40000)(j:Nat):dH (ms.take j)≤4000000:=by
 have:∀(l:List IM),(∀m∈l,m.size≤40000)→dH l≤l.length*40000:=by
  intro l
  induction l with
  |nil=>intro _;simp[dH]
  |cons m l ih=>
   intro h;have:=ih (fun x G=>h x (O8 _ G));have:=h m (by simp);simp only[dH,Pe,List.sum_cons,Pf] at*;omega
 have A:=this (ms.take j) (fun m E=>z m (Pi E));rw[Pa] at A;have:min j ms.length*40000≤100*40000:=PN _ (by omega);omega
theorem En(ms:List IM)(j:Nat)(h:j<ms.length):dH (ms.take (j+1))=dH (ms.take j)+ms[j].size:=by
 unfold dH;rw[fD ms j h,O7,List.sum_append];simp only[Pe,PD,List.sum_cons,List.sum_nil,Nat.add_zero]
theorem Ee{w:World}{lo:Nat}{a:OA}{n cap:Nat}{z:List S3}{L:List (LN)}(h:gQ w lo (.slice a n cap) z L)(V:0<L.length):∃g,a=some ⟨g,0,none⟩∧∀j (K:j<z.length),w.cell? ⟨g,j*3,none⟩=some (.int .i64 (z[j].1:Int))∧w.cell? ⟨g,j*3+1,none⟩=some (.int .i64 (z[j].2.1:Int))∧w.cell? ⟨g,j*3+2,none⟩=some z[j].2.2:=by
 have A:=h.row;rcases A.2 with⟨_,U⟩|⟨g,Q,R,J,_⟩
 ·omega
 ·simp only[O3] at J;obtain⟨rfl,rfl,rfl⟩:=J;refine⟨g,rfl,fun j K=> ?_⟩;obtain⟨M,N,O⟩:=tl z j K;have E:=OD A (g:=g) rfl _ _ M;have G:=OD A (g:=g) rfl _ _ N;have I:=OD A (g:=g) rfl _ _ O;rw[ez,Ps] at E G I;exact⟨E,G,I⟩
theorem GF{w w':World}{lo:Nat}{v:Value}{E:List S3}{A:List (LN)}(h:gQ w lo v E A)(z:∀g,lo≤g→g<w.heap.size→w'.heap[g]? =w.heap[g]?):gQ w' lo v E A:=
 ⟨h.len,lh h.row z,fun i hi=>by
  obtain⟨x,I,G⟩:=h.body i hi;exact⟨x,I,lh G z⟩,h.apart⟩
theorem DT{w:World}{b1 b2 e k g n cap:Nat}{A:List (List Value)}(h:dM w b1 e k (sS g n cap) A)(J:b2≤g):dM w b2 e k (sS g n cap) A:=by
 refine⟨h.1,h.2.1,?_⟩;rcases h.2.2 with⟨z,_⟩|⟨g',K,I,E,L,G⟩
 ·cases z
 ·simp only[O3,OY,PG] at E;obtain⟨⟨rfl,_⟩,z,rfl⟩:=E;exact .inr ⟨g,cap,I,by rw[z],J,G⟩
def TkS(gm gp:Nat)(c0 p0 p1 p2:Value)(w:World):Prop:=w.cell? ⟨gm,9,none⟩=some c0∧w.cell? ⟨gp,0,none⟩=some p0∧w.cell? ⟨gp,1,none⟩=some p1∧w.cell? ⟨gp,2,none⟩=some p2
theorem BP(v u:Value)(w:World):(callFunc 155 #[v,u]).run prog w= .ok (.enter 155 #[v,u]) w:=by
 go_simp
theorem gX{w0 w w':World}{gr B:Nat}(h:Below w0.heap.size w0 w)(z:dX gr B w w')(G:w0.heap.size≤gr)(E:w0.heap.size≤B:=by omega):Below w0.heap.size w0 w':=
 ⟨z.os.trans h.os,z.tape.trans h.tape,z.output.trans h.output,O0 h.size z.size,fun k A=>(z.block k (by omega) (by omega)).trans (h.block k A)⟩
structure xS(w0 wr:World)(gm:Nat)(A:Array Value)(mv:Value)(L5:Nat)(lv:Value)(vs:List S3)(ms:List IM)(xs:List (Nat×Nat×LN))(j:Nat)(bvs:List Value):Prop where
 mb:MbP w0 wr gm A mv (List.zipWith il1 ms bvs)
 os:gQ wr L5 lv vs (xs.map (·.2.2))
 len:bvs.length=ms.length
 sz:L5≤wr.heap.size
 don:∀k (h:k<j) (h1:k<ms.length) (h2:k<xs.length) (h3:k<bvs.length) (h4:k<vs.length),∃b,eY ms[k] xs[k]=some b∧dR wr L5 bvs[k] b∧bvs[k].ownBlock=vs[k].2.2.ownBlock
theorem xS.below{w0 wr wr':World}{G:Nat}{A:Array Value}{J:Value}{E:Nat}{I:Value}{K:List S3}{ms:List IM}{xs:List (Nat×Nat×LN)}{j:Nat}{bvs:List Value}(h:xS w0 wr G A J E I K ms xs j bvs)(z:Below wr.heap.size wr wr'):xS w0 wr' G A J E I K ms xs j bvs:=
 ⟨h.mb.below z,h.os.below z (OV _),h.len,O0 h.sz z.size,fun k V O Q R U=>by
  obtain⟨b,L,M,N⟩:=h.don k V O Q R U;exact⟨b,L,M.below z (OV _),N⟩⟩
theorem xS.step{w0 X w':World}{G gr n cap:Nat}{A:Array Value}{E:Nat}{N:Value}{I:List S3}{ms:List IM}{xs:List (Nat×Nat×LN)}{j:Nat}{bvs:List Value}{bv:Value}{b:LN}(h:xS w0 X G A (sS gr n cap) E N I ms xs j bvs)(z:TkR gr X.heap.size X w' n cap ms (bvs.set j bv))(hg:gr<E)(hj:j<ms.length)(hx:j<xs.length)(hv:j<I.length)(hb:eY ms[j] xs[j]=some b)(ho:dR w' E bv b)(Q:bv.ownBlock=I[j].2.2.ownBlock):xS w0 w' G A (sS gr n cap) E N I ms xs (j+1) (bvs.set j bv):=by
 have M:∀g,E≤g→g<X.heap.size→w'.heap[g]? =X.heap[g]? :=fun g L J=>z.bel.block g J (by omega);have O:G≠gr:=fun e=>by
  have:=eV h.mb.row h.mb.st (by decide);exact this (by rw[e];rfl)
 refine⟨⟨eA h.mb.st (z.bel.block G h.mb.st.lt O),DT z.row (dM.lt h.mb.row gr rfl).1,?_,h.mb.lo⟩,GF h.os M,by simp[h.len],O0 h.sz z.bel.size,fun k aa L J Z h4=> ?_⟩
 ·exact⟨z.bel.os.trans h.mb.bel.os,z.bel.tape.trans h.mb.bel.tape,z.bel.output.trans h.mb.bel.output,O0 h.mb.bel.size z.bel.size,fun g K=>(z.bel.block g (Pb K h.mb.bel.size) (by have:=(dM.lt h.mb.row gr rfl).1;omega)).trans (h.mb.bel.block g K)⟩
 ·by_cases e:k=j
  ·subst e;exact⟨b,hb,by rw[Pq];exact ho,by rw[Pq];exact Q⟩
  ·obtain⟨R,U,V,Y⟩:=h.don k (by omega) L J (by simpa using Z) h4;refine⟨R,U,?_,?_⟩
   ·rw[List.getElem_set_ne (fun h=>e h.symm)];exact lh V M
   ·rw[List.getElem_set_ne (fun h=>e h.symm)];exact Y
structure MbS(w0 w:World)(gm:Nat)(s:IX)(D:dO)(i0 i1 i2:Value)(r:List XM)(ta:OA)(tc:Nat)(am:OA)(cm:Nat)(bvs:List Value):Prop where
 mb:MbP w0 w gm (mbF s i0 i1 i2 (.string (ej s.gen)) (.slice ta (b9 D (ej s.gen)).2.length tc) (.int .i64 (dH s.mails:Int)) (.slice am s.mails.length cm)) (.slice am s.mails.length cm) (List.zipWith il1 s.mails bvs)
 tx:fV w0 ta tc (b9 D (ej s.gen)).2
 len:bvs.length=s.mails.length
 rl:r.length=s.mails.length
 bod:∀k (h1:k<bvs.length) (h2:k<r.length),dR w w0.heap.size bvs[k] r[k].body
 apart:bvs.Pairwise fun x y=>x.ownBlock=none∨x.ownBlock≠y.ownBlock
def MK(w0:World)(gm:Nat)(s:IX)(D:dO)(i0 i1 i2:Value)(e:Ending)(w':World):Prop:=
 (∃r ta tc am cm bvs,fd s.mails (b9 D (ej s.gen))=some r∧e= .returned .nilIface∧MbS w0 w' gm s D i0 i1 i2 r ta tc am cm bvs)∨
 (fd s.mails (b9 D (ej s.gen))=none∧∃t,e= .returned (gB (ej s.gen) t)∧Below w0.heap.size w0 w')
theorem yT(z:Nat)(w0 w:World)(v:Value)(D:dO)(s:IX)(i0 i1 i2:Value)(I:OA)(E:Nat)(hv:eM D)(hd:kJ w0 v D)(aA:l5 s)(bb:TabIs prog w "internal/strconv.uint64pow10" .u64 Lib.pow10Tab)
  (hP:MbP w0 w z (mbF s i0 i1 i2 (.string ⟨#[]⟩) (sN) (.int .i64 0) (.slice I s.mails.length E)) (.slice I s.mails.length E) (s.mails.map il0)):
  Calls prog 120 #[pP z,v] w (MK w0 z s D i0 i1 i2):=by
 have HD:=a8 hd;obtain⟨a1,c1,a2,c2,a3,c3,a4,c4,bP,r1,r2,r3,r4⟩:=hd;subst bP;have hA:=nAl w (.cells (dkA a1 c1 a2 c2 a3 c3 a4 c4 D) 34);have HX:=a8 (dQ w (dkA a1 c1 a2 c2 a3 c3 a4 c4 D) 34);have HP:=a8 (hP.below hA);have bj:=a8 aA;have HV:=a8 hv;have CT:=a8 (Ep s.gen _ aA.gen (Lib.tabIs_alloc bb (.cells (dkA a1 c1 a2 c2 a3 c3 a4 c4 D) 34)));have bS:=aA.len;clear r1 r2 r3 r4 hP aA hv bb hA;go_enter func120,ntmps120;go_upto_region 1 with fail;generalize w.alloc (.cells (dkA a1 c1 a2 c2 a3 c3 a4 c4 D) 34)=w1 at HX HP CT⊢;obtain⟨-,-,g2⟩:=HP.st.c3;go_wp2_with fail;refine CT.mono ?_;rintro e w2 ⟨rfl,aM⟩;have aI:=a8 (HP.below aM);have ah:=a8 (HX.below aM HX.lt);have CD:=a8 (ol _ D (ej s.gen) w0 w2 HV HD aI.bel);obtain⟨d0,d1,d2,d3,d4⟩:=ah.c5;clear aM HP HX CT g2;go_wp2_with fail;refine CD.mono ?_;rintro e w3 ⟨R,L,rfl,br,bp⟩;clear d0 d1 d2 d3 d4 CD;have af:=a8 (aI.below bp);have ag:=a8 br;have ab:=a8 (show∃th A,b9 D (ej s.gen)=(th,A) from⟨_,_,rfl⟩);obtain⟨th,A,aT⟩:=ab.out;simp only[aT] at ag⊢;have ab:=a8 aT;clear bp br aI ah aT;obtain⟨-,-,-,-,-,-,t6,t7,t8⟩:=af.st.c9;have fg:=fun j=>af.st.fz j;have au:=a8 (show MbP w0 (((w3.setCell ⟨z,6,none⟩ (.string (ej s.gen))).setCell ⟨z,7,none⟩ (.slice R A.length L)).setCell ⟨z,8,none⟩ (.int .i64 0)) z (mbF s i0 i1 i2 (.string (ej s.gen)) (.slice R A.length L) (.int .i64 0) (.slice I s.mails.length E)) (.slice I s.mails.length E) (s.mails.map il0) from((af.set 6 (.string (ej s.gen))).set 7 (.slice R A.length L)).set 8 (.int .i64 0));go_upto_region 4 with fail;generalize ((w3.setCell ⟨z,6,none⟩ (.string (ej s.gen))).setCell ⟨z,7,none⟩ (.slice R A.length L)).setCell ⟨z,8,none⟩ (.int .i64 0)=w4 at au⊢;clear t6 t7 t8 fg af;obtain⟨-,-,-,-,-,-,-,-,-,g9⟩:=au.st.c10;go_wp2;clear g9;have aK:=a8 (fun j=>G9 bj.len bj.size j);have bo:=a8 (fun j h=>En s.mails j h);go_loopw [9,35] (fun _ i wr=>∃(j:Nat),j≤s.mails.length∧i=iI j∧Hid (MbP w0 wr z (mbF s i0 i1 i2 (.string (ej s.gen)) (.slice R A.length L) (.int .i64 (dH (s.mails.take j):Int)) (.slice I s.mails.length E)) (.slice I s.mails.length E) (s.mails.map il0))) (fun _ i _=>s.mails.length-(intOf i).toNat)
 case atStart=>exact⟨0,O4 _,rfl,au⟩
 case round=>
  obtain⟨j,hj,rfl,HI⟩:=hrel;by_cases N:j<s.mails.length
  ·have bC:(j:Int)<(s.mails.length:Int):=(by omega);obtain⟨g,aP,_,_⟩:=HI.row.at0 (by rw[OW];omega);subst aP;have aE:=a8 (bo.out j N);have aY:=a8 (aK.out (j+1));have HC:=a8 (show∀k (hk:k<6),wr.cell? ⟨g,j*6+k,none⟩=(il0 s.mails[j])[k]? from fun k hk=>qR HI.row j N k hk);generalize bO:s.mails[j]=m at aE HC;clear bO;have k0:wr.cell? ⟨g,j*6,none⟩=some (uI m.uid):=HC.out 0 (by omega);have k1:wr.cell? ⟨g,j*6+1,none⟩=some (iI m.stamp):=HC.out 1 (by omega);have k2:wr.cell? ⟨g,j*6+2,none⟩=some (uI m.flags):=HC.out 2 (by omega);have k3:wr.cell? ⟨g,j*6+3,none⟩=some (sN):=HC.out 3 (by omega);have k4:wr.cell? ⟨g,j*6+4,none⟩=some (iI m.size):=HC.out 4 (by omega);have k5:wr.cell? ⟨g,j*6+5,none⟩=some (.bool (decide (m.bare=1))):=HC.out 5 (by omega);have aj:=nAl wr (.cells #[uI m.uid,iI m.stamp,uI m.flags,sN,iI m.size,.bool (decide (m.bare=1))] 243);have HM:=a8 (dQ wr #[uI m.uid,iI m.stamp,uI m.flags,sN,iI m.size,.bool (decide (m.bare=1))] 243);have G:=a8 (HI.below aj);have bY:z≠wr.heap.size:=(by have:=HI.st.lt;omega);clear aj HC;go_upto_region 7 with fail;generalize wr.alloc (.cells #[uI m.uid,iI m.stamp,uI m.flags,sN,iI m.size,.bool (decide (m.bare=1))] 243)=X at HM G⊢;clear k0 k1 k2 k3 k4 k5;obtain⟨-,-,-,-,m4⟩:=HM.c5;obtain⟨-,-,-,-,-,-,-,-,t8⟩:=G.st.c9;have fg:=fun j=>G.st.fz j;have bf:=a8 (fun(Y:World) (hY:Below X.heap.size X Y)=>show MbP w0 (Y.setCell ⟨z,8,none⟩ (.int .i64 (dH (s.mails.take (j+1)):Int))) z (mbF s i0 i1 i2 (.string (ej s.gen)) (.slice R A.length L) (.int .i64 (dH (s.mails.take (j+1)):Int)) (sS g s.mails.length E)) (sS g s.mails.length E) (s.mails.map il0) from(G.below hY).set 8 (.int .i64 (dH (s.mails.take (j+1)):Int)));have bB:(dH (s.mails.take j):Int)+(m.size:Int)=(dH (s.mails.take (j+1)):Int):=(by have:=aE.out;omega);have bQ:IntKind.i64.wrap (dH (s.mails.take (j+1)):Int)=(dH (s.mails.take (j+1)):Int):=(by have:=aY.out;rw[IntKind.wrap_i64];omega);have an:=a8 (show∃x,x=dH (s.mails.take (j+1)) from⟨_,rfl⟩);obtain⟨bZ,aV⟩:=an.out;rw[←aV] at bf bB bQ;have bH:=a8 aV;clear aV an aE aY;go_region
   all_goals
    go_wp2;go_roundw
    case rel=>exact⟨j+1,by omega,by go_num,a8 (by rw[←bH.out];exact bf.out _ (OX _ _).drew)⟩
    case measure=>simp[intOf];omega
  ·have ay:j=s.mails.length:=(by omega);have bW:¬(j:Int)<(s.mails.length:Int):=(by omega);have bI:=a8 (show dH (s.mails.take j)=dH s.mails by rw[ay,PA]);have bn:=a8 (aK.out j);have aZ:=a8 (ag.below HI.bel);obtain⟨-,-,-,-,-,-,-,-,t8⟩:=HI.st.c9;rw[bI.out] at t8 HI bn;have aH:=a8 (fun(h:¬(th=true∧dH s.mails≤A.length))=>show fd s.mails (b9 D (ej s.gen))=none by
    unfold fd;rw[ab.out,OR h])
   clear ay N aK bo au;cases th with
   |false=>
    have HN:=a8 (aH.out (by simp));have M:=a8 HI.bel;go_wp2;go_ret;exact Or.inr ⟨HN,_,rfl,M⟩
   |true=>
    by_cases ap:dH s.mails≤A.length
    ·have bD:¬(A.length:Int)<(dH s.mails:Int):=(by omega);have bU:(dH s.mails:Int)≤(A.length:Int):=(by omega);have bE:=a8 (show A.length≤40000 by have h:=gU HV (ej s.gen);rw[ab.out] at h;exact h);have bV:(dH s.mails:Int)≤(L:Int):=(by have:=ag.room;omega);have an:=a8 (show(A.take (dH s.mails)).length=dH s.mails by rw[Pa];omega);have CS:=a8 (IT (aZ.take (dH s.mails)) (by rw[an.out];have:=bE.out;omega));rw[an.out] at CS;have bX:=fun(W:World)=>qg (W:=W) ag ap;have ae:=a8 (show fd s.mails (b9 D (ej s.gen))=match iK (A.take (dH s.mails)) with|some xs=>ke A s.mails xs|none=>none by
      unfold fd;rw[ab.out,OS ⟨rfl,ap⟩];rfl)
     have bl:=a8 (fun xs h=>xF (d:=A.take (dH s.mails)) (l:=xs) h);have be:=a8 (fun xs h=>Kd (d:=A.take (dH s.mails)) (l:=xs) h (fun x hx=>ag.byte x (Pi hx)));clear ap aH bn;go_wp2_with fail;refine CS.mono ?_;rintro e V ⟨v,rfl,aC,ax⟩;have aG:=a8 (HI.below ax);cases hso:iK (A.take (dH s.mails)) with
     |none=>
      rw[hso] at aC ae;obtain rfl:=aC;have ak:=nAl V (.cells #[.bool false,sN] 179);have HS:=a8 (dQ V #[.bool false,sN] 179);have M:=a8 (aG.below ak).bel;clear ax hso ak CS;go_upto_region 12 with fail;generalize V.alloc (.cells #[.bool false,sN] 179)=W at HS M⊢;have s0:W.cell? ⟨V.heap.size,0,none⟩=some (.bool false):=HS.cell 0;go_quiet(fail);go_wp2;go_ret;exact Or.inr ⟨ae,_,rfl,OI M _⟩
     |some xs=>
      rw[hso] at aC ae;obtain⟨lv,U,rfl,bu,aB⟩:=aC;obtain⟨la,lc,rfl⟩:=aB.slice;rw[OW];have ak:=nAl V (.cells #[.bool true,.slice la xs.length lc] 179);have HS:=a8 (dQ V #[.bool true,.slice la xs.length lc] 179);have al:=a8 (aG.below ak);rw[OW] at aB;have ar:=a8 (aB.below ak (OV _));have bK:=a8 bu;have bA:=a8 (bl.out xs hso);have bx:=a8 (be.out xs hso);have aL:=a8 (show wr.heap.size≤V.heap.size from ax.size);clear ax ak aB bu bl be CS aG;go_upto_region 12 with fail;generalize V.alloc (.cells #[.bool true,.slice la xs.length lc] 179)=W at HS al ar⊢;obtain⟨s0,s1⟩:=HS.c2;obtain⟨-,-,-,-,-,-,-,-,-,g9⟩:=al.st.c10;by_cases aD:xs.length=s.mails.length
      ·have bd:((xs.length:Int)==(s.mails.length:Int))=true:=(by simp;omega);have aW:((xs.length:Int) !=(s.mails.length:Int))=false:=(by simp;omega);have bg:=a8 (show∃O,O=wr.heap.size from⟨_,rfl⟩);obtain⟨O,av⟩:=bg.out;rw[←av] at ar aL;have bm:=a8 (show∀g,(Value.slice I s.mails.length E).ownBlock=some g→g<O from fun g hg=>by rw[av];exact(dM.lt HI.row g hg).2);have bk:=a8 (show xS w0 W z (mbF s i0 i1 i2 (.string (ej s.gen)) (.slice R A.length L) (.int .i64 (dH s.mails:Int)) (.slice I s.mails.length E)) (.slice I s.mails.length E) O (.slice la xs.length lc) U s.mails xs 0 (List.replicate s.mails.length (sN)) from⟨by rw[←IS];exact al.out,ar,by simp,by have:=aL.out;have:=HS.lt;omega,fun k hk=>by omega⟩);have bG:=a8 (show w0.heap.size≤O by rw[av];exact HI.bel.size);have bR:xs.length≤100:=(by omega);have ai:=a8 aD;clear av bg HI al ar aL aZ t8 aD;go_quiet(fail);go_wp2;have aJ:=a8 (bk.below (OI (OX _ _) nq));have bz:=a8 ag.out;clear bk s0 s1 g9 HS;generalize W.drewN nq=Z at aJ⊢;have bt:U.length=xs.length:=(by have:=aJ.os.len;simpa using this);have ac:=a8 bt;clear bt bd aW;go_loopw [11,12,96] (fun _ _ i wr=>∃(j:Nat) (bvs:List Value),j≤xs.length∧i=iI j∧Hid (xS w0 wr z (mbF s i0 i1 i2 (.string (ej s.gen)) (.slice R A.length L) (.int .i64 (dH s.mails:Int)) (.slice I s.mails.length E)) (.slice I s.mails.length E) O (.slice la xs.length lc) U s.mails xs j bvs)) (fun _ _ i _=>xs.length-(intOf i).toNat)
       case atStart=>exact⟨0,_,O4 _,rfl,aJ⟩
       case round=>
        obtain⟨j,bvs,hj,rfl,HI⟩:=hrel;by_cases N:j<xs.length
        ·have bC:(j:Int)<(xs.length:Int):=(by omega);have aQ:j<s.mails.length:=(by have:=ai.out;omega);have az:j<U.length:=(by have:=ac.out;omega);have bT:(j:Int)<(s.mails.length:Int):=(by omega);obtain⟨bL,aP,hc⟩:=Ee HI.os (by rw[OW];omega);subst aP;obtain⟨gr,bM,_,_⟩:=HI.mb.row.at0 (by rw[List.length_zipWith,HI.len];omega);subst bM;obtain⟨k0,k1,k2⟩:=hc j az;obtain⟨x,hx,ad⟩:=HI.os.body j (by rw[OW];omega);rw[OZ az] at hx;have hx:=(PJ hx).symm;subst hx;rw[Po] at ad;obtain⟨J,bc,aN⟩:=ad.slice;have aU:U[j].1=xs[j].1∧U[j].2.1=xs[j].2.1:=by
          have e:(U.map (fun x:S3=>(x.1,x.2.1)))[j]? =(xs.map (fun x=>(x.1,x.2.1)))[j]? :=(by rw[bK.out]);rw[PE,PE,OZ az,OZ N] at e;simpa using e
         have bJ:=a8 aN;rw[aN] at ad k2;rw[aU.1] at k0;rw[aU.2] at k1;have bq:=bA.out j N;have aO:=bx.out j N;have bh:=a8 (fun(h:eY s.mails[j] xs[j]=none)=>ae.trans (qM (OZ aQ) (OZ N) h));have aX:=a8 (fun(w':World) (bv:Value) (b:LN) (X:World) (hX:xS w0 X z (mbF s i0 i1 i2 (.string (ej s.gen)) (.slice R A.length L) (.int .i64 (dH s.mails:Int)) (sS gr s.mails.length E)) (sS gr s.mails.length E) O (sS bL xs.length lc) U s.mails xs j bvs) (ht:TkR gr X.heap.size X w' s.mails.length E s.mails (bvs.set j bv)) (hb:eY s.mails[j] xs[j]=some b) (ho:dR w' O bv b) (hq:bv.ownBlock=(Value.slice J xs[j].2.2.length bc).ownBlock)=>hX.step ht (bm.out gr rfl) aQ N az hb ho (by rw[bJ.out];exact hq));obtain⟨st,Q,l,bw⟩:∃st Q l,xs[j]=(st,Q,l):=⟨_,_,_,rfl⟩
         rw[bw] at ad k0 k1 k2 bq aO bh aX;simp only at ad k0 k1 k2 bq aO;have aj:=nAl wr (.cells #[iI st,iI Q,.slice J l.length bc] 182);have HM:=a8 (dQ wr #[iI st,iI Q,.slice J l.length bc] 182);have G:=a8 (HI.below aj);have bi:=a8 (ad.below aj (OV _));clear aj hc ad bw aN aU;go_upto_region 17 with fail;generalize wr.alloc (.cells #[iI st,iI Q,.slice J l.length bc] 182)=X at HM G bi⊢;clear k0 k1 k2;have aa:TkS z wr.heap.size (sS gr s.mails.length E) (iI st) (iI Q) (.slice J l.length bc) X.drew:=⟨G.mb.st.cell 9,HM.cell 0,HM.cell 1,HM.cell 2⟩
         have CT:=a8 (Kq gr X.drew.heap.size O X.drew X.drew s.mails.length E s.mails bvs j aQ G.len st Q J bc l ⟨(dM.below G.mb.row (OX _ _).drew (OV _)).mono (O4 _),dX.refl _ _ _,OV _,(dM.lt G.mb.row gr rfl).2⟩ (bi.below (OX _ _).drew (OV _)) (bm.out gr rfl) aO (by omega) (by omega));refine gF (by kernel_rfl) (TkS z wr.heap.size (sS gr s.mails.length E) (iI st) (iI Q) (.slice J l.length bc)) 7 ?_;refine dZ 0 (pP z) rfl aa ?_ ?_
         ·rintro wz ⟨z0,z1,z2,z3⟩;go_simp
         simp only[dI,dJ,dK,dL];refine dZ 1 (pP z) rfl aa ?_ ?_
         ·rintro wz ⟨z0,z1,z2,z3⟩;go_simp
         simp only[dI,dJ,dK,dL];refine dZ 2 (.pointer (some ⟨z,9,none⟩)) rfl aa ?_ ?_
         ·rintro wz ⟨z0,z1,z2,z3⟩;go_simp
         simp only[dI,dJ,dK,dL];refine dZ 3 (sS gr s.mails.length E) rfl aa ?_ ?_
         ·rintro wz ⟨z0,z1,z2,z3⟩;go_simp
         simp only[dI,dJ,dK,dL];refine dZ 4 (iI j) rfl aa ?_ ?_
         ·rintro wz ⟨z0,z1,z2,z3⟩;go_simp
         simp only[dI,dJ,dK,dL];refine dZ 5 (.pointer (some ⟨gr,j*6,none⟩)) rfl aa ?_ ?_
         ·rintro wz ⟨z0,z1,z2,z3⟩;go_simp
         simp only[dI,dJ,dK,dL];refine dZ 6 (.agg #[iI st,iI Q,.slice J l.length bc]) rfl aa ?_ ?_
         ·rintro wz ⟨z0,z1,z2,z3⟩;go_simp
         simp only[dI,dJ,dK,dL];refine dY 7 rfl (by kernel_rfl) (fun K hK=> ?_);refine gV 155 BP (.tmp 106) (.tmp 107) #[243,182] (by rfl) (by rfl) (.pointer (some ⟨gr,j*6,none⟩)) (.agg #[iI st,iI Q,.slice J l.length bc]) (by simp[go_sem]) (by simp[go_sem]) ?_;refine CT.mono ?_;rintro e w7 ⟨ok,kk,kc,rfl,aw,aS,aF⟩;refine⟨_,rfl,hK _ _ (fun h=>by cases h) ?_⟩;clear hK K aa CT
         try simp only[dI,dJ,dK,dL]
         cases ok with
         |true=>
          obtain⟨b,hb,ho⟩:=aF rfl;have bF:=a8 (aX.out w7 (.slice J kk kc) b X.drew (G.below (OX _ _).drew) aw hb ho (by cases J<;>rfl));clear aw aS aF hb ho;refine dY 8 rfl (by kernel_rfl) (fun K hK=> ?_);go_simp;refine hK _ _ (fun h=>by cases h) (fe (by kernel_rfl) ?_ _);clear hK K;go_wp2;go_roundw
          case rel=>exact⟨j+1,bvs.set j (.slice J kk kc),by omega,by go_num,bF⟩
          case measure=>simp[intOf];omega
         |false=>
          have HN:=a8 (bh.out (aS rfl));have M:=a8 (show Below w0.heap.size w0 w7 from gX (show Below w0.heap.size w0 X.drew from G.mb.bel.drew) aw.bel (dM.lt G.mb.row gr rfl).1 G.mb.bel.size);clear aw aS aF;refine dY 8 rfl (by kernel_rfl) (fun K hK=> ?_);go_simp;refine hK _ _ (fun h=>by cases h) (fe (by kernel_rfl) ?_ _);clear hK K;go_wp2;go_ret;exact Or.inr ⟨HN,_,rfl,M⟩
        ·have ay:j=xs.length:=(by omega);have aq:=a8 (show∀k (h1:k<s.mails.length) (h2:k<xs.length) (h3:k<bvs.length) (h4:k<U.length),∃b,eY s.mails[k] xs[k]=some b∧dR wr O bvs[k] b∧bvs[k].ownBlock=U[k].2.2.ownBlock from fun k h1 h2 h3 h4=>HI.don k (by omega) h1 h2 h3 h4);clear N;subst ay;go_wp2;go_ret;refine Or.inl ⟨List.zipWith (fun m x=>EA A m x ((eY m x).getD [])) s.mails xs,R,L,I,E,bvs,?_,rfl,?_⟩
         ·rw[ae.out];refine tC ai.symm (by rw[List.length_zipWith];have:=ai.out;omega) (fun k h1 h2 h3=> ?_);obtain⟨b,e1,_,_⟩:=aq.out k h1 h2 (by rw[HI.len];exact h1) (by have:=ac.out;omega);exact⟨b,e1,by rw[List.getElem_zipWith,e1];rfl⟩
         ·refine⟨by rw[ab.out];exact HI.mb,by rw[ab.out];exact bz.out,HI.len,by rw[List.length_zipWith];have:=ai.out;omega,fun k h1 h2=> ?_,?_⟩
          ·have ao:k<s.mails.length:=(by rw[←HI.len];exact h1);have aR:k<xs.length:=(by rw[ai.out];exact ao);obtain⟨b,e1,e2,_⟩:=aq.out k ao aR h1 (by have:=ac.out;omega);rw[List.getElem_zipWith,e1];exact e2.mono bG.out
          ·refine Pn.2 (fun i k hi hk bN=> ?_);have ao:k<s.mails.length:=(by rw[←HI.len];exact hk);have aR:k<xs.length:=(by rw[ai.out];exact ao);obtain⟨_,_,_,e1⟩:=aq.out i (by omega) (by omega) hi (by have:=ac.out;omega);obtain⟨_,_,_,e2⟩:=aq.out k ao aR hk (by have:=ac.out;omega);rw[e1,e2];exact Pn.1 HI.os.apart i k (by have:=ac.out;omega) (by have:=ac.out;omega) bN
      ·have bd:((xs.length:Int)==(s.mails.length:Int))=false:=(by simp;omega);have aW:((xs.length:Int) !=(s.mails.length:Int))=true:=(by simp;omega);have HN:=a8 (ae.trans (tE (fun e=>aD e.symm)));have M:=a8 al.bel;clear aD;go_quiet(fail);go_wp2;go_ret;exact Or.inr ⟨HN,_,rfl,OI M _⟩
    ·have bD:(A.length:Int)<(dH s.mails:Int):=(by omega);have HN:=a8 (aH.out (fun h=>ap h.2));have M:=a8 HI.bel;clear ap;go_wp2;go_ret;exact Or.inr ⟨HN,_,rfl,M⟩
end
section
open Go.Sort Go.Lib
structure oH(w:World):Prop where
 env:Env w
 tab:TabIs prog w "internal/strconv.uint64pow10" .u64 Lib.pow10Tab
theorem oH.below{w w':World}(h:oH w)(z:Below w.heap.size w w'):oH w':=⟨h.env.below z,se h.tab z⟩
theorem jH{z w w':World}{E B:Nat}(h:im (·=E) B w w')(A:Below z.heap.size z w)(J:z.heap.size≤E)(I:z.heap.size≤B):Below z.heap.size z w':=
 ⟨h.os.trans A.os,h.tape.trans A.tape,h.output.trans A.output,O0 A.size h.size,fun k G=>(h.block k (by omega) (by omega)).trans (A.block k G)⟩
theorem Io(a b c:Value)(w:World):(callFunc 119 #[a,b,c]).run prog w= .ok (.enter 119 #[a,b,c]) w:=by
 go_simp
def Oi(gm lo:Nat)(X:World)(s:IX):Prop:=∃mv,MbI X gm s mv∧nC X lo mv s.mails
def Jk(gm:Nat)(wb w:World)(hE:oH wb)(hb:Below wb.heap.size wb w)(hlo:wb.heap.size≤gm)(hst:MbI w gm ⟨0,0,0,[]⟩ (sN)):xU IX 119 gm (·=gm) dV (fun _=>l5) w ⟨0,0,0,[]⟩ (Oi gm w.heap.size) (fun X=>∃s mv,MbI X gm s mv) where
 Inv:=fun B w0 wr s=>gm<B∧B≤wr.heap.size∧dX gm B w0 wr∧∃mv,MbI wr gm s mv∧nC wr B mv s.mails
 enter:=Io
 start:=fun w0 h=>⟨Pb hst.lt h.size,OV _,dX.refl _ _ _,_,hst.below h hst.lt,dM.nil _ _ _ _⟩
 ok0:=I7
 okS:=fun h1 _ h2=>ph h1 h2
 low:=fun k hk=>by rw[hk];exact hst.lt
 env:=fun w' h=>(hE.below (jH h hb hlo hb.size)).env
 below:=fun{B w0 wr wr' s} h hb'=>by
  obtain⟨h1,h2,h3,mv,h4,h5⟩:=h;exact⟨h1,O0 h2 hb'.size,h3.trans (dX.of_below hb' h2),mv,h4.below hb' h4.lt,dM.below h5 hb' (OV _)⟩
 frame:=fun h=>im.ofX h.2.2.1
 sz:=fun h=>h.2.1
 badI:=fun{B w0 wr s} h=>by
  obtain⟨_,_,_,mv,h4,_⟩:=h;exact⟨s,mv,h4⟩
 badS:=fun{X g j} u h hg=>by
  obtain⟨s,mv,h4⟩:=h;exact⟨s,mv,h4.other (by have:=hst.lt;omega) u⟩
 fin:=fun{B w0 wr X s} h hb' hB ho=>by
  obtain⟨h1,h2,h3,mv,h4,h5⟩:=h;have h0:w.heap.size≤B:=(by rw[hB];exact hb'.size);exact⟨mv,eA h4 (ho.block gm h4.lt (.inl hst.lt)),(dM.keep h5 (fun g hg=>ho.block g (dM.lt h5 g hg).2 (.inr (dM.lt h5 g hg).1))).mono h0⟩
 call:=fun k B gw w0 wr s ws h hok htw hgw hws _ _ hE'=>by
  obtain⟨h1,h2,h3,mv,h4,h5⟩:=h;refine(uM gm gw B k w0 wr s mv ws ⟨h4,h5,htw,h3,h2,h1,hgw⟩ (fun w' hx=>hE' w' (im.ofX hx)) hws hok).mono (fun e w' hr=> ?_);rcases hr with⟨s',mv',r,rfl,hR,ho⟩|⟨hf,ho,hx⟩
  ·exact Or.inl ⟨s',r,rfl,⟨h1,hR.sz,hR.fr,mv',hR.st,hR.row⟩,hR.tw,ho⟩
  ·exact Or.inr ⟨hf,ho,im.ofX hx.1,hx.2⟩
def kT(D:dO)(idx:LN):Option (IX×List XM):=match nN (dP idx).1 with
 |none=>none
 |some s=>(fd s.mails (b9 D (ej s.gen))).map fun r=>(s,r)
def MJ(D:dO)(ia:OA)(ic:Nat)(idx:LN)(w:World)(e:Ending)(w':World):Prop:=
 (∃s r gm ta tc am cm bvs,kT D idx=some (s,r)∧e= .returned (.tuple #[pP gm,.nilIface])∧MbS w w' gm s D (.string ixN) (.slice ia idx.length ic) (.int .i64 ((dP idx).2:Int)) r ta tc am cm bvs∧l5 s)∨
 (kT D idx=none∧∃nm t,e= .returned (.tuple #[.pointer none,gB nm t])∧Below w.heap.size w w')
theorem qc(v:Value)(D:dO)(E:OA)(G:Nat)(z:LN)(w:World)(hv:eM D)(hd:kJ w v D)(hi:fV w E G z)(hE:oH w):
  Calls prog 89 #[v,.slice E z.length G] w (MJ D E G z w):=by
 have an:∀(fn:Fn) (first cap:Array Value) (w:World),(Instr.makeFunc fn first cap).run prog w= .ok (.func fn first cap) w:=fun _ _ _ _=>rfl;have HD:=a8 hd;obtain⟨a1,c1,a2,c2,a3,c3,a4,c4,al,r1,r2,r3,r4⟩:=hd;subst al;obtain⟨L1,L2,hA,hz⟩:=sj w (dkA a1 c1 a2 c2 a3 c3 a4 c4 D) #[.int .u32 0,.int .u32 0,.int .u64 0,.string ⟨#[]⟩,sN,.int .i64 0,.string ⟨#[]⟩,sN,.int .i64 0,sN] 34 214;have HV:=a8 hv;have HE:=a8 hE;have J:=a8 hA;have HI:=a8 (hi.below hA);have Q:=a8 L1;have Z:=a8 L2;clear r1 r2 r3 r4 hv hE hA hi L1 L2 hz;go_enter func89,ntmps89;go_wp2_with fail;generalize (w.alloc (.cells (dkA a1 c1 a2 c2 a3 c3 a4 c4 D) 34)).alloc (.cells #[.int .u32 0,.int .u32 0,.int .u64 0,.string ⟨#[]⟩,sN,.int .i64 0,.string ⟨#[]⟩,sN,.int .i64 0,sN] 214)=w1 at J HI Q Z⊢;have CL:=a8 (nV (Jk (w.heap.size+1) w w1 HE J (by omega) Z) ixN E G z HI);refine CL.mono ?_;rintro e I (⟨s,V,rfl,⟨mv,A,Y⟩,⟨_,_,af⟩,L⟩|⟨V,t,rfl,L,s9,ao,A⟩)
 ·have aa:=a8 (jH L J (by omega) J.size);have ad:=a8 (eA Q (L.block w.heap.size Q.lt (by omega)));have HO:=a8 (show nN (dP z).1=some s by rw[←JB];exact V);have ac:=a8 af;obtain⟨R,nm,U,aj⟩:=eG Y;subst aj;have ak:nm=s.mails.length:=by
   obtain⟨a',c',e'⟩:=dM.slice Y;rw[OW] at e';simp only[O3] at e';exact e'.2.1
  subst ak;obtain⟨-,-,-,i3,i4,i5⟩:=A.c6;have fz:=fun j=>A.fz j;have HP:=a8 (show MbP w I (w.heap.size+1) (mbF s (.string ⟨#[]⟩) (sN) (.int .i64 0) (.string ⟨#[]⟩) (sN) (.int .i64 0) (.slice R s.mails.length U)) (.slice R s.mails.length U) (s.mails.map il0) from⟨A,Y.mono J.size,aa,by omega⟩);have ab:=a8 (show MbP w (((I.setCell ⟨w.heap.size+1,3,none⟩ (.string ixN)).setCell ⟨w.heap.size+1,4,none⟩ (.slice E z.length G)).setCell ⟨w.heap.size+1,5,none⟩ (.int .i64 ((dP z).2:Int))) (w.heap.size+1) (mbF s (.string ixN) (.slice E z.length G) (.int .i64 ((dP z).2:Int)) (.string ⟨#[]⟩) (sN) (.int .i64 0) (.slice R s.mails.length U)) (.slice R s.mails.length U) (s.mails.map il0) from((HP.set 3 (.string ixN)).set 4 (.slice E z.length G)).set 5 (.int .i64 ((dP z).2:Int)));have K:=a8 (show Blk (((I.setCell ⟨w.heap.size+1,3,none⟩ (.string ixN)).setCell ⟨w.heap.size+1,4,none⟩ (.slice E z.length G)).setCell ⟨w.heap.size+1,5,none⟩ (.int .i64 ((dP z).2:Int))) w.heap.size _ 34 from((ad.other (by omega) _).other (by omega) _).other (by omega) _);clear V A Y af L CL Q Z HI HP ad;go_upto_region 4 with fail;generalize ((I.setCell ⟨w.heap.size+1,3,none⟩ (.string ixN)).setCell ⟨w.heap.size+1,4,none⟩ (.slice E z.length G)).setCell ⟨w.heap.size+1,5,none⟩ (.int .i64 ((dP z).2:Int))=M at ab K⊢;clear i3 i4 i5 fz;have CR:=a8 (yT (w.heap.size+1) w M _ D s (.string ixN) (.slice E z.length G) (.int .i64 ((dP z).2:Int)) R U HV HD ac (HE.below ab.bel).tab ab);obtain⟨d0,d1,d2,d3,d4⟩:=K.c5;go_wp2_with fail;refine CR.mono ?_;rintro e w4 (⟨r,ta,tc,ah,ai,bvs,O,rfl,hS⟩|⟨O,t,rfl,ae⟩)
  ·have N:=a8 (show kT D z=some (s,r) by unfold kT;rw[HO.out];simp only;rw[O];rfl);have HS:=a8 hS;clear O hS CR d0 d1 d2 d3 d4;go_wp2;go_ret2;exact Or.inl ⟨s,r,_,ta,tc,ah,ai,bvs,N,rfl,HS,ac⟩
  ·have N:=a8 (show kT D z=none by unfold kT;rw[HO.out];simp only;rw[O];rfl);have ag:=a8 ae;clear O ae CR d0 d1 d2 d3 d4;unfold gB;go_wp2;go_ret2;exact Or.inr ⟨N,_,_,rfl,ag⟩
 ·have N:=a8 (show kT D z=none by unfold kT;rw[←JB,V]);have aa:=a8 (((((jH L J (by omega) J.size).setCell (p:=⟨w.heap.size+1,3,none⟩) (Nat.le_succ _) (.string ⟨#[]⟩)).setCell (p:=⟨w.heap.size+1,4,none⟩) (Nat.le_succ _) (sN)).setCell (p:=⟨w.heap.size+1,5,none⟩) (Nat.le_succ _) (.int .i64 0)));obtain⟨-,-,-,i3,i4,i5⟩:=A.c6;have fz:=fun j=>A.fz j;clear V A L CL Q Z HI;unfold gB;go_wp2;go_ret2;exact Or.inr ⟨N,_,_,rfl,aa⟩
end
section
open Go.Sort Go.Lib
theorem EL:(prog.info? 217).map (fun i=>(i.zero,i.size,i.bytes))=some (some (.agg #[.string ⟨#[]⟩,sN,.int .i64 0,.bool false,.int .u32 0,.int .i64 0,.int .u32 0]),7,72):=by kernel_rfl
abbrev l7(w:World)(base:Nat)(v:Value)(cs:List Cd):Prop:=dM w base 217 7 v (cs.map ee)
theorem rj{L:Array Oper}{K:List Oper}{o:Oper}{E:Act}{Q:Exit→Act→World→Prop}(w:World)(U:o.guard=none)(s x:Operand)
  (ho:o.op= .call {callee:= .builtin .append,args:= #[s,x],argTypes:= #[202,202]})
  (A:Nat) (v:Value) (cs:List Cd) (c:Cd) (I M:Nat) (hs:E.eval s=v) (hx:E.eval x=sS I 1 M) (J:l7 w A v cs)
  (hc:∀j u,(ee c)[j]? =some u→w.cell? ⟨I,j,none⟩=some u) (aa:cs.length≤1048576) (N:A≤w.heap.size)
  (h:∀G w',l7 w' A G (cs++[c])→w.grownBy w' v.ownBlock→wpList prog L Q K (E.put o.dst G) w'):wpList prog L Q (o::K) E w:=by
 obtain⟨i0,hi,V,Y,Z⟩:=info_parts EL;have O:w.ownsRow A 217 7 v cs.length (cs.map ee).flatten:=(by have:=J.2;rw[OW] at this;exact this);refine wpList_append_own w U s x 202 ho A 217 i0 (.agg #[.string ⟨#[]⟩,sN,.int .i64 0,.bool false,.int .u32 0,.int .i64 0,.int .u32 0]) 7 72 underlying202 hi V Y Z rfl (by decide) v cs.length (cs.map ee).flatten hs O ⟨I,0,none⟩ 1 M (ee c) hx (by simp[ee]) ?_ ?_ (by unfold maxLen;omega) (by omega) N ?_
 ·intro j u hj;rw[ez,Ps];exact hc j u hj
 ·exact nI c
 ·intro G w' R hg _;refine h G w' ⟨?_,?_⟩ hg
  ·intro y z;rw[O7,Pj] at z;rcases z with z|z
   ·exact J.1 y z
   ·simp only[Pe,PD,Ph] at z;rw[z];rfl
  ·rw[OW,O1,O7,PQ];simpa using R
theorem Ii(c:Cd):(ee c).length=7:=rfl
theorem tJ(d:Array Cd):(flatK ee 7 d).toList=(d.toList.map ee).flatten:=by
 have z:∀x∈d.toList.map ee,x.length=7:=fun x L=>by
  obtain⟨c,_,rfl⟩:=Pg.1 L;rfl
 apply List.ext_getElem?;intro t;by_cases A:t<d.size*7
 ·have K:t=t/7*7+t%7:=(by omega);have E:t/7<d.size:=(by omega);have G:t%7<7:=Nat.mod_lt _ (by omega);have I:=get_flatK ee 7 d t A;rw[getElem!_pos _ t (by rw[size_flatK];exact A),getElem!_pos d (t/7) E,getElem!_pos _ (t%7) (by rw[Ii];exact G)] at I;rw[Array.getElem?_toList,Array.getElem?_eq_getElem (by rw[size_flatK];exact A),I]
  conv=>rhs;rw[K]
  have J:t/7<(d.toList.map ee).length:=(by simpa using E);rw[EI z (t/7) (t%7) J (by rw[z _ (O6 J)];exact G)];simp
 ·rw[Pt (by rw[Array.length_toList,size_flatK];omega),Pt (by rw[iO z];simp;omega)]
theorem Dk{w:World}{G z cap:Nat}{cs:List Cd}(h:l7 w G (sS z cs.length cap) cs):HoldsK ee 7 w z 0 cs.toArray:=by
 intro j A;have J:j<(flatK ee 7 cs.toArray).toList.length:=(by rw[Array.length_toList];exact A);refine⟨?_,h.frozen _⟩;rw[getElem!_pos _ j A];have I:=tJ cs.toArray;have e:(cs.map ee).flatten[j]? =some (flatK ee 7 cs.toArray)[j]:=by
  have:(flatK ee 7 cs.toArray).toList[j]? =some (flatK ee 7 cs.toArray)[j]:=(by rw[Array.getElem?_toList,Array.getElem?_eq_getElem A]);rw[I] at this;exact this
 have E:=OD h.2 (g:=z) rfl j _ e;rw[ez] at E;exact E
theorem Mb{w:World}{I A cap m:Nat}{cs:List Cd}{z:Array Cd}{os:Array Obj}(h:l7 w I (sS A cs.length cap) cs)(hs:z.size=cs.length):l7 (srW 7 w A m z os) I (sS A z.toList.length cap) z.toList:=by
 refine⟨fun x G=>by obtain⟨c,_,rfl⟩:=Pg.1 G;rfl,?_,?_⟩
 ·rw[iO (k:=7) (fun x G=>by obtain⟨c,_,rfl⟩:=Pg.1 G;rfl)]
 ·rcases h.2.2 with⟨V,_⟩|⟨g,Y,J,M,N,L,Q,R,K,Z⟩
  ·cases V
  ·simp only[O3,OY,PG] at M;obtain⟨⟨rfl,_⟩,_,rfl⟩:=M;rw[OW] at Q;refine .inr ⟨A,cap,putCells id 0 (flatK ee 7 z) J,by simp,N,?_,by simp;omega,R,by simp[putCells,K],?_⟩
   ·show((w.heap.modify A (onCells (putCells id 0 (flatK ee 7 z))))++os)[A]? =_;have O:=OT L;rw[Array.getElem?_append_left (by simpa using O),Array.getElem?_modify,OS rfl,L];rfl
   ·rw[←tJ];apply List.ext_getElem?;intro t;by_cases E:t<z.size*7
    ·have U:t<J.size:=(by rw[K];omega);rw[List.getElem?_take,OS (by simpa using E)];simp only[Array.getElem?_toList];rw[Array.getElem?_eq_getElem (by simp[putCells,U]),Array.getElem?_eq_getElem (by rw[size_flatK];exact E)];simp only[putCells,Array.getElem_mapIdx,id];rw[OS (by rw[size_flatK];omega),Nat.sub_zero,getElem!_pos _ t (by rw[size_flatK];exact E)]
    ·rw[List.getElem?_take,OR (by simpa using E),Pt (by rw[Array.length_toList,size_flatK];omega)]
theorem GY(w:World)(z m:Nat)(A:Array Cd)(os:Array Obj)(g:Nat)(G:g<w.heap.size)(E:g≠z):(srW 7 w z m A os).heap[g]? =w.heap[g]? :=by
 show((w.heap.modify z (onCells (putCells id 0 (flatK ee 7 A))))++os)[g]? =_;rw[Array.getElem?_append_left (by simpa using G),Array.getElem?_modify,OR (fun e=>E e.symm)]
theorem GX{w0 w:World}{B z m:Nat}{A:Array Cd}{os:Array Obj}(h:Below B w0 w)(G:B≤w.heap.size)(I:B≤z):Below B w0 (srW 7 w z m A os):=
 ⟨h.os,h.tape,h.output,O0 h.size (lC w z m A os),fun k E=>(GY w z m A os k (by omega) (by omega)).trans (h.block k E)⟩
theorem Dw{l:List Cd}(h:fC Cd.uid l 0 l.length):LeG Cd.uid l:=by
 unfold LeG;refine Pn.2 (fun i j hi z A=> ?_);have:=h i j (O4 _) (by omega) z;rw[I9 Cd.uid hi,I9 Cd.uid z] at this;exact this
theorem GQ(G:Nat)(a:OA)(cap:Nat)(cs:List Cd)(w0 w:World)(B:Nat)(J:Below B w0 w)(N:B≤w.heap.size)(ab:B≤G)(h:l7 w G (.slice a cs.length cap) cs)(V:cs.length≤1000000):
  Calls prog 146 #[.slice a cs.length cap,.func (.func 147) #[] #[]] w fun e w'=>e= .returned (.tuple #[])∧∃ys:List Cd,ys.length=cs.length∧ys.Perm cs∧LeG Cd.uid ys∧l7 w' G (.slice a cs.length cap) ys∧Below B w0 w':=by
 rcases h.2.2 with⟨A,U⟩|⟨g,Z,aa,A,ac,R,_⟩
 ·simp only[O3] at A;obtain⟨rfl,_,rfl⟩:=A;have M:cs=[]:=(by simpa using U);subst M;exact(J9 w).mono (fun e w' z=>⟨z.1,[],rfl,.refl _,List.Pairwise.nil,by rw[z.2];exact h,by rw[z.2];exact J⟩)
 ·simp only[O3] at A;obtain⟨rfl,_,rfl⟩:=A;have O:=J8 g cap cs.toArray w (Dk h) (OT R) (by simpa using V);refine O.mono (fun e w' z=> ?_);obtain⟨Q,n,I,os,⟨Y,K,L⟩,rfl⟩:=z;have E:I.size=cs.length:=(by simpa using Y);refine⟨Q,I.toList,by simpa using E,by simpa using K.perm,Dw (by simpa[E] using L),?_,GX J N (by omega)⟩;have:=Mb (m:=n) (os:=os) h E;rw[show I.toList.length=cs.length by simpa using E] at this;exact this
theorem xZ{B A e k:Nat}{w0 X w':World}{v:Value}{E:List (List Value)}(h:Below B w0 X)(z:X.grownBy w' v.ownBlock)(G:dM X A e k v E)(J:B≤A)(I:B≤X.heap.size):Below B w0 w':=
 ⟨z.os.trans h.os,z.tape.trans h.tape,z.output.trans h.output,O0 h.size z.size,fun i hi=>(z.block i (by omega) (fun e=>by have:=(dM.lt G i e.symm).1;omega)).trans (h.block i hi)⟩
def cdK(c:Cd):BA×(Nat×Nat×Nat):=(c.name,c.uid,c.stamp,c.flags)
noncomputable def lx(nm:BA):Option (BA×(Nat×Nat×Nat)):=(eR nm.data.toList).map fun k=>(nm,k)
structure Fj(w0:World)(D:dO)(c:Cd):Prop where
 tx:fV w0 c.ad c.dc (b9 D c.name).2
 dl:c.dl=(b9 D c.name).2.length
 card:eR c.name.data.toList=some (c.uid,c.stamp,c.flags)
def jw(w0:World)(D:dO)(ns:List BA)(cs:List Cd):Prop:=cs.map cdK=ns.filterMap lx∧∀c∈cs,Fj w0 D c
def MB(w0:World)(D:dO)(w:World)(e:Ending)(w':World):Prop:=∃a cap cs all,e= .returned (.slice a cs.length cap)∧l7 w' w.heap.size (.slice a cs.length cap) cs∧cs.Perm all∧LeG Cd.uid cs∧jw w0 D (D.names.map (·.1)) all∧Below w.heap.size w w'
theorem rz(v:Value)(D:dO)(w0 w:World)(hv:eM D)(hd:kJ w0 v D)(hb:Below w0.heap.size w0 w)(hE:oH w0):
  Calls prog 118 #[v] w (MB w0 D w):=by
 obtain⟨a1,c1,a2,c2,a3,c3,a4,c4,rfl,r1,r2,r3,r4⟩:=hd;have aw:eU (D.nodes.length:Int) D.names=true:=hv.2.2.2.2.1;obtain⟨aE,bf,O,aM⟩:=fX aw;have bj:D.names.length≤300:=O;have bk:D.nodes.length≤600:=(by have h:=hv.2.2.2.1;unfold gz at h;exact(OU h).1);have ba:=a8 (lf aw);have hA:=nAl w (.cells #[.slice a1 D.nodes.length c1,.slice a2 D.names.length c2,.slice a3 D.kept.length c3,.slice a4 D.pend.length c4,.int .i64 D.quota] 34);have HX:=a8 (dQ w #[.slice a1 D.nodes.length c1,.slice a2 D.names.length c2,.slice a3 D.kept.length c3,.slice a4 D.pend.length c4,.int .i64 D.quota] 34);have K:=a8 hA;have L:=a8 hb;have HE:=a8 hE;have aY:=a8 r1;have aZ:=a8 r2;have aX:=a8 (fun(nm:BA) (n:Int)=>mU (n:=n) (s:=nm) aE.good);have aW:=a8 aM;clear r1 r2 r3 r4 aE bf aM aw hv O hA hb hE;go_enter func118,ntmps118;go_upto_region 2 with fail;generalize w.alloc (.cells #[.slice a1 D.nodes.length c1,.slice a2 D.names.length c2,.slice a3 D.kept.length c3,.slice a4 D.pend.length c4,.int .i64 D.quota] 34)=W at K HX⊢;obtain⟨-,t1⟩:=HX.c2;go_wp2;clear t1;go_loopw [3,5,6,7,11] (fun cv _ _ _ i wr=>∃(j:Nat) (G:OA) (I:Nat) (cs:List Cd),j≤D.names.length∧i=iI j∧cv= .slice G cs.length I∧cs.length≤j∧Hid (l7 wr W.heap.size (.slice G cs.length I) cs)∧Hid (jw w0 D ((D.names.take j).map (·.1)) cs)∧Hid (Below W.heap.size W wr)) (fun _ _ _ _ i _=>D.names.length-(intOf i).toNat)
 case atStart=>exact⟨0,none,0,[],O4 _,rfl,rfl,OV _,a8 (dM.nil _ _ _ _),a8 ⟨by simp,(fun c hc=>by cases hc)⟩,a8 (OX _ _)⟩
 case round=>
  obtain⟨j,G,I,cs,hj,rfl,rfl,bi,HC,R,ab⟩:=hrel;by_cases Q:j<D.names.length
  ·have bh:(j:Int)<(D.names.length:Int):=(by omega);have aA:=a8 (K.trans (ab.mono K.size));have aR:=a8 (L.trans (aA.mono L.size));obtain⟨b2,o2,e2,aI⟩:=(aZ.below aR) (by omega)
   subst e2;obtain⟨k0,k1⟩:=aI j Q;have ak:(D.names[j].1,D.names[j].2)∈D.names:=O6 Q;obtain⟨aK,aL⟩:=aW.out _ ak;obtain⟨z,ah⟩:=Int.eq_ofNat_of_zero_le aK;simp only at ah aL;have aJ:z<D.nodes.length:=(by omega);have ae:=a8 (pn ((aX.out _ _).2 ak) ah aJ);obtain⟨b1,o1,e1,aH⟩:=aY.out (by omega);subst e1;obtain⟨V,Z,ax,_,aQ⟩:=aH z aJ;have ao:=a8 (fun(X:World) (hX:Below w0.heap.size w0 X)=>(hX.cell (p:=⟨b1,o1+z*2,none⟩) (dG ax)).trans ax);have ap:=a8 aQ;have be:=ba.out j Q;have aq:=a8 (show(D.names.take (j+1)).map (·.1)=(D.names.take j).map (·.1)++[D.names[j].1] by rw[fD D.names j Q,O7];rfl);rw[ah] at k1;generalize D.names[j].1=nm at k0 ae be aq;generalize D.nodes[z].1=E at ae ao ap;clear ak aK aL ah aH aI ax aQ;have ag:=nAl wr (.cells #[.string nm,iI z] 63);have U:=a8 (dQ wr #[.string nm,iI z] 63);have aa:=bTr aA ag;have al:=a8 (dM.below HC ag (OV _));have aj:=bTr ab ag;have bg:(z:Int)<(D.nodes.length:Int):=(by omega);clear ag;go_upto_region 5 with fail;generalize wr.alloc (.cells #[.string nm,iI z] 63)=X at U aa al aj⊢;clear k0 k1;have m0:X.cell? ⟨wr.heap.size,0,none⟩=some (.string nm):=U.cell 0;have CM:=a8 (ym nm X (by omega) (HE.below (L.trans (aa.mono L.size))).env);go_wp2_with fail;refine CM.mono ?_;rintro e J ⟨ok,u,A,fl,rfl,ay,av⟩;have aG:=nAl J (.cells #[.bool ok,uI u,iI A,uI fl] 104);have N:=av.trans (aG.mono av.size);have M:=a8 (dQ J #[.bool ok,uI u,iI A,uI fl] 104);have ad:=a8 (U.below N U.lt);have az:=bTr aa N;have am:=a8 (dM.below al N (OV _));have af:=bTr aj N;have ac:=a8 (ly ay);clear aG N av ay CM m0 U aa al aj;go_upto_region 6 with fail;generalize J.alloc (.cells #[.bool ok,uI u,iI A,uI fl] 104)=Y at M ad az am af⊢;have t0:Y.cell? ⟨J.heap.size,0,none⟩=some (.bool ok):=M.cell 0;cases ok with
   |false=>
    have an:=a8 (show jw w0 D ((D.names.take (j+1)).map (·.1)) cs from⟨by rw[aq.out,List.filterMap_append,←R.1];simp[lx,ac.out],R.2⟩);go_wp2;go_roundw
    case rel=>exact⟨j+1,G,I,cs,by omega,by go_num,rfl,by omega,am,an,af⟩
    case measure=>simp[intOf];omega
   |true=>
    have aC:=a8 (HX.below af HX.lt);have d0:Y.cell? ⟨w.heap.size,0,none⟩=some (.slice (some ⟨b1,o1,none⟩) D.nodes.length c1):=aC.cell 0;obtain⟨m0,m1⟩:=ad.c2;obtain⟨-,t1,t2,t3⟩:=M.c4;have q0:=ao.out Y (L.trans (az.mono L.size));have au:=nAl Y (.cells #[.string nm,.slice V E.length Z,iI E.length,.bool true,uI u,iI A,uI fl] 217);have aV:=a8 (dQ Y #[.string nm,.slice V E.length Z,iI E.length,.bool true,uI u,iI A,uI fl] 217);have aB:=a8 (dM.below am au (OV _));have ar:=bTr af au;have bb:cs.length≤1048576:=(by omega);have an:=a8 (show jw w0 D ((D.names.take (j+1)).map (·.1)) (cs++[⟨nm,V,E.length,Z,u,A,fl⟩]) from⟨by rw[aq.out,List.filterMap_append,O7,←R.1];simp[lx,ac.out,cdK],fun c hc=>by
     rcases Pj.1 hc with h|h
     ·exact R.2 c h
     ·rw[Ph.1 h];exact⟨by rw[ae.out];exact ap.out,by rw[ae.out],by simpa using ac.out⟩⟩)
    clear au ao ap ac M ad aC;go_wp2_with (at_builtin;refine rj _ rfl (.tmp 27) (.tmp 36) rfl W.heap.size (.slice G cs.length I) cs ⟨nm,V,E.length,Z,u,A,fl⟩ Y.heap.size 1 rfl rfl aB (fun j v hj=>(aV.cell j).trans (by simpa[ee] using hj)) bb ar.size ?_;intro v6 w6 aN bc)
    obtain⟨a7,c7,aO⟩:=dM.slice aN;rw[OW] at aO;subst aO;exact⟨⟨j+1,a7,c7,cs++[⟨nm,V,E.length,Z,u,A,fl⟩],by omega,by go_num,rfl,by simp;omega,a8 aN,an,a8 (xZ ar bc aB (OV _) ar.size)⟩,by simp[intOf];omega⟩
  ·have bd:j=D.names.length:=(by omega);subst bd;have CS:=a8 (GQ W.heap.size G I cs W wr W.heap.size ab ab.size (OV _) HC (by omega));have aT:=a8 (show jw w0 D (D.names.map (·.1)) cs by have:=R.out;rw[PA] at this;exact this);clear Q;go_wp2_with fail;refine CS.mono ?_;rintro e w9 ⟨rfl,ys,aP,hp,O,ho,aF⟩;have HO:=a8 ho;have HP:=a8 hp;have aU:=a8 O;have aD:=a8 aP;have aS:=a8 aF;clear ho hp O aP aF CS;go_wp2;go_ret;refine⟨G,I,ys,cs,by rw[aD.out];rfl,by rw[aD.out];exact HO.mono K.size,HP,aU,aT,K.trans (aS.mono K.size)⟩
end
structure VH where
 kind:Int
 val:Nat
 next:Nat
 cur:Nat
abbrev vhA(h:VH)(v:Value):Array Value:= #[.int .i64 0,.int .i64 h.kind,.int .u32 (h.val:Int),.int .u32 (h.next:Int),.int .u32 (h.cur:Int),v]
theorem wZ(val next:Nat)(E:Int)(w:World):
  Calls prog 272 #[.agg #[.int .u32 (val:Int),.int .u32 (next:Int)],.int .i64 E] w fun e w'=>e= .returned (.agg (vhA ⟨E,val,next,0⟩ (sN)))∧Below w.heap.size w w':=by
 obtain⟨A,z,J,K⟩:=sj w #[uI val,uI next] #[.int .i64 0,.int .i64 0,.int .u32 0,.int .u32 0,.int .u32 0,sN] 200 115;have G:=a8 z;have I:=a8 J;go_enter func272,ntmps272;go_upto_region 1 with fail;generalize (w.alloc (.cells #[uI val,uI next] 200)).alloc (.cells #[.int .i64 0,.int .i64 0,.int .u32 0,.int .u32 0,.int .u32 0,sN] 115)=W at A z G I⊢;obtain⟨M,N⟩:=A.c2;obtain⟨O,Q,R,U,V,Y⟩:=z.c6;have L:=fun j=>z.fz j;clear A z J K;go_wp2;refine OJ (qe (w.heap.size+1) _ (.int .i64 0) (.int .i64 E) (uI val) (uI next) (.int .u32 0) (sN) rfl rfl (E4 G)) rfl ?_;exact⟨rfl,(((((I.setCell (p:=⟨w.heap.size+1,0,none⟩) (Nat.le_succ _) _).setCell (p:=⟨w.heap.size+1,1,none⟩) (Nat.le_succ _) _).setCell (p:=⟨w.heap.size+1,2,none⟩) (Nat.le_succ _) _).setCell (p:=⟨w.heap.size+1,3,none⟩) (Nat.le_succ _) _).setCell (p:=⟨w.heap.size+1,4,none⟩) (Nat.le_succ _) _).setCell (p:=⟨w.heap.size+1,5,none⟩) (Nat.le_succ _) _⟩
abbrev oN(w:World)(base:Nat)(v:Value)(ys:List VM):Prop:=dM w base 118 4 v (ys.map vmC)
theorem rm{L:Array Oper}{K:List Oper}{E:Act}(w:World)(U:o.guard=none)(s x:Operand)
  (ho:o.op= .call {callee:= .builtin .append,args:= #[s,x],argTypes:= #[113,113]})
  (A:Nat) (v:Value) (ms:List VM) (m:VM) (I c:Nat) (hs:E.eval s=v) (hx:E.eval x=sS I 1 c) (J:oN w A v ms)
  (hc:∀j u,(vmC m)[j]? =some u→w.cell? ⟨I,j,none⟩=some u) (aa:ms.length≤1048576) (N:A≤w.heap.size)
  (h:∀G w',oN w' A G (ms++[m])→w.grownBy w' v.ownBlock→wpList prog L Q K (E.put o.dst G) w'):wpList prog L Q (o::K) E w:=by
 obtain⟨i0,hi,V,Y,Z⟩:=info_parts I3;have O:w.ownsRow A 118 4 v ms.length (ms.map vmC).flatten:=(by have:=J.2;rw[OW] at this;exact this);refine wpList_append_own w U s x 113 ho A 118 i0 (.agg #[.int .u32 0,.int .i64 0,.int .u32 0,sN]) 4 48 underlying113 hi V Y Z rfl (by decide) v ms.length (ms.map vmC).flatten hs O ⟨I,0,none⟩ 1 c (vmC m) hx (by simp[vmC]) ?_ ?_ (by unfold maxLen;omega) (by omega) N ?_
 ·intro j u hj;rw[ez,Ps];exact hc j u hj
 ·intro u M;simp only[vmC,Pd,Pw,or_false] at M;rcases M with rfl|rfl|rfl|rfl<;>rfl
 ·intro G w' R hg _;refine h G w' ⟨?_,?_⟩ hg
  ·intro y z;rw[O7,Pj] at z;rcases z with z|z
   ·exact J.1 y z
   ·simp only[Pe,PD,Ph] at z;rw[z];rfl
  ·rw[OW,O1,O7,PQ];simpa using R
structure VwJ(gv L:Nat)(w0 w:World)(h:VH)(v:Value)(ys:List VM):Prop where
 st:Blk w gv (vhA h v) 115
 row:oN w w0.heap.size v ys
 bod:∀m∈ys,dR w L m.v m.x.body
 bel:dX gv w0.heap.size w0 w
 lt:gv<w0.heap.size
theorem VwJ.below{E L:Nat}{h:VH}{v:Value}{ys:List VM}(z:VwJ E L w0 w h v ys)(A:Below w.heap.size w w'):VwJ E L w0 w' h v ys:=
 ⟨z.st.below A z.st.lt,dM.below z.row A (OV _),fun m G=>(z.bod m G).below A (OV _),z.bel.trans (dX.of_below A z.bel.size),z.lt⟩
theorem lT{u:Value}{l:LN}{A:Array Value}(M:dR w b u l)(z:Blk w g A t)(I:t≠5):u.ownBlock≠some g:=fun e=>by
 rcases M.2 with⟨L,_⟩|⟨K,N,O,E,_,G,_⟩
 ·rw[L] at e;cases e
 ·rw[E] at e;have J:K=g:=PJ e;subst J;unfold Blk at z;rw[G] at z;simp only[OY,Obj.cells.injEq] at z;exact I z.2.1.symm
theorem jU{v:Value}{l:LN}(h:dR w B v l)(J:∀g,v.ownBlock=some g→g<w.heap.size→w'.heap[g]? =w.heap[g]?):dR w' B v l:=by
 refine⟨h.1,?_⟩;rcases h.2 with K|⟨g,cap,G,A,I,z,E⟩
 ·exact .inl K
 ·exact .inr ⟨g,cap,G,A,I,(J g (by rw[A];rfl) (OT z)).trans z,E⟩
theorem VwJ.app{L:Nat}{h:VH}{v:Value}{ys:List VM}{m:VM}(z:VwJ A L w0 W h v ys)(Z:dR W L m.v m.x.body)(R:oN w' w0.heap.size E (ys++[m]))(J:W.grownBy w' v.ownBlock):
  w'.cell? ⟨A,5,none⟩=some v∧w'.frozen? ⟨A,5,none⟩=false∧VwJ A L w0 (w'.setCell ⟨A,5,none⟩ E) h E (ys++[m]):=by
 have M:∀b,b<W.heap.size→v.ownBlock≠some b→w'.heap[b]? =W.heap[b]? :=fun b z G=>J.block b z (fun e=>G e.symm);have V:v.ownBlock≠some A:=eV z.row z.st (by decide);have I:Blk w' A (vhA h v) 115:=eA z.st (M A z.st.lt V);have U:E.ownBlock≠some A:=eV R I (by decide);refine⟨I.cell 5,I.fz 5,?_,?_,?_,?_,z.lt⟩
 ·have:=I.set 5 E;simpa[vhA] using this
 ·exact dM.keep R (fun b K=>OQ w' ⟨A,5,none⟩ b E (by intro e;have e:b=A:=e;subst e;exact U K))
 ·intro x hx;have O:dR W L x.v x.x.body:=by
   rcases Pj.1 hx with G|G
   ·exact z.bod x G
   ·rw[Ph.1 G];exact Z
  have Q:dR w' L x.v x.x.body:=jU O (fun g N Y=>M g Y (fun e=>qa z.row O (by decide) g e N));exact jU Q (fun g N _=>OQ w' ⟨A,5,none⟩ g E (by intro e;have e:g=A:=e;subst e;exact lT Q I (by decide) N))
 ·exact dX.set ⟨J.os.trans z.bel.os,J.tape.trans z.bel.tape,J.output.trans z.bel.output,O0 z.bel.size J.size,fun b K hn=>(M b (Pb K z.bel.size) (fun e=>by have:=(dM.lt z.row b e).1;omega)).trans (z.bel.block b K hn)⟩ E
def xR(L:Nat)(h:VH)(ys:List VM)(w:World)(e:Ending)(w':World):Prop:=∃ma mc,e= .returned (.agg (vhA h (.slice ma ys.length mc)))∧oN w' w.heap.size (.slice ma ys.length mc) ys∧(∀m∈ys,dR w' L m.v m.x.body)∧Below w.heap.size w w'
theorem Jo{w0 w:World}{L:Nat}{ms:List IM}{r:List XM}{bvs:List Value}(hl:bvs.length=ms.length)(hr:r.length=ms.length)(I:∀k (A:k<bvs.length) (E:k<r.length),dR w L bvs[k] r[k].body):
  ∃ys:List VM,ys.length=ms.length∧ys.map VM.v=bvs∧ys.map VM.x=List.zipWith (fun m x=>⟨m.uid,m.stamp,m.flags,x.body⟩) ms r∧(∀m∈ys,dR w L m.v m.x.body):=by
 induction ms generalizing r bvs with
 |nil=>
  have A:bvs=[]:=(by simpa using hl);have E:r=[]:=(by simpa using hr);subst A E;exact⟨[],rfl,rfl,rfl,(fun m Q=>by cases Q)⟩
 |cons m ms ih=>
  match bvs,r,hl,hr with
  |bv::bvs,x::r,hl,hr=>
   obtain⟨ys,K,M,N,O⟩:=ih (r:=r) (bvs:=bvs) (by simpa using hl) (by simpa using hr) (fun k A E=>by
    have:=I (k+1) (by simpa using A) (by simpa using E);simpa using this)
   have z:=I 0 (by simp) (by simp);simp only[List.getElem_cons_zero] at z;obtain⟨a,c,J⟩:=z.slice;refine⟨⟨⟨m.uid,m.stamp,m.flags,x.body⟩,a,c⟩::ys,by simp[K],by simp[M,VM.v,J],by simp[N],?_⟩;intro y G;rcases Pd.1 G with rfl|G
   ·rw[J] at z;exact z
   ·exact O y G
theorem rS(W:World)(g:Nat)(v0 v1 v2 v3 v4 v5:Value)(b:Nat)(z:b≠g):((((((W.setCell ⟨g,0,none⟩ v0).setCell ⟨g,1,none⟩ v1).setCell ⟨g,2,none⟩ v2).setCell ⟨g,3,none⟩ v3).setCell ⟨g,4,none⟩ v4).setCell ⟨g,5,none⟩ v5).heap[b]? =W.heap[b]? :=by
 rw[OQ _ _ _ _ z,OQ _ _ _ _ z,OQ _ _ _ _ z,OQ _ _ _ _ z,OQ _ _ _ _ z,OQ _ _ _ _ z]
abbrev N2(W:World)(g:Nat)(h:VH)(v:Value):World:=(((((W.setCell ⟨g,0,none⟩ (.int .i64 0)).setCell ⟨g,1,none⟩ (.int .i64 h.kind)).setCell ⟨g,2,none⟩ (.int .u32 (h.val:Int))).setCell ⟨g,3,none⟩ (.int .u32 (h.next:Int))).setCell ⟨g,4,none⟩ (.int .u32 (h.cur:Int))).setCell ⟨g,5,none⟩ v
theorem VwJ.fin{M L gr:Nat}{wE:World}{h:VH}{E:OA}{G:Nat}{ys:List VM}{A:Array Value}(I:VwJ M L w0 w h (.slice E ys.length G) ys)(J:Below wE.heap.size wE w0)(R:wE.heap.size≤M)(Q:Blk w gr A 115)(z:wE.heap.size≤gr):
  xR L h ys wE (.returned (.agg (vhA h (.slice E ys.length G)))) (N2 w gr h (.slice E ys.length G)):=by
 have N:=fun b (J:b≠gr)=>rS w gr (.int .i64 0) (.int .i64 h.kind) (uI h.val) (uI h.next) (uI h.cur) (.slice E ys.length G) b J;have U:(Value.slice E ys.length G).ownBlock≠some gr:=eV I.row Q (by decide);refine⟨E,G,rfl,(dM.keep I.row (fun g K=>N g (fun e=>U (by rw[←e];exact K)))).mono J.size,fun m O=>jU (I.bod m O) (fun g K _=>N g (fun e=>lT (I.bod m O) Q (by decide) (by rw[←e];exact K))),?_⟩;have V:Below wE.heap.size wE w:=gX J I.bel R J.size;exact(((((V.setCell (p:=⟨gr,0,none⟩) z _).setCell (p:=⟨gr,1,none⟩) z _).setCell (p:=⟨gr,2,none⟩) z _).setCell (p:=⟨gr,3,none⟩) z _).setCell (p:=⟨gr,4,none⟩) z _).setCell (p:=⟨gr,5,none⟩) z _
theorem pU(U lo L:Nat)(w:World)(s:IX)(i0 i1 i2 t0 t1 t2:Value)(am:OA)(cm:Nat)(bvs:List Value)(ys:List VM)(ao:Blk w U (mbF s i0 i1 i2 t0 t1 t2 (.slice am s.mails.length cm)) 214)(ax:dM w lo 243 6 (.slice am s.mails.length cm) (List.zipWith il1 s.mails bvs))(aw:bvs.length=s.mails.length)(aK:ys.length=s.mails.length)(aM:ys.map VM.v=bvs)(aN:∀k (h1:k<ys.length) (h2:k<s.mails.length),ys[k].x.uid=s.mails[k].uid∧ys[k].x.stamp=s.mails[k].stamp∧ys[k].x.flags=s.mails[k].flags)(au:∀m∈ys,dR w L m.v m.x.body)(hn:s.mails.length≤100):
  Calls prog 270 #[pP U] w (xR L ⟨1,s.val,s.next,0⟩ ys w):=by
 have V:=nAl w (.cells #[.int .i64 0,.int .i64 0,.int .u32 0,.int .u32 0,.int .u32 0,sN] 115);have Q:=a8 (dQ w #[.int .i64 0,.int .i64 0,.int .u32 0,.int .u32 0,.int .u32 0,sN] 115);have HA:=a8 V;have G:=a8 (ao.below V ao.lt);have ae:=a8 (dM.below ax V (OV _));have ad:=a8 (fun m Y=>(au m Y).below V (OV _));have aC:=a8 (fun W=>wZ s.val s.next 1 W);have ai:=a8 aK;have aZ:=a8 (show∀k (h:k<ys.length) (h2:k<s.mails.length) (h3:k<bvs.length),il1 s.mails[k] bvs[k]=vmC ys[k]++[.int .i64 (s.mails[k].size:Int),.bool (decide (s.mails[k].bare=1))] from fun k h h2 h3=>by
  obtain⟨e1,e2,e3⟩:=aN k h h2;have e4:bvs[k]=ys[k].v:=by
   have:bvs[k]? =(ys.map VM.v)[k]? :=(by rw[aM]);rw[OZ h3,PE,OZ h] at this;exact PJ this
  unfold il1 vmC;rw[e1,e2,e3,e4];rfl)
 have ap:=a8 aw;clear ao ax aM aN au V aw;go_enter func270,ntmps270;go_upto_region 1 with fail;generalize w.alloc (.cells #[.int .i64 0,.int .i64 0,.int .u32 0,.int .u32 0,.int .u32 0,sN] 115)=w1 at Q HA G ae ad⊢;obtain⟨g0,g1⟩:=G.c2;go_wp2_with fail;refine(aC.out _).mono ?_;rintro e z ⟨rfl,O⟩;have aE:=nAl z (.cells (vhA ⟨1,s.val,s.next,0⟩ (sN)) 115);have R:=a8 (dQ z (vhA ⟨1,s.val,s.next,0⟩ (sN)) 115);have I:=O.trans (aE.mono O.size);have aq:=a8 (G.below I G.lt);have N:=a8 (dM.below ae I (OV _));have ac:=a8 (fun m Y=>(ad.out m Y).below I (OV _));have ah:=a8 (Q.below I Q.lt);have az:=bTr HA I;have aU:=a8 (show w.heap.size≤z.heap.size from O0 HA.size O.size);have aX:=a8 (show w.heap.size<z.heap.size from Pb Q.lt O.size);clear g0 g1 O aE I aC G ae ad Q;go_upto_region 2 with fail;generalize z.alloc (.cells (vhA ⟨1,s.val,s.next,0⟩ (sN)) 115)=W at R aq N ac ah az⊢;obtain⟨-,-,-,-,-,-,-,-,-,g9⟩:=aq.c10;have aS:=a8 (show VwJ z.heap.size L W W ⟨1,s.val,s.next,0⟩ (sN) [] from⟨R,dM.nil _ _ _ _,(fun m Y=>by cases Y),dX.refl _ _ _,R.lt⟩);clear aK;go_wp2;clear g9;go_loopw [5,16] (fun _ i wr=>∃(j:Nat) (K:OA) (M:Nat),j≤s.mails.length∧i=iI j∧Hid (VwJ z.heap.size L W wr ⟨1,s.val,s.next,0⟩ (.slice K j M) (ys.take j))) (fun _ i _=>s.mails.length-(intOf i).toNat)
 case atStart=>exact⟨0,none,0,O4 _,rfl,aS⟩
 case round=>
  obtain⟨j,K,M,hj,rfl,HI⟩:=hrel;by_cases al:j<s.mails.length
  ·have bd:(j:Int)<(s.mails.length:Int):=(by omega);have ab:j<ys.length:=(by have:=ai.out;omega);have aG:j<bvs.length:=(by have:=ap.out;omega);have aB:=a8 HI.bel;obtain⟨g,bb,_,_⟩:=N.at0 (by rw[List.length_zipWith,ap.out];omega);subst bb;have aR:=a8 (show g≠z.heap.size from fun e=>eV N R (by decide) (by rw[e];rfl));have A:=a8 (show∀k (hk:k<6),wr.cell? ⟨g,j*6+k,none⟩=(vmC ys[j]++[.int .i64 (s.mails[j].size:Int),.bool (decide (s.mails[j].bare=1))])[k]? from fun k hk=>by
    rw[←aZ.out j ab al aG,←pf N.out j al aG k hk];exact ef (aB.block g (dM.lt N g rfl).2 aR))
   have aD:=a8 (show ys.take (j+1)=ys.take j++[ys[j]] from fD ys j ab);have aA:=a8 (show dR wr L ys[j].v ys[j].x.body from jU (ac.out ys[j] (O6 ab)) (fun q hq aP=>aB.block q aP (fun e=>lT (ac.out ys[j] (O6 ab)) R (by decide) (by rw[←e];exact hq))));generalize ys[j]=m at A aD aA;generalize s.mails[j].size=Z at A;generalize decide (s.mails[j].bare=1)=y5 at A;have k0:wr.cell? ⟨g,j*6,none⟩=some (uI m.x.uid):=A.out 0 (by omega);have k1:wr.cell? ⟨g,j*6+1,none⟩=some (iI m.x.stamp):=A.out 1 (by omega);have k2:wr.cell? ⟨g,j*6+2,none⟩=some (uI m.x.flags):=A.out 2 (by omega);have k3:wr.cell? ⟨g,j*6+3,none⟩=some (.slice m.ba m.x.body.length m.bc):=A.out 3 (by omega);have k4:wr.cell? ⟨g,j*6+4,none⟩=some (iI Z):=A.out 4 (by omega);have k5:wr.cell? ⟨g,j*6+5,none⟩=some (.bool y5):=A.out 5 (by omega);have ak:=nAl wr (.cells #[uI m.x.uid,iI m.x.stamp,uI m.x.flags,.slice m.ba m.x.body.length m.bc,iI Z,.bool y5] 243);have J:=a8 (dQ wr #[uI m.x.uid,iI m.x.stamp,uI m.x.flags,.slice m.ba m.x.body.length m.bc,iI Z,.bool y5] 243);have af:=a8 (HI.below ak);have ay:=a8 (aA.below ak (OV _));clear ak A;go_upto_region 5 with fail;generalize wr.alloc (.cells #[uI m.x.uid,iI m.x.stamp,uI m.x.flags,.slice m.ba m.x.body.length m.bc,iI Z,.bool y5] 243)=X at J af ay⊢;clear k0 k1 k2 k3 k4 k5;obtain⟨m0,m1,m2,m3⟩:=J.c4;obtain⟨-,-,-,-,-,v5⟩:=af.st.c6;have aj:=nAl X (.cells #[uI m.x.uid,iI m.x.stamp,uI m.x.flags,.slice m.ba m.x.body.length m.bc] 118);have aV:=a8 (dQ X #[uI m.x.uid,iI m.x.stamp,uI m.x.flags,.slice m.ba m.x.body.length m.bc] 118);have ag:=a8 (af.below aj);have aO:=a8 (ay.below aj (OV _));have aI:(ys.take j).length≤1048576:=(by rw[Pa];omega);have aT:=a8 aI;have aY:=a8 (show(ys.take j).length=j by rw[Pa];omega);clear aj aI J;go_wp2_with (at_builtin;refine rm _ rfl (.tmp 21) (.tmp 24) rfl W.heap.size (.slice K j M) (ys.take j) m X.heap.size 1 rfl rfl ag.row (fun j v hj=>(aV.cell j).trans (by simpa[vmC] using hj)) aT.out ag.bel.size ?_;intro v6 w6 an aF;have aa:=ag.app aO an aF;obtain⟨a7,c7,aJ⟩:=dM.slice an;rw[show((ys.take j++[m]).map vmC).length=j+1 by rw[OW,O1,aY.out];rfl] at aJ;subst aJ;have bf:=aa.1;have be:=aa.2.1;have aQ:=a8 aa.2.2;clear aa an aF)
   exact⟨⟨j+1,a7,c7,by omega,by go_num,by rw[aD.out];exact aQ⟩,by simp[intOf];omega⟩
  ·have aH:j=s.mails.length:=(by omega);have aL:ys.take j=ys:=(by rw[Pc (by have:=ai.out;omega)]);rw[aL] at HI;have ar:=a8 (show j=ys.length by rw[aH];exact ai.symm);subst aH;have aW:=a8 (show w.heap.size≠z.heap.size from by have:=aX.out;omega);have E:=a8 (eA ah (HI.bel.block w.heap.size ah.lt aW));obtain⟨r0,r1,r2,r3,r4,r5⟩:=E.c6;have fr:=fun j=>E.fz j;obtain⟨y0,y1,y2,y3,Z,y5⟩:=HI.st.c6;clear aL al;go_wp2;refine OJ (qe w.heap.size _ (.int .i64 0) (.int .i64 1) (uI s.val) (uI s.next) (.int .u32 0) (.slice K s.mails.length M) rfl rfl (E4 E)) rfl ?_;have av:=VwJ.fin (wE:=w) (gr:=w.heap.size) (ys:=ys) (by rw[←ar.out];exact HI.out) az aU E (OV _);rw[←ar.out] at av;exact av
theorem JT{fn:Func}{p:Tmp}(B:Nat)(W:World)(v0 v1 v2 v3:Value)(A:fn.results= #[.cell p 118])(E:tmps.getD p undef=pP B)(z:Blk W B #[v0,v1,v2,v3] 118):
  (results fn tmps).run prog W= .ok (.agg #[v0,v1,v2,v3]) W:=results_cell_row (P:=prog) A _ _ B _ _ _ _ E z underlying118 rfl (by kernel_rfl)
theorem N6{z A:Value}(h:Blk W g #[z,A,E,G] t):Blk ((((W.setCell ⟨g,0,none⟩ v0).setCell ⟨g,1,none⟩ v1).setCell ⟨g,2,none⟩ v2).setCell ⟨g,3,none⟩ v3) g #[v0,v1,v2,v3] t:=by
 have:=((((h.set 0 v0).set 1 v1).set 2 v2).set 3 v3)
 simpa using this
theorem za(v:Value)(w:World):(callFunc 164 #[v]).run prog w= .ok (.enter 164 #[v]) w:=by
 go_simp
def CmS(g:Nat)(c1 c4 c5 c6:Value)(w:World):Prop:=w.cell? ⟨g,1,none⟩=some c1∧w.cell? ⟨g,4,none⟩=some c4∧w.cell? ⟨g,5,none⟩=some c5∧w.cell? ⟨g,6,none⟩=some c6
theorem Hx{a:OA}{l:LN}(K:l.length≤1048576)(L:dW W a l)(E:Below W.heap.size W Y):
  Calls prog 164 #[.slice a l.length cap] Y fun e w'=>∃z A,e= .returned (.slice z l.length A)∧dR w' W.heap.size (.slice z l.length A) l∧Below W.heap.size W w':=
 (wI a cap l Y K (L.below E)).mono (fun e w' h=>by
  obtain⟨v,J,G,I⟩:=h;obtain⟨z,A,rfl⟩:=G.slice;exact⟨z,A,J,G.mono E.size,E.trans (I.mono E.size)⟩)
def MF(c:Cd)(l:LN)(w:World)(e:Ending)(w':World):Prop:=∃ba bc,e= .returned (.agg #[.int .u32 (c.uid:Int),.int .i64 (c.stamp:Int),.int .u32 (c.flags:Int),.slice ba l.length bc])∧dR w' w.heap.size (.slice ba l.length bc) l∧Below w.heap.size w w'
theorem x8(c:Cd)(l:LN)(w:World)(hr:dW w c.ad l)(hl:l.length≤1048576):
  Calls prog 273 #[.agg #[.string c.name,.slice c.ad l.length c.dc,.int .i64 (l.length:Int),.bool true,.int .u32 (c.uid:Int),.int .i64 (c.stamp:Int),.int .u32 (c.flags:Int)]] w (MF c l w):=by
 obtain⟨L1,L2,hA,hz⟩:=sj w #[.string c.name,.slice c.ad l.length c.dc,iI l.length,.bool true,uI c.uid,iI c.stamp,uI c.flags] #[.int .u32 0,.int .i64 0,.int .u32 0,sN] 217 118;have I:=a8 L1;have U:=a8 L2;have HA:=a8 hA;have HR:=a8 (hr.below hA);clear hr L1 L2 hA hz;go_enter func273,ntmps273;go_upto_region 1 with fail;generalize (w.alloc (.cells #[.string c.name,.slice c.ad l.length c.dc,iI l.length,.bool true,uI c.uid,iI c.stamp,uI c.flags] 217)).alloc (.cells #[.int .u32 0,.int .i64 0,.int .u32 0,sN] 118)=X at I U HA HR⊢;have z:CmS w.heap.size (.slice c.ad l.length c.dc) (uI c.uid) (iI c.stamp) (uI c.flags) X.drew:=⟨I.cell 1,I.cell 4,I.cell 5,I.cell 6⟩
 have CC:=a8 (fun(Y:World) (hY:Below X.heap.size X Y)=>Hx (cap:=c.dc) hl HR hY);refine gF (by kernel_rfl) (CmS w.heap.size (.slice c.ad l.length c.dc) (uI c.uid) (iI c.stamp) (uI c.flags)) 14 ?_;refine dZ 0 (.pointer (some ⟨w.heap.size,3,none⟩)) rfl z ?_ ?_
 ·rintro wz ⟨A,z4,E,G⟩;go_simp
 simp only[dI,dJ,dK,dL];refine dZ 1 (.pointer (some ⟨w.heap.size,4,none⟩)) rfl z ?_ ?_
 ·rintro wz ⟨A,z4,E,G⟩;go_simp
 simp only[dI,dJ,dK,dL];refine dZ 2 (uI c.uid) rfl z ?_ ?_
 ·rintro wz ⟨A,z4,E,G⟩;go_simp
 simp only[dI,dJ,dK,dL];refine dZ 3 (.pointer (some ⟨w.heap.size,3,none⟩)) rfl z ?_ ?_
 ·rintro wz ⟨A,z4,E,G⟩;go_simp
 simp only[dI,dJ,dK,dL];refine dZ 4 (.pointer (some ⟨w.heap.size,5,none⟩)) rfl z ?_ ?_
 ·rintro wz ⟨A,z4,E,G⟩;go_simp
 simp only[dI,dJ,dK,dL];refine dZ 5 (iI c.stamp) rfl z ?_ ?_
 ·rintro wz ⟨A,z4,E,G⟩;go_simp
 simp only[dI,dJ,dK,dL];refine dZ 6 (.pointer (some ⟨w.heap.size,3,none⟩)) rfl z ?_ ?_
 ·rintro wz ⟨A,z4,E,G⟩;go_simp
 simp only[dI,dJ,dK,dL];refine dZ 7 (.pointer (some ⟨w.heap.size,6,none⟩)) rfl z ?_ ?_
 ·rintro wz ⟨A,z4,E,G⟩;go_simp
 simp only[dI,dJ,dK,dL];refine dZ 8 (uI c.flags) rfl z ?_ ?_
 ·rintro wz ⟨A,z4,E,G⟩;go_simp
 simp only[dI,dJ,dK,dL];refine dZ 9 (pP w.heap.size) rfl z ?_ ?_
 ·rintro wz ⟨A,z4,E,G⟩;go_simp
 simp only[dI,dJ,dK,dL];refine dZ 10 (.pointer (some ⟨w.heap.size,1,none⟩)) rfl z ?_ ?_
 ·rintro wz ⟨A,z4,E,G⟩;go_simp
 simp only[dI,dJ,dK,dL];refine dZ 11 (.slice c.ad l.length c.dc) rfl z ?_ ?_
 ·rintro wz ⟨A,z4,E,G⟩;go_simp
 simp only[dI,dJ,dK,dL];refine dY 12 rfl (by kernel_rfl) (fun K N=> ?_);refine fZ 164 za (.tmp 14) #[52] (by rfl) (by rfl) (.slice c.ad l.length c.dc) (by simp[go_sem]) ?_;refine(CC.out _ (OX _ _).drew).mono ?_;rintro e O ⟨L,M,rfl,ab,R⟩;have ac:=a8 R;have ae:=a8 ab;have Q:=a8 (I.below R I.lt);have J:=a8 (U.below R U.lt);have Z:CmS w.heap.size (.slice c.ad l.length c.dc) (uI c.uid) (iI c.stamp) (uI c.flags) O:=⟨Q.cell 1,Q.cell 4,Q.cell 5,Q.cell 6⟩
 refine⟨_,rfl,N _ _ (fun _=>Z) ?_⟩;clear N K z ab R CC;have z:=Z
 try simp only[dI,dJ,dK,dL]
 refine dZ 13 (.agg #[uI c.uid,iI c.stamp,uI c.flags,.slice L l.length M]) rfl z ?_ ?_
 ·rintro wz ⟨A,z4,E,G⟩;go_simp
 simp only[dI,dJ,dK,dL];have r0:O.cell? ⟨w.heap.size+1,0,none⟩=some (.int .u32 0):=J.cell 0;have r1:O.cell? ⟨w.heap.size+1,1,none⟩=some (.int .i64 0):=J.cell 1;have r2:O.cell? ⟨w.heap.size+1,2,none⟩=some (.int .u32 0):=J.cell 2;have r3:O.cell? ⟨w.heap.size+1,3,none⟩=some (sN):=J.cell 3;have fr:=fun j=>J.fz j;have aa:=a8 (show w.heap.size+1<X.heap.size from U.lt);refine dY 14 rfl (by kernel_rfl) (fun K N=> ?_);go_simp;refine N _ _ (fun h=>by cases h) (fe (by kernel_rfl) ?_ _);clear N K z Z;go_wp2;refine OJ (JT (w.heap.size+1) _ (uI c.uid) (iI c.stamp) (uI c.flags) (.slice L l.length M) rfl rfl (N6 J)) rfl ?_;refine⟨L,M,rfl,?_,?_⟩
 ·have V:∀p j u W,dR W X.heap.size (.slice L l.length M) l→p=w.heap.size+1→dR (W.setCell ⟨p,j,none⟩ u) X.heap.size (.slice L l.length M) l:=fun p j u W h e=>h.set_low (p:=⟨p,j,none⟩) (by have:=aa.out;simp only;omega) u;exact(V _ _ _ _ (V _ _ _ _ (V _ _ _ _ (V _ _ _ _ ae rfl) rfl) rfl) rfl).mono (by have:=aa.out;omega)
 ·exact(((((HA.trans (ac.mono HA.size)).setCell (p:=⟨w.heap.size+1,0,none⟩) (Nat.le_succ _) _).setCell (p:=⟨w.heap.size+1,1,none⟩) (Nat.le_succ _) _).setCell (p:=⟨w.heap.size+1,2,none⟩) (Nat.le_succ _) _).setCell (p:=⟨w.heap.size+1,3,none⟩) (Nat.le_succ _) _)
theorem zR(c:Cd)(l:LN)(L:dW X c.ad l)(J:l.length≤1048576)(E:Below X.heap.size X Y):
  Calls prog 273 #[.agg #[.string c.name,.slice c.ad l.length c.dc,.int .i64 (l.length:Int),.bool true,.int .u32 (c.uid:Int),.int .i64 (c.stamp:Int),.int .u32 (c.flags:Int)]] Y fun e w'=>∃z A,e= .returned (.agg #[.int .u32 (c.uid:Int),.int .i64 (c.stamp:Int),.int .u32 (c.flags:Int),.slice z l.length A])∧dR w' X.heap.size (.slice z l.length A) l∧Below X.heap.size X w':=
 (x8 c l Y (L.below E) J).mono (fun e w' h=>by
  obtain⟨z,A,I,K,G⟩:=h;exact⟨z,A,I,K.mono E.size,E.trans (G.mono E.size)⟩)
theorem BJ(v:Value)(w:World):(callFunc 273 #[v]).run prog w= .ok (.enter 273 #[v]) w:=by
 go_simp
def LdS(gc gv:Nat)(c0 c1 c2 c3 c4 c5 c6 v5:Value)(w:World):Prop:=w.cell? ⟨gc,0,none⟩=some c0∧w.cell? ⟨gc,1,none⟩=some c1∧w.cell? ⟨gc,2,none⟩=some c2∧w.cell? ⟨gc,3,none⟩=some c3∧w.cell? ⟨gc,4,none⟩=some c4∧w.cell? ⟨gc,5,none⟩=some c5∧w.cell? ⟨gc,6,none⟩=some c6∧w.cell? ⟨gv,5,none⟩=some v5
theorem LdS.below{G:Nat}(h:LdS z G I J K L M N O v5 w)(A:Below w.heap.size w w')(E:z<w.heap.size)(Q:G<w.heap.size):LdS z G I J K L M N O v5 w':=
 ⟨(A.cell (p:=⟨z,0,none⟩) E).trans h.1,(A.cell (p:=⟨z,1,none⟩) E).trans h.2.1,(A.cell (p:=⟨z,2,none⟩) E).trans h.2.2.1,(A.cell (p:=⟨z,3,none⟩) E).trans h.2.2.2.1,(A.cell (p:=⟨z,4,none⟩) E).trans h.2.2.2.2.1,(A.cell (p:=⟨z,5,none⟩) E).trans h.2.2.2.2.2.1,(A.cell (p:=⟨z,6,none⟩) E).trans h.2.2.2.2.2.2.1,(A.cell (p:=⟨G,5,none⟩) Q).trans h.2.2.2.2.2.2.2⟩
def mK(vs:List Value):Prop:=vs.Pairwise fun x y=>x.ownBlock=none∨x.ownBlock≠y.ownBlock
theorem Cw{w:World}{L:Nat}{ys:List VM}{m:VM}{w':World}(h:mK (ys.map VM.v))(E:∀y∈ys,dR w L y.v y.x.body)(G:dR w' w.heap.size m.v m.x.body):mK ((ys++[m]).map VM.v):=by
 unfold mK at*;rw[O7,PS];refine⟨h,List.pairwise_singleton _ _,fun x I y A=> ?_⟩;simp only[Pe,PD,Ph] at A;subst A;obtain⟨z,J,rfl⟩:=Pg.1 I;cases he:z.v.ownBlock with
 |none=>exact .inl rfl
 |some g=>
  refine .inr (fun e=> ?_);have K:=(OF (E z J) g he).2;have M:=(OF G g e.symm).1;omega
def KJ(dat:Cd→LN)(val next:Nat)(cs:List Cd)(w:World)(e:Ending)(w':World):Prop:=∃ys:List VM,xR w.heap.size ⟨3,val,next,0⟩ ys w e w'∧ys.map VM.x=cs.map (fun c=>⟨c.uid,c.stamp,c.flags,dat c⟩)∧mK (ys.map VM.v)
theorem uo(g o lo:Nat)(wd w:World)(J:Cd→LN)(val next:Nat)(ca:OA)(cc:Nat)(cs:List Cd)(hb:Below wd.heap.size wd w)(h0:w.cell? ⟨g,o,none⟩=some (.int .u32 (val:Int)))(h1:w.cell? ⟨g,o+1,none⟩=some (.int .u32 (next:Int)))(h6:w.cell? ⟨g,o+6,none⟩=some (.slice ca cs.length cc))(aC:l7 w lo (.slice ca cs.length cc) cs)(hd:∀c∈cs,fV wd c.ad c.dc (J c)∧c.dl=(J c).length∧(J c).length≤1048576)(hn:cs.length≤1048576):
  Calls prog 271 #[.pointer (some ⟨g,o,none⟩)] w (KJ J val next cs w):=by
 have hA:=nAl w (.cells #[.int .i64 0,.int .i64 0,.int .u32 0,.int .u32 0,.int .u32 0,sN] 115);have HR:=a8 (dQ w #[.int .i64 0,.int .i64 0,.int .u32 0,.int .u32 0,.int .u32 0,sN] 115);have HA:=a8 hA;have HB:=a8 hb;have HD:=a8 hd;have am:=a8 (dM.below aC hA (OV _));have aF:=a8 (fun W=>wZ val next 3 W);have H0:=a8 ((hA.cell (p:=⟨g,o,none⟩) (dG h0)).trans h0);have H1:=a8 ((hA.cell (p:=⟨g,o+1,none⟩) (dG h1)).trans h1);have H6:=a8 ((hA.cell (p:=⟨g,o+6,none⟩) (dG h6)).trans h6);clear aC hA hb hd h0 h1 h6;go_enter func271,ntmps271;go_upto_region 1 with fail;generalize w.alloc (.cells #[.int .i64 0,.int .i64 0,.int .u32 0,.int .u32 0,.int .u32 0,sN] 115)=w1 at HR HA am H0 H1 H6⊢;have g0:=H0.out;have g1:=H1.out;go_wp2_with fail;refine(aF.out _).mono ?_;rintro e z ⟨rfl,ag⟩;have aM:=nAl z (.cells (vhA ⟨3,val,next,0⟩ (sN)) 115);have HV:=a8 (dQ z (vhA ⟨3,val,next,0⟩ (sN)) 115);have ah:=ag.trans (aM.mono ag.size);have ab:=a8 (dM.below am ah (OV _));have ao:=a8 (HR.below ah HR.lt);have ac:=bTr HA ah;have aD:=a8 ((ah.cell (p:=⟨g,o+6,none⟩) (dG H6)).trans H6);have aH:=a8 (show w.heap.size≤z.heap.size from O0 HA.size ag.size);have aZ:=a8 (show w.heap.size<z.heap.size from Pb HR.lt ag.size);clear g0 g1 ag aM ah aF am HR H0 H1 H6;go_upto_region 2 with fail;generalize z.alloc (.cells (vhA ⟨3,val,next,0⟩ (sN)) 115)=W at HV ab ao ac aD⊢;have g6:=aD.out;have aV:=a8 (show VwJ z.heap.size W.heap.size W W ⟨3,val,next,0⟩ (sN) [] from⟨HV,dM.nil _ _ _ _,(fun m hm=>by cases hm),dX.refl _ _ _,HV.lt⟩);go_wp2;clear g6;go_loopw [5,16] (fun _ i wr=>∃(j:Nat) (E:OA) (G:Nat) (ys:List VM),j≤cs.length∧i=iI j∧Hid (ys.length=j)∧Hid (ys.map VM.x=(cs.take j).map (fun c=>⟨c.uid,c.stamp,c.flags,J c⟩))∧Hid (mK (ys.map VM.v))∧Hid (VwJ z.heap.size W.heap.size W wr ⟨3,val,next,0⟩ (.slice E j G) ys)) (fun _ i _=>cs.length-(intOf i).toNat)
 case atStart=>exact⟨0,none,0,[],O4 _,rfl,a8 rfl,a8 rfl,a8 List.Pairwise.nil,aV⟩
 case round=>
  obtain⟨j,E,G,ys,hj,rfl,aa,aK,aE,HI⟩:=hrel;by_cases ai:j<cs.length
  ·have bg:(j:Int)<(cs.length:Int):=(by omega);have aS:=a8 HI.bel;obtain⟨gr,be,_,_⟩:=ab.at0 (by rw[OW];omega);subst be;have aU:=a8 (show gr≠z.heap.size from fun e=>eV ab HV (by decide) (by rw[e];rfl));obtain⟨aN,ax,aw⟩:=HD.out cs[j] (O6 ai);have I:=a8 (show∀k (hk:k<7),wr.cell? ⟨gr,j*7+k,none⟩=(ee cs[j])[k]? from fun k hk=>by
    have hl:((cs.map ee)[j]'(by simpa using ai)).length=7:=(by rw[Po];rfl);rw[ef (aS.block gr (dM.lt ab.out gr rfl).2 aU.out),ab.cell j k (by simpa using ai) (by rw[hl];exact hk),OZ (by show k<7;exact hk)];congr 1;simp)
   have au:=a8 (show(cs.take (j+1)).map (fun c=>(⟨c.uid,c.stamp,c.flags,J c⟩:LM))=(cs.take j).map (fun c=>⟨c.uid,c.stamp,c.flags,J c⟩)++[⟨cs[j].uid,cs[j].stamp,cs[j].flags,J cs[j]⟩] by rw[fD cs j ai,O7];rfl);have av:=a8 (show∀X,Below w.heap.size w X→dW X cs[j].ad (J cs[j]) from fun X hX=>(aN.below (HB.trans (hX.mono HB.size))).row);generalize cs[j]=c at I au av ax aw;unfold ee at I;rw[ax] at I;clear aN ax;generalize J c=l at I au av aw;have k0:wr.cell? ⟨gr,j*7,none⟩=some (.string c.name):=I.out 0 (by omega);have k1:wr.cell? ⟨gr,j*7+1,none⟩=some (.slice c.ad l.length c.dc):=I.out 1 (by omega);have k2:wr.cell? ⟨gr,j*7+2,none⟩=some (iI l.length):=I.out 2 (by omega);have k3:wr.cell? ⟨gr,j*7+3,none⟩=some (.bool true):=I.out 3 (by omega);have k4:wr.cell? ⟨gr,j*7+4,none⟩=some (uI c.uid):=I.out 4 (by omega);have k5:wr.cell? ⟨gr,j*7+5,none⟩=some (iI c.stamp):=I.out 5 (by omega);have k6:wr.cell? ⟨gr,j*7+6,none⟩=some (uI c.flags):=I.out 6 (by omega);have aL:=nAl wr (.cells #[.string c.name,.slice c.ad l.length c.dc,iI l.length,.bool true,uI c.uid,iI c.stamp,uI c.flags] 217);have A:=a8 (dQ wr #[.string c.name,.slice c.ad l.length c.dc,iI l.length,.bool true,uI c.uid,iI c.stamp,uI c.flags] 217);have Q:=a8 (HI.below aL);clear aL I;go_upto_region 5 with fail;generalize wr.alloc (.cells #[.string c.name,.slice c.ad l.length c.dc,iI l.length,.bool true,uI c.uid,iI c.stamp,uI c.flags] 217)=X at A Q⊢;clear k0 k1 k2 k3 k4 k5 k6;have aQ:=a8 (gX ac Q.bel aH ac.size);have CC:=a8 (fun(Y:World) (hY:Below X.heap.size X Y)=>zR c l (av.out X aQ) aw hY);have U:LdS wr.heap.size z.heap.size (.string c.name) (.slice c.ad l.length c.dc) (iI l.length) (.bool true) (uI c.uid) (iI c.stamp) (uI c.flags) (.slice E j G) X.drew:=⟨A.cell 0,A.cell 1,A.cell 2,A.cell 3,A.cell 4,A.cell 5,A.cell 6,Q.st.cell 5⟩
   have bb:=a8 (show LdS wr.heap.size z.heap.size (.string c.name) (.slice c.ad l.length c.dc) (iI l.length) (.bool true) (uI c.uid) (iI c.stamp) (uI c.flags) (.slice E j G) X from⟨A.cell 0,A.cell 1,A.cell 2,A.cell 3,A.cell 4,A.cell 5,A.cell 6,Q.st.cell 5⟩);refine gF (by kernel_rfl) (LdS wr.heap.size z.heap.size (.string c.name) (.slice c.ad l.length c.dc) (iI l.length) (.bool true) (uI c.uid) (iI c.stamp) (uI c.flags) (.slice E j G)) 7 ?_;refine dZ 0 (.pointer (some ⟨z.heap.size,5,none⟩)) rfl U ?_ ?_
   ·rintro wz ⟨z0,z1,z2,z3,z4,z5,z6,z7⟩;go_simp
   simp only[dI,dJ,dK,dL];refine dZ 1 (.slice E j G) rfl U ?_ ?_
   ·rintro wz ⟨z0,z1,z2,z3,z4,z5,z6,z7⟩;go_simp
   simp only[dI,dJ,dK,dL];refine dZ 2 (.agg #[.string c.name,.slice c.ad l.length c.dc,iI l.length,.bool true,uI c.uid,iI c.stamp,uI c.flags]) rfl U ?_ ?_
   ·rintro wz ⟨z0,z1,z2,z3,z4,z5,z6,z7⟩;go_simp
   simp only[dI,dJ,dK,dL];refine dY 3 rfl (by kernel_rfl) (fun K L=> ?_);refine fZ 273 BJ (.tmp 22) #[217] (by rfl) (by rfl) (.agg #[.string c.name,.slice c.ad l.length c.dc,iI l.length,.bool true,uI c.uid,iI c.stamp,uI c.flags]) (by simp[go_sem]) ?_;refine(CC.out _ (OX _ _).drew).mono ?_;rintro e V ⟨M,N,rfl,aA,ak⟩;have aG:=a8 (Q.below ak);have aY:=a8 aA;have an:=a8 (A.below ak A.lt);have aq:LdS wr.heap.size z.heap.size (.string c.name) (.slice c.ad l.length c.dc) (iI l.length) (.bool true) (uI c.uid) (iI c.stamp) (uI c.flags) (.slice E j G) V:=bb.below ak A.lt Q.st.lt;have aP:=a8 (show mK ((ys++[(⟨⟨c.uid,c.stamp,c.flags,l⟩,M,N⟩:VM)]).map VM.v) from Cw aE Q.bod aA);have aW:=a8 (show W.heap.size≤X.heap.size from Q.bel.size);refine⟨_,rfl,L _ _ (fun _=>aq) ?_⟩;clear L K U CC aA ak
   try simp only[dI,dJ,dK,dL]
   refine dY 4 rfl (by kernel_rfl) (fun K L=> ?_);go_simp;have af:=nAl V (.cells #[uI c.uid,iI c.stamp,uI c.flags,.slice M l.length N] 118);have aI:=a8 (dQ V #[uI c.uid,iI c.stamp,uI c.flags,.slice M l.length N] 118);have ae:=a8 (aG.below af);have aJ:=a8 (show dR (V.alloc (.cells #[uI c.uid,iI c.stamp,uI c.flags,.slice M l.length N] 118)) W.heap.size (.slice M l.length N) l from(aY.below af (OV _)).mono aW);have ar:LdS wr.heap.size z.heap.size (.string c.name) (.slice c.ad l.length c.dc) (iI l.length) (.bool true) (uI c.uid) (iI c.stamp) (uI c.flags) (.slice E j G) (V.alloc (.cells #[uI c.uid,iI c.stamp,uI c.flags,.slice M l.length N] 118)):=aq.below af an.lt aG.st.lt;have aj:=a8 (an.below af an.lt);refine L _ _ (fun _=>ar) ?_;clear L K af
   try simp only[dI,dJ,dK,dL]
   generalize V.alloc (.cells #[uI c.uid,iI c.stamp,uI c.flags,.slice M l.length N] 118)=Z at aI ae aJ ar aj⊢;refine dY 5 rfl (by kernel_rfl) (fun K L=> ?_);refine uW _ (by rfl) (.tmp 21) (.tmp 24) (by rfl) W.heap.size (.slice E j G) ys (⟨⟨c.uid,c.stamp,c.flags,l⟩,M,N⟩:VM) V.heap.size 1 (by simp[go_sem]) (by simp[go_sem]) ae.row (fun j v hj=>(aI.cell j).trans (by simpa[vmC] using hj)) (by have:=aa.out;omega) ae.bel.size ?_;intro v7 w7 az ay;have al:=ae.app aJ.out az ay;obtain⟨a7,c7,aO⟩:=dM.slice az;rw[show((ys++[(⟨⟨c.uid,c.stamp,c.flags,l⟩,M,N⟩:VM)]).map vmC).length=j+1 by rw[OW,O1,aa.out];rfl] at aO;subst aO;have z5:=al.1;have bd:=al.2.1;have aT:=a8 al.2.2;have R:=a8 (eA aj (ay.block _ aj.lt (fun e=>eV ae.row aj (by decide) e.symm)));have ap:LdS wr.heap.size z.heap.size (.string c.name) (.slice c.ad l.length c.dc) (iI l.length) (.bool true) (uI c.uid) (iI c.stamp) (uI c.flags) (.slice E j G) w7:=⟨R.cell 0,R.cell 1,R.cell 2,R.cell 3,R.cell 4,R.cell 5,R.cell 6,z5⟩
   refine L _ _ (fun _=>ap) ?_;clear L K al ay ar aq az;have U:=ap
   try simp only[dI,dJ,dK,dL]
   refine dZ 6 (.pointer (some ⟨z.heap.size,5,none⟩)) rfl U ?_ ?_
   ·rintro wz ⟨z0,z1,z2,z3,z4,z5,z6,z7⟩;go_simp
   simp only[dI,dJ,dK,dL];refine dY 7 rfl (by kernel_rfl) (fun K L=> ?_);go_simp;refine L _ _ (fun h=>by cases h) (fe (by kernel_rfl) ?_ _);clear L K U ap z5 bd;go_wp2;refine⟨⟨j+1,a7,c7,ys++[(⟨⟨c.uid,c.stamp,c.flags,l⟩,M,N⟩:VM)],by omega,by go_num,a8 (by rw[O1,aa.out];rfl),a8 ?_,aP,aT⟩,by simp[intOf];omega⟩;rw[O7,aK.out,au.out];rfl
  ·have bf:j=cs.length:=(by omega);subst bf;have aR:=a8 (show ys.map VM.x=cs.map (fun c=>⟨c.uid,c.stamp,c.flags,J c⟩) by have:=aK.out;rw[PA] at this;exact this);have aX:=a8 (show w.heap.size≠z.heap.size from by have:=aZ.out;omega);have O:=a8 (eA ao (HI.bel.block w.heap.size ao.lt aX));obtain⟨r0,r1,r2,r3,r4,r5⟩:=O.c6;have fr:=fun j=>O.fz j;obtain⟨y0,y1,y2,y3,y4,y5⟩:=HI.st.c6;clear ai;go_wp2;refine OJ (qe w.heap.size _ (.int .i64 0) (.int .i64 3) (uI val) (uI next) (.int .u32 0) (.slice E cs.length G) rfl rfl (E4 O)) rfl ?_;have aB:=VwJ.fin (wE:=w) (gr:=w.heap.size) (ys:=ys) (by rw[aa.out];exact HI.out) ac aH O (OV _);rw[aa.out] at aB;obtain⟨ma,mc,e1,e2,e3,e4⟩:=aB;exact⟨ys,⟨ma,mc,e1.trans (by rw[aa.out] at*),e2,fun m hm=>(e3 m hm).mono ac.size,e4⟩,aR,aE⟩
def mvI(p:Value)(c:Nat):Array Value:= #[p,.string ⟨#[]⟩,sN,.int .i64 0,.int .u32 (c:Int),.int .u32 0,.int .u32 0,.string ⟨#[]⟩,sN,.int .i64 0,.map none,sN]
structure CuR(gm gw B:Nat)(w wr:World)(p:Value)(c:Nat)(ws:List BA):Prop where
 st:Blk wr gm (mvI p c) 206
 tw:TW wr gw ws
 fr:dX gm B w wr
 sz:B≤wr.heap.size
 n1:gm<B
 n2:B≤gw
section
variable {gm gw B:Nat} {w wr wr':World} {p:Value} {c:Nat} {ws:List BA}
theorem CuR.word{r:List BA}(h:CuR gm gw B w wr p c ws)(z:lE gw wr wr')(E:TW wr' gw r):CuR gm gw B w wr' p c r:=by
 have A:gm≠gw:=(by have:=h.n1;have:=h.n2;omega);exact⟨eA h.st (z.block gm h.st.lt A),E,h.fr.trans ⟨z.os,z.tape,z.output,z.size,fun k G I=>z.block k (by have:=h.sz;omega) (by have:=h.n2;omega)⟩,O0 h.sz z.size,h.n1,h.n2⟩
theorem CuR.env(h:CuR gm gw B w wr p c ws)(A:∀w',dX gm B w w'→Env w'):∀w',lE gw wr w'→Env w':=fun w' z=>A w' (h.fr.trans ⟨z.os,z.tape,z.output,z.size,fun k E G=>z.block k (by have:=h.sz;omega) (by have:=h.n2;omega)⟩)
theorem CuR.set(h:CuR gm gw B w wr p c ws)(n:Nat):CuR gm gw B w (wr.setCell ⟨gm,4,none⟩ (.int .u32 (n:Int))) p n ws:=by
 refine⟨h.st.set 4 (uI n),?_,h.fr.set _,by simpa using h.sz,h.n1,h.n2⟩;exact h.tw.keep (fun g E t z A=>OQ wr ⟨gm,4,none⟩ g _ (by
  have:g≠gm:=l9 z h.st (by rcases A with rfl|rfl<;>decide);simpa using this))
def Mv(gm B:Nat)(w0 w':World)(p:Value):Prop:=dX gm B w0 w'∧∃c,Blk w' gm (mvI p c) 206
theorem CuR.bad(h:CuR gm gw B w wr p c ws):Mv gm B w wr p:=⟨h.fr,c,h.st⟩
theorem CuR.on(h:CuR gm gw B w wr p c ws)(z:lE gw wr wr'):Mv gm B w wr' p:=
 ⟨h.fr.trans ⟨z.os,z.tape,z.output,z.size,fun k A E=>z.block k (by have:=h.sz;omega) (by have:=h.n2;omega)⟩,c,eA h.st (z.block gm h.st.lt (by have:=h.n1;have:=h.n2;omega))⟩
end
def Oh(gm gw B:Nat)(w0:World)(p:Value)(o:Option Nat)(e:Ending)(w':World):Prop:=(∃c' r,e= .returned (.tuple #[])∧CuR gm gw B w0 w' p c' r∧o=if r=[] then some c' else none)∨(nz e∧o=none∧Mv gm B w0 w' p)
theorem KY{x:List UInt8}{r:List (List UInt8)}{c:Nat}(h:x=[66]):eW true (x::r) c=if r=[] then some c else none:=by
 subst h;unfold eW;rw[OS rfl];cases r with
 |nil=>rfl
 |cons y r=>rw[OR (by simp),OR (by simp)]
theorem tq{ws:List (List UInt8)}{c:Nat}(h:ws.head?≠some [66]):eW true ws c=none:=by
 unfold eW;rw[OS rfl,OR];rintro rfl;exact h rfl
theorem zX{ws:List (List UInt8)}{c:Nat}(h:ws.head?≠some [67]):eW false ws c=none:=by
 unfold eW;rw[OR (by simp)];split
 ·next a b=>rw[OR (fun e=>h (by rw[e];rfl))]
 ·rfl
theorem K4{r:List (List UInt8)}{c:Nat}(h:(match r with|[]=>none|x::_=>dT x 1 4294967295)=none):eW false ([67]::r) c=none:=by
 unfold eW;rw[OR (by simp)];split
 ·next a b e=>
  simp only[List.cons.injEq] at e;obtain⟨rfl,rfl⟩:=e;simp only at h;rw[show gH=4294967295 from rfl,h];simp
 ·rfl
theorem Fy{b:List UInt8}{r:List (List UInt8)}{c n:Nat}(h:dT b 1 4294967295=some n):eW false ([67]::b::r) c=if c<n then(if r=[] then some n else none) else none:=by
 unfold eW;rw[OR (by simp)];cases r with
 |nil=>
  simp only;rw[show gH=4294967295 from rfl];simp[h]
 |cons y r=>simp
theorem uJ(J K B k:Nat)(w wr:World)(p:Value)(c:Nat)(ws:List BA)(hR:CuR J K B w wr p c ws)(hE:∀w',dX J B w w'→Env w')(ae:∀y∈ws,y.size≤40000):
  Calls prog 116 #[pP J,.int .i64 (k:Int),pP K] wr (Oh J K B w p (eW (decide (k=0)) (ws.map (·.data.toList)) c)):=by
 have HE:=a8 hE;have Z:=a8 hR;have aa:=a8 ae;have Y:=a8 (og K ws wr hR.tw);clear hE hR ae;go_enter func116,ntmps116;go_wp2_with fail;refine Y.mono ?_;rintro e w1 (⟨x,r,rfl,rfl,ac,ab⟩|⟨rfl,aj,rfl⟩)
 ·have E:=a8 (Z.word ab ac);have ai:=a8 (show∀y∈r,y.size≤40000 from fun y hy=>aa.out y (O8 _ hy));clear ac ab Y Z aa;by_cases R:k=0
  ·subst R;by_cases A:x=⟨#[66]⟩
   ·subst A;have z:=a8 (show eW (decide (0=0)) ((⟨#[66]⟩::r).map (·.data.toList)) c=if r=[] then some c else none from(KY (r:=r.map (fun x:BA=>x.data.toList)) rfl).trans (by cases r<;>simp));go_wp2
    go_end0
    exact Or.inl ⟨c,r,rfl,E,z⟩
   ·have z:=a8 (show eW (decide (0=0)) ((x::r).map (·.data.toList)) c=none from tq (fun e=>A (rt (by simpa using e))));have ak:(x.toList==[66])=false:=sZ A;clear A;go_wp2;exact⟨rfl,Or.inr ⟨⟨_,rfl⟩,z,E.bad⟩⟩
  ·have am:((k:Int)==0)=false:=(by simp;omega);have al:(0:Int)<(k:Int):=(by omega);have U:=a8 (show decide (k=0)=false by simpa using R);by_cases A:x=⟨#[67]⟩
   ·subst A;have V:=a8 (kX K r w1 E.tw (E.env HE) ai);clear R;go_wp2_with fail;refine V.mono ?_;rintro e w2 ⟨N,⟨x1,L,G,rfl,I,rfl,ad⟩|⟨hf,I⟩⟩
    ·have M:=a8 (E.word N ad);have Q:=a8 (show eW (decide (k=0)) ((⟨#[67]⟩::x1::L).map (·.data.toList)) c=if c<G then(if L=[] then some G else none) else none by
      rw[U.out];exact(Fy (r:=L.map (fun x:BA=>x.data.toList)) I).trans (by cases L<;>simp))
     obtain⟨-,-,-,-,c4⟩:=M.st.c5;have fz:=fun j=>M.st.fz j;have ah:=a8 (M.set G);clear N ad I V;by_cases O:c<G
     ·have af:¬(G:Int)≤(c:Int):=(by omega);rw[OS O] at Q;clear O;go_wp2
      go_end0
      exact Or.inl ⟨G,L,rfl,ah,Q⟩
     ·have af:(G:Int)≤(c:Int):=(by omega);rw[OR O] at Q;clear O;go_wp2;exact⟨rfl,Or.inr ⟨⟨_,rfl⟩,Q,M.bad⟩⟩
    ·obtain⟨t,rfl⟩:=hf;have z:=a8 (show eW (decide (k=0)) ([67]::r.map (·.data.toList)) c=none by rw[U.out];exact K4 (by cases r<;>exact I));have ag:=a8 (E.on N);clear I N V;go_wp2;exact⟨rfl,Or.inr ⟨⟨t,rfl⟩,z,ag⟩⟩
   ·have z:=a8 (show eW (decide (k=0)) ((x::r).map (·.data.toList)) c=none by rw[U.out];exact zX (fun e=>A (rt (by simpa using e))));have ak:(x.toList==[67])=false:=sZ A;clear A R;go_wp2;exact⟨rfl,Or.inr ⟨⟨_,rfl⟩,z,E.bad⟩⟩
 ·obtain⟨t,rfl⟩:=aj;have z:=a8 (show eW (decide (k=0)) (([]:List BA).map (·.data.toList)) c=none from by
   cases decide (k=0)
   ·exact zX (by simp)
   ·exact tq (by simp))
  clear Y;go_wp2;exact⟨rfl,Or.inr ⟨⟨t,rfl⟩,z,Z.bad⟩⟩
section
open Go.Maps
def kU(u:Nat):Lit:= .int .u32 (u:Int)
theorem NW:Keyed prog 44:=int_keyed underlying44
theorem NV(u:Nat)(h:u≤4294967295):keyOf prog 44 (.int .u32 (u:Int))=some (kU u):=keyOf_int_mk underlying44 (by
 have z:IntKind.u32.min=0:=(by decide);have A:IntKind.u32.max=4294967295:=(by decide);simp[Lit.wf,z,A];omega)
def iH(w:World)(b:Nat)(ds:LN):Prop:=∃(n:Nat) (D:DataW Unit),n≤ds.length∧w.ownsMap prog 44 unitElem b n D∧∀u,u≤4294967295→Maps.has D (kU u)=decide (u∈ds)
theorem iH.keep{w w':World}{b:Nat}{ds:LN}(h:iH w b ds)(J:w'.heap[b]? =w.heap[b]?):iH w' b ds:=by
 obtain⟨n,D,E,⟨A,c,G,z⟩,I⟩:=h;exact⟨n,D,E,⟨A,c,J.trans G,z⟩,I⟩
theorem iH.lt{w:World}{b:Nat}{ds:LN}(h:iH w b ds):b<w.heap.size:=by
 obtain⟨n,D,A,z,E⟩:=h;exact z.lt
theorem Nd(u:Nat):WideAt.IsKeyLit (kU u):=trivial
theorem Nf{u v:Nat}(h:kU u=kU v):u=v:=by
 unfold kU at h;simp only[Lit.int.injEq,true_and] at h;omega
theorem iH.put{w':World}{b n u:Nat}{D:DataW Unit}{ds:LN}(z:n≤ds.length)(A:∀u,u≤4294967295→Maps.has D (kU u)=decide (u∈ds))(E:IsMap D)(G:w'.ownsMap prog 44 unitElem b (n+1) (D.put (kU u) (.agg []))):iH w' b (ds++[u]):=by
 refine⟨n+1,_,by simpa using z,G,fun v I=> ?_⟩;by_cases e:v=u
 ·subst e;rw[has_put_same E (Nd v)];simp
 ·rw[has_put_other (fun h=>e (Nf h)),A v I];simp[e]
def mdI(s:UX)(bd:Nat):Array Value:= #[.int .u32 (s.val:Int),.int .u32 (s.next:Int),.string ⟨#[]⟩,sN,.int .i64 0,.map (some bd),sN]
structure UdR(gm bd gw B:Nat)(w wr:World)(s:UX)(ws:List BA):Prop where
 st:Blk wr gm (mdI s bd) 204
 dd:iH wr bd s.dead
 tw:TW wr gw ws
 fr:im (fun k=>k=gm∨k=bd) B w wr
 sz:B≤wr.heap.size
 n1:gm<B
 n3:bd<B
 ne:gm≠bd
 n2:B≤gw
section
variable {gm bd gw B:Nat} {w wr wr':World} {s:UX} {ws:List BA}
theorem im.one{S:Nat→Prop}(h:im S B w wr)(z:lE gw wr wr')(I:B≤wr.heap.size)(G:B≤gw):im S B w wr':=
 ⟨z.os.trans h.os,z.tape.trans h.tape,z.output.trans h.output,O0 h.size z.size,fun k A E=>(z.block k (by omega) (by omega)).trans (h.block k A E)⟩
theorem UdR.word{r:List BA}(h:UdR gm bd gw B w wr s ws)(z:lE gw wr wr')(A:TW wr' gw r):UdR gm bd gw B w wr' s r:=by
 have E:=h.n1;have G:=h.n2;have I:=h.n3;exact⟨eA h.st (z.block gm h.st.lt (by omega)),h.dd.keep (z.block bd h.dd.lt (by omega)),A,h.fr.one z h.sz h.n2,O0 h.sz z.size,h.n1,h.n3,h.ne,h.n2⟩
theorem UdR.env(h:UdR gm bd gw B w wr s ws)(z:∀w',im (fun k=>k=gm∨k=bd) B w w'→Env w'):∀w',lE gw wr w'→Env w':=fun w' A=>z w' (h.fr.one A h.sz h.n2)
theorem UdR.put(h:UdR gm bd gw B w wr s ws)(j:Nat)(u:Value)(s':UX)(I:s'.dead=s.dead)(E:(mdI s bd).setIfInBounds j u=mdI s' bd):UdR gm bd gw B w (wr.setCell ⟨gm,j,none⟩ u) s' ws:=by
 have L:=h.n1;refine⟨?_,?_,?_,?_,by simpa using h.sz,h.n1,h.n3,h.ne,h.n2⟩
 ·have:=h.st.set j u;rw[E] at this;exact this
 ·rw[I];exact h.dd.keep (OQ wr ⟨gm,j,none⟩ bd u (fun e=>h.ne (show gm=bd from(show bd=gm from e).symm)))
 ·exact h.tw.keep (fun g K t A J=>OQ wr ⟨gm,j,none⟩ g u (by
   have:g≠gm:=l9 A h.st (by rcases J with rfl|rfl<;>decide);simpa using this))
 ·exact⟨h.fr.os,h.fr.tape,h.fr.output,by simpa using h.fr.size,fun k G z=>(OQ wr ⟨gm,j,none⟩ k u (fun e=>z (.inl e))).trans (h.fr.block k G z)⟩
def Mw(gm bd B:Nat)(w0 w':World):Prop:=im (fun k=>k=gm∨k=bd) B w0 w'∧∃s,Blk w' gm (mdI s bd) 204
theorem UdR.bad(h:UdR gm bd gw B w wr s ws):Mw gm bd B w wr:=⟨h.fr,s,h.st⟩
theorem UdR.on(h:UdR gm bd gw B w wr s ws)(z:lE gw wr wr'):Mw gm bd B w wr':=⟨h.fr.one z h.sz h.n2,s,eA h.st (z.block gm h.st.lt (by have:=h.n1;have:=h.n2;omega))⟩
theorem UdR.bury{u n:Nat}{D:DataW Unit}(h:UdR gm bd gw B w wr s ws)(J:n≤s.dead.length)(K:∀u,u≤4294967295→Maps.has D (kU u)=decide (u∈s.dead))(M:IsMap D)(N:wr'.ownsMap prog 44 unitElem bd (n+1) (D.put (kU u) (.agg [])))(z:wr.grownBy wr' (some bd)):UdR gm bd gw B w wr' {s with dead:=s.dead++[u]} ws:=by
 have R:=h.n1;have U:=h.n2;have V:=h.n3;refine⟨eA h.st (z.block gm h.st.lt (fun e=>h.ne (by simpa using e))),iH.put J K M N,?_,?_,O0 h.sz z.size,h.n1,h.n3,h.ne,h.n2⟩
 ·obtain⟨n9,Q,_,⟨Y,c,G,_⟩,_⟩:=h.dd;exact h.tw.keep (fun g O t A Z=>z.block g A.lt (fun e=>by
   have I:g=bd:=(by simpa using e);subst I;unfold Blk at A;rw[G] at A;cases A))
 ·exact⟨z.os.trans h.fr.os,z.tape.trans h.fr.tape,z.output.trans h.fr.output,O0 h.fr.size z.size,fun k L E=>(z.block k (by have:=h.sz;omega) (fun e=>E (.inr (by simpa using e)))).trans (h.fr.block k L E)⟩
end
def NJ(gm bd gw B:Nat)(w0:World)(o:Option UX)(e:Ending)(w':World):Prop:=(∃s' r,e= .returned (.tuple #[])∧UdR gm bd gw B w0 w' s' r∧o=if r=[] then some s' else none)∨(nz e∧o=none∧Mw gm bd B w0 w')
theorem oz{x:List UInt8}{lo hi LO HI:Nat}(G:LO≤lo)(I:hi≤HI):dT x lo hi=match dT x LO HI with
  |some u=>if lo≤u∧u≤hi then some u else none
  |none=>none:=by
 unfold dT;by_cases z:x=Lib.decDigits (hZ 0 x)
 ·by_cases A:lo≤hZ 0 x∧hZ 0 x≤hi
  ·rw[OS ⟨z,A⟩,OS ⟨z,by omega,by omega⟩];simp only;rw[OS A]
  ·rw[OR (fun h=>A h.2)];by_cases E:LO≤hZ 0 x∧hZ 0 x≤HI
   ·rw[OS ⟨z,E⟩];simp only;rw[OR A]
   ·rw[OR (fun h=>E h.2)]
 ·rw[OR (fun h=>z h.1),OR (fun h=>z h.1)]
end
section
open Go.Maps
theorem Og{r:List (List UInt8)}{s:UX}(z:1≤s.next)(h:(match r with|[]=>none|x::_=>dT x 1 4294967295)=none):d9 false ([88]::r) s=none:=by
 unfold d9;rw[OR (by simp)];unfold oZ;split
 ·next a b x xs e=>
  simp only[List.cons.injEq] at e;obtain⟨rfl,rfl⟩:=e;simp only at h;rw[oz (LO:=1) (HI:=4294967295) z (OV _),h];simp
 ·rfl
theorem Mm{b:List UInt8}{r:List (List UInt8)}{s:UX}{n:Nat}(A:1≤s.next)(h:dT b 1 4294967295=some n)(E:n<s.next):d9 false ([88]::b::r) s=none:=by
 unfold d9;rw[OR (by simp)];unfold oZ;split
 ·next a b x xs e=>
  simp only[List.cons.injEq] at e;obtain⟨rfl,rfl,rfl⟩:=e;have z:¬(s.next≤n∧n≤gH):=(by omega);rw[oz (LO:=1) (HI:=4294967295) A (OV _),h];simp[z]
 ·rfl
theorem KB{b:List UInt8}{s:UX}:d9 false [[88],b] s=none:=by
 unfold d9;rw[OR (by simp)];rfl
theorem NA{b x:List UInt8}{xs:List (List UInt8)}{s:UX}{n:Nat}(A:1≤s.next)(h:dT b 1 4294967295=some n)(E:¬n<s.next):d9 false ([88]::b::x::xs) s=(fG n (x::xs) 0 s.dead).map (fun ds=>⟨s.val,n,ds⟩):=by
 have z:=ey h;unfold d9;rw[OR (by simp)];unfold oZ;simp only;rw[OS trivial,oz (LO:=1) (HI:=4294967295) A (OV _),h];simp only;rw[OS ⟨by omega,z.2⟩];simp only;cases fG n (x::xs) 0 s.dead<;>rfl
theorem Ib{n:Nat}{x:List UInt8}{xs:List (List UInt8)}{last:Nat}{ds:LN}(A:n≤4294967295):fG n (x::xs) last ds=match dT x 1 4294967295 with
  |some u=>if last<u∧u<n then fG n xs u (ds++[u]) else none
  |none=>none:=by
 have e:dT x (last+1) (n-1)=match dT x 1 4294967295 with
   |some u=>if last+1≤u∧u≤n-1 then some u else none
   |none=>none:=oz (by omega) (by omega)
 rw[fG,e];cases h:dT x 1 4294967295 with
 |none=>rfl
 |some u=>
  have:=ey h;simp only;by_cases z:last<u∧u<n
  ·rw[OS (by omega),OS z]
  ·rw[OR (by omega),OR z]
theorem uH(E O G B:Nat)(w wr:World)(s:UX)(ws:List BA)(hR:UdR E O G B w wr s ws)(hE:∀w',im (fun k=>k=E∨k=O) B w w'→Env w')(ai:∀y∈ws,y.size≤40000)(hs:1≤s.next)(ay:s.dead.length+ws.length≤2000000000):
  Calls prog 156 #[pP E,pP G] wr (NJ E O G B w (d9 false ([88]::ws.map (·.data.toList)) s)):=by
 have HE:=a8 hE;have HR:=a8 hR;have au:=a8 ai;have C1:=a8 (kX G ws wr hR.tw (hR.env hE) ai);clear hR hE ai;go_enter func156,ntmps156;go_wp2_with fail;refine C1.mono ?_;rintro e w1 ⟨ad,⟨I,r1,n,rfl,L,rfl,aw⟩|⟨hf,L⟩⟩
 rotate_left
 ·obtain⟨t,rfl⟩:=hf;have z:=a8 (show d9 false ([88]::ws.map (·.data.toList)) s=none from Og hs (by cases ws<;>exact L));have HF:=a8 (HR.on ad);clear L ad C1;go_wp2;exact⟨rfl,Or.inr ⟨⟨t,rfl⟩,z,HF⟩⟩
 have U:=a8 (HR.word ad aw);have ap:=a8 L;have aQ:=ey L;clear ad aw L C1 HR;obtain⟨-,g1⟩:=U.st.c2;by_cases Z:n<s.next
 ·have aE:(n:Int)<(s.next:Int):=(by omega);have z:=a8 (show d9 false ([88]::(I::r1).map (·.data.toList)) s=none from Mm hs ap Z);clear Z;go_wp2;exact⟨rfl,Or.inr ⟨⟨_,rfl⟩,z,U.bad⟩⟩
 have aE:¬(n:Int)<(s.next:Int):=(by omega);have fz:=fun j=>U.st.fz j;have V:=a8 (U.put 1 (uI n) {s with next:=n} rfl rfl);have aI:=a8 Z;clear Z;go_upto_region 4 with fail;generalize w1.setCell ⟨E,1,none⟩ (uI n)=w2 at V⊢;clear g1 fz U;have af:=a8 (pV G r1 w2 V.tw);go_wp2_with fail;refine af.mono ?_;rintro e w3 ⟨rfl,rfl⟩;cases r1 with
 |nil=>
  have z:=a8 (show d9 false ([88]::[I].map (·.data.toList)) s=none from KB);clear af;go_wp2;exact⟨rfl,Or.inr ⟨⟨_,rfl⟩,z,V.bad⟩⟩
 |cons x2 r2=>
  have Y:decide (0<(x2::r2).length)=true:=(by simp);rw[Y];have ac:=a8 (show d9 false ([88]::I.data.toList::(x2::r2).map (·.data.toList)) s=(fG n ((x2::r2).map (·.data.toList)) 0 s.dead).map (fun ds=>⟨s.val,n,ds⟩) from NA hs ap aI);clear Y af;go_wp2;have aj:=a8 (show∀y∈x2::r2,y.size≤40000 from fun y hy=>au.out y (O8 _ hy));have ak:s.dead.length+(x2::r2).length≤2000000000:=(by simp only[Pf] at ay⊢;omega);have an:=a8 ak;clear ay ak au;obtain⟨M,ah⟩:∃M,M=x2::r2:=⟨_,rfl⟩
  rw[←ah] at V aj an ac;have ag:=a8 (show(I::x2::r2).map (·.data.toList)=I.data.toList::M.map (·.data.toList) by rw[ah];rfl);clear ah;go_loopw [5,6] (fun t5 _ wr=>∃(last:Nat) (J:List BA) (ds:LN),t5=uI last∧last≤4294967295∧Hid (UdR E O G B w wr ⟨s.val,n,ds⟩ J)∧Hid (fG n (J.map (·.data.toList)) last ds=fG n (M.map (·.data.toList)) 0 s.dead)∧Hid (ds.length+J.length≤2000000000)∧Hid (∀y∈J,y.size≤40000)) (fun t5 _ _=>n-(intOf t5).toNat)
  case atStart=>exact⟨0,M,s.dead,rfl,by omega,V,a8 rfl,an,aj⟩
  case round=>
   obtain⟨last,J,ds,rfl,aR,HI,ab,ao,ar⟩:=hrel;have aa:=a8 (pV G J wr HI.tw);cases J with
   |nil=>
    have z:=a8 (show d9 false ([88]::(I::x2::r2).map (·.data.toList)) s=some ⟨s.val,n,ds⟩ by
     rw[ag.out,ac.out,←ab.out];rfl)
    go_wp2_with fail;refine aa.mono ?_;rintro e w3 ⟨rfl,rfl⟩;go_wp2
    go_end0
    exact Or.inl ⟨⟨s.val,n,ds⟩,[],rfl,HI,z.trans (OS rfl).symm⟩
   |cons x r=>
    have Y:decide (0<(x::r).length)=true:=(by simp);rw[Y] at aa;clear Y;go_wp2_with fail;refine aa.mono ?_;rintro e w3 ⟨rfl,rfl⟩;have C3:=a8 (kX G (x::r) w3 HI.tw (HI.env HE) ar);have A:=a8 (Ib (n:=n) (x:=x.data.toList) (xs:=r.map (·.data.toList)) (last:=last) (ds:=ds) aQ.2);clear aa;go_wp2_with fail;refine C3.mono ?_;rintro e w4 ⟨ae,⟨x',r',u,aD,K,rfl,ax⟩|⟨hf,K⟩⟩
    ·simp only[List.cons.injEq] at aD;obtain⟨rfl,rfl⟩:=aD;have R:=a8 (HI.word ae ax);have aB:=ey K;rw[K] at A;simp only at A;clear ae ax K C3;by_cases Q:last<u∧u<n
     ·rw[OS Q] at A;have av:¬(u:Int)≤(last:Int):=(by omega);have aO:¬(n:Int)≤(u:Int):=(by omega);obtain⟨N,D,hN,am,al⟩:=R.dd;have aq:=a8 am;have aG:=a8 al;have aN:=a8 hN;have aK:=NV u aB.2;obtain⟨-,-,-,-,-,c5⟩:=R.st.c6;have aP:N<maxLen:=(by have h1:=ao.out;simp only at hN;unfold maxLen;omega);have aF:=a8 (show fG n (r.map (·.data.toList)) u (ds++[u])=fG n (M.map (·.data.toList)) 0 s.dead by rw[←ab.out,Pe,A.out]);have aH:=a8 (show(ds++[u]).length+r.length≤2000000000 by have h1:=ao.out;simp only[Pf] at h1;simp only[O1,Pf,PM];omega);have aJ:=a8 (show∀y∈r,y.size≤40000 from fun y hy=>ar.out y (O8 _ hy));have aL:=a8 Q;clear am al hN Q;go_wp2_with (at_mapUpdate;refine wpList_mapUpdate_own _ rfl _ _ _ 201 rfl 44 128 NW underlying201 unitElem O N D rfl aq aP _ _ _ rfl rfl aK _ [] unitElem_mk ?_;intro w5 aA az)
      have aM:=a8 (R.bury aN aG aq.isMap aA az);clear aA az;exact⟨⟨u,r,ds++[u],rfl,aB.2,aM,aF,aH,aJ⟩,by have:=aL.out;simp[intOf];omega⟩
     ·rw[OR Q] at A;have z:=a8 (show d9 false ([88]::(I::x2::r2).map (·.data.toList)) s=none by
       rw[ag.out,ac.out,←ab.out,Pe,A.out];rfl)
      by_cases aC:u≤last
      ·have av:(u:Int)≤(last:Int):=(by omega);clear Q aC;go_wp2;exact⟨rfl,Or.inr ⟨⟨_,rfl⟩,z,R.bad⟩⟩
      ·have av:¬(u:Int)≤(last:Int):=(by omega);have aO:(n:Int)≤(u:Int):=(by omega);clear Q aC;go_wp2;exact⟨rfl,Or.inr ⟨⟨_,rfl⟩,z,R.bad⟩⟩
    ·obtain⟨t,rfl⟩:=hf;simp only at K;rw[K] at A;simp only at A;have z:=a8 (show d9 false ([88]::(I::x2::r2).map (·.data.toList)) s=none by
      rw[ag.out,ac.out,←ab.out,Pe,A.out];rfl)
     have HF:=a8 (HI.on ae);clear K ae C3;go_wp2;exact⟨rfl,Or.inr ⟨⟨t,rfl⟩,z,HF⟩⟩
theorem Ff{ws:List (List UInt8)}{s:UX}(h:ws.head?≠some [86]):d9 true ws s=none:=by
 unfold d9;rw[OS rfl];unfold kD;split
 ·next a b c=>rw[OR (fun e=>h (by rw[e];rfl))]
 ·rfl
theorem Oe{r:List (List UInt8)}{s:UX}(h:(match r with|[]=>none|x::_=>dT x 1 4294967295)=none):d9 true ([86]::r) s=none:=by
 unfold d9;rw[OS rfl];unfold kD;split
 ·next a b c e=>
  simp only[List.cons.injEq] at e;obtain⟨rfl,rfl⟩:=e;simp only at h;rw[show gH=4294967295 from rfl,h];simp
 ·rfl
theorem Of{b:List UInt8}{r:List (List UInt8)}{s:UX}(h:(match r with|[]=>none|x::_=>dT x 1 4294967295)=none):d9 true ([86]::b::r) s=none:=by
 unfold d9;rw[OS rfl];unfold kD;split
 ·next a b c e=>
  simp only[List.cons.injEq] at e;obtain⟨rfl,rfl,rfl⟩:=e;simp only at h;rw[show gH=4294967295 from rfl,h];cases dT b 1 4294967295<;>simp
 ·rfl
theorem Ml{b c:List UInt8}{r:List (List UInt8)}{s:UX}{v n:Nat}(z:dT b 1 4294967295=some v)(A:dT c 1 4294967295=some n):d9 true ([86]::b::c::r) s=if r=[] then some ⟨v,n,s.dead⟩ else none:=by
 unfold d9;rw[OS rfl];unfold kD;cases r with
 |nil=>
  rw[show gH=4294967295 from rfl];simp[z,A]
 |cons x xs=>rfl
theorem Fg{ws:List (List UInt8)}{s:UX}(h:ws.head?≠some [88]):d9 false ws s=none:=by
 unfold d9;rw[OR (by simp)];unfold oZ;split
 ·next a b x xs=>rw[OR (fun e=>h (by rw[e];rfl))]
 ·rfl
theorem zC(G V I B k:Nat)(w wr:World)(s:UX)(ws:List BA)(hR:UdR G V I B w wr s ws)(hE:∀w',im (fun k=>k=G∨k=V) B w w'→Env w')(ak:∀y∈ws,y.size≤40000)(hs:0<k→1≤s.next)(aj:s.dead.length+ws.length≤2000000000):
  Calls prog 121 #[pP G,.int .i64 (k:Int),pP I] wr (NJ G V I B w (d9 (decide (k=0)) (ws.map (·.data.toList)) s)):=by
 have HE:=a8 hE;have HR:=a8 hR;have ae:=a8 ak;have ap:=a8 hs;have al:=a8 aj;have CW:=a8 (og I ws wr hR.tw);clear hE hR ak hs aj;go_enter func121,ntmps121;go_wp2_with fail;refine CW.mono ?_;rintro e w1 (⟨x,r,rfl,rfl,ag,af⟩|⟨rfl,aq,rfl⟩)
 ·have E:=a8 (HR.word af ag);have ad:=a8 (show∀y∈r,y.size≤40000 from fun y hy=>ae.out y (O8 _ hy));clear ag af CW HR ae;by_cases Y:k=0
  ·subst Y;by_cases A:x=⟨#[86]⟩
   ·subst A;have C1:=a8 (kX I r w1 E.tw (E.env HE) ad);go_wp2_with fail;refine C1.mono ?_;rintro e w2 ⟨R,⟨x1,r1,O,rfl,K,rfl,ah⟩|⟨hf,K⟩⟩
    rotate_left
    ·obtain⟨t,rfl⟩:=hf;have z:=a8 (show d9 (decide (0=0)) ([86]::r.map (·.data.toList)) s=none from Oe (by cases r<;>exact K));have aa:=a8 (E.on R);clear K R C1;go_wp2;exact⟨rfl,Or.inr ⟨⟨t,rfl⟩,z,aa⟩⟩
    have Q:=a8 (E.word R ah);have am:=a8 K;have g0:w2.cell? ⟨G,0,none⟩=some (uI s.val):=Q.st.cell 0;have fg:=fun j=>Q.st.fz j;have J:=a8 (Q.put 0 (uI O) {s with val:=O} rfl rfl);clear R ah K C1 E;go_upto_region 4 with fail;generalize w2.setCell ⟨G,0,none⟩ (uI O)=W2 at J⊢;clear g0 fg Q;have C2:=a8 (kX I r1 W2 J.tw (J.env HE) (fun y hy=>ad.out y (O8 _ hy)));go_wp2_with fail;refine C2.mono ?_;rintro e w3 ⟨U,⟨x2,Z,n2,rfl,L,rfl,ai⟩|⟨hf,L⟩⟩
    rotate_left
    ·obtain⟨t,rfl⟩:=hf;have z:=a8 (show d9 (decide (0=0)) ([86]::x1.data.toList::r1.map (·.data.toList)) s=none from Of (by cases r1<;>exact L));have aa:=a8 (J.on U);clear L U C2;go_wp2;exact⟨rfl,Or.inr ⟨⟨t,rfl⟩,z,aa⟩⟩
    have ac:=a8 (J.word U ai);have an:=a8 L;obtain⟨-,g1⟩:=ac.st.c2;have fg:=fun j=>ac.st.fz j;have ao:=a8 (ac.put 1 (uI n2) {s with val:=O,next:=n2} rfl rfl);have z:=a8 (show d9 (decide (0=0)) ((⟨#[86]⟩::x1::x2::Z).map (·.data.toList)) s=if Z=[] then some {s with val:=O,next:=n2} else none from(Ml (r:=Z.map (fun x:BA=>x.data.toList)) am an).trans (by cases Z<;>simp));clear U ai L C2 J;go_wp2
    go_end0
    exact Or.inl ⟨_,_,rfl,ao,z⟩
   ·have z:=a8 (show d9 (decide (0=0)) ((x::r).map (·.data.toList)) s=none from Ff (fun e=>A (rt (by simpa using e))));have ar:(x.toList==[86])=false:=sZ A;clear A;go_wp2;exact⟨rfl,Or.inr ⟨⟨_,rfl⟩,z,E.bad⟩⟩
  ·have av:((k:Int)==0)=false:=(by simp;omega);have au:(0:Int)<(k:Int):=(by omega);have ab:=a8 (show decide (k=0)=false by simpa using Y);by_cases A:x=⟨#[88]⟩
   ·subst A;have CM:=a8 (uH G V I B w w1 s r E HE ad (ap.out (by omega)) (by have:=al.out;simp only[Pf] at this;omega));clear Y;go_wp2_with fail;refine CM.mono ?_;rintro e w2 (⟨s',r',rfl,M,N⟩|⟨⟨t,rfl⟩,M,N⟩)
    ·have H2:=a8 M;have H3:=a8 (show d9 (decide (k=0)) ([88]::r.map (·.data.toList)) s=if r'=[] then some s' else none by rw[ab.out];exact N);clear M N CM;go_wp2
     go_end0
     exact Or.inl ⟨_,_,rfl,H2,H3⟩
    ·have H2:=a8 (show d9 (decide (k=0)) ([88]::r.map (·.data.toList)) s=none by rw[ab.out];exact M);have H3:=a8 N;clear M N CM;go_wp2;exact⟨rfl,Or.inr ⟨⟨t,rfl⟩,H2,H3⟩⟩
   ·have z:=a8 (show d9 (decide (k=0)) ((x::r).map (·.data.toList)) s=none by rw[ab.out];exact Fg (fun e=>A (rt (by simpa using e))));have ar:(x.toList==[88])=false:=sZ A;clear A Y;go_wp2;exact⟨rfl,Or.inr ⟨⟨_,rfl⟩,z,E.bad⟩⟩
 ·obtain⟨t,rfl⟩:=aq;have z:=a8 (show d9 (decide (k=0)) (([]:List BA).map (·.data.toList)) s=none from by
   cases decide (k=0)
   ·exact Fg (by simp)
   ·exact Ff (by simp))
  clear CW;go_wp2;exact⟨rfl,Or.inr ⟨⟨t,rfl⟩,z,HR.bad⟩⟩
end
end Go.Proofs.YtkkdfgnnlpohlaaGreatDoor
