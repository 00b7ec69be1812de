import Derived.Test.YtkkdfgnnlpohlaaGreatDoorPky
namespace Go.Proofs.YtkkdfgnnlpohlaaGreatDoor
set_option maxRecDepth 20000
set_option linter.unusedVariables false
set_option linter.unusedSimpArgs false
set_option maxHeartbeats 4000000
open Go.RowKit Go.Proofs.Tryz
variable {W X Y w w' w0 wr : World} {A B at_ b b2 base' c cap e f g go gs hi i j k lo m n s u val z : Nat} {E G I J K L M N O u0 u1 u2 v0 v1 v2 v3 v4 v5 v6 x y : Value} {o : Oper} {Q : Exit → Act → World → Prop} {cs tmps : Array Value} {t : TypeId} {p : Addr} {l : List Nat} {bvs xs : List Value} {a : List UInt8} {first ok : Bool}
theorem Dv(gs B:Nat)(s:IX)(mv:Value)(f1:Bool)(d:LN)(fa:OA)(fc:Nat)(w:World)(co:StI w gs s mv)(hm:jc w B mv s.mails)(cJ:gs<B)(hB:B≤w.heap.size)(bF:fV w fa fc d)(de:d.length≤1000000)(aF:0<d.length→∀p,fa=some p→p.block<B∧p.block≠gs)(cZ:s.mails.length≤100)(bD:∀m∈s.mails,m.size≤40000):
  Calls prog 72 #[pP gs,.agg #[.bool f1,.slice fa d.length fc]] w (MO gs B s (f1,d) w):=by
 obtain⟨am,N,rfl⟩:=hm.slice;rw[OW] at*;have K:=nAl w (.cells #[.bool f1,.slice fa d.length fc] 54);have bl:=a8 (dQ w #[.bool f1,.slice fa d.length fc] 54);have bq:=a8 (show dX gs B w _ from dX.of_below K hB);have S0:=co.below K (by omega);have bh:=a8 (hm.below K (OV _));have bL:=a8 (bF.below K);have bu:B≤(w.alloc (.cells #[.bool f1,.slice fa d.length fc] 54)).heap.size:=(by simp;omega);obtain⟨-,-,-,-,-,-,-,c7⟩:=S0.c8;have bk:=a8 S0;have bn:=a8 (qn bD);have cz:=a8 bD;have cB:=a8 bF;have cy:=a8 (show∀g,am=some ⟨g,0,none⟩→g<w.heap.size from fun g e=>(dM.lt hm g (by rw[e];rfl)).2);have bY:=a8 aF;clear co hm bF K S0 bD aF;go_enter func72,ntmps72;go_upto_region 1 with fail;generalize w.alloc (.cells #[.bool f1,.slice fa d.length fc] 54)=w0 at bl bq bh bL bu c7 bk⊢;go_wp2;clear c7;go_loopw [6,16] (fun _ i wr=>∃j:Nat,j≤s.mails.length∧i=iI j∧Hid (StX wr gs 1 s.val s.next 0 s.gen (dH (s.mails.take j)) (.slice am s.mails.length N) (sN))∧Hid (jc wr B (.slice am s.mails.length N) s.mails)∧Hid (dX gs B w wr)∧Hid (Blk wr w.heap.size #[.bool f1,.slice fa d.length fc] 54)∧B≤wr.heap.size) (fun _ i _=>s.mails.length-(intOf i).toNat)
 case atStart=>exact⟨0,O4 _,rfl,bk,bh,bq,bl,bu⟩
 case round=>
  obtain⟨j,hj,rfl,HS,HM,HX,HT,ap⟩:=hrel;by_cases ah:j<s.mails.length
  ·have cv:(j:Int)<(s.mails.length:Int):=(by omega);obtain⟨g,bA,ch,cK⟩:=HM.at0 (by rw[OW];omega);subst bA;have O:=fun k hk=>Nk HM j ah k hk;have aR:=a8 (vh ah);have cP:=bn.out j;have ai:=cz.out _ (O6 ah);generalize s.mails[j]=mj at O aR ai;obtain⟨u0,u1,u2,u3,u4⟩:=mj;have k0:wr.cell? ⟨g,j*11,none⟩=some (uI u0):=O 0 (by omega);have k1:wr.cell? ⟨g,j*11+1,none⟩=some (.int .i64 0):=O 1 (by omega);have k2:wr.cell? ⟨g,j*11+2,none⟩=some (.int .u32 0):=O 2 (by omega);have k3:wr.cell? ⟨g,j*11+3,none⟩=some (sN):=O 3 (by omega);have k4:wr.cell? ⟨g,j*11+4,none⟩=some (sN):=O 4 (by omega);have k5:wr.cell? ⟨g,j*11+5,none⟩=some (iI u1):=O 5 (by omega);have k6:wr.cell? ⟨g,j*11+6,none⟩=some (uI u2):=O 6 (by omega);have k7:wr.cell? ⟨g,j*11+7,none⟩=some (iI u4):=O 7 (by omega);have k8:wr.cell? ⟨g,j*11+8,none⟩=some (iI u3):=O 8 (by omega);have k9:wr.cell? ⟨g,j*11+9,none⟩=some (.bool false):=O 9 (by omega);have cQ:wr.cell? ⟨g,j*11+10,none⟩=some (.string ⟨#[]⟩):=O 10 (by omega);have cU:u3≤40000:=ai;have K:=nAl wr (.cells #[uI u0,.int .i64 0,.int .u32 0,sN,sN,iI u1,uI u2,iI u4,iI u3,.bool false,.string ⟨#[]⟩] 108);have R:=a8 (dQ wr #[uI u0,.int .i64 0,.int .u32 0,sN,sN,iI u1,uI u2,iI u4,iI u3,.bool false,.string ⟨#[]⟩] 108);have aN:=a8 (HS.below K HS.lt);have bi:=a8 (HM.below K (OV _));have ca:=a8 (HX.trans (dX.of_below K ap));have bK:=a8 (HT.below K HT.lt);have cE:=O0 ap K.size;clear K O ai HM HX HT;go_upto_region 4 with fail;clear k0 k1 k2 k3 k4 k5 k6 k7 k8 k9 cQ;generalize wr.alloc (.cells #[uI u0,.int .i64 0,.int .u32 0,sN,sN,iI u1,uI u2,iI u4,iI u3,.bool false,.string ⟨#[]⟩] 108)=W at R aN bi ca bK cE⊢;obtain⟨-,-,-,-,-,-,c6⟩:=aN.c7;obtain⟨-,-,-,-,-,-,-,-,n8⟩:=R.c9;have fz:=fun j=>aN.fz j;have aJ:dH (s.mails.take j)≤4000000:=by
    have:j*40000≤100*40000:=PN _ (by omega);exact O0 cP this
   have bH:=a8 (show StX (W.drew.setCell ⟨gs,6,none⟩ (.int .i64 (((dH (s.mails.take j):Nat):Int)+(u3:Int)))) gs 1 s.val s.next 0 s.gen (dH (s.mails.take (j+1))) (sS g s.mails.length N) (sN) from by
    have h:=Blk.set (show Blk W.drew gs _ _ from aN.out) 6 (.int .i64 (((dH (s.mails.take j):Nat):Int)+(u3:Int)));show Blk _ gs (stX _ _ _ _ _ _ _ _) _;rw[aR.out];simpa[stX] using h)
   have bU:=a8 (show jc (W.drew.setCell ⟨gs,6,none⟩ (.int .i64 (((dH (s.mails.take j):Nat):Int)+(u3:Int)))) B (sS g s.mails.length N) s.mails from dM.keep (show jc W.drew B _ _ from bi.out) (fun k hk=>OQ _ ⟨gs,6,none⟩ k _ (by have:=(dM.lt bi k hk).1;simp;omega)));have cb:=a8 (show dX gs B w (W.drew.setCell ⟨gs,6,none⟩ (.int .i64 (((dH (s.mails.take j):Nat):Int)+(u3:Int)))) from dX.set ca.drew _);have bZ:=a8 (show Blk (W.drew.setCell ⟨gs,6,none⟩ (.int .i64 (((dH (s.mails.take j):Nat):Int)+(u3:Int)))) w.heap.size #[.bool f1,.slice fa d.length fc] 54 from Blk.other (show Blk W.drew _ _ _ from bK.out) (by omega) _);generalize dH (s.mails.take j)=tk at c6 aJ bH bU cb bZ;go_region;go_wp2;go_roundw
   case rel=>exact⟨j+1,by omega,by go_num,bH,bU,cb,bZ,by simp;omega⟩
   case measure=>simp[intOf];omega
  ·obtain rfl:j=s.mails.length:=(by omega);have aJ:dH (s.mails.take s.mails.length)≤4000000:=by
    have I:=bn.out s.mails.length;have h2:s.mails.length*40000≤100*40000:=PN _ (by omega);exact O0 I h2
   rw[PA] at HS aJ;clear hj ah bn bl bq bh bL bu bk;cases f1 with
   |false=>
    have L:=a8 (show fd s.mails (false,d)=none by unfold fd;rw[OR (by simp)]);have t0:wr.cell? ⟨w.heap.size,0,none⟩=some (.bool false):=HT.cell 0;go_upto_region 6 with fail;go_quiet(fail);go_wp2;go_ret;exact⟨HX.trans (dX.of_below (OI (OX _ _) _) ap),.inr ⟨L,rfl⟩⟩
   |true=>
    obtain⟨t0,t1⟩:=HT.c2;obtain⟨-,-,-,-,-,-,c6⟩:=HS.c7;by_cases ct:d.length<dH s.mails
    ·have bG:(d.length:Int)<((dH s.mails:Nat):Int):=(by omega);have L:=a8 (show fd s.mails (true,d)=none by unfold fd;rw[OR (by simp;omega)]);go_upto_region 6 with fail;go_quiet(fail);go_wp2;go_ret;exact⟨HX.trans (dX.of_below (OI (OX _ _) _) ap),.inr ⟨L,rfl⟩⟩
    ·have bG:¬(d.length:Int)<((dH s.mails:Nat):Int):=(by omega);go_upto_region 6 with fail;go_quiet(fail);have J:=OI (OX wr.heap.size wr) nq;have az:=a8 (HS.below J HS.lt);have bj:=a8 (HM.below J (OV _));have aU:=a8 (HX.trans (dX.of_below J ap));have ag:=a8 (HT.below J HT.lt);have aD:B≤(wr.drewN nq).heap.size:=ap;clear J HS HM HX HT t0 t1 c6;generalize wr.drewN nq=w1 at az bj aU ag aD⊢;have av:=a8 (cB.belX aU bY);have cw:=a8 ag.lt;obtain⟨-,t1⟩:=ag.c2;obtain⟨-,-,-,-,-,-,c6⟩:=az.c7;have cp:((dH s.mails:Nat):Int)≤(fc:Int):=(by have:=av.room;omega);have cS:(fc:Int)≤9223372036854775807:=(by have:=av.cap;omega);have ba:(d.take (dH s.mails)).length=dH s.mails:=(by rw[Pa];omega);have CSP:=a8 (fun(X:World) (hX:Below w1.heap.size w1 X)=>((by
      have h:=Ka (fV.take (av.below hX) (dH s.mails)) (by rw[ba];omega);rw[ba] at h;exact h.mono (fun e w' h=>GT h)):Calls prog 101 #[.slice fa (dH s.mails) fc] X (Hn (d.take (dH s.mails)) X)))
     have hbA:Below w1.heap.size w1 w1.drew:=(OX _ _).drew;have hbB:Below w1.heap.size w1 (w1.alloc (.cells #[.bool false,sN] 179)).drew:=((OX _ _).alloc (OV _) _).drew;have HQ:=a8 (fun(w2:World) (hb:Below (w1.alloc (.cells #[.bool false,sN] 179)).drew.heap.size (w1.alloc (.cells #[.bool false,sN] 179)).drew w2)=>Blk.below (show Blk (w1.alloc (.cells #[.bool false,sN] 179)).drew w1.heap.size #[.bool false,sN] 179 from dQ w1 _ _) hb (by show w1.heap.size<(w1.alloc _).heap.size;simp));generalize ce:dH s.mails=tk at c6 cp CSP aJ ct bG;have aI:=a8 ce;have cC:(w1.alloc (.cells #[.bool false,sN] 179)).drew.cell? ⟨gs,6,none⟩=some (iI tk):=(hbB.cell (p:=⟨gs,6,none⟩) (show gs<w1.heap.size by omega)).trans c6;have cR:(w1.alloc (.cells #[.bool false,sN] 179)).drew.cell? ⟨w.heap.size,1,none⟩=some (.slice fa d.length fc):=(hbB.cell (p:=⟨w.heap.size,1,none⟩) (show w.heap.size<w1.heap.size from ag.lt)).trans t1;clear ce ba;go_upto_region 8 with fail;go_cut [7] (fun p wx=>∃(Z:Nat) (okb:Bool) (la:OA) (ln lc:Nat),p=pP Z∧w1.heap.size≤Z∧Hid (Blk wx Z #[.bool okb,.slice la ln lc] 179)∧Hid (lK wx w1.heap.size (.agg #[.bool okb,.slice la ln lc]) (iK (d.take tk)))∧Hid (Below w1.heap.size w1 wx))
     case first=>
      go_region_law (first
       |(refine fZ 101 BO (.tmp 49) #[52] (by rfl) (by rfl) (.slice fa tk fc) (by simp[go_sem]) ?_;refine(CSP.out _ (by first|exact hbA|exact hbB)).mono ?_;rintro e w2 ⟨okb,la,ln,lc,rfl,hsp,hb2⟩;have HSP:=a8 hsp;have HB2:=a8 hb2;clear hsp hb2;first|(have hq:=HQ.out _ HB2.out;have q0:w2.cell? ⟨w1.heap.size,0,none⟩=some (.bool false):=(hq.cell 0);have q1:w2.cell? ⟨w1.heap.size,1,none⟩=some (sN):=(hq.cell 1);have fq:=(fun j=>hq.fz j);have af:=a8 hq;clear hq)|skip;refine⟨_,rfl,?_⟩)
       |fail)
      all_goals
       first
       |(have hz:=Eh (x:= .bool okb) (y:= .slice la ln lc) HSP HB2 af.out
         have HZ:=a8 hz;clear hz q0 q1 fq;go_wp2_with fail;go_meet
         case rel=>exact⟨w1.heap.size,okb,la,ln,lc,rfl,OV _,a8 HZ.1,a8 HZ.2.1,a8 HZ.2.2⟩)
       |(have hz:=Eg (x:= .bool okb) (y:= .slice la ln lc) (t:=179) HSP HB2.out
         have HZ:=a8 hz;clear hz;go_wp2_with fail;go_meet
         case rel=>exact⟨w2.heap.size,okb,la,ln,lc,rfl,HZ.2.2.2,a8 HZ.1,a8 HZ.2.1,a8 HZ.2.2.1⟩)
     case rest=>
      obtain⟨Z,okb,la,ln,lc,rfl,cH,af,HSP,ae⟩:=hcut;clear HQ hbA hbB CSP c6 t1 cC cR;have aO:=a8 (az.below ae az.lt);have bT:=a8 (bj.below ae (OV _));have aS:=a8 (aU.trans (dX.of_below ae aD));have bm:=a8 (ag.below ae ag.lt);have bM:=a8 (av.below ae);have aC:B≤wc.heap.size:=O0 aD ae.size;have df:B≤w1.heap.size:=aD;clear az bj aU ag av aD;obtain⟨x0,x1⟩:=af.c2;obtain⟨-,-,-,-,-,-,-,c7⟩:=aO.c8;cases okb with
      |false=>
       have L:=a8 (show fd s.mails (true,d)=none by
        unfold fd;rw[OS ⟨rfl,by rw[aI.out];simp;omega⟩];simp only[aI.out];have h:=HSP.out;cases hsp:iK (d.take tk) with
        |none=>rfl
        |some l=>
         rw[hsp] at h;obtain⟨lv,vs,I,_⟩:=h;simp at I)
       go_upto_region 9 with fail;go_quiet(fail);go_wp2;go_ret;exact⟨aS.trans (dX.of_below (OI (OX _ _) _) aC),.inr ⟨L,rfl⟩⟩
      |true=>
       obtain⟨l,vs,cN,HL,bV⟩:∃(l:List (Nat×Nat×LN)) (vs:List S3),ln=l.length∧Hid (iK (d.take tk)=some l)∧Hid (sV wc w1.heap.size (.slice la l.length lc) vs l):=by
        have h:=HSP.out;cases hsp:iK (d.take tk) with
        |none=>
         rw[hsp] at h;have I:Value.agg #[.bool true,.slice la ln lc]= .agg #[.bool false,sN]:=h;simp at I
        |some l=>
         rw[hsp] at h;obtain⟨lv,vs,I,h2,Q⟩:=h;simp only[Value.agg.injEq,Array.mk.injEq,List.cons.injEq,and_true,true_and] at I;subst I;obtain⟨a',c',e'⟩:=Q.slice;simp only[O3,OW] at e';obtain⟨rfl,rfl,rfl⟩:=e';exact⟨l,vs,rfl,a8 rfl,a8 ⟨h2,Q⟩⟩
       subst cN;have an:=a8 (show fd s.mails (true,d)=ke d s.mails l by
        unfold fd;rw[OS ⟨rfl,by rw[aI.out];simp;omega⟩];simp only[aI.out,HL.out])
       clear HSP;by_cases cj:l.length=s.mails.length
       ·have cu:((l.length:Int) !=(s.mails.length:Int))=false:=(by simp;omega);have bW:=a8 (xF HL);have bP:(d.take tk).length=tk:=(by rw[Pa];omega);rw[bP] at bW;clear bP HL;go_upto_region 9 with fail;go_quiet(fail);have J:=OI (OX wc.heap.size wc) nq;have ao:=a8 (aO.below J aO.lt);have ay:=a8 (bT.below J (OV _));have aT:=a8 (aS.trans (dX.of_below J aC));have bp:=a8 (bm.below J bm.lt);have aZ:=a8 (bM.below J);have aM:=a8 (bV.below J (OV _));have bd:=a8 (af.below J af.lt);have bw:B≤(wc.drewN nq).heap.size:=aC;have cr:w.heap.size<w1.heap.size:=cw.out;clear J aO bT aS bm bM bV af x0 x1 c7 aC ae;generalize wc.drewN nq=w2 at ao ay aT bp aZ aM bd bw⊢;obtain⟨-,-,-,-,-,-,-,c7⟩:=ao.c8;by_cases cl:s.mails.length=0
        ·have ck:s.mails=[]:=Pp.1 cl;have L:=a8 (show fd s.mails (true,d)=some (([]:List FM).map FM.x) by
          rw[an.out,ck,show l=[] from Pp.1 (by omega)];rfl)
         have HF:=a8 (show il w2 B gs (.slice am s.mails.length N) [] from by
          have h:=ay.out;rw[ck] at h⊢;exact il.of gs h)
         rw[cl] at c7 ao HF;go_wp2;refine wp_loop_rounds 1 ?_;rw[rounds_succ];go_wp2;go_ret;exact⟨aT,.inl ⟨[],_,L,rfl,ao,HF⟩⟩
        ·obtain⟨g,bA,ch,cK⟩:=ay.at0 (by rw[OW];omega);subst bA;obtain⟨ga,cM,_,_⟩:=aM.cells (by omega);subst cM;have aR:=a8 (show TxS gs B w.heap.size w1.heap.size Z w w2 s g N fa fc d (some ⟨ga,0,none⟩) lc vs l (s.mails.map fm0) from
          ⟨ao,il.of gs ay,aM,bd,bp,aZ,aT,bw,by simp,cJ,ch,cy.out g rfl,cr,cH,bY⟩)
         clear ao ay aT bp aZ aM bd bw;go_wp2;clear c7;go_loopw [8,9,10,70] (fun _ _ _ i wr=>∃(j:Nat) (fs:List FM),j≤s.mails.length∧i=iI j∧Hid (TxS gs B w.heap.size w1.heap.size Z w wr s g N fa fc d (some ⟨ga,0,none⟩) lc vs l fs)∧Hid (∀k (I:k<s.mails.length) (h2:k<l.length) (Q:k<fs.length),k<j→∃b,eY s.mails[k] l[k]=some b∧fs[k].x=EA d s.mails[k] l[k] b)∧Hid (∀k (I:k<s.mails.length) (Q:k<fs.length),j≤k→fs[k]=fm0 s.mails[k])) (fun _ _ _ i _=>s.mails.length-(intOf i).toNat)
         case atStart=>exact⟨0,s.mails.map fm0,O4 _,rfl,aR,a8 (fun k _ _ _ h=>by omega),a8 (fun k I Q _=>by simp)⟩
         case round=>
          obtain⟨j,fs,hj,rfl,U,HD,HN⟩:=hrel;by_cases ah:j<s.mails.length
          ·have cv:(j:Int)<(s.mails.length:Int):=(by omega);have bC:j<l.length:=(by omega);have cT:(j:Int)<(l.length:Int):=(by omega);have V:j<fs.length:=(by have:=U.len;omega);obtain⟨cV,a,c,e1,q0,q1,q2,aF⟩:=U.body j bC;simp only[OY,PG] at e1;obtain⟨rfl,_⟩:=e1;have bE:=bW.out j bC;have c7:=U.c7;obtain⟨-,x1⟩:=U.bb.c2;have ax:=a8 (fun(hb:eY s.mails[j] l[j]=none)=>qM (text:=d) (OZ ah) (OZ bC) hb);have aL:=a8 (HN.out j ah V (OV _));have be:=a8 (fun(aB:List FM) (m':FM) (b:LN) (e:aB=fs.set j m') (hb:eY s.mails[j] l[j]=some b) (hx:m'.x=EA d s.mails[j] l[j] b)=>((by
            subst e;refine⟨fun k I h2 Q h4=> ?_,fun k I Q h4=> ?_⟩
            ·by_cases ek:k=j
             ·subst ek;exact⟨b,hb,by rw[Pq];exact hx⟩
             ·have br:k<fs.length:=(by simpa using Q);obtain⟨b',g1,g2⟩:=HD.out k I h2 br (by omega);exact⟨b',g1,by rw[List.getElem_set_ne (fun e=>ek e.symm)];exact g2⟩
            ·have br:k<fs.length:=(by simpa using Q);rw[List.getElem_set_ne (by omega)];exact HN.out k I br (by omega)):(∀k (I:k<s.mails.length) (h2:k<l.length) (Q:k<aB.length),k<j+1→∃b,eY s.mails[k] l[k]=some b∧aB[k].x=EA d s.mails[k] l[k] b)∧(∀k (I:k<s.mails.length) (Q:k<aB.length),j+1≤k→aB[k]=fm0 s.mails[k])))
           have K:=nAl wr (.cells #[.int .i64 (l[j].1:Int),.int .i64 (l[j].2.1:Int),.slice a l[j].2.2.length c] 182);have R:=a8 (dQ wr #[.int .i64 (l[j].1:Int),.int .i64 (l[j].2.1:Int),.slice a l[j].2.2.length c] 182);have ac:=a8 (U.below K);have al:=a8 (aF.below K);generalize s.mails[j]=M at ax aL be;generalize l[j]=X at q0 q1 q2 bE ax be R ac al K;obtain⟨z,A,G⟩:=X;simp only at q0 q1 q2 bE R ac al K;clear K aF HD HN;go_upto_region 16 with fail;clear q0 q1 q2 c7 x1;generalize wr.alloc (.cells #[iI z,iI A,.slice a G.length c] 182)=W at R ac al⊢;obtain⟨n0,n1⟩:=R.c2;have r8:W.cell? ⟨g,j*11+8,none⟩=some (iI M.size):=by
            rw[ac.row j V 8 (by omega),aL.out];rfl
           obtain⟨cO,db,dc,dd⟩:=bE;by_cases ai:A-z=M.size
           ·have bO:((A:Int)-(z:Int) !=(M.size:Int))=false:=(by simp;omega);go_quiet(fail);have J:=OI (OX W.heap.size W) nq;have ad:=a8 (ac.below J);have aY:=a8 (al.below J);have ak:=a8 (R.below J R.lt);clear J ac al R n0 n1 r8;generalize W.drewN nq=E at ad aY ak⊢;obtain⟨n0,n1⟩:=ak.c2;obtain⟨-,t1⟩:=ad.bt.c2;obtain⟨b0,bc,cI,bN,aW⟩:=ad.sub z A cO (by omega);subst cI;have dh:(A:Int)≤(fc:Int):=(by have:=ad.tx.room;omega);have di:(z:Int)≤(A:Int):=(by omega);have cX:(fc:Int)≤9223372036854775807:=(by have:=ad.tx.cap;omega);have dg:z≤A:=(by omega);have CB:=a8 ((by
             have h:=lQ (some ⟨b0,bc+z,none⟩) (fc-z) ((d.take A).drop z) E (by rw[aW];omega) bN;rw[aW] at h;exact h):Calls prog 78 #[.slice (some ⟨b0,bc+z,none⟩) (A-z) (fc-z)] E fun e w'=>e= .returned (sS E.heap.size (A-z) (A-z))∧dR w' E.heap.size (sS E.heap.size (A-z) (A-z)) ((d.take A).drop z)∧Below E.heap.size E w')
            have aK:=a8 aW;have aP:=a8 ai;clear bN aW ai bO;go_wp2_with fail;refine CB.mono ?_;rintro e W2 ⟨rfl,cn,aV⟩;have bf:=a8 (show TxB W2 gs (sS g s.mails.length N) (some ⟨E.heap.size,0,none⟩) (A-z) ((d.take A).drop z) from by
             have h:=ad.newB (wr':=W2) (e:=(d.take A).drop z) (by rw[aK.out];exact cn) (by rw[aK.out];omega);rw[aK.out] at h;exact h)
            have aQ:=a8 (ad.below aV);have bJ:=a8 (aY.below aV);have bI:=a8 (ak.below aV ak.lt);have cY:g<wr.heap.size:=Nat.lt_trans U.n3 U.bt.lt;clear cn aV ad aY ak n0 n1 t1 CB;have r4:W2.cell? ⟨g,j*11+4,none⟩=some (sN):=(by rw[aQ.row j V 4 (by omega),aL.out];rfl);have fz:=fun k=>aQ.fz k;have aA:=a8 (aQ.put j 4 V (by omega) (sS E.heap.size (A-z) (A-z)) ⟨{xm0 M with entry:=(d.take A).drop z},none,0,some ⟨E.heap.size,0,none⟩,A-z⟩ (by rw[aL.out,←aK.out];rfl) (TxB.nil _ _ _) bf);have aH:=a8 (bJ.rset (k:=j*11+4) (sS E.heap.size (A-z) (A-z)));have aG:=a8 (bf.rset (k:=j*11+4) (sS E.heap.size (A-z) (A-z)));have aX:=a8 (bI.other (g':=g) (j:=j*11+4) (by omega) (sS E.heap.size (A-z) (A-z)));clear aQ bJ bf bI;go_upto_region 19 with fail;clear r4 fz;generalize W2.setCell ⟨g,j*11+4,none⟩ (sS E.heap.size (A-z) (A-z))=W3 at aA aH aG aX⊢;have ci:j<(fs.set j ⟨{xm0 M with entry:=(d.take A).drop z},none,0,some ⟨E.heap.size,0,none⟩,A-z⟩).length:=(by simpa using V);obtain⟨-,-,n2⟩:=aX.c3;have r3:W3.cell? ⟨g,j*11+3,none⟩=some (sN):=(by rw[aA.row j ci 3 (by omega),Pq];rfl);have fz:=fun k=>aA.fz k;have Y:=a8 (aA.reput 3 V (by omega) (.slice a G.length c) ⟨{xm0 M with entry:=(d.take A).drop z,body:=G},a,c,some ⟨E.heap.size,0,none⟩,A-z⟩ rfl aH aG);have aa:=a8 (aH.rset (k:=j*11+3) (.slice a G.length c));have aj:=a8 (aG.rset (k:=j*11+3) (.slice a G.length c));clear aA aH aG aX ci;go_upto_region 20 with fail;clear n2 r3 fz;generalize W3.setCell ⟨g,j*11+3,none⟩ (.slice a G.length c)=W4 at Y aa aj⊢;have bB:j<(fs.set j ⟨{xm0 M with entry:=(d.take A).drop z,body:=G},a,c,some ⟨E.heap.size,0,none⟩,A-z⟩).length:=(by simpa using V);have r7:W4.cell? ⟨g,j*11+7,none⟩=some (iI M.bare):=(by rw[Y.row j bB 7 (by omega),Pq];rfl);have r3:W4.cell? ⟨g,j*11+3,none⟩=some (.slice a G.length c):=(by rw[Y.row j bB 3 (by omega),Pq];rfl);have fz:=fun k=>Y.fz k;clear bB
            go_upto_if 114 with fail
            go_cut [9] (fun p wx=>p= .pointer (some ⟨g,j*11,none⟩)∧∃b:LN,Hid (eY M (z,A,G)=some b)∧Hid (TxS gs B w.heap.size w1.heap.size Z w wx s g N (some ⟨b0,bc,none⟩) fc d (some ⟨ga,0,none⟩) lc vs l (fs.set j ⟨{xm0 M with entry:=(d.take A).drop z,body:=b},a,c,some ⟨E.heap.size,0,none⟩,A-z⟩))∧Hid (TxB wx gs (sS g s.mails.length N) a c b)∧Hid (TxB wx gs (sS g s.mails.length N) (some ⟨E.heap.size,0,none⟩) (A-z) ((d.take A).drop z)))
            case first=>
             by_cases aq:M.bare=1
             ·have cG:((M.bare:Int)==1)=true:=(by simp;omega);by_cases h0:G.length=0
              ·have cD:((G.length:Int)==0)=true:=(by simp;exact Pp.1 h0);have L:=a8 (an.trans (ax.out (by
                unfold eY;rw[OS aP.out,OS aq,OR];rw[Pp.1 h0];simp)))
               rw[h0] at r3;clear aq h0 cD;go_wp2;go_ret;exact⟨Y.xx,.inr ⟨L,rfl⟩⟩
              ·obtain⟨bb,bo,cF,cg⟩:=aa.row (by omega);obtain⟨n,hn⟩:∃n,G.length=n+1:=⟨G.length-1,by omega⟩
               have bQ:=a8 (zc bb bo c (n+1) G W4 hn (by omega) (fun i hi=>cg i hi));subst cF;have bg:=a8 (Fl (b:=G) (by omega));have cA:=a8 hn;have da:(n:Int)≤(c:Int):=(by have:=aa.room;omega);have cW:(c:Int)≤9223372036854775807:=(by have:=aa.cap;omega);rw[hn] at r3;have bR:=a8 aq;clear cg hn h0 aq;go_wp2_with fail;refine bQ.mono ?_;rintro e w5 ⟨rfl,rfl⟩;generalize ka G=bz at bg⊢;cases bz with
               |true=>
                have L:=a8 (an.trans (ax.out (by
                 unfold eY;rw[OS aP.out,OS bR.out,OR];exact OU bg.symm)))
                go_wp2;go_ret;exact⟨Y.xx,.inr ⟨L,rfl⟩⟩
               |false=>
                have aw:=a8 (show eY M (z,A,G)=some G.dropLast by
                 unfold eY;rw[OS aP.out,OS bR.out,OS];have:=of_decide_eq_false bg.symm;simpa using this)
                have cx:=a8 (show G.dropLast.length=n by rw[List.length_dropLast,cA.out];rfl);have ab:=a8 ((Y.below ((OX w5.heap.size w5).drew)).reput 3 V (by omega) (.slice (some ⟨bb,bo,none⟩) n c) ⟨{xm0 M with entry:=(d.take A).drop z,body:=G.dropLast},some ⟨bb,bo,none⟩,c,some ⟨E.heap.size,0,none⟩,A-z⟩ (by rw[←cx.out];rfl) (aa.below ((OX w5.heap.size w5).drew)).drop1 (aj.below ((OX w5.heap.size w5).drew)));have au:=a8 (((aa.below ((OX w5.heap.size w5).drew)).drop1).rset (k:=j*11+3) (.slice (some ⟨bb,bo,none⟩) n c));have ar:=a8 ((aj.below ((OX w5.heap.size w5).drew)).rset (k:=j*11+3) (.slice (some ⟨bb,bo,none⟩) n c));clear Y aa aj bQ;go_upto_region 23 with fail;go_region
                all_goals
                 go_wp2_with fail;go_meet
                 case rel=>exact⟨rfl,G.dropLast,aw,ab,au,ar⟩
             ·have cG:((M.bare:Int)==1)=false:=(by simp;omega);have aw:=a8 (show eY M (z,A,G)=some G by unfold eY;rw[OS aP.out,OR aq]);clear aq;go_wp2_with fail;go_meet
              case rel=>exact⟨rfl,G,aw,Y,aa,aj⟩
            case rest=>
             obtain⟨rfl,b,aw,ab,au,ar⟩:=hcut;clear Y aa aj r3 r7 fz;have aE:j<(fs.set j ⟨{xm0 M with entry:=(d.take A).drop z,body:=b},a,c,some ⟨E.heap.size,0,none⟩,A-z⟩).length:=(by simpa using V);have r5:wc.cell? ⟨g,j*11+5,none⟩=some (iI M.stamp):=(by rw[ab.row j aE 5 (by omega),Pq];rfl);have r1:wc.cell? ⟨g,j*11+1,none⟩=some (.int .i64 0):=(by rw[ab.row j aE 1 (by omega),Pq];rfl);have r6:wc.cell? ⟨g,j*11+6,none⟩=some (uI M.flags):=(by rw[ab.row j aE 6 (by omega),Pq];rfl);have r2:wc.cell? ⟨g,j*11+2,none⟩=some (.int .u32 0):=(by rw[ab.row j aE 2 (by omega),Pq];rfl);have fz:=fun k=>ab.fz k;have bX:=a8 (ab.reput 1 V (by omega) (iI M.stamp) ⟨{xm0 M with entry:=(d.take A).drop z,body:=b,stamp:=M.stamp},a,c,some ⟨E.heap.size,0,none⟩,A-z⟩ rfl au ar);have cq:=a8 (bX.reput 2 V (by omega) (uI M.flags) ⟨{xm0 M with entry:=(d.take A).drop z,body:=b,stamp:=M.stamp,flags:=M.flags},a,c,some ⟨E.heap.size,0,none⟩,A-z⟩ rfl (au.rset _) (ar.rset _));have bS:=a8 (be.out _ _ b rfl aw (show(⟨{xm0 M with entry:=(d.take A).drop z,body:=b,stamp:=M.stamp,flags:=M.flags},a,c,some ⟨E.heap.size,0,none⟩,A-z⟩:FM).x=EA d M (z,A,G) b from rfl));clear ab au ar bX aE;go_wp2;go_roundw
             case rel=>exact⟨j+1,_,by omega,by go_num,cq,a8 bS.1,a8 bS.2⟩
             case measure=>simp[intOf];omega
           ·have bO:((A:Int)-(z:Int) !=(M.size:Int))=true:=(by simp;omega);have L:=a8 (an.trans (ax.out (by unfold eY;rw[OR ai])));go_quiet(fail);have cd:=a8 (ac.below (OI (OX W.heap.size W) nq)).xx;clear ac al R n0 n1 r8;generalize W.drewN nq=E at cd⊢;go_wp2;go_ret;exact⟨cd,.inr ⟨L,rfl⟩⟩
          ·obtain rfl:j=s.mails.length:=(by omega);have L:=a8 (show fd s.mails (true,d)=some (fs.map FM.x) by
            rw[an.out];have cL:=U.len;refine tC cj.symm (by simp[cL]) (fun i I h2 Q=> ?_);obtain⟨b,g1,g2⟩:=HD.out i I h2 (by simpa using Q) I;exact⟨b,g1,by simpa using g2⟩)
           go_wp2;go_ret;exact⟨U.xx,.inl ⟨fs,_,L,rfl,U.st,U.ful⟩⟩
       ·have cu:((l.length:Int) !=(s.mails.length:Int))=true:=(by simp;omega);have L:=a8 (an.trans (tE (fun e=>cj e.symm)));go_upto_region 9 with fail;go_quiet(fail);go_wp2;go_ret;exact⟨aS.trans (dX.of_below (OI (OX _ _) _) aC),.inr ⟨L,rfl⟩⟩
end Go.Proofs.YtkkdfgnnlpohlaaGreatDoor
