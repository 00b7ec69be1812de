import Derived.Test.YtpdbolihakojcaaGreatDoorPku
namespace Go.Proofs.YtpdbolihakojcaaGreatDoor
set_option maxRecDepth 20000
set_option linter.unusedVariables false
set_option linter.unusedSimpArgs false
set_option maxHeartbeats 4000000
open Go.RowKit
variable {W Y w w' w0 wr : World} {b : List UInt8} {A B at_ base' c cap e f g gs i j k lo m n u z : Nat} {R d is l : List Nat} {E G I J K L M N O v0 v1 v2 v3 v4 v5 v6 x y : Value} {o : Oper} {Q : Exit → Act → World → Prop} {bvs xs : List Value} {t : TypeId} {cs tmps : Array Value} {p : Addr} {a : Option Addr} {first ok : Bool} {s : ByteArray} {rs : List (List Nat)}
theorem BG(gs B:Nat)(s:IX)(mv:Value)(f1:Bool)(d:List Nat)(fa:Option Addr)(fc:Nat)(w:World)(cn:StI w gs s mv)(hm:iF w B mv s.mails)(cI:gs<B)(hB:B≤w.heap.size)(bF:fX w fa fc d)(dd:d.length≤1000000)(aF:0<d.length→∀p,fa=some p→p.block<B∧p.block≠gs)(cY:s.mails.length≤100)(bD:∀m∈s.mails,m.size≤40000):
  Calls Tryz.prog 62 #[.pointer (some ⟨gs,0,none⟩),.agg #[.bool f1,.slice fa d.length fc]] w (KT gs B s (f1,d) w):=by
 obtain⟨am,N,rfl⟩:=hm.slice;rw[MI] at*;have K:=nAl w (.cells #[.bool f1,.slice fa d.length fc] 88);have bl:=a8 (dN w #[.bool f1,.slice fa d.length fc] 88);have bq:=a8 (show dV gs B w _ from dV.of_below K hB);have S0:=cn.below K (by omega);have bh:=a8 (hm.below K (MH _));have bL:=a8 (bF.below K);have bu:B≤(w.alloc (.cells #[.bool f1,.slice fa d.length fc] 88)).heap.size:=(by simp;omega);obtain⟨-,-,-,-,-,-,-,c7⟩:=S0.c8;have bk:=a8 S0;have bn:=a8 (tH bD);have cy:=a8 bD;have cA:=a8 bF;have cx:=a8 (show∀g,am=some ⟨g,0,none⟩→g<w.heap.size from fun g e=>(b9.lt hm g (by rw[e];rfl)).2);have bY:=a8 aF;clear cn hm bF K S0 bD aF;go_enter Tryz.func62,Tryz.ntmps62;go_upto_region 1 with fail;generalize w.alloc (.cells #[.bool f1,.slice fa d.length fc] 88)=w0 at bl bq bh bL bu c7 bk⊢;go_wp2;clear c7;go_loopw [6,16] (fun _ i wr=>∃j:Nat,j≤s.mails.length∧i= .int .i64 (j:Int)∧Hid (StX wr gs 1 s.val s.next 0 s.gen (dF (s.mails.take j)) (.slice am s.mails.length N) (.slice none 0 0))∧Hid (iF wr B (.slice am s.mails.length N) s.mails)∧Hid (dV gs B w wr)∧Hid (Blk wr w.heap.size #[.bool f1,.slice fa d.length fc] 88)∧B≤wr.heap.size) (fun _ i _=>s.mails.length-(intOf i).toNat)
 case atStart=>exact⟨0,MQ _,rfl,bk,bh,bq,bl,bu⟩
 case round=>
  obtain⟨j,hj,rfl,HS,HM,HX,HT,ap⟩:=hrel;by_cases ah:j<s.mails.length
  ·have cu:(j:Int)<(s.mails.length:Int):=(by omega);obtain⟨g,bA,cg,cJ⟩:=HM.out.at0 (by rw[MI];omega);subst bA;have O:=fun k hk=>Lk HM.out j ah k hk;have aR:=a8 (tI ah);have cO:=bn.out j;have ai:=cy.out _ (MO ah);generalize s.mails[j]=mj at O aR ai;obtain⟨u0,u1,u2,u3,u4⟩:=mj;have k0:wr.cell? ⟨g,j*11,none⟩=some (.int .u32 (u0:Int)):=O 0 (by omega);have k1:wr.cell? ⟨g,j*11+1,none⟩=some (.int .i64 0):=O 1 (by omega);have k2:wr.cell? ⟨g,j*11+2,none⟩=some (.int .u32 0):=O 2 (by omega);have k3:wr.cell? ⟨g,j*11+3,none⟩=some (.slice none 0 0):=O 3 (by omega);have k4:wr.cell? ⟨g,j*11+4,none⟩=some (.slice none 0 0):=O 4 (by omega);have k5:wr.cell? ⟨g,j*11+5,none⟩=some (.int .i64 (u1:Int)):=O 5 (by omega);have k6:wr.cell? ⟨g,j*11+6,none⟩=some (.int .u32 (u2:Int)):=O 6 (by omega);have k7:wr.cell? ⟨g,j*11+7,none⟩=some (.int .i64 (u4:Int)):=O 7 (by omega);have k8:wr.cell? ⟨g,j*11+8,none⟩=some (.int .i64 (u3:Int)):=O 8 (by omega);have k9:wr.cell? ⟨g,j*11+9,none⟩=some (.bool false):=O 9 (by omega);have cP:wr.cell? ⟨g,j*11+10,none⟩=some (.string ⟨#[]⟩):=O 10 (by omega);have cT:u3≤40000:=ai;have K:=nAl wr (.cells #[.int .u32 (u0:Int),.int .i64 0,.int .u32 0,.slice none 0 0,.slice none 0 0,.int .i64 (u1:Int),.int .u32 (u2:Int),.int .i64 (u4:Int),.int .i64 (u3:Int),.bool false,.string ⟨#[]⟩] 54);have R:=a8 (dN wr #[.int .u32 (u0:Int),.int .i64 0,.int .u32 0,.slice none 0 0,.slice none 0 0,.int .i64 (u1:Int),.int .u32 (u2:Int),.int .i64 (u4:Int),.int .i64 (u3:Int),.bool false,.string ⟨#[]⟩] 54);have aN:=a8 (HS.out.below K HS.out.lt);have bi:=a8 (HM.out.below K (MH _));have ca:=a8 (HX.out.trans (dV.of_below K ap));have bK:=a8 (HT.out.below K HT.out.lt);have cD:=MN ap K.size;clear K O ai HM HX HT;go_upto_region 4 with fail;clear k0 k1 k2 k3 k4 k5 k6 k7 k8 k9 cP;generalize wr.alloc (.cells #[.int .u32 (u0:Int),.int .i64 0,.int .u32 0,.slice none 0 0,.slice none 0 0,.int .i64 (u1:Int),.int .u32 (u2:Int),.int .i64 (u4:Int),.int .i64 (u3:Int),.bool false,.string ⟨#[]⟩] 54)=W at R aN bi ca bK cD⊢;obtain⟨-,-,-,-,-,-,c6⟩:=aN.out.c7;obtain⟨-,-,-,-,-,-,-,-,n8⟩:=R.out.c9;have fz:=fun j=>aN.out.fz j;have aJ:dF (s.mails.take j)≤4000000:=by
    have:j*40000≤100*40000:=Ny _ (by omega);exact MN cO this
   have bH:=a8 (show StX (W.drew.setCell ⟨gs,6,none⟩ (.int .i64 (((dF (s.mails.take j):Nat):Int)+(u3:Int)))) gs 1 s.val s.next 0 s.gen (dF (s.mails.take (j+1))) (.slice (some ⟨g,0,none⟩) s.mails.length N) (.slice none 0 0) from by
    have h:=Blk.set (show Blk W.drew gs _ _ from aN.out) 6 (.int .i64 (((dF (s.mails.take j):Nat):Int)+(u3:Int)));show Blk _ gs (stX _ _ _ _ _ _ _ _) _;rw[aR.out];simpa[stX] using h)
   have bU:=a8 (show iF (W.drew.setCell ⟨gs,6,none⟩ (.int .i64 (((dF (s.mails.take j):Nat):Int)+(u3:Int)))) B (.slice (some ⟨g,0,none⟩) s.mails.length N) s.mails from b9.keep (show iF W.drew B _ _ from bi.out) (fun k hk=>heap_setCell_other _ ⟨gs,6,none⟩ k _ (by have:=(b9.lt bi.out k hk).1;simp;omega)));have cb:=a8 (show dV gs B w (W.drew.setCell ⟨gs,6,none⟩ (.int .i64 (((dF (s.mails.take j):Nat):Int)+(u3:Int)))) from dV.set ca.out.drew _);have bZ:=a8 (show Blk (W.drew.setCell ⟨gs,6,none⟩ (.int .i64 (((dF (s.mails.take j):Nat):Int)+(u3:Int)))) w.heap.size #[.bool f1,.slice fa d.length fc] 88 from Blk.other (show Blk W.drew _ _ _ from bK.out) (by omega) _);generalize dF (s.mails.take j)=tk at c6 aJ bH bU cb bZ;go_region;go_wp2;go_roundw
   case rel=>exact⟨j+1,by omega,by go_num,bH,bU,cb,bZ,by simp;omega⟩
   case measure=>simp[intOf];omega
  ·obtain rfl:j=s.mails.length:=(by omega);have aJ:dF (s.mails.take s.mails.length)≤4000000:=by
    have I:=bn.out s.mails.length;have h2:s.mails.length*40000≤100*40000:=Ny _ (by omega);exact MN I h2
   rw[NE] at HS aJ;clear hj ah bn bl bq bh bL bu bk;cases f1 with
   |false=>
    have L:=a8 (show eZ s.mails (false,d)=none by unfold eZ;rw[if_neg (by simp)]);have t0:wr.cell? ⟨w.heap.size,0,none⟩=some (.bool false):=HT.out.cell 0;go_upto_region 6 with fail;go_quiet(fail);go_wp2;go_ret;exact⟨HX.out.trans (dV.of_below (below_drewN (MJ _ _) _) ap),.inr ⟨L.out,rfl⟩⟩
   |true=>
    obtain⟨t0,t1⟩:=HT.out.c2;obtain⟨-,-,-,-,-,-,c6⟩:=HS.out.c7;by_cases cr:d.length<dF s.mails
    ·have bG:(d.length:Int)<((dF s.mails:Nat):Int):=(by omega);have L:=a8 (show eZ s.mails (true,d)=none by unfold eZ;rw[if_neg (by simp;omega)]);go_upto_region 6 with fail;go_quiet(fail);go_wp2;go_ret;exact⟨HX.out.trans (dV.of_below (below_drewN (MJ _ _) _) ap),.inr ⟨L.out,rfl⟩⟩
    ·have bG:¬(d.length:Int)<((dF s.mails:Nat):Int):=(by omega);go_upto_region 6 with fail;go_quiet(fail);have J:=below_drewN (MJ wr.heap.size wr) nq;have az:=a8 (HS.out.below J HS.out.lt);have bj:=a8 (HM.out.below J (MH _));have aU:=a8 (HX.out.trans (dV.of_below J ap));have ag:=a8 (HT.out.below J HT.out.lt);have aD:B≤(wr.drewN nq).heap.size:=ap;clear J HS HM HX HT t0 t1 c6;generalize wr.drewN nq=w1 at az bj aU ag aD⊢;have av:=a8 (cA.out.belX aU.out bY.out);have cv:=a8 ag.out.lt;obtain⟨-,t1⟩:=ag.out.c2;obtain⟨-,-,-,-,-,-,c6⟩:=az.out.c7;have co:((dF s.mails:Nat):Int)≤(fc:Int):=(by have:=av.out.room;omega);have cR:(fc:Int)≤9223372036854775807:=(by have:=av.out.cap;omega);have ba:(d.take (dF s.mails)).length=dF s.mails:=(by rw[MZ];omega);have CSP:=a8 (fun(X:World) (hX:Below w1.heap.size w1 X)=>((by
      have h:=Iw (fX.take (av.out.below hX) (dF s.mails)) (by rw[ba];omega);rw[ba] at h;exact h.mono (fun e w' h=>Fd h)):Calls Tryz.prog 95 #[.slice fa (dF s.mails) fc] X (FF (d.take (dF s.mails)) X)))
     have hbA:Below w1.heap.size w1 w1.drew:=(MJ _ _).drew;have hbB:Below w1.heap.size w1 (w1.alloc (.cells #[.bool false,.slice none 0 0] 176)).drew:=((MJ _ _).alloc (MH _) _).drew;have HQ:=a8 (fun(w2:World) (hb:Below (w1.alloc (.cells #[.bool false,.slice none 0 0] 176)).drew.heap.size (w1.alloc (.cells #[.bool false,.slice none 0 0] 176)).drew w2)=>Blk.below (show Blk (w1.alloc (.cells #[.bool false,.slice none 0 0] 176)).drew w1.heap.size #[.bool false,.slice none 0 0] 176 from dN w1 _ _) hb (by show w1.heap.size<(w1.alloc _).heap.size;simp));generalize ce:dF s.mails=tk at c6 co CSP aJ cr bG;have aI:=a8 ce;have cB:(w1.alloc (.cells #[.bool false,.slice none 0 0] 176)).drew.cell? ⟨gs,6,none⟩=some (.int .i64 (tk:Int)):=(hbB.cell (p:=⟨gs,6,none⟩) (show gs<w1.heap.size by omega)).trans c6;have cQ:(w1.alloc (.cells #[.bool false,.slice none 0 0] 176)).drew.cell? ⟨w.heap.size,1,none⟩=some (.slice fa d.length fc):=(hbB.cell (p:=⟨w.heap.size,1,none⟩) (show w.heap.size<w1.heap.size from ag.out.lt)).trans t1;clear ce ba;go_upto_region 8 with fail;go_cut [7] (fun p wx=>∃(Z:Nat) (okb:Bool) (la:Option Addr) (ln lc:Nat),p= .pointer (some ⟨Z,0,none⟩)∧w1.heap.size≤Z∧Hid (Blk wx Z #[.bool okb,.slice la ln lc] 176)∧Hid (kH wx w1.heap.size (.agg #[.bool okb,.slice la ln lc]) (iy (d.take tk)))∧Hid (Below w1.heap.size w1 wx))
     case first=>
      go_region_law (first
       |(refine ii 95 Ap (.tmp 49) #[52] (by rfl) (by rfl) (.slice fa tk fc) (by simp[go_sem]) ?_;refine(CSP.out _ (by first|exact hbA|exact hbB)).mono ?_;rintro e w2 ⟨okb,la,ln,lc,rfl,hsp,hb2⟩;have HSP:=a8 hsp;have HB2:=a8 hb2;clear hsp hb2;first|(have hq:=HQ.out _ HB2.out;have q0:w2.cell? ⟨w1.heap.size,0,none⟩=some (.bool false):=(hq.cell 0);have q1:w2.cell? ⟨w1.heap.size,1,none⟩=some (.slice none 0 0):=(hq.cell 1);have fq:=(fun j=>hq.fz j);have af:=a8 hq;clear hq)|skip;refine⟨_,rfl,?_⟩)
       |fail)
      all_goals
       first
       |(have hz:=Co (x:= .bool okb) (y:= .slice la ln lc) HSP.out HB2.out af.out
         have HZ:=a8 hz;clear hz q0 q1 fq;go_wp2_with fail;go_meet
         case rel=>exact⟨w1.heap.size,okb,la,ln,lc,rfl,MH _,a8 HZ.out.1,a8 HZ.out.2.1,a8 HZ.out.2.2⟩)
       |(have hz:=Cn (x:= .bool okb) (y:= .slice la ln lc) (t:=176) HSP.out HB2.out
         have HZ:=a8 hz;clear hz;go_wp2_with fail;go_meet
         case rel=>exact⟨w2.heap.size,okb,la,ln,lc,rfl,HZ.out.2.2.2,a8 HZ.out.1,a8 HZ.out.2.1,a8 HZ.out.2.2.1⟩)
     case rest=>
      obtain⟨Z,okb,la,ln,lc,rfl,cG,af,HSP,ae⟩:=hcut;clear HQ hbA hbB CSP c6 t1 cB cQ;have aO:=a8 (az.out.below ae.out az.out.lt);have bT:=a8 (bj.out.below ae.out (MH _));have aS:=a8 (aU.out.trans (dV.of_below ae.out aD));have bm:=a8 (ag.out.below ae.out ag.out.lt);have bM:=a8 (av.out.below ae.out);have aC:B≤wc.heap.size:=MN aD ae.out.size;have de:B≤w1.heap.size:=aD;clear az bj aU ag av aD;obtain⟨x0,x1⟩:=af.out.c2;obtain⟨-,-,-,-,-,-,-,c7⟩:=aO.out.c8;cases okb with
      |false=>
       have L:=a8 (show eZ s.mails (true,d)=none by
        unfold eZ;rw[if_pos ⟨rfl,by rw[aI.out];simp;omega⟩];simp only[aI.out];have h:=HSP.out;cases hsp:iy (d.take tk) with
        |none=>rfl
        |some l=>
         rw[hsp] at h;obtain⟨lv,vs,I,_⟩:=h;simp at I)
       go_upto_region 9 with fail;go_quiet(fail);go_wp2;go_ret;exact⟨aS.out.trans (dV.of_below (below_drewN (MJ _ _) _) aC),.inr ⟨L.out,rfl⟩⟩
      |true=>
       obtain⟨l,vs,cM,HL,bV⟩:∃(l:List (Nat×Nat×List Nat)) (vs:List S3),ln=l.length∧Hid (iy (d.take tk)=some l)∧Hid (ry wc w1.heap.size (.slice la l.length lc) vs l):=by
        have h:=HSP.out;cases hsp:iy (d.take tk) with
        |none=>
         rw[hsp] at h;have I:Value.agg #[.bool true,.slice la ln lc]= .agg #[.bool false,.slice none 0 0]:=h;simp at I
        |some l=>
         rw[hsp] at h;obtain⟨lv,vs,I,h2,Q⟩:=h;simp only[Value.agg.injEq,Array.mk.injEq,List.cons.injEq,and_true,true_and] at I;subst I;obtain⟨a',c',e'⟩:=Q.slice;simp only[MR,MI] at e';obtain⟨rfl,rfl,rfl⟩:=e';exact⟨l,vs,rfl,a8 rfl,a8 ⟨h2,Q⟩⟩
       subst cM;have an:=a8 (show eZ s.mails (true,d)=kD d s.mails l by
        unfold eZ;rw[if_pos ⟨rfl,by rw[aI.out];simp;omega⟩];simp only[aI.out,HL.out])
       clear HSP;by_cases ci:l.length=s.mails.length
       ·have ct:((l.length:Int) !=(s.mails.length:Int))=false:=(by simp;omega);have bW:=a8 (vO HL.out);have bP:(d.take tk).length=tk:=(by rw[MZ];omega);rw[bP] at bW;clear bP HL;go_upto_region 9 with fail;go_quiet(fail);have J:=below_drewN (MJ wc.heap.size wc) nq;have ao:=a8 (aO.out.below J aO.out.lt);have ay:=a8 (bT.out.below J (MH _));have aT:=a8 (aS.out.trans (dV.of_below J aC));have bp:=a8 (bm.out.below J bm.out.lt);have aZ:=a8 (bM.out.below J);have aM:=a8 (bV.out.below J (MH _));have bd:=a8 (af.out.below J af.out.lt);have bw:B≤(wc.drewN nq).heap.size:=aC;have cq:w.heap.size<w1.heap.size:=cv.out;clear J aO bT aS bm bM bV af x0 x1 c7 aC ae;generalize wc.drewN nq=w2 at ao ay aT bp aZ aM bd bw⊢;obtain⟨-,-,-,-,-,-,-,c7⟩:=ao.out.c8;by_cases ck:s.mails.length=0
        ·have cj:s.mails=[]:=Nc.1 ck;have L:=a8 (show eZ s.mails (true,d)=some (([]:List FM).map FM.x) by
          rw[an.out,cj,show l=[] from Nc.1 (by omega)];rfl)
         have HF:=a8 (show gK w2 B gs (.slice am s.mails.length N) [] from by
          have h:=ay.out;rw[cj] at h⊢;exact gK.of gs h)
         rw[ck] at c7 ao HF;go_wp2;refine wp_loop_rounds 1 ?_;rw[rounds_succ];go_wp2;go_ret;exact⟨aT.out,.inl ⟨[],_,L.out,rfl,ao.out,HF.out⟩⟩
        ·obtain⟨g,bA,cg,cJ⟩:=ay.out.at0 (by rw[MI];omega);subst bA;obtain⟨ga,cL,_,_⟩:=aM.out.cells (by omega);subst cL;have aR:=a8 (show TxS gs B w.heap.size w1.heap.size Z w w2 s g N fa fc d (some ⟨ga,0,none⟩) lc vs l (s.mails.map fm0) from
          ⟨ao.out,gK.of gs ay.out,aM.out,bd.out,bp.out,aZ.out,aT.out,bw,by simp,cI,cg,cx.out g rfl,cq,cG,bY.out⟩)
         clear ao ay aT bp aZ aM bd bw;go_wp2;clear c7;go_loopw [8,9,10,70] (fun _ _ _ i wr=>∃(j:Nat) (fs:List FM),j≤s.mails.length∧i= .int .i64 (j:Int)∧Hid (TxS gs B w.heap.size w1.heap.size Z w wr s g N fa fc d (some ⟨ga,0,none⟩) lc vs l fs)∧Hid (∀k (I:k<s.mails.length) (h2:k<l.length) (Q:k<fs.length),k<j→∃b,eS s.mails[k] l[k]=some b∧fs[k].x=CY d s.mails[k] l[k] b)∧Hid (∀k (I:k<s.mails.length) (Q:k<fs.length),j≤k→fs[k]=fm0 s.mails[k])) (fun _ _ _ i _=>s.mails.length-(intOf i).toNat)
         case atStart=>exact⟨0,s.mails.map fm0,MQ _,rfl,aR,a8 (fun k _ _ _ h=>by omega),a8 (fun k I Q _=>by simp)⟩
         case round=>
          obtain⟨j,fs,hj,rfl,U,HD,HN⟩:=hrel;by_cases ah:j<s.mails.length
          ·have cu:(j:Int)<(s.mails.length:Int):=(by omega);have bC:j<l.length:=(by omega);have cS:(j:Int)<(l.length:Int):=(by omega);have V:j<fs.length:=(by have:=U.out.len;omega);obtain⟨cU,a,c,e1,q0,q1,q2,aF⟩:=U.out.body j bC;simp only[MK,Np] at e1;obtain⟨rfl,_⟩:=e1;have bE:=bW.out j bC;have c7:=U.out.c7;obtain⟨-,x1⟩:=U.out.bb.c2;have ax:=a8 (fun(hb:eS s.mails[j] l[j]=none)=>pM (text:=d) (MM ah) (MM bC) hb);have aL:=a8 (HN.out j ah V (MH _));have be:=a8 (fun(aB:List FM) (m':FM) (b:List Nat) (e:aB=fs.set j m') (hb:eS s.mails[j] l[j]=some b) (hx:m'.x=CY d s.mails[j] l[j] b)=>((by
            subst e;refine⟨fun k I h2 Q h4=> ?_,fun k I Q h4=> ?_⟩
            ·by_cases ek:k=j
             ·subst ek;exact⟨b,hb,by rw[Nh];exact hx⟩
             ·have br:k<fs.length:=(by simpa using Q);obtain⟨b',g1,g2⟩:=HD.out k I h2 br (by omega);exact⟨b',g1,by rw[List.getElem_set_ne (fun e=>ek e.symm)];exact g2⟩
            ·have br:k<fs.length:=(by simpa using Q);rw[List.getElem_set_ne (by omega)];exact HN.out k I br (by omega)):(∀k (I:k<s.mails.length) (h2:k<l.length) (Q:k<aB.length),k<j+1→∃b,eS s.mails[k] l[k]=some b∧aB[k].x=CY d s.mails[k] l[k] b)∧(∀k (I:k<s.mails.length) (Q:k<aB.length),j+1≤k→aB[k]=fm0 s.mails[k])))
           have K:=nAl wr (.cells #[.int .i64 (l[j].1:Int),.int .i64 (l[j].2.1:Int),.slice a l[j].2.2.length c] 179);have R:=a8 (dN wr #[.int .i64 (l[j].1:Int),.int .i64 (l[j].2.1:Int),.slice a l[j].2.2.length c] 179);have ac:=a8 (U.out.below K);have al:=a8 (aF.below K);generalize s.mails[j]=M at ax aL be;generalize l[j]=X at q0 q1 q2 bE ax be R ac al K;obtain⟨z,A,G⟩:=X;simp only at q0 q1 q2 bE R ac al K;clear K aF HD HN;go_upto_region 16 with fail;clear q0 q1 q2 c7 x1;generalize wr.alloc (.cells #[.int .i64 (z:Int),.int .i64 (A:Int),.slice a G.length c] 179)=W at R ac al⊢;obtain⟨n0,n1⟩:=R.out.c2;have r8:W.cell? ⟨g,j*11+8,none⟩=some (.int .i64 (M.size:Int)):=by
            rw[ac.out.row j V 8 (by omega),aL.out];rfl
           obtain⟨cN,da,db,dc⟩:=bE;by_cases ai:A-z=M.size
           ·have bO:((A:Int)-(z:Int) !=(M.size:Int))=false:=(by simp;omega);go_quiet(fail);have J:=below_drewN (MJ W.heap.size W) nq;have ad:=a8 (ac.out.below J);have aY:=a8 (al.out.below J);have ak:=a8 (R.out.below J R.out.lt);clear J ac al R n0 n1 r8;generalize W.drewN nq=E at ad aY ak⊢;obtain⟨n0,n1⟩:=ak.out.c2;obtain⟨-,t1⟩:=ad.out.bt.c2;obtain⟨b0,bc,cH,bN,aW⟩:=ad.out.sub z A cN (by omega);subst cH;have dg:(A:Int)≤(fc:Int):=(by have:=ad.out.tx.room;omega);have dh:(z:Int)≤(A:Int):=(by omega);have cW:(fc:Int)≤9223372036854775807:=(by have:=ad.out.tx.cap;omega);have df:z≤A:=(by omega);have CB:=a8 ((by
             have h:=kM (some ⟨b0,bc+z,none⟩) (fc-z) ((d.take A).drop z) E (by rw[aW];omega) bN;rw[aW] at h;exact h):Calls Tryz.prog 17 #[.slice (some ⟨b0,bc+z,none⟩) (A-z) (fc-z)] E fun e w'=>e= .returned (.slice (some ⟨E.heap.size,0,none⟩) (A-z) (A-z))∧dO w' E.heap.size (.slice (some ⟨E.heap.size,0,none⟩) (A-z) (A-z)) ((d.take A).drop z)∧Below E.heap.size E w')
            have aK:=a8 aW;have aP:=a8 ai;clear bN aW ai bO;go_wp2_with fail;refine CB.out.mono ?_;rintro e W2 ⟨rfl,cl,aV⟩;have bf:=a8 (show TxB W2 gs (.slice (some ⟨g,0,none⟩) s.mails.length N) (some ⟨E.heap.size,0,none⟩) (A-z) ((d.take A).drop z) from by
             have h:=ad.out.newB (wr':=W2) (e:=(d.take A).drop z) (by rw[aK.out];exact cl) (by rw[aK.out];omega);rw[aK.out] at h;exact h)
            have aQ:=a8 (ad.out.below aV);have bJ:=a8 (aY.out.below aV);have bI:=a8 (ak.out.below aV ak.out.lt);have cX:g<wr.heap.size:=Nat.lt_trans U.out.n3 U.out.bt.lt;clear cl aV ad aY ak n0 n1 t1 CB;have r4:W2.cell? ⟨g,j*11+4,none⟩=some (.slice none 0 0):=(by rw[aQ.out.row j V 4 (by omega),aL.out];rfl);have fz:=fun k=>aQ.out.fz k;have aA:=a8 (aQ.out.put j 4 V (by omega) (.slice (some ⟨E.heap.size,0,none⟩) (A-z) (A-z)) ⟨{xm0 M with entry:=(d.take A).drop z},none,0,some ⟨E.heap.size,0,none⟩,A-z⟩ (by rw[aL.out,←aK.out];rfl) (TxB.nil _ _ _) bf.out);have aH:=a8 (bJ.out.rset (k:=j*11+4) (.slice (some ⟨E.heap.size,0,none⟩) (A-z) (A-z)));have aG:=a8 (bf.out.rset (k:=j*11+4) (.slice (some ⟨E.heap.size,0,none⟩) (A-z) (A-z)));have aX:=a8 (bI.out.other (g':=g) (j:=j*11+4) (by omega) (.slice (some ⟨E.heap.size,0,none⟩) (A-z) (A-z)));clear aQ bJ bf bI;go_upto_region 19 with fail;clear r4 fz;generalize W2.setCell ⟨g,j*11+4,none⟩ (.slice (some ⟨E.heap.size,0,none⟩) (A-z) (A-z))=W3 at aA aH aG aX⊢;have ch:j<(fs.set j ⟨{xm0 M with entry:=(d.take A).drop z},none,0,some ⟨E.heap.size,0,none⟩,A-z⟩).length:=(by simpa using V);obtain⟨-,-,n2⟩:=aX.out.c3;have r3:W3.cell? ⟨g,j*11+3,none⟩=some (.slice none 0 0):=(by rw[aA.out.row j ch 3 (by omega),Nh];rfl);have fz:=fun k=>aA.out.fz k;have Y:=a8 (aA.out.reput 3 V (by omega) (.slice a G.length c) ⟨{xm0 M with entry:=(d.take A).drop z,body:=G},a,c,some ⟨E.heap.size,0,none⟩,A-z⟩ rfl aH.out aG.out);have aa:=a8 (aH.out.rset (k:=j*11+3) (.slice a G.length c));have aj:=a8 (aG.out.rset (k:=j*11+3) (.slice a G.length c));clear aA aH aG aX ch;go_upto_region 20 with fail;clear n2 r3 fz;generalize W3.setCell ⟨g,j*11+3,none⟩ (.slice a G.length c)=W4 at Y aa aj⊢;have bB:j<(fs.set j ⟨{xm0 M with entry:=(d.take A).drop z,body:=G},a,c,some ⟨E.heap.size,0,none⟩,A-z⟩).length:=(by simpa using V);have r7:W4.cell? ⟨g,j*11+7,none⟩=some (.int .i64 (M.bare:Int)):=(by rw[Y.out.row j bB 7 (by omega),Nh];rfl);have r3:W4.cell? ⟨g,j*11+3,none⟩=some (.slice a G.length c):=(by rw[Y.out.row j bB 3 (by omega),Nh];rfl);have fz:=fun k=>Y.out.fz k;clear bB
            go_upto_if 114 with fail
            go_cut [9] (fun p wx=>p= .pointer (some ⟨g,j*11,none⟩)∧∃b:List Nat,Hid (eS M (z,A,G)=some b)∧Hid (TxS gs B w.heap.size w1.heap.size Z w wx s g N (some ⟨b0,bc,none⟩) fc d (some ⟨ga,0,none⟩) lc vs l (fs.set j ⟨{xm0 M with entry:=(d.take A).drop z,body:=b},a,c,some ⟨E.heap.size,0,none⟩,A-z⟩))∧Hid (TxB wx gs (.slice (some ⟨g,0,none⟩) s.mails.length N) a c b)∧Hid (TxB wx gs (.slice (some ⟨g,0,none⟩) s.mails.length N) (some ⟨E.heap.size,0,none⟩) (A-z) ((d.take A).drop z)))
            case first=>
             by_cases aq:M.bare=1
             ·have cF:((M.bare:Int)==1)=true:=(by simp;omega);by_cases h0:G.length=0
              ·have cC:((G.length:Int)==0)=true:=(by simp;exact Nc.1 h0);have L:=a8 (an.out.trans (ax.out (by
                unfold eS;rw[if_pos aP.out,if_pos aq,if_neg];rw[Nc.1 h0];simp)))
               rw[h0] at r3;clear aq h0 cC;go_wp2;go_ret;exact⟨Y.out.xx,.inr ⟨L.out,rfl⟩⟩
              ·obtain⟨bb,bo,cE,cf⟩:=aa.out.row (by omega);obtain⟨n,hn⟩:∃n,G.length=n+1:=⟨G.length-1,by omega⟩
               have bQ:=a8 (xN bb bo c (n+1) G W4 hn (by omega) (fun i hi=>cf i hi));subst cE;have bg:=a8 (DP (b:=G) (by omega));have cz:=a8 hn;have cZ:(n:Int)≤(c:Int):=(by have:=aa.out.room;omega);have cV:(c:Int)≤9223372036854775807:=(by have:=aa.out.cap;omega);rw[hn] at r3;have bR:=a8 aq;clear cf hn h0 aq;go_wp2_with fail;refine bQ.out.mono ?_;rintro e w5 ⟨rfl,rfl⟩;generalize jH G=bz at bg⊢;cases bz with
               |true=>
                have L:=a8 (an.out.trans (ax.out (by
                 unfold eS;rw[if_pos aP.out,if_pos bR.out,if_neg];exact of_decide_eq_true bg.out.symm)))
                go_wp2;go_ret;exact⟨Y.out.xx,.inr ⟨L.out,rfl⟩⟩
               |false=>
                have aw:=a8 (show eS M (z,A,G)=some G.dropLast by
                 unfold eS;rw[if_pos aP.out,if_pos bR.out,if_pos];have:=of_decide_eq_false bg.out.symm;simpa using this)
                have cw:=a8 (show G.dropLast.length=n by rw[List.length_dropLast,cz.out];rfl);have ab:=a8 ((Y.out.below ((MJ w5.heap.size w5).drew)).reput 3 V (by omega) (.slice (some ⟨bb,bo,none⟩) n c) ⟨{xm0 M with entry:=(d.take A).drop z,body:=G.dropLast},some ⟨bb,bo,none⟩,c,some ⟨E.heap.size,0,none⟩,A-z⟩ (by rw[←cw.out];rfl) (aa.out.below ((MJ w5.heap.size w5).drew)).drop1 (aj.out.below ((MJ w5.heap.size w5).drew)));have au:=a8 (((aa.out.below ((MJ w5.heap.size w5).drew)).drop1).rset (k:=j*11+3) (.slice (some ⟨bb,bo,none⟩) n c));have ar:=a8 ((aj.out.below ((MJ w5.heap.size w5).drew)).rset (k:=j*11+3) (.slice (some ⟨bb,bo,none⟩) n c));clear Y aa aj bQ;go_upto_region 23 with fail;go_region
                all_goals
                 go_wp2_with fail;go_meet
                 case rel=>exact⟨rfl,G.dropLast,aw,ab,au,ar⟩
             ·have cF:((M.bare:Int)==1)=false:=(by simp;omega);have aw:=a8 (show eS M (z,A,G)=some G by unfold eS;rw[if_pos aP.out,if_neg aq]);clear aq;go_wp2_with fail;go_meet
              case rel=>exact⟨rfl,G,aw,Y,aa,aj⟩
            case rest=>
             obtain⟨rfl,b,aw,ab,au,ar⟩:=hcut;clear Y aa aj r3 r7 fz;have aE:j<(fs.set j ⟨{xm0 M with entry:=(d.take A).drop z,body:=b},a,c,some ⟨E.heap.size,0,none⟩,A-z⟩).length:=(by simpa using V);have r5:wc.cell? ⟨g,j*11+5,none⟩=some (.int .i64 (M.stamp:Int)):=(by rw[ab.out.row j aE 5 (by omega),Nh];rfl);have r1:wc.cell? ⟨g,j*11+1,none⟩=some (.int .i64 0):=(by rw[ab.out.row j aE 1 (by omega),Nh];rfl);have r6:wc.cell? ⟨g,j*11+6,none⟩=some (.int .u32 (M.flags:Int)):=(by rw[ab.out.row j aE 6 (by omega),Nh];rfl);have r2:wc.cell? ⟨g,j*11+2,none⟩=some (.int .u32 0):=(by rw[ab.out.row j aE 2 (by omega),Nh];rfl);have fz:=fun k=>ab.out.fz k;have bX:=a8 (ab.out.reput 1 V (by omega) (.int .i64 (M.stamp:Int)) ⟨{xm0 M with entry:=(d.take A).drop z,body:=b,stamp:=M.stamp},a,c,some ⟨E.heap.size,0,none⟩,A-z⟩ rfl au.out ar.out);have cp:=a8 (bX.out.reput 2 V (by omega) (.int .u32 (M.flags:Int)) ⟨{xm0 M with entry:=(d.take A).drop z,body:=b,stamp:=M.stamp,flags:=M.flags},a,c,some ⟨E.heap.size,0,none⟩,A-z⟩ rfl (au.out.rset _) (ar.out.rset _));have bS:=a8 (be.out _ _ b rfl aw.out (show(⟨{xm0 M with entry:=(d.take A).drop z,body:=b,stamp:=M.stamp,flags:=M.flags},a,c,some ⟨E.heap.size,0,none⟩,A-z⟩:FM).x=CY d M (z,A,G) b from rfl));clear ab au ar bX aE;go_wp2;go_roundw
             case rel=>exact⟨j+1,_,by omega,by go_num,cp,a8 bS.out.1,a8 bS.out.2⟩
             case measure=>simp[intOf];omega
           ·have bO:((A:Int)-(z:Int) !=(M.size:Int))=true:=(by simp;omega);have L:=a8 (an.out.trans (ax.out (by unfold eS;rw[if_neg ai])));go_quiet(fail);have cd:=a8 (ac.out.below (below_drewN (MJ W.heap.size W) nq)).xx;clear ac al R n0 n1 r8;generalize W.drewN nq=E at cd⊢;go_wp2;go_ret;exact⟨cd.out,.inr ⟨L.out,rfl⟩⟩
          ·obtain rfl:j=s.mails.length:=(by omega);have L:=a8 (show eZ s.mails (true,d)=some (fs.map FM.x) by
            rw[an.out];have cK:=U.out.len;refine rR ci.symm (by simp[cK]) (fun i I h2 Q=> ?_);obtain⟨b,g1,g2⟩:=HD.out i I h2 (by simpa using Q) I;exact⟨b,g1,by simpa using g2⟩)
           go_wp2;go_ret;exact⟨U.out.xx,.inl ⟨fs,_,L.out,rfl,U.out.st,U.out.ful⟩⟩
       ·have ct:((l.length:Int) !=(s.mails.length:Int))=true:=(by simp;omega);have L:=a8 (an.out.trans (rS (fun e=>ci e.symm)));go_upto_region 9 with fail;go_quiet(fail);go_wp2;go_ret;exact⟨aS.out.trans (dV.of_below (below_drewN (MJ _ _) _) aC),.inr ⟨L.out,rfl⟩⟩
theorem zj{m:FM}:∀{fs:List FM},(iP ie m fs).map (List.map FM.x)=iP XM.uid m.x (fs.map FM.x)
 |[]=>rfl
 |x::r=>by
  have E:=zj (m:=m) (fs:=r);simp only[M0];unfold iP;by_cases z:ie x=ie m
  ·rw[if_pos z,if_pos (show x.x.uid=m.x.uid from z)];rfl
  ·rw[if_neg z,if_neg (show¬x.x.uid=m.x.uid from z)];by_cases A:ie m<ie x
   ·rw[if_pos A,if_pos (show m.x.uid<x.x.uid from A)];rfl
   ·rw[if_neg A,if_neg (show¬m.x.uid<x.x.uid from A),←E];cases iP ie m r<;>rfl
theorem rP{n:Nat}:∀{xs:List (List UInt8)} {last:Nat} {ds r:List Nat},fh n xs last ds=some r→r.length≤ds.length+xs.length
 |[],_,ds,r,h=>by simp only[fh,MK] at h;subst h;simp
 |x::xs,last,ds,r,h=>by
  unfold fh at h;cases hn:dS x (last+1) (n-1) with
  |none=>rw[hn] at h;cases h
  |some u=>
   rw[hn] at h;have:=rP (ds:=ds++[u]) h;simp at this⊢;omega
theorem CQ{first:Bool}{ws:List (List UInt8)}{s s':UX}(h:dY first ws s=some s')(G:first=false→1≤s.next∧s.next≤4294967295):s'.dead.length≤s.dead.length+ws.length∧1≤s'.next∧s'.next≤4294967295:=by
 unfold dY at h;cases first with
 |true=>
  rw[if_pos rfl] at h;unfold jT at h;split at h
  ·next a b c=>
   by_cases z:a=[86]
   ·rw[if_pos z] at h;cases h1:dS b 1 fY with
    |none=>rw[h1] at h;cases h
    |some v=>
     cases h2:dS c 1 fY with
     |none=>rw[h1,h2] at h;cases h
     |some n=>
      rw[h1,h2] at h;simp only[MK] at h;subst h;have:=ef h2;exact⟨by simp,this.1,this.2⟩
   ·rw[if_neg z] at h;cases h
  ·cases h
 |false=>
  rw[if_neg (by simp)] at h;unfold nX at h;split at h
  ·next a b x xs=>
   by_cases z:a=[88]
   ·rw[if_pos z] at h;cases h1:dS b s.next fY with
    |none=>rw[h1] at h;cases h
    |some n=>
     rw[h1] at h;simp only at h;cases h2:fh n (x::xs) 0 s.dead with
     |none=>rw[h2] at h;cases h
     |some ds=>
      rw[h2] at h;simp only[MK] at h;subst h;have A:=ef h1;have E:=rP h2;have I:=G rfl;refine⟨by simp at E⊢;omega,by simp only;omega,A.2⟩
   ·rw[if_neg z] at h;cases h
  ·cases h
structure lG(s:IX):Prop where
 len:s.mails.length≤100
 size:∀m∈s.mails,m.size≤40000
 rise:(s.mails.map (·.uid)).Pairwise (·<·)
 bare:∀m∈s.mails,m.bare≤1
 stamp:∀m∈s.mails,m.stamp≤1000000000000
 flags:∀m∈s.mails,m.flags≤2147483647
 uid:∀m∈s.mails,1≤m.uid∧m.uid≤4294967294
 gen:s.gen≤99999
theorem om{first:Bool}{ws:List (List UInt8)}{s s':IX}(h:dU first ws s=some s')(A:lG s):lG s':=by
 unfold dU at h;cases first with
 |true=>
  rw[if_pos rfl] at h;unfold jP at h;split at h
  ·next a b c d=>
   by_cases Q:a=[86]
   ·rw[if_pos Q] at h;cases h1:dS b 1 fY with
    |none=>rw[h1] at h;cases h
    |some v=>
     cases h2:dS c 1 fY with
     |none=>rw[h1,h2] at h;cases h
     |some n=>
      cases h3:dS d 0 99999 with
      |none=>rw[h1,h2,h3] at h;cases h
      |some g=>
       rw[h1,h2,h3] at h;simp only[MK] at h;subst h;exact⟨A.len,A.size,A.rise,A.bare,A.stamp,A.flags,A.uid,(ef h3).2⟩
   ·rw[if_neg Q] at h;cases h
  ·cases h
 |false=>
  rw[if_neg (by simp)] at h;unfold me at h;split at h
  ·unfold ol at h;split at h
   ·next _ b c _=>
    cases h1:dS b 1 fY with
    |none=>rw[h1] at h;cases h
    |some u=>
     cases h2:dS c 0 2147483647 with
     |none=>rw[h1,h2] at h;cases h
     |some f=>
      rw[h1,h2] at h;simp only at h;cases h3:ja s.mails u with
      |none=>rw[h3] at h;cases h
      |some i=>
       rw[h3] at h;simp only[MK] at h;subst h;have I:∀m∈s.mails.modify i (fun m=>{m with flags:=f}),∃J∈s.mails,m=J∨m={J with flags:=f}:=by
        intro m E;obtain⟨k,U,rfl⟩:=ND.1 E;have M:k<s.mails.length:=(by simpa using U);rw[List.getElem_modify];split
        ·exact⟨_,MO M,Or.inr rfl⟩
        ·exact⟨_,MO M,Or.inl rfl⟩
       have Z:(s.mails.modify i (fun m=>{m with flags:=f})).map (·.uid)=s.mails.map (·.uid):=by
        apply List.ext_getElem
        ·simp
        ·intro k k1 k2;rw[MY,MY,List.getElem_modify];split<;>rfl
       refine⟨by simpa using A.len,?_,by rw[Z];exact A.rise,?_,?_,?_,?_,A.gen⟩
       ·intro m E;obtain⟨J,G,rfl|rfl⟩:=I m E
        ·exact A.size _ G
        ·exact A.size J G
       ·intro m E;obtain⟨J,G,rfl|rfl⟩:=I m E
        ·exact A.bare _ G
        ·exact A.bare J G
       ·intro m E;obtain⟨J,G,rfl|rfl⟩:=I m E
        ·exact A.stamp _ G
        ·exact A.stamp J G
       ·intro m E;obtain⟨J,G,rfl|rfl⟩:=I m E
        ·exact A.flags _ G
        ·exact(ef h2).2
       ·intro m E;obtain⟨J,G,rfl|rfl⟩:=I m E
        ·exact A.uid _ G
        ·exact A.uid J G
   ·cases h
  ·split at h
   ·next hc=>
    unfold it at h;split at h
    ·next _ b c d e f _=>
     cases h1:dS b 1 (fY-1) with
     |none=>rw[h1] at h;cases h
     |some u=>
      cases h2:dS c 0 1000000000000 with
      |none=>rw[h1,h2] at h;cases h
      |some t=>
       cases h3:dS d 0 2147483647 with
       |none=>rw[h1,h2,h3] at h;cases h
       |some fl=>
        cases h4:dS e 0 40000 with
        |none=>rw[h1,h2,h3,h4] at h;cases h
        |some n=>
         cases h5:dS f 0 1 with
         |none=>rw[h1,h2,h3,h4,h5] at h;cases h
         |some br=>
          rw[h1,h2,h3,h4,h5] at h;simp only at h;by_cases L:kz s.mails u=true
          ·rw[if_pos L] at h;simp only[MK] at h;subst h;have I:∀(p:IM→Prop),(∀m∈s.mails,p m)→p ⟨u,t,fl,n,br⟩→∀m∈s.mails++[⟨u,t,fl,n,br⟩],p m:=by
            intro p V Y m E;rcases Nb.1 E with E|E
            ·exact V m E
            ·rw[M9] at E;subst E;exact Y
           have b1:=ef h1;refine⟨by simp;omega,I _ A.size (ef h4).2,?_,I _ A.bare (ef h5).2,I _ A.stamp (ef h2).2,I _ A.flags (ef h3).2,I _ A.uid ⟨b1.1,b1.2⟩,A.gen⟩;rw[MS,List.pairwise_append];refine⟨A.rise,List.pairwise_singleton _ _,?_⟩;intro x K y R;simp only[M0,Ns,M9] at R;subst R;unfold kz at L;cases hg:s.mails.getLast? with
           |none=>
            rw[List.getLast?_eq_none_iff] at hg;rw[hg] at K;cases K
           |some z=>
            rw[hg] at L;simp only[decide_eq_true_eq] at L;obtain⟨aa,N⟩:=List.getLast?_eq_some_iff.1 hg;have O:=A.rise;rw[N,MS,List.pairwise_append] at O;rw[N,MS] at K;rcases Nb.1 K with K|K
            ·have:=O.2.2 x K z.uid (by simp);omega
            ·simp only[M0,Ns,M9] at K;omega
          ·rw[if_neg L] at h;cases h
    ·cases h
   ·cases h
theorem GU:lG ⟨0,0,0,[]⟩:=⟨by simp,by simp,List.Pairwise.nil,by simp,by simp,by simp,by simp,by simp⟩
theorem Fu{z:List (List Nat)}{s s':UX}(h:j<z.length)(e:dY first (gH z[j]) s=some s'):tJ first (z.drop j) s=tJ false (z.drop (j+1)) s':=by
 rw[fw z j h,tJ,e]
theorem Kq{z:List (List Nat)}{s:UX}(h:j<z.length)(e:dY first (gH z[j]) s=none):tJ first (z.drop j) s=none:=by
 rw[fw z j h,tJ,e]
theorem Ev{z:List (List Nat)}{s s':IX}(h:j<z.length)(e:dU first (gH z[j]) s=some s'):oT first (z.drop j) s=oT false (z.drop (j+1)) s':=by
 rw[fw z j h,oT,e]
theorem Jv{z:List (List Nat)}{s:IX}(h:j<z.length)(e:dU first (gH z[j]) s=none):oT first (z.drop j) s=none:=by
 rw[fw z j h,oT,e]
theorem Fm(z:List (List Nat))(j:Nat)(h:j<z.length):lj (z.take (j+1))=lj (z.take j)+z[j].length:=by
 rw[gF z j h,mR];simp[lj]
theorem DC(z:List (List Nat)):∀j,j≤z.length→lj (z.take j)≤lj z:=fun j _=>by
 have h:=mR (z.take j) (z.drop j);rw[Nk] at h;omega
structure TxR(w:World)(a:Option Addr)(c:Nat)(d:List Nat):Prop where
 row:dW w a d
 room:d.length≤c
 cap:c≤9223372036854775807
 spot:∀p,a=some p→p.spot=none
theorem TxL.r(h:TxL w z a c d):TxR w a c d:=⟨h.row,h.room,h.cap,fun p A=>(h.ap p A).1⟩
theorem TxR.below(h:TxR w a c d)(z:Below w.heap.size w w'):TxR w' a c d:=⟨h.row.below z,h.room,h.cap,h.spot⟩
def RdV(w:World)(base:Nat)(s:SX)(v:Value):Prop:=∃(ma:Option Addr) (mn mc:Nat) (da:Option Addr) (dn dc:Nat) (fs:List FM),v= .agg #[.int .i64 s.code,.int .i64 s.kind,.int .u32 (s.val:Int),.int .u32 (s.next:Int),.int .u32 (s.cur:Int),.int .i64 (s.gen:Int),.int .i64 (s.taken:Int),.slice ma mn mc,.slice da dn dc]∧fs.map FM.x=s.mails∧b9 w base 54 11 (.slice ma mn mc) (fs.map mlF)∧(∀m∈fs,TxR w m.ba m.bc m.x.body∧TxR w m.ea m.ec m.x.entry)∧jY w base (.slice da dn dc) s.dead
theorem RdV.mono{s:SX}{v:Value}(h:RdV w z s v)(A:base'≤z):RdV w base' s v:=by
 obtain⟨O,R,Q,E,I,G,fs,J,K,L,M,N⟩:=h;exact⟨O,R,Q,E,I,G,fs,J,K,b9.mono L A,M,b9.mono N A⟩
theorem gU(w:World)(z:Nat)(c:Int):RdV w z (f8 c) (.agg #[.int .i64 c,.int .i64 0,.int .u32 0,.int .u32 0,.int .u32 0,.int .i64 0,.int .i64 0,.slice none 0 0,.slice none 0 0]):=
 ⟨none,0,0,none,0,0,[],rfl,rfl,b9.nil _ _ _ _,(fun m A=>by cases A),b9.nil _ _ _ _⟩
def A0(s:SX)(w:World)(e:Ending)(w':World):Prop:=∃v,e= .returned v∧RdV w' w.heap.size s v∧Below w.heap.size w w'
abbrev zst(c k:Int):Array Value:= #[.int .i64 c,.int .i64 k,.int .u32 0,.int .u32 0,.int .u32 0,.int .i64 0,.int .i64 0,.slice none 0 0,.slice none 0 0]
theorem LN(w:World)(A B C E:Array Value)(z G I J:TypeId):
  Blk ((((w.alloc (.cells A z)).alloc (.cells B G)).alloc (.cells C I)).alloc (.cells E J)) w.heap.size A z∧Blk ((((w.alloc (.cells A z)).alloc (.cells B G)).alloc (.cells C I)).alloc (.cells E J)) (w.heap.size+1) B G∧Blk ((((w.alloc (.cells A z)).alloc (.cells B G)).alloc (.cells C I)).alloc (.cells E J)) (w.heap.size+2) C I∧Blk ((((w.alloc (.cells A z)).alloc (.cells B G)).alloc (.cells C I)).alloc (.cells E J)) (w.heap.size+3) E J∧Below w.heap.size w ((((w.alloc (.cells A z)).alloc (.cells B G)).alloc (.cells C I)).alloc (.cells E J))∧((((w.alloc (.cells A z)).alloc (.cells B G)).alloc (.cells C I)).alloc (.cells E J)).heap.size=w.heap.size+4:=by
 obtain⟨K,L,M,R⟩:=nE w A B z G;generalize (w.alloc (.cells A z)).alloc (.cells B G)=W at K L M R;obtain⟨O,Q,N,U⟩:=nE W C E I J;rw[R] at O Q;exact⟨K.below N K.lt,L.below N L.lt,O,Q,M.trans (N.mono M.size),by omega⟩
abbrev vK(W:World)(g:Nat)(v0 v1 v2 v3 v4 v5 v6 v7 v8:Value):World:=(((((((((W.setCell ⟨g,0,none⟩ v0).setCell ⟨g,1,none⟩ v1).setCell ⟨g,2,none⟩ v2).setCell ⟨g,3,none⟩ v3).setCell ⟨g,4,none⟩ v4).setCell ⟨g,5,none⟩ v5).setCell ⟨g,6,none⟩ v6).setCell ⟨g,7,none⟩ v7).setCell ⟨g,8,none⟩ v8)
theorem lE{z A v7 v8:Value}(h:Blk W g #[z,A,E,G,I,J,K,L,M] t):Blk (vK W g v0 v1 v2 v3 v4 v5 v6 v7 v8) g #[v0,v1,v2,v3,v4,v5,v6,v7,v8] t:=by
 have:=(((((((((h.set 0 v0).set 1 v1).set 2 v2).set 3 v3).set 4 v4).set 5 v5).set 6 v6).set 7 v7).set 8 v8)
 simpa using this
theorem eB{v7 v8:Value}(h:Below w.heap.size w W)(z:w.heap.size≤g):Below w.heap.size w (vK W g v0 v1 v2 v3 v4 v5 v6 v7 v8):=
 ((((((((h.setCell (p:=⟨g,0,none⟩) z v0).setCell (p:=⟨g,1,none⟩) z v1).setCell (p:=⟨g,2,none⟩) z v2).setCell (p:=⟨g,3,none⟩) z v3).setCell (p:=⟨g,4,none⟩) z v4).setCell (p:=⟨g,5,none⟩) z v5).setCell (p:=⟨g,6,none⟩) z v6).setCell (p:=⟨g,7,none⟩) z v7).setCell (p:=⟨g,8,none⟩) z v8
theorem iQ{b:Nat}{v7 v8:Value}(z:b≠g):(vK W g v0 v1 v2 v3 v4 v5 v6 v7 v8).heap[b]? =W.heap[b]? :=by
 unfold vK;iterate 9 rw[heap_setCell_other _ _ b _ (by simpa using z)]
theorem eI{fn:Func}{p:Tmp}(B:Nat)(W:World)(v0 v1 v2 v3 v4 v5 v6 v7 v8:Value)(A:fn.results= #[.cell p 50])(E:tmps.getD p undef= .pointer (some ⟨B,0,none⟩))(z:Blk W B #[v0,v1,v2,v3,v4,v5,v6,v7,v8] 50):
  (results fn tmps).run Tryz.prog W= .ok (.agg #[v0,v1,v2,v3,v4,v5,v6,v7,v8]) W:=results_cell_row (P:=Tryz.prog) A _ _ B _ _ _ _ E z Tryz.underlying50 rfl (by kernel_rfl)
def il0(m:IM):List Value:=[.int .u32 (m.uid:Int),.int .i64 (m.stamp:Int),.int .u32 (m.flags:Int),.slice none 0 0,.int .i64 (m.size:Int),.bool (decide (m.bare=1))]
abbrev mr(w:World)(base:Nat)(v:Value)(ms:List IM):Prop:=b9 w base 262 6 v (ms.map il0)
theorem pS{E:Nat}{ms:List IM}(h:mr w E (.slice (some ⟨g,0,none⟩) n cap) ms)(i:Nat)(z:i<ms.length)(j:Nat)(A:j<6):w.cell? ⟨g,i*6+j,none⟩=(il0 ms[i])[j]? :=by
 have G:((ms.map il0)[i]'(by simpa using z)).length=6:=(by rw[MY];rfl);rw[h.cell i j (by simpa using z) (by rw[G];exact A),MM (by show j<6;exact A)];congr 1;simp
def cmN(x y:Nat):Int:=if x<y then-1 else if y<x then 1 else 0
theorem K5(x y:Nat):cmN x y<0↔x<y:=by
 unfold cmN;split
 ·simp[*]
 ·split<;>simp<;>omega
theorem FT(x y:Nat):cmN x y=0↔x=y:=by
 unfold cmN;split
 ·simp;omega
 ·split
  ·simp;omega
  ·simp;omega
theorem Ad(x:Nat)(v1:Int)(v2:Int)(z:Option Addr)(E A:Nat)(v4:Int)(v5:Bool)(u:Nat)(w:World):Calls Tryz.prog 180 #[.agg #[.int .u32 (x:Int),.int .i64 v1,.int .u32 v2,.slice z E A,.int .i64 v4,.bool v5],.int .u32 (u:Int)] w fun e w'=>e= .returned (.int .i64 (cmN x u))∧Below w.heap.size w w':=by
 have G:=a8 (nAl w (.cells #[.int .u32 (x:Int),.int .i64 v1,.int .u32 v2,.slice z E A,.int .i64 v4,.bool v5] 262));have I:=a8 (fun W=>yz x u W);unfold cmN;generalize J:(if x<u then-1 else if u<x then 1 else 0:Int)=q at I;clear J;go_enter Tryz.func180,Tryz.ntmps180;go_wp2_with fail;generalize w.alloc (.cells #[.int .u32 (x:Int),.int .i64 v1,.int .u32 v2,.slice z E A,.int .i64 v4,.bool v5] 262)=K at G⊢;refine(I.out K).mono ?_;rintro e L ⟨rfl,rfl⟩;go_wp2;go_ret;exact⟨rfl,G.out⟩
def Fy(ms:List IM)(u:Nat)(e:Ending):Prop:=∃(i:Nat) (f:Bool),e= .returned (.tuple #[.int .i64 (i:Int),.bool f])∧(f=true→ja ms u=some i)∧(f=false→ja ms u=none)
theorem xH{ms:List IM}(h:(ms.map (·.uid)).Pairwise (·<·))(A:i<ms.length)(E:j<ms.length)(z:i<j):ms[i].uid<ms[j].uid:=by
 have:=M8.1 h i j (by simpa using A) (by simpa using E) z;simpa using this
theorem Jc(ap:Nat)(a:Option Addr)(cap:Nat)(ms:List IM)(u:Nat)(w:World)(hn:ms.length≤1048576)(hr:mr w ap (.slice a ms.length cap) ms)(ao:(ms.map (·.uid)).Pairwise (·<·)):
  Calls Tryz.prog 179 #[.slice a ms.length cap,.int .u32 (u:Int),.func (.func 180) #[] #[]] w fun e w'=>Fy ms u e∧Below w.heap.size w w':=by
 have ac:=a8 ao;have M:=a8 hr;clear ao hr;go_enter Tryz.func179,Tryz.ntmps179;go_wp2;go_loopw [9,10,11] (fun i j _ wr=>∃(p q:Nat),p≤q∧q≤ms.length∧i= .int .i64 (p:Int)∧j= .int .i64 (q:Int)∧Hid (∀k (h:k<ms.length),k<p→ms[k].uid<u)∧Hid (∀k (h:k<ms.length),q≤k→¬ms[k].uid<u)∧Hid (Below w.heap.size w wr)) (fun i j _ _=>(intOf j).toNat-(intOf i).toNat)
 case atStart=>exact⟨0,ms.length,MQ _,MH _,rfl,rfl,a8 (fun k _ h=>by omega),a8 (fun k h h'=>by omega),a8 (MJ _ _)⟩
 case round=>
  obtain⟨p,q,aA,hq,rfl,rfl,ab,aj,J⟩:=hrel;by_cases aw:p<q
  ·have an:(p:Int)<(q:Int):=(by omega);obtain⟨m,hm⟩:∃m,m=(p+q)/2:=⟨_,rfl⟩
   have ax:p≤m∧m<q:=(by omega);have ay:((p:Int)+(q:Int))/2=(m:Int):=(by omega);clear hm;have ae:m<ms.length:=(by omega);obtain⟨g,ad,_,_⟩:=M.out.at0 (by rw[MI];omega);subst ad;have z:=fun k E=>pS (M.out.below J.out (MH _)) m ae k E;have az:(m:Int)<(ms.length:Int):=(by omega);have ak:=a8 (show ms[m].uid<u→∀k (h:k<ms.length),k<m+1→ms[k].uid<u from fun h k E ar=>by
    by_cases e:k=m
    ·subst e;exact h
    ·have:=xH ac.out E ae (by omega);omega)
   have ai:=a8 (show¬ms[m].uid<u→∀k (h:k<ms.length),m≤k→¬ms[k].uid<u from fun h k E ar=>by
    by_cases e:k=m
    ·subst e;exact h
    ·have:=xH ac.out ae E (by omega);omega)
   generalize ms[m]=X at z ak ai;have Q:wr.cell? ⟨g,m*6,none⟩=some (.int .u32 (X.uid:Int)):=z 0 (by omega);have R:wr.cell? ⟨g,m*6+1,none⟩=some (.int .i64 (X.stamp:Int)):=z 1 (by omega);have U:wr.cell? ⟨g,m*6+2,none⟩=some (.int .u32 (X.flags:Int)):=z 2 (by omega);have V:wr.cell? ⟨g,m*6+3,none⟩=some (.slice none 0 0):=z 3 (by omega);have Y:wr.cell? ⟨g,m*6+4,none⟩=some (.int .i64 (X.size:Int)):=z 4 (by omega);have K:wr.cell? ⟨g,m*6+5,none⟩=some (.bool (decide (X.bare=1))):=z 5 (by omega);have A:=a8 (Ad X.uid X.stamp X.flags none 0 0 X.size (decide (X.bare=1)) u wr);have Z:=a8 (K5 X.uid u);generalize cmN X.uid u=N at A Z;generalize decide (X.bare=1)=bz at K A;clear z;go_wp2_with fail;refine A.out.mono ?_;rintro e w2 ⟨rfl,G⟩;have I:=bTr J G;clear G Q R U V Y K A;by_cases am:N<0
   ·have HN:=a8 (ak.out (Z.out.1 am));go_wp2;go_roundw
    case rel=>exact⟨m+1,q,by omega,hq,by go_num,rfl,HN,aj,I⟩
    case measure=>simp[intOf];omega
   ·have HN:=a8 (ai.out (fun h=>am (Z.out.2 h)));go_wp2;go_roundw
    case rel=>exact⟨p,m,by omega,by omega,rfl,by go_num,ab,HN,I⟩
    case measure=>simp[intOf];omega
  ·obtain rfl:p=q:=(by omega);have ag:=a8 (show(∀h:p<ms.length,ms[p].uid≠u)→ja ms u=none from fun au=>sW (fun k E e=>by
    rcases Nat.lt_trichotomy k p with h|h|h
    ·have:=ab.out k E h;omega
    ·subst h;exact au E e
    ·have hp:p<ms.length:=(by omega);have h1:=xH ac.out hp E h;have h2:=aj.out p hp (MH _);omega))
   by_cases af:p<ms.length
   ·have an:(p:Int)<(ms.length:Int):=(by omega);obtain⟨g,ad,_,_⟩:=M.out.at0 (by rw[MI];omega);subst ad;have z:=fun k E=>pS (M.out.below J.out (MH _)) p af k E;have ah:=a8 (show ms[p].uid=u→ja ms u=some p from fun e=>sX (fun i hi aq e2=>by have:=ab.out i hi aq;omega) af e);have al:=a8 (show ms[p].uid≠u→ja ms u=none from fun e=>ag.out (fun _=>e));generalize ms[p]=X at z ah al;have Q:wr.cell? ⟨g,p*6,none⟩=some (.int .u32 (X.uid:Int)):=z 0 (by omega);have R:wr.cell? ⟨g,p*6+1,none⟩=some (.int .i64 (X.stamp:Int)):=z 1 (by omega);have U:wr.cell? ⟨g,p*6+2,none⟩=some (.int .u32 (X.flags:Int)):=z 2 (by omega);have V:wr.cell? ⟨g,p*6+3,none⟩=some (.slice none 0 0):=z 3 (by omega);have Y:wr.cell? ⟨g,p*6+4,none⟩=some (.int .i64 (X.size:Int)):=z 4 (by omega);have K:wr.cell? ⟨g,p*6+5,none⟩=some (.bool (decide (X.bare=1))):=z 5 (by omega);have A:=a8 (Ad X.uid X.stamp X.flags none 0 0 X.size (decide (X.bare=1)) u wr);have aa:=a8 (FT X.uid u);generalize cmN X.uid u=N at A aa;generalize decide (X.bare=1)=bz at K A;clear z;by_cases O:N=0
    ·have L:=a8 (ah.out (aa.out.1 O));subst O;go_wp2_with fail;refine A.out.mono ?_;rintro e w2 ⟨rfl,G⟩;have I:=bTr J G;clear G Q R U V Y K A;go_wp2;go_ret2;exact⟨⟨p,true,rfl,fun _=>L.out,fun h=>by cases h⟩,I.out⟩
    ·have L:=a8 (al.out (fun h=>O (aa.out.2 h)));have av:(N==0)=false:=(by simpa using O);go_wp2_with fail;refine A.out.mono ?_;rintro e w2 ⟨rfl,G⟩;have I:=bTr J G;clear G Q R U V Y K A;go_wp2;go_ret2;exact⟨⟨p,false,rfl,(fun h=>by cases h),fun _=>L.out⟩,I.out⟩
   ·have an:¬(p:Int)<(ms.length:Int):=(by omega);have L:=a8 (ag.out (fun h=>absurd h af));go_wp2;go_ret2;exact⟨⟨p,false,rfl,(fun h=>by cases h),fun _=>L.out⟩,J.out⟩
def mbA(s:IX)(mv:Value):Array Value:= #[.int .u32 (s.val:Int),.int .u32 (s.next:Int),.int .u64 (s.gen:Int),.string ⟨#[]⟩,.slice none 0 0,.int .i64 0,.string ⟨#[]⟩,.slice none 0 0,.int .i64 0,mv]
abbrev MbI(w:World)(g:Nat)(s:IX)(mv:Value):Prop:=Blk w g (mbA s mv) 216
structure RdI(gm gw B:Nat)(w wr:World)(s:IX)(mv:Value)(ws:List ByteArray):Prop where
 st:MbI wr gm s mv
 row:mr wr B mv s.mails
 tw:TW wr gw ws
 fr:dV gm B w wr
 sz:B≤wr.heap.size
 n1:gm<B
 n2:B≤gw
section
variable {gm gw B:Nat} {w wr wr':World} {s:IX} {mv:Value} {ws:List ByteArray}
theorem eM{w:World}{G e k g:Nat}{v:Value}{J:List (List Value)}{A:Array Value}{t:TypeId}(h:b9 w G e k v J)(z:Blk w g A t)(I:e≠t):v.ownBlock≠some g:=by
 intro E;rcases h.2.2 with⟨rfl,_⟩|⟨N,M,L,rfl,_,K,_⟩
 ·cases E
 ·simp only[Value.ownBlock,MK] at E;subst E;unfold Blk at z;rw[K] at z;simp only[MK,Obj.cells.injEq] at z;exact I z.2.1
theorem RdI.below(h:RdI gm gw B w wr s mv ws)(z:Below wr.heap.size wr wr'):RdI gm gw B w wr' s mv ws:=
 ⟨h.st.below z h.st.lt,b9.below h.row z (MH _),h.tw.below z,h.fr.trans (dV.of_below z h.sz),MN h.sz z.size,h.n1,h.n2⟩
theorem RdI.word{r:List ByteArray}(h:RdI gm gw B w wr s mv ws)(z:kC gw wr wr')(I:TW wr' gw r):RdI gm gw B w wr' s mv r:=by
 have G:gm≠gw:=(by have:=h.n1;have:=h.n2;omega);obtain⟨gr,K,c,J,E,_⟩:=h.tw;refine⟨h.st.keepB (z.block gm h.st.lt G),b9.keep h.row (fun g A=>z.block g (b9.lt h.row g A).2 (fun e=> ?_)),I,h.fr.trans ⟨z.os,z.tape,z.output,z.size,fun k L M=>z.block k (by have:=h.sz;omega) (by have:=h.n2;omega)⟩,MN h.sz z.size,h.n1,h.n2⟩;subst e;exact eM h.row E (by decide) A
theorem RdI.put(h:RdI gm gw B w wr s mv ws)(j:Nat)(u:Value)(s':IX)(I:s'.mails=s.mails)(G:(mbA s mv).setIfInBounds j u=mbA s' mv):RdI gm gw B w (wr.setCell ⟨gm,j,none⟩ u) s' mv ws:=by
 have z:∀g,B≤g→g≠gm:=fun g z e=>(by have:=h.n1;omega);refine⟨?_,?_,?_,h.fr.set u,by simpa using h.sz,h.n1,h.n2⟩
 ·have:=h.st.set j u;rw[G] at this;exact this
 ·rw[I];exact b9.keep h.row (fun g A=>heap_setCell_other wr ⟨gm,j,none⟩ g u (by have:=z g (b9.lt h.row g A).1;simpa using this))
 ·exact h.tw.keep (fun g K t E J=>heap_setCell_other wr ⟨gm,j,none⟩ g u (by
   have:g≠gm:=kY E h.st (by rcases J with rfl|rfl<;>decide);simpa using this))
theorem RdI.env(h:RdI gm gw B w wr s mv ws)(A:∀w',dV gm B w w'→Env w'):∀w',kC gw wr w'→Env w':=fun w' z=>A w' (h.fr.trans ⟨z.os,z.tape,z.output,z.size,fun k E G=>z.block k (by have:=h.sz;omega) (by have:=h.n2;omega)⟩)
end
def KD(gm B:Nat)(w0 w':World):Prop:=dV gm B w0 w'∧∃s mv,MbI w' gm s mv
theorem RdI.bad{z E B:Nat}{w wr:World}{s:IX}{A:Value}{ws:List ByteArray}(h:RdI z E B w wr s A ws):KD z B w wr:=⟨h.fr,s,A,h.st⟩
theorem nU{A E B:Nat}{w wr w':World}{s:IX}{G:Value}{ws:List ByteArray}(h:RdI A E B w wr s G ws)(z:kC E wr w'):KD A B w w':=
 ⟨h.fr.trans ⟨z.os,z.tape,z.output,z.size,fun k I J=>z.block k (by have:=h.sz;omega) (by have:=h.n2;omega)⟩,s,G,h.st.keepB (z.block A h.st.lt (by have:=h.n1;have:=h.n2;omega))⟩
def wh(gm gw B:Nat)(w0:World)(o:Option IX)(e:Ending)(w':World):Prop:=(∃s' mv' r,e= .returned (.tuple #[])∧RdI gm gw B w0 w' s' mv' r∧o=if r=[] then some s' else none)∨(mp e∧o=none∧KD gm B w0 w')
theorem Aa(z:Nat)(s:IX)(I:Value)(u:Nat)(w:World)(h:MbI w z s I)(M:u≤4294967294):Calls Tryz.prog 155 #[.pointer (some ⟨z,0,none⟩),.int .u32 (u:Int)] w fun e w'=>e= .returned (.tuple #[])∧w'=w.setCell ⟨z,1,none⟩ (.int .u32 ((if s.next≤u then u+1 else s.next:Nat):Int)):=by
 obtain⟨-,K⟩:=h.c2;have L:=fun j=>h.fz j;have J:(u:Int)≤4294967294:=(by omega);by_cases A:s.next≤u
 ·have E:(s.next:Int)≤(u:Int)+1:=(by omega);have G:max (s.next:Int) ((u:Int)+1)=(u:Int)+1:=(by omega);rw[if_pos A];clear A h;go_enter Tryz.func155,Tryz.ntmps155;go_wp2
  go_end0
  exact⟨rfl,rfl⟩
 ·have E:(u:Int)+1≤(s.next:Int):=(by omega);have G:max (s.next:Int) ((u:Int)+1)=(s.next:Int):=(by omega);rw[if_neg A];clear A h;go_enter Tryz.func155,Tryz.ntmps155;go_wp2
  go_end0
  exact⟨rfl,rfl⟩
end Go.Proofs.YtpdbolihakojcaaGreatDoor
