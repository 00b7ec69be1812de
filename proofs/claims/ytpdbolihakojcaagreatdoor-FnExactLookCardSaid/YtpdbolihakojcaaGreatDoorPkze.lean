import Derived.Test.YtpdbolihakojcaaGreatDoorPkzc
import Derived.Test.YtpdbolihakojcaaGreatDoorPkzb
namespace Go.Proofs.YtpdbolihakojcaaGreatDoor
set_option maxRecDepth 20000
set_option linter.unusedVariables false
set_option linter.unusedSimpArgs false
set_option maxHeartbeats 4000000
open Go.RowKit
variable {W Y w w' w0 wr : World} {b : List UInt8} {A B at_ base' c cap e f g gs i j k lo m n u z : Nat} {R d is l : List Nat} {E G I J K L M N O v0 v1 v2 v3 v4 v5 v6 x y : Value} {o : Oper} {Q : Exit → Act → World → Prop} {bvs xs : List Value} {t : TypeId} {cs tmps : Array Value} {p : Addr} {a : Option Addr} {first ok : Bool} {s : ByteArray} {rs : List (List Nat)}
theorem sV(g next u:Nat)(w:World)(I:w.cell? ⟨g,1,none⟩=some (.int .u32 (next:Int)))(J:∀j,w.frozen? ⟨g,j,none⟩=false)(K:u≤4294967294):Calls Tryz.prog 155 #[.pointer (some ⟨g,0,none⟩),.int .u32 (u:Int)] w fun e w'=>e= .returned (.tuple #[])∧w'=w.setCell ⟨g,1,none⟩ (.int .u32 ((max next (u+1):Nat):Int)):=by
 have G:(u:Int)≤4294967294:=(by omega);by_cases z:next≤u
 ·have A:(next:Int)≤(u:Int)+1:=(by omega);have E:max (next:Int) ((u:Int)+1)=(u:Int)+1:=(by omega);rw[show max next (u+1)=u+1 by omega];clear z;go_enter Tryz.func155,Tryz.ntmps155;go_wp2
  go_end0
  exact⟨rfl,rfl⟩
 ·have A:(u:Int)+1≤(next:Int):=(by omega);have E:max (next:Int) ((u:Int)+1)=(next:Int):=(by omega);rw[show max next (u+1)=next by omega];clear z;go_enter Tryz.func155,Tryz.ntmps155;go_wp2
  go_end0
  exact⟨rfl,rfl⟩
theorem qI(v u:Value)(w:World):(callFunc 155 #[v,u]).run Tryz.prog w= .ok (.enter 155 #[v,u]) w:=by
 go_simp
structure MdR(gm bd:Nat)(w0 w:World)(val next:Nat)(u0 u1 u2:Value)(cv:Value)(ms:List Cd):Prop where
 st:Blk w gm #[.int .u32 (val:Int),.int .u32 (next:Int),u0,u1,u2,.map (some bd),cv] 206
 row:lm w w0.heap.size cv ms
 bel:dV gm w0.heap.size w0 w
 lt:gm<w0.heap.size
theorem MdR.below{G:Nat}{val next:Nat}{u0 u1 u2:Value}{ms:List Cd}(h:MdR G A w0 w val next u0 u1 u2 E ms)(z:Below w.heap.size w w'):MdR G A w0 w' val next u0 u1 u2 E ms:=
 ⟨h.st.below z h.st.lt,b9.below h.row z (MH _),h.bel.trans (dV.of_below z h.bel.size),h.lt⟩
theorem MdR.app{L:Nat}{val next:Nat}{u0 u1 u2 A:Value}{ms:List Cd}{x:Cd}(h:MdR z L w0 W val next u0 u1 u2 E ms)(M:lm w' w0.heap.size A (ms++[x]))(G:W.grownBy w' E.ownBlock):
  w'.cell? ⟨z,6,none⟩=some E∧w'.frozen? ⟨z,6,none⟩=false∧MdR z L w0 (w'.setCell ⟨z,6,none⟩ A) val next u0 u1 u2 A (ms++[x]):=by
 have K:∀b,b<W.heap.size→E.ownBlock≠some b→w'.heap[b]? =W.heap[b]? :=fun b O Q=>G.block b O (fun e=>Q e.symm);have N:E.ownBlock≠some z:=fun e=>(by have:=(b9.lt h.row z e).1;have:=h.lt;omega);have J:=ey h.st (K z h.st.lt N);refine⟨J.cell 6,J.fz 6,?_,b9.keep M (fun b I=>heap_setCell_other w' ⟨z,6,none⟩ b A (by intro e;have e:b=z:=e;subst e;have:=(b9.lt M b I).1;have:=h.lt;omega)),?_,h.lt⟩
 ·have:=J.set 6 A;simpa using this
 ·exact dV.set ⟨G.os.trans h.bel.os,G.tape.trans h.bel.tape,G.output.trans h.bel.output,MN h.bel.size G.size,fun b I R=>(K b (MW I h.bel.size) (fun e=>by have:=(b9.lt h.row b e).1;omega)).trans (h.bel.block b I R)⟩ A
theorem MdR.pass{val next:Nat}{u0 u1 u2:Value}{ms:List Cd}(h:MdR z A w0 w val next u0 u1 u2 E ms)(n:Nat):MdR z A w0 (w.setCell ⟨z,1,none⟩ (.int .u32 (n:Int))) val n u0 u1 u2 E ms:=by
 refine⟨?_,b9.keep h.row (fun b G=>heap_setCell_other w ⟨z,1,none⟩ b _ (by intro e;have e:b=z:=e;subst e;have:=(b9.lt h.row b G).1;have:=h.lt;omega)),h.bel.set _,h.lt⟩;have:=h.st.set 1 (.int .u32 (n:Int));simpa using this
def nC(g j:Nat)(c:Value)(w:World):Prop:=w.cell? ⟨g,j,none⟩=some c
def okT(c:Cd)(ms:List Cd):Prop:=c.uid≠4294967295∧ms.length≠100∧(ms.getLast?.map Cd.uid)≠some c.uid
def KS(gm bd:Nat)(w0:World)(val next:Nat)(u0 u1 u2:Value)(ms:List Cd)(c:Cd)(e:Ending)(w':World):Prop:=
 (okT c ms∧∃ca cc,e= .returned .nilIface∧MdR gm bd w0 w' val (max next (c.uid+1)) u0 u1 u2 (.slice ca (ms++[c]).length cc) (ms++[c]))∨(¬okT c ms∧∃nm t,e= .returned (fA nm t)∧dV gm w0.heap.size w0 w')
theorem oh{E:Nat}{cs:List Cd}(h:lm w E (.slice (some ⟨g,0,none⟩) n cap) cs)(i:Nat)(z:i<cs.length)(j:Nat)(A:j<7):w.cell? ⟨g,i*7+j,none⟩=(d6 cs[i])[j]? :=by
 have G:((cs.map d6)[i]'(by simpa using z)).length=7:=(by rw[MY];rfl);rw[h.cell i j (by simpa using z) (by rw[G];exact A),MM (by show j<7;exact A)];congr 1;simp
def TmS(gm gb:Nat)(v c0 c1 c2 c3 c4 c5 c6:Value)(w:World):Prop:=w.cell? ⟨gm,6,none⟩=some v∧w.cell? ⟨gb,0,none⟩=some c0∧w.cell? ⟨gb,1,none⟩=some c1∧w.cell? ⟨gb,2,none⟩=some c2∧w.cell? ⟨gb,3,none⟩=some c3∧w.cell? ⟨gb,4,none⟩=some c4∧w.cell? ⟨gb,5,none⟩=some c5∧w.cell? ⟨gb,6,none⟩=some c6
theorem CG(A bd:Nat)(w0 w:World)(val next:Nat)(u0 u1 u2:Value)(ca:Option Addr)(Z:Nat)(ms:List Cd)(c:Cd)(hR:MdR A bd w0 w val next u0 u1 u2 (.slice ca ms.length Z) ms)(hn:ms.length≤100)(hu:c.uid≤4294967295):
  Calls Tryz.prog 117 #[.pointer (some ⟨A,0,none⟩),.agg #[.string c.name,.slice c.ad c.dl c.dc,.int .i64 (c.dl:Int),.bool true,.int .u32 (c.uid:Int),.int .i64 (c.stamp:Int),.int .u32 (c.flags:Int)]] w (KS A bd w0 val next u0 u1 u2 ms c):=by
 have hA:=nAl w (.cells #[.string c.name,.slice c.ad c.dl c.dc,.int .i64 (c.dl:Int),.bool true,.int .u32 (c.uid:Int),.int .i64 (c.stamp:Int),.int .u32 (c.flags:Int)] 219);have HX:=a8 (dN w #[.string c.name,.slice c.ad c.dl c.dc,.int .i64 (c.dl:Int),.bool true,.int .u32 (c.uid:Int),.int .i64 (c.stamp:Int),.int .u32 (c.flags:Int)] 219);have HR:=a8 (hR.below hA);have az:=a8 (show¬(Value.slice ca ms.length Z).ownBlock=some w.heap.size from fun e=>by have:=(b9.lt hR.row _ e).2;omega);have aD:A<w.heap.size:=hR.st.lt;clear hA hR;go_enter Tryz.func117,Tryz.ntmps117;go_upto_region 1 with fail;generalize w.alloc (.cells #[.string c.name,.slice c.ad c.dl c.dc,.int .i64 (c.dl:Int),.bool true,.int .u32 (c.uid:Int),.int .i64 (c.stamp:Int),.int .u32 (c.flags:Int)] 219)=X at HX HR⊢;obtain⟨-,-,-,-,-,-,g6⟩:=HR.out.st.c7;obtain⟨b0,-,-,-,b4⟩:=HX.out.c5;by_cases h1:c.uid=4294967295
 ·have aF:((c.uid:Int)==4294967295)=true:=(by simp;omega);have HN:=a8 (show¬okT c ms from fun h=>h.1 h1);clear h1;go_wp2;go_ret;exact Or.inr ⟨HN.out,_,_,rfl,HR.out.bel⟩
 have aF:((c.uid:Int)==4294967295)=false:=(by simp;omega);by_cases h2:ms.length=100
 ·have aG:((ms.length:Int)==100)=true:=(by simp;omega);have HN:=a8 (show¬okT c ms from fun h=>h.2.1 h2);clear h2 h1;go_wp2;go_ret;exact Or.inr ⟨HN.out,_,_,rfl,HR.out.bel⟩
 have aG:((ms.length:Int)==100)=false:=(by simp;omega);by_cases h3:(ms.getLast?.map Cd.uid)=some c.uid
 ·have HN:=a8 (show¬okT c ms from fun h=>h.2.2 h3);obtain⟨k,hk⟩:∃k,ms.length=k+1:=by
   cases ms with
   |nil=>cases h3
   |cons x xs=>exact⟨xs.length,rfl⟩
  obtain⟨gr,ax,_,_⟩:=HR.out.row.at0 (by rw[MI];omega);subst ax;have k4:X.cell? ⟨gr,k*7+4,none⟩=some (.int .u32 (c.uid:Int)):=by
   have e:=oh HR.out.row k (by omega) 4 (by omega);rw[e];have:ms[k].uid=c.uid:=by
    rw[List.getLast?_eq_getElem?,show ms.length-1=k by omega,MM (by omega)] at h3;simpa using h3
   simp[d6,this]
  have hp:(0:Int)<(ms.length:Int):=(by omega);have aC:0<ms.length:=(by omega);have aI:(ms.length:Int)-1=(k:Int):=(by omega);have aJ:(k:Int)<(ms.length:Int):=(by omega);have aL:IntKind.i64.wrap (k:Int)=(k:Int):=(by rw[IntKind.wrap_i64];omega);clear h1 h2 h3 hk;go_upto_region 6 with fail;go_quiet(fail);have ay:=a8 (HR.out.below (below_drewN (MJ X.heap.size X) nq)).bel;have aB:=a8 (HX.out.below (below_drewN (MJ X.heap.size X) nq) HX.out.lt);generalize X.drewN nq=Y at ay aB⊢;clear g6 b0 b4 k4;have b0:Y.cell? ⟨w.heap.size,0,none⟩=some (.string c.name):=aB.out.cell 0;go_wp2;go_ret;exact Or.inr ⟨HN.out,_,_,rfl,ay.out⟩
 ·have ar:=a8 (show okT c ms from⟨h1,h2,h3⟩);have aA:=a8 (show A<w.heap.size from aD);by_cases h0:ms.length=0
  ·have aE:ms=[]:=Nc.1 h0;have aC:¬0<ms.length:=(by omega);clear h1 h2 h3 h0 aE;go_upto_region 6 with fail;go_quiet(fail);have ao:=a8 (HR.out.below (below_drewN (MJ X.heap.size X) nq));have ah:=a8 (HX.out.below (below_drewN (MJ X.heap.size X) nq) HX.out.lt);generalize X.drewN nq=Y at ao ah⊢;clear g6 b0 b4;go_upto_region 8 with fail;have ai:=a8 (ao.out.below (MJ _ _).drew);have ac:=a8 (ah.out.below (MJ Y.heap.size Y).drew ah.out.lt);refine gD (by kernel_rfl) (TmS A w.heap.size (.slice ca ms.length Z) (.string c.name) (.slice c.ad c.dl c.dc) (.int .i64 (c.dl:Int)) (.bool true) (.int .u32 (c.uid:Int)) (.int .i64 (c.stamp:Int)) (.int .u32 (c.flags:Int))) 10 ?_;generalize Y.drew=V at ai ac⊢;have aj:=a8 (show∀Q,Blk Q w.heap.size #[.string c.name,.slice c.ad c.dl c.dc,.int .i64 (c.dl:Int),.bool true,.int .u32 (c.uid:Int),.int .i64 (c.stamp:Int),.int .u32 (c.flags:Int)] 219→Q.cell? ⟨A,6,none⟩=some (.slice ca ms.length Z)→TmS A w.heap.size (.slice ca ms.length Z) (.string c.name) (.slice c.ad c.dl c.dc) (.int .i64 (c.dl:Int)) (.bool true) (.int .u32 (c.uid:Int)) (.int .i64 (c.stamp:Int)) (.int .u32 (c.flags:Int)) Q from fun Q J h=>⟨h,J.cell 0,J.cell 1,J.cell 2,J.cell 3,J.cell 4,J.cell 5,J.cell 6⟩);have z:=aj.out V ac.out (ai.out.st.cell 6);refine d7 0 (.pointer (some ⟨A,0,none⟩)) rfl (fun _ _ _ h=>h) (Or.inl ⟨by rfl,?_⟩) z ?_
   ·rintro wz ⟨L,M,z2,N,O,R,I,U⟩;go_simp
   simp only[dJ,dK,dL,dM];refine d7 1 (.pointer (some ⟨A,0,none⟩)) rfl (fun _ _ _ h=>h) (Or.inl ⟨by rfl,?_⟩) z ?_
   ·rintro wz ⟨L,M,z2,N,O,R,I,U⟩;go_simp
   simp only[dJ,dK,dL,dM];refine d7 2 (.pointer (some ⟨A,0,none⟩)) rfl (fun _ _ _ h=>h) (Or.inl ⟨by rfl,?_⟩) z ?_
   ·rintro wz ⟨L,M,z2,N,O,R,I,U⟩;go_simp
   simp only[dJ,dK,dL,dM];refine d7 3 (.pointer (some ⟨A,6,none⟩)) rfl (fun _ _ _ h=>h) (Or.inl ⟨by rfl,?_⟩) z ?_
   ·rintro wz ⟨L,M,z2,N,O,R,I,U⟩;go_simp
   simp only[dJ,dK,dL,dM];refine d7 4 (.slice ca ms.length Z) rfl (fun _ _ _ h=>h) (Or.inl ⟨by rfl,?_⟩) z ?_
   ·rintro wz ⟨L,M,z2,N,O,R,I,U⟩;go_simp
   simp only[dJ,dK,dL,dM];refine d7 5 (.agg #[.string c.name,.slice c.ad c.dl c.dc,.int .i64 (c.dl:Int),.bool true,.int .u32 (c.uid:Int),.int .i64 (c.stamp:Int),.int .u32 (c.flags:Int)]) rfl (fun _ _ _ h=>h) (Or.inl ⟨by rfl,?_⟩) z ?_
   ·rintro wz ⟨L,M,z2,N,O,R,I,U⟩;go_simp
   simp only[dJ,dK,dL,dM];refine ee 6 rfl (by kernel_rfl) (fun K E=> ?_);go_simp;have ag:=nAl V (.cells #[.string c.name,.slice c.ad c.dl c.dc,.int .i64 (c.dl:Int),.bool true,.int .u32 (c.uid:Int),.int .i64 (c.stamp:Int),.int .u32 (c.flags:Int)] 219);have ap:=a8 (dN V #[.string c.name,.slice c.ad c.dl c.dc,.int .i64 (c.dl:Int),.bool true,.int .u32 (c.uid:Int),.int .i64 (c.stamp:Int),.int .u32 (c.flags:Int)] 219);have aa:=a8 (ai.out.below ag);have ab:=a8 (ac.out.below ag ac.out.lt);refine E _ _ (fun _=>aj.out _ ab.out (aa.out.st.cell 6)) ?_;clear E K ag z
   try simp only[dJ,dK,dL,dM]
   generalize V.alloc (.cells #[.string c.name,.slice c.ad c.dl c.dc,.int .i64 (c.dl:Int),.bool true,.int .u32 (c.uid:Int),.int .i64 (c.stamp:Int),.int .u32 (c.flags:Int)] 219)=V2 at ap aa ab⊢;refine ee 7 rfl (by kernel_rfl) (fun K E=> ?_);refine jc _ (by rfl) (.tmp 60) (.tmp 62) (by rfl) w0.heap.size (.slice ca ms.length Z) ms c V.heap.size 1 (by simp[go_sem]) (by simp[go_sem]) aa.out.row (fun j v hj=>(ap.out.cell j).trans (by simpa[d6] using hj)) (by omega) aa.out.bel.size ?_;intro v7 w7 al ak;have af:=aa.out.app al ak;obtain⟨a7,c7,aq⟩:=b9.slice al;rw[MI,show(ms++[c]).length=ms.length+1 by simp] at aq;subst aq;have am:=a8 (ey ab.out (ak.block _ ab.out.lt (fun e=>az.out e.symm)));have I:=af.1;have av:=af.2.1;have ae:=a8 af.2.2;have z:=aj.out w7 am.out I;refine E _ _ (fun _=>z) ?_;clear E K af ak al
   try simp only[dJ,dK,dL,dM]
   refine d7 8 (.pointer (some ⟨A,0,none⟩)) rfl (fun _ _ _ h=>h) (Or.inl ⟨by rfl,?_⟩) z ?_
   ·rintro wz ⟨L,M,z2,N,O,R,I,U⟩;go_simp
   simp only[dJ,dK,dL,dM];refine d7 9 (.pointer (some ⟨A,6,none⟩)) rfl (fun _ _ _ h=>h) (Or.inl ⟨by rfl,?_⟩) z ?_
   ·rintro wz ⟨L,M,z2,N,O,R,I,U⟩;go_simp
   simp only[dJ,dK,dL,dM];refine ee 10 rfl (by kernel_rfl) (fun K E=> ?_);go_simp;refine E _ _ (fun h=>by cases h) (fI (by kernel_rfl) ?_ _);clear E K z I av;have an:=a8 (am.out.other (show w.heap.size≠A by have:=aA.out;omega) (.slice a7 (ms.length+1) c7) (j:=6));go_upto_region 9 with fail;generalize aw:w7.setCell ⟨A,6,none⟩ (.slice a7 (ms.length+1) c7)=W8 at ae an⊢;clear aw;have CP:=a8 (fun(Y:World) (hY:Below W8.heap.size W8 Y)=>sV A next c.uid Y ((ae.out.below hY).st.cell 1) (fun j=>(ae.out.below hY).st.fz j) (by have:=ar.out.1;omega));have z:nC w.heap.size 4 (.int .u32 (c.uid:Int)) W8.drew:=an.out.cell 4;refine gD (by kernel_rfl) (nC w.heap.size 4 (.int .u32 (c.uid:Int))) 6 ?_;refine d7 0 (.pointer (some ⟨A,0,none⟩)) rfl (fun _ _ _ h=>h) (Or.inl ⟨by rfl,?_⟩) z ?_
   ·intro wz G;unfold nC at G;go_simp
   simp only[dJ,dK,dL,dM];refine d7 1 (.pointer (some ⟨A,0,none⟩)) rfl (fun _ _ _ h=>h) (Or.inl ⟨by rfl,?_⟩) z ?_
   ·intro wz G;unfold nC at G;go_simp
   simp only[dJ,dK,dL,dM];refine d7 2 (.pointer (some ⟨A,0,none⟩)) rfl (fun _ _ _ h=>h) (Or.inl ⟨by rfl,?_⟩) z ?_
   ·intro wz G;unfold nC at G;go_simp
   simp only[dJ,dK,dL,dM];refine d7 3 (.pointer (some ⟨w.heap.size,3,none⟩)) rfl (fun _ _ _ h=>h) (Or.inl ⟨by rfl,?_⟩) z ?_
   ·intro wz G;unfold nC at G;go_simp
   simp only[dJ,dK,dL,dM];refine d7 4 (.pointer (some ⟨w.heap.size,4,none⟩)) rfl (fun _ _ _ h=>h) (Or.inl ⟨by rfl,?_⟩) z ?_
   ·intro wz G;unfold nC at G;go_simp
   simp only[dJ,dK,dL,dM];refine d7 5 (.int .u32 (c.uid:Int)) rfl (fun _ _ _ h=>h) (Or.inl ⟨by rfl,?_⟩) z ?_
   ·intro wz G;unfold nC at G;go_simp
   simp only[dJ,dK,dL,dM];refine ee 6 rfl (by kernel_rfl) (fun K E=> ?_);refine gV 155 qI (.tmp 68) (.tmp 71) #[202,28] (by rfl) (by rfl) (.pointer (some ⟨A,0,none⟩)) (.int .u32 (c.uid:Int)) (by simp[go_sem]) (by simp[go_sem]) ?_;refine(CP.out _ (MJ _ _).drew).mono ?_;rintro e w9 ⟨rfl,rfl⟩;refine⟨_,rfl,E _ _ (fun h=>by cases h) (fI (by kernel_rfl) ?_ _)⟩;have au:=a8 ((ae.out.below (MJ _ _).drew).pass (max next (c.uid+1)));clear E K z CP;go_wp2;go_ret;exact Or.inl ⟨ar.out,a7,c7,rfl,by rw[show(ms++[c]).length=ms.length+1 by simp];exact au.out⟩
  ·obtain⟨k,hk⟩:∃k,ms.length=k+1:=⟨ms.length-1,by omega⟩
   obtain⟨gr,ax,_,_⟩:=HR.out.row.at0 (by rw[MI];omega);subst ax;have k4:X.cell? ⟨gr,k*7+4,none⟩=some (.int .u32 ((ms[k]'(by omega)).uid:Int)):=by
    rw[oh HR.out.row k (by omega) 4 (by omega)];simp[d6]
   have aK:(((ms[k]'(by omega)).uid:Int)==(c.uid:Int))=false:=by
    have:(ms[k]'(by omega)).uid≠c.uid:=fun e=>h3 (by
     rw[List.getLast?_eq_getElem?,show ms.length-1=k by omega,MM (by omega)];simp[e])
    simp;omega
   generalize (ms[k]'(by omega)).uid=lu at k4 aK;have aC:0<ms.length:=(by omega);have aI:(ms.length:Int)-1=(k:Int):=(by omega);have aJ:(k:Int)<(ms.length:Int):=(by omega);have aL:IntKind.i64.wrap (k:Int)=(k:Int):=(by rw[IntKind.wrap_i64];omega);obtain⟨ca,aH⟩:∃ca,ca=some (⟨gr,0,none⟩:Addr):=⟨_,rfl⟩
   clear h1 h2 h3 h0 hk;go_upto_region 6 with fail;go_quiet(fail);have ao:=a8 (HR.out.below (below_drewN (MJ X.heap.size X) nq));have ah:=a8 (HX.out.below (below_drewN (MJ X.heap.size X) nq) HX.out.lt);generalize X.drewN nq=Y at ao ah⊢;clear g6 b0 b4 k4 aH ca;go_upto_region 8 with fail;have ai:=a8 (ao.out.below (MJ _ _).drew);have ac:=a8 (ah.out.below (MJ Y.heap.size Y).drew ah.out.lt);refine gD (by kernel_rfl) (TmS A w.heap.size (.slice (some ⟨gr,0,none⟩) ms.length Z) (.string c.name) (.slice c.ad c.dl c.dc) (.int .i64 (c.dl:Int)) (.bool true) (.int .u32 (c.uid:Int)) (.int .i64 (c.stamp:Int)) (.int .u32 (c.flags:Int))) 10 ?_;generalize Y.drew=V at ai ac⊢;have aj:=a8 (show∀Q,Blk Q w.heap.size #[.string c.name,.slice c.ad c.dl c.dc,.int .i64 (c.dl:Int),.bool true,.int .u32 (c.uid:Int),.int .i64 (c.stamp:Int),.int .u32 (c.flags:Int)] 219→Q.cell? ⟨A,6,none⟩=some (.slice (some ⟨gr,0,none⟩) ms.length Z)→TmS A w.heap.size (.slice (some ⟨gr,0,none⟩) ms.length Z) (.string c.name) (.slice c.ad c.dl c.dc) (.int .i64 (c.dl:Int)) (.bool true) (.int .u32 (c.uid:Int)) (.int .i64 (c.stamp:Int)) (.int .u32 (c.flags:Int)) Q from fun Q J h=>⟨h,J.cell 0,J.cell 1,J.cell 2,J.cell 3,J.cell 4,J.cell 5,J.cell 6⟩);have z:=aj.out V ac.out (ai.out.st.cell 6);refine d7 0 (.pointer (some ⟨A,0,none⟩)) rfl (fun _ _ _ h=>h) (Or.inl ⟨by rfl,?_⟩) z ?_
   ·rintro wz ⟨L,M,z2,N,O,R,I,U⟩;go_simp
   simp only[dJ,dK,dL,dM];refine d7 1 (.pointer (some ⟨A,0,none⟩)) rfl (fun _ _ _ h=>h) (Or.inl ⟨by rfl,?_⟩) z ?_
   ·rintro wz ⟨L,M,z2,N,O,R,I,U⟩;go_simp
   simp only[dJ,dK,dL,dM];refine d7 2 (.pointer (some ⟨A,0,none⟩)) rfl (fun _ _ _ h=>h) (Or.inl ⟨by rfl,?_⟩) z ?_
   ·rintro wz ⟨L,M,z2,N,O,R,I,U⟩;go_simp
   simp only[dJ,dK,dL,dM];refine d7 3 (.pointer (some ⟨A,6,none⟩)) rfl (fun _ _ _ h=>h) (Or.inl ⟨by rfl,?_⟩) z ?_
   ·rintro wz ⟨L,M,z2,N,O,R,I,U⟩;go_simp
   simp only[dJ,dK,dL,dM];refine d7 4 (.slice (some ⟨gr,0,none⟩) ms.length Z) rfl (fun _ _ _ h=>h) (Or.inl ⟨by rfl,?_⟩) z ?_
   ·rintro wz ⟨L,M,z2,N,O,R,I,U⟩;go_simp
   simp only[dJ,dK,dL,dM];refine d7 5 (.agg #[.string c.name,.slice c.ad c.dl c.dc,.int .i64 (c.dl:Int),.bool true,.int .u32 (c.uid:Int),.int .i64 (c.stamp:Int),.int .u32 (c.flags:Int)]) rfl (fun _ _ _ h=>h) (Or.inl ⟨by rfl,?_⟩) z ?_
   ·rintro wz ⟨L,M,z2,N,O,R,I,U⟩;go_simp
   simp only[dJ,dK,dL,dM];refine ee 6 rfl (by kernel_rfl) (fun K E=> ?_);go_simp;have ag:=nAl V (.cells #[.string c.name,.slice c.ad c.dl c.dc,.int .i64 (c.dl:Int),.bool true,.int .u32 (c.uid:Int),.int .i64 (c.stamp:Int),.int .u32 (c.flags:Int)] 219);have ap:=a8 (dN V #[.string c.name,.slice c.ad c.dl c.dc,.int .i64 (c.dl:Int),.bool true,.int .u32 (c.uid:Int),.int .i64 (c.stamp:Int),.int .u32 (c.flags:Int)] 219);have aa:=a8 (ai.out.below ag);have ab:=a8 (ac.out.below ag ac.out.lt);refine E _ _ (fun _=>aj.out _ ab.out (aa.out.st.cell 6)) ?_;clear E K ag z
   try simp only[dJ,dK,dL,dM]
   generalize V.alloc (.cells #[.string c.name,.slice c.ad c.dl c.dc,.int .i64 (c.dl:Int),.bool true,.int .u32 (c.uid:Int),.int .i64 (c.stamp:Int),.int .u32 (c.flags:Int)] 219)=V2 at ap aa ab⊢;refine ee 7 rfl (by kernel_rfl) (fun K E=> ?_);refine jc _ (by rfl) (.tmp 60) (.tmp 62) (by rfl) w0.heap.size (.slice (some ⟨gr,0,none⟩) ms.length Z) ms c V.heap.size 1 (by simp[go_sem]) (by simp[go_sem]) aa.out.row (fun j v hj=>(ap.out.cell j).trans (by simpa[d6] using hj)) (by omega) aa.out.bel.size ?_;intro v7 w7 al ak;have af:=aa.out.app al ak;obtain⟨a7,c7,aq⟩:=b9.slice al;rw[MI,show(ms++[c]).length=ms.length+1 by simp] at aq;subst aq;have am:=a8 (ey ab.out (ak.block _ ab.out.lt (fun e=>az.out e.symm)));have I:=af.1;have av:=af.2.1;have ae:=a8 af.2.2;have z:=aj.out w7 am.out I;refine E _ _ (fun _=>z) ?_;clear E K af ak al
   try simp only[dJ,dK,dL,dM]
   refine d7 8 (.pointer (some ⟨A,0,none⟩)) rfl (fun _ _ _ h=>h) (Or.inl ⟨by rfl,?_⟩) z ?_
   ·rintro wz ⟨L,M,z2,N,O,R,I,U⟩;go_simp
   simp only[dJ,dK,dL,dM];refine d7 9 (.pointer (some ⟨A,6,none⟩)) rfl (fun _ _ _ h=>h) (Or.inl ⟨by rfl,?_⟩) z ?_
   ·rintro wz ⟨L,M,z2,N,O,R,I,U⟩;go_simp
   simp only[dJ,dK,dL,dM];refine ee 10 rfl (by kernel_rfl) (fun K E=> ?_);go_simp;refine E _ _ (fun h=>by cases h) (fI (by kernel_rfl) ?_ _);clear E K z I av;have an:=a8 (am.out.other (show w.heap.size≠A by have:=aA.out;omega) (.slice a7 (ms.length+1) c7) (j:=6));go_upto_region 9 with fail;generalize aw:w7.setCell ⟨A,6,none⟩ (.slice a7 (ms.length+1) c7)=W8 at ae an⊢;clear aw;have CP:=a8 (fun(Y:World) (hY:Below W8.heap.size W8 Y)=>sV A next c.uid Y ((ae.out.below hY).st.cell 1) (fun j=>(ae.out.below hY).st.fz j) (by have:=ar.out.1;omega));have z:nC w.heap.size 4 (.int .u32 (c.uid:Int)) W8.drew:=an.out.cell 4;refine gD (by kernel_rfl) (nC w.heap.size 4 (.int .u32 (c.uid:Int))) 6 ?_;refine d7 0 (.pointer (some ⟨A,0,none⟩)) rfl (fun _ _ _ h=>h) (Or.inl ⟨by rfl,?_⟩) z ?_
   ·intro wz G;unfold nC at G;go_simp
   simp only[dJ,dK,dL,dM];refine d7 1 (.pointer (some ⟨A,0,none⟩)) rfl (fun _ _ _ h=>h) (Or.inl ⟨by rfl,?_⟩) z ?_
   ·intro wz G;unfold nC at G;go_simp
   simp only[dJ,dK,dL,dM];refine d7 2 (.pointer (some ⟨A,0,none⟩)) rfl (fun _ _ _ h=>h) (Or.inl ⟨by rfl,?_⟩) z ?_
   ·intro wz G;unfold nC at G;go_simp
   simp only[dJ,dK,dL,dM];refine d7 3 (.pointer (some ⟨w.heap.size,3,none⟩)) rfl (fun _ _ _ h=>h) (Or.inl ⟨by rfl,?_⟩) z ?_
   ·intro wz G;unfold nC at G;go_simp
   simp only[dJ,dK,dL,dM];refine d7 4 (.pointer (some ⟨w.heap.size,4,none⟩)) rfl (fun _ _ _ h=>h) (Or.inl ⟨by rfl,?_⟩) z ?_
   ·intro wz G;unfold nC at G;go_simp
   simp only[dJ,dK,dL,dM];refine d7 5 (.int .u32 (c.uid:Int)) rfl (fun _ _ _ h=>h) (Or.inl ⟨by rfl,?_⟩) z ?_
   ·intro wz G;unfold nC at G;go_simp
   simp only[dJ,dK,dL,dM];refine ee 6 rfl (by kernel_rfl) (fun K E=> ?_);refine gV 155 qI (.tmp 68) (.tmp 71) #[202,28] (by rfl) (by rfl) (.pointer (some ⟨A,0,none⟩)) (.int .u32 (c.uid:Int)) (by simp[go_sem]) (by simp[go_sem]) ?_;refine(CP.out _ (MJ _ _).drew).mono ?_;rintro e w9 ⟨rfl,rfl⟩;refine⟨_,rfl,E _ _ (fun h=>by cases h) (fI (by kernel_rfl) ?_ _)⟩;have au:=a8 ((ae.out.below (MJ _ _).drew).pass (max next (c.uid+1)));clear E K z CP;go_wp2;go_ret;exact Or.inl ⟨ar.out,a7,c7,rfl,by rw[show(ms++[c]).length=ms.length+1 by simp];exact au.out⟩
section
open Go.Maps
theorem Gq(a b c:Value)(w:World):(callFunc 116 #[a,b,c]).run Tryz.prog w= .ok (.enter 116 #[a,b,c]) w:=by
 go_simp
theorem qr{n:Nat}:∀{l:List (List UInt8)} {last:Nat} {ds ds':List Nat},fh n l last ds=some ds'→ds'.length=ds.length+l.length∧(0<l.length→1≤n)
 |[],last,ds,ds',h=>by
  simp only[fh,MK] at h;subst h;exact⟨rfl,fun h=>by cases h⟩
 |x::xs,last,ds,ds',h=>by
  unfold fh at h;cases hx:dS x (last+1) (n-1) with
  |none=>rw[hx] at h;cases h
  |some u=>
   rw[hx] at h;have A:=ef hx;have z:=(qr h).1;rw[MT] at z;simp only[M2,List.length_nil] at z⊢;exact⟨by omega,fun _=>by omega⟩
theorem Fv{k:Nat}{first:Bool}{ws:List (List UInt8)}{s s':UX}(h:dY first ws s=some s')(G:ws.length≤40001)(I:(0<k→1≤s.next)∧s.dead.length≤k*40001):(0<k+1→1≤s'.next)∧s'.dead.length≤(k+1)*40001:=by
 unfold dY at h;cases first with
 |true=>
  rw[if_pos rfl] at h;unfold jT at h;split at h
  ·next a b c=>
   by_cases z:a=[86]
   ·rw[if_pos z] at h;cases h1:dS b 1 fY with
    |none=>rw[h1] at h;cases h
    |some v=>
     cases h2:dS c 1 fY with
     |none=>rw[h1,h2] at h;cases h
     |some n=>
      rw[h1,h2] at h;simp only[MK] at h;subst h;have:=ef h2;exact⟨fun _=>this.1,by simp only;omega⟩
   ·rw[if_neg z] at h;cases h
  ·cases h
 |false=>
  rw[if_neg (by simp)] at h;unfold nX at h;split at h
  ·next a b x xs=>
   by_cases z:a=[88]
   ·rw[if_pos z] at h;cases h1:dS b s.next fY with
    |none=>rw[h1] at h;cases h
    |some n=>
     rw[h1] at h;simp only at h;cases h2:fh n (x::xs) 0 s.dead with
     |none=>rw[h2] at h;cases h
     |some ds=>
      rw[h2] at h;simp only[MK] at h;subst h;obtain⟨E,A⟩:=qr h2;simp only[M2] at E A G;exact⟨fun _=>A (by omega),by simp only;omega⟩
   ·rw[if_neg z] at h;cases h
  ·cases h
theorem mu{z w w':World}{S:Nat→Prop}{B:Nat}(h:gM S B w w')(A:Below z.heap.size z w)(E:∀k,S k→z.heap.size≤k)(J:z.heap.size≤B):Below z.heap.size z w':=
 ⟨h.os.trans A.os,h.tape.trans A.tape,h.output.trans A.output,MN A.size h.size,fun k G=>(h.block k (by omega) (fun I=>by have:=E k I;omega)).trans (A.block k G)⟩
def IT(gm bd:Nat)(wb w:World)(hE:nD wb)(hb:Below wb.heap.size wb w)(hlo:wb.heap.size≤gm)(hlo2:wb.heap.size≤bd)(hne:gm≠bd)(hst:Blk w gm (mdI ⟨0,0,[]⟩ bd) 206)(hdd:ij w bd []):wi UX 116 gm (fun k=>k=gm∨k=bd) dY (fun k s=>(0<k→1≤s.next)∧s.dead.length≤k*40001) w ⟨0,0,[]⟩ (fun X s=>Blk X gm (mdI s bd) 206∧ij X bd s.dead) (fun X=>∃s,Blk X gm (mdI s bd) 206) where
 Inv:=fun B w0 wr s=>gm<B∧bd<B∧B≤wr.heap.size∧gM (fun k=>k=gm∨k=bd) B w0 wr∧Blk wr gm (mdI s bd) 206∧ij wr bd s.dead
 enter:=Gq
 start:=fun w0 h=>⟨MW hst.lt h.size,MW hdd.lt h.size,MH _,⟨rfl,rfl,rfl,MH _,fun _ _ _=>rfl⟩,hst.below h hst.lt,hdd.keep (h.block bd hdd.lt)⟩
 ok0:=⟨fun h=>by omega,by simp⟩
 okS:=fun h1 h2 h3=>Fv h1 h2 h3
 low:=fun k hk=>hk.elim (fun e=>by rw[e];exact hst.lt) (fun e=>by rw[e];exact hdd.lt)
 env:=fun w' h=>(hE.below (mu h hb (fun k hk=>hk.elim (fun e=>by rw[e];exact hlo) (fun e=>by rw[e];exact hlo2)) hb.size)).env
 below:=fun{B w0 wr wr' s} h hb'=>⟨h.1,h.2.1,MN h.2.2.1 hb'.size,⟨hb'.os.trans h.2.2.2.1.os,hb'.tape.trans h.2.2.2.1.tape,hb'.output.trans h.2.2.2.1.output,MN h.2.2.2.1.size hb'.size,fun k hk hn=>(hb'.block k (by have:=h.2.2.1;omega)).trans (h.2.2.2.1.block k hk hn)⟩,h.2.2.2.2.1.below hb' h.2.2.2.2.1.lt,h.2.2.2.2.2.keep (hb'.block bd h.2.2.2.2.2.lt)⟩
 frame:=fun h=>h.2.2.2.1
 sz:=fun h=>h.2.2.1
 badI:=fun{B w0 wr s} h=>⟨s,h.2.2.2.2.1⟩
 badS:=fun{X g j} u h hg=>by
  obtain⟨s,h4⟩:=h;exact⟨s,h4.other (by have:=hst.lt;omega) u⟩
 fin:=fun{B w0 wr X s} h hb' hB ho=>⟨ey h.2.2.2.2.1 (ho.block gm h.2.2.2.2.1.lt (.inl hst.lt)),h.2.2.2.2.2.keep (ho.block bd h.2.2.2.2.2.lt (.inl hdd.lt))⟩
 call:=fun k B gw w0 wr s ws h hok htw hgw hws hwl hk hE'=>by
  refine(yg gm bd gw B k w0 wr s ws ⟨h.2.2.2.2.1,h.2.2.2.2.2,htw,h.2.2.2.1,h.2.2.1,h.1,h.2.1,hne,hgw⟩ hE' hws hok.1 (by
   have h1:=hok.2;have h2:k*40001≤40000*40001:=Ny _ hk;omega)).mono (fun e w' hr=> ?_)
  rcases hr with⟨s',r,rfl,hR,ho⟩|⟨hf,ho,hx⟩
  ·exact Or.inl ⟨s',r,rfl,⟨h.1,h.2.1,hR.sz,hR.fr,hR.st,hR.dd⟩,hR.tw,ho⟩
  ·exact Or.inr ⟨hf,ho,hx.1,hx.2⟩
end
section
open Go.Maps
def il(dead:List Nat)(cs:List Cd):List Cd:=cs.filter fun c=>decide (c.uid∉dead)
structure MdS(w0 w:World)(gm bd:Nat)(D:dQ)(val next:Nat)(u0 u1 u2:Value)(dead:List Nat)(ca:Option Addr)(cc:Nat)(ms:List Cd):Prop where
 st:Blk w gm #[.int .u32 (val:Int),.int .u32 (next:Int),u0,u1,u2,.map (some bd),.slice ca ms.length cc] 206
 row:lm w w0.heap.size (.slice ca ms.length cc) ms
 dd:ij w bd dead
 ok:∀x∈ms,Fz w0 D x
 bel:Below w0.heap.size w0 w
def mZ(w0:World)(D:dQ)(cs:List Cd):Prop:=∃all,cs.Perm all∧LeG Cd.uid cs∧iZ w0 D (D.names.map (·.1)) all
def KQ(D:dQ)(ua:Option Addr)(uc:Nat)(data:List Nat)(w:World)(e:Ending)(w':World):Prop:=
 (∃w0 s n ms cs gm bd ca cc,nK (dP data).1=some s∧mZ w0 D cs∧jb Cd.uid (il s.dead cs) (s.next,[])=some (n,ms)∧e= .returned (.tuple #[.pointer (some ⟨gm,0,none⟩),.nilIface])∧MdS w0 w' gm bd D s.val n (.string uxN) (.slice ua data.length uc) (.int .i64 ((dP data).2:Int)) s.dead ca cc ms∧ms.length≤100∧Below w.heap.size w w0)∨
 ((nK (dP data).1=none∨∃w0 s cs,nK (dP data).1=some s∧mZ w0 D cs∧jb Cd.uid (il s.dead cs) (s.next,[])=none)∧∃nm t,e= .returned (.tuple #[.pointer none,fA nm t])∧Below w.heap.size w w')
theorem Mc(w:World)(A M:Array Value)(t u:TypeId):Blk (((w.alloc (.cells A t)).alloc (.map #[] 0)).alloc (.cells M u)) w.heap.size A t∧ij (((w.alloc (.cells A t)).alloc (.map #[] 0)).alloc (.cells M u)) (w.heap.size+1) []∧Blk (((w.alloc (.cells A t)).alloc (.map #[] 0)).alloc (.cells M u)) (w.heap.size+1+1) M u∧Below w.heap.size w (((w.alloc (.cells A t)).alloc (.map #[] 0)).alloc (.cells M u)):=by
 have G:(w.alloc (.cells A t)).heap.size=w.heap.size+1:=World.size_alloc _ _;have L:((w.alloc (.cells A t)).alloc (.map #[] 0)).heap.size=w.heap.size+1+1:=(by rw[World.size_alloc,G]);have b1:=dN w A t;have z:=(MJ (w.alloc (.cells A t)).heap.size (w.alloc (.cells A t))).alloc (MH _) (.map #[] 0);have J:=(MJ ((w.alloc (.cells A t)).alloc (.map #[] 0)).heap.size ((w.alloc (.cells A t)).alloc (.map #[] 0))).alloc (MH _) (.cells M u);have I:=nAl w (.cells A t);have b2:=b1.below z b1.lt;have K:=World.ownsMap_made (H:=Unit) (w.alloc (.cells A t)) Tryz.prog 28 unitElem;rw[G] at K;have E:=dN ((w.alloc (.cells A t)).alloc (.map #[] 0)) M u;rw[L] at E;exact⟨b2.below J b2.lt,⟨0,_,MH _,K.alloc _,fun u _=>by simp[Maps.has]⟩,E,I.trans ((z.trans (J.mono z.size)).mono I.size)⟩
def RuS(gm bd gc:Nat)(u:Value)(dead:List Nat)(w:World):Prop:=w.cell? ⟨gm,5,none⟩=some (.map (some bd))∧w.cell? ⟨gc,4,none⟩=some u∧ij w bd dead
theorem EF{w:World}{A u:Nat}{dead:List Nat}(h:ij w A dead)(E:u≤4294967295):(Instr.lookup 203 (.map (some A)) (.int .u32 (u:Int)) true).run Tryz.prog w= .ok (.tuple #[.agg #[],.bool (decide (u∈dead))]) w:=by
 obtain⟨n,D,K,G,I⟩:=h;obtain⟨v,L,z,J⟩:=G.look_ok Ma Tryz.underlying203 (mY w) unitElem_mk (LZ u E);obtain⟨rfl,_⟩:=unitElem_inv J;rw[I u E] at z;exact z
theorem ED{dead:List Nat}{cs:List Cd}{j:Nat}(h:j<cs.length)(z:cs[j].uid∉dead):il dead (cs.drop j)=cs[j]::il dead (cs.drop (j+1)):=by
 unfold il;rw[fw cs j h,List.filter_cons,if_pos (decide_eq_true z)]
theorem G0{dead:List Nat}{cs:List Cd}{j:Nat}(h:j<cs.length)(z:cs[j].uid∈dead):il dead (cs.drop j)=il dead (cs.drop (j+1)):=by
 unfold il;rw[fw cs j h,List.filter_cons,if_neg (by simpa using z)]
theorem Kb{c:Cd}{r ms:List Cd}{n:Nat}(h:okT c ms):jb Cd.uid (c::r) (n,ms)=jb Cd.uid r (max n (c.uid+1),ms++[c]):=by
 rw[jb,if_neg h.1,if_neg h.2.1,if_neg h.2.2]
theorem Io{c:Cd}{r ms:List Cd}{n:Nat}(h:¬okT c ms):jb Cd.uid (c::r) (n,ms)=none:=by
 rw[jb];by_cases z:c.uid=4294967295
 ·rw[if_pos z]
 ·rw[if_neg z];by_cases A:ms.length=100
  ·rw[if_pos A]
  ·rw[if_neg A];by_cases E:(ms.getLast?.map Cd.uid)=some c.uid
   ·rw[if_pos E]
   ·exact absurd ⟨z,A,E⟩ h
theorem FP{t:List UInt8}{u z f:Nat}(h:fo t=some (u,z,f)):u≤4294967295:=rF h
theorem re(v:Value)(D:dQ)(E:Option Addr)(G:Nat)(z:List Nat)(w:World)(hv:eP D)(hd:km w v D)(hi:fX w E G z)(hE:nD w):
  Calls Tryz.prog 77 #[v,.slice E z.length G] w (KQ D E G z w):=by
 have bm:∀(fn:Fn) (first cap:Array Value) (w:World),(Instr.makeFunc fn first cap).run Tryz.prog w= .ok (.func fn first cap) w:=fun _ _ _ _=>rfl;have bg:= @run_makeMap Tryz.prog;have HD:=a8 hd;obtain⟨a1,c1,a2,c2,a3,c3,a4,c4,bi,r1,r2,r3,r4⟩:=hd;subst bi;have HV:=a8 hv;have HE:=a8 hE;have HI:=a8 hi;clear r1 r2 r3 r4 hv hE hi;go_enter Tryz.func77,Tryz.ntmps77;go_wp2_with fail;obtain⟨L1,L2,L3,hA⟩:=Mc w #[.slice a1 D.nodes.length c1,.slice a2 D.names.length c2,.slice a3 D.kept.length c3,.slice a4 D.pend.length c4,.int .i64 D.quota] #[.int .u32 0,.int .u32 0,.string ⟨#[]⟩,.slice none 0 0,.int .i64 0,.map (some (w.heap.size+1)),.slice none 0 0] 37 206;have HA:=a8 hA;have H1:=a8 L1;have H2:=a8 L2;have H3:=a8 L3;clear L1 L2 L3 hA bg;generalize (((w.alloc (.cells #[.slice a1 D.nodes.length c1,.slice a2 D.names.length c2,.slice a3 D.kept.length c3,.slice a4 D.pend.length c4,.int .i64 D.quota] 37)).alloc (.map #[] 0)).alloc (.cells #[.int .u32 0,.int .u32 0,.string ⟨#[]⟩,.slice none 0 0,.int .i64 0,.map (some (w.heap.size+1)),.slice none 0 0] 206))=w1 at HA H1 H2 H3⊢;have CL:=a8 (mL (IT (w.heap.size+1+1) (w.heap.size+1) w w1 HE.out HA.out (by omega) (by omega) (by omega) H3.out H2.out) uxN E G z (HI.out.below HA.out));refine CL.out.mono ?_;rintro e L (⟨s,ho,rfl,⟨J,U⟩,⟨n9,bh,aj⟩,ae⟩|⟨ho,t,rfl,ae,s9,J⟩)
 ·have HO:=a8 (show nK (dP z).1=some s by rw[←Hu];exact ho);have ak:=a8 (mu ae HA.out (fun k hk=>hk.elim (fun e=>by rw[e];omega) (fun e=>by rw[e];omega)) HA.out.size);obtain⟨-,-,n2,n3,n4⟩:=J.c5;have fz:=fun j=>J.fz j;have A:=a8 (show Blk (((L.setCell ⟨w.heap.size+1+1,2,none⟩ (.string uxN)).setCell ⟨w.heap.size+1+1,3,none⟩ (.slice E z.length G)).setCell ⟨w.heap.size+1+1,4,none⟩ (.int .i64 ((dP z).2:Int))) (w.heap.size+1+1) #[.int .u32 (s.val:Int),.int .u32 (s.next:Int),.string uxN,.slice E z.length G,.int .i64 ((dP z).2:Int),.map (some (w.heap.size+1)),.slice none 0 0] 206 from((J.set 2 (.string uxN)).set 3 (.slice E z.length G)).set 4 (.int .i64 ((dP z).2:Int)));have al:=a8 (show ij (((L.setCell ⟨w.heap.size+1+1,2,none⟩ (.string uxN)).setCell ⟨w.heap.size+1+1,3,none⟩ (.slice E z.length G)).setCell ⟨w.heap.size+1+1,4,none⟩ (.int .i64 ((dP z).2:Int))) (w.heap.size+1) s.dead from((U.keep (heap_setCell_other _ _ _ _ (by simp))).keep (heap_setCell_other _ _ _ _ (by simp))).keep (heap_setCell_other _ _ _ _ (by simp)));have aO:=a8 (ey H1.out (ae.block w.heap.size H1.out.lt (fun h=>h.elim (fun e=>by omega) (fun e=>by omega))));have ab:=a8 (show Blk (((L.setCell ⟨w.heap.size+1+1,2,none⟩ (.string uxN)).setCell ⟨w.heap.size+1+1,3,none⟩ (.slice E z.length G)).setCell ⟨w.heap.size+1+1,4,none⟩ (.int .i64 ((dP z).2:Int))) w.heap.size #[.slice a1 D.nodes.length c1,.slice a2 D.names.length c2,.slice a3 D.kept.length c3,.slice a4 D.pend.length c4,.int .i64 D.quota] 37 from((aO.out.other (by omega) _).other (by omega) _).other (by omega) _);have aw:=a8 (show Below w.heap.size w (((L.setCell ⟨w.heap.size+1+1,2,none⟩ (.string uxN)).setCell ⟨w.heap.size+1+1,3,none⟩ (.slice E z.length G)).setCell ⟨w.heap.size+1+1,4,none⟩ (.int .i64 ((dP z).2:Int))) from((ak.out.setCell (p:=⟨w.heap.size+1+1,2,none⟩) (by simp only;omega) _).setCell (p:=⟨w.heap.size+1+1,3,none⟩) (by simp only;omega) _).setCell (p:=⟨w.heap.size+1+1,4,none⟩) (by simp only;omega) _);clear ho J U aj ae CL aO ak H1 H2 H3 bh;go_upto_region 4 with fail;generalize (((L.setCell ⟨w.heap.size+1+1,2,none⟩ (.string uxN)).setCell ⟨w.heap.size+1+1,3,none⟩ (.slice E z.length G)).setCell ⟨w.heap.size+1+1,4,none⟩ (.int .i64 ((dP z).2:Int)))=w3 at A al ab aw⊢;clear n2 n3 n4 fz;have CC:=a8 (qo _ D w w3 HV.out HD.out aw.out HE.out);obtain⟨d0,d1,d2,d3,d4⟩:=ab.out.c5;go_wp2_with fail;refine CC.out.mono ?_;rintro e w4 ⟨aa,ac,cs,all,rfl,aC,au,aS,ar,ai⟩;clear d0 d1 d2 d3 d4 CC;have bb:=a8 (show cs.length≤300 from by
   have h1:=au.length_eq;have h2:=congrArg List.length ar.1;rw[MI] at h2;have h3:((D.names.map (·.1)).filterMap lq).length≤(D.names.map (·.1)).length:=List.length_filterMap_le _ _;rw[MI] at h3;have h4:=vF HV.out;omega)
  have aH:=a8 (show mZ w D cs from⟨all,au,aS,ar⟩);have aF:=a8 (show∀x∈cs,Fz w D x from fun x hx=>ar.2 x (au.mem_iff.1 hx));have aN:=a8 aC;have ag:=bTr aw ai;have aY:=a8 (show MdR (w.heap.size+1+1) (w.heap.size+1) w4 w4 s.val s.next (.string uxN) (.slice E z.length G) (.int .i64 ((dP z).2:Int)) (.slice none 0 0) [] from⟨A.out.below ai A.out.lt,b9.nil _ _ _ _,dV.refl _ _ _,MW A.out.lt ai.size⟩);have am:=a8 (al.out.keep (ai.block _ al.out.lt));have aW:=a8 (show∀g,(Value.slice aa cs.length ac).ownBlock=some g→g≠w.heap.size+1+1 from fun g hg e=>by have:=(b9.lt aC g hg).1;have:=A.out.lt;omega);clear au aS ar aC ai A al ab;go_wp2;have bj:cs.length≤300:=bb.out;go_loopw [7,9,10,11,31] (fun e7 _ _ _ i wr=>∃(j O:Nat) (ca:Option Addr) (cc:Nat) (ms:List Cd),j≤cs.length∧i= .int .i64 (j:Int)∧e7= .nilIface∧ms.length≤100∧Hid (MdR (w.heap.size+1+1) (w.heap.size+1) w4 wr s.val O (.string uxN) (.slice E z.length G) (.int .i64 ((dP z).2:Int)) (.slice ca ms.length cc) ms)∧Hid (jb Cd.uid (il s.dead cs) (s.next,[])=jb Cd.uid (il s.dead (cs.drop j)) (O,ms))∧Hid (∀x∈ms,x∈cs)) (fun _ _ _ _ i _=>cs.length-(intOf i).toNat)
  case atStart=>exact⟨0,s.next,none,0,[],MQ _,rfl,rfl,by simp,aY,a8 rfl,a8 (fun x hx=>by cases hx)⟩
  case round=>
   obtain⟨j,O,ca,cc,ms,hj,rfl,rfl,aB,HI,ap,az⟩:=hrel;by_cases af:j<cs.length
   ·have bk:(j:Int)<(cs.length:Int):=(by omega);obtain⟨N,be,_,aR⟩:=aN.out.at0 (by rw[MI];omega);subst be;have M:=a8 (show∀k (hk:k<7),wr.cell? ⟨N,j*7+k,none⟩=(d6 cs[j])[k]? from fun k hk=>by
     rw[d5 (HI.out.bel.block N aR (aW.out N rfl))];exact oh aN.out j af k hk)
    have aM:=a8 (ED (dead:=s.dead) af);have aK:=a8 (G0 (dead:=s.dead) af);have ax:=a8 (FP (aF.out cs[j] (MO af)).card);have aG:=a8 (MO af);generalize cs[j]=c at M aM aK ax aG;unfold d6 at M;have k0:wr.cell? ⟨N,j*7,none⟩=some (.string c.name):=M.out 0 (by omega);have k1:wr.cell? ⟨N,j*7+1,none⟩=some (.slice c.ad c.dl c.dc):=M.out 1 (by omega);have k2:wr.cell? ⟨N,j*7+2,none⟩=some (.int .i64 (c.dl:Int)):=M.out 2 (by omega);have k3:wr.cell? ⟨N,j*7+3,none⟩=some (.bool true):=M.out 3 (by omega);have k4:wr.cell? ⟨N,j*7+4,none⟩=some (.int .u32 (c.uid:Int)):=M.out 4 (by omega);have k5:wr.cell? ⟨N,j*7+5,none⟩=some (.int .i64 (c.stamp:Int)):=M.out 5 (by omega);have k6:wr.cell? ⟨N,j*7+6,none⟩=some (.int .u32 (c.flags:Int)):=M.out 6 (by omega);have aQ:=nAl wr (.cells #[.string c.name,.slice c.ad c.dl c.dc,.int .i64 (c.dl:Int),.bool true,.int .u32 (c.uid:Int),.int .i64 (c.stamp:Int),.int .u32 (c.flags:Int)] 219);have ay:=a8 (dN wr #[.string c.name,.slice c.ad c.dl c.dc,.int .i64 (c.dl:Int),.bool true,.int .u32 (c.uid:Int),.int .i64 (c.stamp:Int),.int .u32 (c.flags:Int)] 219);have aJ:=a8 (HI.out.below aQ);clear aQ M aR;go_upto_region 9 with fail;generalize wr.alloc (.cells #[.string c.name,.slice c.ad c.dl c.dc,.int .i64 (c.dl:Int),.bool true,.int .u32 (c.uid:Int),.int .i64 (c.stamp:Int),.int .u32 (c.flags:Int)] 219)=X at ay aJ⊢;clear k0 k1 k2 k3 k4 k5 k6;have aI:=a8 (show∀Y,dV (w.heap.size+1+1) w4.heap.size w4 Y→ij Y (w.heap.size+1) s.dead from fun Y hY=>am.out.keep (hY.block _ am.out.lt (by omega)));have an:=a8 (aJ.out.below (MJ _ _).drew);have ao:=a8 (ay.out.below (MJ X.heap.size X).drew ay.out.lt);refine gD (by kernel_rfl) (RuS (w.heap.size+1+1) (w.heap.size+1) wr.heap.size (.int .u32 (c.uid:Int)) s.dead) 13 ?_;generalize X.drew=V at an ao⊢;have I:RuS (w.heap.size+1+1) (w.heap.size+1) wr.heap.size (.int .u32 (c.uid:Int)) s.dead V:=⟨an.out.st.cell 5,ao.out.cell 4,aI.out V an.out.bel⟩
    refine d7 0 (.pointer (some ⟨w.heap.size+1+1,0,none⟩)) rfl (fun _ _ _ h=>h) (Or.inl ⟨by rfl,?_⟩) I ?_
    ·rintro wz ⟨Q,R,z2⟩;go_simp
    simp only[dJ,dK,dL,dM];refine d7 1 (.pointer (some ⟨w.heap.size+1+1,0,none⟩)) rfl (fun _ _ _ h=>h) (Or.inl ⟨by rfl,?_⟩) I ?_
    ·rintro wz ⟨Q,R,z2⟩;go_simp
    simp only[dJ,dK,dL,dM];refine d7 2 (.pointer (some ⟨w.heap.size+1+1,5,none⟩)) rfl (fun _ _ _ h=>h) (Or.inl ⟨by rfl,?_⟩) I ?_
    ·rintro wz ⟨Q,R,z2⟩;go_simp
    simp only[dJ,dK,dL,dM];refine d7 3 (.map (some (w.heap.size+1))) rfl (fun _ _ _ h=>h) (Or.inl ⟨by rfl,?_⟩) I ?_
    ·rintro wz ⟨Q,R,z2⟩;go_simp
    simp only[dJ,dK,dL,dM];refine d7 4 (.pointer (some ⟨wr.heap.size,3,none⟩)) rfl (fun _ _ _ h=>h) (Or.inl ⟨by rfl,?_⟩) I ?_
    ·rintro wz ⟨Q,R,z2⟩;go_simp
    simp only[dJ,dK,dL,dM];refine d7 5 (.pointer (some ⟨wr.heap.size,4,none⟩)) rfl (fun _ _ _ h=>h) (Or.inl ⟨by rfl,?_⟩) I ?_
    ·rintro wz ⟨Q,R,z2⟩;go_simp
    simp only[dJ,dK,dL,dM];refine d7 6 (.int .u32 (c.uid:Int)) rfl (fun _ _ _ h=>h) (Or.inl ⟨by rfl,?_⟩) I ?_
    ·rintro wz ⟨Q,R,z2⟩;go_simp
    simp only[dJ,dK,dL,dM];refine d7 7 (.tuple #[.agg #[],.bool (decide (c.uid∈s.dead))]) rfl (fun _ _ _ h=>h) (Or.inl ⟨by rfl,?_⟩) I ?_
    ·rintro wz ⟨Q,R,z2⟩;have bl:=EF z2 ax.out;go_simp
    simp only[dJ,dK,dL,dM];refine d7 8 (.tuple #[.agg #[],.bool (decide (c.uid∈s.dead))]) rfl (fun _ _ _ h=>h) (Or.inl ⟨by rfl,?_⟩) I ?_
    ·rintro wz ⟨Q,R,z2⟩;go_simp
    simp only[dJ,dK,dL,dM];refine d7 9 (.agg #[]) rfl (fun _ _ _ h=>h) (Or.inl ⟨by rfl,?_⟩) I ?_
    ·rintro wz ⟨Q,R,z2⟩;go_simp
    simp only[dJ,dK,dL,dM];refine d7 10 (.bool (decide (c.uid∈s.dead))) rfl (fun _ _ _ h=>h) (Or.inl ⟨by rfl,?_⟩) I ?_
    ·rintro wz ⟨Q,R,z2⟩;go_simp
    simp only[dJ,dK,dL,dM];refine ee 11 rfl (by kernel_rfl) (fun K hK=> ?_);go_simp;have aA:=nAl V (.cells #[] 187);have ah:=a8 (an.out.below aA);have A:=a8 (ao.out.below aA ao.out.lt);have aq:RuS (w.heap.size+1+1) (w.heap.size+1) wr.heap.size (.int .u32 (c.uid:Int)) s.dead (V.alloc (.cells #[] 187)):=⟨ah.out.st.cell 5,A.out.cell 4,aI.out _ ah.out.bel⟩
    refine hK _ _ (fun _=>aq) ?_;clear hK K aA I
    try simp only[dJ,dK,dL,dM]
    generalize V.alloc (.cells #[] 187)=Z at ah A aq⊢;refine ee 12 rfl (by kernel_rfl) (fun K hK=> ?_);go_simp;refine hK _ _ (fun _=>aq) ?_;clear hK K
    try simp only[dJ,dK,dL,dM]
    refine ee 13 rfl (by kernel_rfl) (fun K hK=> ?_);go_simp;refine hK _ _ (fun h=>by cases h) (fI (by kernel_rfl) ?_ _);clear hK K aq;by_cases U:c.uid∈s.dead
    ·have av:=a8 (ap.out.trans (by rw[aK.out U]));rw[decide_eq_true U];clear U;go_wp2;go_roundw
     case rel=>exact⟨j+1,O,ca,cc,ms,by omega,by go_num,rfl,aB,ah,av,az⟩
     case measure=>simp[intOf];omega
    ·have aL:=a8 (aM.out U);rw[decide_eq_false U];have CT:=a8 (CG (w.heap.size+1+1) (w.heap.size+1) w4 Z s.val O (.string uxN) (.slice E z.length G) (.int .i64 ((dP z).2:Int)) ca cc ms c ah.out aB ax.out);obtain⟨q0,q1,q2,q3,q4,q5,q6⟩:=A.out.c7;clear U;go_wp2_with fail;refine CT.out.mono ?_;rintro e w7 (⟨aj,bc,bd,rfl,aP⟩|⟨aD,nm,t,rfl,aT⟩)
     ·have aX:=a8 aP;have av:=a8 (show jb Cd.uid (il s.dead cs) (s.next,[])=jb Cd.uid (il s.dead (cs.drop (j+1))) (max O (c.uid+1),ms++[c]) by rw[ap.out,aL.out,Kb aj]);have aU:=a8 (show∀x∈ms++[c],x∈cs from fun x hx=>by
       rcases Nb.1 hx with h|h
       ·exact az.out x h
       ·rw[M9.1 h];exact aG.out)
      have aE:(ms++[c]).length≤100:=(by have:=aj.2.1;simp;omega);have aZ:=a8 aE;clear aj aP CT q0 q1 q2 q3 q4 q5 q6 aE;go_wp2;go_roundw
      case rel=>exact⟨j+1,max O (c.uid+1),bc,bd,ms++[c],by omega,by go_num,rfl,aZ.out,aX,av,aU⟩
      case measure=>simp[intOf];omega
     ·have HN:=a8 (show jb Cd.uid (il s.dead cs) (s.next,[])=none by rw[ap.out,aL.out,Io aD]);have aV:=a8 (ip ag.out aT (by omega) ag.out.size);clear aD aT CT q0 q1 q2 q3 q4 q5 q6;unfold fA;go_wp2;go_ret2;exact Or.inr ⟨Or.inr ⟨w,s,cs,HO.out,aH.out,HN.out⟩,_,_,rfl,aV.out⟩
   ·have bf:j=cs.length:=(by omega);subst bf;have HF:=a8 (show jb Cd.uid (il s.dead cs) (s.next,[])=some (O,ms) by rw[ap.out,Nx];rfl);have ba:=a8 (show MdS w wr (w.heap.size+1+1) (w.heap.size+1) D s.val O (.string uxN) (.slice E z.length G) (.int .i64 ((dP z).2:Int)) s.dead ca cc ms from⟨HI.out.st,HI.out.row.mono ag.out.size,am.out.keep (HI.out.bel.block _ am.out.lt (by omega)),fun x hx=>aF.out x (az.out x hx),ip ag.out HI.out.bel (by omega) ag.out.size⟩);clear af;go_wp2;go_ret2;exact Or.inl ⟨w,s,O,ms,cs,_,_,ca,cc,HO.out,aH.out,HF.out,rfl,ba.out,aB,MJ _ _⟩
 ·have HN:=a8 (show nK (dP z).1=none by rw[←Hu];exact ho);have ak:=a8 ((((mu ae HA.out (fun k hk=>hk.elim (fun e=>by rw[e];omega) (fun e=>by rw[e];omega)) HA.out.size).setCell (p:=⟨w.heap.size+1+1,2,none⟩) (by simp only;omega) (.string ⟨#[]⟩)).setCell (p:=⟨w.heap.size+1+1,3,none⟩) (by simp only;omega) (.slice none 0 0)).setCell (p:=⟨w.heap.size+1+1,4,none⟩) (by simp only;omega) (.int .i64 0));obtain⟨-,-,n2,n3,n4⟩:=J.c5;have fz:=fun j=>J.fz j;clear ho J ae CL H1 H2 H3;unfold fA;go_wp2;go_ret2;exact Or.inr ⟨Or.inl HN.out,_,_,rfl,ak.out⟩
end
def rW(h:VH)(ls:List LM):VW:=if ls.all (fun m=>decide (m.body.length≤8000))=true then⟨0,h.kind,h.val,h.next,h.cur,ls⟩ else od 3
theorem yR(k:Int)(v n c g t:Nat)(ms:List XM)(d:List Nat):gA (mi ⟨0,k,v,n,c,g,t,ms,d⟩)=rW ⟨k,v,n,c⟩ (ms.map lmX):=by
 unfold mi rW;have e:(ms.map lmX).all (fun m=>decide (m.body.length≤8000))=ms.all (fun m=>decide (m.body.length≤8000)):=by
  rw[List.all_map];rfl
 rw[e];by_cases h:ms.all (fun m=>decide (m.body.length≤8000))=true
 ·rw[if_pos h,if_pos h];rfl
 ·rw[if_neg h,if_neg h];rfl
theorem oq{D:dQ}{z:List Nat}{s:IX}{r:List XM}(h:lT D z=some (s,r)):nI (dP z).1=some s∧eZ s.mails (dI D (eH s.gen))=some r:=by
 unfold lT at h;cases h1:nI (dP z).1 with
 |none=>rw[h1] at h;cases h
 |some s1=>
  rw[h1] at h;simp only at h;cases h2:eZ s1.mails (dI D (eH s1.gen)) with
  |none=>rw[h2] at h;cases h
  |some r1=>
   rw[h2] at h;simp only[Option.map_some,MK,Prod.mk.injEq] at h;obtain⟨rfl,rfl⟩:=h;exact⟨rfl,h2⟩
theorem Hf{D:dQ}{z:List Nat}(h:lT D z=none):eo D z=f8 3:=by
 unfold lT at h;unfold eo;cases h1:nI (dP z).1 with
 |none=>rfl
 |some s=>
  rw[h1] at h;simp only at h⊢;cases h2:eZ s.mails (dI D (eH s.gen)) with
  |none=>rfl
  |some r=>rw[h2] at h;cases h
theorem JI{D:dQ}{z:List Nat}{s:IX}{r:List XM}(h:lT D z=some (s,r))(G:(dI D gN).1=false):gA (eo D z)=rW ⟨1,s.val,s.next,0⟩ (r.map lmX):=by
 obtain⟨A,E⟩:=oq h;unfold eo;rw[A];simp only;rw[E];simp only;rw[G,if_neg (by simp)];exact yR ..
theorem Ll{D:dQ}{z:List Nat}(h:pc D z (dI D gN).2=none)(G:(dI D gN).1=true):eo D z=f8 3:=by
 unfold pc at h;cases h0:lT D z with
 |none=>exact Hf h0
 |some p=>
  obtain⟨s,r⟩:=p;rw[h0] at h;simp only at h;obtain⟨A,E⟩:=oq h0;unfold eo;rw[A];simp only;rw[E];simp only;rw[if_pos G];cases h3:fN (dP (dI D gN).2).1 with
  |none=>rfl
  |some c=>
   rw[h3] at h;simp only at h⊢;cases h4:gC D c r with
   |none=>rfl
   |some r'=>rw[h4] at h;cases h
theorem JO{D:dQ}{z:List Nat}{s:IX}{c:Nat}{A:List XM}(h:pc D z (dI D gN).2=some (s,c,A))(I:(dI D gN).1=true):gA (eo D z)=rW ⟨2,s.val,s.next,c⟩ (A.map lmX):=by
 unfold pc at h;cases h0:lT D z with
 |none=>rw[h0] at h;cases h
 |some p=>
  obtain⟨s1,r⟩:=p;rw[h0] at h;simp only at h;cases h3:fN (dP (dI D gN).2).1 with
  |none=>rw[h3] at h;cases h
  |some c1=>
   rw[h3] at h;simp only at h;cases h4:gC D c1 r with
   |none=>rw[h4] at h;cases h
   |some r1=>
    rw[h4] at h;simp only[Option.map_some,MK,Prod.mk.injEq] at h;obtain⟨rfl,rfl,rfl⟩:=h;obtain⟨E,G⟩:=oq h0;unfold eo;rw[E];simp only;rw[G];simp only;rw[if_pos I,h3];simp only;rw[h4];exact yR ..
noncomputable def xmC(D:dQ)(c:Cd):XM:=lr D c.name (c.uid,c.stamp,c.flags)
theorem EE{w0:World}{D:dQ}{all:List Cd}{dead:List Nat}(h:iZ w0 D (D.names.map (·.1)) all):(il dead all).map (xmC D)=gL D dead (D.names.map (·.1)):=by
 have E:(il dead all).map (xmC D)=((all.map cdK).filter (fun x=>decide (x.2.1∉dead))).map (fun x=>lr D x.1 x.2):=by
  unfold il;rw[List.filter_map,NC];rfl
 rw[E,h.1];unfold gL;generalize D.names.map (·.1)=ns
 induction ns with
 |nil=>rfl
 |cons nm ns ih=>
  rw[List.filterMap_cons,List.filterMap_cons];cases hc:fo nm.data.toList with
  |none=>
   have z:lq nm=none:=(by unfold lq;rw[hc];rfl);rw[z];exact ih
  |some k=>
   have z:lq nm=some (nm,k):=(by unfold lq;rw[hc];rfl);rw[z];simp only[List.filter_cons];by_cases A:k.1∈dead
   ·simpa[A] using ih
   ·simpa[A] using ih
theorem Aj{α β:Type}(f:α→β)(z:α→Nat)(I:β→Nat)(J:∀x,I (f x)=z x):∀(ys:List α) (n:Nat) (ms:List α),jb I (ys.map f) (n,ms.map f)=(jb z ys (n,ms)).map (fun p=>(p.1,p.2.map f))
 |[],n,ms=>rfl
 |c::r,n,ms=>by
  rw[M0,jb,jb,J];simp only[MI];by_cases A:z c=4294967295
  ·rw[if_pos A,if_pos A];rfl
  ·rw[if_neg A,if_neg A];by_cases E:ms.length=100
   ·rw[if_pos E,if_pos E];rfl
   ·rw[if_neg E,if_neg E];have e:((ms.map f).getLast?).map I=(ms.getLast?).map z:=by
     rw[List.getLast?_map,Option.map_map];congr 1;funext x;exact J x
    rw[e];by_cases G:(ms.getLast?).map z=some (z c)
    ·rw[if_pos G,if_pos G];rfl
    ·rw[if_neg G,if_neg G];have:=Aj f z I J r (max n (z c+1)) (ms++[c]);rw[MS] at this;exact this
theorem Hi{D:dQ}{cs:List Cd}{dead:List Nat}(h:mZ w0 D cs):goG XM.uid (fun m=>m.body.length) (gL D dead (D.names.map (·.1))) (n,[])=match jb Cd.uid (il dead cs) (n,[]) with
  |none=>none
  |some p=>if(p.2.map (xmC D)).all (fun c=>decide (c.body.length≤8000))=true then some (p.1,p.2.map (xmC D)) else none:=by
 obtain⟨all,I,E,A⟩:=h;have G:((il dead cs).map (xmC D)).Perm (gL D dead (D.names.map (·.1))):=by
  rw[←EE A];exact(I.filter _).map _
 have z:LeG XM.uid ((il dead cs).map (xmC D)):=by
  unfold LeG;rw[List.pairwise_map];exact(E.sublist List.filter_sublist).imp (fun h=>h)
 rw[JJ XM.uid (fun m=>m.body.length) G z];have e:=Aj (xmC D) Cd.uid XM.uid (fun x=>rfl) (il dead cs) n [];rw[Ns] at e;rw[e];cases jb Cd.uid (il dead cs) (n,[])<;>rfl
theorem JK{D:dQ}{z:List Nat}{s:UX}{cs ms:List Cd}(A:nK (dP z).1=some s)(E:mZ w0 D cs)(G:jb Cd.uid (il s.dead cs) (s.next,[])=some (n,ms)):gA (fJ D z)=rW ⟨3,s.val,n,0⟩ (ms.map (lmC D)):=by
 unfold fJ;rw[A];simp only;rw[Hi E,G];simp only;have e:(ms.map (lmC D)).all (fun m=>decide (m.body.length≤8000))=(ms.map (xmC D)).all (fun m=>decide (m.body.length≤8000)):=by
  rw[List.all_map,List.all_map];rfl
 unfold rW;rw[e];by_cases h:(ms.map (xmC D)).all (fun m=>decide (m.body.length≤8000))=true
 ·rw[if_pos h,if_pos h];unfold gA;rw[if_pos rfl];simp only[NC];rfl
 ·rw[if_neg h,if_neg h];rfl
theorem Lj{w0:World}{D:dQ}{z:List Nat}(h:nK (dP z).1=none∨∃w0 s cs,nK (dP z).1=some s∧mZ w0 D cs∧jb Cd.uid (il s.dead cs) (s.next,[])=none):fJ D z=f8 3:=by
 unfold fJ;rcases h with h|⟨w0,s,cs,A,E,G⟩
 ·rw[h]
 ·rw[A];simp only;rw[Hi E,G]
def jZ(w:World)(L:Nat)(sv:Value)(h:VH)(ls:List LM):Prop:=∃(T:TypeId) (f:FuncId) (gm:Nat),sv= .iface T (.pointer (some ⟨gm,0,none⟩))∧((T=139∧f=272)∨(T=136∧f=270)∨(T=142∧f=273))∧∀X,Below w.heap.size w X→Calls Tryz.prog f #[.pointer (some ⟨gm,0,none⟩)] X (AY L h ls X)
theorem BQ{s:IX}{D:dQ}{r:List XM}{ta:Option Addr}{tc:Nat}{I:Option Addr}{J:Nat}(h:MbS w0 w A s D M N O r ta tc I J bvs)(Q:lG s)(R:r.map lmX=List.zipWith (fun m x=>⟨m.uid,m.stamp,m.flags,x.body⟩) s.mails r):jZ w w0.heap.size (.iface 139 (.pointer (some ⟨A,0,none⟩))) ⟨1,s.val,s.next,0⟩ (r.map lmX):=by
 refine⟨_,_,A,rfl,.inl ⟨rfl,rfl⟩,fun X hX=> ?_⟩;have z:=h.below hX;obtain⟨ys,U,E,G,V⟩:=Hh (w0:=w0) z.len z.rl z.bod;have Y:∀k (K:k<ys.length) (z:k<s.mails.length),ys[k].x.uid=s.mails[k].uid∧ys[k].x.stamp=s.mails[k].stamp∧ys[k].x.flags=s.mails[k].flags:=fun k K L=>by
  have e:(ys.map VM.x)[k]? =(List.zipWith (fun m x=>(⟨m.uid,m.stamp,m.flags,x.body⟩:LM)) s.mails r)[k]? :=(by rw[G]);have Z:k<r.length:=(by rw[z.rl];exact L);rw[Nr,MM K,List.getElem?_zipWith,MM L,MM Z] at e;simp only[Option.map_some,MK] at e;rw[e];exact⟨rfl,rfl,rfl⟩
 refine(pa A w0.heap.size w0.heap.size X s M N O _ _ _ I J bvs ys z.mb.st z.mb.row z.len U E Y V Q.len).mono (fun e w' hp=>⟨ys,hp,G.trans R.symm,?_⟩);rw[E];exact z.apart
theorem xu{go:Nat}{D:dQ}{s:IX}{r:List XM}{U V Y Z l1 l2:Value}{fs:List Cd}{L:Option Addr}{M:Nat}{ta:Option Addr}{tc:Nat}{K:Option Addr}{N:Nat}{A:List LM}(h:MvS w0 w z go D s r U V Y Z l1 l2 c fs L M ta tc K N bvs)(I:lG s)(R:eP D)(E:fs.length≤r.length)(J:r.map lmX=List.zipWith (fun m x=>⟨m.uid,m.stamp,m.flags,x.body⟩) s.mails r)(G:A=fs.map (lmC D)++(r.drop fs.length).map lmX):jZ w w0.heap.size (.iface 136 (.pointer (some ⟨z,0,none⟩))) ⟨2,s.val,s.next,c⟩ A:=by
 refine⟨_,_,z,rfl,.inr (.inl ⟨rfl,rfl⟩),fun X Q=> ?_⟩;have O:=sM (h.below Q) I R E J;rw[G,List.map_drop];exact O
theorem up{K:Nat}{D:dQ}{val next:Nat}{u0 u1 u2:Value}{dead:List Nat}{G:Option Addr}{I:Nat}{ms:List Cd}(h:MdS w0 w z K D val next u0 u1 u2 dead G I ms)(Y:eP D)(hn:ms.length≤100):jZ w w0.heap.size (.iface 142 (.pointer (some ⟨z,0,none⟩))) ⟨3,val,next,0⟩ (ms.map (lmC D)):=by
 refine⟨_,_,z,rfl,.inr (.inr ⟨rfl,rfl⟩),fun X A=> ?_⟩;have E:=h.st.below A h.st.lt;refine(sI z 0 w0.heap.size w0 X (fun x=>(dI D x.name).2) val next G I ms (h.bel.trans (A.mono h.bel.size)) (E.cell 0) (E.cell 1) (E.cell 6) (b9.below h.row A (MH _)) (fun x J=>⟨(h.ok x J).tx,(h.ok x J).dl,by have:=pi Y x.name;omega⟩) (by omega)).mono (fun e w' V=> ?_);obtain⟨ys,⟨Z,mc,L,M,N,O⟩,Q,R⟩:=V;exact⟨ys,⟨Z,mc,L,M,fun m U=>(N m U).mono (MN h.bel.size A.size),O⟩,Q,R⟩
def SmL(ls:List LM):Prop:=ls.length≤100∧∀m∈ls,m.uid<4294967296∧m.flags<4294967296
theorem Bc{t:List UInt8}{k:Nat×Nat×Nat}(h:fo t=some k):k.1<4294967296∧k.2.2<4294967296:=by
 unfold fo at h;split at h
 ·next hx=>
  have A:=hx.choose_spec;rw[MK] at h;rw[←h];rcases A with⟨_,is,z,G⟩|⟨E,_⟩
  ·exact⟨z.u2,by rw[G];exact sR z.good⟩
  ·cases E
 ·cases h
theorem vM{D:dQ}{fs:List Cd}(h:∀x∈fs,Fz w0 D x):∀m∈fs.map (lmC D),m.uid<4294967296∧m.flags<4294967296:=fun m z=>by
 obtain⟨x,A,rfl⟩:=Na.1 z;exact Bc (h x A).card
theorem Is{s:IX}{r:List XM}(z:lG s)(E:r.map lmX=List.zipWith (fun m x=>⟨m.uid,m.stamp,m.flags,x.body⟩) s.mails r):∀m∈r.map lmX,m.uid<4294967296∧m.flags<4294967296:=fun m A=>by
 rw[E] at A;obtain⟨k,G,e⟩:=ND.1 A;rw[List.getElem_zipWith] at e;rw[List.length_zipWith] at G;have I:=z.uid (s.mails[k]'(by omega)) (MO _);have J:=z.flags (s.mails[k]'(by omega)) (MO _);rw[←e];exact⟨by simp only;omega,by simp only;omega⟩
theorem It{I:Nat}{s:IX}{D:dQ}{r:List XM}{M:Option Addr}{N:Nat}{E:Option Addr}{G:Nat}(h:MbS w0 w I s D J K L r M N E G bvs)(z:lG s)(A:r.map lmX=List.zipWith (fun m x=>⟨m.uid,m.stamp,m.flags,x.body⟩) s.mails r):SmL (r.map lmX):=
 ⟨by rw[MI,h.rl];exact z.len,Is z A⟩
theorem Ch{N go:Nat}{D:dQ}{s:IX}{r:List XM}{Q R U V Y:Value}{fs:List Cd}{K:Option Addr}{L:Nat}{Z:Option Addr}{tc:Nat}{J:Option Addr}{M:Nat}{G:List LM}(h:MvS w0 w N go D s r O Q R U V Y c fs K L Z tc J M bvs)(E:lG s)(aa:fs.length≤r.length)(I:r.map lmX=List.zipWith (fun m x=>⟨m.uid,m.stamp,m.flags,x.body⟩) s.mails r)(A:G=fs.map (lmC D)++(r.drop fs.length).map lmX):SmL G:=by
 have h1:=h.mb.rl;have h2:=E.len;refine⟨by rw[A,MT,MI,MI,MU];omega,fun m z=> ?_⟩;rw[A,Nb] at z;rcases z with z|z
 ·exact vM h.ok m z
 ·refine Is E I m ?_;rw[List.map_drop] at z;exact M7 z
theorem Au{G:Nat}{D:dQ}{val next:Nat}{u0 u1 u2:Value}{dead:List Nat}{A:Option Addr}{E:Nat}{ms:List Cd}(h:MdS w0 w G z D val next u0 u1 u2 dead A E ms)(I:ms.length≤100):SmL (ms.map (lmC D)):=
 ⟨by rw[MI];exact I,vM h.ok⟩
theorem jZ.below{L:Nat}{h:VH}{A:List LM}(I:jZ w L E h A)(z:Below w.heap.size w w'):jZ w' L E h A:=by
 obtain⟨T,f,G,e,K,J⟩:=I;exact⟨T,f,G,e,K,fun X M=>J X (z.trans (M.mono z.size))⟩
def mt(D:dQ)(ev:Value)(w:World)(e:Ending)(w':World):Prop:=
 (∃sv h ls L,e= .returned (.tuple #[sv,.nilIface])∧gA (fR D)=rW h ls∧jZ w' L sv h ls∧SmL ls∧w.heap.size≤L∧Below w.heap.size w w')∨
 (∃x nm t,e= .returned (.tuple #[x,fA nm t])∧gA (fR D)=od 3∧Below w.heap.size w w')∨
 (e= .returned (.tuple #[.nilIface,ev])∧gA (fR D)=od 2∧Below w.heap.size w w')
theorem ph{D:dQ}(z:eP D)(h:(dI D ixN).1=true):fR D=eo D (dI D ixN).2:=by
 unfold fR;rw[if_pos z,if_pos h]
theorem Ag{D:dQ}(A:eP D)(h:(dI D ixN).1=false)(z:(dI D uxN).1=true):fR D=fJ D (dI D uxN).2:=by
 unfold fR;rw[if_pos A,h,if_neg (by simp),if_pos z]
theorem If{D:dQ}(A:eP D)(h:(dI D ixN).1=false)(z:(dI D uxN).1=false):fR D=f8 2:=by
 unfold fR;rw[if_pos A,h,if_neg (by simp),z,if_neg (by simp)]
theorem xB(v:Value)(D:dQ)(Q:Value)(w:World)(hv:eP D)(hd:km w v D)(hE:nD w)(aj:w.cell? ⟨1,0,none⟩=some Q):
  Calls Tryz.prog 43 #[v] w (mt D Q w):=by
 have HD:=a8 hd;obtain⟨a1,c1,a2,c2,a3,c3,a4,c4,ak,r1,r2,r3,r4⟩:=hd;subst ak;have hA:=nAl w (.cells #[.slice a1 D.nodes.length c1,.slice a2 D.names.length c2,.slice a3 D.kept.length c3,.slice a4 D.pend.length c4,.int .i64 D.quota] 37);have L0:=dN w #[.slice a1 D.nodes.length c1,.slice a2 D.names.length c2,.slice a3 D.kept.length c3,.slice a4 D.pend.length c4,.int .i64 D.quota] 37;have I:=a8 hv;have HE:=a8 hE;have ah:=a8 aj;have HA:=a8 hA;have Z:=a8 L0;clear r1 r2 r3 r4 hv hE aj hA L0;go_enter Tryz.func43,Tryz.ntmps43;go_upto_region 1 with fail;generalize w.alloc (.cells #[.slice a1 D.nodes.length c1,.slice a2 D.names.length c2,.slice a3 D.kept.length c3,.slice a4 D.pend.length c4,.int .i64 D.quota] 37)=w1 at HA Z⊢;obtain⟨J,K,L,M,N⟩:=Z.out.c5;have Y:=a8 (nc _ D ixN w w1 I.out HD.out HA.out);go_wp2_with fail;refine Y.out.mono ?_;rintro e w2 ⟨ia,ic,rfl,hi,ac⟩;have HI:=a8 hi;have af:=bTr HA ac;have H2:=a8 (Z.out.below ac Z.out.lt);clear hi ac J K L M N Y;go_upto_region 2 with fail;obtain⟨J,K,L,M,N⟩:=H2.out.c5;have Y:=a8 (nc _ D gN w w2 I.out HD.out af.out);go_wp2_with fail;refine Y.out.mono ?_;rintro e w3 ⟨la,lc,rfl,hl,ad⟩;have HL:=a8 hl;have ag:=bTr af ad;have H3:=a8 (H2.out.below ad H2.out.lt);clear hl ad J K L M N Y;go_upto_region 3 with fail;obtain⟨J,K,L,M,N⟩:=H3.out.c5;have Y:=a8 (nc _ D uxN w w3 I.out HD.out ag.out);go_wp2_with fail;refine Y.out.mono ?_;rintro e U ⟨ua,uc,rfl,hu,ae⟩;have HU:=a8 hu;have z:=bTr ag ae;have H4:=a8 (H3.out.below ae H3.out.lt);clear hu ae J K L M N Y;obtain⟨J,K,L,M,N⟩:=H4.out.c5;cases hix:(dI D ixN).1 with
 |true=>
  have V:=a8 hix;cases hcu:(dI D gN).1 with
  |true=>
   have ab:=a8 hcu;have O:=a8 (tg _ D ia ic (dI D ixN).2 la lc (dI D gN).2 U I.out (HD.out.below z.out) (HI.out.below z.out) (HL.out.below z.out) (HE.out.below z.out));clear hix hcu;go_wp2_with fail;refine O.out.mono ?_;rintro e w5 (⟨w0,gm,go,s,r,c,r',fs,ca,cc,ta,tc,am,cm,bvs,E,A,R,h4,h5,rfl,h6,h7⟩|⟨E,nm,t,rfl,A⟩)
   ·have aa:=bTr z h7;have G:=a8 (show mt D Q w (.returned (.tuple #[.iface 136 (.pointer (some ⟨gm,0,none⟩)),.nilIface])) w5 from .inl ⟨_,_,_,_,rfl,(congrArg gA (ph I.out V.out)).trans (JO E ab.out),xu h6 h5 I.out h4 (ly A).1 R,Ch h6 h5 h4 (ly A).1 R,aa.out.size,aa.out.trans (h6.mb.mb.bel.mono aa.out.size)⟩);clear E A R h4 h5 h6 h7 O J K L M N;go_wp2;go_ret2;exact G.out
   ·have G:=a8 (show mt D Q w (.returned (.tuple #[.iface 136 (.pointer none),fA nm t])) w5 from .inr (.inl ⟨_,_,_,rfl,by rw[ph I.out V.out,Ll E ab.out];rfl,z.out.trans (A.mono z.out.size)⟩));clear E A O J K L M N;unfold fA at G⊢;go_wp2;go_ret2;exact G.out
  |false=>
   have ab:=a8 hcu;have O:=a8 (pg _ D ia ic (dI D ixN).2 U I.out (HD.out.below z.out) (HI.out.below z.out) (HE.out.below z.out));clear hix hcu;go_wp2_with fail;refine O.out.mono ?_;rintro e w5 (⟨s,r,gm,ta,tc,am,cm,bvs,E,rfl,A,R⟩|⟨E,nm,t,rfl,A⟩)
   ·have G:=a8 (show mt D Q w (.returned (.tuple #[.iface 139 (.pointer (some ⟨gm,0,none⟩)),.nilIface])) w5 from .inl ⟨_,_,_,_,rfl,(congrArg gA (ph I.out V.out)).trans (JI E ab.out),BQ A R (ly E).1,It A R (ly E).1,z.out.size,z.out.trans (A.mb.bel.mono z.out.size)⟩);clear E A R O J K L M N;go_wp2;go_ret2;exact G.out
   ·have G:=a8 (show mt D Q w (.returned (.tuple #[.iface 139 (.pointer none),fA nm t])) w5 from .inr (.inl ⟨_,_,_,rfl,by rw[ph I.out V.out,Hf E];rfl,z.out.trans (A.mono z.out.size)⟩));clear E A O J K L M N;unfold fA at G⊢;go_wp2;go_ret2;exact G.out
 |false=>
  have V:=a8 hix;cases hux:(dI D uxN).1 with
  |true=>
   have ai:=a8 hux;have O:=a8 (re _ D ua uc (dI D uxN).2 U I.out (HD.out.below z.out) (HU.out.below z.out) (HE.out.below z.out));clear hix hux;go_wp2_with fail;refine O.out.mono ?_;rintro e w5 (⟨w0,s,n,ms,cs,gm,bd,ca,cc,E,A,R,rfl,h4,h5,h6⟩|⟨E,nm,t,rfl,A⟩)
   ·have aa:=bTr z h6;have G:=a8 (show mt D Q w (.returned (.tuple #[.iface 142 (.pointer (some ⟨gm,0,none⟩)),.nilIface])) w5 from .inl ⟨_,_,_,_,rfl,(congrArg gA (Ag I.out V.out ai.out)).trans (JK E A R),up h4 I.out h5,Au h4 h5,aa.out.size,aa.out.trans (h4.bel.mono aa.out.size)⟩);clear E A R h4 h5 h6 O J K L M N;go_wp2;go_ret2;exact G.out
   ·have G:=a8 (show mt D Q w (.returned (.tuple #[.iface 142 (.pointer none),fA nm t])) w5 from .inr (.inl ⟨_,_,_,rfl,by rw[Ag I.out V.out ai.out,Lj (w0:=w) E];rfl,z.out.trans (A.mono z.out.size)⟩));clear E A O J K L M N;unfold fA at G⊢;go_wp2;go_ret2;exact G.out
  |false=>
   have G:=a8 (show∀n,mt D Q w (.returned (.tuple #[.nilIface,Q])) (U.drewN n) from fun n=> .inr (.inr ⟨rfl,by rw[If I.out V.out hux];rfl,below_drewN z.out n⟩));have hg:=(z.out.cell (p:=⟨1,0,none⟩) (dH ah.out)).trans ah.out;clear hix hux J K L M N;go_upto_region 10 with fail;go_quiet(fail);go_wp2;go_ret2;exact G.out _
def pD(D:dQ)(nv ev:Value)(w:World)(e:Ending)(w':World):Prop:=
 (∃sv h ls L,e= .returned (.tuple #[sv,.nilIface])∧gA (fR D)=⟨0,h.kind,h.val,h.next,h.cur,ls⟩∧jZ w' L sv h ls∧SmL ls∧w.heap.size≤L∧Below w.heap.size w w')∨
 (∃nm t,e= .returned (.tuple #[.nilIface,fA nm t])∧gA (fR D)=od 3∧Below w.heap.size w w')∨
 (e= .returned (.tuple #[.nilIface,ev])∧gA (fR D)=od 2∧Below w.heap.size w w')∨
 (e= .returned (.tuple #[.nilIface,nv])∧gA (fR D)=od 1∧Below w.heap.size w w')
theorem JB(v:Value)(w:World):(Go.method 492 139 v "loop.example/s02349/impl.look").run Tryz.prog w= .ok (272,v) w:=by kernel_rfl
theorem JD(v:Value)(w:World):(Go.method 492 136 v "loop.example/s02349/impl.look").run Tryz.prog w= .ok (270,v) w:=by kernel_rfl
theorem JC(v:Value)(w:World):(Go.method 492 142 v "loop.example/s02349/impl.look").run Tryz.prog w= .ok (273,v) w:=by kernel_rfl
theorem tA{L:Nat}{h:VH}{A:List LM}(I:jZ w L E h A):∃(T:TypeId) (f:FuncId) (p:Option Addr),E= .iface T (.pointer p)∧(∀(v:Value) (w:World),(Go.method 492 T v "loop.example/s02349/impl.look").run Tryz.prog w= .ok (f,v) w)∧(∀(a:Value) (w:World),(callFunc f #[a]).run Tryz.prog w= .ok (.enter f #[a]) w)∧∀X,Below w.heap.size w X→Calls Tryz.prog f #[.pointer p] X (AY L h A X):=by
 obtain⟨T,f,J,e,z,G⟩:=I;refine⟨T,f,_,e,?_,?_,G⟩
 ·rcases z with⟨rfl,rfl⟩|⟨rfl,rfl⟩|⟨rfl,rfl⟩
  ·exact JB
  ·exact JD
  ·exact JC
 ·rcases z with⟨rfl,rfl⟩|⟨rfl,rfl⟩|⟨rfl,rfl⟩
  ·intro a w;go_simp
  ·intro a w;go_simp
  ·intro a w;go_simp
theorem Jp{h:VH}{z:List LM}(A:∀m∈z,m.body.length≤8000):rW h z=⟨0,h.kind,h.val,h.next,h.cur,z⟩:=by
 unfold rW;rw[if_pos (List.all_eq_true.2 (fun m E=>decide_eq_true (A m E)))]
theorem Jo{h:VH}{z:List LM}{m:LM}(A:m∈z)(E:8000<m.body.length):rW h z=od 3:=by
 unfold rW;rw[if_neg];intro e;have:=of_decide_eq_true (List.all_eq_true.1 e m A);omega
theorem uw(v:Value)(D:dQ)(N:Value)(J:TypeId)(I:Option Addr)(w:World)(hM:kW D)(hw:∀o∈D.pend,(Lit.int .i64 o.2.2.2).wf=true)(hd:km w v D)(hE:nD w)(ax:w.cell? ⟨0,0,none⟩=some N)(aw:w.cell? ⟨1,0,none⟩=some (.iface J (.pointer I))):
  Calls Tryz.prog 21 #[v] w (pD D N (.iface J (.pointer I)) w):=by
 have HD:=a8 hd;obtain⟨V,c1,Y,c2,Z,c3,a4,c4,aM,r1,r2,r3,r4⟩:=hd;subst aM;have hA:=nAl w (.cells #[.slice V D.nodes.length c1,.slice Y D.names.length c2,.slice Z D.kept.length c3,.slice a4 D.pend.length c4,.int .i64 D.quota] 37);have L0:=dN w #[.slice V D.nodes.length c1,.slice Y D.names.length c2,.slice Z D.kept.length c3,.slice a4 D.pend.length c4,.int .i64 D.quota] 37;have HE:=a8 hE;have am:=a8 ax;have al:=a8 aw;have HA:=a8 hA;have K:=a8 L0;have CV:=a8 (zf (HD.out.below hA).at hM hw);clear r1 r2 r3 r4 hE aw ax hA L0 hM hw;go_enter Tryz.func21,Tryz.ntmps21;go_upto_region 1 with fail;generalize w.alloc (.cells #[.slice V D.nodes.length c1,.slice Y D.names.length c2,.slice Z D.kept.length c3,.slice a4 D.pend.length c4,.int .i64 D.quota] 37)=w1 at HA K CV⊢;obtain⟨d0,d1,d2,d3,d4⟩:=K.out.c5;go_wp2_with fail;refine CV.out.mono ?_;rintro e O ⟨ok,rfl,ay,ag⟩;have z:=bTr HA ag;have R:=a8 (K.out.below ag K.out.lt);have an:=a8 ay;clear ag ay d0 d1 d2 d3 d4 CV;cases ok with
 |false=>
  have A:=a8 (show∀n,pD D N (.iface J (.pointer I)) w (.returned (.tuple #[.nilIface,N])) (O.drewN n) from fun n=> .inr (.inr (.inr ⟨rfl,by rw[vL (fun h=>by have:=an.out.2 h;cases this)];rfl,below_drewN z.out n⟩)));have hg:=(z.out.cell (p:=⟨0,0,none⟩) (dH am.out)).trans am.out;go_upto_region 2 with fail;go_quiet(fail);go_wp2;go_ret2;exact A.out _
 |true=>
  have HV:=a8 (an.out.1 rfl);obtain⟨d0,d1,d2,d3,d4⟩:=R.out.c5;have CR:=a8 (xB _ D (.iface J (.pointer I)) O HV.out (HD.out.below z.out) (HE.out.below z.out) ((z.out.cell (p:=⟨1,0,none⟩) (dH al.out)).trans al.out));go_wp2_with fail;refine CR.out.mono ?_;rintro e w3 (⟨sv,h,ls,L,rfl,E,G,h3,h4,h5⟩|⟨x,nm,t,rfl,E,G⟩|⟨rfl,E,G⟩)
  ·have aC:=bTr z h5;have aD:=a8 (MN z.out.size h4);have HS:=a8 G;have ap:=a8 E;have af:=a8 h3;obtain⟨T,f,p,aL,hm,aH,hc⟩:=tA G;subst aL;have CL:=a8 (hc w3 (MJ _ _));clear E G h3 h4 h5 hc CR d0 d1 d2 d3 d4;go_wp2_with fail;refine CL.out.mono ?_;rintro e w4 ⟨ys,⟨ma,mc,rfl,ho,aB,ah⟩,ai,aF⟩;have aa:=bTr aC ah;have aE:=a8 (HS.out.below ah);have HO:=a8 ho;have aq:=a8 ai;have aN:ys.length=ls.length:=(by rw[←ai,MI]);have aK:=af.out.1;have ak:ys.length≤100:=(by omega);have HN:=a8 ak;clear ho aB ah ai aF CL HS hm aH aN aK ak;have aP:=tm;go_wp2;go_loopw [7,24] (fun _ i wr=>∃j:Nat,j≤ys.length∧i= .int .i64 (j:Int)∧Hid (Below w4.heap.size w4 wr∧∀m∈ys.take j,m.x.body.length≤8000)) (fun _ i _=>ys.length-(intOf i).toNat)
   case atStart=>exact⟨0,MQ _,rfl,a8 ⟨MJ _ _,by simp⟩⟩
   case round=>
    obtain⟨j,hj,rfl,HI⟩:=hrel;by_cases ab:j<ys.length
    ·have aO:(j:Int)<(ys.length:Int):=(by omega);have aQ:j<100:=(by have:=HN.out;omega);obtain⟨g,aI,_,_⟩:=HO.out.at0 (by rw[MI];omega);subst aI;have Q:=a8 (show∀k (hk:k<4),wr.cell? ⟨g,j*4+k,none⟩=(vmC ys[j])[k]? from fun k hk=>by
      have E:=HO.out.cell j k (by rw[MI];exact ab) (by rw[MY];exact hk);rw[d5 (HI.out.1.block g (b9.lt HO.out g rfl).2),E];simp only[MY];exact(MM _).symm)
     have ao:=a8 (show ys.take (j+1)=ys.take j++[ys[j]] from gF ys j ab);have ae:=a8 (show ys[j].x∈ls by rw[←aq.out];exact Na.2 ⟨_,MO ab,rfl⟩);generalize ys[j]=m at Q ao ae;have az:=af.out.2 _ ae.out;have k0:wr.cell? ⟨g,j*4,none⟩=some (.int .u32 (m.x.uid:Int)):=Q.out 0 (by omega);have k1:wr.cell? ⟨g,j*4+1,none⟩=some (.int .i64 (m.x.stamp:Int)):=Q.out 1 (by omega);have k2:wr.cell? ⟨g,j*4+2,none⟩=some (.int .u32 (m.x.flags:Int)):=Q.out 2 (by omega);have k3:wr.cell? ⟨g,j*4+3,none⟩=some (.slice m.ba m.x.body.length m.bc):=Q.out 3 (by omega);have av:=nAl wr (.cells #[.int .u32 (m.x.uid:Int),.int .i64 (m.x.stamp:Int),.int .u32 (m.x.flags:Int),.slice m.ba m.x.body.length m.bc] 57);have U:=a8 (dN wr #[.int .u32 (m.x.uid:Int),.int .i64 (m.x.stamp:Int),.int .u32 (m.x.flags:Int),.slice m.ba m.x.body.length m.bc] 57);have ac:=a8 (HI.out.1.trans (av.mono HI.out.1.size));have aj:=a8 az;clear av Q az;go_upto_region 9 with fail;generalize wr.alloc (.cells #[.int .u32 (m.x.uid:Int),.int .i64 (m.x.stamp:Int),.int .u32 (m.x.flags:Int),.slice m.ba m.x.body.length m.bc] 57)=X at U ac⊢;clear k0 k1 k2 k3;obtain⟨m0,m1,m2,m3⟩:=U.out.c4;by_cases au:m.x.body.length≤8000
     ·have aG:¬(8000:Int)<(m.x.body.length:Int):=(by omega);have HF:=a8 (show Below w4.heap.size w4 X∧∀m∈ys.take (j+1),m.x.body.length≤8000 from⟨ac.out,fun q M=>by
       rw[ao.out,Nb] at M;rcases M with M|M
       ·exact HI.out.2 q M
       ·rw[M9.1 M];exact au⟩)
      go_wp2;exact⟨⟨j+1,by omega,by go_num,HF⟩,by simp[intOf];omega⟩
     ·have aG:(8000:Int)<(m.x.body.length:Int):=(by omega);have ad:=a8 (aa.out.trans (ac.out.mono aa.out.size));have aA:=a8 (show gA (fR D)=od 3 by rw[ap.out];exact Jo ae.out (by omega));have CN:=a8 (j7 m.x.uid (m.x.stamp:Int) m.x.flags X aj.out.1 aj.out.2 (HE.out.below ad.out).tab);clear au;go_wp2_with fail;refine CN.out.mono ?_;rintro e w6 ⟨rfl,ar⟩;have A:=a8 (show∀nm,pD D N (.iface J (.pointer I)) w (.returned (.tuple #[.nilIface,fA nm ⟨#[97,32,98,111,100,121,32,116,104,97,116,32,105,115,32,116,111,111,32,108,111,110,103]⟩])) w6 from fun nm=> .inr (.inl ⟨_,_,rfl,aA.out,ad.out.trans (ar.mono ad.out.size)⟩));unfold fA at A;clear ar CN m0 m1 m2 m3;go_wp2;go_ret2;exact A.out _
    ·have aJ:j=ys.length:=(by omega);subst aJ;have A:=a8 (show pD D N (.iface J (.pointer I)) w (.returned (.tuple #[.iface T (.pointer p),.nilIface])) wr from .inl ⟨_,h,ls,L,rfl,by
      rw[ap.out];refine Jp (fun m hm=> ?_);rw[←aq.out] at hm;obtain⟨q,M,rfl⟩:=Na.1 hm;refine HI.out.2 q ?_;rw[NE];exact M,aE.out.below HI.out.1,af.out,aD.out,aa.out.trans (HI.out.1.mono aa.out.size)⟩)
     clear ab;go_wp2;go_ret2;exact A.out
  ·have A:=a8 (show pD D N (.iface J (.pointer I)) w (.returned (.tuple #[.nilIface,fA nm t])) w3 from .inr (.inl ⟨nm,t,rfl,E,z.out.trans (G.mono z.out.size)⟩));clear E G CR d0 d1 d2 d3 d4;unfold fA at A⊢;go_wp2;go_ret2;exact A.out
  ·have A:=a8 (show pD D N (.iface J (.pointer I)) w (.returned (.tuple #[.nilIface,.iface J (.pointer I)])) w3 from .inr (.inr (.inl ⟨rfl,E,z.out.trans (G.mono z.out.size)⟩)));clear E G CR d0 d1 d2 d3 d4;go_wp2;go_ret2;exact A.out
end Go.Proofs.YtpdbolihakojcaaGreatDoor
