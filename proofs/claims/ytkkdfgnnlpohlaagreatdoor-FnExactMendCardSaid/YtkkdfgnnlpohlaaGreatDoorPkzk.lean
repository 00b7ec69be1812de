import Derived.Test.YtkkdfgnnlpohlaaGreatDoorPkzi
import Derived.Test.YtkkdfgnnlpohlaaGreatDoorPkzh
namespace Go.Proofs.YtkkdfgnnlpohlaaGreatDoor
set_option maxRecDepth 20000
set_option linter.unusedVariables false
set_option linter.unusedSimpArgs false
set_option maxHeartbeats 4000000
open Go.RowKit Go.Proofs.Tryz
variable {W X Y w w' w0 wr : World} {A B at_ b b2 base' c cap e f g go gs hi i j k lo m n s u val z : Nat} {E G I J K L M N O u0 u1 u2 v0 v1 v2 v3 v4 v5 v6 x y : Value} {o : Oper} {Q : Exit → Act → World → Prop} {cs tmps : Array Value} {t : TypeId} {p : Addr} {l : List Nat} {bvs xs : List Value} {a : List UInt8} {first ok : Bool}
section
open Go.Maps
def gS(dead:LN)(cs:List Cd):List Cd:=cs.filter fun c=>decide (c.uid∉dead)
structure MdS(w0 w:World)(gm bd:Nat)(D:dO)(val next:Nat)(u0 u1 u2:Value)(dead:LN)(ca:OA)(cc:Nat)(ms:List Cd):Prop where
 st:Blk w gm #[.int .u32 (val:Int),.int .u32 (next:Int),u0,u1,u2,.map (some bd),.slice ca ms.length cc] 204
 row:l7 w w0.heap.size (.slice ca ms.length cc) ms
 dd:iH w bd dead
 ok:∀x∈ms,Fj w0 D x
 bel:Below w0.heap.size w0 w
def kI(w0:World)(D:dO)(cs:List Cd):Prop:=∃all,cs.Perm all∧LeG Cd.uid cs∧jw w0 D (D.names.map (·.1)) all
def ML(D:dO)(ua:OA)(uc:Nat)(data:LN)(w:World)(e:Ending)(w':World):Prop:=
 (∃w0 s n ms cs gm bd ca cc,mm (dP data).1=some s∧kI w0 D cs∧iU Cd.uid (gS s.dead cs) (s.next,[])=some (n,ms)∧e= .returned (.tuple #[pP gm,.nilIface])∧MdS w0 w' gm bd D s.val n (.string uxN) (.slice ua data.length uc) (.int .i64 ((dP data).2:Int)) s.dead ca cc ms∧ms.length≤100∧Below w.heap.size w w0)∨
 ((mm (dP data).1=none∨∃w0 s cs,mm (dP data).1=some s∧kI w0 D cs∧iU Cd.uid (gS s.dead cs) (s.next,[])=none)∧∃nm t,e= .returned (.tuple #[.pointer none,gB nm t])∧Below w.heap.size w w')
theorem NZ(w:World)(A M:Array Value)(t u:TypeId):Blk (((w.alloc (.cells A t)).alloc (.map #[] 0)).alloc (.cells M u)) w.heap.size A t∧iH (((w.alloc (.cells A t)).alloc (.map #[] 0)).alloc (.cells M u)) (w.heap.size+1) []∧Blk (((w.alloc (.cells A t)).alloc (.map #[] 0)).alloc (.cells M u)) (w.heap.size+1+1) M u∧Below w.heap.size w (((w.alloc (.cells A t)).alloc (.map #[] 0)).alloc (.cells M u)):=by
 have G:(w.alloc (.cells A t)).heap.size=w.heap.size+1:=OG _ _;have L:((w.alloc (.cells A t)).alloc (.map #[] 0)).heap.size=w.heap.size+1+1:=(by rw[OG,G]);have b1:=dQ w A t;have z:=(OX (w.alloc (.cells A t)).heap.size (w.alloc (.cells A t))).alloc (OV _) (.map #[] 0);have J:=(OX ((w.alloc (.cells A t)).alloc (.map #[] 0)).heap.size ((w.alloc (.cells A t)).alloc (.map #[] 0))).alloc (OV _) (.cells M u);have I:=nAl w (.cells A t);have b2:=b1.below z b1.lt;have K:=World.ownsMap_made (H:=Unit) (w.alloc (.cells A t)) prog 44 unitElem;rw[G] at K;have E:=dQ ((w.alloc (.cells A t)).alloc (.map #[] 0)) M u;rw[L] at E;exact⟨b2.below J b2.lt,⟨0,_,OV _,K.alloc _,fun u _=>by simp[Maps.has]⟩,E,I.trans ((z.trans (J.mono z.size)).mono I.size)⟩
def RuS(gm bd gc:Nat)(u:Value)(dead:LN)(w:World):Prop:=w.cell? ⟨gm,5,none⟩=some (.map (some bd))∧w.cell? ⟨gc,4,none⟩=some u∧iH w bd dead
theorem Gf{w:World}{A u:Nat}{dead:LN}(h:iH w A dead)(E:u≤4294967295):(Instr.lookup 201 (.map (some A)) (.int .u32 (u:Int)) true).run prog w= .ok (.tuple #[.agg #[],.bool (decide (u∈dead))]) w:=by
 obtain⟨n,D,K,G,I⟩:=h;obtain⟨v,L,z,J⟩:=G.look_ok NW underlying201 (mJ w) unitElem_mk (NV u E);obtain⟨rfl,_⟩:=unitElem_inv J;rw[I u E] at z;exact z
theorem Gc{dead:LN}{cs:List Cd}{j:Nat}(h:j<cs.length)(z:cs[j].uid∉dead):gS dead (cs.drop j)=cs[j]::gS dead (cs.drop (j+1)):=by
 unfold gS;rw[fP cs j h,List.filter_cons,OS (ON z)]
theorem Jb{dead:LN}{cs:List Cd}{j:Nat}(h:j<cs.length)(z:cs[j].uid∈dead):gS dead (cs.drop j)=gS dead (cs.drop (j+1)):=by
 unfold gS;rw[fP cs j h,List.filter_cons,OR (by simpa using z)]
theorem LZ{c:Cd}{r ms:List Cd}{n:Nat}(h:okT c ms):iU Cd.uid (c::r) (n,ms)=iU Cd.uid r (max n (c.uid+1),ms++[c]):=by
 rw[iU,OR h.1,OR h.2.1,OR h.2.2]
theorem J2{c:Cd}{r ms:List Cd}{n:Nat}(h:¬okT c ms):iU Cd.uid (c::r) (n,ms)=none:=by
 rw[iU];by_cases z:c.uid=4294967295
 ·rw[OS z]
 ·rw[OR z];by_cases A:ms.length=100
  ·rw[OS A]
  ·rw[OR A];by_cases E:(ms.getLast?.map Cd.uid)=some c.uid
   ·rw[OS E]
   ·exact OH ⟨z,A,E⟩ h
theorem Hu{t:List UInt8}{u z f:Nat}(h:eR t=some (u,z,f)):u≤4294967295:=tf h
theorem sB(v:Value)(D:dO)(E:OA)(G:Nat)(z:LN)(w:World)(hv:eM D)(hd:kJ w v D)(hi:fV w E G z)(hE:oH w):
  Calls prog 90 #[v,.slice E z.length G] w (ML D E G z w):=by
 have bm:∀(fn:Fn) (first cap:Array Value) (w:World),(Instr.makeFunc fn first cap).run prog w= .ok (.func fn first cap) w:=fun _ _ _ _=>rfl;have bg:= @run_makeMap prog;have HD:=a8 hd;obtain⟨a1,c1,a2,c2,a3,c3,a4,c4,bi,r1,r2,r3,r4⟩:=hd;subst bi;have HV:=a8 hv;have HE:=a8 hE;have HI:=a8 hi;clear r1 r2 r3 r4 hv hE hi;go_enter func90,ntmps90;go_wp2_with fail;obtain⟨L1,L2,L3,hA⟩:=NZ w (dkA a1 c1 a2 c2 a3 c3 a4 c4 D) #[.int .u32 0,.int .u32 0,.string ⟨#[]⟩,sN,.int .i64 0,.map (some (w.heap.size+1)),sN] 34 204;have HA:=a8 hA;have H1:=a8 L1;have H2:=a8 L2;have H3:=a8 L3;clear L1 L2 L3 hA bg;generalize (((w.alloc (.cells (dkA a1 c1 a2 c2 a3 c3 a4 c4 D) 34)).alloc (.map #[] 0)).alloc (.cells #[.int .u32 0,.int .u32 0,.string ⟨#[]⟩,sN,.int .i64 0,.map (some (w.heap.size+1)),sN] 204))=w1 at HA H1 H2 H3⊢;have CL:=a8 (nV (Kx (w.heap.size+1+1) (w.heap.size+1) w w1 HE HA (by omega) (by omega) (by omega) H3 H2) uxN E G z (HI.below HA));refine CL.mono ?_;rintro e L (⟨s,ho,rfl,⟨J,U⟩,⟨n9,bh,aj⟩,ae⟩|⟨ho,t,rfl,ae,s9,J⟩)
 ·have HO:=a8 (show mm (dP z).1=some s by rw[←JC];exact ho);have ak:=a8 (nG ae HA (fun k hk=>hk.elim (fun e=>by rw[e];omega) (fun e=>by rw[e];omega)) HA.size);obtain⟨-,-,n2,n3,n4⟩:=J.c5;have fz:=fun j=>J.fz j;have A:=a8 (show Blk (((L.setCell ⟨w.heap.size+1+1,2,none⟩ (.string uxN)).setCell ⟨w.heap.size+1+1,3,none⟩ (.slice E z.length G)).setCell ⟨w.heap.size+1+1,4,none⟩ (.int .i64 ((dP z).2:Int))) (w.heap.size+1+1) #[uI s.val,uI s.next,.string uxN,.slice E z.length G,.int .i64 ((dP z).2:Int),.map (some (w.heap.size+1)),sN] 204 from((J.set 2 (.string uxN)).set 3 (.slice E z.length G)).set 4 (.int .i64 ((dP z).2:Int)));have al:=a8 (show iH (((L.setCell ⟨w.heap.size+1+1,2,none⟩ (.string uxN)).setCell ⟨w.heap.size+1+1,3,none⟩ (.slice E z.length G)).setCell ⟨w.heap.size+1+1,4,none⟩ (.int .i64 ((dP z).2:Int))) (w.heap.size+1) s.dead from((U.keep (OQ _ _ _ _ (by simp))).keep (OQ _ _ _ _ (by simp))).keep (OQ _ _ _ _ (by simp)));have aO:=a8 (eA H1 (ae.block w.heap.size H1.lt (fun h=>h.elim (fun e=>by omega) (fun e=>by omega))));have ab:=a8 (show Blk (((L.setCell ⟨w.heap.size+1+1,2,none⟩ (.string uxN)).setCell ⟨w.heap.size+1+1,3,none⟩ (.slice E z.length G)).setCell ⟨w.heap.size+1+1,4,none⟩ (.int .i64 ((dP z).2:Int))) w.heap.size (dkA a1 c1 a2 c2 a3 c3 a4 c4 D) 34 from((aO.other (by omega) _).other (by omega) _).other (by omega) _);have aw:=a8 (show Below w.heap.size w (((L.setCell ⟨w.heap.size+1+1,2,none⟩ (.string uxN)).setCell ⟨w.heap.size+1+1,3,none⟩ (.slice E z.length G)).setCell ⟨w.heap.size+1+1,4,none⟩ (.int .i64 ((dP z).2:Int))) from((ak.setCell (p:=⟨w.heap.size+1+1,2,none⟩) (by simp only;omega) _).setCell (p:=⟨w.heap.size+1+1,3,none⟩) (by simp only;omega) _).setCell (p:=⟨w.heap.size+1+1,4,none⟩) (by simp only;omega) _);clear ho J U aj ae CL aO ak H1 H2 H3 bh;go_upto_region 4 with fail;generalize (((L.setCell ⟨w.heap.size+1+1,2,none⟩ (.string uxN)).setCell ⟨w.heap.size+1+1,3,none⟩ (.slice E z.length G)).setCell ⟨w.heap.size+1+1,4,none⟩ (.int .i64 ((dP z).2:Int)))=w3 at A al ab aw⊢;clear n2 n3 n4 fz;have CC:=a8 (rz _ D w w3 HV HD aw HE);obtain⟨d0,d1,d2,d3,d4⟩:=ab.c5;go_wp2_with fail;refine CC.mono ?_;rintro e w4 ⟨aa,ac,cs,all,rfl,aC,au,aS,ar,ai⟩;clear d0 d1 d2 d3 d4 CC;have bb:=a8 (show cs.length≤300 from by
   have h1:=au.length_eq;have h2:=OL List.length ar.1;rw[OW] at h2;have h3:((D.names.map (·.1)).filterMap lx).length≤(D.names.map (·.1)).length:=List.length_filterMap_le _ _;rw[OW] at h3;have h4:=xw HV.out;omega)
  have aH:=a8 (show kI w D cs from⟨all,au,aS,ar⟩);have aF:=a8 (show∀x∈cs,Fj w D x from fun x hx=>ar.2 x (au.mem_iff.1 hx));have aN:=a8 aC;have ag:=bTr aw ai;have aY:=a8 (show MdR (w.heap.size+1+1) (w.heap.size+1) w4 w4 s.val s.next (.string uxN) (.slice E z.length G) (.int .i64 ((dP z).2:Int)) (sN) [] from⟨A.below ai A.lt,dM.nil _ _ _ _,dX.refl _ _ _,Pb A.lt ai.size⟩);have am:=a8 (al.keep (ai.block _ al.lt));have aW:=a8 (show∀g,(Value.slice aa cs.length ac).ownBlock=some g→g≠w.heap.size+1+1 from fun g hg e=>by have:=(dM.lt aC g hg).1;have:=A.lt;omega);clear au aS ar aC ai A al ab;go_wp2;have bj:cs.length≤300:=bb.out;go_loopw [7,9,10,11,31] (fun e7 _ _ _ i wr=>∃(j O:Nat) (ca:OA) (cc:Nat) (ms:List Cd),j≤cs.length∧i=iI j∧e7= .nilIface∧ms.length≤100∧Hid (MdR (w.heap.size+1+1) (w.heap.size+1) w4 wr s.val O (.string uxN) (.slice E z.length G) (.int .i64 ((dP z).2:Int)) (.slice ca ms.length cc) ms)∧Hid (iU Cd.uid (gS s.dead cs) (s.next,[])=iU Cd.uid (gS s.dead (cs.drop j)) (O,ms))∧Hid (∀x∈ms,x∈cs)) (fun _ _ _ _ i _=>cs.length-(intOf i).toNat)
  case atStart=>exact⟨0,s.next,none,0,[],O4 _,rfl,rfl,by simp,aY,a8 rfl,a8 (fun x hx=>by cases hx)⟩
  case round=>
   obtain⟨j,O,ca,cc,ms,hj,rfl,rfl,aB,HI,ap,az⟩:=hrel;by_cases af:j<cs.length
   ·have bk:(j:Int)<(cs.length:Int):=(by omega);obtain⟨N,be,_,aR⟩:=aN.at0 (by rw[OW];omega);subst be;have M:=a8 (show∀k (hk:k<7),wr.cell? ⟨N,j*7+k,none⟩=(ee cs[j])[k]? from fun k hk=>by
     rw[ef (HI.bel.block N aR (aW.out N rfl))];exact pd aN j af k hk)
    have aM:=a8 (Gc (dead:=s.dead) af);have aK:=a8 (Jb (dead:=s.dead) af);have ax:=a8 (Hu (aF.out cs[j] (O6 af)).card);have aG:=a8 (O6 af);generalize cs[j]=c at M aM aK ax aG;unfold ee at M;have k0:wr.cell? ⟨N,j*7,none⟩=some (.string c.name):=M.out 0 (by omega);have k1:wr.cell? ⟨N,j*7+1,none⟩=some (.slice c.ad c.dl c.dc):=M.out 1 (by omega);have k2:wr.cell? ⟨N,j*7+2,none⟩=some (iI c.dl):=M.out 2 (by omega);have k3:wr.cell? ⟨N,j*7+3,none⟩=some (.bool true):=M.out 3 (by omega);have k4:wr.cell? ⟨N,j*7+4,none⟩=some (uI c.uid):=M.out 4 (by omega);have k5:wr.cell? ⟨N,j*7+5,none⟩=some (iI c.stamp):=M.out 5 (by omega);have k6:wr.cell? ⟨N,j*7+6,none⟩=some (uI c.flags):=M.out 6 (by omega);have aQ:=nAl wr (.cells #[.string c.name,.slice c.ad c.dl c.dc,iI c.dl,.bool true,uI c.uid,iI c.stamp,uI c.flags] 217);have ay:=a8 (dQ wr #[.string c.name,.slice c.ad c.dl c.dc,iI c.dl,.bool true,uI c.uid,iI c.stamp,uI c.flags] 217);have aJ:=a8 (HI.below aQ);clear aQ M aR;go_upto_region 9 with fail;generalize wr.alloc (.cells #[.string c.name,.slice c.ad c.dl c.dc,iI c.dl,.bool true,uI c.uid,iI c.stamp,uI c.flags] 217)=X at ay aJ⊢;clear k0 k1 k2 k3 k4 k5 k6;have aI:=a8 (show∀Y,dX (w.heap.size+1+1) w4.heap.size w4 Y→iH Y (w.heap.size+1) s.dead from fun Y hY=>am.keep (hY.block _ am.lt (by omega)));have an:=a8 (aJ.below (OX _ _).drew);have ao:=a8 (ay.below (OX X.heap.size X).drew ay.lt);refine gF (by kernel_rfl) (RuS (w.heap.size+1+1) (w.heap.size+1) wr.heap.size (uI c.uid) s.dead) 13 ?_;generalize X.drew=V at an ao⊢;have I:RuS (w.heap.size+1+1) (w.heap.size+1) wr.heap.size (uI c.uid) s.dead V:=⟨an.st.cell 5,ao.cell 4,aI.out V an.bel⟩
    refine dZ 0 (pP (w.heap.size+1+1)) rfl I ?_ ?_
    ·rintro wz ⟨Q,R,z2⟩;go_simp
    simp only[dI,dJ,dK,dL];refine dZ 1 (pP (w.heap.size+1+1)) rfl I ?_ ?_
    ·rintro wz ⟨Q,R,z2⟩;go_simp
    simp only[dI,dJ,dK,dL];refine dZ 2 (.pointer (some ⟨w.heap.size+1+1,5,none⟩)) rfl I ?_ ?_
    ·rintro wz ⟨Q,R,z2⟩;go_simp
    simp only[dI,dJ,dK,dL];refine dZ 3 (.map (some (w.heap.size+1))) rfl I ?_ ?_
    ·rintro wz ⟨Q,R,z2⟩;go_simp
    simp only[dI,dJ,dK,dL];refine dZ 4 (.pointer (some ⟨wr.heap.size,3,none⟩)) rfl I ?_ ?_
    ·rintro wz ⟨Q,R,z2⟩;go_simp
    simp only[dI,dJ,dK,dL];refine dZ 5 (.pointer (some ⟨wr.heap.size,4,none⟩)) rfl I ?_ ?_
    ·rintro wz ⟨Q,R,z2⟩;go_simp
    simp only[dI,dJ,dK,dL];refine dZ 6 (uI c.uid) rfl I ?_ ?_
    ·rintro wz ⟨Q,R,z2⟩;go_simp
    simp only[dI,dJ,dK,dL];refine dZ 7 (.tuple #[.agg #[],.bool (decide (c.uid∈s.dead))]) rfl I ?_ ?_
    ·rintro wz ⟨Q,R,z2⟩;have bl:=Gf z2 ax.out;go_simp
    simp only[dI,dJ,dK,dL];refine dZ 8 (.tuple #[.agg #[],.bool (decide (c.uid∈s.dead))]) rfl I ?_ ?_
    ·rintro wz ⟨Q,R,z2⟩;go_simp
    simp only[dI,dJ,dK,dL];refine dZ 9 (.agg #[]) rfl I ?_ ?_
    ·rintro wz ⟨Q,R,z2⟩;go_simp
    simp only[dI,dJ,dK,dL];refine dZ 10 (.bool (decide (c.uid∈s.dead))) rfl I ?_ ?_
    ·rintro wz ⟨Q,R,z2⟩;go_simp
    simp only[dI,dJ,dK,dL];refine dY 11 rfl (by kernel_rfl) (fun K hK=> ?_);go_simp;have aA:=nAl V (.cells #[] 128);have ah:=a8 (an.below aA);have A:=a8 (ao.below aA ao.lt);have aq:RuS (w.heap.size+1+1) (w.heap.size+1) wr.heap.size (uI c.uid) s.dead (V.alloc (.cells #[] 128)):=⟨ah.st.cell 5,A.cell 4,aI.out _ ah.bel⟩
    refine hK _ _ (fun _=>aq) ?_;clear hK K aA I
    try simp only[dI,dJ,dK,dL]
    generalize V.alloc (.cells #[] 128)=Z at ah A aq⊢;refine dY 12 rfl (by kernel_rfl) (fun K hK=> ?_);go_simp;refine hK _ _ (fun _=>aq) ?_;clear hK K
    try simp only[dI,dJ,dK,dL]
    refine dY 13 rfl (by kernel_rfl) (fun K hK=> ?_);go_simp;refine hK _ _ (fun h=>by cases h) (fe (by kernel_rfl) ?_ _);clear hK K aq;by_cases U:c.uid∈s.dead
    ·have av:=a8 (ap.trans (by rw[aK.out U]));rw[ON U];clear U;go_wp2;go_roundw
     case rel=>exact⟨j+1,O,ca,cc,ms,by omega,by go_num,rfl,aB,ah,av,az⟩
     case measure=>simp[intOf];omega
    ·have aL:=a8 (aM.out U);rw[OM U];have CT:=a8 (Ev (w.heap.size+1+1) (w.heap.size+1) w4 Z s.val O (.string uxN) (.slice E z.length G) (.int .i64 ((dP z).2:Int)) ca cc ms c ah aB ax);obtain⟨q0,q1,q2,q3,q4,q5,q6⟩:=A.c7;clear U;go_wp2_with fail;refine CT.mono ?_;rintro e w7 (⟨aj,bc,bd,rfl,aP⟩|⟨aD,nm,t,rfl,aT⟩)
     ·have aX:=a8 aP;have av:=a8 (show iU Cd.uid (gS s.dead cs) (s.next,[])=iU Cd.uid (gS s.dead (cs.drop (j+1))) (max O (c.uid+1),ms++[c]) by rw[ap.out,aL.out,LZ aj]);have aU:=a8 (show∀x∈ms++[c],x∈cs from fun x hx=>by
       rcases Pj.1 hx with h|h
       ·exact az.out x h
       ·rw[Ph.1 h];exact aG.out)
      have aE:(ms++[c]).length≤100:=(by have:=aj.2.1;simp;omega);have aZ:=a8 aE;clear aj aP CT q0 q1 q2 q3 q4 q5 q6 aE;go_wp2;go_roundw
      case rel=>exact⟨j+1,max O (c.uid+1),bc,bd,ms++[c],by omega,by go_num,rfl,aZ,aX,av,aU⟩
      case measure=>simp[intOf];omega
     ·have HN:=a8 (show iU Cd.uid (gS s.dead cs) (s.next,[])=none by rw[ap.out,aL.out,J2 aD]);have aV:=a8 (gX ag aT (by omega) ag.size);clear aD aT CT q0 q1 q2 q3 q4 q5 q6;unfold gB;go_wp2;go_ret2;exact Or.inr ⟨Or.inr ⟨w,s,cs,HO,aH,HN⟩,_,_,rfl,aV⟩
   ·have bf:j=cs.length:=(by omega);subst bf;have HF:=a8 (show iU Cd.uid (gS s.dead cs) (s.next,[])=some (O,ms) by rw[ap.out,PO];rfl);have ba:=a8 (show MdS w wr (w.heap.size+1+1) (w.heap.size+1) D s.val O (.string uxN) (.slice E z.length G) (.int .i64 ((dP z).2:Int)) s.dead ca cc ms from⟨HI.st,HI.row.mono ag.size,am.keep (HI.bel.block _ am.lt (by omega)),fun x hx=>aF.out x (az.out x hx),gX ag HI.bel (by omega) ag.size⟩);clear af;go_wp2;go_ret2;exact Or.inl ⟨w,s,O,ms,cs,_,_,ca,cc,HO,aH,HF,rfl,ba,aB,OX _ _⟩
 ·have HN:=a8 (show mm (dP z).1=none by rw[←JC];exact ho);have ak:=a8 ((((nG ae HA (fun k hk=>hk.elim (fun e=>by rw[e];omega) (fun e=>by rw[e];omega)) HA.size).setCell (p:=⟨w.heap.size+1+1,2,none⟩) (by simp only;omega) (.string ⟨#[]⟩)).setCell (p:=⟨w.heap.size+1+1,3,none⟩) (by simp only;omega) (sN)).setCell (p:=⟨w.heap.size+1+1,4,none⟩) (by simp only;omega) (.int .i64 0));obtain⟨-,-,n2,n3,n4⟩:=J.c5;have fz:=fun j=>J.fz j;clear ho J ae CL H1 H2 H3;unfold gB;go_wp2;go_ret2;exact Or.inr ⟨Or.inl HN,_,_,rfl,ak⟩
end
def tI(h:VH)(ls:List LM):VW:=if ls.all (fun m=>decide (m.body.length≤8000))=true then⟨0,h.kind,h.val,h.next,h.cur,ls⟩ else tb 3
theorem Ak(k:Int)(v n c g t:Nat)(ms:List XM)(d:LN):jg (mf ⟨0,k,v,n,c,g,t,ms,d⟩)=tI ⟨k,v,n,c⟩ (ms.map lmX):=by
 unfold mf tI;have e:(ms.map lmX).all (fun m=>decide (m.body.length≤8000))=ms.all (fun m=>decide (m.body.length≤8000)):=by
  rw[List.all_map];rfl
 rw[e];by_cases h:ms.all (fun m=>decide (m.body.length≤8000))=true
 ·rw[OS h,OS h];rfl
 ·rw[OR h,OR h];rfl
theorem jQ{D:dO}{z:LN}{s:IX}{r:List XM}(h:kT D z=some (s,r)):nN (dP z).1=some s∧fd s.mails (b9 D (ej s.gen))=some r:=by
 unfold kT at h;cases h1:nN (dP z).1 with
 |none=>rw[h1] at h;cases h
 |some s1=>
  rw[h1] at h;simp only at h;cases h2:fd s1.mails (b9 D (ej s1.gen)) with
  |none=>rw[h2] at h;cases h
  |some r1=>
   rw[h2] at h;simp only[Option.map_some,OY,Prod.mk.injEq] at h;obtain⟨rfl,rfl⟩:=h;exact⟨rfl,h2⟩
theorem Jl{D:dO}{z:LN}(h:kT D z=none):ew D z=gL 3:=by
 unfold kT at h;unfold ew;cases h1:nN (dP z).1 with
 |none=>rfl
 |some s=>
  rw[h1] at h;simp only at h⊢;cases h2:fd s.mails (b9 D (ej s.gen)) with
  |none=>rfl
  |some r=>rw[h2] at h;cases h
theorem Lt{D:dO}{z:LN}{s:IX}{r:List XM}(h:kT D z=some (s,r))(G:(b9 D fh).1=false):jg (ew D z)=tI ⟨1,s.val,s.next,0⟩ (r.map lmX):=by
 obtain⟨A,E⟩:=jQ h;unfold ew;rw[A];simp only;rw[E];simp only;rw[G,OR (by simp)];exact Ak ..
theorem Nl{D:dO}{z:LN}(h:nS D z (b9 D fh).2=none)(G:(b9 D fh).1=true):ew D z=gL 3:=by
 unfold nS at h;cases h0:kT D z with
 |none=>exact Jl h0
 |some p=>
  obtain⟨s,r⟩:=p;rw[h0] at h;simp only at h;obtain⟨A,E⟩:=jQ h0;unfold ew;rw[A];simp only;rw[E];simp only;rw[OS G];cases h3:f5 (dP (b9 D fh).2).1 with
  |none=>rfl
  |some c=>
   rw[h3] at h;simp only at h⊢;cases h4:gT D c r with
   |none=>rfl
   |some r'=>rw[h4] at h;cases h
theorem Lz{D:dO}{z:LN}{s:IX}{c:Nat}{A:List XM}(h:nS D z (b9 D fh).2=some (s,c,A))(I:(b9 D fh).1=true):jg (ew D z)=tI ⟨2,s.val,s.next,c⟩ (A.map lmX):=by
 unfold nS at h;cases h0:kT D z with
 |none=>rw[h0] at h;cases h
 |some p=>
  obtain⟨s1,r⟩:=p;rw[h0] at h;simp only at h;cases h3:f5 (dP (b9 D fh).2).1 with
  |none=>rw[h3] at h;cases h
  |some c1=>
   rw[h3] at h;simp only at h;cases h4:gT D c1 r with
   |none=>rw[h4] at h;cases h
   |some r1=>
    rw[h4] at h;simp only[Option.map_some,OY,Prod.mk.injEq] at h;obtain⟨rfl,rfl,rfl⟩:=h;obtain⟨E,G⟩:=jQ h0;unfold ew;rw[E];simp only;rw[G];simp only;rw[OS I,h3];simp only;rw[h4];exact Ak ..
noncomputable def xmC(D:dO)(c:Cd):XM:=mr D c.name (c.uid,c.stamp,c.flags)
theorem Gd{w0:World}{D:dO}{all:List Cd}{dead:LN}(h:jw w0 D (D.names.map (·.1)) all):(gS dead all).map (xmC D)=ie D dead (D.names.map (·.1)):=by
 have E:(gS dead all).map (xmC D)=((all.map cdK).filter (fun x=>decide (x.2.1∉dead))).map (fun x=>mr D x.1 x.2):=by
  unfold gS;rw[List.filter_map,PP];rfl
 rw[E,h.1];unfold ie;generalize D.names.map (·.1)=ns
 induction ns with
 |nil=>rfl
 |cons nm ns ih=>
  rw[List.filterMap_cons,List.filterMap_cons];cases hc:eR nm.data.toList with
  |none=>
   have z:lx nm=none:=(by unfold lx;rw[hc];rfl);rw[z];exact ih
  |some k=>
   have z:lx nm=some (nm,k):=(by unfold lx;rw[hc];rfl);rw[z];simp only[List.filter_cons];by_cases A:k.1∈dead
   ·simpa[A] using ih
   ·simpa[A] using ih
theorem BH{α β:Type}(f:α→β)(z:α→Nat)(I:β→Nat)(J:∀x,I (f x)=z x):∀(ys:List α) (n:Nat) (ms:List α),iU I (ys.map f) (n,ms.map f)=(iU z ys (n,ms)).map (fun p=>(p.1,p.2.map f))
 |[],n,ms=>rfl
 |c::r,n,ms=>by
  rw[Pe,iU,iU,J];simp only[OW];by_cases A:z c=4294967295
  ·rw[OS A,OS A];rfl
  ·rw[OR A,OR A];by_cases E:ms.length=100
   ·rw[OS E,OS E];rfl
   ·rw[OR E,OR E];have e:((ms.map f).getLast?).map I=(ms.getLast?).map z:=by
     rw[List.getLast?_map,Option.map_map];congr 1;funext x;exact J x
    rw[e];by_cases G:(ms.getLast?).map z=some (z c)
    ·rw[OS G,OS G];rfl
    ·rw[OR G,OR G];have:=BH f z I J r (max n (z c+1)) (ms++[c]);rw[O7] at this;exact this
theorem DH{D:dO}{cs:List Cd}{dead:LN}(h:kI w0 D cs):goG XM.uid (fun m=>m.body.length) (ie D dead (D.names.map (·.1))) (n,[])=match iU Cd.uid (gS dead cs) (n,[]) with
  |none=>none
  |some p=>if(p.2.map (xmC D)).all (fun c=>decide (c.body.length≤8000))=true then some (p.1,p.2.map (xmC D)) else none:=by
 obtain⟨all,I,E,A⟩:=h;have G:((gS dead cs).map (xmC D)).Perm (ie D dead (D.names.map (·.1))):=by
  rw[←Gd A];exact(I.filter _).map _
 have z:LeG XM.uid ((gS dead cs).map (xmC D)):=by
  unfold LeG;rw[List.pairwise_map];exact(E.sublist List.filter_sublist).imp (fun h=>h)
 rw[Lu XM.uid (fun m=>m.body.length) G z];have e:=BH (xmC D) Cd.uid XM.uid (fun x=>rfl) (gS dead cs) n [];rw[PD] at e;rw[e];cases iU Cd.uid (gS dead cs) (n,[])<;>rfl
theorem Lv{D:dO}{z:LN}{s:UX}{cs ms:List Cd}(A:mm (dP z).1=some s)(E:kI w0 D cs)(G:iU Cd.uid (gS s.dead cs) (s.next,[])=some (n,ms)):jg (fO D z)=tI ⟨3,s.val,n,0⟩ (ms.map (lmC D)):=by
 unfold fO;rw[A];simp only;rw[DH E,G];simp only;have e:(ms.map (lmC D)).all (fun m=>decide (m.body.length≤8000))=(ms.map (xmC D)).all (fun m=>decide (m.body.length≤8000)):=by
  rw[List.all_map,List.all_map];rfl
 unfold tI;rw[e];by_cases h:(ms.map (xmC D)).all (fun m=>decide (m.body.length≤8000))=true
 ·rw[OS h,OS h];unfold jg;rw[OS rfl];simp only[PP];rfl
 ·rw[OR h,OR h];rfl
theorem Nj{w0:World}{D:dO}{z:LN}(h:mm (dP z).1=none∨∃w0 s cs,mm (dP z).1=some s∧kI w0 D cs∧iU Cd.uid (gS s.dead cs) (s.next,[])=none):fO D z=gL 3:=by
 unfold fO;rcases h with h|⟨w0,s,cs,A,E,G⟩
 ·rw[h]
 ·rw[A];simp only;rw[DH E,G]
def j5(w:World)(L:Nat)(sv:Value)(h:VH)(ls:List LM):Prop:=∃(T:TypeId) (f:FuncId) (gm:Nat),sv= .iface T (pP gm)∧((T=161∧f=270)∨(T=158∧f=267)∨(T=164∧f=271))∧∀X,Below w.heap.size w X→Calls prog f #[pP gm] X (Cp L h ls X)
theorem DG{s:IX}{D:dO}{r:List XM}{ta:OA}{tc:Nat}{I:OA}{J:Nat}(h:MbS w0 w A s D M N O r ta tc I J bvs)(Q:l5 s)(R:r.map lmX=List.zipWith (fun m x=>⟨m.uid,m.stamp,m.flags,x.body⟩) s.mails r):j5 w w0.heap.size (.iface 161 (pP A)) ⟨1,s.val,s.next,0⟩ (r.map lmX):=by
 refine⟨_,_,A,rfl,.inl ⟨rfl,rfl⟩,fun X hX=> ?_⟩;have z:=h.below hX;obtain⟨ys,U,E,G,V⟩:=Jo (w0:=w0) z.len z.rl z.bod;have Y:∀k (K:k<ys.length) (z:k<s.mails.length),ys[k].x.uid=s.mails[k].uid∧ys[k].x.stamp=s.mails[k].stamp∧ys[k].x.flags=s.mails[k].flags:=fun k K L=>by
  have e:(ys.map VM.x)[k]? =(List.zipWith (fun m x=>(⟨m.uid,m.stamp,m.flags,x.body⟩:LM)) s.mails r)[k]? :=(by rw[G]);have Z:k<r.length:=(by rw[z.rl];exact L);rw[PE,OZ K,List.getElem?_zipWith,OZ L,OZ Z] at e;simp only[Option.map_some,OY] at e;rw[e];exact⟨rfl,rfl,rfl⟩
 refine(pU A w0.heap.size w0.heap.size X s M N O _ _ _ I J bvs ys z.mb.st z.mb.row z.len U E Y V Q.len).mono (fun e w' hp=>⟨ys,hp,G.trans R.symm,?_⟩);rw[E];exact z.apart
theorem yK{D:dO}{s:IX}{r:List XM}{U V Y Z l1 l2:Value}{fs:List Cd}{L:OA}{M:Nat}{ta:OA}{tc:Nat}{K:OA}{N:Nat}{A:List LM}(h:MvS w0 w z go D s r U V Y Z l1 l2 c fs L M ta tc K N bvs)(I:l5 s)(R:eM D)(E:fs.length≤r.length)(J:r.map lmX=List.zipWith (fun m x=>⟨m.uid,m.stamp,m.flags,x.body⟩) s.mails r)(G:A=fs.map (lmC D)++(r.drop fs.length).map lmX):j5 w w0.heap.size (.iface 158 (pP z)) ⟨2,s.val,s.next,c⟩ A:=by
 refine⟨_,_,z,rfl,.inr (.inl ⟨rfl,rfl⟩),fun X Q=> ?_⟩;have O:=ut (h.below Q) I R E J;rw[G,List.map_drop];exact O
theorem vN{K:Nat}{D:dO}{next:Nat}{dead:LN}{G:OA}{I:Nat}{ms:List Cd}(h:MdS w0 w z K D val next u0 u1 u2 dead G I ms)(Y:eM D)(hn:ms.length≤100):j5 w w0.heap.size (.iface 164 (pP z)) ⟨3,val,next,0⟩ (ms.map (lmC D)):=by
 refine⟨_,_,z,rfl,.inr (.inr ⟨rfl,rfl⟩),fun X A=> ?_⟩;have E:=h.st.below A h.st.lt;refine(uo z 0 w0.heap.size w0 X (fun x=>(b9 D x.name).2) val next G I ms (h.bel.trans (A.mono h.bel.size)) (E.cell 0) (E.cell 1) (E.cell 6) (dM.below h.row A (OV _)) (fun x J=>⟨(h.ok x J).tx,(h.ok x J).dl,by have:=gU Y x.name;omega⟩) (by omega)).mono (fun e w' V=> ?_);obtain⟨ys,⟨Z,mc,L,M,N,O⟩,Q,R⟩:=V;exact⟨ys,⟨Z,mc,L,M,fun m U=>(N m U).mono (O0 h.bel.size A.size),O⟩,Q,R⟩
def SmL(ls:List LM):Prop:=ls.length≤100∧∀m∈ls,m.uid<4294967296∧m.flags<4294967296
theorem Cz{t:List UInt8}{k:Nat×Nat×Nat}(h:eR t=some k):k.1<4294967296∧k.2.2<4294967296:=by
 unfold eR at h;split at h
 ·next hx=>
  have A:=hx.choose_spec;rw[OY] at h;rw[←h];rcases A with⟨_,is,z,G⟩|⟨E,_⟩
  ·exact⟨z.u2,by rw[G];exact ux z.good⟩
  ·cases E
 ·cases h
theorem xD{D:dO}{fs:List Cd}(h:∀x∈fs,Fj w0 D x):∀m∈fs.map (lmC D),m.uid<4294967296∧m.flags<4294967296:=fun m z=>by
 obtain⟨x,A,rfl⟩:=Pg.1 z;exact Cz (h x A).card
theorem J6{s:IX}{r:List XM}(z:l5 s)(E:r.map lmX=List.zipWith (fun m x=>⟨m.uid,m.stamp,m.flags,x.body⟩) s.mails r):∀m∈r.map lmX,m.uid<4294967296∧m.flags<4294967296:=fun m A=>by
 rw[E] at A;obtain⟨k,G,e⟩:=PT.1 A;rw[List.getElem_zipWith] at e;rw[List.length_zipWith] at G;have I:=z.uid (s.mails[k]'(by omega)) (O6 _);have J:=z.flags (s.mails[k]'(by omega)) (O6 _);rw[←e];exact⟨by simp only;omega,by simp only;omega⟩
theorem J7{I:Nat}{s:IX}{D:dO}{r:List XM}{M:OA}{N:Nat}{E:OA}{G:Nat}(h:MbS w0 w I s D J K L r M N E G bvs)(z:l5 s)(A:r.map lmX=List.zipWith (fun m x=>⟨m.uid,m.stamp,m.flags,x.body⟩) s.mails r):SmL (r.map lmX):=
 ⟨by rw[OW,h.rl];exact z.len,J6 z A⟩
theorem Ea{N:Nat}{D:dO}{s:IX}{r:List XM}{Q R U V Y:Value}{fs:List Cd}{K:OA}{L:Nat}{Z:OA}{tc:Nat}{J:OA}{M:Nat}{G:List LM}(h:MvS w0 w N go D s r O Q R U V Y c fs K L Z tc J M bvs)(E:l5 s)(aa:fs.length≤r.length)(I:r.map lmX=List.zipWith (fun m x=>⟨m.uid,m.stamp,m.flags,x.body⟩) s.mails r)(A:G=fs.map (lmC D)++(r.drop fs.length).map lmX):SmL G:=by
 have h1:=h.mb.rl;have h2:=E.len;refine⟨by rw[A,O1,OW,OW,O9];omega,fun m z=> ?_⟩;rw[A,Pj] at z;rcases z with z|z
 ·exact xD h.ok m z
 ·refine J6 E I m ?_;rw[List.map_drop] at z;exact Pk z
theorem BT{G:Nat}{D:dO}{next:Nat}{dead:LN}{A:OA}{E:Nat}{ms:List Cd}(h:MdS w0 w G z D val next u0 u1 u2 dead A E ms)(I:ms.length≤100):SmL (ms.map (lmC D)):=
 ⟨by rw[OW];exact I,xD h.ok⟩
theorem j5.below{L:Nat}{h:VH}{A:List LM}(I:j5 w L E h A)(z:Below w.heap.size w w'):j5 w' L E h A:=by
 obtain⟨T,f,G,e,K,J⟩:=I;exact⟨T,f,G,e,K,fun X M=>J X (z.trans (M.mono z.size))⟩
def o8(D:dO)(w:World)(sv:Value):Prop:=
 (∃w0 gm s r ia ic ta tc am cm bvs,sv= .iface 161 (pP gm)∧(b9 D ixN).1=true∧(b9 D fh).1=false∧kT D (b9 D ixN).2=some (s,r)∧l5 s∧MbS w0 w gm s D (.string ixN) (.slice ia (b9 D ixN).2.length ic) (.int .i64 ((dP (b9 D ixN).2).2:Int)) r ta tc am cm bvs∧fV w ia ic (b9 D ixN).2)∨
 (∃w0 gm go s r c r' fs ia ic la lc ca cc ta tc am cm bvs,sv= .iface 158 (pP gm)∧(b9 D ixN).1=true∧(b9 D fh).1=true∧nS D (b9 D ixN).2 (b9 D fh).2=some (s,c,r')∧kT D (b9 D ixN).2=some (s,r)∧((∀m∈r,m.moved=false)→(r'.filter (·.moved)).map (·.card)=fs.map Cd.name)∧fs.length≤r.length∧l5 s∧MvS w0 w gm go D s r (.string ixN) (.slice ia (b9 D ixN).2.length ic) (.int .i64 ((dP (b9 D ixN).2).2:Int)) (.string fh) (.slice la (b9 D fh).2.length lc) (.int .i64 ((dP (b9 D fh).2).2:Int)) c fs ca cc ta tc am cm bvs∧fV w ia ic (b9 D ixN).2∧fV w la lc (b9 D fh).2)∨
 (∃w0 gm bd s n ms cs ua uc ca cc,sv= .iface 164 (pP gm)∧(b9 D ixN).1=false∧(b9 D uxN).1=true∧mm (dP (b9 D uxN).2).1=some s∧kI w0 D cs∧iU Cd.uid (gS s.dead cs) (s.next,[])=some (n,ms)∧MdS w0 w gm bd D s.val n (.string uxN) (.slice ua (b9 D uxN).2.length uc) (.int .i64 ((dP (b9 D uxN).2).2:Int)) s.dead ca cc ms∧ms.length≤100∧fV w ua uc (b9 D uxN).2)
theorem MdS.below{I:Nat}{D:dO}{next:Nat}{dead:LN}{E:OA}{G:Nat}{ms:List Cd}(h:MdS w0 w I A D val next u0 u1 u2 dead E G ms)(z:Below w.heap.size w X):MdS w0 X I A D val next u0 u1 u2 dead E G ms:=
 ⟨h.st.below z h.st.lt,dM.below h.row z (OV _),h.dd.keep (z.block _ h.dd.lt),h.ok,h.bel.trans (z.mono h.bel.size)⟩
theorem o8.below{D:dO}{sv:Value}(h:o8 D w sv)(z:Below w.heap.size w w'):o8 D w' sv:=by
 rcases h with⟨w0,A,s,r,Y,Z,ta,tc,N,R,bvs,E,G,I,J,K,L,M⟩|⟨w0,A,go,s,r,c,r',fs,Y,Z,la,lc,O,Q,ta,tc,N,R,bvs,E,G,I,J,K,L,M,U,V,ha,hc⟩|⟨w0,A,bd,s,n,ms,cs,ua,uc,O,Q,E,G,I,J,K,L,M,U,V⟩
 ·exact .inl ⟨w0,A,s,r,Y,Z,ta,tc,N,R,bvs,E,G,I,J,K,L.below z,M.below z⟩
 ·exact .inr (.inl ⟨w0,A,go,s,r,c,r',fs,Y,Z,la,lc,O,Q,ta,tc,N,R,bvs,E,G,I,J,K,L,M,U,V.below z,ha.below z,hc.below z⟩)
 ·exact .inr (.inr ⟨w0,A,bd,s,n,ms,cs,ua,uc,O,Q,E,G,I,J,K,L,M.below z,U,V.below z⟩)
def nD(D:dO)(ev:Value)(w:World)(e:Ending)(w':World):Prop:=
 (∃sv h ls L,e= .returned (.tuple #[sv,.nilIface])∧jg (eu D)=tI h ls∧(j5 w' L sv h ls∧o8 D w' sv)∧SmL ls∧w.heap.size≤L∧Below w.heap.size w w')∨
 (∃x nm t,e= .returned (.tuple #[x,gB nm t])∧jg (eu D)=tb 3∧Below w.heap.size w w')∨
 (e= .returned (.tuple #[.nilIface,ev])∧jg (eu D)=tb 2∧Below w.heap.size w w')
theorem mF{D:dO}(z:eM D)(h:(b9 D ixN).1=true):eu D=ew D (b9 D ixN).2:=by
 unfold eu;rw[OS z,OS h]
theorem uN{D:dO}(A:eM D)(h:(b9 D ixN).1=false)(z:(b9 D uxN).1=true):eu D=fO D (b9 D uxN).2:=by
 unfold eu;rw[OS A,h,OR (by simp),OS z]
theorem JR{D:dO}(A:eM D)(h:(b9 D ixN).1=false)(z:(b9 D uxN).1=false):eu D=gL 2:=by
 unfold eu;rw[OS A,h,OR (by simp),z,OR (by simp)]
structure FF where
 name:BA
 ad:OA
 cap:Nat
 data:LN
 good:Nat
def tB(f:FF):List Value:=[.string f.name,.slice f.ad f.data.length f.cap,.int .i64 (f.good:Int)]
def ftF(f:FF):FT:=(f.name,f.data,f.good)
abbrev nk(w:World)(base:Nat)(v:Value)(fl:List FF):Prop:=dM w base 127 3 v (fl.map tB)
theorem IY:(prog.info? 127).map (fun i=>(i.zero,i.size,i.bytes))=some (some (.agg #[.string ⟨#[]⟩,sN,.int .i64 0]),3,48):=by kernel_rfl
theorem mu(fl:List FF):∀x∈fl.map tB,x.length=3:=fun x z=>by
 obtain⟨f,_,rfl⟩:=Pg.1 z;rfl
theorem qC{E:Act}{K:Act→World→Prop}(w:World)(s x:Operand)
  (R:o.op= .call {callee:= .builtin .append,args:= #[s,x],argTypes:= #[124,124]})
  (z b2:Nat) (v:Value) (fl xs:List FF) (A:OA) (L:Nat) (V:E.eval s=v) (M:E.eval x= .slice A xs.length L) (O:nk w z v fl) (U:nk w b2 (.slice A xs.length L) xs) (ag:fl.length+xs.length≤1048576) (Y:z≤w.heap.size)
  (h:∀J w',nk w' z J (fl++xs)→w.grownBy w' v.ownBlock→K (E.put o.dst J) w'):Oper.wp prog o E w K Q:=by
 obtain⟨i0,hi,ad,ae,af⟩:=info_parts IY;have N:w.ownsRow z 127 3 v fl.length (fl.map tB).flatten:=(by have:=O.2;rw[OW] at this;exact this);by_cases hm:0<xs.length
 ·obtain⟨g,G,_,_⟩:=U.at0 (by rw[OW];exact hm);subst G;refine wp_append_own w s x 124 R z 127 i0 (.agg #[.string ⟨#[]⟩,sN,.int .i64 0]) 3 48 underlying124 hi ad ae af rfl (by decide) v fl.length (fl.map tB).flatten V N ⟨g,0,none⟩ xs.length L (xs.map tB).flatten M (by rw[iO (mu xs),OW]) ?_ ?_ (by unfold maxLen;omega) (by omega) Y ?_
  ·intro j u hj;exact OD U.2 (g:=g) rfl j u hj
  ·intro u I;obtain⟨y,hy,I⟩:=List.mem_flatten.1 I;obtain⟨f,_,rfl⟩:=Pg.1 hy;simp only[tB,Pd,Pw,or_false] at I;rcases I with rfl|rfl|rfl<;>rfl
  ·intro J w' Z G _;refine h J w' ⟨mu _,?_⟩ G;rw[OW,O1,O7,PQ];exact Z
 ·have aa:xs=[]:=PF (by omega);subst aa;have ac:(Builtin.append_ #[124,124] o.type #[v,.slice A 0 L]).run prog w= .ok v w:=by
   rcases N.2 with⟨rfl,hn⟩|⟨g,cap,ah,rfl,ai,G,ab,_⟩
   ·cases A<;>simp[Builtin.append_,run_underlying underlying124,sizeOf,typeInfo,hi,Builtin.lenOf,Builtin.firstCells,loadCells,loadCellsFrom]
   ·cases A<;>simp[Builtin.append_,run_underlying underlying124,sizeOf,typeInfo,hi,Builtin.lenOf,Builtin.firstCells,storeCells,loadCells,loadCellsFrom,ab]
  unfold Oper.wp execOp;simp only[PM] at M;simp only[R,resolve,invoke,builtin,Sem.run_bind,Sem.run_pure,Result.andThen_ok,List.map_toArray,Pe,PD,V,M,ac];exact h v w (by rw[Pm];exact O) (tL _ _)
theorem rk{L:Array Oper}{J:List Oper}{A:Act}(w:World)(R:o.guard=none)(s x:Operand)
  (Z:o.op= .call {callee:= .builtin .append,args:= #[s,x],argTypes:= #[124,124]})
  (z b2:Nat) (v:Value) (fl xs:List FF) (G:OA) (I:Nat) (hs:A.eval s=v) (hx:A.eval x= .slice G xs.length I) (O:nk w z v fl) (hr:nk w b2 (.slice G xs.length I) xs) (N:fl.length+xs.length≤1048576) (M:z≤w.heap.size)
  (h:∀E w',nk w' z E (fl++xs)→w.grownBy w' v.ownBlock→wpList prog L Q J (A.put o.dst E) w'):wpList prog L Q (o::J) A w:=by
 refine wpList_plain R fun K Y=> ?_;exact qC w s x Z z b2 v fl xs G I hs hx O hr N M (fun E w' U V=>Y _ _ (h E w' U V))
theorem jD{J:Array Oper}{z:Act}{K:Act→World→Prop}{E:Prop}(w:World)(R:o.guard=none)(s x:Operand)
  (U:o.op= .call {callee:= .builtin .append,args:= #[s,x],argTypes:= #[124,124]})
  (A b2:Nat) (v:Value) (fl xs:List FF) (G:OA) (I:Nat) (Y:z.eval s=v) (hx:z.eval x= .slice G xs.length I) (O:nk w A v fl) (V:nk w b2 (.slice G xs.length I) xs) (N:fl.length+xs.length≤1048576) (M:A≤w.heap.size)
  (h:∀L w',nk w' A L (fl++xs)→w.grownBy w' v.ownBlock→K (z.put o.dst L) w'):if Region.wanted o (yielded J z.tmps)=true then Oper.wp prog o z w K Q else E:=by
 have Z:Region.wanted o (yielded J z.tmps)=true:=(by simp[Region.wanted,R]);rw[OS Z];exact qC w s x U A b2 v fl xs G I Y hx O V N M h
theorem pZ(w:World)(z:Nat)(fl:List FF)(A:z≤w.heap.size)(E:fl.length≤1048576):nk (w.alloc (.cells (fl.map tB).flatten.toArray 127)) z (sS w.heap.size fl.length fl.length) fl:=
 ⟨mu _,by rw[iO (mu fl)],.inr ⟨w.heap.size,fl.length,(fl.map tB).flatten.toArray,by rw[OW],A,OP w _,by rw[OW];exact OV _,by unfold maxLen;omega,by simp only[List.size_toArray];rw[iO (mu fl),OW],by simp only;rw[Pc (by rw[iO (mu fl)];exact OV _)]⟩⟩
def ny(fl:List FF)(w:World)(e:Ending)(w':World):Prop:=∃a cap,e= .returned (.slice a fl.length cap)∧nk w' w.heap.size (.slice a fl.length cap) fl∧Below w.heap.size w w'
theorem dM.sl{v:Value}{fl:List FF}(h:nk w z v fl):∃a cap,v= .slice a fl.length cap:=by
 obtain⟨a,c,e⟩:=dM.slice h;rw[OW] at e;exact⟨a,c,e⟩
theorem jy{v:Value}{fl:List FF}(h:Below B w0 X)(E:nk X B v fl)(A:X.grownBy w' v.ownBlock)(z:B≤X.heap.size):Below B w0 w':=h.grown A z (fun k e=>(dM.lt E k e).1)
noncomputable def jF(D:dO)(c:Cd):FF:=⟨c.name,c.ad,c.dc,(b9 D c.name).2,(b9 D c.name).2.length⟩
theorem oO(D:dO)(g o lo:Nat)(w:World)(ca:OA)(cc:Nat)(cs:List Cd)(h6:w.cell? ⟨g,o+6,none⟩=some (.slice ca cs.length cc))(aa:l7 w lo (.slice ca cs.length cc) cs)(hd:∀c∈cs,c.dl=(b9 D c.name).2.length)(hn:cs.length≤1000):
  Calls prog 269 #[.pointer (some ⟨g,o,none⟩)] w (ny (cs.map (jF D)) w):=by
 have Z:=a8 aa;have HD:=a8 hd;clear aa hd;go_enter func269,ntmps269;go_wp2;clear h6;go_loopw [3,5,11] (fun v3 _ i wr=>∃j:Nat,j≤cs.length∧i=iI j∧Hid (nk wr w.heap.size v3 ((cs.take j).map (jF D)))∧Hid (Below w.heap.size w wr)) (fun _ _ i _=>cs.length-(intOf i).toNat)
 case atStart=>exact⟨0,O4 _,rfl,a8 (dM.nil _ _ _ _),a8 (OX _ _)⟩
 case round=>
  obtain⟨j,hj,rfl,E,J⟩:=hrel;by_cases I:j<cs.length
  ·have aj:(j:Int)<(cs.length:Int):=(by omega);obtain⟨gr,ah,_,_⟩:=Z.at0 (by rw[OW];omega);subst ah;have A:=a8 (show∀k (Y:k<7),wr.cell? ⟨gr,j*7+k,none⟩=(ee cs[j])[k]? from fun k Y=>by
    have hl:((cs.map ee)[j]'(by simpa using I)).length=7:=(by rw[Po];rfl);rw[(dM.below Z.out J.out (OV _)).cell j k (by simpa using I) (by rw[hl];exact Y),OZ (by show k<7;exact Y)];congr 1;simp)
   have G:=a8 (show(cs.take (j+1)).map (jF D)=(cs.take j).map (jF D)++[jF D cs[j]] by rw[fD cs j I,O7];rfl);have ab:=a8 (show((cs.take j).map (jF D)).length+1≤1048576 by rw[OW,Pa];omega);have V:=HD.out cs[j] (O6 I);generalize hL:(cs.take j).map (jF D)=L at E G ab;clear hL;generalize cs[j]=c at A G V;unfold ee at A;rw[V] at A;have O:=a8 (show tB (jF D c)=[.string c.name,.slice c.ad (b9 D c.name).2.length c.dc,.int .i64 ((b9 D c.name).2.length:Int)] from rfl);clear V;generalize jF D c=fc at G O;generalize (b9 D c.name).2.length=z at A O;have k0:wr.cell? ⟨gr,j*7,none⟩=some (.string c.name):=A.out 0 (by omega);have k1:wr.cell? ⟨gr,j*7+1,none⟩=some (.slice c.ad z c.dc):=A.out 1 (by omega);have k2:wr.cell? ⟨gr,j*7+2,none⟩=some (iI z):=A.out 2 (by omega);have k3:wr.cell? ⟨gr,j*7+3,none⟩=some (.bool true):=A.out 3 (by omega);have k4:wr.cell? ⟨gr,j*7+4,none⟩=some (uI c.uid):=A.out 4 (by omega);have k5:wr.cell? ⟨gr,j*7+5,none⟩=some (iI c.stamp):=A.out 5 (by omega);have k6:wr.cell? ⟨gr,j*7+6,none⟩=some (uI c.flags):=A.out 6 (by omega);have U:=nAl wr (.cells #[.string c.name,.slice c.ad z c.dc,iI z,.bool true,uI c.uid,iI c.stamp,uI c.flags] 217);have K:=a8 (dQ wr #[.string c.name,.slice c.ad z c.dc,iI z,.bool true,uI c.uid,iI c.stamp,uI c.flags] 217);have Q:=a8 (dM.below E U (OV _));have M:=bTr J U;clear U A E J;go_upto_region 5 with fail;generalize wr.alloc (.cells #[.string c.name,.slice c.ad z c.dc,iI z,.bool true,uI c.uid,iI c.stamp,uI c.flags] 217)=X at K Q M⊢;clear k0 k1 k2 k3 k4 k5 k6;obtain⟨m0,m1,m2⟩:=K.c3;have R:=nAl X (.cells #[.string c.name,.slice c.ad z c.dc,iI z] 127);have HX:=a8 (show nk (X.alloc (.cells #[.string c.name,.slice c.ad z c.dc,iI z] 127)) X.heap.size (sS X.heap.size [fc].length 1) [fc] from by
    have h:=pZ X X.heap.size [fc] (OV _) (by simp);simp only[Pe,PD,O.out,List.flatten_cons,List.flatten_nil,Pm] at h⊢;exact h)
   have ac:=a8 (dM.below Q R (OV _));have N:=bTr M R;clear R Q M;go_wp2_with (at_builtin;(refine rk _ rfl (.tmp 15) (.tmp 18) rfl w.heap.size X.heap.size u3 L [fc] (some ⟨X.heap.size,0,none⟩) 1 rfl rfl ?_ ?_ ?_ ?_ ?_;(exact ac.out);(exact HX.out);(exact ab.out);(exact N.size);intro v5 w5 h5 ae;have ag:=a8 h5;have af:=a8 (jy N ac ae N.size);clear h5 ae))
   go_roundw
   case rel=>exact⟨j+1,by omega,by go_num,by rw[G.out];exact a8 ag,af⟩
   case measure=>simp[intOf];omega
  ·have ai:j=cs.length:=(by omega);subst ai;rw[PA] at E;have ak:¬((cs.length:Int)<(cs.length:Int)):=(by omega);obtain⟨a,cp,e3⟩:=dM.sl E.out;subst e3;go_wp2;go_ret;exact⟨a,cp,by rw[OW];rfl,E,J⟩
theorem lW(v:Value)(w:World):(callFunc 269 #[v]).run prog w= .ok (.enter 269 #[v]) w:=by
 go_simp
def FbS(g i:Nat)(x0 x1 x2:Value)(w:World):Prop:=w.cell? ⟨g,i,none⟩=some x0∧w.cell? ⟨g,i+1,none⟩=some x1∧w.cell? ⟨g,i+2,none⟩=some x2
theorem FbS.below{A x2:Value}(h:FbS g i A E x2 w)(z:Below w.heap.size w w'):FbS g i A E x2 w':=
 ⟨(z.cell (p:=⟨g,i,none⟩) (dG h.1)).trans h.1,(z.cell (p:=⟨g,i+1,none⟩) (dG h.2.1)).trans h.2.1,(z.cell (p:=⟨g,i+2,none⟩) (dG h.2.2)).trans h.2.2⟩
theorem A9(g:Nat)(z A:FF)(w:World)(G:FbS g 3 (.string z.name) (.slice z.ad z.data.length z.cap) (.int .i64 (z.good:Int)) w)(I:FbS g 6 (.string A.name) (.slice A.ad A.data.length A.cap) (.int .i64 (A.good:Int)) w):
  Calls prog 275 #[pP g] w (ny [z,A] w):=by
 have E:=a8 (fun(X:World) (J:w.heap.size≤X.heap.size)=>show nk (X.alloc (.cells #[.string z.name,.slice z.ad z.data.length z.cap,iI z.good,.string A.name,.slice A.ad A.data.length A.cap,iI A.good] 127)) w.heap.size (sS X.heap.size 2 2) [z,A] from pZ X w.heap.size [z,A] J (by simp));obtain⟨M,K,N⟩:=G;obtain⟨R,L,U⟩:=I;generalize z.data.length=O at K E;generalize A.data.length=Q at L E;go_enter func275,ntmps275;go_wp2;go_region
 all_goals
  go_wp2;go_ret;exact⟨_,_,rfl,E.out _ (by simp),((OX _ _).drew).alloc (by simp) _⟩
theorem zJ{P:Program}{A:Array Oper}{J:Region.Mode}{S:World→Prop}(i j:Nat){L M:Oper}{N:Nat}{E:Array Bool}{a:Act}(hi:A[i]? =some L)(Z:A[j]? =some M)(Y:Region.ready J A E=[i,j])
  (G:∀K:Act→World→Prop,(∀z w',((E.setIfInBounds i true).getD k true=false→S w')→nF P J A Q S k N (E.setIfInBounds i true) z w'→K z w')→if Region.wanted L (yielded A a.tmps)=true then Oper.wp P L a w K Q else K (a.put L.dst undef) w)
  (I:∀K:Act→World→Prop,(∀z w',((E.setIfInBounds j true).getD k true=false→S w')→nF P J A Q S k N (E.setIfInBounds j true) z w'→K z w')→if Region.wanted M (yielded A a.tmps)=true then Oper.wp P M a w K Q else K (a.put M.dst undef) w):nF P J A Q S k (N+1) E a w:=by
 refine⟨fun V=>(by rw[Y] at V;cases V),fun q U=> ?_⟩;rw[Y] at U;simp only[Pd,Pw,or_false] at U;rcases U with rfl|rfl
 ·exact wpOp_step hi (fun O R=>G O (fun z w' G I=>R z w' ⟨G,I⟩))
 ·exact wpOp_step Z (fun O R=>I O (fun z w' G I=>R z w' ⟨G,I⟩))
theorem Ba(g:Nat)(z:FF)(U:List FF)(w:World)(hn:U.length≤1000)(h1:FbS g 2 (.string z.name) (.slice z.ad z.data.length z.cap) (.int .i64 (z.good:Int)) w)(hC:∀Y,Below w.heap.size w Y→Calls prog 269 #[pP g] Y (ny U Y)):
  Calls prog 279 #[pP g] w (ny (z::U) w):=by
 have HX:=a8 (fun(X:World) (hX:w.heap.size≤X.heap.size)=>show nk (X.alloc (.cells #[.string z.name,.slice z.ad z.data.length z.cap,iI z.good] 127)) w.heap.size (sS X.heap.size 1 1) [z] from pZ X w.heap.size [z] hX (by simp));have ai:=a8 hC;have N:=a8 (fun(Y:World) (hY:Below w.heap.size w Y)=>h1.below hY);have I:=h1.below (OX w.heap.size w).drew;clear hC h1;generalize z.data.length=M at HX N I;go_enter func279,ntmps279;go_upto_region 1 with fail;refine gF (by kernel_rfl) (FbS g 2 (.string z.name) (.slice z.ad M z.cap) (iI z.good)) 7 ?_;refine dZ 0 (pP g) rfl I ?_ ?_
 ·rintro wz ⟨z0,z1,z2⟩;go_simp
 simp only[dI,dJ,dK,dL];refine dZ 1 (pP g) rfl I ?_ ?_
 ·rintro wz ⟨z0,z1,z2⟩;go_simp
 simp only[dI,dJ,dK,dL];refine dZ 2 (.pointer (some ⟨g,2,none⟩)) rfl I ?_ ?_
 ·rintro wz ⟨z0,z1,z2⟩;go_simp
 simp only[dI,dJ,dK,dL];refine dZ 3 (.agg #[.string z.name,.slice z.ad M z.cap,iI z.good]) rfl I ?_ ?_
 ·rintro wz ⟨z0,z1,z2⟩;go_simp
 simp only[dI,dJ,dK,dL];refine dZ 5 (pP g) rfl I ?_ ?_
 ·rintro wz ⟨z0,z1,z2⟩;go_simp
 simp only[dI,dJ,dK,dL];refine zJ 4 6 rfl rfl (by kernel_rfl) (fun K A=> ?_) (fun K A=> ?_)
 ·go_simp;have J:=a8 (dM.below (HX.out w (OV _)) (OX _ _).drew (OV _));have E:=a8 ((nAl w (.cells #[.string z.name,.slice z.ad M z.cap,iI z.good] 127)).drew);have ae:=a8 (N.out _ E);have aa:=a8 (ai.out _ E);refine A _ _ (fun _=>ae.out) ?_;clear A K I;generalize (w.alloc (.cells #[.string z.name,.slice z.ad M z.cap,iI z.good] 127)).drew=WA at J E ae aa⊢
  try simp only[dI,dJ,dK,dL]
  refine dY 6 rfl (by kernel_rfl) (fun K A=> ?_);refine fZ 269 lW (.tmp 8) #[164] (by rfl) (by rfl) _ (by simp[go_sem];rfl) ?_;refine aa.mono ?_;rintro e Z ⟨xa,xc,rfl,R,L⟩;have af:=a8 R;have aj:=a8 (dM.below J L (OV _));have G:=bTr E L;refine⟨_,rfl,A _ _ (fun _=>N.out _ G) ?_⟩;clear A K R L J E ae aa
  try simp only[dI,dJ,dK,dL]
  refine dY 7 rfl (by kernel_rfl) (fun K A=> ?_);refine jD _ (by rfl) (.tmp 7) (.tmp 9) (by rfl) w.heap.size _ (sS w.heap.size 1 1) [z] U xa xc (by simp[go_sem]) (by simp[go_sem]) aj.out af.out (by simp;omega) G.size ?_;intro v7 w7 V Q;have O:=a8 V;have ab:=a8 (jy G aj Q G.size);refine A _ _ (fun h=>by cases h) ?_;clear A K V Q
  try simp only[dI,dJ,dK,dL]
  refine dY 8 rfl (by kernel_rfl) (fun K A=> ?_);go_simp;refine A _ _ (fun h=>by cases h) (fe (by kernel_rfl) ?_ _);clear A K;obtain⟨a7,c7,ah⟩:=dM.sl O.out;subst ah;go_wp2;go_ret;exact⟨a7,c7,rfl,O,ab⟩
 ·refine fZ 269 lW (.tmp 8) #[164] (by rfl) (by rfl) _ (by simp[go_sem];rfl) ?_;have ac:=a8 ((OX w.heap.size w).drew);refine(ai.out _ ac).mono ?_;rintro e Z ⟨xa,xc,rfl,R,L⟩;have af:=a8 R;have G:=bTr ac L;refine⟨_,rfl,A _ _ (fun _=>N.out _ G) ?_⟩;clear A K R L I ac
  try simp only[dI,dJ,dK,dL]
  refine dY 4 rfl (by kernel_rfl) (fun K A=> ?_);go_simp;have ag:=nAl Z (.cells #[.string z.name,.slice z.ad M z.cap,iI z.good] 127);have J:=a8 (HX.out Z G.size);have ak:=a8 (dM.below af ag (OV _));have E:=bTr G ag;clear ag;refine A _ _ (fun _=>N.out _ E) ?_;clear A K;generalize al:Z.heap.size=g5 at J⊢;clear al;generalize Z.alloc (.cells #[.string z.name,.slice z.ad M z.cap,iI z.good] 127)=WA at J E ak⊢
  try simp only[dI,dJ,dK,dL]
  refine dY 7 rfl (by kernel_rfl) (fun K A=> ?_);refine jD _ (by rfl) (.tmp 7) (.tmp 9) (by rfl) w.heap.size _ (sS g5 1 1) [z] U xa xc (by simp[go_sem]) (by simp[go_sem]) J.out ak.out (by simp;omega) E.size ?_;intro v7 w7 V Q;have O:=a8 V;have ab:=a8 (jy E J Q E.size);refine A _ _ (fun h=>by cases h) ?_;clear A K V Q
  try simp only[dI,dJ,dK,dL]
  refine dY 8 rfl (by kernel_rfl) (fun K A=> ?_);go_simp;refine A _ _ (fun h=>by cases h) (fe (by kernel_rfl) ?_ _);clear A K;obtain⟨a7,c7,ah⟩:=dM.sl O.out;subst ah;go_wp2;go_ret;exact⟨a7,c7,rfl,O,ab⟩
def MvF(gm go:Nat)(x0 x1 x2 y0 y1 y2 z0 z1 z2:Value)(w:World):Prop:=w.cell? ⟨gm,0,none⟩=some (pP go)∧FbS go 3 x0 x1 x2 w∧FbS gm 1 y0 y1 y2 w∧FbS go 6 z0 z1 z2 w
theorem MvF.below{x2 z2:Value}(h:MvF A go E G x2 I J K L M z2 w)(z:Below w.heap.size w w'):MvF A go E G x2 I J K L M z2 w':=⟨(z.cell (p:=⟨A,0,none⟩) (dG h.1)).trans h.1,h.2.1.below z,h.2.2.1.below z,h.2.2.2.below z⟩
theorem Bf(Z go:Nat)(z A E:FF)(cl:List FF)(w:World)(hn:cl.length≤1000)(h1:MvF Z go (.string z.name) (.slice z.ad z.data.length z.cap) (.int .i64 (z.good:Int)) (.string A.name) (.slice A.ad A.data.length A.cap) (.int .i64 (A.good:Int)) (.string E.name) (.slice E.ad E.data.length E.cap) (.int .i64 (E.good:Int)) w)(hC:∀Y,Below w.heap.size w Y→Calls prog 269 #[.pointer (some ⟨Z,5,none⟩)] Y (ny cl Y)):
  Calls prog 266 #[pP Z] w (ny (z::A::E::cl) w):=by
 have HX:=a8 (fun(X:World) (hX:w.heap.size≤X.heap.size)=>show nk (X.alloc (.cells #[.string z.name,.slice z.ad z.data.length z.cap,iI z.good,.string A.name,.slice A.ad A.data.length A.cap,iI A.good,.string E.name,.slice E.ad E.data.length E.cap,iI E.good] 127)) w.heap.size (sS X.heap.size 3 3) [z,A,E] from pZ X w.heap.size [z,A,E] hX (by simp));have aq:=a8 hC;have ae:=a8 (fun(Y:World) (hY:Below w.heap.size w Y)=>h1.below hY);have G:=h1.below (OX w.heap.size w).drew;clear hC h1;generalize z.data.length=n1 at HX ae G;generalize A.data.length=n2 at HX ae G;generalize E.data.length=n3 at HX ae G;go_enter func266,ntmps266;go_upto_region 1 with fail;refine gF (by kernel_rfl) (MvF Z go (.string z.name) (.slice z.ad n1 z.cap) (iI z.good) (.string A.name) (.slice A.ad n2 A.cap) (iI A.good) (.string E.name) (.slice E.ad n3 E.cap) (iI E.good)) 23 ?_;refine dZ 0 (pP Z) rfl G ?_ ?_
 ·rintro wz ⟨R,⟨U,V,z2⟩,⟨J,L,M⟩,⟨N,O,Q⟩⟩;go_simp
 simp only[dI,dJ,dK,dL];refine dZ 1 (pP Z) rfl G ?_ ?_
 ·rintro wz ⟨R,⟨U,V,z2⟩,⟨J,L,M⟩,⟨N,O,Q⟩⟩;go_simp
 simp only[dI,dJ,dK,dL];refine dZ 2 (pP Z) rfl G ?_ ?_
 ·rintro wz ⟨R,⟨U,V,z2⟩,⟨J,L,M⟩,⟨N,O,Q⟩⟩;go_simp
 simp only[dI,dJ,dK,dL];refine dZ 3 (pP go) rfl G ?_ ?_
 ·rintro wz ⟨R,⟨U,V,z2⟩,⟨J,L,M⟩,⟨N,O,Q⟩⟩;go_simp
 simp only[dI,dJ,dK,dL];refine dZ 4 (pP go) rfl G ?_ ?_
 ·rintro wz ⟨R,⟨U,V,z2⟩,⟨J,L,M⟩,⟨N,O,Q⟩⟩;go_simp
 simp only[dI,dJ,dK,dL];refine dZ 5 (.pointer (some ⟨go,3,none⟩)) rfl G ?_ ?_
 ·rintro wz ⟨R,⟨U,V,z2⟩,⟨J,L,M⟩,⟨N,O,Q⟩⟩;go_simp
 simp only[dI,dJ,dK,dL];refine dZ 6 (.agg #[.string z.name,.slice z.ad n1 z.cap,iI z.good]) rfl G ?_ ?_
 ·rintro wz ⟨R,⟨U,V,z2⟩,⟨J,L,M⟩,⟨N,O,Q⟩⟩;go_simp
 simp only[dI,dJ,dK,dL];refine dZ 7 (pP Z) rfl G ?_ ?_
 ·rintro wz ⟨R,⟨U,V,z2⟩,⟨J,L,M⟩,⟨N,O,Q⟩⟩;go_simp
 simp only[dI,dJ,dK,dL];refine dZ 8 (pP Z) rfl G ?_ ?_
 ·rintro wz ⟨R,⟨U,V,z2⟩,⟨J,L,M⟩,⟨N,O,Q⟩⟩;go_simp
 simp only[dI,dJ,dK,dL];refine dZ 9 (.pointer (some ⟨Z,1,none⟩)) rfl G ?_ ?_
 ·rintro wz ⟨R,⟨U,V,z2⟩,⟨J,L,M⟩,⟨N,O,Q⟩⟩;go_simp
 simp only[dI,dJ,dK,dL];refine dZ 10 (.agg #[.string A.name,.slice A.ad n2 A.cap,iI A.good]) rfl G ?_ ?_
 ·rintro wz ⟨R,⟨U,V,z2⟩,⟨J,L,M⟩,⟨N,O,Q⟩⟩;go_simp
 simp only[dI,dJ,dK,dL];refine dZ 11 (pP Z) rfl G ?_ ?_
 ·rintro wz ⟨R,⟨U,V,z2⟩,⟨J,L,M⟩,⟨N,O,Q⟩⟩;go_simp
 simp only[dI,dJ,dK,dL];refine dZ 12 (pP Z) rfl G ?_ ?_
 ·rintro wz ⟨R,⟨U,V,z2⟩,⟨J,L,M⟩,⟨N,O,Q⟩⟩;go_simp
 simp only[dI,dJ,dK,dL];refine dZ 13 (pP Z) rfl G ?_ ?_
 ·rintro wz ⟨R,⟨U,V,z2⟩,⟨J,L,M⟩,⟨N,O,Q⟩⟩;go_simp
 simp only[dI,dJ,dK,dL];refine dZ 14 (pP go) rfl G ?_ ?_
 ·rintro wz ⟨R,⟨U,V,z2⟩,⟨J,L,M⟩,⟨N,O,Q⟩⟩;go_simp
 simp only[dI,dJ,dK,dL];refine dZ 15 (pP go) rfl G ?_ ?_
 ·rintro wz ⟨R,⟨U,V,z2⟩,⟨J,L,M⟩,⟨N,O,Q⟩⟩;go_simp
 simp only[dI,dJ,dK,dL];refine dZ 16 (.pointer (some ⟨go,6,none⟩)) rfl G ?_ ?_
 ·rintro wz ⟨R,⟨U,V,z2⟩,⟨J,L,M⟩,⟨N,O,Q⟩⟩;go_simp
 simp only[dI,dJ,dK,dL];refine dZ 17 (.agg #[.string E.name,.slice E.ad n3 E.cap,iI E.good]) rfl G ?_ ?_
 ·rintro wz ⟨R,⟨U,V,z2⟩,⟨J,L,M⟩,⟨N,O,Q⟩⟩;go_simp
 simp only[dI,dJ,dK,dL];refine dZ 19 (pP Z) rfl G ?_ ?_
 ·rintro wz ⟨R,⟨U,V,z2⟩,⟨J,L,M⟩,⟨N,O,Q⟩⟩;go_simp
 simp only[dI,dJ,dK,dL];refine dZ 20 (pP Z) rfl G ?_ ?_
 ·rintro wz ⟨R,⟨U,V,z2⟩,⟨J,L,M⟩,⟨N,O,Q⟩⟩;go_simp
 simp only[dI,dJ,dK,dL];refine dZ 21 (.pointer (some ⟨Z,5,none⟩)) rfl G ?_ ?_
 ·rintro wz ⟨R,⟨U,V,z2⟩,⟨J,L,M⟩,⟨N,O,Q⟩⟩;go_simp
 simp only[dI,dJ,dK,dL];refine zJ 18 22 rfl rfl (by kernel_rfl) (fun K I=> ?_) (fun K I=> ?_)
 ·go_simp;have ac:=a8 (dM.below (HX.out w (OV _)) (OX _ _).drew (OV _));have aa:=a8 ((nAl w (.cells #[.string z.name,.slice z.ad n1 z.cap,iI z.good,.string A.name,.slice A.ad n2 A.cap,iI A.good,.string E.name,.slice E.ad n3 E.cap,iI E.good] 127)).drew);have am:=a8 (ae.out _ aa);have aj:=a8 (aq.out _ aa);refine I _ _ (fun _=>am.out) ?_;clear I K G;generalize (w.alloc (.cells #[.string z.name,.slice z.ad n1 z.cap,iI z.good,.string A.name,.slice A.ad n2 A.cap,iI A.good,.string E.name,.slice E.ad n3 E.cap,iI E.good] 127)).drew=WA at ac aa am aj⊢
  try simp only[dI,dJ,dK,dL]
  refine dY 22 rfl (by kernel_rfl) (fun K I=> ?_);refine fZ 269 lW (.tmp 24) #[204] (by rfl) (by rfl) _ (by simp[go_sem];rfl) ?_;refine aj.mono ?_;rintro e w5 ⟨xa,xc,rfl,ai,af⟩;have an:=a8 ai;have ar:=a8 (dM.below ac af (OV _));have ab:=bTr aa af;refine⟨_,rfl,I _ _ (fun _=>ae.out _ ab) ?_⟩;clear I K ai af ac aa am aj
  try simp only[dI,dJ,dK,dL]
  refine dY 23 rfl (by kernel_rfl) (fun K I=> ?_);refine jD _ (by rfl) (.tmp 21) (.tmp 25) (by rfl) w.heap.size _ (sS w.heap.size 3 3) [z,A,E] cl xa xc (by simp[go_sem]) (by simp[go_sem]) ar.out an.out (by simp;omega) ab.size ?_;intro v7 w7 h7 ah;have ag:=a8 h7;have ak:=a8 (jy ab ar ah ab.size);refine I _ _ (fun h=>by cases h) ?_;clear I K h7 ah
  try simp only[dI,dJ,dK,dL]
  refine dY 24 rfl (by kernel_rfl) (fun K I=> ?_);go_simp;refine I _ _ (fun h=>by cases h) (fe (by kernel_rfl) ?_ _);clear I K;obtain⟨a7,c7,ap⟩:=dM.sl ag.out;subst ap;go_wp2;go_ret;exact⟨a7,c7,rfl,ag,ak⟩
 ·refine fZ 269 lW (.tmp 24) #[204] (by rfl) (by rfl) _ (by simp[go_sem];rfl) ?_;have al:=a8 ((OX w.heap.size w).drew);refine(aq.out _ al).mono ?_;rintro e w5 ⟨xa,xc,rfl,ai,af⟩;have an:=a8 ai;have ab:=bTr al af;refine⟨_,rfl,I _ _ (fun _=>ae.out _ ab) ?_⟩;clear I K ai af G al
  try simp only[dI,dJ,dK,dL]
  refine dY 18 rfl (by kernel_rfl) (fun K I=> ?_);go_simp;have ao:=nAl w5 (.cells #[.string z.name,.slice z.ad n1 z.cap,iI z.good,.string A.name,.slice A.ad n2 A.cap,iI A.good,.string E.name,.slice E.ad n3 E.cap,iI E.good] 127);have ac:=a8 (HX.out w5 ab.size);have au:=a8 (dM.below an ao (OV _));have aa:=bTr ab ao;clear ao;refine I _ _ (fun _=>ae.out _ aa) ?_;clear I K;generalize av:w5.heap.size=g5 at ac⊢;clear av;generalize w5.alloc (.cells #[.string z.name,.slice z.ad n1 z.cap,iI z.good,.string A.name,.slice A.ad n2 A.cap,iI A.good,.string E.name,.slice E.ad n3 E.cap,iI E.good] 127)=WA at ac aa au⊢
  try simp only[dI,dJ,dK,dL]
  refine dY 23 rfl (by kernel_rfl) (fun K I=> ?_);refine jD _ (by rfl) (.tmp 21) (.tmp 25) (by rfl) w.heap.size _ (sS g5 3 3) [z,A,E] cl xa xc (by simp[go_sem]) (by simp[go_sem]) ac.out au.out (by simp;omega) aa.size ?_;intro v7 w7 h7 ah;have ag:=a8 h7;have ak:=a8 (jy aa ac ah aa.size);refine I _ _ (fun h=>by cases h) ?_;clear I K h7 ah
  try simp only[dI,dJ,dK,dL]
  refine dY 24 rfl (by kernel_rfl) (fun K I=> ?_);go_simp;refine I _ _ (fun h=>by cases h) (fe (by kernel_rfl) ?_ _);clear I K;obtain⟨a7,c7,ap⟩:=dM.sl ag.out;subst ap;go_wp2;go_ret;exact⟨a7,c7,rfl,ag,ak⟩
section
open Go.Maps
def nE(w:World)(b:Nat)(ns:List BA):Prop:=∃(n:Nat) (M:DataW Unit),n≤ns.length∧w.ownsMap prog 9 unitElem b n M∧∀s:BA,Maps.has M (kS s)=true↔s∈ns
theorem nE.keep{w w':World}{b:Nat}{ns:List BA}(h:nE w b ns)(J:w'.heap[b]? =w.heap[b]?):nE w' b ns:=by
 obtain⟨n,M,E,⟨A,c,G,z⟩,I⟩:=h;exact⟨n,M,E,⟨A,c,J.trans G,z⟩,I⟩
theorem nE.lt{w:World}{b:Nat}{ns:List BA}(h:nE w b ns):b<w.heap.size:=by
 obtain⟨n,M,A,z,E⟩:=h;exact z.lt
theorem nE.put{w':World}{b n:Nat}{u:BA}{M:DataW Unit}{ns:List BA}(z:n≤ns.length)(A:∀s:BA,Maps.has M (kS s)=true↔s∈ns)(E:IsMap M)(G:w'.ownsMap prog 9 unitElem b (n+1) (M.put (kS u) (.agg []))):nE w' b (ns++[u]):=by
 refine⟨n+1,_,by simpa using z,G,fun s=> ?_⟩;by_cases e:s=u
 ·subst e;rw[has_put_same E (Do s)];simp
 ·rw[has_put_other (fun h=>e (qU h)),A s];simp[e]
theorem Jc{w:World}{b:Nat}{ns:List BA}{s:BA}(h:nE w b ns)(Q:s.size≤1048576):∃t:Bool,(t=true↔s∈ns)∧∀W:World,W.heap=w.heap→(Instr.lookup 123 (.map (some b)) (.string s) true).run prog W= .ok (.tuple #[.agg #[],.bool t]) W:=by
 obtain⟨n,M,O,I,J⟩:=h;refine⟨Maps.has M (kS s),J s,fun W L=> ?_⟩;have E:W.ownsMap prog 9 unitElem b n M:=by
  obtain⟨G,c,K,A⟩:=I;exact⟨G,c,by rw[L];exact K,A⟩
 obtain⟨v,R,z,N⟩:=E.look_ok kw underlying123 (mJ W) unitElem_mk (AJ s (by unfold maxLen;omega));obtain⟨rfl,_⟩:=unitElem_inv N;exact z
structure MeI(bm:Nat)(W wr:World)(o:Value)(L:List OpV)(N:List BA):Prop where
 ov:∃vs,fU wr W.heap.size o vs L∧ApV vs L
 st:nE wr bm N
 bx:dX bm W.heap.size W wr
 lt:bm<W.heap.size
theorem MeI.below{A:Nat}{W wr wr':World}{o:Value}{L:List OpV}{N:List BA}(h:MeI A W wr o L N)(z:Below wr.heap.size wr wr'):MeI A W wr' o L N:=by
 obtain⟨⟨M,I,J⟩,E,G,K⟩:=h;exact⟨⟨M,I.below' z,J⟩,E.keep (z.block _ E.lt),G.trans (dX.of_below z G.size),K⟩
theorem MeI.bury{E n:Nat}{W wr wr':World}{o:Value}{L:List OpV}{N:List BA}{u:BA}{M:DataW Unit}(h:MeI E W wr o L N)(R:n≤N.length)(V:∀s:BA,Maps.has M (kS s)=true↔s∈N)(Y:IsMap M)(Z:wr'.ownsMap prog 9 unitElem E (n+1) (M.put (kS u) (.agg [])))(A:wr.grownBy wr' (some E)):MeI E W wr' o L (N++[u]):=by
 obtain⟨⟨vs,I,U⟩,_,z,K⟩:=h;have G:∀{e k n:Nat} {v:Value} {xs:List Value},wr.ownsRow W.heap.size e k v n xs→wr'.ownsRow W.heap.size e k v n xs:=fun{e k n v xs} h=>OE h A (by
  cases hb:v.ownBlock with
  |none=>exact .inl rfl
  |some g=>exact .inr (fun e=>by have:=(OF h g hb).1;have J:g=E:=(by simpa using e);have:=K;omega))
 exact⟨⟨vs,⟨I.len,G I.row,fun i hi=>by
  obtain⟨x,Q,J⟩:=I.body i hi;exact⟨x,Q,G J⟩⟩,U⟩,nE.put R V Y Z,⟨A.os.trans z.os,A.tape.trans z.tape,A.output.trans z.output,O0 z.size A.size,fun k G O=>(A.block k (Pb G z.size) (fun e=>O (by simpa using e))).trans (z.block k G O)⟩,K⟩
theorem MeI.app{G:Nat}{W X w':World}{o K:Value}{R A:List V4}{L E:List OpV}{N:List BA}(h:MeI G W X o L N)(J:fU X W.heap.size o R L)(Q:fU w' W.heap.size K A E)(M:ApV A E)(z:X.grownBy w' o.ownBlock):MeI G W w' K E N:=
 ⟨⟨A,Q,M⟩,h.st.keep (z.block _ h.st.lt (fun e=>by have:=(pm J.row e.symm).1;have:=h.lt;omega)),⟨z.os.trans h.bx.os,z.tape.trans h.bx.tape,z.output.trans h.bx.output,O0 h.bx.size z.size,fun k I O=>(z.block k (Pb I h.bx.size) (fun e=>by have:=(pm J.row e.symm).1;omega)).trans (h.bx.block k I O)⟩,h.lt⟩
def qf(fl:List FT):List BA:=fl.flatMap fun f=>f.1::fH f
open Classical in
noncomputable def vU(fl:List FT)(nm:BA):Bool:= !(decide (nm∈qf fl))
noncomputable def rO(D:dO)(fl:List FT):List OpV:=fl.flatMap eK++iX ((D.names.map (·.1)).filter (vU fl))
open Classical in
theorem Nm{fl:List FT}{nm:BA}(h:nm∈qf fl):vU fl nm=false:=by unfold vU;rw[ON h];rfl
open Classical in
theorem Nn{fl:List FT}{nm:BA}(h:nm∉qf fl):vU fl nm=true:=by unfold vU;rw[OM h];rfl
def Cq(w:World)(l:List OpV)(e:Ending)(w':World):Prop:=∃v vs,e= .returned v∧fU w' w.heap.size v vs l∧ApV vs l∧Below w.heap.size w w'
end
section
open Go.Maps
theorem BN(v u:Value)(w:World):(callFunc 60 #[v,u]).run prog w= .ok (.enter 60 #[v,u]) w:=by
 go_simp
theorem NY(w:World)(A:Array Value)(t:TypeId):Blk ((w.alloc (.cells A t)).alloc (.map #[] 0)) w.heap.size A t∧nE ((w.alloc (.cells A t)).alloc (.map #[] 0)) (w.heap.size+1) []∧Below w.heap.size w ((w.alloc (.cells A t)).alloc (.map #[] 0)):=by
 have I:(w.alloc (.cells A t)).heap.size=w.heap.size+1:=OG _ _;have b1:=dQ w A t;have E:=(OX (w.alloc (.cells A t)).heap.size (w.alloc (.cells A t))).alloc (OV _) (.map #[] 0);have z:=nAl w (.cells A t);have G:=World.ownsMap_made (H:=Unit) (w.alloc (.cells A t)) prog 9 unitElem;rw[I] at G;exact⟨b1.below E b1.lt,⟨0,_,OV _,G,fun u=>by simp[Maps.has]⟩,z.trans (E.mono z.size)⟩
theorem GP(l:List FT)(f:FT):qf (l++[f])=qf l++(f.1::fH f):=by unfold qf;rw[kY]
theorem J5(l:List FT):(qf l).length≤l.length*2:=lO _ 2 (fun f=>by have:=nb f;simp;omega) l
def sH(D:dO)(ob:BA→Bool)(j:Nat):List BA:=((D.names.take j).map (·.1)).filter ob
def vT(fl:List FF)(j:Nat):List OpV:=((fl.take j).map ftF).flatMap eK
def vZ(fl:List FF)(j:Nat):List BA:=qf ((fl.take j).map ftF)
theorem Aj{fl:List FF}{j:Nat}(h:j<fl.length):vT fl (j+1)=vT fl j++eK (ftF fl[j])∧vZ fl (j+1)=vZ fl j++(fl[j].name::fH (ftF fl[j])):=by
 unfold vT vZ;rw[fD fl j h,O7,Pe,PD,kY,GP];exact⟨rfl,rfl⟩
theorem Bp(fl:List FF)(j:Nat)(h:j≤fl.length):(vT fl j).length≤j*5∧(vZ fl j).length≤j*2:=by
 have z:=lO eK 5 ko ((fl.take j).map ftF);have A:=J5 ((fl.take j).map ftF);rw[OW,Pa,Nat.min_eq_left h] at z A;exact⟨z,A⟩
theorem Bc(v:Value)(D:dO)(w:World)(T:TypeId)(ff:FuncId)(p:OA)(fl:List FF)(hv:eM D)(hd:kJ w v D)
  (hm:∀(v:Value) (w:World),(Go.method 454 T v "loop.example/s02349/impl.files").run prog w= .ok (ff,v) w) (ce:∀(a:Value) (w:World),(callFunc ff #[a]).run prog w= .ok (.enter ff #[a]) w)
  (hC:∀X,Below w.heap.size w X→Calls prog ff #[.pointer p] X (ny fl X)) (hn:fl.length≤1000) (bD:∀f∈fl,fV w f.ad f.cap f.data∧f.name.size≤1000∧f.data.length≤40000):
  Calls prog 29 #[v,.iface T (.pointer p)] w (Cq w (rO D (fl.map ftF))):=by
 obtain⟨a1,c1,a2,c2,a3,c3,a4,c4,rfl,r1,r2,r3,r4⟩:=hd;obtain⟨L1,L2,hA⟩:=NY w #[.slice a1 D.nodes.length c1,.slice a2 D.names.length c2,.slice a3 D.kept.length c3,.slice a4 D.pend.length c4,.int .i64 D.quota] 34;have cj:= @run_makeMap prog;have bW:=a8 r2;have HA:=a8 hA;have H1:=a8 L1;have H2:=a8 L2;have HC:=a8 hC;have bi:=a8 bD;have bU:=a8 (fX hv.2.2.2.2.1).2.2.1;have bV:=a8 (lf hv.2.2.2.2.1);clear r1 r2 r3 r4 hA L1 L2 hC bD hv;go_enter func29,ntmps29;go_wp2_with fail;clear cj;generalize (w.alloc (.cells #[.slice a1 D.nodes.length c1,.slice a2 D.names.length c2,.slice a3 D.kept.length c3,.slice a4 D.pend.length c4,.int .i64 D.quota] 34)).alloc (.map #[] 0)=w1 at HA H1 H2⊢;refine(HC.out w1 HA).mono ?_;rintro e W ⟨fa,fc,rfl,bK,am⟩;have HF:=a8 bK;have ac:=bTr HA am;have be:=a8 (H1.below am H1.lt);have cb:=a8 (show w.heap.size+1<w1.heap.size∧w1.heap.size≤W.heap.size from⟨H2.lt,am.size⟩);have bQ:=a8 (show MeI (w.heap.size+1) W W (sN) [] [] from⟨⟨[],fU.nil _ _,List.Pairwise.nil⟩,H2.keep (am.block _ H2.lt),dX.refl _ _ _,Pb H2.lt am.size⟩);clear bK am hm ce HA H1 H2 HC;go_wp2;go_loopw [5,8,18] (fun o _ i wr=>∃j:Nat,j≤fl.length∧i=iI j∧Hid (MeI (w.heap.size+1) W wr o (vT fl j) (vZ fl j))) (fun _ _ i _=>fl.length-(intOf i).toNat)
 case atStart=>exact⟨0,O4 _,rfl,bQ⟩
 case round=>
  obtain⟨j,hj,rfl,HI⟩:=hrel;by_cases V:j<fl.length
  ·have bM:(j:Int)<(fl.length:Int):=(by omega);obtain⟨gf,ch,cg,bE⟩:=HF.at0 (by rw[OW];omega);subst ch;have av:=a8 (show∀k (hk:k<3),wr.cell? ⟨gf,j*3+k,none⟩=(tB fl[j])[k]? from fun k hk=>by
    have hl:((fl.map tB)[j]'(by simpa using V)).length=3:=(by rw[Po];rfl);rw[ef (HI.bx.block gf bE (by have:=cb.out;omega)),HF.cell j k (by simpa using V) (by rw[hl];exact hk),OZ (by show k<3;exact hk)];congr 1;simp)
   obtain⟨bL,bH,bC⟩:=bi.out fl[j] (O6 V);have U:=a8 bL;have Q:=a8 (Aj V);have O:=a8 (Bp fl j (by omega));have af:=a8 (show ftF fl[j]=(fl[j].name,fl[j].data,fl[j].good) from rfl);clear bL cg bE;generalize ftF fl[j]=ft at Q af;generalize hO:vT fl j=L at HI Q O;generalize hS:vZ fl j=N at HI Q O;clear hO hS;generalize fl[j]=f at av U bH bC Q af;obtain⟨nm,G,cap,E,z⟩:=f;simp only at U bH bC Q af;have k0:wr.cell? ⟨gf,j*3,none⟩=some (.string nm):=av.out 0 (by omega);have k1:wr.cell? ⟨gf,j*3+1,none⟩=some (.slice G E.length cap):=av.out 1 (by omega);have k2:wr.cell? ⟨gf,j*3+2,none⟩=some (iI z):=av.out 2 (by omega);have bA:=nAl wr (.cells #[.string nm,.slice G E.length cap,iI z] 127);have HM:=a8 (dQ wr #[.string nm,.slice G E.length cap,iI z] 127);have aw:=a8 (HI.below bA);have bj:=a8 (show W.heap.size≤wr.heap.size from HI.bx.size);clear bA av HI;go_upto_region 6 with fail;generalize wr.alloc (.cells #[.string nm,.slice G E.length cap,iI z] 127)=X at HM aw⊢;clear k0 k1 k2;generalize wr.heap.size=A at HM bj⊢;have m0:X.cell? ⟨A,0,none⟩=some (.string nm):=HM.cell 0;obtain⟨N0,M0,aA,aq,ap⟩:=aw.st;have aj:=a8 aq;have aE:=a8 ap;have ay:=a8 aA;have aG:=AJ nm (by unfold maxLen;omega);have aN:N0<maxLen:=(by have h1:=O.2;unfold maxLen;omega);clear aq ap aA;go_upto_region 7 with(at_mapUpdate;refine wpList_mapUpdate_own _ rfl _ _ _ 123 rfl 9 128 kw underlying123 unitElem (w.heap.size+1) N0 M0 rfl aj aN _ _ _ rfl rfl aG _ [] unitElem_mk ?_;intro w5 bI ba)
   have aJ:=a8 (aw.bury ay aE aj.isMap bI ba);have ah:=a8 (eA HM (ba.block A HM.lt (fun e=>by have e2:A=w.heap.size+1:=(by simpa using e);have:=aw.lt;have:=bj.out;omega)));clear bI ba aw HM aj aE ay aN m0 aG;obtain⟨m0,m1,m2⟩:=ah.c3;go_wp2_with fail;refine(Kt nm G E.length cap z w5).mono ?_;rintro e w6 ⟨rfl,aZ⟩;have ag:=a8 (aJ.below aZ);have ai:=a8 (ah.below aZ ah.lt);clear aZ m0 m1 m2 aJ ah;by_cases J:z<E.length
   ·have aa:=a8 (vn (f:=ft) (by rw[af.out];exact J));have az:=a8 (show vT fl (j+1)=L++gG nm (E.take z)∧vZ fl (j+1)=(N++[nm])++[nm++iZ] from by
     rw[Q.1,Q.2,aa.1,aa.2,af.out];exact⟨rfl,by simp⟩)
    have ct:=fun(W:World)=>qg (W:=W) U (Nat.le_of_lt J);have bO:=a8 (fun(Y:World) (hY:Below w.heap.size w Y)=>by
     have h:=yW nm G cap (E.take z) Y (by omega) (by rw[Pa];omega) (((U.take z).row).below hY);rw[Pa,Nat.min_eq_left (Nat.le_of_lt J)] at h;exact h)
    rw[ON J];have ae:=a8 (gX ac ag.bx (by omega) ac.size);have M:FbS A 0 (.string nm) (.slice G E.length cap) (iI z) w6.drew:=⟨ai.cell 0,ai.cell 1,ai.cell 2⟩
    have bX:=a8 (show FbS A 0 (.string nm) (.slice G E.length cap) (iI z) w6 from M);obtain⟨aD,aB,an⟩:=ag.ov;have ab:=a8 aB;have ar:=a8 an;clear J aB an;go_upto_region 8 with fail;refine gF (by kernel_rfl) (FbS A 0 (.string nm) (.slice G E.length cap) (iI z)) 9 ?_;refine dZ 0 u5 rfl M ?_ ?_
    ·rintro wz ⟨z0,R,z2⟩;go_simp
    simp only[dI,dJ,dK,dL];refine dZ 1 (pP A) rfl M ?_ ?_
    ·rintro wz ⟨z0,R,z2⟩;go_simp
    simp only[dI,dJ,dK,dL];refine dZ 2 (.string nm) rfl M ?_ ?_
    ·rintro wz ⟨z0,R,z2⟩;go_simp
    simp only[dI,dJ,dK,dL];refine dZ 3 (.pointer (some ⟨A,1,none⟩)) rfl M ?_ ?_
    ·rintro wz ⟨z0,R,z2⟩;go_simp
    simp only[dI,dJ,dK,dL];refine dZ 4 (.slice G E.length cap) rfl M ?_ ?_
    ·rintro wz ⟨z0,R,z2⟩;go_simp
    simp only[dI,dJ,dK,dL];refine dZ 5 (.pointer (some ⟨A,2,none⟩)) rfl M ?_ ?_
    ·rintro wz ⟨z0,R,z2⟩;go_simp
    simp only[dI,dJ,dK,dL];refine dZ 6 (iI z) rfl M ?_ ?_
    ·rintro wz ⟨z0,R,z2⟩;go_simp
    simp only[dI,dJ,dK,dL];refine dZ 7 (.slice G z cap) rfl M ?_ ?_
    ·rintro wz ⟨z0,R,z2⟩;go_simp
    simp only[dI,dJ,dK,dL];refine dY 8 rfl (by kernel_rfl) (fun K Z=> ?_);refine gV 60 BN (.tmp 30) (.tmp 35) #[9,52] (by rfl) (by rfl) (.string nm) (.slice G z cap) (by simp[go_sem]) (by simp[go_sem]) ?_;refine(bO.out _ ae.drew).mono ?_;rintro e w7 ⟨xv,xs,rfl,aP,bz⟩;have ao:Below w6.heap.size w6 w7:=(OX _ _).drew.trans bz;have aT:=a8 (ag.below ao);have aK:=a8 (ai.below ao ai.lt);have al:=a8 (ab.below' ao);have cc:=a8 (show fU w7 W.heap.size xv xs (gG nm (E.take z)) from aP.mono ag.bx.size);have aH:=a8 (ApV.append ar (KM nm (E.take z) aP.len) ab aP);have bY:=a8 (bX.below ao);refine⟨_,rfl,Z _ _ (fun _=>bY.out) ?_⟩;clear Z K aP bz ao M ag ai ab
    try simp only[dI,dJ,dK,dL]
    refine dY 9 rfl (by kernel_rfl) (fun K Z=> ?_);refine sE _ (by rfl) (.tmp 28) (.tmp 36) (by rfl) W.heap.size u5 aD L (by simp[go_sem]) al.out xv xs (gG nm (E.take z)) (by simp[go_sem]) cc.out (by rw[lw];omega) (by rw[lw];have:=O.1;omega) aT.bx.size ?_;intro v8 w8 h8 bb;have bk:=a8 (aT.app al h8 aH bb);have bS:=a8 (eA aK (bb.block A aK.lt (fun e=>OH (nB.ne (show nB w7 A 127 from⟨_,_,aK⟩) (uz al.row e.symm)) (by decide))));refine Z _ _ (fun h=>by cases h) ?_;clear Z K h8 bb aT aK al
    try simp only[dI,dJ,dK,dL]
    refine dY 10 rfl (by kernel_rfl) (fun K Z=> ?_);go_simp;refine Z _ _ (fun h=>by cases h) (fe (by kernel_rfl) ?_ _);clear Z K;have m0:w8.cell? ⟨A,0,none⟩=some (.string nm):=bS.cell 0;obtain⟨N0,M0,aA,aq,ap⟩:=bk.st;have aj:=a8 aq;have aE:=a8 ap;have ay:=a8 aA;have bd:(nm++iZ).size≤maxLen:=(by rw[ByteArray.size_append];have:iZ.size=4:=rfl;unfold maxLen;omega);have aG:=AJ (nm++iZ) bd;have aN:N0<maxLen:=(by have h1:=O.2;have h2:=ay.out;rw[O1,List.length_singleton] at h2;unfold maxLen;omega);clear aq ap aA bd;go_wp2_with (at_mapUpdate;refine wpList_mapUpdate_own _ rfl _ _ _ 123 rfl 9 128 kw underlying123 unitElem (w.heap.size+1) N0 M0 rfl aj aN _ _ _ rfl rfl aG _ [] unitElem_mk ?_;intro w9 bJ bF)
    have bR:=a8 (bk.bury ay aE aj.isMap bJ bF);clear bJ bF;go_roundw
    case rel=>exact⟨j+1,by omega,by go_num,by rw[az.1,az.2];exact a8 bR⟩
    case measure=>simp[intOf];omega
   ·have bq:=a8 (qp (f:=ft) (by rw[af.out];exact J));have az:=a8 (show vT fl (j+1)=L∧vZ fl (j+1)=N++[nm] from by
     rw[Q.1,Q.2,bq.1,bq.2,Pm];exact⟨rfl,rfl⟩)
    rw[OM J];clear J;go_wp2;go_roundw
    case rel=>exact⟨j+1,by omega,by go_num,by rw[az.1,az.2];exact a8 ag⟩
    case measure=>simp[intOf];omega
  ·have bc:j=fl.length:=(by omega);subst bc;have cr:¬((fl.length:Int)<(fl.length:Int)):=(by omega);have aS:=a8 (show vT fl fl.length=(fl.map ftF).flatMap eK∧vZ fl fl.length=qf (fl.map ftF) by unfold vT vZ;rw[PA];exact⟨rfl,rfl⟩);have O:=a8 (Bp fl fl.length (OV _)).1;have ax:=a8 (show rO D (fl.map ftF)=(fl.map ftF).flatMap eK++iX ((D.names.map (·.1)).filter (vU (fl.map ftF))) from rfl);have aL:=a8 (fun(nm:BA)=>(⟨fun h=>Nm h,fun h=>Nn h⟩:(nm∈qf (fl.map ftF)→vU (fl.map ftF) nm=false)∧(nm∉qf (fl.map ftF)→vU (fl.map ftF) nm=true)));rw[aS.1] at HI O;rw[aS.2] at HI;generalize (fl.map ftF).flatMap eK=LO at HI O ax;generalize qf (fl.map ftF)=SN at HI aL;generalize vU (fl.map ftF)=I at aL ax;have cn:D.names.length≤300:=bU.out;have aI:=a8 (gX ac HI.bx (by omega) ac.size);have R:wr.cell? ⟨w.heap.size,1,none⟩=some (.slice a2 D.names.length c2):=(eA be (HI.bx.block _ be.lt (by omega))).cell 1;obtain⟨W2,cd⟩:∃x,x=wr:=⟨_,rfl⟩
   subst cd;obtain⟨ov,ck⟩:∃x,x=u5:=⟨_,rfl⟩
   subst ck;clear aS HF bi;go_wp2;clear R;go_loopw [9,11,12,13,47] (fun sv _ _ _ i wr=>∃j:Nat,j≤D.names.length∧i=iI j∧Hid (fB wr W2.heap.size sv (sH D I j))∧Hid (Below W2.heap.size W2 wr)) (fun _ _ _ _ i _=>D.names.length-(intOf i).toNat)
   case atStart=>exact⟨0,O4 _,rfl,a8 (fB.nil _ _),a8 (OX _ _)⟩
   case round=>
    obtain⟨j,hj,rfl,HT,HB⟩:=hrel;have ak:=a8 (show(sH D I j).length≤300 from by
     have h1:=PK I ((D.names.take j).map (·.1));rw[OW,Pa] at h1;unfold sH;omega)
    by_cases V:j<D.names.length
    ·have bM:(j:Int)<(D.names.length:Int):=(by omega);obtain⟨b2,o2,e2,bB⟩:=(bW.below (aI.trans (HB.mono aI.size))) (by omega)
     subst e2;obtain⟨k0,k1⟩:=bB j V;have cm:=bV.out j V;have aX:=a8 (show(D.names.take (j+1)).map (·.1)=(D.names.take j).map (·.1)++[D.names[j].1] by rw[fD D.names j V,O7];rfl);generalize D.names[j].1=nm at k0 cm aX;generalize D.names[j].2=nd at k1;have bn:=a8 (fun(h:I nm=false)=>show sH D I (j+1)=sH D I j from by unfold sH;rw[aX.out,List.filter_append];simp[h]);have bw:=a8 (fun(h:I nm=true)=>show sH D I (j+1)=sH D I j++[nm] from by unfold sH;rw[aX.out,List.filter_append];simp[h]);generalize hF:sH D I j=F at HT ak bn bw;clear hF bB;have aY:=nAl wr (.cells #[.string nm,.int .i64 nd] 63);have E1:=a8 (dQ wr #[.string nm,.int .i64 nd] 63);have U:=a8 (eZ HT aY);have ae:=bTr HB aY;clear aY HT HB;go_upto_region 15 with fail;generalize wr.alloc (.cells #[.string nm,.int .i64 nd] 63)=X at E1 U ae⊢;clear k0 k1;have e0:X.cell? ⟨wr.heap.size,0,none⟩=some (.string nm):=E1.cell 0;generalize wr.heap.size=A at e0⊢;obtain⟨t,J,bG⟩:=Jc (s:=nm) (HI.below ae).st (by omega);have ci:=bG X rfl;have br:=a8 J;have bP:=a8 (show A<X.heap.size from dG e0);have aF:=nAl X (.cells #[] 128);have aa:=a8 (eZ U aF);have au:=bTr ae aF;have bh:=a8 ((aF.cell (p:=⟨A,0,none⟩) bP).trans e0);clear J bG E1 U ae aF;cases t with
     |true=>
      have aW:=a8 (bn.out ((aL.out nm).1 (br.1 rfl)));go_wp2;go_roundw
      case rel=>exact⟨j+1,by omega,by go_num,by rw[aW.out];exact a8 aa,au⟩
      case measure=>simp[intOf];omega
     |false=>
      have aW:=a8 (bw.out ((aL.out nm).2 (fun h=>by have:=br.2 h;cases this)));go_upto_region 17 with fail;clear ci e0;generalize X.alloc (.cells #[] 128)=Y at aa au bh⊢;have e0:=bh.out;have bT:=a8 (uA Y nm);have aQ:=a8 (au.alloc au.size (.cells #[.string nm] 9));have bp:=a8 (show fB (Y.alloc (.cells #[.string nm] 9)) W2.heap.size u9 F from World.ownsRow.alloc aa _);clear aa au;go_wp2_with (first
       |(at_builtin;refine gd _ rfl (.tmp 60) (.tmp 63) rfl W2.heap.size u9 F nm Y.heap.size 1 rfl rfl ?_ ?_ ?_ ?_ ?_;(exact bp.out);(exact bT.out);(have:=ak.out;omega);(exact aQ.size);intro v7 w7 h7 aC;have ca:=a8 h7;have aR:=a8 (mM aQ bp aC aQ.size);clear h7 aC)
       |go_in)
      go_roundw
      case rel=>exact⟨j+1,by omega,by go_num,by rw[aW.out];exact a8 ca,aR⟩
      case measure=>simp[intOf];omega
    ·have bc:j=D.names.length:=(by omega);subst bc;have co:¬((D.names.length:Int)<(D.names.length:Int)):=(by omega);have bZ:=a8 (show sH D I D.names.length=(D.names.map (·.1)).filter I by unfold sH;rw[PA]);rw[bZ.out] at HT ak;generalize (D.names.map (·.1)).filter I=F at HT ak ax;have aU:=a8 (HI.below HB);have bg:=a8 (aI.trans (HB.mono aI.size));obtain⟨aD,aB,an⟩:=aU.ov;have ab:=a8 aB;have ar:=a8 an;obtain⟨ta,tc,cl⟩:=HT.slice;subst cl;clear aB an;by_cases hF:F=[]
     ·subst hF;have HR:=a8 (show fU wr w.heap.size ov aD (rO D (fl.map ftF))∧ApV aD (rO D (fl.map ftF)) from by
       rw[ax.out];simp only[iX,OS,Pm];exact⟨ab.mono ac.size,ar⟩)
      clear ar;go_wp2;go_ret;exact⟨_,_,rfl,HR.1,HR.2,bg⟩
     ·have cq:0<F.length:=List.length_pos_iff.2 hF;have cp:(0:Int)<(F.length:Int):=(by omega);have aV:=a8 (show rO D (fl.map ftF)=LO++(F.map f8++[iz]) by rw[ax.out];unfold iX;rw[OR hF]);have CR:=a8 (BB W2.heap.size ta tc F wr (by have:=ak.out;omega) HT);have bl:=a8 (show LO.length+(F.map f8++[iz]).length≤1048576 by rw[O1,OW,List.length_singleton];have:=O.out;have:=ak.out;omega);have bm:=a8 (show 0<(F.map f8++[iz]).length by rw[O1,List.length_singleton];omega);have bN:=a8 (show∀o∈F.map f8++[iz],o.2.2.2=[] from fun o ho=>by
       rcases Pj.1 ho with h|h
       ·obtain⟨n,_,rfl⟩:=Pg.1 h;rfl
       ·rw[Ph.1 h])
      clear hF;go_wp2_with fail;refine CR.mono ?_;rintro e w5 ⟨xv,xs,rfl,aO,aM⟩;have aJ:=a8 (aU.below aM);have bt:=a8 (ab.below' aM);have bu:=a8 (show fU w5 W.heap.size xv xs (F.map f8++[iz]) from aO.mono aU.bx.size);have aH:=a8 (ApV.append ar (KN aO.len bN) ab aO);have bf:=bTr bg aM;have bo:=a8 ac.size;generalize F.map f8++[iz]=RO at bu aH bl bm aV;clear aO aM CR;go_wp2_with (at_builtin;(refine eL _ rfl (.tmp 69) (.tmp 71) rfl W.heap.size ov aD LO rfl ?_ xv xs RO rfl ?_ ?_ ?_ ?_ ?_;(exact bt.out);(exact bu.out);(exact bm.out);(exact bl.out);(exact aJ.bx.size);intro v7 w7 h7 aC;have al:=a8 h7;have aR:=a8 (bf.grown aC bf.size (fun k e=>by have:=(pm bt.row e).1;have:=bo.out;omega));clear h7 aC))
      go_ret;exact⟨v7,_,rfl,by rw[aV.out];exact al.mono bo,by rw[aV.out];exact aH.out,aR⟩
end
theorem yQ(v:Value)(D:dO)(Y:Value)(w:World)(hv:eM D)(hd:kJ w v D)(hE:oH w)(ai:w.cell? ⟨1,0,none⟩=some Y):
  Calls prog 57 #[v] w (nD D Y w):=by
 have HD:=a8 hd;obtain⟨a1,c1,a2,c2,a3,c3,a4,c4,aj,r1,r2,r3,r4⟩:=hd;subst aj;have hA:=nAl w (.cells (dkA a1 c1 a2 c2 a3 c3 a4 c4 D) 34);have L0:=dQ w (dkA a1 c1 a2 c2 a3 c3 a4 c4 D) 34;have I:=a8 hv;have HE:=a8 hE;have ah:=a8 ai;have HA:=a8 hA;have H0:=a8 L0;clear r1 r2 r3 r4 hv hE ai hA L0;go_enter func57,ntmps57;go_upto_region 1 with fail;generalize w.alloc (.cells (dkA a1 c1 a2 c2 a3 c3 a4 c4 D) 34)=w1 at HA H0⊢;obtain⟨K,L,M,N,O⟩:=H0.c5;have C1:=a8 (ol _ D ixN w w1 I HD HA);go_wp2_with fail;refine C1.mono ?_;rintro e w2 ⟨ia,ic,rfl,hi,ac⟩;have HI:=a8 hi;have af:=bTr HA ac;have H2:=a8 (H0.below ac H0.lt);clear hi ac K L M N O C1;go_upto_region 2 with fail;obtain⟨K,L,M,N,O⟩:=H2.c5;have C1:=a8 (ol _ D fh w w2 I HD af);go_wp2_with fail;refine C1.mono ?_;rintro e w3 ⟨la,lc,rfl,hl,ad⟩;have HL:=a8 hl;have ag:=bTr af ad;have H3:=a8 (H2.below ad H2.lt);clear hl ad K L M N O C1;go_upto_region 3 with fail;obtain⟨K,L,M,N,O⟩:=H3.c5;have C1:=a8 (ol _ D uxN w w3 I HD ag);go_wp2_with fail;refine C1.mono ?_;rintro e w4 ⟨ua,uc,rfl,hu,ae⟩;have HU:=a8 hu;have z:=bTr ag ae;have H4:=a8 (H3.below ae H3.lt);clear hu ae K L M N O C1;obtain⟨K,L,M,N,O⟩:=H4.c5;cases hix:(b9 D ixN).1 with
 |true=>
  have R:=a8 hix;cases hcu:(b9 D fh).1 with
  |true=>
   have aa:=a8 hcu;have U:=a8 (uL _ D ia ic (b9 D ixN).2 la lc (b9 D fh).2 w4 I (HD.below z) (HI.below z) (HL.below z) (HE.below z));clear hix hcu;go_wp2_with fail;refine U.mono ?_;rintro e w5 (⟨w0,gm,go,s,r,c,r',fs,ca,cc,ta,tc,am,cm,bvs,E,A,Q,V,h5,rfl,Z,h7⟩|⟨E,nm,t,rfl,A⟩)
   ·have J:=bTr z h7;have G:=a8 (show nD D Y w (.returned (.tuple #[.iface 158 (pP gm),.nilIface])) w5 from .inl ⟨_,_,_,_,rfl,(OL jg (mF I R)).trans (Lz E aa),⟨yK Z h5 I V (my A).1 Q.1,.inr (.inl ⟨w0,gm,go,s,r,c,r',fs,ia,ic,la,lc,ca,cc,ta,tc,am,cm,bvs,rfl,R,aa,E,A,Q.2,V,h5,Z,HI.below (J.trans (Z.mb.mb.bel.mono J.size)),HL.below (J.trans (Z.mb.mb.bel.mono J.size))⟩)⟩,Ea Z h5 V (my A).1 Q.1,J.size,J.trans (Z.mb.mb.bel.mono J.size)⟩);clear E A Q V h5 Z h7 U K L M N O;go_wp2;go_ret2;exact G
   ·have G:=a8 (show nD D Y w (.returned (.tuple #[.iface 158 (.pointer none),gB nm t])) w5 from .inr (.inl ⟨_,_,_,rfl,by rw[mF I.out R.out,Nl E aa.out];rfl,z.trans (A.mono z.size)⟩));clear E A U K L M N O;unfold gB at G⊢;go_wp2;go_ret2;exact G
  |false=>
   have aa:=a8 hcu;have U:=a8 (qc _ D ia ic (b9 D ixN).2 w4 I (HD.below z) (HI.below z) (HE.below z));clear hix hcu;go_wp2_with fail;refine U.mono ?_;rintro e w5 (⟨s,r,gm,ta,tc,am,cm,bvs,E,rfl,A,Q⟩|⟨E,nm,t,rfl,A⟩)
   ·have G:=a8 (show nD D Y w (.returned (.tuple #[.iface 161 (pP gm),.nilIface])) w5 from .inl ⟨_,_,_,_,rfl,(OL jg (mF I R)).trans (Lt E aa),⟨DG A Q (my E).1,.inl ⟨w4,gm,s,r,ia,ic,ta,tc,am,cm,bvs,rfl,R,aa,E,Q,A,HI.below (z.trans (A.mb.bel.mono z.size))⟩⟩,J7 A Q (my E).1,z.size,z.trans (A.mb.bel.mono z.size)⟩);clear E A Q U K L M N O;go_wp2;go_ret2;exact G
   ·have G:=a8 (show nD D Y w (.returned (.tuple #[.iface 161 (.pointer none),gB nm t])) w5 from .inr (.inl ⟨_,_,_,rfl,by rw[mF I.out R.out,Jl E];rfl,z.trans (A.mono z.size)⟩));clear E A U K L M N O;unfold gB at G⊢;go_wp2;go_ret2;exact G
 |false=>
  have R:=a8 hix;cases hux:(b9 D uxN).1 with
  |true=>
   have ab:=a8 hux;have U:=a8 (sB _ D ua uc (b9 D uxN).2 w4 I (HD.below z) (HU.below z) (HE.below z));clear hix hux;go_wp2_with fail;refine U.mono ?_;rintro e w5 (⟨w0,s,n,ms,cs,gm,bd,ca,cc,E,A,Q,rfl,V,h5,Z⟩|⟨E,nm,t,rfl,A⟩)
   ·have J:=bTr z Z;have G:=a8 (show nD D Y w (.returned (.tuple #[.iface 164 (pP gm),.nilIface])) w5 from .inl ⟨_,_,_,_,rfl,(OL jg (uN I R ab)).trans (Lv E A Q),⟨vN V I h5,.inr (.inr ⟨w0,gm,bd,s,n,ms,cs,ua,uc,ca,cc,rfl,R,ab,E,A,Q,V,h5,HU.below (J.trans (V.bel.mono J.size))⟩)⟩,BT V h5,J.size,J.trans (V.bel.mono J.size)⟩);clear E A Q V h5 Z U K L M N O;go_wp2;go_ret2;exact G
   ·have G:=a8 (show nD D Y w (.returned (.tuple #[.iface 164 (.pointer none),gB nm t])) w5 from .inr (.inl ⟨_,_,_,rfl,by rw[uN I.out R.out ab.out,Nj (w0:=w) E];rfl,z.trans (A.mono z.size)⟩));clear E A U K L M N O;unfold gB at G⊢;go_wp2;go_ret2;exact G
  |false=>
   have G:=a8 (show∀n,nD D Y w (.returned (.tuple #[.nilIface,Y])) (w4.drewN n) from fun n=> .inr (.inr ⟨rfl,by rw[JR I.out R.out hux];rfl,OI z n⟩));have hg:=(z.cell (p:=⟨1,0,none⟩) (dG ah)).trans ah.out;clear hix hux K L M N O;go_upto_region 10 with fail;go_quiet(fail);go_wp2;go_ret2;exact G.out _
def qE(D:dO)(nv ev:Value)(w:World)(e:Ending)(w':World):Prop:=
 (∃sv h ls L,e= .returned (.tuple #[sv,.nilIface])∧jg (eu D)=⟨0,h.kind,h.val,h.next,h.cur,ls⟩∧(j5 w' L sv h ls∧o8 D w' sv)∧SmL ls∧w.heap.size≤L∧Below w.heap.size w w')∨
 (∃nm t,e= .returned (.tuple #[.nilIface,gB nm t])∧jg (eu D)=tb 3∧Below w.heap.size w w')∨
 (e= .returned (.tuple #[.nilIface,ev])∧jg (eu D)=tb 2∧Below w.heap.size w w')∨
 (e= .returned (.tuple #[.nilIface,nv])∧jg (eu D)=tb 1∧Below w.heap.size w w')
theorem Ll(v:Value)(w:World):(Go.method 454 161 v "loop.example/s02349/impl.look").run prog w= .ok (270,v) w:=by kernel_rfl
theorem Ln(v:Value)(w:World):(Go.method 454 158 v "loop.example/s02349/impl.look").run prog w= .ok (267,v) w:=by kernel_rfl
theorem Lm(v:Value)(w:World):(Go.method 454 164 v "loop.example/s02349/impl.look").run prog w= .ok (271,v) w:=by kernel_rfl
theorem Ej{L:Nat}{h:VH}{A:List LM}(I:j5 w L E h A):∃(T:TypeId) (f:FuncId) (p:OA),E= .iface T (.pointer p)∧(∀(v:Value) (w:World),(Go.method 454 T v "loop.example/s02349/impl.look").run prog w= .ok (f,v) w)∧(∀(a:Value) (w:World),(callFunc f #[a]).run prog w= .ok (.enter f #[a]) w)∧∀X,Below w.heap.size w X→Calls prog f #[.pointer p] X (Cp L h A X):=by
 obtain⟨T,f,J,e,z,G⟩:=I;refine⟨T,f,_,e,?_,?_,G⟩
 ·rcases z with⟨rfl,rfl⟩|⟨rfl,rfl⟩|⟨rfl,rfl⟩
  ·exact Ll
  ·exact Ln
  ·exact Lm
 ·rcases z with⟨rfl,rfl⟩|⟨rfl,rfl⟩|⟨rfl,rfl⟩
  ·intro a w;go_simp
  ·intro a w;go_simp
  ·intro a w;go_simp
theorem K8{h:VH}{z:List LM}(A:∀m∈z,m.body.length≤8000):tI h z=⟨0,h.kind,h.val,h.next,h.cur,z⟩:=by
 unfold tI;rw[OS (List.all_eq_true.2 (fun m E=>ON (A m E)))]
theorem K7{h:VH}{z:List LM}{m:LM}(A:m∈z)(E:8000<m.body.length):tI h z=tb 3:=by
 unfold tI;rw[OR];intro e;have:=OU (List.all_eq_true.1 e m A);omega
theorem vS(v:Value)(D:dO)(N:Value)(J:TypeId)(I:OA)(w:World)(hM:l6 D)(hw:∀o∈D.pend,(Lit.int .i64 o.2.2.2).wf=true)(hd:kJ w v D)(hE:oH w)(ay:w.cell? ⟨0,0,none⟩=some N)(ax:w.cell? ⟨1,0,none⟩=some (.iface J (.pointer I))):
  Calls prog 28 #[v] w (qE D N (.iface J (.pointer I)) w):=by
 have HD:=a8 hd;obtain⟨Y,c1,Z,c2,a3,c3,a4,c4,aM,r1,r2,r3,r4⟩:=hd;subst aM;have hA:=nAl w (.cells (dkA Y c1 Z c2 a3 c3 a4 c4 D) 34);have L0:=dQ w (dkA Y c1 Z c2 a3 c3 a4 c4 D) 34;have HE:=a8 hE;have am:=a8 ay;have al:=a8 ax;have HA:=a8 hA;have K:=a8 L0;have CV:=a8 (Ay (HD.below hA).at hM hw);clear r1 r2 r3 r4 hE ax ay hA L0 hM hw;go_enter func28,ntmps28;go_upto_region 1 with fail;generalize w.alloc (.cells (dkA Y c1 Z c2 a3 c3 a4 c4 D) 34)=w1 at HA K CV⊢;obtain⟨d0,d1,d2,d3,d4⟩:=K.c5;go_wp2_with fail;refine CV.mono ?_;rintro e O ⟨ok,rfl,az,ah⟩;have z:=bTr HA ah;have U:=a8 (K.below ah K.lt);have an:=a8 az;clear ah az d0 d1 d2 d3 d4 CV;cases ok with
 |false=>
  have A:=a8 (show∀n,qE D N (.iface J (.pointer I)) w (.returned (.tuple #[.nilIface,N])) (O.drewN n) from fun n=> .inr (.inr (.inr ⟨rfl,by rw[xC (fun h=>by have:=an.2 h;cases this)];rfl,OI z n⟩)));have hg:=(z.cell (p:=⟨0,0,none⟩) (dG am)).trans am.out;go_upto_region 2 with fail;go_quiet(fail);go_wp2;go_ret2;exact A.out _
 |true=>
  have HV:=a8 (an.1 rfl);obtain⟨d0,d1,d2,d3,d4⟩:=U.c5;have CR:=a8 (yQ _ D (.iface J (.pointer I)) O HV (HD.below z) (HE.below z) ((z.cell (p:=⟨1,0,none⟩) (dG al)).trans al));go_wp2_with fail;refine CR.mono ?_;rintro e w3 (⟨sv,h,ls,L,rfl,E,G,h3,h4,h5⟩|⟨x,nm,t,rfl,E,G⟩|⟨rfl,E,G⟩)
  ·have aD:=bTr z h5;have aE:=a8 (O0 z.size h4);have HS:=a8 G;have aq:=a8 E;have ag:=a8 h3;obtain⟨T,f,p,aL,hm,aH,hc⟩:=Ej G.1;subst aL;have CL:=a8 (hc w3 (OX _ _));clear E G h3 h4 h5 hc CR d0 d1 d2 d3 d4;go_wp2_with fail;refine CL.mono ?_;rintro e R ⟨ys,⟨ma,mc,rfl,ho,aC,ab⟩,ai,aF⟩;have aa:=bTr aD ab;have ao:=a8 (show j5 R L (.iface T (.pointer p)) h ls∧o8 D R (.iface T (.pointer p)) from⟨HS.1.below ab,HS.2.below ab⟩);have HO:=a8 ho;have ar:=a8 ai;have aN:ys.length=ls.length:=(by rw[←ai,OW]);have aK:=ag.1;have ak:ys.length≤100:=(by omega);have HN:=a8 ak;clear ho aC ab ai aF CL HS hm aH aN aK ak;have aP:=uQ;go_wp2;go_loopw [7,24] (fun _ i wr=>∃j:Nat,j≤ys.length∧i=iI j∧Hid (Below R.heap.size R wr∧∀m∈ys.take j,m.x.body.length≤8000)) (fun _ i _=>ys.length-(intOf i).toNat)
   case atStart=>exact⟨0,O4 _,rfl,a8 ⟨OX _ _,by simp⟩⟩
   case round=>
    obtain⟨j,hj,rfl,HI⟩:=hrel;by_cases ac:j<ys.length
    ·have aO:(j:Int)<(ys.length:Int):=(by omega);have aQ:j<100:=(by have:=HN.out;omega);obtain⟨g,aI,_,_⟩:=HO.at0 (by rw[OW];omega);subst aI;have Q:=a8 (show∀k (hk:k<4),wr.cell? ⟨g,j*4+k,none⟩=(vmC ys[j])[k]? from fun k hk=>by
      have E:=HO.cell j k (by rw[OW];exact ac) (by rw[Po];exact hk);rw[ef (HI.1.block g (dM.lt HO.out g rfl).2),E];simp only[Po];exact(OZ _).symm)
     have ap:=a8 (show ys.take (j+1)=ys.take j++[ys[j]] from fD ys j ac);have af:=a8 (show ys[j].x∈ls by rw[←ar.out];exact Pg.2 ⟨_,O6 ac,rfl⟩);generalize ys[j]=m at Q ap af;have aA:=ag.2 _ af.out;have k0:wr.cell? ⟨g,j*4,none⟩=some (uI m.x.uid):=Q.out 0 (by omega);have k1:wr.cell? ⟨g,j*4+1,none⟩=some (iI m.x.stamp):=Q.out 1 (by omega);have k2:wr.cell? ⟨g,j*4+2,none⟩=some (uI m.x.flags):=Q.out 2 (by omega);have k3:wr.cell? ⟨g,j*4+3,none⟩=some (.slice m.ba m.x.body.length m.bc):=Q.out 3 (by omega);have aw:=nAl wr (.cells #[uI m.x.uid,iI m.x.stamp,uI m.x.flags,.slice m.ba m.x.body.length m.bc] 118);have V:=a8 (dQ wr #[uI m.x.uid,iI m.x.stamp,uI m.x.flags,.slice m.ba m.x.body.length m.bc] 118);have ad:=a8 (HI.1.trans (aw.mono HI.1.size));have aj:=a8 aA;clear aw Q aA;go_upto_region 9 with fail;generalize wr.alloc (.cells #[uI m.x.uid,iI m.x.stamp,uI m.x.flags,.slice m.ba m.x.body.length m.bc] 118)=X at V ad⊢;clear k0 k1 k2 k3;obtain⟨m0,m1,m2,m3⟩:=V.c4;by_cases av:m.x.body.length≤8000
     ·have aG:¬(8000:Int)<(m.x.body.length:Int):=(by omega);have HF:=a8 (show Below R.heap.size R X∧∀m∈ys.take (j+1),m.x.body.length≤8000 from⟨ad,fun q M=>by
       rw[ap.out,Pj] at M;rcases M with M|M
       ·exact HI.2 q M
       ·rw[Ph.1 M];exact av⟩)
      go_wp2;exact⟨⟨j+1,by omega,by go_num,HF⟩,by simp[intOf];omega⟩
     ·have aG:(8000:Int)<(m.x.body.length:Int):=(by omega);have ae:=a8 (aa.trans (ad.mono aa.size));have aB:=a8 (show jg (eu D)=tb 3 by rw[aq.out];exact K7 af (by omega));have CN:=a8 (kR m.x.uid (m.x.stamp:Int) m.x.flags X aj.1 aj.2 (HE.below ae).tab);clear av;go_wp2_with fail;refine CN.mono ?_;rintro e w6 ⟨rfl,au⟩;have A:=a8 (show∀nm,qE D N (.iface J (.pointer I)) w (.returned (.tuple #[.nilIface,gB nm ⟨#[97,32,98,111,100,121,32,116,104,97,116,32,105,115,32,116,111,111,32,108,111,110,103]⟩])) w6 from fun nm=> .inr (.inl ⟨_,_,rfl,aB,ae.trans (au.mono ae.size)⟩));unfold gB at A;clear au CN m0 m1 m2 m3;go_wp2;go_ret2;exact A.out _
    ·have aJ:j=ys.length:=(by omega);subst aJ;have A:=a8 (show qE D N (.iface J (.pointer I)) w (.returned (.tuple #[.iface T (.pointer p),.nilIface])) wr from .inl ⟨_,h,ls,L,rfl,by
      rw[aq.out];refine K8 (fun m hm=> ?_);rw[←ar.out] at hm;obtain⟨q,M,rfl⟩:=Pg.1 hm;refine HI.2 q ?_;rw[PA];exact M,⟨ao.1.below HI.1,ao.2.below HI.1⟩,ag,aE,aa.trans (HI.1.mono aa.size)⟩)
     clear ac;go_wp2;go_ret2;exact A
  ·have A:=a8 (show qE D N (.iface J (.pointer I)) w (.returned (.tuple #[.nilIface,gB nm t])) w3 from .inr (.inl ⟨nm,t,rfl,E,z.trans (G.mono z.size)⟩));clear E G CR d0 d1 d2 d3 d4;unfold gB at A⊢;go_wp2;go_ret2;exact A
  ·have A:=a8 (show qE D N (.iface J (.pointer I)) w (.returned (.tuple #[.nilIface,.iface J (.pointer I)])) w3 from .inr (.inr (.inl ⟨rfl,E,z.trans (G.mono z.size)⟩)));clear E G CR d0 d1 d2 d3 d4;go_wp2;go_ret2;exact A
theorem uR{fl:List FT}{nm:BA}:nm∈qf fl↔nm∈fl.map (·.1)∨nm∈fl.flatMap fH:=by
 unfold qf;simp only[List.mem_flatMap,Pd,Pg];constructor
 ·rintro⟨f,z,rfl|A⟩
  ·exact .inl ⟨f,z,rfl⟩
  ·exact .inr ⟨f,z,A⟩
 ·rintro(⟨f,z,rfl⟩|⟨f,z,A⟩)
  ·exact⟨f,z,.inl rfl⟩
  ·exact⟨f,z,.inr A⟩
theorem Ku{cf:List FT}(h:∀f∈cf,f.2.2=f.2.1.length):cf.flatMap eK=[]∧cf.flatMap fH=[]:=by
 constructor
 ·rw[List.flatMap_eq_nil_iff];exact fun f z=>(qp (by rw[h f z];exact Nat.lt_irrefl _)).1
 ·rw[List.flatMap_eq_nil_iff];exact fun f z=>(qp (by rw[h f z];exact Nat.lt_irrefl _)).2
open Classical in
theorem qY{D:dO}{F cf:List FT}(O:(eu D).code=0)(E:F=gY D (eu D)++cf)(J:∀f∈cf,f.2.2=f.2.1.length)(G:∀nm∈D.names.map (·.1),nm∈F.map (·.1)↔gZ (eu D) nm=true):rO D F=iT D:=by
 unfold rO iT;rw[OS O];obtain⟨K,L⟩:=Ku J;have M:F.flatMap eK=(gY D (eu D)).flatMap eK:=(by rw[E,PX,K,Pm]);have N:F.flatMap fH=(gY D (eu D)).flatMap fH:=(by rw[E,PX,L,Pm]);rw[M];congr 2;refine List.filter_congr (fun nm I=> ?_);unfold vU iu;rw[←N];by_cases z:nm∈F.flatMap fH
 ·rw[ON z,ON (uR.2 (.inr z))];rfl
 ·rw[OM z];by_cases A:gZ (eu D) nm=true
  ·rw[ON (uR.2 (.inl ((G nm I).2 A))),A];rfl
  ·rw[OM (fun h=>(uR.1 h).elim (fun h=>A ((G nm I).1 h)) z)];have:gZ (eu D) nm=false:=(by simpa using A);rw[this];rfl
theorem Hh{s:SX}(h:(jg s).code=0):s.code=0:=by
 unfold jg at h;split at h
 ·assumption
 ·exact h
theorem Mo{s:SX}{c:Int}(h:jg s=tb c)(z:c≠0):¬s.code=0:=fun e=>by
 unfold jg at h;rw[OS e] at h;exact z (OL VW.code h).symm
theorem yJ{D:dO}{c:Int}(h:jg (eu D)=tb c)(z:c≠0):iT D=[]:=by
 unfold iT;rw[OR (Mo h z)]
theorem tD{text:LN}:∀{ms:List IM} {xs:List (Nat×Nat×LN)} {r:List XM},ke text ms xs=some r→∀m∈r,m.moved=false
 |[],[],r,h=>by simp only[ke,OY] at h;subst h;simp
 |[],_::_,_,h=>by cases h
 |_::_,[],_,h=>by cases h
 |m::ms,x::xs,r,h=>by
  unfold ke at h;cases hb:eY m x with
  |none=>rw[hb] at h;cases h
  |some b=>
   cases he:ke text ms xs with
   |none=>rw[hb,he] at h;cases h
   |some q=>
    rw[hb,he] at h;simp only[OY] at h;subst h;intro y z;rcases Pd.1 z with rfl|z
    ·rfl
    ·exact tD he y z
theorem un{D:dO}{A:LN}{s:IX}{r:List XM}(h:kT D A=some (s,r)):∀m∈r,m.moved=false:=by
 have z:=(jQ h).2;unfold fd at z;split at z
 ·cases h3:iK ((b9 D (ej s.gen)).2.take (dH s.mails)) with
  |none=>rw[h3] at z;cases z
  |some xs=>rw[h3] at z;exact tD z
 ·cases z
theorem Jm{D:dO}{s:IX}{r:List XM}(I:eM D)(hi:(b9 D ixN).1=true)(A:(b9 D fh).1=false)(h:kT D (b9 D ixN).2=some (s,r))(z:(eu D).code=0):eu D=⟨0,1,s.val,s.next,0,s.gen,dH s.mails,r,[]⟩:=by
 obtain⟨E,G⟩:=jQ h;rw[mF I hi] at z⊢;unfold ew at z⊢;rw[E] at z⊢;simp only[G,A] at z⊢;exact ou z
theorem Jv{D:dO}{s:IX}{c:Nat}{A:List XM}(J:eM D)(hi:(b9 D ixN).1=true)(E:(b9 D fh).1=true)(h:nS D (b9 D ixN).2 (b9 D fh).2=some (s,c,A))(z:(eu D).code=0):eu D=⟨0,2,s.val,s.next,c,s.gen,dH s.mails,A,[]⟩:=by
 unfold nS at h;cases h0:kT D (b9 D ixN).2 with
 |none=>rw[h0] at h;cases h
 |some p=>
  obtain⟨s1,r⟩:=p;rw[h0] at h;simp only at h;cases h3:f5 (dP (b9 D fh).2).1 with
  |none=>rw[h3] at h;cases h
  |some c1=>
   rw[h3] at h;simp only at h;cases h4:gT D c1 r with
   |none=>rw[h4] at h;cases h
   |some r1=>
    rw[h4] at h;simp only[Option.map_some,OY,Prod.mk.injEq] at h;obtain⟨rfl,rfl,rfl⟩:=h;obtain⟨G,I⟩:=jQ h0;rw[mF J hi] at z⊢;unfold ew at z⊢;rw[G] at z⊢;simp only[I,E,h3,h4,if_true] at z⊢;exact ou z
theorem BG{α:Type}{z:α→Nat}:∀{ys:List α} {n n':Nat} {ms ms':List α},iU z ys (n,ms)=some (n',ms')→ms'=ms++ys
 |[],n,n',ms,ms',h=>by simp only[iU,OY,Prod.mk.injEq] at h;rw[←h.2,Pm]
 |c::r,n,n',ms,ms',h=>by
  rw[iU] at h;split at h
  ·cases h
  ·split at h
   ·cases h
   ·split at h
    ·cases h
    ·rw[BG h,PH];rfl
theorem Jp{D:dO}{s:UX}{w0:World}{cs ms:List Cd}{n:Nat}(J:eM D)(hi:(b9 D ixN).1=false)(I:(b9 D uxN).1=true)(A:mm (dP (b9 D uxN).2).1=some s)(E:kI w0 D cs)(G:iU Cd.uid (gS s.dead cs) (s.next,[])=some (n,ms))(z:(eu D).code=0):(eu D).kind=3∧(eu D).dead=s.dead:=by
 rw[uN J hi I] at z⊢;unfold fO at z⊢;rw[A] at z⊢;simp only at z⊢;rw[DH E,G] at z⊢;simp only at z⊢;split at z
 ·cases z
 ·exact⟨rfl,rfl⟩
theorem DB{w0:World}{D:dO}{cs ms:List Cd}{dead:LN}{n O:Nat}(K:kI w0 D cs)(L:iU Cd.uid (gS dead cs) (n,[])=some (O,ms))(nm:BA)(N:nm∈D.names.map (·.1)):nm∈ms.map (·.name)↔∃k,eR nm.data.toList=some k∧k.1∉dead:=by
 have e:=BG L;rw[PC] at e;subst e;obtain⟨all,J,_,G⟩:=K;constructor
 ·intro h;obtain⟨c,z,rfl⟩:=Pg.1 h;unfold gS at z;rw[List.mem_filter] at z;have E:=(G.2 c (J.mem_iff.1 z.1)).card;exact⟨_,E,by simpa using z.2⟩
 ·rintro⟨k,E,M⟩;have I:(nm,k)∈(D.names.map (·.1)).filterMap lx:=List.mem_filterMap.2 ⟨nm,N,by unfold lx;rw[E];rfl⟩;rw[←G.1] at I;obtain⟨c,z,A⟩:=Pg.1 I;unfold cdK at A;simp only[Prod.mk.injEq] at A;obtain⟨rfl,rfl⟩:=A;exact Pg.2 ⟨c,by unfold gS;rw[List.mem_filter];exact⟨J.mem_iff.2 z,by simpa using M⟩,rfl⟩
end Go.Proofs.YtkkdfgnnlpohlaaGreatDoor
