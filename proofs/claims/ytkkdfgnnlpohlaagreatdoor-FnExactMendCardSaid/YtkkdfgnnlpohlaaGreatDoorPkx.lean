import Derived.Test.YtkkdfgnnlpohlaaGreatDoorPko
namespace Go.Proofs.YtkkdfgnnlpohlaaGreatDoor
set_option maxRecDepth 20000
set_option linter.unusedVariables false
set_option linter.unusedSimpArgs false
set_option maxHeartbeats 4000000
open Go.RowKit Go.Proofs.Tryz
variable {W X Y w w' w0 wr : World} {A B at_ b b2 base' c cap e f g go gs hi i j k lo m n s u val z : Nat} {E G I J K L M N O u0 u1 u2 v0 v1 v2 v3 v4 v5 v6 x y : Value} {o : Oper} {Q : Exit → Act → World → Prop} {cs tmps : Array Value} {t : TypeId} {p : Addr} {l : List Nat} {bvs xs : List Value} {a : List UInt8} {first ok : Bool}

theorem D4{fn:Func}{p:Tmp}(B:Nat)(W:World)(z x2 x3 x4:Value)(E:fn.results= #[.cell p 66])(G:tmps.getD p undef=pP B)(A:ed W B #[z,x2,x3,x4] 66):
  (results fn tmps).run prog W= .ok (.agg #[z,x2,x3,x4]) W:=
 results_cell_row (P:=prog) E _ _ B _ _ _ _ G A underlying66 rfl (by kernel_rfl)
theorem M8:(prog.info? 66).map (fun i=>(i.zero,i.size,i.bytes))=some (some (.agg #[.int .i64 0,.string ByteArray.empty,.string ByteArray.empty,sN]),4,64):=by kernel_rfl
structure fU(w:World)(base:Nat)(v:Value)(vs:List V4)(ops:List OpV):Prop where
 len:vs.length=ops.length
 row:gy w base 66 v vs
 body:∀i (h:i<ops.length),∃x,vs[i]? =some (.int .i64 ops[i].1,.string ops[i].2.1,.string ops[i].2.2.1,x)∧dR w base x ops[i].2.2.2
theorem fU.at{M:Nat}{a:OA}{R:List V4}{A:List OpV}(h:fU w M (.slice a n cap) R A):lI w a A:=fun hp=>by
 have Y:=h.len;rcases h.row.2 with⟨_,Z⟩|⟨g,U,V,K,_⟩
 ·omega
 ·simp only[O3] at K;obtain⟨rfl,rfl,rfl⟩:=K;refine⟨g,0,rfl,fun i N=> ?_⟩;obtain⟨E,G,I,J⟩:=gy.cells h.row i (by omega);obtain⟨x,z,L⟩:=h.body i N;rw[OZ (by omega)] at z;simp only[OY] at z;rw[z] at E G I J;obtain⟨O,Q,rfl⟩:=L.slice;rw[Ps];exact⟨O,Q,E,G,I,J,L.row⟩
def z4:V4:=(.int .i64 0,.string ByteArray.empty,.string ByteArray.empty,sN)
def kz(nm:BA)(d:LN):List OpV:=[(1,nm,fK,[]),(2,nm,fK,d),(3,nm,fK,[])]
theorem JK(w:World)(A e:Nat)(z:List V4)(E:A≤w.heap.size)(G:z.length≤1048576):gy (w.alloc (.cells (gD z).toArray e)) A e (sS w.heap.size z.length z.length) z:=
 ⟨kg z,.inr ⟨w.heap.size,z.length,(gD z).toArray,rfl,E,OP w _,OV _,by unfold maxLen;omega,by simp[kg],by simp only;rw[Pc];rw[kg];exact OV _⟩⟩
theorem fU.mono{v:Value}{E:List V4}{os:List OpV}(h:fU w z v E os)(A:base'≤z):fU w base' v E os:=
 ⟨h.len,h.row.mono A,fun i hi=>by
  obtain⟨x,G,I⟩:=h.body i hi;exact⟨x,G,I.mono A⟩⟩
theorem fU.below'{v:Value}{E:List V4}{os:List OpV}(h:fU w z v E os)(A:Below w.heap.size w w'):fU w' z v E os:=
 ⟨h.len,h.row.below A (OV _),fun i hi=>by
  obtain⟨x,G,I⟩:=h.body i hi;exact⟨x,G,I.below A (OV _)⟩⟩
theorem fU.slice{v:Value}{A:List V4}{os:List OpV}(h:fU w z v A os):∃a cap,v= .slice a os.length cap:=by
 obtain⟨a,cap,e⟩:=gy.slice h.row;exact⟨a,cap,by rw[e,h.len]⟩
theorem qb(w:World)(A:Nat)(z:List V4)(os:List OpV)(J:A≤w.heap.size)(L:z.length≤1048576)(K:z.length=os.length)(E:∀i (h:i<os.length),∃x,z[i]? =some (.int .i64 os[i].1,.string os[i].2.1,.string os[i].2.2.1,x)∧dR w A x os[i].2.2.2):
  fU (w.alloc (.cells (gD z).toArray 66)) A (sS w.heap.size z.length z.length) z os:=
 ⟨K,JK w A _ z J L,fun i hi=>by
  obtain⟨x,G,I⟩:=E i hi;exact⟨x,G,I.below ((OX _ _).alloc (OV _) _) (OV _)⟩⟩
theorem o5{N:Act}{K:Act→World→Prop}(w:World)(s x:Operand)
  (ho:o.op= .call {callee:= .builtin .append,args:= #[s,x],argTypes:= #[28,28]})
  (E:Nat) (v:Value) (U:List V4) (I:List OpV) (hs:N.eval s=v) (M:fU w E v U I) (xv:Value) (xs:List V4) (l:List OpV) (hx:N.eval x=xv) (O:fU w E xv xs l) (hp:0<l.length) (ak:I.length+l.length≤1048576) (aa:E≤w.heap.size)
  (h:∀R w',fU w' E R (U++xs) (I++l)→w.grownBy w' v.ownBlock→K (N.put o.dst R) w'):Oper.wp prog o N w K Q:=by
 obtain⟨i0,hi,ah,ai,aj⟩:=info_parts M8;have Z:=M.len;have af:=O.len;rcases O.row.2 with⟨_,h0⟩|⟨g,cap,al,ag,ao,hg,ap,am,an,ae⟩
 ·omega
 ·subst ag;have ac:∀j u,(gD xs)[j]? =some u→w.cell? ((⟨g,0,none⟩:Addr).add j)=some u:=fun j u L=>by
   rw[ez,Ps,OK w g j _ _ _ hg];rw[←ae] at L;rw[List.getElem?_take] at L;split at L
   ·rw[←Array.getElem?_toList];exact L
   ·cases L
  have J:∀u∈gD xs,u.oneCell'=true:=fun u A=>by
   unfold gD at A;obtain⟨p,ad,A⟩:=List.mem_flatMap.1 A;obtain⟨i,V,rfl⟩:=Pr ad;obtain⟨y,z,G⟩:=O.body i (by omega);rw[OZ V] at z;simp only[OY] at z;rw[z] at A;obtain⟨ay,cy,rfl⟩:=G.slice;simp only[Pd,Pw,or_false] at A;rcases A with rfl|rfl|rfl|rfl<;>rfl
  refine wp_append_own w s x 28 ho E 66 i0 (.agg #[.int .i64 0,.string ByteArray.empty,.string ByteArray.empty,sN]) 4 64 underlying28 hi ah ai aj rfl (by decide) v U.length (gD U) hs M.row ⟨g,0,none⟩ xs.length cap (gD xs) hx (kg xs) ac J (by unfold maxLen;omega) (by omega) aa ?_;intro R w' ab Y _;have f:Fr (fun k=>v.ownBlock=some k) w w':=Fr.of_grown Y (fun k e=>e);have hS:∀k,v.ownBlock=some k→∃t,nB w k t∧t≠5:=fun k e=>⟨_,uz M.row e,by decide⟩
  refine h R w' ⟨by simp[Z,af],?_,fun i V=> ?_⟩ Y
  ·unfold gy;rw[Aq,O1];exact ab
  ·rw[O1] at V;by_cases J:i<I.length
   ·obtain⟨y,z,G⟩:=M.body i J;refine⟨y,?_,?_⟩
    ·rw[List.getElem?_append_left (by omega),z,List.getElem_append_left J]
    ·rw[List.getElem_append_left J];exact E0 G f hS
   ·obtain⟨y,z,G⟩:=O.body (i-I.length) (by omega);refine⟨y,?_,?_⟩
    ·rw[PW (by omega),Z,z,List.getElem_append_right (by omega)]
    ·rw[List.getElem_append_right (by omega)];exact E0 G f hS
theorem eL{M:Array Oper}{L:List Oper}{A:Act}(w:World)(U:o.guard=none)(s x:Operand)
  (ho:o.op= .call {callee:= .builtin .append,args:= #[s,x],argTypes:= #[28,28]})
  (z:Nat) (v:Value) (I:List V4) (E:List OpV) (hs:A.eval s=v) (R:fU w z v I E) (J:Value) (xs:List V4) (l:List OpV) (hx:A.eval x=J) (hr:fU w z J xs l) (hp:0<l.length) (O:E.length+l.length≤1048576) (N:z≤w.heap.size)
  (h:∀G w',fU w' z G (I++xs) (E++l)→w.grownBy w' v.ownBlock→wpList prog M Q L (A.put o.dst G) w'):wpList prog M Q (o::L) A w:=
 wpList_plain U fun K Z=>o5 w s x ho z v I E hs R J xs l hx hr hp O N (fun G w' V Y=>Z _ _ (h G w' V Y))
theorem sE{L:Array Oper}{z:Act}{K:Act→World→Prop}{E:Prop}(w:World)(U:o.guard=none)(s x:Operand)
  (V:o.op= .call {callee:= .builtin .append,args:= #[s,x],argTypes:= #[28,28]})
  (A:Nat) (v:Value) (I:List V4) (G:List OpV) (hs:z.eval s=v) (R:fU w A v I G) (J:Value) (xs:List V4) (l:List OpV) (hx:z.eval x=J) (Z:fU w A J xs l) (Y:0<l.length) (O:G.length+l.length≤1048576) (N:A≤w.heap.size)
  (h:∀M w',fU w' A M (I++xs) (G++l)→w.grownBy w' v.ownBlock→K (z.put o.dst M) w'):if Region.wanted o (yielded L z.tmps)=true then Oper.wp prog o z w K Q else E:=by
 have hw:Region.wanted o (yielded L z.tmps)=true:=(by simp[Region.wanted,U]);rw[OS hw];exact o5 w s x V A v I G hs R J xs l hx Z Y O N h
def lJ(w:World)(l:List OpV)(e:Ending)(w':World):Prop:=∃v vs,e= .returned v∧fU w' w.heap.size v vs l∧Below w.heap.size w w'
theorem F7(nm:BA)(a:OA)(c:Nat)(d:LN)(w:World)(N:d.length≤1048576)(J:dW w a d):
  Calls prog 48 #[.string nm,.slice a d.length c] w (lJ w (kz nm d)):=by
 have E:=a8 (KS a c d w N J);clear J;go_enter func48,ntmps48;go_wp2_with fail;refine E.mono ?_;rintro e K ⟨v,rfl,A,z⟩;obtain⟨G,I,rfl⟩:=dR.slice A;have M:=a8 (qb K w.heap.size [(.int .i64 1,.string nm,.string fK,sN),(.int .i64 2,.string nm,.string fK,.slice G d.length I),(.int .i64 3,.string nm,.string fK,sN)] (kz nm d) z.size (by simp) rfl (fun i hi=>by
  match i,hi with
  |0,_=>exact⟨_,rfl,dR.nil _ _⟩
  |1,_=>exact⟨_,rfl,A⟩
  |2,_=>exact⟨_,rfl,dR.nil _ _⟩))
 have L:=a8 (z.trans ((nAl K (.cells (gD [(.int .i64 1,.string nm,.string fK,sN),(.int .i64 2,.string nm,.string fK,.slice G d.length I),(.int .i64 3,.string nm,.string fK,sN)]).toArray 66)).mono z.size));clear A z E;go_wp2;go_ret;exact⟨_,_,rfl,M,L⟩
theorem FN(nm:BA)(a:OA)(c:Nat)(d:LN)(w:World)(N:d.length≤1048576)(J:dW w a d):
  Calls prog 129 #[.string nm,.slice a d.length c] w (lJ w [(2,nm,fK,d),(3,nm,fK,[])]):=by
 have E:=a8 (wI a c d w N J);clear J;go_enter func129,ntmps129;go_wp2_with fail;refine E.mono ?_;rintro e K ⟨v,rfl,A,z⟩;obtain⟨G,I,rfl⟩:=dR.slice A;have M:=a8 (qb K w.heap.size [(.int .i64 2,.string nm,.string fK,.slice G d.length I),(.int .i64 3,.string nm,.string fK,sN)] [(2,nm,fK,d),(3,nm,fK,[])] z.size (by simp) rfl (fun i hi=>by
  match i,hi with
  |0,_=>exact⟨_,rfl,A⟩
  |1,_=>exact⟨_,rfl,dR.nil _ _⟩))
 have L:=a8 (z.trans ((nAl K (.cells (gD [(.int .i64 2,.string nm,.string fK,.slice G d.length I),(.int .i64 3,.string nm,.string fK,sN)]).toArray 66)).mono z.size));clear A z E;go_wp2;go_ret;exact⟨_,_,rfl,M,L⟩
theorem Je(nm:BA)(a:OA)(c:Nat)(d:LN)(w:World)(hd:d.length≤1048576)(R:dW w a d):
  Calls prog 94 #[.string nm,.slice a d.length c] w (lJ w (kz nm d)):=by
 have G:=nAl w (.cells (gD [(.int .i64 1,.string nm,.string fK,sN)]).toArray 66);have K:=a8 (qb w w.heap.size [(.int .i64 1,.string nm,.string fK,sN)] [(1,nm,fK,[])] (OV _) (by simp) rfl (fun i hi=>by
  match i,hi with
  |0,_=>exact⟨_,rfl,dR.nil _ _⟩))
 have O:=a8 (FN nm a c d _ hd (R.below G));have z:=a8 G;clear R G;go_enter func94,ntmps94;go_wp2_with fail;refine O.mono ?_;rintro e w1 ⟨v,vs,rfl,J,I⟩;have N:=K.below' I;have A:=z.trans (I.mono z.size);have M:=J.mono z.size;obtain⟨a1,c1,rfl⟩:=J.slice;have Y:=a8 N;have HO:=a8 M;have HB:=a8 A;have U:=a8 (fun(v5:Value) (E:World) (hg:w1.grownBy E (some w.heap.size))=>show Below w.heap.size w E from A.trans ((Fr.of_grown (S:=fun g=>g=w.heap.size) hg (fun k e=>by simpa using e.symm)).below (fun g e=>by omega) A.size));clear N J M I A O K z;go_wp2_with (at_builtin;(refine eL _ rfl (.tmp 7) (.tmp 10) rfl w.heap.size (sS w.heap.size 1 1) [(.int .i64 1,.string nm,.string fK,sN)] [(1,nm,fK,[])] rfl ?_ (.slice a1 2 c1) vs [(2,nm,fK,d),(3,nm,fK,[])] rfl ?_ ?_ ?_ ?_ ?_;(exact Y.out);(exact HO.out);(exact Nat.succ_pos 1);(simp);(exact HB.size);intro v5 E Q L;have Z:=a8 Q;have V:=a8 (U.out v5 E L);clear Q L))
 go_ret;exact⟨v5,_,rfl,Z,V⟩
theorem FH(k:Int)(s t:BA)(a z:OA)(l:LN)(cap A:Nat)(w:World)(Q:l.length≤9223372036854775807)(N:dW w a l)(I:dW w z l):
  Calls prog 30 #[.agg #[.int .i64 k,.string s,.string t,.slice a l.length cap],.agg #[.int .i64 k,.string s,.string t,.slice z l.length A]] w fun e w'=>e= .returned (.bool true)∧Below w.heap.size w w':=by
 obtain⟨L,M,E,R⟩:=MU w #[.int .i64 k,.string s,.string t,.slice a l.length cap] #[.int .i64 k,.string s,.string t,.slice z l.length A] 66 66;have K:=a8 (N.below E);have G:=a8 (I.below E);have J:=a8 E;clear N I E R;go_enter func30,ntmps30;go_wp2_with fail;generalize (w.alloc (.cells #[.int .i64 k,.string s,.string t,.slice a l.length cap] 66)).alloc (.cells #[.int .i64 k,.string s,.string t,.slice z l.length A] 66)=W at L M K G J⊢;refine(rD a z cap A l l _ Q K G).mono ?_;rintro e U ⟨rfl,n,rfl⟩;rw[ON (rfl:l=l)];have O:=a8 (OI J n);clear L M;go_wp2;go_ret;exact⟨rfl,O⟩
theorem Dd(a a':OA)(cap ad:Nat)(z:List OpV)(w:World)(hl:z.length≤9223372036854775807)(aa:∀e∈z,e.2.2.2.length≤9223372036854775807)(hr:lI w a z)(ab:lI w a' z):
  Calls prog 8 #[.slice a z.length cap,.slice a' z.length ad] w fun e w'=>e= .returned (.bool true)∧Below w.heap.size w w':=by
 go_enter func8,ntmps8;go_wp2;go_loopw [5] (fun i wr=>∃k:Nat,k≤z.length∧i= .int .i64 k∧Below w.heap.size w wr) (fun i _=>z.length-(intOf i).toNat)
 case atStart=>exact⟨0,O4 _,rfl,OX _ _⟩
 case round=>
  obtain⟨k,hk,rfl,A⟩:=hrel;by_cases E:k<z.length
  ·obtain⟨b,aj,rfl,hc⟩:=(hr.below A) (by omega)
   obtain⟨b',ah,rfl,M⟩:=(ab.below A) (by omega)
   obtain⟨ai,ci,N,O,Q,R,ac⟩:=hc k E;obtain⟨af,ag,U,V,hd2,Y,J⟩:=M k E;have Z:=aa _ (O6 E);have L:=a8 ac;have G:=a8 J;have K:=a8 Z;have HN:=a8 A;clear hc M hr ab A ac J Z aa;generalize z[k].2.2.2=l0 at R Y L G K;generalize z[k].1=n0 at N U;generalize z[k].2.1=n1 at O V;generalize z[k].2.2.1=n2 at Q hd2;go_wp2;go_region_with (go_at_call 30;refine(FH n0 n1 n2 ai af l0 ci ag _ K (L.drew 1) (G.drew 1)).mono ?_;rintro e w2 ⟨rfl,hb⟩)
   all_goals
    have I:Below w.heap.size w w2:=HN.drew.trans (hb.mono HN.size);have ae:=a8 I;clear I hb N O Q R U V hd2 Y;go_wp2;go_roundw
    case rel=>exact⟨k+1,by omega,by go_num,ae⟩
    case measure=>simp[intOf];omega
  ·go_wp2;go_ret;exact⟨rfl,A⟩
end Go.Proofs.YtkkdfgnnlpohlaaGreatDoor
