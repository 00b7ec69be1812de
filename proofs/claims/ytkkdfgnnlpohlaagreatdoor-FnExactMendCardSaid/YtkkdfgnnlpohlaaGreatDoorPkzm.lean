import Derived.Test.YtkkdfgnnlpohlaaGreatDoorPkzl
import Derived.Test.YtkkdfgnnlpohlaaGreatDoorRows
import Derived.Test.YtkkdfgnnlpohlaaGreatDoorTie
import Derived.Test.YtkkdfgnnlpohlaaGreatDoorCards
import Derived.LaidMore
import Derived.LaidLaws
import Derived.LaidHandle
import Derived.Lay
import Derived.OpenVars
import Derived.Stop.Joined
import Derived.Stop.LaidErr
import Derived.Stop.LaidTwo
import Derived.HandedShaped
import Derived.SevenTiedAt
namespace Go.Proofs.YtkkdfgnnlpohlaaGreatDoor.MnRow
set_option maxRecDepth 20000
open Go.ChangeShapes Go.WideShapes Go.ChangeAt Go.RowKit Go.Proofs.Tryz
set_option linter.unusedVariables false
theorem own:ownKnob prog.godebug=none:=by kernel_rfl
theorem EQ:laidOutB prog=true:=by kernel_rfl
theorem Au{H:Type}{enc:TypeId×Value→H}{a:Assume}{C:Checked}{os:Os}{f:FuncId}{fn:Func}{s:ChangeSpec}{I:List PathCond}{apart J E G:Bool}{X:World→Array Value→Prop}
  (hX:∀(w w':World) (args:Array Value),w.heap=w'.heap→X w args→X w' args)
  (own:ownKnob C.prog.godebug=none) (L:os.Started) (N:C.prog.inits.idxOf? f=none) (Y:C.prog.funcs[f]? =some fn)
  (M:∃(w:World) (z:Tape) (i:Input),w.os=os∧(w.forCall z i).Shaped C.prog∧i.vars=[]∧Input.okWide C.prog (w.forCall z i) .any w.heap.size f i∧
   ((s.pre enc C.prog fn I apart (w.forCall z i).memory i.args∧X (w.forCall z i).memory i.args)∧sizedMet enc C.prog fn (OpenSpec.ofChange s) apart (w.forCall z i).memory i.args)∧a.holds C.prog (lone (Frame.enter C.prog f i.args .normal) [] (w.forCall z i)))
  (K:∀(W:World) (O:Nat) (args:Array Value) (ds gs:List (DataW H)) (A:List MemPlace),
   (∀(j:Nat) t v,fn.params[j]? =some t→args[j]? =some v→Value.okWide C.prog W .any O t v)→
   DataW.Whole enc C.prog fn.params.toList s.vars apart W args.toList ds gs A→
   W.ShapedOpen C.prog→X W args→
   Calls C.prog f args W fun e W'=>∃v,e= .returned v∧s.post enc C.prog fn apart J E G W args v W'):
  ReturnsInHanded a C os f .any (fun w args=>(s.pre enc C.prog fn I apart w args∧X w args)∧sizedMet enc C.prog fn (OpenSpec.ofChange s) apart w args) (s.post enc C.prog fn apart J E G):=by
 refine returnsInHanded_of_calls own L N M ?_;intro w z i _ aa _ Z R ac;obtain⟨_,_,_,V,Q,_,_,_,_,U⟩:=Z;have e:V=fn:=PJ (Q.symm.trans Y);subst e;obtain⟨⟨⟨ds,gs,A,hw,hc⟩,hx⟩,hz⟩:=R;have ab:=DataW.Whole.of_heap (w':=w.forCall z i) (by rfl) hw;refine(K (w.forCall z i) w.heap.size i.args ds gs A U ab aa (hX _ _ _ (by rfl) hx)).mono fun e W' ⟨v,he,hp⟩=> ?_;subst he;exact ChangeSpec.post_blind hp
def AT:List (String×DataW Unit):=Rows.fnExactMendRow.laid
theorem Ol:prog.globalNamed "internal/strconv.uint64pow10" =some 2:=by kernel_rfl
theorem Ow:(prog.globals[2]?).map (·.type)=some 283:=by kernel_rfl
theorem On:prog.globalNamed "strconv.ErrSyntax" =some 6:=by kernel_rfl
theorem Om:prog.globalNamed "strconv.ErrRange" =some 7:=by kernel_rfl
theorem Oy:(prog.globals[6]?).map (·.type)=some 75:=by kernel_rfl
theorem Ox:(prog.globals[7]?).map (·.type)=some 75:=by kernel_rfl
theorem gNv:prog.globalNamed "loop.example/s02349/impl.errNotValid" =some 0:=by kernel_rfl
theorem gEv:prog.globalNamed "loop.example/s02349/impl.errNoMailbox" =some 1:=by kernel_rfl
theorem tNv:(prog.globals[0]?).map (·.type)=some 75:=by kernel_rfl
theorem tEv:(prog.globals[1]?).map (·.type)=some 75:=by kernel_rfl
theorem CQ:prog.cellsOf 334=1:=by kernel_rfl
theorem CO:prog.cellsOf 9=1:=by kernel_rfl
theorem Ob: "*" ++ "errors.errorString" = "*errors.errorString" :=by decide
theorem Nt(u:TypeId)(h:prog.typeName? 3 u=some "*errors.errorString"):u=332:=
 typeName_ptr_named (nm:= "errors.errorString") (by rw[Ob];kernel_rfl) (by kernel_rfl) (by decide) u (by rw[Ob];exact h)
theorem LC{W:World}(U:laidMetH prog AT W)(O:W.ShapedOpen prog):oH W∧∃J A:Addr,W.cell? ⟨0,0,none⟩=some (.iface 332 (.pointer (some J)))∧W.cell? ⟨1,0,none⟩=some (.iface 332 (.pointer (some A))):=by
 have h:=U;rw[MakeChecks.laidMetH_plain _ _ _ (by kernel_rfl)] at h;have G:=h.tail.tail.tail.tail;have I:=G.tail;have V:=I.tail;obtain⟨a1,s1,E,_⟩:=laid_sentinel G Om Ox underlying75 Nt underlying332 underlying334 rfl rfl underlying9 CQ CO;obtain⟨a2,s2,z,_⟩:=laid_sentinel I On Oy underlying75 Nt underlying332 underlying334 rfl rfl underlying9 CQ CO;obtain⟨K,L,_,_,c1,c2,t1,t2,Z,n2,_,_,_,_,_,_,ag,b1,b2⟩:=laid_sentinels2 V gNv tNv gEv tEv underlying75 Nt underlying332 underlying334 rfl rfl underlying9 CQ CO;refine⟨⟨⟨laysM146.s1_3 W O,⟨_,_,z⟩,⟨_,_,E⟩⟩,?_⟩,K,L,by simpa using World.var?_cell gNv Z 0,by simpa using World.var?_cell gEv n2 0⟩;obtain⟨ps,⟨g0,t0,aa,f0,p0,q0,ae,ah,aj,ac,⟨g1,t1,ab,f1,J,K,af,ai,E,ad,⟨g2,t2,M,R,A,L,N,Q,z,hd2,_,_⟩,_⟩,_⟩,_,_⟩:=h;obtain rfl:=PJ (Ol.symm.trans N);obtain rfl:=PJ (Ow.symm.trans Q);have Y:DataW.trod (fun _=>()) prog W 0 (fun _=>true) false R 283 M.toList=some (Lib.tabData .u64 Lib.pow10Tab,A):=hd2;unfold Lib.TabIs;rw[z,←Lib.cells_of_tab (n:=20) underlying283 underlying168 (by kernel_rfl) (by kernel_rfl) Y]
set_option maxRecDepth 100000 in
theorem Nh(os:Os)(N:os.Started)(H:Type)(enc:TypeId×Value→H):
  ReturnsInHanded {} checked os 3 .any (fun w args=>(Rows.fnExactMendSpec.pre enc prog Tryz.f3 [] false w args∧laidMetH prog AT w)∧sizedMet enc prog Tryz.f3 (OpenSpec.ofChange Rows.fnExactMendSpec) false w args)
   (Rows.fnExactMendSpec.post enc prog Tryz.f3 false true false false):=by
 refine Au (C:=checked) (X:=fun w _=>laidMetH prog AT w) (fun _ _ _ hh h=>h.of_heap hh) own N (by kernel_rfl) func3
  (ChangeSpec.witness_shaped (enc:=enc) (C:=checked) (os:=os) (X:=fun w _=>laidMetH prog AT w) false (World.laidAll prog os AT) #[.agg #[sN,sN,sN,sN,.int .i64 0]] 8 (World.laidAll_os _ _ _) (World.shaped_of_ZipB (by kernel_rfl) (by kernel_rfl)) (by kernel_rfl) (by kernel_rfl) (by kernel_rfl) (by rw[MakeChecks.laidMetH_plain _ _ _ (by kernel_rfl)];exact laidMet_laidAll _ (by kernel_rfl) (by kernel_rfl))) ?_
 intro W O args ds gs ac A L aa hL;have E:∀(j:Nat) t v,Tryz.f3.params[j]? =some t→args[j]? =some v→Value.okWide prog W .any O t v:=A;have U:=L;obtain⟨p,q,G,K,rfl,af,ag⟩:=L;have J:DataW.TrodAll enc prog W 0 (fun _=>true) true Tryz.f3.params.toList args.toList ds p:=G;rw[params3] at J E;obtain⟨v0,ah,d0,ae,p0,q0,ad,rfl,rfl,I,r0⟩:=trodAll_cons J;obtain⟨rfl,rfl,rfl⟩:=trodAll_nil r0;obtain rfl:args= #[v0]:=(by cases args;simp_all);have R:=K;obtain⟨_,_,_,_,y0,_,_,_,_,_,y1,_,rfl,_⟩:=trodVars_two K;have M:=I;have ab:∀x∈p0,x.block<W.heap.size:=(by obtain⟨m,hm⟩:=M;exact DataW.trod_lt m _ _ _ hm);obtain⟨D,hD,V⟩:=Db (E 0 26 v0 rfl rfl) I;clear G A;obtain⟨Q,p1,p2,Y,Z⟩:=LC hL aa;refine(Jr p1 p2 hD V Q Y Z).mono fun e W' ⟨he,z⟩=> ?_;subst he;exact⟨_,rfl,_,_,_,[],_,q,U,trodAll_mk1 (shut_bool underlying4 _),(trodAll_cons_mk (Below.trod EQ (by kernel_rfl) (OU (by kernel_rfl)) M z ab) trodAll_mk0),z.trodVars EQ (by kernel_rfl) R,z.frame _,fun h=>by cases h⟩
end Go.Proofs.YtkkdfgnnlpohlaaGreatDoor.MnRow
