import Derived.Test.YtpdbolihakojcaaGreatDoorPkzf
import Derived.Test.YtpdbolihakojcaaGreatDoorRows
import Derived.Test.YtpdbolihakojcaaGreatDoorTie
import Derived.Test.YtpdbolihakojcaaGreatDoorCards
import Derived.LaidMore
import Derived.LaidLaws
import Derived.LaidHandle
import Derived.Lay
import Derived.OpenVars
import Derived.Stop.Joined
import Derived.Stop.LaidErr
import Derived.Stop.LaidTwo
import Derived.HandedShaped
import Derived.SevenTiedAt
namespace Go.Proofs.YtpdbolihakojcaaGreatDoor.LkRow
set_option maxRecDepth 20000
open Go.ChangeShapes Go.WideShapes Go.ChangeAt Go.RowKit
set_option linter.unusedVariables false
theorem own:ownKnob Tryz.prog.godebug=none:=by kernel_rfl
theorem Dm:laidOutB Tryz.prog=true:=by kernel_rfl
theorem za{H:Type}{enc:TypeId×Value→H}{a:Assume}{C:Checked}{os:Os}{f:FuncId}{fn:Func}{s:ChangeSpec}{I:List PathCond}{apart J E G:Bool}{X:World→Array Value→Prop}
  (hX:∀(w w':World) (args:Array Value),w.heap=w'.heap→X w args→X w' args)
  (own:ownKnob C.prog.godebug=none) (L:os.Started) (N:C.prog.inits.idxOf? f=none) (Y:C.prog.funcs[f]? =some fn)
  (M:∃(w:World) (z:Tape) (i:Input),w.os=os∧(w.forCall z i).Shaped C.prog∧i.vars=[]∧Input.okWide C.prog (w.forCall z i) .any w.heap.size f i∧
   ((s.pre enc C.prog fn I apart (w.forCall z i).memory i.args∧X (w.forCall z i).memory i.args)∧sizedMet enc C.prog fn (OpenSpec.ofChange s) apart (w.forCall z i).memory i.args)∧a.holds C.prog (lone (Frame.enter C.prog f i.args .normal) [] (w.forCall z i)))
  (K:∀(W:World) (O:Nat) (args:Array Value) (ds gs:List (DataW H)) (A:List MemPlace),
   (∀(j:Nat) t v,fn.params[j]? =some t→args[j]? =some v→Value.okWide C.prog W .any O t v)→
   DataW.Whole enc C.prog fn.params.toList s.vars apart W args.toList ds gs A→
   W.ShapedOpen C.prog→X W args→
   Calls C.prog f args W fun e W'=>∃v,e= .returned v∧s.post enc C.prog fn apart J E G W args v W'):
  ReturnsInHanded a C os f .any (fun w args=>(s.pre enc C.prog fn I apart w args∧X w args)∧sizedMet enc C.prog fn (OpenSpec.ofChange s) apart w args) (s.post enc C.prog fn apart J E G):=by
 refine returnsInHanded_of_calls own L N M ?_;intro w z i _ aa _ Z R ac;obtain⟨_,_,_,V,Q,_,_,_,_,U⟩:=Z;have e:V=fn:=Nv (Q.symm.trans Y);subst e;obtain⟨⟨⟨ds,gs,A,hw,hc⟩,hx⟩,hz⟩:=R;have ab:=DataW.Whole.of_heap (w':=w.forCall z i) (by rfl) hw;refine(K (w.forCall z i) w.heap.size i.args ds gs A U ab aa (hX _ _ _ (by rfl) hx)).mono fun e W' ⟨v,he,hp⟩=> ?_;subst he;exact ChangeSpec.post_blind hp
def qD:List (String×DataW Unit):=Rows.fnExactLookRow.laid
def li:List (String×DataW Unit):=[("math/bits.deBruijn32tab",Rows.laid_math_bits_deBruijn32tab),("math/bits.deBruijn64tab",Rows.laid_math_bits_deBruijn64tab),("internal/strconv.uint64pow10",Rows.laid_internal_strconv_uint64pow10),("unicode/utf8.acceptRanges",Rows.laid_unicode_utf8_acceptRanges),("strconv.ErrRange",Rows.laid_strconv_ErrRange),("strconv.ErrSyntax",Rows.laid_strconv_ErrSyntax),("loop.example/s02349/impl.errNotValid",Rows.laid_loop_example_s02349_impl_errNotValid),("loop.example/s02349/impl.errNoMailbox",Rows.laid_loop_example_s02349_impl_errNoMailbox),("unicode/utf8.first",Rows.laid_unicode_utf8_first)]
theorem Ac:(qD.filter fun x=>x.2.handleName?.isNone)=li:=by kernel_rfl
theorem Ep:(qD.filter fun x=>x.2.handleName?.isSome)=[("errors.errorType",Rows.laid_errors_errorType)]:=by kernel_rfl
theorem et:Tryz.prog.globalNamed "errors.errorType" =some 2:=by kernel_rfl
theorem rt:(Tryz.prog.cutTypes.find? (·.1== "internal/reflectlite.rtype")).map (·.2)=some 235:=by kernel_rfl
theorem Lm:((List.range 392).filter fun t=>Tryz.prog.rowNamed t [101,114,114,111,114])=[64]:=by kernel_rfl
theorem size:Tryz.prog.types.size=392:=by kernel_rfl
theorem Ia{W:World}(h:laidMetH Tryz.prog qD W):laidMet Tryz.prog li W∧handlesMet Tryz.prog [("errors.errorType",Rows.laid_errors_errorType)] W:=by
 unfold laidMetH at h;rw[Ep,Ac] at h;exact h
theorem Er{W:World}(h:handlesMet Tryz.prog [("errors.errorType",Rows.laid_errors_errorType)] W):FB W:=by
 obtain⟨E,u,N,G,I,J,K,z⟩:=h _ (M9.2 rfl);have L:E=[101,114,114,111,114]:=(Nv G).symm;subst L;obtain rfl:=Nv (rt.symm.trans I);have A:N∈(List.range 392).filter fun t=>Tryz.prog.rowNamed t [101,114,114,111,114]:=List.mem_filter.2 ⟨List.mem_range.2 (by rw[←size];exact J),K⟩;rw[Lm] at A;obtain rfl:=M9.1 A;have M:typeHandle Tryz.prog 64= .pointer (some ⟨11,64,none⟩):=(by kernel_rfl);rw[M] at z;unfold FB;simpa using World.var?_cell et z 0
theorem Mu:Tryz.prog.globalNamed "internal/strconv.uint64pow10" =some 3:=by kernel_rfl
theorem MD:(Tryz.prog.globals[3]?).map (·.type)=some 304:=by kernel_rfl
theorem Mw:Tryz.prog.globalNamed "strconv.ErrSyntax" =some 7:=by kernel_rfl
theorem Mv:Tryz.prog.globalNamed "strconv.ErrRange" =some 8:=by kernel_rfl
theorem MF:(Tryz.prog.globals[7]?).map (·.type)=some 64:=by kernel_rfl
theorem ME:(Tryz.prog.globals[8]?).map (·.type)=some 64:=by kernel_rfl
theorem gNv:Tryz.prog.globalNamed "loop.example/s02349/impl.errNotValid" =some 0:=by kernel_rfl
theorem gEv:Tryz.prog.globalNamed "loop.example/s02349/impl.errNoMailbox" =some 1:=by kernel_rfl
theorem tNv:(Tryz.prog.globals[0]?).map (·.type)=some 64:=by kernel_rfl
theorem tEv:(Tryz.prog.globals[1]?).map (·.type)=some 64:=by kernel_rfl
theorem Bg:Tryz.prog.cellsOf 354=1:=by kernel_rfl
theorem Bf:Tryz.prog.cellsOf 9=1:=by kernel_rfl
theorem Ml: "*" ++ "errors.errorString" = "*errors.errorString" :=by decide
theorem Ls(u:TypeId)(h:Tryz.prog.typeName? 3 u=some "*errors.errorString"):u=352:=
 typeName_ptr_named (nm:= "errors.errorString") (by rw[Ml];kernel_rfl) (by kernel_rfl) (by decide) u (by rw[Ml];exact h)
theorem JS{W:World}(h0:laidMetH Tryz.prog qD W)(U:W.ShapedOpen Tryz.prog):nD W∧∃J A,vW W J A:=by
 obtain⟨h,hh⟩:=Ia h0;have G:=h.tail.tail.tail.tail;have I:=G.tail;have h6:=I.tail;obtain⟨a1,s1,E,_⟩:=laid_sentinel G Mv ME Tryz.underlying64 Ls Tryz.underlying352 Tryz.underlying354 rfl rfl Tryz.underlying9 Bg Bf;obtain⟨a2,s2,z,_⟩:=laid_sentinel I Mw MF Tryz.underlying64 Ls Tryz.underlying352 Tryz.underlying354 rfl rfl Tryz.underlying9 Bg Bf;obtain⟨K,L,_,_,Y,Z,M,N,n1,n2,_,_,_,_,_,_,R,b1,b2⟩:=laid_sentinels2 h6 gNv tNv gEv tEv Tryz.underlying64 Ls Tryz.underlying352 Tryz.underlying354 rfl rfl Tryz.underlying9 Bg Bf;refine⟨⟨⟨Tryz.laysM145.s1_3 W U,⟨_,_,z⟩,⟨_,_,E⟩⟩,?_⟩,K,L,by simpa using World.var?_cell gNv n1 0,by simpa using World.var?_cell gEv n2 0,R,⟨Y,M,b1⟩,⟨Z,N,b2⟩,Er hh⟩;obtain⟨ps,⟨g0,t0,aa,f0,p0,q0,ae,ag,ai,ac,⟨g1,M,ab,f1,J,K,af,ah,E,ad,⟨g2,N,O,f2,A,L,Q,V,z,hd2,_,_⟩,_⟩,_⟩,_,_⟩:=h;obtain rfl:=Nv (Mu.symm.trans Q);obtain rfl:=Nv (MD.symm.trans V);have hd:DataW.trod (fun _=>()) Tryz.prog W 0 (fun _=>true) false f2 304 O.toList=some (Lib.tabData .u64 Lib.pow10Tab,A):=hd2;unfold Lib.TabIs;rw[z,←Lib.cells_of_tab (n:=20) Tryz.underlying304 Tryz.underlying146 (by kernel_rfl) (by kernel_rfl) hd]
noncomputable def uP(os:Os):World:=
 let w0:=World.holding Tryz.prog os ⟨#[], #[],[]⟩
 {w0 with heap:=w0.heap.modify 2 fun
   | .cells _ t frozen=> .cells #[.iface 235 (.agg #[.pointer (some ⟨11,64,none⟩)])] t frozen
   |o=>o}
noncomputable def pV(os:Os):World:=(uP os).layVars Tryz.prog li
theorem un(os:Os)(args:Array Value):laidMetH Tryz.prog qD ((pV os).forCall (fun _ _=>0) ⟨#[],args,[]⟩).memory:=by
 refine laidMetH_of_parts ?_ (by kernel_rfl);rw[Ac];have z:(li.filter fun x=>(li.map (·.1)).contains x.1)=li:=List.filter_eq_self.2 fun x A=>List.contains_iff_mem.2 (Na.2 ⟨x,A,rfl⟩);have E:(li.filter fun x=> !(li.map (·.1)).contains x.1)=[]:=List.filter_eq_nil_iff.2 fun x A=>(by rw[List.contains_iff_mem.2 (Na.2 ⟨x,A,rfl⟩)];simp);have h:laidMet Tryz.prog li (pV os):=laidMet_layVars (w0:=uP os) (li.map (·.1)) [] (by rw[z];rfl) (by rw[z];kernel_rfl) (by rw[z];kernel_rfl) (by rw[E];exact LaidIn.none);exact h.of_heap (by simp[World.memory,World.forCall,Input.heap])
set_option maxRecDepth 100000 in
theorem Lh(os:Os)(N:os.Started)(H:Type)(enc:TypeId×Value→H):
  ReturnsInHanded {} Tryz.checked os 3 .any (fun w args=>(Rows.fnExactLookSpec.pre enc Tryz.prog Tryz.f3 [] false w args∧laidMetH Tryz.prog qD w)∧sizedMet enc Tryz.prog Tryz.f3 (OpenSpec.ofChange Rows.fnExactLookSpec) false w args)
   (Rows.fnExactLookSpec.post enc Tryz.prog Tryz.f3 false true false false):=by
 refine za (C:=Tryz.checked) (X:=fun w _=>laidMetH Tryz.prog qD w) (fun _ _ _ hh h=>h.of_heap hh) own N (by kernel_rfl) Tryz.func3
  (ChangeSpec.witness_shaped (enc:=enc) (C:=Tryz.checked) (os:=os) (X:=fun w _=>laidMetH Tryz.prog qD w) false (pV os) #[.agg #[.slice none 0 0,.slice none 0 0,.slice none 0 0,.slice none 0 0,.int .i64 0]] 8 (World.layVars_os _ _ _) (World.shaped_of_ZipB (by kernel_rfl) (by kernel_rfl)) (by kernel_rfl) (by kernel_rfl) (by kernel_rfl) (un os _)) ?_
 intro W O args ds gs ab A L Z hL;have E:∀(j:Nat) t v,Tryz.f3.params[j]? =some t→args[j]? =some v→Value.okWide Tryz.prog W .any O t v:=A;have V:=L;obtain⟨p,q,G,K,rfl,ae,af⟩:=L;have J:DataW.TrodAll enc Tryz.prog W 0 (fun _=>true) true Tryz.f3.params.toList args.toList ds p:=G;rw[Tryz.params3] at J E;obtain⟨v0,ag,d0,ad,p0,q0,ac,rfl,rfl,I,r0⟩:=trodAll_cons J;obtain⟨rfl,rfl,rfl⟩:=trodAll_nil r0;obtain rfl:args= #[v0]:=(by cases args;simp_all);have U:=K;obtain⟨_,_,_,_,y0,_,_,_,_,_,y1,_,rfl,_⟩:=trodVars_two K;have M:=I;have aa:∀x∈p0,x.block<W.heap.size:=(by obtain⟨m,hm⟩:=M;exact DataW.trod_lt m _ _ _ hm);obtain⟨D,hD,Y⟩:=Bn (E 0 26 v0 rfl rfl) I;clear G A;obtain⟨R,p1,p2,Q⟩:=JS hL Z;refine(G5 p1 p2 hD Y R Q).mono fun e W' ⟨he,z⟩=> ?_;subst he;exact⟨_,rfl,_,_,_,[],_,q,V,trodAll_mk1 (shut_bool Tryz.underlying4 _),(trodAll_cons_mk (Below.trod Dm (by kernel_rfl) (of_decide_eq_true (by kernel_rfl)) M z aa) trodAll_mk0),z.trodVars Dm (by kernel_rfl) U,z.frame _,fun h=>by cases h⟩
end Go.Proofs.YtpdbolihakojcaaGreatDoor.LkRow
