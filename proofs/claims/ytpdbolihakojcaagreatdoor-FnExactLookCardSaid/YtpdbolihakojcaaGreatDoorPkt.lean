import Derived.Test.YtpdbolihakojcaaGreatDoorPkh
import Derived.Test.YtpdbolihakojcaaGreatDoorPkf
import Derived.LaidEql
import Derived.Stop.Asserts
import Derived.RowKitTokens
namespace Go.Proofs.YtpdbolihakojcaaGreatDoor
set_option maxRecDepth 20000
set_option linter.unusedVariables false
set_option linter.unusedSimpArgs false
set_option maxHeartbeats 4000000
open Go.RowKit
variable {W Y w w' w0 wr : World} {b : List UInt8} {A B at_ base' c cap e f g gs i j k lo m n u z : Nat} {R d is l : List Nat} {E G I J K L M N O v0 v1 v2 v3 v4 v5 v6 x y : Value} {o : Oper} {Q : Exit → Act → World → Prop} {bvs xs : List Value} {t : TypeId} {cs tmps : Array Value} {p : Addr} {a : Option Addr} {first ok : Bool} {s : ByteArray} {rs : List (List Nat)}
section
open Go.Extern.Stop Go.Stop Go.Extern
theorem yH(t:Addr)(w:World):(ReflectliteValue.unpack (.iface 103 (.pointer (some t)))).run Tryz.prog w
  = .ok (.agg #[.pointer (some ⟨11,103,none⟩),.pointer (some ⟨w.heap.size,0,none⟩),.int .u64 150]) (w.alloc (.cells #[.pointer (some t)] 103)):=by kernel_rfl
theorem Ge(a:Addr)(w:World):(ReflectliteValue.methodAny (ReflectliteValue.valueError "reflectlite.Value.Type" 0) (fun t _ _ _=>ReflectliteType.toType t) #[.agg #[.pointer (some ⟨11,103,none⟩),.pointer (some a),.int .u64 150]]).run Tryz.prog w
  = .ok (.iface 235 (.agg #[.pointer (some ⟨11,103,none⟩)])) w:=by kernel_rfl
theorem tV(h:Value)(w:World):(Go.method 492 235 (.agg #[h]) "Kind").run Tryz.prog w= .ok (261,h) w:=by kernel_rfl
theorem Gd(w:World):((ReflectliteType.abiMethod fun t=>(fun a:Nat=>Value.int IntKind.u8 (a:Int))<$>Rtype.kind t) #[.pointer (some ⟨11,103,none⟩)]).run Tryz.prog w= .ok (.int .u8 22) w:=by kernel_rfl
theorem Gc(w:World):((ReflectliteType.abiMethod fun t=>(fun a:Nat=>Value.int IntKind.u8 (a:Int))<$>Rtype.kind t) #[.pointer (some ⟨11,100,none⟩)]).run Tryz.prog w= .ok (.int .u8 25) w:=by kernel_rfl
theorem uT(a:Addr)(w:World):(ReflectliteValue.parts (.agg #[.pointer (some ⟨11,103,none⟩),.pointer (some a),.int .u64 150])).run Tryz.prog w= .ok (some (103,a,150)) w:=by kernel_rfl
theorem Ee(a p:Addr)(W:World)(z:W.cell? a=some (.pointer (some p))):
  (ReflectliteValue.method (ReflectliteValue.valueError "reflectlite.Value.IsNil" 0) ReflectliteValue.isNil #[.agg #[.pointer (some ⟨11,103,none⟩),.pointer (some a),.int .u64 150]]).run Tryz.prog W= .ok (.bool false) W:=by
 show Sem.run Tryz.prog (ReflectliteValue.parts (.agg #[.pointer (some ⟨11,103,none⟩),.pointer (some a),.int .u64 150])>>=_) W=_;simp only[Sem.run_bind,uT,Result.andThen];simp[ReflectliteValue.isNil,loadVar,isAgg,underlying,Tryz.underlying103,z,Result.andThen]
theorem tU(h:Value)(w:World):(Go.method 492 235 (.agg #[h]) "Elem").run Tryz.prog w= .ok (291,.agg #[h]) w:=by kernel_rfl
theorem nF(h:Value)(w:World):(Go.method 492 235 (.agg #[h]) "Implements").run Tryz.prog w= .ok (292,.agg #[h]) w:=by kernel_rfl
theorem mh(h:Value)(w:World):(Go.method 492 235 (.agg #[h]) "AssignableTo").run Tryz.prog w= .ok (289,.agg #[h]) w:=by kernel_rfl
theorem Ga(w:World):(ReflectliteType.method ReflectliteType.elem #[.agg #[.pointer (some ⟨11,103,none⟩)]]).run Tryz.prog w= .ok (.iface 235 (.agg #[.pointer (some ⟨11,100,none⟩)])) w:=by kernel_rfl
theorem tT(w:World):(ReflectliteType.relation "Implements" ReflectliteType.implements_ #[.agg #[.pointer (some ⟨11,100,none⟩)],.iface 235 (.agg #[.pointer (some ⟨11,64,none⟩)])]).run Tryz.prog w= .ok (.bool true) w:=by kernel_rfl
theorem Bo(v:Value)(w:World):(ReflectliteType.typeOf #[.iface 100 v]).run Tryz.prog w= .ok (.iface 235 (.agg #[.pointer (some ⟨11,100,none⟩)])) w:=by kernel_rfl
theorem tS(w:World):(ReflectliteType.relation "AssignableTo" ReflectliteType.assignableTo #[.agg #[.pointer (some ⟨11,100,none⟩)],.iface 235 (.agg #[.pointer (some ⟨11,100,none⟩)])]).run Tryz.prog w= .ok (.bool true) w:=by kernel_rfl
theorem yG(x y:Value)(w:World):(ReflectliteValue.unpack (.iface 100 (.agg #[x,y]))).run Tryz.prog w
  = .ok (.agg #[.pointer (some ⟨11,100,none⟩),.pointer (some ⟨w.heap.size,0,none⟩),.int .u64 153]) (w.alloc (.cells #[x,y] 100)):=by kernel_rfl
theorem Ed(w:World):(Rtype.elem? 103).run Tryz.prog w= .ok (some 100) w:=by kernel_rfl
theorem LQ(p:Addr)(w:World):(ReflectliteValue.mk 100 p ReflectliteValue.flagAddr).run Tryz.prog w= .ok (.agg #[.pointer (some ⟨11,100,none⟩),.pointer (some p),.int .u64 409]) w:=by kernel_rfl
theorem Gb(a p:Addr)(W:World)(z:W.cell? a=some (.pointer (some p))):
  (ReflectliteValue.method (ReflectliteValue.valueError "reflectlite.Value.Elem" 0) ReflectliteValue.elem #[.agg #[.pointer (some ⟨11,103,none⟩),.pointer (some a),.int .u64 150]]).run Tryz.prog W
   = .ok (.agg #[.pointer (some ⟨11,100,none⟩),.pointer (some p),.int .u64 409]) W:=by
 show Sem.run Tryz.prog (ReflectliteValue.parts (.agg #[.pointer (some ⟨11,103,none⟩),.pointer (some a),.int .u64 150])>>=_) W=_;simp only[Sem.run_bind,uT,Result.andThen];simp[ReflectliteValue.elem,loadVar,isAgg,underlying,Tryz.underlying103,z,Result.andThen,Ed,LQ]
theorem Ef(a:Addr)(w:World):(ReflectliteValue.parts (.agg #[.pointer (some ⟨11,100,none⟩),.pointer (some a),.int .u64 409])).run Tryz.prog w= .ok (some (100,a,409)) w:=by kernel_rfl
theorem Eg(a:Addr)(w:World):(ReflectliteValue.parts (.agg #[.pointer (some ⟨11,100,none⟩),.pointer (some a),.int .u64 153])).run Tryz.prog w= .ok (some (100,a,153)) w:=by kernel_rfl
theorem Ec(w:World):(Rtype.directlyAssignable 100 100).run Tryz.prog w= .ok true w:=by kernel_rfl
theorem Jn(w:World):(sizeOf 100).run Tryz.prog w= .ok 2 w:=by kernel_rfl
theorem K7(t b:Nat)(n:ByteArray)(A:TypeId)(E Q z:Value)(W:World)(G:W.cell? ⟨b,0,none⟩=some (.string n))(I:W.cell? ⟨b,1,none⟩=some (.iface A E))(L:W.cell? ⟨t,0,none⟩=some Q)(M:W.cell? ⟨t,1,none⟩=some z)(J:W.frozen? ⟨t,0,none⟩=false)(K:W.frozen? ⟨t,1,none⟩=false):
  (ReflectliteValue.set #[.agg #[.pointer (some ⟨11,100,none⟩),.pointer (some ⟨t,0,none⟩),.int .u64 409],.agg #[.pointer (some ⟨11,100,none⟩),.pointer (some ⟨b,0,none⟩),.int .u64 153]]).run Tryz.prog W
   = .ok (.tuple #[]) ((W.setCell ⟨t,0,none⟩ (.string n)).setCell ⟨t,1,none⟩ (.iface A E)):=by
 have N:(W.setCell ⟨t,0,none⟩ (.string n)).cell? ⟨t,1,none⟩=some z:=by
  rw[World.cell?_setCell_other _ _ _ _ (by intro e;simp only[Np] at e;omega)];exact M
 have O:(W.setCell ⟨t,0,none⟩ (.string n)).frozen? ⟨t,1,none⟩=false:=(by simpa using K);show Sem.run Tryz.prog (ReflectliteValue.parts (.agg #[.pointer (some ⟨11,100,none⟩),.pointer (some ⟨t,0,none⟩),.int .u64 409])>>=fun _=>ReflectliteValue.parts (.agg #[.pointer (some ⟨11,100,none⟩),.pointer (some ⟨b,0,none⟩),.int .u64 153])>>=_) W=_;simp only[Sem.run_bind,Ef,Eg,Result.andThen];simp[ReflectliteValue.flagAddr,loadVar,isAgg,underlying,Tryz.underlying100,G,I,Result.andThen,Ec,Jn,storeVar,Value.cells,storeCells,Addr.add,loadCells,loadCellsFrom];rw[run_store Tryz.prog W _ _ _ (by rfl)];simp[L,J];rw[run_store Tryz.prog _ _ _ _ (by rfl)];simp[N,O]
theorem Jb(t:Nat)(n:ByteArray)(E:TypeId)(G M N:Value)(w:World)(K:FB w)(L:w.cell? ⟨t,0,none⟩=some M)(O:w.cell? ⟨t,1,none⟩=some N)(J:∀j,w.frozen? ⟨t,j,none⟩=false):
  Calls Tryz.prog 46 #[.iface 100 (.agg #[.string n,.iface E G]),.iface 103 (.pointer (some ⟨t,0,none⟩))] w fun R w'=>R= .returned (.bool true)∧∃X,Below w.heap.size w X∧w'=(X.setCell ⟨t,0,none⟩ (.string n)).setCell ⟨t,1,none⟩ (.iface E G):=by
 have h6:= @run_callFunc_extern Tryz.prog 83 _ (fun args=>ReflectliteValue.unpack (args.getD 0 (.tuple #[]))) Tryz.func83 (by kernel_rfl) (by kernel_rfl) (by kernel_rfl) (by kernel_rfl);have h7:= @run_callFunc_extern Tryz.prog 84 _ (ReflectliteValue.methodAny (ReflectliteValue.valueError "reflectlite.Value.Type" 0) (fun t _ _ _=>ReflectliteType.toType t)) Tryz.func84 (by kernel_rfl) (by kernel_rfl) (by kernel_rfl) (by kernel_rfl);have h8:= @run_callFunc_extern Tryz.prog 85 _ (ReflectliteValue.method (ReflectliteValue.valueError "reflectlite.Value.IsNil" 0) ReflectliteValue.isNil) Tryz.func85 (by kernel_rfl) (by kernel_rfl) (by kernel_rfl) (by kernel_rfl);have ac:= @run_callFunc_extern Tryz.prog 261 _ (ReflectliteType.abiMethod fun t=>do pure (.int .u8 (←Rtype.kind t))) Tryz.func261 (by kernel_rfl) (by kernel_rfl) (by kernel_rfl) (by kernel_rfl);have ae:= @run_callFunc_extern Tryz.prog 291 _ (ReflectliteType.method ReflectliteType.elem) Tryz.func291 (by kernel_rfl) (by kernel_rfl) (by kernel_rfl) (by kernel_rfl);have af:= @run_callFunc_extern Tryz.prog 292 _ (ReflectliteType.relation "Implements" ReflectliteType.implements_) Tryz.func292 (by kernel_rfl) (by kernel_rfl) (by kernel_rfl) (by kernel_rfl);have Z:= @run_callFunc_extern Tryz.prog 81 _ ReflectliteType.typeOf Tryz.func81 (by kernel_rfl) (by kernel_rfl) (by kernel_rfl) (by kernel_rfl);have ad:= @run_callFunc_extern Tryz.prog 289 _ (ReflectliteType.relation "AssignableTo" ReflectliteType.assignableTo) Tryz.func289 (by kernel_rfl) (by kernel_rfl) (by kernel_rfl) (by kernel_rfl);have aa:= @run_callFunc_extern Tryz.prog 124 _ (ReflectliteValue.method (ReflectliteValue.valueError "reflectlite.Value.Elem" 0) ReflectliteValue.elem) Tryz.func124 (by kernel_rfl) (by kernel_rfl) (by kernel_rfl) (by kernel_rfl);have ab:= @run_callFunc_extern Tryz.prog 125 _ ReflectliteValue.set Tryz.func125 (by kernel_rfl) (by kernel_rfl) (by kernel_rfl) (by kernel_rfl);have tO:=Bo;have mA:=mh;have V:=tS;have ak:=yG;have f6:=yH;have f7:=Ge;have mK:=tV;have mE:=tU;have mI:=nF;have aj:=Gd;have ai:=Gc;have Y:=Ga;have ah:=tT;unfold FB at K;have b1:=nAl w (.cells #[.pointer (some ⟨t,0,none⟩)] 103);have b2:=b1.alloc b1.size (.cells #[.pointer (some ⟨11,103,none⟩),.pointer (some ⟨w.heap.size,0,none⟩),.int .u64 150] 157);have I:=b2.alloc b2.size (.cells #[.pointer (some ⟨11,103,none⟩),.pointer (some ⟨w.heap.size,0,none⟩),.int .u64 150] 157);have z:=I.alloc I.size (.cells #[.string n,.iface E G] 100);have n8:=Ee ⟨w.heap.size,0,none⟩ ⟨t,0,none⟩ ((w.alloc (.cells #[.pointer (some ⟨t,0,none⟩)] 103)).alloc (.cells #[.pointer (some ⟨11,103,none⟩),.pointer (some ⟨w.heap.size,0,none⟩),.int .u64 150] 157)) (by simp);have ag:=(b2.cell (p:=⟨2,0,none⟩) (oZ K)).trans K;have el:=Gb ⟨w.heap.size,0,none⟩ ⟨t,0,none⟩ (((w.alloc (.cells #[.pointer (some ⟨t,0,none⟩)] 103)).alloc (.cells #[.pointer (some ⟨11,103,none⟩),.pointer (some ⟨w.heap.size,0,none⟩),.int .u64 150] 157)).alloc (.cells #[.pointer (some ⟨11,103,none⟩),.pointer (some ⟨w.heap.size,0,none⟩),.int .u64 150] 157)) (by rw[World.cell?_alloc_lt _ _ ⟨w.heap.size,0,none⟩ (by simp;omega),World.cell?_alloc_lt _ _ ⟨w.heap.size,0,none⟩ (by simp)];simp);have A:=oZ L;have U:t≠w.heap.size+1+1+1:=(by simp only at A;omega);have st:=K7 t (w.heap.size+1+1+1) n E G M N ((((w.alloc (.cells #[.pointer (some ⟨t,0,none⟩)] 103)).alloc (.cells #[.pointer (some ⟨11,103,none⟩),.pointer (some ⟨w.heap.size,0,none⟩),.int .u64 150] 157)).alloc (.cells #[.pointer (some ⟨11,103,none⟩),.pointer (some ⟨w.heap.size,0,none⟩),.int .u64 150] 157)).alloc (.cells #[.string n,.iface E G] 100))
  (by rw[World.cell?_alloc_at _ _ _ _ (by simp)];rfl) (by rw[World.cell?_alloc_at _ _ _ _ (by simp)];rfl)
  ((z.cell (p:=⟨t,0,none⟩) A).trans L) ((z.cell (p:=⟨t,1,none⟩) A).trans O)
  ((z.frozen (p:=⟨t,0,none⟩) A).trans (J 0)) ((z.frozen (p:=⟨t,1,none⟩) A).trans (J 1))
 have Q:=a8 z;clear b1 b2 I z J;go_enter Tryz.func46,Tryz.ntmps46;go_wp2;refine wp_loop_rounds 1 ?_;rw[rounds_succ];go_wp2;go_ret;exact⟨rfl,_,Q.out,rfl⟩
end
end Go.Proofs.YtpdbolihakojcaaGreatDoor
