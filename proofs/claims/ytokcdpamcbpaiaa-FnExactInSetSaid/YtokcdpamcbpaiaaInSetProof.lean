import Derived.Test.YtokcdpamcbpaiaaImplInSet
import Derived.ProofKit
import Derived.OpenShut
import Derived.ShutString
import Derived.ChangeOld
import Derived.Below
import Derived.Deep.SlicePairs
namespace Go.Proofs.Ytokcdpamcbpaiaa
open Go.ChangeShapes Go.WideShapes Go.ChangeAt Go.RowKit Go.Deep
set_option linter.unusedVariables false
set_option maxHeartbeats 1000000 in
theorem inSet_small (a : Option Addr) (cap : Nat) (ps : List (Int × Int)) (n mx : Int) (w : World) (hl : ps.length ≤ 1048576) (hr : PrAt w a ps) :
    Calls Try.prog 6 #[.slice a ps.length cap, .int .u32 n, .int .u32 mx] w fun e w' => e = .returned (.bool true) ∧ Below w.heap.size w w' := by
  have hns : ¬ 1048576 < ps.length := by omega
  go_enter Try.func6, Try.ntmps6
  go_wp2_with fail
  refine (szPairS_any a ps.length cap w (by omega)).mono ?_
  rintro e w1 ⟨rfl, rfl⟩
  rw [if_neg hns]
  have hlt : ¬ (1048576 : Int) - ps.length < 0 := by omega
  go_wp2_with fail
  refine (toPairS_any a cap ps w1 hl hr).mono ?_
  rintro e w2 ⟨rfl, hr2, hb2⟩
  have HB2 := hide hb2
  have HR := hide hr
  clear hb2 hr
  go_wp2_with fail
  refine (specInSet_any _ _ ps n mx w2 hl hr2).mono ?_
  rintro e w3 ⟨rfl, hb3⟩
  have HB3 := hide (HB2.out.trans (hb3.mono HB2.out.size))
  clear hb3 hr2
  go_wp2_with fail
  refine (toPairS_any a cap ps w3 hl (HR.out.below HB3.out)).mono ?_
  rintro e w4 ⟨rfl, hr4, hb4⟩
  have HB4 := hide (HB3.out.trans (hb4.mono HB3.out.size))
  have HR4 := hide hr4
  clear hb4
  go_wp2_with fail
  refine (implInSet_any _ _ ps n mx w4 hl hr4).mono ?_
  rintro e w5 ⟨rfl, hb5⟩
  have HR5 := hide (HR4.out.below hb5)
  have HB5 := hide (HB4.out.trans (hb5.mono HB4.out.size))
  clear hb5 hr4
  generalize inSetOf ps n mx = q
  go_wp2_with fail
  refine (toPairS_any a cap ps w5 hl (HR.out.below HB5.out)).mono ?_
  rintro e w6 ⟨rfl, hr6, hb6⟩
  have HB6 := hide (HB5.out.trans (hb6.mono HB5.out.size))
  have HR6 := hide hr6
  have HR56 := hide (HR5.out.below hb6)
  clear hb6 hr6
  go_wp2_with fail
  refine (eqPairS_same _ _ _ _ ps w6 (by omega) HR56.out HR6.out).mono ?_
  rintro e w7 ⟨rfl, hb7⟩
  have HB7 := hide (HB6.out.trans (hb7.mono HB6.out.size))
  clear hb7
  go_wp2
  go_ret
  exact ⟨rfl, HB7.out⟩
theorem inSet_big (a : Option Addr) (len cap : Nat) (n mx : Int) (w : World) (h : 1048576 < len) (hl : len ≤ 9223372036854775807) :
    Calls Try.prog 6 #[.slice a len cap, .int .u32 n, .int .u32 mx] w fun e w' => e = .returned (.bool true) ∧ Below w.heap.size w w' := by
  go_enter Try.func6, Try.ntmps6
  go_wp2_with fail
  refine (szPairS_any a len cap w (by omega)).mono ?_
  rintro e w1 ⟨rfl, rfl⟩
  rw [if_pos h]
  go_wp2
  go_ret
  exact ⟨rfl, Below.refl _ _⟩
/-- What the walk is told of pairs that came in. -/
theorem prAt_of_open {w : World} {x : Addr} {len m : Nat} {V0 V1 : Nat → Value} (hl : len ≤ m) (h : ∀ i, i < m → w.cell? (x.add (i * 2)) = some (V0 i) ∧ w.cell? (x.add (i * 2 + 1)) = some (V1 i) ∧ (∃ z, V0 i = .int .u32 z) ∧ (∃ z, V1 i = .int .u32 z)) :
    ∃ ps : List (Int × Int), ps.length = len ∧ PrAt w (some x) ps := by
  refine ⟨(List.range len).map fun i => (intOf (V0 i), intOf (V1 i)), by simp, fun hp => ?_⟩
  have hp' : 0 < len := by simpa using hp
  obtain ⟨b, off, spot⟩ := x
  have hc := (h 0 (by omega)).1
  have hspot : spot = none := by simpa [Addr.add] using World.cell?_spot hc
  subst hspot
  refine ⟨b, off, rfl, fun i hi => ?_⟩
  have hi' : i < len := by simpa using hi
  obtain ⟨k0, k1, ⟨z0, e0⟩, ⟨z1, e1⟩⟩ := h i (by omega)
  rw [addr_add] at k0 k1
  simp only [List.getElem_map, List.getElem_range, e0, e1, intOf] at k0 k1 ⊢
  exact ⟨k0, k1⟩
namespace InSetRow
theorem own : ownKnob Try.prog.godebug = none := by kernel_rfl
theorem laidOut : laidOutB Try.prog = true := by kernel_rfl
theorem walk (a0 : Option Addr) (len0 cap0 : Nat) (n mx : Int) (ps : List (Int × Int)) (w : World) (hl : ps.length = len0) (hr : PrAt w a0 ps) (hm : len0 ≤ 9223372036854775807) :
    Calls Try.prog 6 #[.slice a0 len0 cap0, .int .u32 n, .int .u32 mx] w fun e w' => e = .returned (.bool true) ∧ Below w.heap.size w w' := by
  subst hl
  by_cases h : 1048576 < ps.length
  · exact inSet_big a0 ps.length cap0 n mx w h hm
  · exact inSet_small a0 cap0 ps n mx w (by omega) hr
set_option maxRecDepth 100000 in
theorem lifted (os : Os) (started : os.Started) (H : Type) (enc : TypeId × Value → H) :
    ReturnsInHanded {} Try.checked os 6 .any (Rows.fnExactInSetSpec.pre6 enc Try.prog Try.f6 Rows.fnExactInSetRow.domain false) (Rows.fnExactInSetSpec.post enc Try.prog Try.f6 false true false false) := by
  refine returnsInHanded_of_change (C := Try.checked) own started (by kernel_rfl) Try.func6
    (ChangeSpec.witness6 (enc := enc) (C := Try.checked) false ⟨#[], #[.slice none 0 0, .int .u32 0, .int .u32 0], []⟩ 8 (by kernel_rfl) (by kernel_rfl) (by kernel_rfl) (by kernel_rfl)) ?_
  intro W base args ds gs before hval0 hW hcnd _
  have hval : ∀ (j : Nat) t v, Try.f6.params[j]? = some t → args[j]? = some v → Value.okWide Try.prog W .any base t v := hval0
  have hW' := hW
  obtain ⟨p, q, hA0, hV, rfl, hfz, hnd⟩ := hW
  have hA : DataW.TrodAll enc Try.prog W 0 (fun _ => true) true Try.f6.params.toList args.toList ds p := hA0
  rw [Try.params6] at hA hval
  obtain ⟨v0, vs0, d0, ds0, p0, q0, hargs, rfl, rfl, h0, r0⟩ := trodAll_cons hA
  obtain ⟨v1, vs1, d1, ds1, p1, q1, hargs1, rfl, rfl, h1, r1⟩ := trodAll_cons r0
  obtain ⟨v2, vs2, d2, ds2, p2, q2, hargs2, rfl, rfl, h2, r2⟩ := trodAll_cons r1
  obtain ⟨rfl, rfl, rfl⟩ := trodAll_nil r2
  obtain rfl : args = #[v0, v1, v2] := by cases args; simp_all
  obtain ⟨rfl, rfl⟩ := trodVars_none hV
  obtain ⟨a0, len0, cap0, rfl⟩ := okWide_slice Try.underlying30 (hval 0 30 v0 rfl rfl)
  obtain ⟨n, rfl, rfl, rfl, wn⟩ := open_int Try.underlying23 (hval 1 23 v1 rfl rfl) h1
  obtain ⟨mx, rfl, rfl, rfl, wm⟩ := open_int Try.underlying23 (hval 2 23 v2 rfl rfl) h2
  have k0 := h0
  have lt0 : ∀ x ∈ p0, x.block < W.heap.size := by obtain ⟨m, hm⟩ := k0; exact DataW.trod_lt m _ _ _ hm
  obtain ⟨ps, hpl, hpr, hpm⟩ : ∃ ps : List (Int × Int), ps.length = len0 ∧ PrAt W a0 ps ∧ len0 ≤ 9223372036854775807 := by
    obtain ⟨fuel, hf⟩ := h0
    rcases open_slice_pairs Try.underlying30 Try.underlying69 (by kernel_rfl) rfl rfl (by kernel_rfl) (by kernel_rfl) hf with ⟨hcs, _⟩ | ⟨x, l, c, m, fu, V0, V1, D0, D1, P0, P1, hcs, _, hl, hm, hmm, _, hx⟩
    · simp [Value.cells] at hcs
      obtain ⟨rfl, rfl, rfl⟩ := hcs
      exact ⟨[], rfl, fun h => absurd h (Nat.lt_irrefl _), by omega⟩
    · simp [Value.cells] at hcs
      obtain ⟨rfl, rfl, rfl⟩ := hcs
      have hmm2 : m = cap0 := by simpa using hmm
      obtain ⟨ps, e1, e2⟩ := prAt_of_open (len := len0) (m := m) (by omega) fun i hi => by
        obtain ⟨x0, x1, t0, t1⟩ := hx i hi
        obtain ⟨z0, g0, _⟩ := DataW.trod_int Try.underlying23 t0
        obtain ⟨z1, g1, _⟩ := DataW.trod_int Try.underlying23 t1
        simp only [List.cons.injEq, and_true] at g0 g1
        exact ⟨x0, x1, ⟨z0, g0⟩, ⟨z1, g1⟩⟩
      exact ⟨ps, e1, e2, by unfold maxLen at hm; omega⟩
  clear hA0 hval0
  simp only [List.append_nil] at hW'
  refine (walk a0 len0 cap0 n mx ps W hpl hpr hpm).mono fun e W' ⟨he, bel⟩ => ?_
  subst he
  exact ⟨_, rfl, _, _, _, [], _, [], hW', trodAll_mk1 (shut_bool Try.underlying4 _), (trodAll_cons_mk (Below.trod laidOut (by kernel_rfl) (of_decide_eq_true (by kernel_rfl)) k0 bel lt0) (trodAll_cons_mk (shut_int Try.underlying23 wn) (trodAll_cons_mk (shut_int Try.underlying23 wm) trodAll_mk0))), rfl, bel.frame _, fun h => by cases h⟩
theorem over : Rows.fnExactInSetRow.holds Try.pinned (OpenSpec.ofChange Rows.fnExactInSetSpec) :=
  OpenClaim.holds_of_wide 6 Try.f6 rfl rfl rfl rfl rfl rfl rfl ⟨rfl, rfl, rfl, rfl, rfl⟩ rfl rfl rfl rfl rfl (by kernel_rfl) Try.func6 (by kernel_rfl)
    (of_decide_eq_true (by kernel_rfl)) (by unfold Func.isWrapper; first | (rw [if_pos (by decide +kernel)]; kernel_rfl) | (rw [if_neg (by decide +kernel)]; exact ⟨rfl, rfl⟩))
    (fun os started H enc _ => lifted os started H enc)
end InSetRow
theorem fnExactInSet_holds : Rows.FnExactInSetSaid := InSetRow.over
end Go.Proofs.Ytokcdpamcbpaiaa
