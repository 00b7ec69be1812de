import Derived.Test.YtokcdpamcbpaiaaImplLet
import Derived.ProofKit
import Derived.OpenShut
import Derived.ShutString
import Derived.ChangeOld
import Derived.Below
namespace Go.Proofs.Ytokcdpamcbpaiaa.LetRow
open Go.ChangeShapes Go.WideShapes Go.ChangeAt Go.RowKit
open Go.ChangeMaps (open_string shut_string)
set_option linter.unusedVariables false
theorem own : ownKnob Try.prog.godebug = none := by kernel_rfl
theorem eqFlags_same (b : Bool) (f : Int) (w : World) :
    Calls Try.prog 24 #[.agg #[.bool b, .int .u32 f], .agg #[.bool b, .int .u32 f]] w fun e w' => e = .returned (.bool true) ∧ Below w.heap.size w w' := by
  have h1 : (b != b) = false := by simp
  have h2 : (f != f) = false := by simp
  go_enter Try.func24, Try.ntmps24
  go_wp2
  go_ret
  exact ⟨rfl, ((Below.refl _ _).alloc (Nat.le_refl _) _).alloc (by simp) _⟩
theorem walk (s : ByteArray) (ws : s.size ≤ maxLen) (w : World) :
    Calls Try.prog 7 #[.string s] w fun e w' => e = .returned (.bool true) ∧ Below w.heap.size w w' := by
  by_cases hbig : 1048576 < s.size
  · have hi : (1048576 : Int) < (s.size : Int) := by omega
    unfold maxLen at ws
    go_enter Try.func7, Try.ntmps7
    go_wp2
    go_ret
    exact ⟨rfl, Below.refl _ _⟩
  · have hi : ¬ (1048576 : Int) < (s.size : Int) := by omega
    have hs : s.size ≤ 1048576 := by omega
    clear ws
    have SL := hide (fun W => specLetterFlags_any s W hs)
    have IL := hide (fun W => implLetterFlags_any s W)
    go_enter Try.func7, Try.ntmps7
    go_wp2_with fail
    refine (SL.out w).mono ?_
    rintro e w1 ⟨ok, f, rfl, hA, hb1⟩
    have HA := hide hA
    clear hA
    go_wp2_with fail
    have hh2 := heap_alloc_new w1 (.cells #[.bool ok, .int .u32 (f : Int)] 38)
    have hb2 := hb1.alloc hb1.size (.cells #[.bool ok, .int .u32 (f : Int)] 38)
    generalize w1.alloc (.cells #[.bool ok, .int .u32 (f : Int)] 38) = w2 at hh2 hb2 ⊢
    refine (IL.out w2).mono ?_
    rintro e w3 ⟨ok', f', rfl, hA', hb3⟩
    obtain ⟨rfl, rfl⟩ := ans_same HA.out hA'
    have hlt := lt_of_block hh2
    have hh3 := (hb3.block _ hlt).trans hh2
    have hw3 := hb2.trans (hb3.mono hb2.size)
    have hal := (Below.refl w3.heap.size w3).alloc (Nat.le_refl _) (.cells #[.bool ok, .int .u32 (f : Int)] 38)
    have hz3 := hb3.size
    have c0 : w3.cell? ⟨w1.heap.size, 0, none⟩ = some (.bool ok) := by rw [cell_of_row _ _ _ _ _ _ hh3]; rfl
    have c1 : w3.cell? ⟨w1.heap.size, 1, none⟩ = some (.int .u32 (f : Int)) := by rw [cell_of_row _ _ _ _ _ _ hh3]; rfl
    have d0 : (w3.alloc (.cells #[.bool ok, .int .u32 (f : Int)] 38)).cell? ⟨w1.heap.size, 0, none⟩ = some (.bool ok) := (hal.cell (p := ⟨w1.heap.size, 0, none⟩) (by simp; omega)).trans c0
    have d1 : (w3.alloc (.cells #[.bool ok, .int .u32 (f : Int)] 38)).cell? ⟨w1.heap.size, 1, none⟩ = some (.int .u32 (f : Int)) := (hal.cell (p := ⟨w1.heap.size, 1, none⟩) (by simp; omega)).trans c1
    have hw4 := hw3.alloc hw3.size (.cells #[.bool ok, .int .u32 (f : Int)] 38)
    clear hh2 hh3 hb2 hb3 hal c0 c1
    go_wp2_with fail
    refine (eqFlags_same ok (f : Int) _).mono ?_
    rintro e w5 ⟨rfl, hb5⟩
    clear d0 d1
    go_wp2
    go_ret
    exact ⟨rfl, hw4.trans (hb5.mono hw4.size)⟩
set_option maxRecDepth 100000 in
theorem lifted (os : Os) (started : os.Started) (H : Type) (enc : TypeId × Value → H) :
    ReturnsInHanded {} Try.checked os 7 .any (Rows.fnExactLetterFlagsSpec.pre6 enc Try.prog Try.f7 Rows.fnExactLetterFlagsRow.domain false) (Rows.fnExactLetterFlagsSpec.post enc Try.prog Try.f7 false true false false) := by
  refine returnsInHanded_of_change (C := Try.checked) own started (by kernel_rfl) Try.func7
    (ChangeSpec.witness6 (enc := enc) (C := Try.checked) false ⟨#[], #[.string ByteArray.empty], []⟩ 8 (by kernel_rfl) (by kernel_rfl) (by kernel_rfl) (by kernel_rfl)) ?_
  intro W base args ds gs before hval0 hW hcnd _
  have hval : ∀ (j : Nat) t v, Try.f7.params[j]? = some t → args[j]? = some v → Value.okWide Try.prog W .any base t v := hval0
  have hW' := hW
  obtain ⟨p, q, hA0, hV, rfl, hfz, hnd⟩ := hW
  have hA : DataW.TrodAll enc Try.prog W 0 (fun _ => true) true Try.f7.params.toList args.toList ds p := hA0
  rw [Try.params7] at hA hval
  obtain ⟨v0, vs0, d0, ds0, p0, q0, hargs, rfl, rfl, h0, r0⟩ := trodAll_cons hA
  obtain ⟨rfl, rfl, rfl⟩ := trodAll_nil r0
  obtain rfl : args = #[v0] := by cases args; simp_all
  obtain ⟨rfl, rfl⟩ := trodVars_none hV
  obtain ⟨s, rfl, rfl, rfl, ws⟩ := open_string Try.underlying9 (hval 0 9 v0 rfl rfl) h0
  clear hA0 hval0
  simp only [List.append_nil] at hW'
  refine (walk s ws W).mono fun e W' ⟨he, bel⟩ => ?_
  subst he
  exact ⟨_, rfl, _, _, _, [], _, [], hW', trodAll_mk1 (shut_bool Try.underlying4 _), (trodAll_cons_mk (shut_string Try.underlying9 ws) trodAll_mk0), rfl, bel.frame _, fun h => by cases h⟩
theorem over : Rows.fnExactLetterFlagsRow.holds Try.pinned (OpenSpec.ofChange Rows.fnExactLetterFlagsSpec) :=
  OpenClaim.holds_of_wide 7 Try.f7 rfl rfl rfl rfl rfl rfl rfl ⟨rfl, rfl, rfl, rfl, rfl⟩ rfl rfl rfl rfl rfl (by kernel_rfl) Try.func7 (by kernel_rfl)
    (of_decide_eq_true (by kernel_rfl)) (by unfold Func.isWrapper; first | (rw [if_pos (by decide +kernel)]; kernel_rfl) | (rw [if_neg (by decide +kernel)]; exact ⟨rfl, rfl⟩))
    (fun os started H enc _ => lifted os started H enc)
end Go.Proofs.Ytokcdpamcbpaiaa.LetRow
namespace Go.Proofs.Ytokcdpamcbpaiaa
theorem fnExactLetterFlags_holds : Rows.FnExactLetterFlagsSaid := LetRow.over
end Go.Proofs.Ytokcdpamcbpaiaa
