import Derived.Test.YtknnpgffdbkfnaaFrameLaw
import Derived.ProofKit
import Derived.OpenShut
import Derived.ShutString
import Derived.ChangeOld
import Derived.Below
import Derived.Deep.Matrix
namespace Go.Proofs.Ytknnpgffdbkfnaa
open Go.ChangeShapes Go.WideShapes Go.ChangeAt Go.RowKit Go.Deep
set_option linter.unusedVariables false
theorem bound_u8 {n : Int} (h : (Lit.int .u8 n).wf = true) : 0 ≤ n ∧ n ≤ 255 := by
  simp [Lit.wf, IntKind.min, IntKind.max, IntKind.signed, IntKind.bits] at h
  exact h
/-- A row of bytes that came in, as numbers. -/
theorem row_of_cells {w : World} {x : Addr} {len : Nat} {zs : List Int} (hl : len ≤ zs.length) (hcell : ∀ i, i < zs.length → w.cell? (x.add i) = some (.int .u8 (zs.getD i 0))) (hwf : ∀ n ∈ zs, (Lit.int .u8 n).wf = true) :
    RowAt w (some x) ((zs.take len).map Int.toNat) := by
  intro hp
  have hlen : ((zs.take len).map Int.toNat).length = len := by simp; omega
  obtain ⟨b, off, spot⟩ := x
  have hc := hcell 0 (by omega)
  have hspot : spot = none := by simpa [Addr.add] using World.cell?_spot hc
  subst hspot
  refine ⟨b, off, rfl, fun i hi => ?_⟩
  have hi' : i < zs.length := by omega
  have h1 := hcell i hi'
  have hb := bound_u8 (hwf zs[i] (List.getElem_mem hi'))
  rw [addr_add] at h1
  rw [h1]
  simp only [List.getElem_map, List.getElem_take, List.getD_eq_getElem?_getD, List.getElem?_eq_getElem hi', Option.getD_some]
  rw [Int.toNat_of_nonneg hb.1]
theorem bytes_of_wf {len : Nat} {zs : List Int} (hwf : ∀ n ∈ zs, (Lit.int .u8 n).wf = true) : ∀ x ∈ (zs.take len).map Int.toNat, x < 256 := by
  intro y hy
  simp only [List.mem_map] at hy
  obtain ⟨n, hn, rfl⟩ := hy
  have hb := bound_u8 (hwf n (List.mem_of_mem_take hn))
  omega
/-- What the walk is told of a list of rows that came in. -/
def InRows (w : World) (a : Option Addr) (len : Nat) (ls : List (List Nat)) : Prop :=
  ls.length = len ∧ ls.length ≤ 9223372036854775807 ∧ (∀ l ∈ ls, l.length ≤ 9223372036854775807) ∧ RowsAt w a ls ∧ ∀ l ∈ ls, ∀ x ∈ l, x < 256
theorem inRows_of_open {w : World} {base : Nat} {a : Addr} {len cap : Nat} {A : Nat → Option Addr} {L C : Nat → Nat} {Z : Nat → List Int} (hl : len ≤ cap) (hm : cap ≤ maxLen)
    (h : ∀ r, r < cap → w.cell? (a.add r) = some (.slice (A r) (L r) (C r)) ∧ L r ≤ C r ∧ C r ≤ maxLen ∧ (Z r).length = C r ∧ (∀ n ∈ Z r, (Lit.int .u8 n).wf = true) ∧ (A r = none → C r = 0) ∧
        ∀ a', A r = some a' → base ≤ a'.block ∧ ∀ c, c < C r → w.cell? (a'.add c) = some (.int .u8 ((Z r).getD c 0))) :
    InRows w (some a) len ((List.range len).map fun r => ((Z r).take (L r)).map Int.toNat) := by
  have hlen : ((List.range len).map fun r => ((Z r).take (L r)).map Int.toNat).length = len := by simp
  refine ⟨hlen, by rw [hlen]; unfold maxLen at hm; omega, fun l hl' => ?_, fun hp => ?_, fun l hl' => ?_⟩
  · simp only [List.mem_map, List.mem_range] at hl'
    obtain ⟨r, hr, rfl⟩ := hl'
    obtain ⟨_, h1, h2, h3, _⟩ := h r (by omega)
    unfold maxLen at h2
    simp; omega
  · obtain ⟨b, off, spot⟩ := a
    have hc := (h 0 (by omega)).1
    have hspot : spot = none := by simpa [Addr.add] using World.cell?_spot hc
    subst hspot
    refine ⟨b, off, rfl, fun i hi => ?_⟩
    have hi' : i < len := by omega
    obtain ⟨k1, k2, k3, k4, k5, k6, k7⟩ := h i (by omega)
    rw [addr_add] at k1
    refine ⟨A i, C i, ?_, ?_⟩
    · rw [k1]
      have e : (((List.range len).map fun r => ((Z r).take (L r)).map Int.toNat)[i]).length = L i := by simp; omega
      rw [e]
    · simp only [List.getElem_map, List.getElem_range]
      cases hA : A i with
      | none =>
        intro hp'
        have := k6 hA
        simp at hp'
        omega
      | some a' => exact row_of_cells (by omega) (fun c hc => (k7 a' hA).2 c (by omega)) k5
  · simp only [List.mem_map, List.mem_range] at hl'
    obtain ⟨r, hr, rfl⟩ := hl'
    exact bytes_of_wf (h r (by omega)).2.2.2.2.1
theorem inRows_nil (w : World) : InRows w none 0 [] := ⟨rfl, Nat.zero_le _, (by intro l h; cases h), (by intro h; exact absurd h (Nat.lt_irrefl _)), (by intro l h; cases h)⟩
namespace FrameRow
theorem own : ownKnob Try.prog.godebug = none := by kernel_rfl
theorem laidOut : laidOutB Try.prog = true := by kernel_rfl
theorem walk (a0 : Option Addr) (len0 cap0 : Nat) (ls : List (List Nat)) (w : World) (w0 : InRows w a0 len0 ls) :
    Calls Try.prog 3 #[.slice a0 len0 cap0] w fun e w' => e = .returned (.bool true) ∧ Below w.heap.size w w' := by
  obtain ⟨rfl, h1, h2, h3, h4⟩ := w0
  by_cases h : 1048576 < ls.length + sumL ls
  · exact frame_big a0 cap0 ls w h1 h2 h3 h
  · exact frame_small a0 cap0 ls w h3 h4 (by omega)
set_option maxRecDepth 100000 in
theorem lifted (os : Os) (started : os.Started) (H : Type) (enc : TypeId × Value → H) :
    ReturnsInHanded {} Try.checked os 3 .any (Rows.fnExactFrameSpec.pre6 enc Try.prog Try.f3 Rows.fnExactFrameRow.domain false) (Rows.fnExactFrameSpec.post enc Try.prog Try.f3 false true false false) := by
  refine returnsInHanded_of_change (C := Try.checked) own started (by kernel_rfl) Try.func3
    (ChangeSpec.witness6 (enc := enc) (C := Try.checked) false ⟨#[], #[.slice none 0 0], []⟩ 8 (by kernel_rfl) (by kernel_rfl) (by kernel_rfl) (by kernel_rfl)) ?_
  intro W base args ds gs before hval0 hW hcnd _
  have hval : ∀ (j : Nat) t v, Try.f3.params[j]? = some t → args[j]? = some v → Value.okWide Try.prog W .any base t v := hval0
  have hW' := hW
  obtain ⟨p, q, hA0, hV, rfl, hfz, hnd⟩ := hW
  have hA : DataW.TrodAll enc Try.prog W 0 (fun _ => true) true Try.f3.params.toList args.toList ds p := hA0
  rw [Try.params3] at hA hval
  obtain ⟨v0, vs0, d0, ds0, p0, q0, hargs, rfl, rfl, h0, r0⟩ := trodAll_cons hA
  obtain ⟨rfl, rfl, rfl⟩ := trodAll_nil r0
  obtain rfl : args = #[v0] := by cases args; simp_all
  obtain ⟨rfl, rfl⟩ := trodVars_none hV
  obtain ⟨a0, len0, cap0, rfl⟩ := okWide_slice Try.underlying22 (hval 0 22 v0 rfl rfl)
  have k0 := h0
  have lt0 : ∀ x ∈ p0, x.block < W.heap.size := by obtain ⟨m, hm⟩ := k0; exact DataW.trod_lt m _ _ _ hm
  obtain ⟨ls, w0⟩ : ∃ ls, InRows W a0 len0 ls := by
    obtain ⟨fuel, hf⟩ := h0
    rcases open_int_rows Try.underlying22 Try.underlying24 Try.underlying5 (by kernel_rfl) (by kernel_rfl) hf with ⟨hcs, _⟩ | ⟨a, len, cap, A, L, C, Z, hcs, _, hl, hm, _, hrows⟩
    · simp [Value.cells] at hcs
      obtain ⟨rfl, rfl, rfl⟩ := hcs
      exact ⟨[], inRows_nil W⟩
    · simp [Value.cells] at hcs
      obtain ⟨rfl, rfl, rfl⟩ := hcs
      exact ⟨_, inRows_of_open hl hm hrows⟩
  clear hA0 hval0
  refine (walk a0 len0 cap0 ls W w0).mono fun e W' ⟨he, bel⟩ => ?_
  subst he
  exact ⟨_, rfl, _, _, _, [], _, [], hW', trodAll_mk1 (shut_bool Try.underlying4 _), (trodAll_cons_mk (Below.trod laidOut (by kernel_rfl) (of_decide_eq_true (by kernel_rfl)) k0 bel lt0) trodAll_mk0), rfl, bel.frame _, fun h => by cases h⟩
theorem over : Rows.fnExactFrameRow.holds Try.pinned (OpenSpec.ofChange Rows.fnExactFrameSpec) :=
  OpenClaim.holds_of_wide 3 Try.f3 rfl rfl rfl rfl rfl rfl rfl ⟨rfl, rfl, rfl, rfl, rfl⟩ rfl rfl rfl rfl rfl (by kernel_rfl) Try.func3 (by kernel_rfl)
    (of_decide_eq_true (by kernel_rfl)) (by unfold Func.isWrapper; first | (rw [if_pos (by decide +kernel)]; kernel_rfl) | (rw [if_neg (by decide +kernel)]; exact ⟨rfl, rfl⟩))
    (fun os started H enc _ => lifted os started H enc)
end FrameRow
theorem fnExactFrame_holds : Rows.FnExactFrameSaid := FrameRow.over
end Go.Proofs.Ytknnpgffdbkfnaa
