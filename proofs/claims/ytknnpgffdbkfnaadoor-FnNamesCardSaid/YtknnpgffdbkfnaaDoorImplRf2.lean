import Derived.Test.YtknnpgffdbkfnaaDoorImplRf
import Derived.Test.YtknnpgffdbkfnaaDoorShelfR
namespace Go.Proofs.YtknnpgffdbkfnaaDoor
open Go.RowKit
theorem brk_lib (t : List UInt8) : brk t = if Lib.hasPrefix t [40] && Lib.hasSuffix (Lib.trimPrefix t [40]) [41] then some (Lib.trimSuffix (Lib.trimPrefix t [40]) [41]) else none := by
  cases t with
  | nil => rfl
  | cons x r =>
    by_cases hx : x = 40
    · subst hx
      have hp : Lib.hasPrefix (40 :: r) [40] = true := by simp [Lib.hasPrefix]
      have ht : Lib.trimPrefix (40 :: r) [40] = r := by unfold Lib.trimPrefix; rw [hp]; rfl
      rw [hp, ht, Bool.true_and]
      unfold brk
      by_cases hs : Lib.hasSuffix r [41] = true
      · have hsf : [41] <:+ r := List.isSuffixOf_iff_suffix.1 hs
        obtain ⟨l, rfl⟩ := hsf
        rw [if_pos hs, if_pos ⟨by simp, rfl, by rw [← List.cons_append, List.getLast?_concat]⟩]
        unfold Lib.trimSuffix
        rw [hs]
        simp
      · rw [if_neg hs, if_neg]
        rintro ⟨h1, _, h3⟩
        apply hs
        have hr : r ≠ [] := fun e => by rw [e] at h1; simp at h1
        rw [List.getLast?_cons_of_ne_nil hr] at h3
        obtain ⟨l, hl⟩ := List.getLast?_eq_some_iff.1 h3
        exact List.isSuffixOf_iff_suffix.2 ⟨l, hl.symm⟩
    · have hp : Lib.hasPrefix (x :: r) [40] = false := by
        simp only [Lib.hasPrefix, List.isPrefixOf]
        simp
        exact fun e => hx e.symm
      rw [hp, Bool.false_and]
      unfold brk
      rw [if_neg (fun h => hx (by have := h.2.1; simpa using this))]
      rfl
theorem trim_len (t : List UInt8) : (Lib.trimSuffix (Lib.trimPrefix t [40]) [41]).length ≤ t.length := by
  have h1 : (Lib.trimPrefix t [40]).length ≤ t.length := by unfold Lib.trimPrefix; split <;> simp
  have h2 : (Lib.trimSuffix (Lib.trimPrefix t [40]) [41]).length ≤ (Lib.trimPrefix t [40]).length := by
    unfold Lib.trimSuffix
    split
    · rw [List.length_take]; omega
    · omega
  omega
def MaxL (w : World) : Prop := ∃ m : Int, w.cell? ⟨0, 0, none⟩ = some (.int .i64 m)
theorem MaxL.below {w w' : World} (h : MaxL w) (hb : Below w.heap.size w w') : MaxL w' := by
  obtain ⟨m, hm⟩ := h
  exact ⟨m, by rw [hb.cell (p := ⟨0, 0, none⟩) (lt_of_cell0 hm)]; exact hm⟩
/-- What bracketed answers. -/
def BrPost (w : World) (t : List UInt8) (e : Ending) (w' : World) : Prop := ∃ (a : Option Addr) (c : Nat) (ws : List ByteArray) (good : Bool), e = .returned (.tuple #[.slice a ws.length c, .bool good]) ∧ (good = false → brk t = none) ∧ (good = true → ∃ i, brk t = some i ∧ ws.map (·.data.toList) = if i = [] then [] else splitOf 32 i) ∧ WordsAt w' w.heap.size a ws ∧ ws.length ≤ t.length + 1 ∧ (∀ y ∈ ws, y.size ≤ t.length) ∧ Below w.heap.size w w'
set_option maxRecDepth 20000 in
set_option maxHeartbeats 1000000 in
theorem bracketed_any (s : ByteArray) (w : World) (hs : s.size ≤ 1048576) (hm : MaxL w) :
    Calls Tryd.prog 30 #[.string s] w (BrPost w s.data.toList) := by
  have hbl := brk_lib s.data.toList
  have htl := trim_len s.data.toList
  have hsl : s.data.toList.length = s.size := rfl
  have HP := hide (fun W => Tryd.strings_CutPrefix s ⟨#[40]⟩ W)
  have HS := hide (fun W => Tryd.strings_CutSuffix ⟨(Lib.trimPrefix s.data.toList (⟨#[40]⟩ : ByteArray).data.toList).toArray⟩ ⟨#[41]⟩ W)
  rw [show (⟨#[40]⟩ : ByteArray).data.toList = [40] from rfl] at HP HS
  rw [show (⟨#[41]⟩ : ByteArray).data.toList = [41] from rfl] at HS
  have hps : (⟨(Lib.trimPrefix s.data.toList [40]).toArray⟩ : ByteArray).size ≤ 9223372036854775807 := by
    have h1 : (Lib.trimPrefix s.data.toList [40]).length ≤ s.data.toList.length := by unfold Lib.trimPrefix; split <;> simp
    have h2 : (⟨(Lib.trimPrefix s.data.toList [40]).toArray⟩ : ByteArray).size = (Lib.trimPrefix s.data.toList [40]).length := by simp [ByteArray.size]
    omega
  replace HS := hide (fun W => HS.out W hps)
  rw [show (⟨(Lib.trimPrefix s.data.toList [40]).toArray⟩ : ByteArray).data.toList = Lib.trimPrefix s.data.toList [40] from by simp] at HS
  generalize Lib.hasPrefix s.data.toList [40] = op at hbl HP
  generalize Lib.hasSuffix (Lib.trimPrefix s.data.toList [40]) [41] = cl at hbl HS
  generalize Lib.trimSuffix (Lib.trimPrefix s.data.toList [40]) [41] = inner at hbl HS htl
  generalize (⟨(Lib.trimPrefix s.data.toList [40]).toArray⟩ : ByteArray) = ps at HP HS
  clear hps
  have HBL := hide hbl
  have HM := hide hm
  clear hbl hm
  go_enter Tryd.func30, Tryd.ntmps30
  go_wp2_with fail
  refine (HP.out w).mono ?_
  rintro e w1 ⟨rfl, rfl⟩
  go_wp2_with fail
  refine (HS.out w1).mono ?_
  rintro e w2 ⟨rfl, rfl⟩
  have hit : (⟨inner.toArray⟩ : ByteArray).toList = inner := by rw [ByteArray.toList_eq]
  have hid : (⟨inner.toArray⟩ : ByteArray).data.toList = inner := rfl
  have hisz : (⟨inner.toArray⟩ : ByteArray).size = inner.length := by simp [ByteArray.size]
  generalize (⟨inner.toArray⟩ : ByteArray) = I at hit hid hisz ⊢
  by_cases hie : inner = []
  · have hte : I.toList.isEmpty = true := by rw [hit, hie]; rfl
    have HN := hide (show ∀ g : Bool, g = (op && cl) → BrPost w2 s.data.toList (.returned (.tuple #[.slice none 0 0, .bool g])) w2 from fun g hg => by
      refine ⟨none, 0, [], g, rfl, fun h => ?_, fun h => ⟨inner, ?_, ?_⟩, (fun j hj => by cases hj), by simp, (fun y hy => by cases hy), Below.refl _ _⟩
      · rw [HBL.out, ← hg, h]; rfl
      · rw [HBL.out, ← hg, h]; rfl
      · rw [if_pos hie]; rfl)
    clear hie hit hid hisz HBL HP HS
    cases op <;> cases cl
    all_goals
      go_wp2
      go_ret2
      exact HN.out _ rfl
  · have hte : I.toList.isEmpty = false := by rw [hit]; simpa using hie
    obtain ⟨m, hmm⟩ := HM.out
    have HSP := hide (Tryd.strings_Split I ⟨#[32]⟩ m w2 (by omega) hmm (by decide))
    have hsb := splitB_of 32 I.size I (Nat.le_refl _)
    have hsa := Lib.splitB_all ⟨#[32]⟩ (by decide) 0 (Lib.countB I ⟨#[32]⟩) I rfl
    rw [hid] at hsb
    generalize Lib.splitB ⟨#[32]⟩ 0 (Lib.countB I ⟨#[32]⟩) I = ws at HSP hsb hsa
    rw [← hsa] at HSP
    have hwl : ws.length ≤ s.data.toList.length + 1 := by
      have h1 := congrArg List.length hsb
      rw [List.length_map] at h1
      have h2 := splitOf_len 32 inner
      omega
    have hwz : ∀ y ∈ ws, y.size ≤ s.data.toList.length := fun y hy => by
      have hmem : y.data.toList ∈ splitOf 32 inner := by rw [← hsb]; exact List.mem_map.2 ⟨y, hy, rfl⟩
      have h1 := splitOf_mem hmem
      have h2 : y.data.toList.length = y.size := rfl
      omega
    have HWA := hide (show WordsAt (w2.alloc (.cells (ws.map Value.string).toArray 9)) w2.heap.size (some ⟨w2.heap.size, 0, none⟩) ws from fun j hj => ⟨w2.heap.size, rfl, Nat.le_refl _, by
      rw [cell_of_row _ _ _ _ _ _ (heap_alloc_new w2 _)]
      simp [hj]⟩)
    have HBA := hide ((Below.refl w2.heap.size w2).alloc (Nat.le_refl _) (.cells (ws.map Value.string).toArray 9))
    generalize w2.alloc (.cells (ws.map Value.string).toArray 9) = w3 at HSP HWA HBA
    have HN := hide (show ∀ g : Bool, g = (op && cl) → BrPost w2 s.data.toList (.returned (.tuple #[.slice (some ⟨w2.heap.size, 0, none⟩) ws.length ws.length, .bool g])) w3 from fun g hg => by
      refine ⟨_, _, ws, g, rfl, fun h => ?_, fun h => ⟨inner, ?_, ?_⟩, HWA.out, hwl, hwz, HBA.out⟩
      · rw [HBL.out, ← hg, h]; rfl
      · rw [HBL.out, ← hg, h]; rfl
      · rw [if_neg hie]; exact hsb)
    clear hie hit hid hisz HBL HP HS hmm hsb hsa hwl hwz HWA HBA
    go_wp2_with fail
    refine HSP.out.mono ?_
    rintro e w4 ⟨rfl, rfl⟩
    generalize ws.length = wl at HN ⊢
    cases op <;> cases cl
    all_goals
      go_wp2
      go_ret2
      exact HN.out _ rfl
end Go.Proofs.YtknnpgffdbkfnaaDoor
