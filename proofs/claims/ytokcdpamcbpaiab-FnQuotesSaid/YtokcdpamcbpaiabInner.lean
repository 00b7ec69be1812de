import Derived.Test.YtokcdpamcbpaiabCutB
namespace Go.Proofs.Ytokcdpamcbpaiab
open Go.RowKit
def NoPost (w : World) (e : Ending) (w' : World) : Prop := ∃ v, e = .returned (.tuple #[v, .bool false]) ∧ Below w.heap.size w w'
theorem inner_nohead (b off cap : Nat) (l : List Nat) (w : World) (hl9 : l.length ≤ 1048576) (hcap : l.length ≤ cap) (hT : TextAt w b off l) (hbw : b < w.heap.size) (hl : ∀ x ∈ l, x < 256) (hh : ¬ l.take 10 = headW) :
    Calls Try.prog 32 #[.slice (some ⟨b, off, none⟩) l.length cap] w (NoPost w) := by
  have hkc := fun (w : World) (C : Array Value) (n c : Nat) => Lib.run_convert_bytes_const (P := Try.prog) w 22 5 C n c Try.underlying22 Try.underlying5
  have hrow := headRow w
  have hbA := (Below.refl w.heap.size w).alloc (Nat.le_refl _) (.cells #[.int .u8 70, .int .u8 114, .int .u8 111, .int .u8 109, .int .u8 32, .int .u8 109, .int .u8 97, .int .u8 105, .int .u8 108, .int .u8 10] 5 (10, 11))
  go_enter Try.func32, Try.ntmps32
  go_wp2_with (go_at_call 44; fail)
  generalize w.alloc (.cells #[.int .u8 70, .int .u8 114, .int .u8 111, .int .u8 109, .int .u8 32, .int .u8 109, .int .u8 97, .int .u8 105, .int .u8 108, .int .u8 10] 5 (10, 11)) = wA at hrow hbA ⊢
  have hTA := hT.below hbA hbw
  clear hT
  refine (cutPrefix_no b off cap l.length (some ⟨w.heap.size, 0, none⟩) l wA rfl hcap hTA hrow hl hh).mono ?_
  rintro e w1 ⟨rfl, rfl⟩
  have hrn := nlRow w1
  have hbB := hbA.alloc hbA.size (.cells #[.int .u8 10] 5 (1, 2))
  have hT2 := hTA.below ((Below.refl w1.heap.size w1).alloc (Nat.le_refl _) (.cells #[.int .u8 10] 5 (1, 2))) (by have := hbA.size; omega)
  clear hTA hrow hbA
  by_cases hsf : l.drop (l.length - 1) = [10] ∧ 0 < l.length
  · go_wp2_with fail
    refine (cutSuffix_yes b off cap l.length (some ⟨w1.heap.size, 0, none⟩) l _ rfl hcap hl9 hT2 hrn hl hsf.2 hsf.1).mono ?_
    rintro e w2 ⟨rfl, rfl⟩
    clear hT2 hrn hsf hl hh hkc
    go_wp2
    go_ret2
    exact ⟨_, rfl, hbB⟩
  · go_wp2_with fail
    refine (cutSuffix_no b off cap l.length (some ⟨w1.heap.size, 0, none⟩) l _ rfl hcap hl9 hT2 hrn hl hsf).mono ?_
    rintro e w2 ⟨rfl, rfl⟩
    clear hT2 hrn hsf hl hh hkc
    go_wp2
    go_ret2
    exact ⟨_, rfl, hbB⟩
theorem inner_noend (b off cap : Nat) (l : List Nat) (w : World) (hl9 : l.length ≤ 1048576) (hcap : l.length ≤ cap) (hT : TextAt w b off l) (hbw : b < w.heap.size) (hl : ∀ x ∈ l, x < 256) (hh : l.take 10 = headW) (hsf : ¬ ((l.drop 10).drop ((l.drop 10).length - 1) = [10] ∧ 0 < (l.drop 10).length)) :
    Calls Try.prog 32 #[.slice (some ⟨b, off, none⟩) l.length cap] w (NoPost w) := by
  have hkc := fun (w : World) (C : Array Value) (n c : Nat) => Lib.run_convert_bytes_const (P := Try.prog) w 22 5 C n c Try.underlying22 Try.underlying5
  have hrow := headRow w
  have hbA := (Below.refl w.heap.size w).alloc (Nat.le_refl _) (.cells #[.int .u8 70, .int .u8 114, .int .u8 111, .int .u8 109, .int .u8 32, .int .u8 109, .int .u8 97, .int .u8 105, .int .u8 108, .int .u8 10] 5 (10, 11))
  have h10 : 10 ≤ l.length := by have := congrArg List.length hh; simp [headW] at this; omega
  go_enter Try.func32, Try.ntmps32
  go_wp2_with (go_at_call 44; fail)
  generalize w.alloc (.cells #[.int .u8 70, .int .u8 114, .int .u8 111, .int .u8 109, .int .u8 32, .int .u8 109, .int .u8 97, .int .u8 105, .int .u8 108, .int .u8 10] 5 (10, 11)) = wA at hrow hbA ⊢
  have hTA := hT.below hbA hbw
  clear hT
  refine (cutPrefix_yes b off cap l.length (some ⟨w.heap.size, 0, none⟩) l wA rfl hcap hTA hrow hl hh).mono ?_
  rintro e w1 ⟨rfl, rfl⟩
  have hrn := nlRow w1
  have hbB := hbA.alloc hbA.size (.cells #[.int .u8 10] 5 (1, 2))
  have hTd := (hTA.drop 10).below ((Below.refl w1.heap.size w1).alloc (Nat.le_refl _) (.cells #[.int .u8 10] 5 (1, 2))) (by have := hbA.size; omega)
  have hdl : (l.drop 10).length = l.length - 10 := List.length_drop ..
  clear hTA hrow hbA
  by_cases hcap10 : cap = 10
  · subst hcap10
    have hz : l.length - 10 = 0 := by omega
    rw [if_pos rfl, hz]
    have CS := cutSuffix_no b off 0 0 (some ⟨w1.heap.size, 0, none⟩) [] (w1.alloc (.cells #[.int .u8 10] 5 (1, 2))) rfl (Nat.le_refl _) (Nat.zero_le _) (fun i h => absurd h (Nat.not_lt_zero _)) hrn (fun x hx => absurd hx List.not_mem_nil) (fun h => absurd h.2 (Nat.lt_irrefl _))
    go_wp2_with fail
    refine CS.mono ?_
    rintro e w2 ⟨rfl, rfl⟩
    clear hTd hrn hsf hl hh hkc
    go_wp2
    go_ret2
    exact ⟨_, rfl, hbB⟩
  · rw [if_neg hcap10]
    go_wp2_with fail
    refine (cutSuffix_no b (off + 10) (cap - 10) (l.length - 10) (some ⟨w1.heap.size, 0, none⟩) (l.drop 10) _ hdl (by omega) (by omega) hTd hrn (fun x hx => hl x (List.mem_of_mem_drop hx)) hsf).mono ?_
    rintro e w2 ⟨rfl, rfl⟩
    clear hTd hrn hsf hl hh hkc
    go_wp2
    go_ret2
    exact ⟨_, rfl, hbB⟩
def YesPost (b off cap : Nat) (l : List Nat) (w : World) (e : Ending) (w' : World) : Prop := e = .returned (.tuple #[.slice (some ⟨b, off + 10, none⟩) (l.length - 10 - 1) (cap - 10), .bool (!bareB (innerOf l))]) ∧ Below w.heap.size w w'
theorem inner_yes (b off cap : Nat) (l : List Nat) (w : World) (hl9 : l.length ≤ 1048576) (hcap : l.length ≤ cap) (hT : TextAt w b off l) (hbw : b < w.heap.size) (hl : ∀ x ∈ l, x < 256) (hh : l.take 10 = headW) (hsf : (l.drop 10).drop ((l.drop 10).length - 1) = [10]) (h11 : 10 < l.length) :
    Calls Try.prog 32 #[.slice (some ⟨b, off, none⟩) l.length cap] w (YesPost b off cap l w) := by
  have hkc := fun (w : World) (C : Array Value) (n c : Nat) => Lib.run_convert_bytes_const (P := Try.prog) w 22 5 C n c Try.underlying22 Try.underlying5
  have hrow := headRow w
  have hbA := (Below.refl w.heap.size w).alloc (Nat.le_refl _) (.cells #[.int .u8 70, .int .u8 114, .int .u8 111, .int .u8 109, .int .u8 32, .int .u8 109, .int .u8 97, .int .u8 105, .int .u8 108, .int .u8 10] 5 (10, 11))
  go_enter Try.func32, Try.ntmps32
  go_wp2_with (go_at_call 44; fail)
  generalize w.alloc (.cells #[.int .u8 70, .int .u8 114, .int .u8 111, .int .u8 109, .int .u8 32, .int .u8 109, .int .u8 97, .int .u8 105, .int .u8 108, .int .u8 10] 5 (10, 11)) = wA at hrow hbA ⊢
  have hTA := hT.below hbA hbw
  clear hT
  refine (cutPrefix_yes b off cap l.length (some ⟨w.heap.size, 0, none⟩) l wA rfl hcap hTA hrow hl hh).mono ?_
  rintro e w1 ⟨rfl, rfl⟩
  have hrn := nlRow w1
  have hbB := hbA.alloc hbA.size (.cells #[.int .u8 10] 5 (1, 2))
  have hTd := (hTA.drop 10).below ((Below.refl w1.heap.size w1).alloc (Nat.le_refl _) (.cells #[.int .u8 10] 5 (1, 2))) (by have := hbA.size; omega)
  have hdl : (l.drop 10).length = l.length - 10 := List.length_drop ..
  clear hTA hrow hbA
  rw [if_neg (by omega)]
  go_wp2_with fail
  refine (cutSuffix_yes b (off + 10) (cap - 10) (l.length - 10) (some ⟨w1.heap.size, 0, none⟩) (l.drop 10) _ hdl (by omega) (by omega) hTd hrn (fun x hx => hl x (List.mem_of_mem_drop hx)) (by omega) (by rw [← hdl]; exact hsf)).mono ?_
  rintro e w2 ⟨rfl, hw2⟩
  have hin : innerOf l = (l.drop 10).take (l.length - 10 - 1) := by unfold innerOf; rw [show l.length - 11 = l.length - 10 - 1 from by omega]
  have hTi : TextAt w2 b (off + 10) (innerOf l) := by rw [hin, hw2]; have := text_slice hTd 0 (l.length - 10 - 1); simpa using this
  have hil : (innerOf l).length = l.length - 10 - 1 := by rw [hin, List.length_take, hdl]; omega
  have hbw2 : Below w.heap.size w w2 := by rw [hw2]; exact hbB
  clear hw2 hTd hrn hbB hin hkc hl hh hsf hdl
  go_wp2_with fail
  refine (bare_n b (off + 10) (cap - 10) (l.length - 10 - 1) (innerOf l) w2 hil (by omega) hTi).mono ?_
  rintro e w3 ⟨rfl, rfl⟩
  obtain ⟨bb, hbb⟩ : ∃ bb, bb = bareB (innerOf l) := ⟨_, rfl⟩
  rw [← hbb]
  have HBB := hide hbb
  clear hbb
  go_wp2
  go_ret2
  exact ⟨by rw [← HBB.out]; rfl, hbw2⟩
end Go.Proofs.Ytokcdpamcbpaiab
