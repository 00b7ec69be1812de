import Derived.Test.YtledlicandlekaaDoorLists
import Derived.Laws.CopyOwn
namespace Go.Proofs.YtledlicandlekaaDoor
open Go.RowKit
theorem own_of_block {w : World} {B g : Nat} {l : List Nat} (hB : B ≤ g) (hl : l.length ≤ maxLen) (h : w.heap[g]? = some (.cells (l.map bv).toArray 5 (0, 0))) : OwnB w B (.slice (some ⟨g, 0, none⟩) l.length l.length) l :=
  ⟨by simp, .inr ⟨g, l.length, (l.map bv).toArray, rfl, hB, h, Nat.le_refl _, hl, by simp, by rw [List.take_of_length_le (by simp)]⟩⟩
theorem block_of_own {w : World} {B g : Nat} {l : List Nat} (h : OwnB w B (.slice (some ⟨g, 0, none⟩) l.length l.length) l) : w.heap[g]? = some (.cells (l.map bv).toArray 5 (0, 0)) := by
  rcases h.2 with ⟨h', _⟩ | ⟨g', cap', cur, h', _, hg, _, _, hs, htake⟩
  · simp at h'
  · simp only [Value.slice.injEq, Option.some.injEq, Addr.mk.injEq, and_true, true_and] at h'
    obtain ⟨rfl, rfl⟩ := h'
    have : cur = (l.map bv).toArray := by
      apply Array.toList_inj.1
      rw [← htake, List.take_of_length_le (by simp [hs])]
    rw [← this]; exact hg
theorem Tryd.size5 : (Tryd.prog.info? 5).map (·.size) = some 1 := by kernel_rfl
/-- copy onto a whole row of the call's own. -/
theorem wpList_copy_bytes {ops : Array Oper} {rest : List Oper} {o : Oper} {act : Act} {Q : Exit → Act → World → Prop} (w : World) (hgd : o.guard = none) (d s : Operand)
    (ho : o.op = .call { callee := .builtin .copy, args := #[d, s], argTypes := #[22, 22] }) (B g : Nat) (w0 : World) (l0 l : List Nat) (a : Option Addr) (cap : Nat)
    (hd : act.eval d = .slice (some ⟨g, 0, none⟩) l.length l.length) (hs : act.eval s = .slice a l.length cap) (hb : Below B w0 w) (hBg : B ≤ g) (hlen : l0.length = l.length) (hl : l.length ≤ 1099511627776)
    (hown : OwnB w B (.slice (some ⟨g, 0, none⟩) l0.length l0.length) l0) (hr : RowAt w a l)
    (h : ∀ w', OwnB w' B (.slice (some ⟨g, 0, none⟩) l.length l.length) l → Below B w0 w' → wpList Tryd.prog ops Q rest (act.put o.dst (goInt l.length)) w') : wpList Tryd.prog ops Q (o :: rest) act w := by
  refine wpList_copy_splice hgd d s 22 22 ho 5 Tryd.underlying22 Tryd.size5 (some ⟨g, 0, none⟩) a l.length l.length l.length cap hd hs g 0 (l0.map bv) 5 ?_ (l.map bv) (by simp) ?_ (by simp; omega) ?_ B w0 hb hBg ?_
  · exact block_of_own hown
  · intro h0
    refine ⟨rfl, ?_⟩
    obtain ⟨b, off, rfl, hc⟩ := hr (by simpa using h0)
    refine ⟨_, rfl, fun j v hj => ?_⟩
    have hjl : j < l.length := by
      rcases Nat.lt_or_ge j l.length with h' | h'
      · exact h'
      · simp [List.getElem?_eq_none h'] at hj
    rw [addr_add, hc j hjl]
    simp [hjl, bv] at hj
    rw [hj]
  · intro u hu
    simp only [List.mem_map] at hu
    obtain ⟨y, _, rfl⟩ := hu
    rfl
  · intro w' hw' hb'
    rw [List.length_map]
    refine h w' (own_of_block hBg (by unfold maxLen; omega) ?_) hb'
    have h := hw'.out
    rw [show splice (l0.map bv) 0 (l.map bv) = l.map bv from by simp [splice, hlen]] at h
    exact h
theorem l1Bytes_any (a : Option Addr) (cap : Nat) (l : List Nat) (w : World) (hl : l.length ≤ 1048576) (hr : RowAt w a l) :
    Calls Tryd.prog 22 #[.slice a l.length cap] w fun e w' => e = .returned (.slice (some ⟨w.heap.size, 0, none⟩) l.length l.length) ∧ OwnB w' w.heap.size (.slice (some ⟨w.heap.size, 0, none⟩) l.length l.length) l ∧ Below w.heap.size w w' := by
  go_enter Tryd.func22, Tryd.ntmps22
  go_wp2_with (first | (at_make; refine wpList_make_bytes _ rfl _ _ rfl l.length rfl rfl (by omega) ?_; intro w1 hown hbel) | (have _t := hbel; refine wpList_copy_bytes w1 rfl (.tmp 7) (.tmp 8) rfl w.heap.size w.heap.size w (List.replicate l.length 0) l a cap rfl rfl hbel (Nat.le_refl _) (by simp) (by omega) (by simpa using hown) (hr.below hbel) ?_; intro w2 hw2 hb2))
  go_wp2
  go_ret
  exact ⟨rfl, hw2, hb2⟩
theorem OwnB.alloc {w : World} {B : Nat} {v : Value} {l : List Nat} (h : OwnB w B v l) (o : Obj) : OwnB (w.alloc o) B v l := World.ownsRow.alloc h o
end Go.Proofs.YtledlicandlekaaDoor
