import Derived.Test.YtpedmebigcchnaaGreatDoorPkd
import Derived.Test.YtpedmebigcchnaaGreatDoorPkf
import Derived.Test.YtpedmebigcchnaaGreatDoorPka
namespace Go.Proofs.YtpedmebigcchnaaGreatDoor
open Go.RowKit
/-- The bytes of a string. -/
def bytesL (s : ByteArray) : List Nat := s.data.toList.map UInt8.toNat
theorem bytesL_len (s : ByteArray) : (bytesL s).length = s.size := by simp [bytesL]
theorem bytesL_lt (s : ByteArray) : ∀ x ∈ bytesL s, x < 256 := by
  intro x hx
  simp only [bytesL, List.mem_map] at hx
  obtain ⟨u, _, rfl⟩ := hx
  exact u.toNat_lt
theorem strB_bytesL (s : ByteArray) : strB (bytesL s) = s := by
  unfold strB bytesL
  rw [List.map_map]
  have : (UInt8.ofNat ∘ UInt8.toNat) = id := by funext u; simp
  rw [this]
  simp
theorem bytesL_at (s : ByteArray) (k : Nat) (h : k < s.size) : (bytesL s)[k]'(by rw [bytesL_len]; exact h) = (s[k]'h).toNat := by
  simp only [bytesL, List.getElem_map]
  rfl
end Go.Proofs.YtpedmebigcchnaaGreatDoor
namespace Go.Proofs.YtpedmebigcchnaaGreatDoor
open Go.RowKit
/-- The reader: what is left to read, and whether it has failed. -/
abbrev RdB (w : World) (g : Nat) (s : ByteArray) (f : Bool) : Prop := Blk w g #[.string s, .bool f] 49
def ptr (g : Nat) : Value := .pointer (some ⟨g, 0, none⟩)
theorem need_any (g gc : Nat) (s : ByteArray) (f good : Bool) (w : World) (hr : RdB w g s f) :
    Calls Tryz.prog 38 #[.pointer (some ⟨g, 0, none⟩), .bool good] w fun e w' => (∃ v, e = .returned v) ∧ RdB w' g s (f || !good) ∧ Two g gc w w' := by
  have c1 : w.cell? ⟨g, 1, none⟩ = some (.bool f) := hr.cell 1
  have f1 := hr.fz 1
  have HR := hide (fun b : Bool => hr.set 1 (.bool b))
  clear hr
  go_enter Tryz.func38, Tryz.ntmps38
  cases f <;> cases good
  all_goals
    go_wp2
    go_end0
    exact ⟨⟨_, rfl⟩, HR.out _, (Two.refl g gc w).set1 _⟩
/-- The piece ahead of the next blank, and what is behind it. -/
def pcL : List UInt8 → List UInt8
  | [] => []
  | x :: r => if x = 32 then [] else x :: pcL r
def bhL : List UInt8 → List UInt8
  | [] => []
  | x :: r => if x = 32 then x :: r else bhL r
theorem pc_bh : ∀ t : List UInt8, pcL t ++ bhL t = t
  | [] => rfl
  | x :: r => by
    rw [pcL, bhL]
    split
    · rfl
    · rw [List.cons_append, pc_bh r]
theorem pc_no : ∀ {t : List UInt8}, (32 : UInt8) ∉ t → pcL t = t ∧ bhL t = []
  | [], _ => ⟨rfl, rfl⟩
  | x :: r, h => by
    have h1 : x ≠ 32 := fun e => h (by rw [e]; exact List.mem_cons_self)
    obtain ⟨h2, h3⟩ := pc_no (t := r) (fun hm => h (List.mem_cons_of_mem _ hm))
    rw [pcL, bhL, if_neg h1, if_neg h1, h2, h3]
    exact ⟨rfl, rfl⟩
theorem pc_at {c : List UInt8} : ∀ {a : List UInt8}, (32 : UInt8) ∉ a → pcL (a ++ 32 :: c) = a ∧ bhL (a ++ 32 :: c) = 32 :: c
  | [], _ => ⟨rfl, rfl⟩
  | x :: r, h => by
    have h1 : x ≠ 32 := fun e => h (by rw [e]; exact List.mem_cons_self)
    obtain ⟨h2, h3⟩ := pc_at (c := c) (a := r) (fun hm => h (List.mem_cons_of_mem _ hm))
    rw [List.cons_append, pcL, bhL, if_neg h1, if_neg h1, h2, h3]
    exact ⟨rfl, rfl⟩
theorem cut_piece (t : List UInt8) : (Lib.cut t [32]).1 = pcL t := by
  by_cases hm : (32 : UInt8) ∈ t
  · obtain ⟨a, c, e, hn⟩ := List.eq_append_cons_of_mem hm
    subst e
    have hc := cut_first a c 32 [] hn
    rw [show a ++ ([32] ++ c) = a ++ 32 :: c from rfl] at hc
    rw [hc, (pc_at hn).1]
  · have h1 : (Lib.cut t [32]).2.2 = false := by
      cases e : (Lib.cut t [32]).2.2 with
      | false => rfl
      | true => exact absurd (by rw [cut_true e]; simp) hm
    have h2 : (Lib.cut t [32]).1 = t := by
      unfold Lib.cut at h1 ⊢
      split at h1
      · cases h1
      · next hi => rw [if_neg hi]
    rw [h2, (pc_no hm).1]
def pcB (s : ByteArray) : ByteArray := ⟨(pcL s.data.toList).toArray⟩
def bhB (s : ByteArray) : ByteArray := ⟨(bhL s.data.toList).toArray⟩
theorem pcB_sz (s : ByteArray) : (pcB s).size = (pcL s.data.toList).length := by
  show (pcL s.data.toList).toArray.size = _
  rw [List.size_toArray]
theorem bhB_sz (s : ByteArray) : (bhB s).size = (bhL s.data.toList).length := by
  show (bhL s.data.toList).toArray.size = _
  rw [List.size_toArray]
theorem pc_sum (s : ByteArray) : (pcL s.data.toList).length + (bhL s.data.toList).length = s.size := by
  have h := congrArg List.length (pc_bh s.data.toList)
  rw [List.length_append] at h
  exact h
theorem pc_len (s : ByteArray) : (pcB s).size ≤ s.size := by
  rw [pcB_sz]; have := pc_sum s; omega
theorem bh_len (s : ByteArray) : (bhB s).size ≤ s.size := by
  rw [bhB_sz]; have := pc_sum s; omega
theorem bh_ext (s : ByteArray) : s.extract (pcB s).size s.size = bhB s := by
  apply ByteArray.ext
  rw [ByteArray.data_extract]
  apply Array.toList_inj.1
  rw [Array.toList_extract, pcB_sz]
  show (s.data.toList.drop (pcL s.data.toList).length).take (s.size - _) = bhL s.data.toList
  have hd : s.data.toList.drop (pcL s.data.toList).length = bhL s.data.toList := by
    have h := pc_bh s.data.toList
    generalize pcL s.data.toList = a at h ⊢
    generalize bhL s.data.toList = b at h ⊢
    rw [← h, List.drop_left]
  rw [hd, List.take_of_length_le]
  have := pc_sum s
  omega
set_option maxRecDepth 20000 in
theorem piece_any (g gc : Nat) (s : ByteArray) (f : Bool) (w : World) (hs : s.size ≤ 1048576) (hr : RdB w g s f) (hE : Env w) :
    Calls Tryz.prog 37 #[.pointer (some ⟨g, 0, none⟩)] w fun e w' => e = .returned (.string (pcB s)) ∧ RdB w' g (bhB s) f ∧ Two g gc w w' := by
  have c0 : w.cell? ⟨g, 0, none⟩ = some (.string s) := hr.cell 0
  obtain ⟨m, hm⟩ := hE.max
  have HC := hide (Tryz.strings_Cut s ⟨#[32]⟩ m w (by omega) hm)
  rw [show Lib.cut s.data.toList (⟨#[32]⟩ : ByteArray).data.toList = Lib.cut s.data.toList [32] from rfl, show (⟨(Lib.cut s.data.toList [32]).1.toArray⟩ : ByteArray) = pcB s from by rw [cut_piece]; rfl] at HC
  generalize (⟨(Lib.cut s.data.toList [32]).2.1.toArray⟩ : ByteArray) = x at HC
  generalize (Lib.cut s.data.toList [32]).2.2 = y at HC
  have hpl := pc_len s
  have HBE := hide (bh_ext s)
  have HR := hide hr
  generalize pcB s = p at HC hpl HBE
  clear hm hr hE
  go_enter Tryz.func37, Tryz.ntmps37
  go_wp2_with fail
  refine HC.out.mono ?_
  rintro e w1 ⟨rfl, n, hw1⟩
  have hb1 : Below w.heap.size w w1 := by rw [hw1]; exact below_drewN (Below.refl _ _) n
  have hr1 := HR.out.below hb1 HR.out.lt
  have d0 : w1.cell? ⟨g, 0, none⟩ = some (.string s) := hr1.cell 0
  have f0 := hr1.fz 0
  have HR2 := hide (fun u : Value => hr1.set 0 u)
  have HT := hide (Two.of_below (b1 := g) (b2 := gc) hb1)
  clear hw1 hb1 hr1 HC HR c0
  have hpi : (p.size : Int) ≤ (s.size : Int) := by omega
  go_wp2
  go_ret
  rw [HBE.out]
  exact ⟨rfl, HR2.out _, HT.out.set1 _⟩
end Go.Proofs.YtpedmebigcchnaaGreatDoor
namespace Go.Proofs.YtpedmebigcchnaaGreatDoor
open Go.RowKit
def upB (s : ByteArray) : ByteArray := strB ((bytesL s).map upN)
theorem word_any (g gc : Nat) (s : ByteArray) (f : Bool) (w : World) (hs : s.size ≤ 1048576) (hr : RdB w g s f) (hE : Env w) :
    Calls Tryz.prog 43 #[.pointer (some ⟨g, 0, none⟩)] w fun e w' => e = .returned (.string (upB (pcB s))) ∧ RdB w' g (bhB s) f ∧ Two g gc w w' := by
  have HP := hide (piece_any g gc s f w hs hr hE)
  have hpl := pc_len s
  have HU := hide (fun W => capitals_any (bytesL (pcB s)) W (by rw [bytesL_len]; omega) (bytesL_lt _))
  rw [strB_bytesL] at HU
  clear hr hE
  go_enter Tryz.func43, Tryz.ntmps43
  go_wp2_with fail
  refine HP.out.mono ?_
  rintro e w1 ⟨rfl, h1, t1⟩
  have H1 := hide h1
  have T1 := hide t1
  clear h1 t1
  go_wp2_with fail
  refine (HU.out w1).mono ?_
  rintro e w2 ⟨rfl, hb2⟩
  have H2 := hide (H1.out.below hb2 H1.out.lt)
  have T2 := hide (T1.out.trans (Two.of_below hb2))
  clear hb2
  go_wp2
  go_ret
  exact ⟨rfl, H2.out, T2.out⟩
/-- What blank leaves. -/
def blB (s : ByteArray) : ByteArray := ⟨(Lib.trimPrefix s.data.toList [32]).toArray⟩
def blOk (s : ByteArray) : Bool := Lib.hasPrefix s.data.toList [32]
theorem blank_any (g gc : Nat) (s : ByteArray) (f : Bool) (w : World) (hr : RdB w g s f) :
    Calls Tryz.prog 22 #[.pointer (some ⟨g, 0, none⟩)] w fun e w' => (∃ v, e = .returned v) ∧ RdB w' g (blB s) (f || !blOk s) ∧ Two g gc w w' := by
  have c0 : w.cell? ⟨g, 0, none⟩ = some (.string s) := hr.cell 0
  have HP := hide (Tryz.strings_CutPrefix s ⟨#[32]⟩ w)
  rw [show (⟨(Lib.trimPrefix s.data.toList (⟨#[32]⟩ : ByteArray).data.toList).toArray⟩ : ByteArray) = blB s from rfl, show Lib.hasPrefix s.data.toList (⟨#[32]⟩ : ByteArray).data.toList = blOk s from rfl] at HP
  have HR := hide hr
  clear hr
  generalize blB s = b at HP ⊢
  generalize blOk s = ok at HP ⊢
  go_enter Tryz.func22, Tryz.ntmps22
  go_wp2_with fail
  refine HP.out.mono ?_
  rintro e w1 ⟨rfl, rfl⟩
  go_wp2_with fail
  refine (need_any g gc s f ok w1 HR.out).mono ?_
  rintro e w2 ⟨⟨v2, rfl⟩, h2, t2⟩
  have d0 : w2.cell? ⟨g, 0, none⟩ = some (.string s) := h2.cell 0
  have f0 := h2.fz 0
  have H2 := hide (h2.set 0 (.string b))
  have T2 := hide (t2.set1 (j := 0) (.string b))
  clear h2 t2
  go_wp2
  go_end0
  exact ⟨⟨_, rfl⟩, H2.out, T2.out⟩
end Go.Proofs.YtpedmebigcchnaaGreatDoor
