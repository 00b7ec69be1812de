import Derived.Test.YtpedmebigcchnaaGreatDoorPkb
import Derived.Test.YtpedmebigcchnaaGreatDoorPka
import Derived.Lib.IndexMore
import Derived.Lib.ParseIntB
import Derived.Lib.ItoaMem
namespace Go.Proofs.YtpedmebigcchnaaGreatDoor
open Go.RowKit
theorem szByteS_any (a : Option Addr) (n cap : Nat) (left : Int) (w : World) (h0 : 0 ≤ left) (h1 : left ≤ 1048576) (hn : n ≤ 9223372036854775807) :
    Calls Tryz.prog 13 #[.slice a n cap, .int .i64 left] w fun e w' => e = .returned (.int .i64 (if left < n then -1 else left - n)) ∧ w' = w := by
  by_cases h : left < n
  · rw [if_pos h]
    go_enter Tryz.func13, Tryz.ntmps13
    go_wp2
    go_ret
    exact ⟨rfl, rfl⟩
  · rw [if_neg h]
    go_enter Tryz.func13, Tryz.ntmps13
    go_wp2
    go_ret
    exact ⟨rfl, rfl⟩
end Go.Proofs.YtpedmebigcchnaaGreatDoor
namespace Go.Proofs.YtpedmebigcchnaaGreatDoor
open Go.RowKit
/-- What marking writes: k, k + 1, .. as bytes. -/
def marks (k n : Nat) : List Nat := (List.range n).map fun i => (k + i) % 256
theorem marks_length (k n : Nat) : (marks k n).length = n := by simp [marks]
theorem marks_at (k n i : Nat) (h : i < (marks k n).length) : (marks k n)[i] = (k + i) % 256 := by simp [marks]
theorem marks_succ (k n : Nat) : marks k (n + 1) = marks k n ++ [(k + n) % 256] := by simp [marks, List.range_succ]
def marked (k : Nat) (l : List Nat) (i : Nat) : List Nat := marks k i ++ l.drop i
theorem marked_zero (k : Nat) (l : List Nat) : marked k l 0 = l := by simp [marked, marks]
theorem marked_len (k : Nat) (l : List Nat) : marked k l l.length = marks k l.length := by simp [marked]
theorem marked_length (k : Nat) (l : List Nat) (i : Nat) (h : i ≤ l.length) : (marked k l i).length = l.length := by simp [marked, marks_length]; omega
theorem marked_set (k : Nat) (l : List Nat) (i : Nat) (h : i < l.length) : (marked k l i).set i ((k + i) % 256) = marked k l (i + 1) := by
  unfold marked
  rw [List.set_append_right _ _ (by simp [marks_length])]
  have e : i - (marks k i).length = 0 := by simp [marks_length]
  rw [e, List.drop_eq_getElem_cons h, List.set_cons_zero, marks_succ]
  simp
theorem bv_mark (k j : Nat) : bv ((k + j) % 256) = .int .u8 (((k : Int) + (j : Int)) % 256) := val_int (by omega)
theorem markByteS_any (base : Nat) (a : Option Addr) (cap k : Nat) (l : List Nat) (w : World) (hk : k ≤ 4503599627370496) (hl : l.length ≤ 4503599627370496) (hown : OwnB w base (.slice a l.length cap) l) :
    Calls Tryz.prog 28 #[.slice a l.length cap, .int .i64 (k : Int)] w fun e w' => e = .returned (.int .i64 ((k + l.length : Nat) : Int)) ∧ OwnB w' base (.slice a l.length cap) (marks k l.length) ∧ w.grownBy w' (Value.slice a l.length cap).ownBlock ∧ w'.heap.size = w.heap.size := by
  go_enter Tryz.func28, Tryz.ntmps28
  go_wp2
  go_loopw [1, 5] (fun s i wr => ∃ j : Nat, j ≤ l.length ∧ i = .int .i64 j ∧ s = .int .i64 ((k + j : Nat) : Int) ∧ OwnB wr base (.slice a l.length cap) (marked k l j) ∧ w.grownBy wr (Value.slice a l.length cap).ownBlock ∧ wr.heap.size = w.heap.size) (fun _ i _ => l.length - (intOf i).toNat)
  case atStart => exact ⟨0, Nat.zero_le _, rfl, rfl, by rw [marked_zero]; exact hown, grown_refl _ _, rfl⟩
  case round =>
    obtain ⟨j, hj, rfl, rfl, hown', hg, hsz⟩ := hrel
    clear hown
    by_cases hlt : j < l.length
    · have hml := marked_length k l j hj
      obtain ⟨b, off, rfl, hc⟩ := hown'.row (by omega)
      have hg0 : off = 0 := by
        rcases hown'.2 with ⟨h, _⟩ | ⟨g, c, cur, h, _⟩
        · simp at h
        · simp at h; exact h.1.2
      subst hg0
      have hcell := hown'.cellAt j (by omega)
      have hfz := hown'.frozenAt j
      have hst := hown'.store j ((k + j) % 256)
      rw [marked_set k l j hlt] at hst
      have HX : Hid (OwnB (wr.setCell ⟨b, j, none⟩ (bv ((k + j) % 256))) base (.slice (some ⟨b, 0, none⟩) l.length cap) (marked k l (j + 1)) ∧ w.grownBy (wr.setCell ⟨b, j, none⟩ (bv ((k + j) % 256))) (some b) ∧ (wr.setCell ⟨b, j, none⟩ (bv ((k + j) % 256))).heap.size = w.heap.size) := ⟨hst.1, grown_trans hg hst.2, by rw [← hsz]; simp⟩
      generalize (marked k l j)[j]'(by omega) = y at hcell
      clear hst hown' hg hc hml hsz
      rw [bv_mark] at HX
      go_wp2
      go_roundw
      case rel => exact ⟨j + 1, by omega, by go_num, val_int (by omega), HX.out.1, HX.out.2.1, HX.out.2.2⟩
      case measure => simp [intOf]; omega
    · obtain rfl : j = l.length := by omega
      rw [marked_len] at hown'
      go_wp2
      go_ret
      exact ⟨rfl, hown', hg, hsz⟩
theorem heldByteS_any (a : Option Addr) (cap k n : Nat) (w : World) (hk : k ≤ 4503599627370496) (hl : n ≤ 4503599627370496) (hr : RowAt w a (marks k n)) :
    Calls Tryz.prog 31 #[.slice a n cap, .int .i64 (k : Int)] w fun e w' => e = .returned (.int .i64 ((k + n : Nat) : Int)) ∧ w' = w := by
  go_enter Tryz.func31, Tryz.ntmps31
  go_wp2
  go_loop [1, 5] (fun s i => ∃ j : Nat, j ≤ n ∧ i = .int .i64 j ∧ s = .int .i64 ((k + j : Nat) : Int)) (fun _ i => n - (intOf i).toNat)
  case atStart => exact ⟨0, Nat.zero_le _, rfl, rfl⟩
  case round =>
    obtain ⟨j, hj, rfl, rfl⟩ := hrel
    by_cases hlt : j < n
    · have hml := marks_length k n
      obtain ⟨b, off, rfl, hc⟩ := hr (by omega)
      have hcell := hc j (by omega)
      rw [marks_at k n j (by omega)] at hcell
      have e : (((k + j) % 256 : Nat) : Int) = ((k : Int) + (j : Int)) % 256 := by omega
      rw [e] at hcell
      have hne : ((((k : Int) + (j : Int)) % 256) != (((k : Int) + (j : Int)) % 256)) = false := by simp
      clear hc hr hml e
      go_wp2
      go_round
      case rel => exact ⟨j + 1, by omega, by go_num, val_int (by omega)⟩
      case measure => simp [intOf]; omega
    · obtain rfl : j = n := by omega
      go_wp2
      go_ret
      exact ⟨rfl, rfl⟩
end Go.Proofs.YtpedmebigcchnaaGreatDoor
namespace Go.Proofs.YtpedmebigcchnaaGreatDoor
open Go.Lib
/-- The value of digits, acc ahead. -/
def valD (acc : Nat) (l : List UInt8) : Nat := l.foldl (fun a c => a * 10 + (c.toNat - 48)) acc
def isDig (c : UInt8) : Prop := 48 ≤ c.toNat ∧ c.toNat ≤ 57
theorem dig_of (k : Nat) (h : k < 10) : (UInt8.ofNat (48 + k)).toNat = 48 + k := by
  rw [UInt8.toNat_ofNat']; omega
theorem valD_ge (l : List UInt8) (acc : Nat) : acc ≤ valD acc l := by
  induction l generalizing acc with
  | nil => exact Nat.le_refl _
  | cons c r ih => have := ih (acc * 10 + (c.toNat - 48)); show acc ≤ valD (acc * 10 + (c.toNat - 48)) r; omega
theorem valD_snoc (acc : Nat) (l : List UInt8) (d : UInt8) : valD acc (l ++ [d]) = valD acc l * 10 + (d.toNat - 48) := by
  unfold valD; rw [List.foldl_append]; rfl
theorem dec_digits (n : Nat) : ∀ c ∈ decDigits n, isDig c := by
  induction n using Nat.strongRecOn with
  | _ n ih =>
    intro c hc
    by_cases h : n < 10
    · rw [decDigits_one h, List.mem_singleton] at hc
      subst hc
      unfold isDig; rw [dig_of n h]; omega
    · rw [decDigits, dif_neg h, List.mem_append] at hc
      rcases hc with hc | hc
      · exact ih (n / 10) (by omega) c hc
      · rw [List.mem_singleton] at hc
        subst hc
        unfold isDig; rw [dig_of (n % 10) (by omega)]; omega
theorem dec_val (n : Nat) : valD 0 (decDigits n) = n := by
  induction n using Nat.strongRecOn with
  | _ n ih =>
    by_cases h : n < 10
    · rw [decDigits_one h]
      show 0 * 10 + ((UInt8.ofNat (48 + n)).toNat - 48) = n
      rw [dig_of n h]; omega
    · rw [decDigits, dif_neg h, valD_snoc, ih (n / 10) (by omega), dig_of (n % 10) (by omega)]; omega
theorem dec_ne (n : Nat) : decDigits n ≠ [] := by
  intro h
  have := decDigits_length n
  rw [h] at this
  have := nDigits_pos n
  simp at *
  omega
theorem dec_inj {a b : Nat} (h : decDigits a = decDigits b) : a = b := by rw [← dec_val a, h, dec_val]
theorem dec_not {n : Nat} {c : UInt8} (h : ¬ isDig c) : c ∉ decDigits n := fun hc => h (dec_digits n c hc)
theorem dec_back : ∀ (k : Nat) (l : List UInt8), l.length ≤ k → (∀ c ∈ l, isDig c) → l ≠ [] → (l.head? = some 48 → l = [48]) → decDigits (valD 0 l) = l
  | 0, l, hk, _, hne, _ => absurd (List.eq_nil_of_length_eq_zero (by omega)) hne
  | k + 1, l, hk, hd, hne, h0 => by
    rcases List.eq_nil_or_concat l with rfl | ⟨l', d, hcat⟩
    · exact absurd rfl hne
    · rw [List.concat_eq_append] at hcat
      subst hcat
      have hdd := hd d (by simp)
      have hof : UInt8.ofNat (48 + (d.toNat - 48)) = d := by
        have : 48 + (d.toNat - 48) = d.toNat := by have := hdd.1; omega
        rw [this]; exact UInt8.ofNat_toNat
      rw [valD_snoc]
      have hlt : d.toNat - 48 < 10 := by have := hdd.2; omega
      by_cases hl : l' = []
      · subst hl
        show decDigits (0 * 10 + (d.toNat - 48)) = [d]
        rw [Nat.zero_mul, Nat.zero_add, decDigits_one hlt, hof]
      · have hh : l'.head? ≠ some 48 := by
          intro e
          have h1 : (l' ++ [d]).head? = some 48 := by
            cases l' with
            | nil => exact absurd rfl hl
            | cons x r => simpa using e
          have h2 := congrArg List.length (h0 h1)
          simp at h2
          exact hl h2
        have ih := dec_back k l' (by simp at hk; omega) (fun c hc => hd c (by simp [hc])) hl (fun e => absurd e hh)
        have hv : 1 ≤ valD 0 l' := by
          rcases Nat.eq_zero_or_pos (valD 0 l') with e | e
          · rw [e, decDigits_one (by omega)] at ih
            exact absurd (by rw [← ih]; rfl) hh
          · exact e
        rw [decDigits, dif_neg (by omega), show (valD 0 l' * 10 + (d.toNat - 48)) / 10 = valD 0 l' from by omega, show (valD 0 l' * 10 + (d.toNat - 48)) % 10 = d.toNat - 48 from by omega, ih, hof]
theorem parse_ok {M : Nat} : ∀ (l : List UInt8) (acc n : Nat), parseUintM M acc l = .ok n → (∀ c ∈ l, isDig c) ∧ n = valD acc l
  | [], acc, n, h => ⟨fun _ hc => (by cases hc), (by simp only [parseUintM] at h; injection h with h; exact h.symm)⟩
  | c :: r, acc, n, h => by
    simp only [parseUintM] at h
    split at h
    · rename_i hc
      split at h
      · cases h
      · split at h
        · cases h
        · obtain ⟨h1, h2⟩ := parse_ok r _ n h
          exact ⟨fun x hx => by
            rcases List.mem_cons.1 hx with rfl | hx
            · exact hc
            · exact h1 x hx, h2⟩
    · cases h
theorem parse_val : ∀ (l : List UInt8) (acc : Nat), (∀ c ∈ l, isDig c) → valD acc l ≤ 18446744073709551615 → parseUintM 18446744073709551615 acc l = .ok (valD acc l)
  | [], acc, _, _ => rfl
  | c :: r, acc, hd, hv => by
    have hc := hd c (List.mem_cons_self ..)
    have h1 : valD (acc * 10 + (c.toNat - 48)) r ≤ 18446744073709551615 := hv
    have h2 := valD_ge r (acc * 10 + (c.toNat - 48))
    simp only [parseUintM]
    rw [if_pos (show 48 ≤ c.toNat ∧ c.toNat ≤ 57 from hc), if_neg (by omega), if_neg (by omega)]
    exact parse_val r _ (fun x hx => hd x (List.mem_cons_of_mem _ hx)) h1
theorem parse_dec (m : Nat) (hm : m < 18446744073709551616) : parseUintB 64 (decDigits m) = .ok m := by
  unfold parseUintB
  rw [if_neg (dec_ne m)]
  have h := parse_val (decDigits m) 0 (dec_digits m) (by rw [dec_val]; omega)
  rw [dec_val] at h
  exact h
theorem index_at (a r : List UInt8) (b : UInt8) (q : List UInt8) (h : b ∉ a) : index (a ++ ((b :: q) ++ r)) (b :: q) = a.length := by
  induction a with
  | nil =>
    show index (b :: (q ++ r)) (b :: q) = _
    rw [index, if_pos]
    · rfl
    · simp [List.isPrefixOf, List.isPrefixOf_iff_prefix]
  | cons x a ih =>
    have hx : b ≠ x := fun e => h (by rw [e]; exact List.mem_cons_self ..)
    have ih' := ih (fun hb => h (List.mem_cons_of_mem _ hb))
    show index (x :: (a ++ ((b :: q) ++ r))) (b :: q) = _
    rw [index, if_neg, ih', if_neg]
    · simp
    · simp
    · simp [List.isPrefixOf, hx]
theorem cut_first (a r : List UInt8) (b : UInt8) (q : List UInt8) (h : b ∉ a) : cut (a ++ ((b :: q) ++ r)) (b :: q) = (a, r, true) := by
  unfold cut
  rw [index_at a r b q h, if_pos (by omega)]
  have : ((a.length : Int)).toNat = a.length := by simp
  rw [this, List.take_left]
  congr 2
  rw [show a ++ ((b :: q) ++ r) = (a ++ (b :: q)) ++ r from by simp, show a.length + (b :: q).length = (a ++ (b :: q)).length from by simp, List.drop_left]
theorem cut_true {s sep : List UInt8} (h : (cut s sep).2.2 = true) : s = (cut s sep).1 ++ (sep ++ (cut s sep).2.1) := by
  unfold cut at h ⊢
  split
  · rename_i hi
    rcases index_spec s sep with ⟨he, _⟩ | ⟨i, he, hle, ho, _⟩
    · omega
    · rw [he]
      have : ((i : Int)).toNat = i := by simp
      rw [this]
      unfold occAt at ho
      obtain ⟨r, hr⟩ := List.isPrefixOf_iff_prefix.1 ho
      show s = s.take i ++ (sep ++ s.drop (i + sep.length))
      conv => lhs; rw [← List.take_append_drop i s]
      rw [← List.drop_drop, ← hr, List.drop_left]
  · rename_i hi
    rw [if_neg hi] at h
    cases h
theorem not46 : ¬ isDig 46 := by unfold isDig; decide
theorem not58 : ¬ isDig 58 := by unfold isDig; decide
end Go.Proofs.YtpedmebigcchnaaGreatDoor
