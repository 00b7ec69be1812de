import Derived.Test.YtknnpgffdbkfnaaSpecFrame
import Derived.Test.YtknnpgffdbkfnaaUnfMem
namespace Go.Proofs.Ytknnpgffdbkfnaa
open Go.RowKit
theorem l2Frame_n (n : Nat) (a : Option Addr) (cap : Nat) (r : List Nat) (hn : n = r.length) (w : World) (h1 : 1 ≤ r.length) (h2 : r.length ≤ 2000) (hr : RowAt w a r) (hb : ∀ x ∈ r, x < 256) :
    Calls Try.prog 27 #[.slice a n cap] w fun e w' => ∃ v, e = .returned v ∧ OwnB w' w.heap.size v (frameB r) ∧ Below w.heap.size w w' := by
  subst hn; exact l2Frame_any a cap r w h1 h2 hr hb
theorem l1Bytes_n (n : Nat) (a : Option Addr) (cap : Nat) (l : List Nat) (hn : n = l.length) (w : World) (hl : l.length ≤ 1048576) (hr : RowAt w a l) :
    Calls Try.prog 44 #[.slice a n cap] w fun e w' => e = .returned (.slice (some ⟨w.heap.size, 0, none⟩) l.length l.length) ∧ OwnB w' w.heap.size (.slice (some ⟨w.heap.size, 0, none⟩) l.length l.length) l ∧ Below w.heap.size w w' := by
  subst hn; exact l1Bytes_any a cap l w hl hr
theorem l2First_short (b off cap : Nat) (d : List Nat) (w : World) (hl : d.length < 6) :
    Calls Try.prog 29 #[.slice (some ⟨b, off, none⟩) d.length cap] w fun e w' => e = .returned (.tuple #[.slice none 0 0, .bool false]) ∧ Below w.heap.size w w' := by
  go_enter Try.func29, Try.ntmps29
  go_wp2
  go_ret2
  exact ⟨rfl, Below.refl _ _⟩
theorem l2First_bad (b off cap : Nat) (d : List Nat) (w : World) (hl : 6 ≤ d.length) (hl4 : d.length ≤ 40000) (hr : RowAt w (some ⟨b, off, none⟩) d) (hb : ∀ x ∈ d, x < 256) (h : len2 d < 1 ∨ 2000 < len2 d ∨ d.length < 6 + len2 d) :
    Calls Try.prog 29 #[.slice (some ⟨b, off, none⟩) d.length cap] w fun e w' => e = .returned (.tuple #[.slice none 0 0, .bool false]) ∧ Below w.heap.size w w' := by
  have c0 : w.cell? ⟨b, off, none⟩ = some (.int .u8 ((d.getD 0 0 : Nat) : Int)) := hr.at 0 (by omega)
  have c1 := hr.at 1 (by omega)
  have x0l : d.getD 0 0 < 256 := getD_lt hb 0
  have x1l : d.getD 1 0 < 256 := getD_lt hb 1
  have i0 : (0 : Int) < (d.length : Int) := by omega
  have i1 : (1 : Int) < (d.length : Int) := by omega
  have HL : Hid (((d.getD 0 0 : Nat) : Int) * 256 + ((d.getD 1 0 : Nat) : Int) = ((len2 d : Nat) : Int)) := by show _ = _; simp [len2]
  generalize len2 d = n at h HL
  generalize d.getD 0 0 = x0 at c0 HL x0l
  generalize d.getD 1 0 = x1 at c1 HL x1l
  clear hr hb
  go_enter Try.func29, Try.ntmps29
  go_wp2
  go_quiet (fail)
  rw [HL.out]
  clear c0 c1
  by_cases k1 : n < 1
  · go_wp2
    go_ret2
    exact ⟨rfl, below_drewN (Below.refl _ _) _⟩
  by_cases k2 : 2000 < n
  · go_wp2
    go_ret2
    exact ⟨rfl, below_drewN (Below.refl _ _) _⟩
  · have k3 : d.length < 6 + n := by omega
    clear h
    go_wp2
    go_ret2
    exact ⟨rfl, below_drewN (Below.refl _ _) _⟩
theorem l2First_good (b off cap : Nat) (d : List Nat) (w : World) (hl : 6 ≤ d.length) (hl4 : d.length ≤ 40000) (hcap : d.length ≤ cap) (hr : RowAt w (some ⟨b, off, none⟩) d) (hb : ∀ x ∈ d, x < 256) (h1 : 1 ≤ len2 d) (h2 : len2 d ≤ 2000) (h3 : 6 + len2 d ≤ d.length) :
    Calls Try.prog 29 #[.slice (some ⟨b, off, none⟩) d.length cap] w fun e w' => Below w.heap.size w w' ∧ ((frameB ((d.drop 6).take (len2 d)) = d.take (6 + len2 d) ∧ ∃ v, e = .returned (.tuple #[v, .bool true]) ∧ OwnB w' w.heap.size v ((d.drop 6).take (len2 d))) ∨ (¬ frameB ((d.drop 6).take (len2 d)) = d.take (6 + len2 d) ∧ e = .returned (.tuple #[.slice none 0 0, .bool false]))) := by
  have c0 : w.cell? ⟨b, off, none⟩ = some (.int .u8 ((d.getD 0 0 : Nat) : Int)) := hr.at 0 (by omega)
  have c1 := hr.at 1 (by omega)
  have x0l : d.getD 0 0 < 256 := getD_lt hb 0
  have x1l : d.getD 1 0 < 256 := getD_lt hb 1
  have i0 : (0 : Int) < (d.length : Int) := by omega
  have i1 : (1 : Int) < (d.length : Int) := by omega
  have HL : Hid (((d.getD 0 0 : Nat) : Int) * 256 + ((d.getD 1 0 : Nat) : Int) = ((len2 d : Nat) : Int)) := by show _ = _; simp [len2]
  generalize len2 d = n at h1 h2 h3 HL ⊢
  generalize d.getD 0 0 = x0 at c0 HL x0l
  generalize d.getD 1 0 = x1 at c1 HL x1l
  have hRn : ((d.drop 6).take n).length = n := by simp; omega
  have hRb : ∀ x ∈ (d.drop 6).take n, x < 256 := fun x hx => hb x (List.mem_of_mem_drop (List.mem_of_mem_take hx))
  have hRr : RowAt w (some ⟨b, off + 6, none⟩) ((d.drop 6).take n) := (hr.drop 6).take n
  have HFL := hide (frameB_length ((d.drop 6).take n))
  generalize (d.drop 6).take n = R at hRn hRb hRr HFL ⊢
  have HR := hide hRn
  clear hRn
  go_enter Try.func29, Try.ntmps29
  go_wp2
  go_quiet (fail)
  rw [HL.out]
  clear c0 c1
  go_wp2_with fail
  refine (l2Frame_n n (some ⟨b, off + 6, none⟩) (cap - 6) R (unhide HR).symm (w.drewN nq) (by have := unhide HR; omega) (by have := unhide HR; omega) hRr hRb).mono ?_
  rintro e w2 ⟨v2, rfl, ho2, hb2⟩
  obtain ⟨a2, c2, rfl⟩ := ho2.slice
  have hw2 : Below w.heap.size w w2 := (below_drewN (Below.refl w.heap.size w) nq).trans hb2
  have ho2' : OwnB w2 w.heap.size (.slice a2 (frameB R).length c2) (frameB R) := ho2
  have hfl : (frameB R).length ≤ 40000 := by have := unhide HFL; have := unhide HR; omega
  clear ho2 hb2
  go_wp2
  go_loopw [42] (fun i wr => ∃ k : Nat, k ≤ (frameB R).length ∧ i = .int .i64 k ∧ (frameB R).take k = d.take k ∧ OwnB wr w.heap.size (.slice a2 (frameB R).length c2) (frameB R) ∧ Below w.heap.size w wr) (fun i _ => (frameB R).length - (intOf i).toNat)
  case atStart => exact ⟨0, Nat.zero_le _, rfl, rfl, ho2', hw2⟩
  case round =>
    obtain ⟨k, hk, rfl, htk, how, hnx⟩ := hrel
    clear ho2' hw2
    have HT := hide htk
    clear htk
    by_cases hlt : k < (frameB R).length
    · have hkd : k < d.length := by have := unhide HFL; have := unhide HR; omega
      obtain ⟨b2, off2, rfl, hc2⟩ := how.row (by omega)
      have hck := hc2 k hlt
      have hcd := (hr.below hnx).at k hkd
      have hcd' : wr.cell? ⟨b, off + k, none⟩ = some (.int .u8 ((d[k] : Nat) : Int)) := by rw [hcd]; simp [hkd]
      have ikd : (k : Int) < (d.length : Int) := by omega
      have HO := hide how
      have HN := hide hnx
      clear hc2 hcd how hnx hr hRr
      by_cases hx : (frameB R)[k] = d[k]
      · have hxe : ((((frameB R)[k] : Nat) : Int) != ((d[k] : Nat) : Int)) = false := by simp [hx]
        have HX := hide hx
        clear hx
        go_wp2
        go_quiet (fail)
        go_wp2
        go_roundw
        case rel => exact ⟨k + 1, by omega, by go_num, take_eq_succ hlt hkd (unhide HT) (unhide HX), unhide HO, below_drewN (unhide HN) _⟩
        case measure => simp [intOf]; omega
      · have hxe : ((((frameB R)[k] : Nat) : Int) != ((d[k] : Nat) : Int)) = true := by simp; omega
        have HX := hide hx
        clear hx
        go_wp2
        go_quiet (fail)
        go_wp2
        go_ret2
        refine ⟨below_drewN (unhide HN) _, .inr ⟨fun h => unhide HX ?_, rfl⟩⟩
        have hk2 : k < 6 + n := by have := unhide HFL; have := unhide HR; omega
        have e1 : (frameB R)[k]? = some d[k] := by rw [h, List.getElem?_take, if_pos hk2, List.getElem?_eq_getElem hkd]
        rw [List.getElem?_eq_getElem hlt] at e1
        simpa using e1
    · have he : frameB R = d.take (6 + n) := by
        have hkk : k = 6 + n := by have := unhide HFL; have := unhide HR; omega
        have h1' : (frameB R).take k = frameB R := List.take_of_length_le (by omega)
        rw [← h1', unhide HT, hkk]
      have HE := hide he
      clear he
      go_wp2_with fail
      refine (l1Bytes_n n (some ⟨b, off + 6, none⟩) (cap - 6) R (unhide HR).symm wr (by have := unhide HR; omega) (hRr.below hnx)).mono ?_
      rintro e w4 ⟨rfl, ho4, hb4⟩
      have hs4 := hnx.size
      go_wp2
      go_ret2
      exact ⟨hnx.trans (hb4.mono hs4), .inl ⟨unhide HE, _, rfl, ho4.mono hs4⟩⟩
theorem l2First_any (b off cap : Nat) (d : List Nat) (w : World) (hl4 : d.length ≤ 40000) (hcap : d.length ≤ cap) (hr : RowAt w (some ⟨b, off, none⟩) d) (hb : ∀ x ∈ d, x < 256) :
    Calls Try.prog 29 #[.slice (some ⟨b, off, none⟩) d.length cap] w fun e w' => Below w.heap.size w w' ∧ ((∃ r v, firstOf d = some r ∧ e = .returned (.tuple #[v, .bool true]) ∧ OwnB w' w.heap.size v r) ∨ (firstOf d = none ∧ e = .returned (.tuple #[.slice none 0 0, .bool false]))) := by
  by_cases h0 : d.length < 6
  · refine (l2First_short b off cap d w h0).mono fun e w' ⟨he, hb'⟩ => ⟨hb', .inr ⟨firstOf_short h0, he⟩⟩
  by_cases h1 : len2 d < 1 ∨ 2000 < len2 d ∨ d.length < 6 + len2 d
  · refine (l2First_bad b off cap d w (by omega) hl4 hr hb h1).mono fun e w' ⟨he, hb'⟩ => ⟨hb', .inr ⟨firstOf_bad h0 h1, he⟩⟩
  · refine (l2First_good b off cap d w (by omega) hl4 hcap hr hb (by omega) (by omega) (by omega)).mono fun e w' ⟨hb', h⟩ => ⟨hb', ?_⟩
    rcases h with ⟨hf, v, he, ho⟩ | ⟨hf, he⟩
    · exact .inl ⟨_, v, firstOf_yes h0 h1 hf, he, ho⟩
    · exact .inr ⟨firstOf_no h0 h1 hf, he⟩
end Go.Proofs.Ytknnpgffdbkfnaa
