import Derived.Test.YtledlicandlekaaDoorPka
import Derived.Test.YtledlicandlekaaDoorPkb
import Derived.Test.YtledlicandlekaaDoorShelf
import Derived.Lib.AtoiErrMem
namespace Go.Proofs.YtledlicandlekaaDoor
open Go.RowKit
theorem var_below {w w' : World} {name : String} {cs : Array Value} (h : w.var? Tryd.prog name = some cs) (hb : Below w.heap.size w w') : w'.var? Tryd.prog name = some cs := by
  unfold World.var? at *
  cases hg : Tryd.prog.globalNamed name with
  | none => simp [hg] at h
  | some g =>
    simp only [hg, Option.bind_some] at h ⊢
    have hlt : g < w.heap.size := by
      rcases Nat.lt_or_ge g w.heap.size with h' | h'
      · exact h'
      · rw [Array.getElem?_eq_none h'] at h; simp at h
    rw [hb.block g hlt]
    exact h
/-- What the library's functions read of the world. -/
structure Env (w : World) : Prop where
  max : ∃ m, w.cell? ⟨0, 0, none⟩ = some (.int .i64 m)
  syn : ∃ tp p, w.var? Tryd.prog "strconv.ErrSyntax" = some #[.iface tp p]
  rng : ∃ tp p, w.var? Tryd.prog "strconv.ErrRange" = some #[.iface tp p]
theorem Env.below {w w' : World} (h : Env w) (hb : Below w.heap.size w w') : Env w' := by
  obtain ⟨⟨m, hm⟩, ⟨t1, p1, h1⟩, ⟨t2, p2, h2⟩⟩ := h
  exact ⟨⟨m, (hb.cell (p := ⟨0, 0, none⟩) (lt_of_cell0 hm)).trans hm⟩, ⟨t1, p1, var_below h1 hb⟩, ⟨t2, p2, var_below h2 hb⟩⟩
theorem dec_head {m : Nat} (h : (Lib.decDigits m).head? = some 48) : m = 0 := by
  induction m using Nat.strongRecOn with
  | _ m ih =>
    by_cases h10 : m < 10
    · rw [Lib.decDigits_one h10] at h
      simp only [List.head?_cons, Option.some.injEq] at h
      have := dig_of m h10
      rw [h] at this
      have h48 : (48 : UInt8).toNat = 48 := rfl
      omega
    · rw [Lib.decDigits, dif_neg h10] at h
      have h' : (Lib.decDigits (m / 10)).head? = some 48 := by
        cases e : Lib.decDigits (m / 10) with
        | nil => exact absurd e (dec_ne _)
        | cons x r => rw [e] at h; simpa using h
      have := ih (m / 10) (by omega) h'
      omega
/-- What readDecimal answers. -/
def RdIs (t : List UInt8) (lo hi n : Nat) (ok : Bool) : Prop := (ok = true ∧ t = Lib.decDigits n ∧ lo ≤ n ∧ n ≤ hi) ∨ (ok = false ∧ n = 0 ∧ ∀ m, lo ≤ m → m ≤ hi → t ≠ Lib.decDigits m)
def RdPost (s : ByteArray) (lo hi : Nat) (w : World) (e : Ending) (w' : World) : Prop := ∃ (n : Nat) (ok : Bool), e = .returned (.tuple #[.int .u64 (n : Int), .bool ok]) ∧ RdIs s.data.toList lo hi n ok ∧ Below w.heap.size w w'
theorem rd_bad {t : List UInt8} {lo hi : Nat} (hhi : hi < 18446744073709551616) (h : ∀ m, Lib.parseUintB 64 t ≠ .ok m) : RdIs t lo hi 0 false := Or.inr ⟨rfl, rfl, fun m _ h2 e => h m (by rw [e]; exact parse_dec m (by omega))⟩
theorem rd_out {t : List UInt8} {lo hi n : Nat} (hhi : hi < 18446744073709551616) (h : Lib.parseUintB 64 t = .ok n) (hn : n < lo ∨ hi < n ∨ (t.head? = some 48 ∧ t ≠ [48])) : RdIs t lo hi 0 false := Or.inr ⟨rfl, rfl, fun m h1 h2 e => by
  rw [e, parse_dec m (by omega)] at h
  injection h with h
  rcases hn with hn | hn | ⟨hn, hne⟩
  · omega
  · omega
  · have := dec_head (e ▸ hn)
    rw [this, Lib.decDigits_one (by omega)] at e
    exact hne e⟩
theorem parse_ne {t : List UInt8} {n : Nat} (h : Lib.parseUintB 64 t = .ok n) : t ≠ [] := by
  rintro rfl
  unfold Lib.parseUintB at h
  rw [if_pos rfl] at h
  cases h
theorem rd_in {t : List UInt8} {lo hi n : Nat} (h : Lib.parseUintB 64 t = .ok n) (h1 : lo ≤ n) (h2 : n ≤ hi) (h3 : t.head? = some 48 → t = [48]) : RdIs t lo hi n true := by
  have hne := parse_ne h
  unfold Lib.parseUintB at h
  rw [if_neg hne] at h
  obtain ⟨hd, hv⟩ := parse_ok t 0 n h
  exact Or.inl ⟨rfl, by rw [hv]; exact (dec_back t.length t (Nat.le_refl _) hd hne h3).symm, h1, h2⟩
set_option maxRecDepth 20000 in
theorem readDecimal_any (s : ByteArray) (lo hi : Nat) (w : World) (hE : Env w) (hs : s.size ≤ 1048576) (hhi : hi < 18446744073709551616) :
    Calls Tryd.prog 62 #[.string s, .int .u64 (lo : Int), .int .u64 (hi : Int)] w (RdPost s lo hi w) := by
  go_enter Tryd.func62, Tryd.ntmps62
  go_wp2_with fail
  cases hpar : Lib.parseUintB 64 s.data.toList with
  | «syntax» =>
    obtain ⟨tp, p, hv⟩ := hE.syn
    refine (Tryd.strconv_ParseUint_10_at64_syntax_var s (by omega) hpar tp p w hv).mono ?_
    rintro e w1 ⟨N, rfl, _, _, hb⟩
    have HA := hide (rd_bad (lo := lo) hhi (t := s.data.toList) (fun m h => by rw [hpar] at h; cases h))
    go_wp2
    go_ret2
    exact ⟨0, false, rfl, HA.out, hb⟩
  | range =>
    obtain ⟨tp, p, hv⟩ := hE.rng
    refine (Tryd.strconv_ParseUint_10_at64_range_var s (by omega) hpar tp p w hv).mono ?_
    rintro e w1 ⟨N, rfl, _, _, hb⟩
    have HA := hide (rd_bad (lo := lo) hhi (t := s.data.toList) (fun m h => by rw [hpar] at h; cases h))
    go_wp2
    go_ret2
    exact ⟨0, false, rfl, HA.out, hb⟩
  | ok n =>
    refine (Tryd.strconv_ParseUint_10_at64_ok s (by omega) n hpar w).mono ?_
    rintro e w1 ⟨rfl, hw1⟩
    have hb : Below w.heap.size w w1 := by
      rcases hw1 with rfl | rfl
      · exact Below.refl _ _
      · exact Lib.bytesWorld_below w 5 s
    have HP := hide hpar
    have h0 : 0 < s.size := by
      rcases Nat.eq_zero_or_pos s.size with h | h
      · exact absurd (List.eq_nil_of_length_eq_zero h) (parse_ne hpar)
      · exact h
    clear hw1 hpar hE
    by_cases h1 : n < lo
    · have h1' : (n : Int) < (lo : Int) := by omega
      have HA := hide (rd_out (lo := lo) hhi HP.out (Or.inl h1))
      go_wp2
      go_ret2
      exact ⟨0, false, rfl, HA.out, hb⟩
    · have h1' : ¬ (n : Int) < (lo : Int) := by omega
      by_cases h2 : hi < n
      · have h2' : (hi : Int) < (n : Int) := by omega
        have HA := hide (rd_out (lo := lo) hhi HP.out (Or.inr (Or.inl h2)))
        go_wp2
        go_ret2
        exact ⟨0, false, rfl, HA.out, hb⟩
      · have h2' : ¬ (hi : Int) < (n : Int) := by omega
        have hhd : s.data.toList.head? = some s[0] := by
          rw [List.head?_eq_getElem?, List.getElem?_eq_getElem (h := h0)]
          rfl
        by_cases h3 : s[0] = 48
        · have h3' : ((s[0].toNat : Int) == 48) = true := by rw [h3]; rfl
          by_cases h4 : s.data.toList = [48]
          · have h4' : (s.toList == [48]) = true := by rw [ByteArray.toList_eq, h4]; rfl
            have HA := hide (rd_in HP.out (by omega : lo ≤ n) (by omega : n ≤ hi) (fun _ => h4))
            go_wp2
            go_ret2
            exact ⟨n, true, rfl, HA.out, hb⟩
          · have h4' : (s.toList == [48]) = false := by rw [ByteArray.toList_eq]; exact beq_eq_false_iff_ne.2 h4
            have HA := hide (rd_out (lo := lo) hhi HP.out (Or.inr (Or.inr ⟨by rw [hhd, h3], h4⟩)))
            go_wp2
            go_ret2
            exact ⟨0, false, rfl, HA.out, hb⟩
        · have h3' : ((s[0].toNat : Int) == 48) = false := by
            have : s[0].toNat ≠ (48 : UInt8).toNat := fun e => h3 (UInt8.toNat_inj.1 e)
            have h48 : (48 : UInt8).toNat = 48 := rfl
            simp; omega
          have HA := hide (rd_in HP.out (by omega : lo ≤ n) (by omega : n ≤ hi) (fun e => absurd (Option.some.inj (hhd.symm.trans e)) h3))
          go_wp2
          go_ret2
          exact ⟨n, true, rfl, HA.out, hb⟩
end Go.Proofs.YtledlicandlekaaDoor
