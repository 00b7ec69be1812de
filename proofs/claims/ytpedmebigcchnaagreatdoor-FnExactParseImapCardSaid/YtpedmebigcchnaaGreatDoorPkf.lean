import Derived.Test.YtpedmebigcchnaaGreatDoorPke
import Derived.Test.YtpedmebigcchnaaGreatDoorShelf
import Derived.Test.YtpedmebigcchnaaGreatDoorPka
import Derived.Test.YtpedmebigcchnaaGreatDoorPkd
import Derived.Lib.AtoiErrMem
import Derived.Lib.SplitLaws
import Derived.Lib.IndexBytes
import Derived.Lib.IndexLaws
import Derived.Lib.CountLaws
import Derived.Lib.ConvBytes
namespace Go.Proofs.YtpedmebigcchnaaGreatDoor
open Go.RowKit
theorem var_below {w w' : World} {name : String} {cs : Array Value} (h : w.var? Tryz.prog name = some cs) (hb : Below w.heap.size w w') : w'.var? Tryz.prog name = some cs := by
  unfold World.var? at *
  cases hg : Tryz.prog.globalNamed name with
  | none => simp [hg] at h
  | some g =>
    simp only [hg, Option.bind_some] at h ⊢
    have hlt : g < w.heap.size := by
      rcases Nat.lt_or_ge g w.heap.size with h' | h'
      · exact h'
      · rw [Array.getElem?_eq_none h'] at h; simp at h
    rw [hb.block g hlt]
    exact h
/-- What the library's functions read of the world. -/
structure Env (w : World) : Prop where
  max : ∃ m, w.cell? ⟨0, 0, none⟩ = some (.int .i64 m)
  syn : ∃ tp p, w.var? Tryz.prog "strconv.ErrSyntax" = some #[.iface tp p]
  rng : ∃ tp p, w.var? Tryz.prog "strconv.ErrRange" = some #[.iface tp p]
theorem Env.below {w w' : World} (h : Env w) (hb : Below w.heap.size w w') : Env w' := by
  obtain ⟨⟨m, hm⟩, ⟨t1, p1, h1⟩, ⟨t2, p2, h2⟩⟩ := h
  exact ⟨⟨m, (hb.cell (p := ⟨0, 0, none⟩) (lt_of_cell0 hm)).trans hm⟩, ⟨t1, p1, var_below h1 hb⟩, ⟨t2, p2, var_below h2 hb⟩⟩
theorem dec_head {m : Nat} (h : (Lib.decDigits m).head? = some 48) : m = 0 := by
  induction m using Nat.strongRecOn with
  | _ m ih =>
    by_cases h10 : m < 10
    · rw [Lib.decDigits_one h10] at h
      simp only [List.head?_cons, Option.some.injEq] at h
      have := dig_of m h10
      rw [h] at this
      have h48 : (48 : UInt8).toNat = 48 := rfl
      omega
    · rw [Lib.decDigits, dif_neg h10] at h
      have h' : (Lib.decDigits (m / 10)).head? = some 48 := by
        cases e : Lib.decDigits (m / 10) with
        | nil => exact absurd e (dec_ne _)
        | cons x r => rw [e] at h; simpa using h
      have := ih (m / 10) (by omega) h'
      omega
/-- What readDecimal answers. -/
def RdIs (t : List UInt8) (lo hi n : Nat) (ok : Bool) : Prop := (ok = true ∧ t = Lib.decDigits n ∧ lo ≤ n ∧ n ≤ hi) ∨ (ok = false ∧ n = 0 ∧ ∀ m, lo ≤ m → m ≤ hi → t ≠ Lib.decDigits m)
def RdPost (s : ByteArray) (lo hi : Nat) (w : World) (e : Ending) (w' : World) : Prop := ∃ (n : Nat) (ok : Bool), e = .returned (.tuple #[.int .u64 (n : Int), .bool ok]) ∧ RdIs s.data.toList lo hi n ok ∧ Below w.heap.size w w'
theorem rd_bad {t : List UInt8} {lo hi : Nat} (hhi : hi < 18446744073709551616) (h : ∀ m, Lib.parseUintB 64 t ≠ .ok m) : RdIs t lo hi 0 false := Or.inr ⟨rfl, rfl, fun m _ h2 e => h m (by rw [e]; exact parse_dec m (by omega))⟩
theorem rd_out {t : List UInt8} {lo hi n : Nat} (hhi : hi < 18446744073709551616) (h : Lib.parseUintB 64 t = .ok n) (hn : n < lo ∨ hi < n ∨ (t.head? = some 48 ∧ t ≠ [48])) : RdIs t lo hi 0 false := Or.inr ⟨rfl, rfl, fun m h1 h2 e => by
  rw [e, parse_dec m (by omega)] at h
  injection h with h
  rcases hn with hn | hn | ⟨hn, hne⟩
  · omega
  · omega
  · have := dec_head (e ▸ hn)
    rw [this, Lib.decDigits_one (by omega)] at e
    exact hne e⟩
theorem parse_ne {t : List UInt8} {n : Nat} (h : Lib.parseUintB 64 t = .ok n) : t ≠ [] := by
  rintro rfl
  unfold Lib.parseUintB at h
  rw [if_pos rfl] at h
  cases h
theorem rd_in {t : List UInt8} {lo hi n : Nat} (h : Lib.parseUintB 64 t = .ok n) (h1 : lo ≤ n) (h2 : n ≤ hi) (h3 : t.head? = some 48 → t = [48]) : RdIs t lo hi n true := by
  have hne := parse_ne h
  unfold Lib.parseUintB at h
  rw [if_neg hne] at h
  obtain ⟨hd, hv⟩ := parse_ok t 0 n h
  exact Or.inl ⟨rfl, by rw [hv]; exact (dec_back t.length t (Nat.le_refl _) hd hne h3).symm, h1, h2⟩
set_option maxRecDepth 20000 in
theorem readDecimal_any (s : ByteArray) (lo hi : Nat) (w : World) (hE : Env w) (hs : s.size ≤ 1048576) (hhi : hi < 18446744073709551616) :
    Calls Tryz.prog 93 #[.string s, .int .u64 (lo : Int), .int .u64 (hi : Int)] w (RdPost s lo hi w) := by
  go_enter Tryz.func93, Tryz.ntmps93
  go_wp2_with fail
  cases hpar : Lib.parseUintB 64 s.data.toList with
  | «syntax» =>
    obtain ⟨tp, p, hv⟩ := hE.syn
    refine (Tryz.strconv_ParseUint_10_at64_syntax_var s (by omega) hpar tp p w hv).mono ?_
    rintro e w1 ⟨N, rfl, _, _, hb⟩
    have HA := hide (rd_bad (lo := lo) hhi (t := s.data.toList) (fun m h => by rw [hpar] at h; cases h))
    go_wp2
    go_ret2
    exact ⟨0, false, rfl, HA.out, hb⟩
  | range =>
    obtain ⟨tp, p, hv⟩ := hE.rng
    refine (Tryz.strconv_ParseUint_10_at64_range_var s (by omega) hpar tp p w hv).mono ?_
    rintro e w1 ⟨N, rfl, _, _, hb⟩
    have HA := hide (rd_bad (lo := lo) hhi (t := s.data.toList) (fun m h => by rw [hpar] at h; cases h))
    go_wp2
    go_ret2
    exact ⟨0, false, rfl, HA.out, hb⟩
  | ok n =>
    refine (Tryz.strconv_ParseUint_10_at64_ok s (by omega) n hpar w).mono ?_
    rintro e w1 ⟨rfl, hw1⟩
    have hb : Below w.heap.size w w1 := by
      rcases hw1 with rfl | rfl
      · exact Below.refl _ _
      · exact Lib.bytesWorld_below w 5 s
    have HP := hide hpar
    have h0 : 0 < s.size := by
      rcases Nat.eq_zero_or_pos s.size with h | h
      · exact absurd (List.eq_nil_of_length_eq_zero h) (parse_ne hpar)
      · exact h
    clear hw1 hpar hE
    by_cases h1 : n < lo
    · have h1' : (n : Int) < (lo : Int) := by omega
      have HA := hide (rd_out (lo := lo) hhi HP.out (Or.inl h1))
      go_wp2
      go_ret2
      exact ⟨0, false, rfl, HA.out, hb⟩
    · have h1' : ¬ (n : Int) < (lo : Int) := by omega
      by_cases h2 : hi < n
      · have h2' : (hi : Int) < (n : Int) := by omega
        have HA := hide (rd_out (lo := lo) hhi HP.out (Or.inr (Or.inl h2)))
        go_wp2
        go_ret2
        exact ⟨0, false, rfl, HA.out, hb⟩
      · have h2' : ¬ (hi : Int) < (n : Int) := by omega
        have hhd : s.data.toList.head? = some s[0] := by
          rw [List.head?_eq_getElem?, List.getElem?_eq_getElem (h := h0)]
          rfl
        by_cases h3 : s[0] = 48
        · have h3' : ((s[0].toNat : Int) == 48) = true := by rw [h3]; rfl
          by_cases h4 : s.data.toList = [48]
          · have h4' : (s.toList == [48]) = true := by rw [ByteArray.toList_eq, h4]; rfl
            have HA := hide (rd_in HP.out (by omega : lo ≤ n) (by omega : n ≤ hi) (fun _ => h4))
            go_wp2
            go_ret2
            exact ⟨n, true, rfl, HA.out, hb⟩
          · have h4' : (s.toList == [48]) = false := by rw [ByteArray.toList_eq]; exact beq_eq_false_iff_ne.2 h4
            have HA := hide (rd_out (lo := lo) hhi HP.out (Or.inr (Or.inr ⟨by rw [hhd, h3], h4⟩)))
            go_wp2
            go_ret2
            exact ⟨0, false, rfl, HA.out, hb⟩
        · have h3' : ((s[0].toNat : Int) == 48) = false := by
            have : s[0].toNat ≠ (48 : UInt8).toNat := fun e => h3 (UInt8.toNat_inj.1 e)
            have h48 : (48 : UInt8).toNat = 48 := rfl
            simp; omega
          have HA := hide (rd_in HP.out (by omega : lo ≤ n) (by omega : n ≤ hi) (fun e => absurd (Option.some.inj (hhd.symm.trans e)) h3))
          go_wp2
          go_ret2
          exact ⟨n, true, rfl, HA.out, hb⟩
end Go.Proofs.YtpedmebigcchnaaGreatDoor
namespace Go.Proofs.YtpedmebigcchnaaGreatDoor
open Go.RowKit
/-- A text cut at each of a byte. -/
def splitOf (b : UInt8) : List UInt8 → List (List UInt8)
  | [] => [[]]
  | x :: r => if x = b then [] :: splitOf b r else
    match splitOf b r with
    | w :: ws => (x :: w) :: ws
    | [] => [[x]]
theorem splitOf_ne (b : UInt8) (t : List UInt8) : splitOf b t ≠ [] := by
  cases t with
  | nil => simp [splitOf]
  | cons x r =>
    rw [splitOf]
    split
    · simp
    · split <;> simp
theorem splitOf_no {b : UInt8} : ∀ {t : List UInt8}, b ∉ t → splitOf b t = [t]
  | [], _ => rfl
  | x :: r, h => by
    have h1 : x ≠ b := fun e => h (by rw [e]; exact List.mem_cons_self)
    rw [splitOf, if_neg h1, splitOf_no (fun hm => h (List.mem_cons_of_mem _ hm))]
theorem splitOf_at {b : UInt8} {c : List UInt8} : ∀ {a : List UInt8}, b ∉ a → splitOf b (a ++ b :: c) = a :: splitOf b c
  | [], _ => by rw [List.nil_append, splitOf, if_pos rfl]
  | x :: r, h => by
    have h1 : x ≠ b := fun e => h (by rw [e]; exact List.mem_cons_self)
    rw [List.cons_append, splitOf, if_neg h1, splitOf_at (fun hm => h (List.mem_cons_of_mem _ hm))]
theorem splitOf_len (b : UInt8) (t : List UInt8) : (splitOf b t).length ≤ t.length + 1 := by
  induction t with
  | nil => simp [splitOf]
  | cons x r ih =>
    rw [splitOf]
    split
    · simp; omega
    · split
      · next h => rw [h] at ih; simp at ih ⊢; omega
      · simp
theorem splitOf_mem {b : UInt8} : ∀ {t w : List UInt8}, w ∈ splitOf b t → w.length ≤ t.length
  | [], w, h => by simp [splitOf] at h; simp [h]
  | x :: r, w, h => by
    rw [splitOf] at h
    split at h
    · rcases List.mem_cons.1 h with rfl | h
      · simp
      · have := splitOf_mem h; simp; omega
    · split at h
      · next w0 ws e =>
        rcases List.mem_cons.1 h with rfl | h
        · have := splitOf_mem (b := b) (t := r) (w := w0) (by rw [e]; exact List.mem_cons_self)
          simp; omega
        · have := splitOf_mem (b := b) (t := r) (w := w) (by rw [e]; exact List.mem_cons_of_mem _ h)
          simp; omega
      · simp at h; rw [h]; simp
/-- The library's Split at a byte. -/
theorem splitB_of (b : UInt8) : ∀ (n : Nat) (s : ByteArray), s.size ≤ n → (Lib.splitB ⟨#[b]⟩ 0 (Lib.countB s ⟨#[b]⟩) s).map (·.data.toList) = splitOf b s.data.toList
  | n, s, hn => by
    have hi : Lib.indexB s ⟨#[b]⟩ = Lib.indexByte s.data.toList b := Lib.index_one s.data.toList b
    have hge := Lib.indexByte_ge s.data.toList b
    by_cases h : Lib.indexB s ⟨#[b]⟩ = -1
    · rw [Lib.splitB_miss _ _ _ _ h, List.map_cons, List.map_nil]
      have hno := Lib.indexByte_none (hi ▸ h)
      rw [splitOf_no]
      intro hm
      obtain ⟨k, hk, e⟩ := List.getElem_of_mem hm
      exact hno k (by rw [List.getElem?_eq_getElem hk, e])
    · obtain ⟨i, hii⟩ := Int.eq_ofNat_of_zero_le (show 0 ≤ Lib.indexB s ⟨#[b]⟩ by omega)
      have hsome := Lib.indexByte_some (o := i) (by rw [← hi]; exact hii)
      have hlt : i < s.data.toList.length := (List.getElem?_eq_some_iff.1 hsome.1).1
      have hsz : s.data.toList.length = s.size := rfl
      have h1 : (⟨#[b]⟩ : ByteArray).size = 1 := rfl
      rw [Lib.countB_hit s _ i (by rw [h1]; omega) hii, Nat.add_comm, Lib.splitB_hit _ _ _ _ i hii, List.map_cons, h1]
      have hext : (s.extract (i + 1) s.size).data.toList = s.data.toList.drop (i + 1) := by
        have e : (s.extract (i + 1) s.size).data.toList = (s.data.toList.drop (i + 1)).take (s.size - (i + 1)) := by rw [ByteArray.data_extract, Array.toList_extract]
        rw [e, List.take_of_length_le (by rw [List.length_drop, hsz]; exact Nat.le_refl _)]
      have hext0 : (s.extract 0 (i + 0)).data.toList = s.data.toList.take i := by
        rw [ByteArray.data_extract, Array.toList_extract]; simp
      have hsm : (s.extract (i + 1) s.size).size ≤ n - 1 := by
        have : (s.extract (i + 1) s.size).data.toList.length = s.size - (i + 1) := by rw [hext, List.length_drop, hsz]
        have e2 : (s.extract (i + 1) s.size).data.toList.length = (s.extract (i + 1) s.size).size := rfl
        omega
      have hn1 : n - 1 < n := by omega
      rw [splitB_of b (n - 1) _ hsm, hext, hext0]
      have hb : s.data.toList[i] = b := by
        have := hsome.1
        rw [List.getElem?_eq_getElem hlt] at this
        simpa using this
      conv => rhs; rw [← List.take_append_drop i s.data.toList, List.drop_eq_getElem_cons hlt, hb]
      rw [splitOf_at]
      intro hm
      obtain ⟨k, hk, e⟩ := List.getElem_of_mem hm
      rw [List.length_take] at hk
      rw [List.getElem_take] at e
      exact hsome.2 k (by omega) (by rw [List.getElem?_eq_getElem (by omega), e])
termination_by n => n
/-- Small and capital letters. -/
def upN (n : Nat) : Nat := if 97 ≤ n ∧ n ≤ 122 then n - 32 else n
def loN (n : Nat) : Nat := if 65 ≤ n ∧ n ≤ 90 then n + 32 else n
theorem fold_iff (a b : Nat) : upN a = upN b ↔ loN a = loN b := by
  unfold upN loN
  split <;> split <;> split <;> split <;> omega
theorem fold_list : ∀ (l m : List Nat), l.map upN = m.map upN ↔ l.map loN = m.map loN
  | [], [] => by simp
  | [], _ :: _ => by simp
  | _ :: _, [] => by simp
  | a :: l, b :: m => by
    simp only [List.map_cons, List.cons.injEq]
    rw [fold_iff, fold_list l m]
end Go.Proofs.YtpedmebigcchnaaGreatDoor
namespace Go.Proofs.YtpedmebigcchnaaGreatDoor
open Go.RowKit
/-- A row that a conversion has made of a string: its bytes l, then what is behind them. -/
structure RowF (w : World) (g c : Nat) (l : List Nat) : Prop where
  ex : ∃ cur : Array Value, w.heap[g]? = some (.cells cur 5 (c, c + 1)) ∧ cur.size = c ∧ ∀ j (h : j < l.length), cur[j]? = some (bv l[j])
  le : l.length ≤ c
theorem RowF.cell {w : World} {g c : Nat} {l : List Nat} (h : RowF w g c l) (j : Nat) (hj : j < l.length) : w.cell? ⟨g, j, none⟩ = some (.int .u8 (l[j] : Int)) := by
  obtain ⟨cur, hc, hs, he⟩ := h.ex
  rw [cell_of_row w g j _ _ _ hc]
  exact he j hj
theorem RowF.frozen {w : World} {g c : Nat} {l : List Nat} (h : RowF w g c l) (j : Nat) (hj : j < l.length) : w.frozen? ⟨g, j, none⟩ = false := by
  obtain ⟨cur, hc, hs, he⟩ := h.ex
  have := h.le
  simp [World.frozen?, hc]
  omega
theorem RowF.lt {w : World} {g c : Nat} {l : List Nat} (h : RowF w g c l) : g < w.heap.size := by
  obtain ⟨cur, hc, _⟩ := h.ex
  exact lt_of_block hc
theorem RowF.row {w : World} {g c : Nat} {l : List Nat} (h : RowF w g c l) : RowAt w (some ⟨g, 0, none⟩) l := fun _ => ⟨g, 0, rfl, fun i hi => by rw [Nat.zero_add]; exact h.cell i hi⟩
theorem RowF.set {w : World} {g c : Nat} {l : List Nat} (h : RowF w g c l) (j x : Nat) : RowF (w.setCell ⟨g, j, none⟩ (.int .u8 (x : Int))) g c (l.set j x) := by
  obtain ⟨cur, hc, hs, he⟩ := h.ex
  refine ⟨⟨cur.setIfInBounds j (.int .u8 (x : Int)), ?_, by simpa using hs, fun i hi => ?_⟩, by rw [List.length_set]; exact h.le⟩
  · rw [setCell_eq_setRow w g j _ _ _ _ hc, setRow_heap w g _ _ _ _ hc]
  · rw [List.length_set] at hi
    have hle := h.le
    rw [Array.getElem?_setIfInBounds, List.getElem_set]
    by_cases e : j = i
    · subst e
      rw [if_pos rfl, if_pos (by omega), if_pos rfl]
      rfl
    · rw [if_neg e, if_neg e]
      exact he i hi
theorem rowF_new (w : World) (l : List Nat) (hb : ∀ x ∈ l, x < 256) : RowF (Lib.bytesWorld w 5 (strB l)) w.heap.size (Lib.bytesCells w 5 (strB l)).size l := by
  refine ⟨⟨_, Lib.bytesWorld_at_new w 5 (strB l), rfl, fun j hj => ?_⟩, ?_⟩
  · have hj2 : j < (strB l).data.size := by simpa [strB] using hj
    unfold Lib.bytesCells
    rw [Array.getElem?_append_left (by simpa using hj2)]
    simp only [Array.getElem?_map]
    rw [Array.getElem?_eq_getElem hj2]
    simp only [Option.map_some]
    congr 1
    have : ((strB l).data[j]'hj2).toNat = l[j] := by
      simp [strB]
      exact hb _ (List.getElem_mem hj)
    rw [this]
    rfl
  · unfold Lib.bytesCells
    simp [strB]
theorem bytesW_below (w : World) (s : ByteArray) : Below w.heap.size w (Lib.bytesWorld w 5 s) := by
  refine ⟨rfl, rfl, rfl, by rw [Lib.bytesWorld_size]; omega, fun k hk => Lib.bytesWorld_at_old w 5 s k hk⟩
theorem strB_size (l : List Nat) : (strB l).size = l.length := by simp [strB, ByteArray.size]
def mapTo (f : Nat → Nat) (l : List Nat) (k : Nat) : List Nat := (l.take k).map f ++ l.drop k
theorem mapTo_len (f : Nat → Nat) (l : List Nat) (k : Nat) (h : k ≤ l.length) : (mapTo f l k).length = l.length := by simp [mapTo]; omega
theorem mapTo_at (f : Nat → Nat) (l : List Nat) (k : Nat) (h : k < l.length) : (mapTo f l k)[k]'(by rw [mapTo_len f l k (by omega)]; exact h) = l[k] := by
  unfold mapTo
  rw [List.getElem_append_right (by simp; omega)]
  simp
  congr 1
  omega
theorem mapTo_set (f : Nat → Nat) (l : List Nat) (k : Nat) (h : k < l.length) : (mapTo f l k).set k (f l[k]) = mapTo f l (k + 1) := by
  unfold mapTo
  rw [List.set_append_right _ _ (by simp; omega)]
  have e : k - ((l.take k).map f).length = 0 := by simp; omega
  rw [e, List.drop_eq_getElem_cons h, List.set_cons_zero, List.take_succ_eq_append_getElem h, List.map_append]
  simp only [List.map_cons, List.map_nil, List.append_assoc, List.cons_append, List.nil_append]
theorem mapTo_same (f : Nat → Nat) (l : List Nat) (k : Nat) (h : k < l.length) (e : f l[k] = l[k]) : mapTo f l (k + 1) = mapTo f l k := by
  rw [← mapTo_set f l k h, e]
  have hlen : k < (mapTo f l k).length := by rw [mapTo_len f l k (by omega)]; exact h
  have h2 : (mapTo f l k).set k ((mapTo f l k)[k]'hlen) = mapTo f l k := List.set_getElem_self hlen
  rw [mapTo_at f l k h] at h2
  exact h2
theorem mapTo_end (f : Nat → Nat) (l : List Nat) : mapTo f l l.length = l.map f := by simp [mapTo]
set_option maxRecDepth 20000 in
set_option maxHeartbeats 1000000 in
theorem capitals_any (l : List Nat) (w : World) (hl : l.length ≤ 1048576) (hb : ∀ x ∈ l, x < 256) :
    Calls Tryz.prog 39 #[.string (strB l)] w fun e w' => e = .returned (.string (strB (l.map upN))) ∧ Below w.heap.size w w' := by
  have hconv := Lib.run_convert_string_bytes (P := Tryz.prog) w 9 22 5 (strB l) Tryz.underlying9 Tryz.underlying22 Tryz.underlying5
  rw [strB_size] at hconv
  have HF := hide (rowF_new w l hb)
  have HB := hide (bytesW_below w (strB l))
  go_enter Tryz.func39, Tryz.ntmps39
  generalize Lib.bytesWorld w 5 (strB l) = w1 at hconv HF HB
  generalize (Lib.bytesCells w 5 (strB l)).size = cc at HF
  generalize grownCap w l.length 0 5 = gc at hconv
  generalize strB l = sl at hconv ⊢
  go_wp2
  clear hconv
  go_loopw [4, 5, 10] (fun _ _ i wr => ∃ k : Nat, k ≤ l.length ∧ i = .int .i64 (k : Int) ∧ RowF wr w.heap.size cc (mapTo upN l k) ∧ Below w.heap.size w wr) (fun _ _ i _ => l.length - (intOf i).toNat)
  case atStart => exact ⟨0, Nat.zero_le _, rfl, HF.out, HB.out⟩
  case round =>
    obtain ⟨k, hk, rfl, hF, hB⟩ := hrel
    clear HF HB
    by_cases hlt : k < l.length
    · have hml := mapTo_len upN l k hk
      have hc := hF.cell k (by omega)
      rw [mapTo_at upN l k hlt] at hc
      have hfz := hF.frozen k (by omega)
      have hx : l[k] < 256 := hb _ (List.getElem_mem hlt)
      have HST := hide (mapTo_set upN l k hlt)
      have HSM := hide (mapTo_same upN l k hlt)
      have HF := hide hF
      have HB := hide hB
      generalize l[k] = x at hc hx HST HSM
      clear hF hB hml hb
      by_cases h1 : 97 ≤ x
      · by_cases h2 : x ≤ 122
        · have hfx : upN x = x - 97 + 65 := by unfold upN; rw [if_pos ⟨h1, h2⟩]; omega
          have HS2 := hide (show RowF (wr.setCell ⟨w.heap.size, k, none⟩ (.int .u8 (((x - 97 + 65 : Nat)) : Int))) w.heap.size cc (mapTo upN l (k + 1)) from by
            have h := HF.out.set k (x - 97 + 65)
            have e := HST.out
            rw [hfx] at e
            rw [e] at h
            exact h)
          have HB2 := hide (HB.out.setCell (p := ⟨w.heap.size, k, none⟩) (Nat.le_refl _) (.int .u8 (((x - 97 + 65 : Nat)) : Int)))
          have hi1 : (97 : Int) ≤ (x : Int) := by omega
          have hi2 : (x : Int) ≤ 122 := by omega
          have he : ((x - 97 + 65 : Nat) : Int) = (x : Int) - 97 + 65 := by omega
          rw [he] at HS2 HB2
          clear HF HB HST HSM hfx he
          go_wp2
          go_roundw
          case rel => exact ⟨k + 1, by omega, by go_num, HS2.out, HB2.out⟩
          case measure => simp [intOf]; omega
        · have hi1 : (97 : Int) ≤ (x : Int) := by omega
          have hi2 : ¬ (x : Int) ≤ 122 := by omega
          have hfx : upN x = x := by unfold upN; rw [if_neg (fun h => h2 h.2)]
          have HS2 := hide (show RowF wr w.heap.size cc (mapTo upN l (k + 1)) by rw [HSM.out hfx]; exact HF.out)
          clear HF HST HSM hfx
          go_wp2
          go_roundw
          case rel => exact ⟨k + 1, by omega, by go_num, HS2.out, HB.out⟩
          case measure => simp [intOf]; omega
      · have hi1 : ¬ (97 : Int) ≤ (x : Int) := by omega
        have hfx : upN x = x := by unfold upN; rw [if_neg (fun h => h1 h.1)]
        have HS2 := hide (show RowF wr w.heap.size cc (mapTo upN l (k + 1)) by rw [HSM.out hfx]; exact HF.out)
        clear HF HST HSM hfx
        go_wp2
        go_roundw
        case rel => exact ⟨k + 1, by omega, by go_num, HS2.out, HB.out⟩
        case measure => simp [intOf]; omega
    · obtain rfl : k = l.length := by omega
      rw [mapTo_end] at hF
      have hcv : (convert 22 9 (.slice (some ⟨w.heap.size, 0, none⟩) l.length gc)).run Tryz.prog wr = .ok (.string (strB (l.map upN))) wr := by
        have h := run_string_of wr (some ⟨w.heap.size, 0, none⟩) gc (l.map upN) hF.row
        rw [List.length_map] at h
        exact h
      have HB := hide hB
      clear hF hB hb
      generalize hsr : strB (l.map upN) = sr at hcv
      have HSR := hide hsr
      clear hsr
      go_wp2
      go_ret
      exact ⟨by rw [HSR.out]; rfl, HB.out⟩
end Go.Proofs.YtpedmebigcchnaaGreatDoor
