import Derived.Test.YtpbpidfjecejcaaGreatDoorPko
import Derived.Test.YtpbpidfjecejcaaGreatDoorPki
namespace Go.Proofs.YtpbpidfjecejcaaGreatDoor
open Go.RowKit
theorem OwnO.putAt {w : World} {base g n cap j : Nat} {M : List OpM} {a d : Int} {b c : ByteArray} (h : OwnO w base (.slice (some ⟨g, 0, none⟩) n cap) (M.set j (a, b, c, d))) (hj : j < M.length) :
    (∀ z : Int, OwnO (w.setCell ⟨g, j * 4, none⟩ (.int .i64 z)) base (.slice (some ⟨g, 0, none⟩) n cap) (M.set j (z, b, c, d))) ∧ (∀ z : ByteArray, OwnO (w.setCell ⟨g, j * 4 + 1, none⟩ (.string z)) base (.slice (some ⟨g, 0, none⟩) n cap) (M.set j (a, z, c, d))) ∧ (∀ z : ByteArray, OwnO (w.setCell ⟨g, j * 4 + 2, none⟩ (.string z)) base (.slice (some ⟨g, 0, none⟩) n cap) (M.set j (a, b, z, d))) ∧ (∀ z : Int, OwnO (w.setCell ⟨g, j * 4 + 3, none⟩ (.int .i64 z)) base (.slice (some ⟨g, 0, none⟩) n cap) (M.set j (a, b, c, z))) := by
  have := h.put (j := j) (by simpa using hj)
  simpa only [List.getElem_set_self, List.set_set] using this
theorem OwnO.cellsAt {w : World} {base g n cap j : Nat} {M : List OpM} {a d : Int} {b c : ByteArray} (h : OwnO w base (.slice (some ⟨g, 0, none⟩) n cap) (M.set j (a, b, c, d))) (hj : j < M.length) : w.cell? ⟨g, j * 4, none⟩ = some (.int .i64 a) ∧ w.cell? ⟨g, j * 4 + 1, none⟩ = some (.string b) ∧ w.cell? ⟨g, j * 4 + 2, none⟩ = some (.string c) ∧ w.cell? ⟨g, j * 4 + 3, none⟩ = some (.int .i64 d) := by
  have := h.cells (j := j) (by simpa using hj)
  simpa only [List.getElem_set_self] using this
set_option maxRecDepth 20000 in
set_option maxHeartbeats 1000000 in
theorem markO_own (base : Nat) (a : Option Addr) (cap k : Nat) (l : List OpM) (w : World) (hk0 : 0 < k) (hk : k + 4 * l.length ≤ 4503599627370000) (hown : OwnO w base (.slice a l.length cap) l) :
    Calls Tryz.prog 33 #[.slice a l.length cap, .int .i64 (k : Int)] w fun e w' => e = .returned (.int .i64 ((k + 4 * l.length : Nat) : Int)) ∧ OwnO w' base (.slice a l.length cap) (marksO k l.length) ∧ Fr (fun g => (Value.slice a l.length cap).ownBlock = some g) w w' := by
  go_enter Tryz.func33, Tryz.ntmps33
  go_wp2
  go_loopw [1, 5] (fun s i wr => ∃ j : Nat, j ≤ l.length ∧ i = .int .i64 j ∧ s = .int .i64 ((k + 4 * j : Nat) : Int) ∧ OwnO wr base (.slice a l.length cap) (markedO k l j) ∧ Fr (fun g => (Value.slice a l.length cap).ownBlock = some g) w wr) (fun _ i _ => l.length - (intOf i).toNat)
  case atStart => exact ⟨0, Nat.zero_le _, rfl, rfl, by rw [markedO_zero]; exact hown, Fr.refl _ _⟩
  case round =>
    obtain ⟨j, hj, rfl, rfl, hown', hf⟩ := hrel
    clear hown
    by_cases hlt : j < l.length
    · have hml := markedO_length k l j hj
      obtain ⟨g, rfl, hb1, hb2⟩ := hown'.at0 (by omega)
      have hjm : j < (markedO k l j).length := by omega
      have hset := markedO_set k l j hlt
      obtain ⟨s', hs'⟩ : ∃ s', s' = k + 4 * j := ⟨_, rfl⟩
      rw [← hs'] at hset ⊢
      unfold opK at hset
      have hme : markedO k l j = (markedO k l j).set j (((markedO k l j)[j]).1, ((markedO k l j)[j]).2.1, ((markedO k l j)[j]).2.2.1, ((markedO k l j)[j]).2.2.2) := by
        rw [show (((markedO k l j)[j]).1, ((markedO k l j)[j]).2.1, ((markedO k l j)[j]).2.2.1, ((markedO k l j)[j]).2.2.2) = (markedO k l j)[j] from rfl, List.set_getElem_self]
      rw [hme] at hown'
      generalize ((markedO k l j)[j]).1 = ea at hown'
      generalize ((markedO k l j)[j]).2.1 = eb at hown'
      generalize ((markedO k l j)[j]).2.2.1 = ec at hown'
      generalize ((markedO k l j)[j]).2.2.2 = ed at hown'
      clear hme
      have HSET := hide hset
      clear hset
      generalize markedO k l j = M at hown' hjm HSET hml
      have hb' : s' ≤ 4503599627370000 := by omega
      have h0 : 0 < s' := by omega
      have HJ := hide hs'
      have z0 := (hown'.cellsAt hjm).1
      have f0 := Own4.frozen hown' (j * 4)
      have HO := hide ((hown'.putAt hjm).1 (s' : Int))
      have HF := hide (hf.set (g := g) (j := j * 4) (u := .int .i64 (s' : Int)) rfl)
      clear hown' hf hs'
      go_wp2_with fail
      generalize wr.setCell ⟨g, j * 4, none⟩ (.int .i64 (s' : Int)) = w1 at HO HF ⊢
      have e1 : ((s' : Int) + 1) = ((s' + 1 : Nat) : Int) := by omega
      rw [e1]
      clear e1
      refine (markText_is (s' + 1) w1 (by omega) (by omega)).mono ?_
      rintro e w2 ⟨rfl, hb2⟩
      have ho2 : OwnO w2 _ _ _ := HO.out.below hb2
      have hf2 := HF.out.andThen hb2
      generalize mtx (s' + 1) = t1 at HSET ⊢
      have z1 := (ho2.cellsAt hjm).2.1
      have f1 := Own4.frozen ho2 (j * 4 + 1)
      have HO2 := hide ((ho2.putAt hjm).2.1 t1)
      have HF2 := hide (hf2.set (g := g) (j := j * 4 + 1) (u := .string t1) rfl)
      clear ho2 hf2 hb2 HO HF z0 f0
      go_wp2_with fail
      generalize w2.setCell ⟨g, j * 4 + 1, none⟩ (.string t1) = w3 at HO2 HF2 ⊢
      have e2 : (((s' + 1 : Nat) : Int) + 1) = ((s' + 2 : Nat) : Int) := by omega
      have e2' : ((s' : Int) + 1 + 1) = ((s' + 2 : Nat) : Int) := by omega
      first
        | rw [e2]
        | rw [e2']
      clear e2 e2'
      refine (markText_is (s' + 2) w3 (by omega) (by omega)).mono ?_
      rintro e w4 ⟨rfl, hb4⟩
      have ho4 : OwnO w4 _ _ _ := HO2.out.below hb4
      have hf4 := HF2.out.andThen hb4
      generalize mtx (s' + 2) = t2 at HSET ⊢
      have z2 := (ho4.cellsAt hjm).2.2.1
      have z3 := (ho4.cellsAt hjm).2.2.2
      have f2 := Own4.frozen ho4 (j * 4 + 2)
      have f3 := Own4.frozen ho4 (j * 4 + 3)
      have ho5 := ((ho4.putAt hjm).2.2.1 t2)
      have hf5 := hf4.set (g := g) (j := j * 4 + 2) (u := .string t2) rfl
      have ho6 := ((ho5.putAt hjm).2.2.2 ((s' + 3 : Nat) : Int))
      have hf6 := hf5.set (g := g) (j := j * 4 + 3) (u := .int .i64 ((s' + 3 : Nat) : Int)) rfl
      rw [HSET.out] at ho6
      have e3 : ((s' + 3 : Nat) : Int) = (s' : Int) + 3 := by omega
      rw [e3] at ho6 hf6
      have HX := hide (And.intro ho6 hf6)
      clear ho4 ho5 ho6 hf4 hf5 hf6 hb4 HO2 HF2 HSET z1 f1 e3
      go_wp2
      go_roundw
      case rel => exact ⟨j + 1, by omega, by go_num, by rw [show k + 4 * (j + 1) = s' + 4 from by have := HJ.out; omega]; go_num, HX.out.1, HX.out.2⟩
      case measure => simp [intOf]; omega
    · obtain rfl : j = l.length := by omega
      rw [markedO_len] at hown'
      have HO := hide hown'
      have HF := hide hf
      clear hown' hf
      go_wp2
      go_ret
      exact ⟨rfl, HO.out, HF.out⟩
set_option maxRecDepth 20000 in
set_option maxHeartbeats 1000000 in
theorem heldO_any (a : Option Addr) (cap k n : Nat) (w : World) (hk0 : 0 < k) (hk : k + 4 * n ≤ 4503599627370000) (hr : OpAt w a (marksO k n)) :
    Calls Tryz.prog 36 #[.slice a n cap, .int .i64 (k : Int)] w fun e w' => e = .returned (.int .i64 ((k + 4 * n : Nat) : Int)) ∧ Below w.heap.size w w' := by
  go_enter Tryz.func36, Tryz.ntmps36
  go_wp2
  go_loopw [1, 5] (fun s i wr => ∃ j : Nat, j ≤ n ∧ i = .int .i64 j ∧ s = .int .i64 ((k + 4 * j : Nat) : Int) ∧ Below w.heap.size w wr) (fun _ i _ => n - (intOf i).toNat)
  case atStart => exact ⟨0, Nat.zero_le _, rfl, rfl, Below.refl _ _⟩
  case round =>
    obtain ⟨j, hj, rfl, rfl, hb⟩ := hrel
    by_cases hlt : j < n
    · have hml := marksO_length k n
      have hr0 := hr.below hb
      have HR := hide hr
      obtain ⟨b, off, rfl, hc⟩ := hr0 (by omega)
      obtain ⟨hc0, hc1, hc2, hc3⟩ := hc j (by omega)
      rw [marksO_at k n j (by omega)] at hc0 hc1 hc2 hc3
      obtain ⟨s', hs'⟩ : ∃ s', s' = k + 4 * j := ⟨_, rfl⟩
      rw [← hs'] at hc0 hc1 hc2 hc3 ⊢
      unfold opK at hc0 hc1 hc2 hc3
      simp only [] at hc0 hc1 hc2 hc3
      have e3 : ((s' + 3 : Nat) : Int) = (s' : Int) + 3 := by omega
      rw [e3] at hc3
      have hb' : s' ≤ 4503599627369996 := by omega
      have h0 : 0 < s' := by omega
      have HB := hide hb
      have HJ := hide hs'
      have hne : ((s' : Int) != (s' : Int)) = false := by simp
      have HT1 := hide (fun W => markText_is (s' + 1) W (by omega) (by omega))
      have HT2 := hide (fun W => markText_is (s' + 2) W (by omega) (by omega))
      rw [show ((s' + 1 : Nat) : Int) = (s' : Int) + 1 from by omega] at HT1
      rw [show ((s' + 2 : Nat) : Int) = (s' : Int) + 1 + 1 from by omega] at HT2
      generalize mtx (s' + 1) = t1 at hc1 HT1
      generalize mtx (s' + 2) = t2 at hc2 HT2
      have hbq1 : (t1.toList == t1.toList) = true := by simp
      have hbq2 : (t2.toList == t2.toList) = true := by simp
      clear hr hc hml e3 hb hs'
      go_wp2
      go_region_with (go_at_call 55; refine (HT1.out _).mono ?_; rintro e w2 ⟨rfl, hb2⟩; have d0 : w2.cell? ⟨b, off + j * 4 + 1, none⟩ = some (.string t1) := (hb2.cell (p := ⟨b, off + j * 4 + 1, none⟩) (lt_of_cell0 hc1)).trans hc1)
      all_goals
        have d2 : w2.cell? ⟨b, off + j * 4 + 2, none⟩ = some (.string t2) := (hb2.cell (p := ⟨b, off + j * 4 + 2, none⟩) (lt_of_cell0 hc2)).trans hc2
        have d3 : w2.cell? ⟨b, off + j * 4 + 3, none⟩ = some (.int .i64 ((s' : Int) + 3)) := (hb2.cell (p := ⟨b, off + j * 4 + 3, none⟩) (lt_of_cell0 hc3)).trans hc3
        have HN2 := hide (show Below w.heap.size w w2 from HB.out.drew.trans (hb2.mono HB.out.size))
        clear hc0 hc1 hc2 hc3 d0 hb2
        go_wp2
        go_region_with (go_at_call 55; refine (HT2.out _).mono ?_; rintro e w4 ⟨rfl, hb4⟩; have x2 : w4.cell? ⟨b, off + j * 4 + 2, none⟩ = some (.string t2) := (hb4.cell (p := ⟨b, off + j * 4 + 2, none⟩) (lt_of_cell0 d2)).trans d2)
        all_goals
          have x3 : w4.cell? ⟨b, off + j * 4 + 3, none⟩ = some (.int .i64 ((s' : Int) + 3)) := (hb4.cell (p := ⟨b, off + j * 4 + 3, none⟩) (lt_of_cell0 d3)).trans d3
          have HN4 := hide (show Below w.heap.size w w4 from HN2.out.drew.trans (hb4.mono HN2.out.size))
          clear d2 d3 x2 hb4
          go_wp2
          go_roundw
          case rel => exact ⟨j + 1, by omega, by go_num, by rw [show k + 4 * (j + 1) = s' + 4 from by have := HJ.out; omega]; go_num, HN4.out⟩
          case measure => simp [intOf]; omega
    · obtain rfl : j = n := by omega
      have HB := hide hb
      clear hb
      go_wp2
      go_ret
      exact ⟨rfl, HB.out⟩
end Go.Proofs.YtpbpidfjecejcaaGreatDoor
namespace Go.Proofs.YtpbpidfjecejcaaGreatDoor
open Go.RowKit
abbrev NdM := List Nat × Int
/-- A list of nodes of the call's own, each row of bytes in a block of its own. -/
structure OwnNA (w : World) (base : Nat) (v : Value) (vs : List (Value × Value)) (ns : List NdM) : Prop where
  len : vs.length = ns.length
  row : Own2 w base 99 v vs
  body : ∀ i (h : i < ns.length), ∃ x, vs[i]? = some (x, .int .i64 ns[i].2) ∧ OwnB w base x ns[i].1
  apart : (vs.map (·.1)).Pairwise awayV
theorem OwnNA.own {w : World} {base : Nat} {v : Value} {vs : List (Value × Value)} {ns : List NdM} (h : OwnNA w base v vs ns) : OwnN w base v ns := ⟨vs, h.len, h.row, h.body⟩
theorem OwnNA.slice {w : World} {base : Nat} {v : Value} {vs : List (Value × Value)} {ns : List NdM} (h : OwnNA w base v vs ns) : ∃ a cap, v = .slice a ns.length cap := h.own.slice
/-- How the count goes on over nodes, and nodes marked. -/
def kNd (k : Nat) : List NdM → Nat → Nat
  | _, 0 => k
  | [], _ => k
  | u :: r, i + 1 => kNd (k + u.1.length + 1) r i
def muN (k : Nat) : List NdM → List NdM
  | [] => []
  | u :: r => (marks k u.1.length, ((k + u.1.length : Nat) : Int)) :: muN (k + u.1.length + 1) r
theorem muN_length : ∀ (k : Nat) (us : List NdM), (muN k us).length = us.length
  | _, [] => rfl
  | k, u :: r => by rw [muN, List.length_cons, List.length_cons, muN_length]
theorem muN_at : ∀ (k : Nat) (us : List NdM) (i : Nat) (h : i < us.length), (muN k us)[i]? = some (marks (kNd k us i) us[i].1.length, ((kNd k us i + us[i].1.length : Nat) : Int))
  | k, u :: r, 0, _ => rfl
  | k, u :: r, i + 1, h => by rw [muN, List.getElem?_cons_succ, muN_at (k + u.1.length + 1) r i (by simpa using h)]; rfl
  | _, [], i, h => by simp at h
theorem kNd_succ : ∀ (k : Nat) (us : List NdM) (i : Nat) (h : i < us.length), kNd k us (i + 1) = kNd k us i + us[i].1.length + 1
  | k, u :: r, 0, _ => by cases r <;> rfl
  | k, u :: r, i + 1, h => by
    show kNd (k + u.1.length + 1) r (i + 1) = kNd (k + u.1.length + 1) r i + _ + 1
    rw [kNd_succ (k + u.1.length + 1) r i (by simpa using h)]
    rfl
  | _, [], i, h => by simp at h
theorem kNd_le (k : Nat) (us : List NdM) (i : Nat) (h : i ≤ us.length) : kNd k us i ≤ kNd k us us.length := by
  induction hn : us.length - i generalizing i with
  | zero => rw [show i = us.length from by omega]; exact Nat.le_refl _
  | succ n ih =>
    have h1 := ih (i + 1) (by omega) (by omega)
    rw [kNd_succ k us i (by omega)] at h1
    omega
theorem kNd_pos (k : Nat) (us : List NdM) : k ≤ kNd k us us.length := by
  have := kNd_le k us 0 (Nat.zero_le _)
  cases us <;> exact this
def muNM (k : Nat) (us : List NdM) (j : Nat) : List NdM := (muN k us).take j ++ us.drop j
theorem muNM_zero (k : Nat) (us : List NdM) : muNM k us 0 = us := by simp [muNM]
theorem muNM_len (k : Nat) (us : List NdM) : muNM k us us.length = muN k us := by
  unfold muNM
  rw [List.take_of_length_le (by rw [muN_length]; exact Nat.le_refl _)]; simp
theorem muNM_length (k : Nat) (us : List NdM) (j : Nat) (h : j ≤ us.length) : (muNM k us j).length = us.length := by
  unfold muNM
  rw [List.length_append, List.length_take, List.length_drop, muN_length]; omega
theorem muNM_at (k : Nat) (us : List NdM) (j : Nat) (h : j < us.length) (h' : j < (muNM k us j).length) : (muNM k us j)[j] = us[j] := by
  have e : (muNM k us j)[j]? = some us[j] := by
    unfold muNM
    have hl : ((muN k us).take j).length = j := by rw [List.length_take, muN_length]; omega
    rw [List.getElem?_append_right (by omega), hl, Nat.sub_self, List.drop_eq_getElem_cons h]; rfl
  rw [List.getElem?_eq_getElem h'] at e
  simpa using e
theorem muNM_set (k : Nat) (us : List NdM) (j : Nat) (h : j < us.length) : (muNM k us j).set j (marks (kNd k us j) us[j].1.length, ((kNd k us j + us[j].1.length : Nat) : Int)) = muNM k us (j + 1) := by
  unfold muNM
  have hl : ((muN k us).take j).length = j := by rw [List.length_take, muN_length]; omega
  rw [List.set_append_right _ _ (by omega), hl, Nat.sub_self, List.drop_eq_getElem_cons h, List.set_cons_zero, List.take_add_one, muN_at k us j h]
  simp
/-- The blocks of a list of nodes. -/
def nodeS (v : Value) (vs : List (Value × Value)) (g : Nat) : Prop := v.ownBlock = some g ∨ ∃ x ∈ vs.map (·.1), Value.ownBlock x = some g
/-- One row of bytes is written. -/
theorem OwnNA.data {w w' : World} {base i : Nat} {v x : Value} {y : Int} {vs : List (Value × Value)} {ns : List NdM} {l : List Nat} (h : OwnNA w base v vs ns) (hi : i < ns.length) (hx : vs[i]? = some (x, .int .i64 y)) (ho : OwnB w' base x l) (hg : w.grownBy w' x.ownBlock) : OwnNA w' base v vs (ns.set i (l, ns[i].2)) := by
  obtain ⟨x0, hx0, p1⟩ := h.body i hi
  obtain rfl : x0 = x := by rw [hx] at hx0; simp only [Option.some.injEq, Prod.mk.injEq] at hx0; exact hx0.1.symm
  have hmx : (vs.map (·.1))[i]? = some x0 := by rw [List.getElem?_map, hx]; rfl
  refine ⟨by rw [List.length_set]; exact h.len, World.ownsRow.kept h.row hg (owns_away h.row p1 (by decide)), fun j hj => ?_, h.apart⟩
  have hj' : j < ns.length := by simpa using hj
  obtain ⟨y2, hy, q1⟩ := h.body j hj'
  by_cases hij : i = j
  · subst hij
    rw [List.getElem_set_self]
    obtain rfl : x0 = y2 := by rw [hx] at hy; simp only [Option.some.injEq, Prod.mk.injEq] at hy; exact hy.1
    exact ⟨x0, hy, ho⟩
  · rw [List.getElem_set_ne hij]
    have hmy : (vs.map (·.1))[j]? = some y2 := by rw [List.getElem?_map, hy]; rfl
    exact ⟨y2, hy, World.ownsRow.kept q1 hg (awayP h.apart hmy hmx (fun e => hij e.symm))⟩
theorem two_put (l : List (Value × Value)) (i : Nat) (u : Value) (h : i < l.length) : (two l).set (i * 2 + 1) u = two (l.set i (l[i].1, u)) := by
  induction l generalizing i with
  | nil => simp at h
  | cons p l ih =>
    cases i with
    | zero => simp [two_cons]
    | succ i =>
      rw [two_cons, show (i + 1) * 2 + 1 = (i * 2 + 1) + 1 + 1 from by omega]
      simp only [List.set_cons_succ, two_cons, List.getElem_cons_succ]
      rw [ih i (by simpa using h)]
theorem map_put (l : List (Value × Value)) (i : Nat) (u : Value) (h : i < l.length) : (l.set i (l[i].1, u)).map (·.1) = l.map (·.1) := by
  rw [List.map_set]
  have : l[i].1 = (l.map (·.1))[i]'(by simpa using h) := by simp
  simp only [this, List.set_getElem_self]
/-- One Safe is put. -/
theorem OwnNA.safe {w : World} {base g n cap i : Nat} {z : Int} {vs : List (Value × Value)} {ns : List NdM} (h : OwnNA w base (.slice (some ⟨g, 0, none⟩) n cap) vs ns) (hi : i < ns.length) :
    ∃ vs', vs'.map (·.1) = vs.map (·.1) ∧ OwnNA (w.setCell ⟨g, i * 2 + 1, none⟩ (.int .i64 z)) base (.slice (some ⟨g, 0, none⟩) n cap) vs' (ns.set i (ns[i].1, z)) ∧ w.grownBy (w.setCell ⟨g, i * 2 + 1, none⟩ (.int .i64 z)) (some g) := by
  have hl := h.len
  have h0 := h.row
  have hiv : i < vs.length := by omega
  have hn : n = vs.length := by
    obtain ⟨a', c', e⟩ := Own2.slice h0
    simp only [Value.slice.injEq] at e
    exact e.2.1
  subst hn
  have s1 := World.ownsRow.stored h0 (i * 2 + 1) (.int .i64 z)
  have hg := s1.2
  refine ⟨vs.set i (vs[i].1, .int .i64 z), map_put vs i _ hiv, ⟨by rw [List.length_set, List.length_set]; exact hl, ?_, fun j hj => ?_, by rw [map_put vs i _ hiv]; exact h.apart⟩, hg⟩
  · unfold Own2
    rw [List.length_set, ← two_put vs i _ hiv]
    exact s1.1
  have hj' : j < ns.length := by simpa using hj
  obtain ⟨y, hy, q1⟩ := h.body j hj'
  have k1 := World.ownsRow.kept q1 hg (owns_away q1 h0 (by decide))
  by_cases hij : i = j
  · subst hij
    obtain ⟨hl2, hy2⟩ := List.getElem?_eq_some_iff.1 hy
    refine ⟨y, ?_, ?_⟩
    · rw [List.getElem?_set_self hiv, List.getElem_set_self, hy2]
    · rw [List.getElem_set_self]; exact k1
  · refine ⟨y, by rw [List.getElem?_set_ne hij, List.getElem_set_ne hij]; exact hy, ?_⟩
    rw [List.getElem_set_ne hij]
    exact k1
theorem OwnNA.cells {w : World} {base : Nat} {a : Option Addr} {n cap : Nat} {vs : List (Value × Value)} {ns : List NdM} (h : OwnNA w base (.slice a n cap) vs ns) (hp : 0 < ns.length) :
    ∃ g, a = some ⟨g, 0, none⟩ ∧ base ≤ g ∧ (∀ o, w.frozen? ⟨g, o, none⟩ = false) ∧ ∀ i (hi : i < ns.length), ∃ ai ci, vs[i]? = some (.slice ai ns[i].1.length ci, .int .i64 ns[i].2) ∧ w.cell? ⟨g, i * 2, none⟩ = some (.slice ai ns[i].1.length ci) ∧ w.cell? ⟨g, i * 2 + 1, none⟩ = some (.int .i64 ns[i].2) ∧ OwnB w base (.slice ai ns[i].1.length ci) ns[i].1 := by
  have hl := h.len
  rcases h.row.2 with ⟨_, h0⟩ | ⟨g, c, cur, hv, hlo, hg, hcs⟩
  · omega
  · obtain ⟨rfl, rfl, rfl⟩ : a = some ⟨g, 0, none⟩ ∧ n = vs.length ∧ cap = c := by simpa using hv
    refine ⟨g, rfl, hlo, fun o => Own2.frozen h.row o, fun i hi => ?_⟩
    obtain ⟨x, hx, p1⟩ := h.body i hi
    obtain ⟨ai, ci, rfl⟩ := p1.slice
    obtain ⟨hl2, hx2⟩ := List.getElem?_eq_some_iff.1 hx
    obtain ⟨c0, c1⟩ := Own2.cells h.row i hl2
    rw [hx2] at c0 c1
    exact ⟨ai, ci, hx, c0, c1, p1⟩
end Go.Proofs.YtpbpidfjecejcaaGreatDoor
namespace Go.Proofs.YtpbpidfjecejcaaGreatDoor
open Go.RowKit
set_option maxRecDepth 20000 in
set_option maxHeartbeats 1000000 in
theorem markN_own (base : Nat) (a : Option Addr) (cap k : Nat) (us : List NdM) (vs : List (Value × Value)) (w : World) (hk : kNd k us us.length ≤ 4503599627370000) (hl : us.length ≤ 4503599627370000) (hown : OwnNA w base (.slice a us.length cap) vs us) :
    Calls Tryz.prog 31 #[.slice a us.length cap, .int .i64 (k : Int)] w fun e w' => e = .returned (.int .i64 ((kNd k us us.length : Nat) : Int)) ∧ (∃ vs', vs'.map (·.1) = vs.map (·.1) ∧ OwnNA w' base (.slice a us.length cap) vs' (muN k us)) ∧ Fr (nodeS (.slice a us.length cap) vs) w w' := by
  go_enter Tryz.func31, Tryz.ntmps31
  go_wp2
  go_loopw [1, 5] (fun s i wr => ∃ j : Nat, j ≤ us.length ∧ i = .int .i64 j ∧ s = .int .i64 ((kNd k us j : Nat) : Int) ∧ (∃ vs', vs'.map (·.1) = vs.map (·.1) ∧ OwnNA wr base (.slice a us.length cap) vs' (muNM k us j)) ∧ Fr (nodeS (.slice a us.length cap) vs) w wr) (fun _ i _ => us.length - (intOf i).toNat)
  case atStart => exact ⟨0, Nat.zero_le _, rfl, by cases us <;> rfl, ⟨vs, rfl, by rw [muNM_zero]; exact hown⟩, Fr.refl _ _⟩
  case round =>
    obtain ⟨j, hj, rfl, rfl, ⟨vs1, hm1, hown'⟩, hfr⟩ := hrel
    clear hown
    by_cases hlt : j < us.length
    · have hml := muNM_length k us j hj
      obtain ⟨g, rfl, hgl, hfz, hc⟩ := hown'.cells (by omega)
      obtain ⟨ai, ci, hx, c0, c1, o1⟩ := hc j (by omega)
      have hat := muNM_at k us j hlt (by omega)
      have hset := muNM_set k us j hlt
      have hkj := kNd_succ k us j hlt
      have hk1 := kNd_le k us (j + 1) (by omega)
      have HKJ := hide hkj
      rw [hkj] at hk1
      have hK := Nat.le_trans hk1 hk
      rw [hat] at hx c0 c1 o1
      have hin : nodeS (.slice (some ⟨g, 0, none⟩) us.length cap) vs g := .inl rfl
      have hin1 : ∀ b, (Value.slice ai us[j].1.length ci).ownBlock = some b → nodeS (.slice (some ⟨g, 0, none⟩) us.length cap) vs b := fun b hb => .inr ⟨_, by rw [← hm1]; exact List.mem_of_getElem? (i := j) (by rw [List.getElem?_map, hx]; rfl), hb⟩
      have L1 := hide (fun w1 (o : OwnB w1 base (.slice ai us[j].1.length ci) (marks (kNd k us j) us[j].1.length)) (gr : wr.grownBy w1 (Value.slice ai us[j].1.length ci).ownBlock) => hown'.data (by omega) hx o gr)
      have F1 := hide (fun w1 (gr : wr.grownBy w1 (Value.slice ai us[j].1.length ci).ownBlock) => hfr.trans (Fr.of_grown gr hin1))
      have O1 := hide o1
      have HSET := hide hset
      have HIN := hide hin
      have HM1 := hide hm1
      have hml2 : j < (muNM k us j).length := by omega
      clear hkj hk1 hk o1 hfz hc hfr hset hin hin1 c1 hx hown' hm1
      generalize hKn : kNd k us j = K at O1 L1 HSET HKJ hK ⊢
      clear hKn
      go_wp2_with fail
      refine (markByteS_any base ai ci K us[j].1 wr (by omega) (by omega) O1.out).mono ?_
      rintro e w1 ⟨rfl, m1, g1, z1⟩
      have hown1 := L1.out w1 m1 g1
      have hfr1 := F1.out w1 g1
      obtain ⟨g', eg, _, hfz1, hc1⟩ := hown1.cells (by rw [List.length_set]; omega)
      obtain rfl : g' = g := by simpa using eg.symm
      obtain ⟨-, -, -, -, d1, -⟩ := hc1 j (by rw [List.length_set]; omega)
      have fz1 := hfz1 (j * 2 + 1)
      obtain ⟨vs2, hm2, hown2, hg2⟩ := hown1.safe (i := j) (z := ((K + us[j].1.length : Nat) : Int)) (by rw [List.length_set]; omega)
      simp only [List.getElem_set_self, List.set_set, hat] at hown2 d1
      rw [HSET.out] at hown2
      have hfr2 := hfr1.trans (Fr.of_grown hg2 (fun b hb => (Option.some.inj hb) ▸ HIN.out))
      have HX := hide (show (∃ vs', vs'.map (·.1) = vs.map (·.1) ∧ OwnNA _ base (.slice (some ⟨g', 0, none⟩) us.length cap) vs' (muNM k us (j + 1))) ∧ Fr _ w _ from ⟨⟨vs2, hm2.trans HM1.out, hown2⟩, hfr2⟩)
      generalize us[j].1.length = L at *
      generalize us[j].2 = y1 at d1
      clear L1 F1 O1 m1 g1 z1 c0 hown1 hown2 hg2 hfr1 hfr2 hfz1 hc1 HSET HM1 HIN hm2 eg hat hml hml2
      go_wp2
      go_roundw
      case rel => exact ⟨j + 1, by omega, by go_num, val_int (by rw [HKJ.out]; omega), HX.out.1, HX.out.2⟩
      case measure => simp [intOf]; omega
    · obtain rfl : j = us.length := by omega
      rw [muNM_len] at hown'
      go_wp2
      go_ret
      exact ⟨rfl, ⟨vs1, hm1, hown'⟩, hfr⟩
set_option maxHeartbeats 1000000 in
theorem heldN_any (a : Option Addr) (cap k : Nat) (us : List NdM) (w : World) (hk : kNd k us us.length ≤ 4503599627370000) (hl : us.length ≤ 4503599627370000) (hr : NodeAt w a (muN k us)) :
    Calls Tryz.prog 34 #[.slice a us.length cap, .int .i64 (k : Int)] w fun e w' => e = .returned (.int .i64 ((kNd k us us.length : Nat) : Int)) ∧ w' = w := by
  go_enter Tryz.func34, Tryz.ntmps34
  go_wp2
  go_loop [1, 5] (fun s i => ∃ j : Nat, j ≤ us.length ∧ i = .int .i64 j ∧ s = .int .i64 ((kNd k us j : Nat) : Int)) (fun _ i => us.length - (intOf i).toNat)
  case atStart => exact ⟨0, Nat.zero_le _, rfl, by cases us <;> rfl⟩
  case round =>
    obtain ⟨j, hj, rfl, rfl⟩ := hrel
    by_cases hlt : j < us.length
    · obtain ⟨b, off, rfl, hc⟩ := hr (by rw [muN_length]; omega)
      obtain ⟨ai, ci, hc0, hc1, hri⟩ := hc j (by rw [muN_length]; exact hlt)
      have hu : (muN k us)[j]'(by rw [muN_length]; exact hlt) = (marks (kNd k us j) us[j].1.length, ((kNd k us j + us[j].1.length : Nat) : Int)) := by
        have := muN_at k us j hlt
        rw [List.getElem?_eq_getElem (by rw [muN_length]; exact hlt), Option.some.injEq] at this
        exact this
      rw [hu] at hc0 hc1 hri
      have hkj := kNd_succ k us j hlt
      have hk1 := kNd_le k us (j + 1) (by omega)
      have HKJ := hide hkj
      rw [hkj] at hk1
      simp only [marks_length] at hc0 hc1 hri
      have HK := hide (Nat.le_trans hk1 hk)
      clear hu hc hr hkj hk1 hk
      generalize kNd k us j = K at hc0 hc1 hri HKJ HK ⊢
      generalize us[j].1.length = L at hc0 hc1 hri HKJ HK
      have hK := HK.out
      have H1 := hide (heldByteS_any ai ci K L w (by omega) (by omega) hri)
      clear hri
      generalize hP : K + L = P at hc1 H1
      have hP0 : ¬ (P : Int) < 0 := by omega
      have hPb : P ≤ 4503599627370000 := by omega
      have HP := hide hP
      clear hP hK
      go_wp2_with fail
      refine H1.out.mono ?_
      rintro e w2 ⟨rfl, rfl⟩
      have hne : ((P : Int) != (P : Int)) = false := by simp
      go_wp2
      go_round
      case rel => exact ⟨j + 1, by omega, by go_num, val_int (by have h1 := HKJ.out; have h4 := HP.out; omega)⟩
      case measure => simp [intOf]; omega
    · obtain rfl : j = us.length := by omega
      go_wp2
      go_ret
      exact ⟨rfl, rfl⟩
end Go.Proofs.YtpbpidfjecejcaaGreatDoor
namespace Go.Proofs.YtpbpidfjecejcaaGreatDoor
open Go.RowKit
theorem OwnNA.at_ {w : World} {base : Nat} {v : Value} {vs : List (Value × Value)} {ns : List NdM} (h : OwnNA w base v vs ns) {x : Value} (hx : x ∈ vs.map (·.1)) : ∃ l, OwnB w base x l := by
  obtain ⟨y, hy, rfl⟩ := List.mem_map.1 hx
  obtain ⟨i, hi, rfl⟩ := List.getElem_of_mem hy
  obtain ⟨z, hz, o⟩ := h.body i (by have := h.len; omega)
  rw [List.getElem?_eq_getElem hi, Option.some.injEq] at hz
  rw [hz]
  exact ⟨_, o⟩
theorem OwnNA.lo {w : World} {base g : Nat} {v : Value} {vs : List (Value × Value)} {ns : List NdM} (h : OwnNA w base v vs ns) (hg : nodeS v vs g) : base ≤ g ∧ g < w.heap.size := by
  rcases hg with hg | ⟨x, hx, hg⟩
  · exact World.ownsRow.lt h.row g hg
  · obtain ⟨l, o⟩ := h.at_ hx
    exact World.ownsRow.lt o g hg
theorem OwnNA.notin {w : World} {base b e k n : Nat} {v u : Value} {vs : List (Value × Value)} {ns : List NdM} {xs : List Value} (h : OwnNA w base v vs ns) (o : w.ownsRow b e k u n xs) (h5 : e ≠ 5) (hN : e ≠ 99) : ∀ g, u.ownBlock = some g → ¬ nodeS v vs g := by
  rintro g hg (h1 | ⟨x, hx, h1⟩)
  · exact away_not (owns_away o h.row hN) g hg h1
  · obtain ⟨l, ox⟩ := h.at_ hx
    exact away_not (owns_away o ox h5) g hg h1
/-- Nodes stand where none of their blocks has changed. -/
theorem OwnNA.fr {S : Nat → Prop} {w w' : World} {base : Nat} {v : Value} {vs : List (Value × Value)} {ns : List NdM} (h : OwnNA w base v vs ns) (f : Fr S w w') (hn : ∀ g, nodeS v vs g → ¬ S g) : OwnNA w' base v vs ns := by
  refine ⟨h.len, owns_fr h.row f (fun g hg => hn g (.inl hg)), fun i hi => ?_, h.apart⟩
  obtain ⟨x, hx, o⟩ := h.body i hi
  exact ⟨x, hx, owns_fr o f (fun g hg => hn g (.inr ⟨x, List.mem_of_getElem? (i := i) (by rw [List.getElem?_map, hx]; rfl), hg⟩))⟩
/-- A disk of the call's own, its rows apart, all its blocks below hi. -/
structure OwnDA (w : World) (base hi : Nat) (v1 v2 v3 v4 : Value) (vs : List (Value × Value)) (D : MDisk) : Prop where
  nodes : OwnNA w base v1 vs D.nodes
  names : OwnE w base v2 D.names
  kept : OwnE w base v3 D.kept
  pend : OwnO w base v4 D.pend
  away : awayV v2 v3
  b1 : ∀ g, nodeS v1 vs g → g < hi
  b2 : ∀ g, v2.ownBlock = some g → g < hi
  b3 : ∀ g, v3.ownBlock = some g → g < hi
  b4 : ∀ g, v4.ownBlock = some g → g < hi
theorem OwnDA.own {w : World} {base hi : Nat} {v1 v2 v3 v4 : Value} {vs : List (Value × Value)} {D : MDisk} (h : OwnDA w base hi v1 v2 v3 v4 vs D) : OwnD w base (.agg #[v1, v2, v3, v4, .int .i64 D.quota]) D := ⟨v1, v2, v3, v4, rfl, h.nodes.own, h.names, h.kept, h.pend⟩
theorem OwnDA.fr {S : Nat → Prop} {w w' : World} {base hi : Nat} {v1 v2 v3 v4 : Value} {vs : List (Value × Value)} {D : MDisk} (h : OwnDA w base hi v1 v2 v3 v4 vs D) (f : Fr S w w') (hn : ∀ g, base ≤ g → g < hi → ¬ S g) : OwnDA w' base hi v1 v2 v3 v4 vs D :=
  ⟨h.nodes.fr f (fun g hg => hn g (h.nodes.lo hg).1 (h.b1 g hg)), owns_fr h.names f (fun g hg => hn g (World.ownsRow.lt h.names g hg).1 (h.b2 g hg)), owns_fr h.kept f (fun g hg => hn g (World.ownsRow.lt h.kept g hg).1 (h.b3 g hg)), owns_fr h.pend f (fun g hg => hn g (World.ownsRow.lt h.pend g hg).1 (h.b4 g hg)), h.away, h.b1, h.b2, h.b3, h.b4⟩
theorem OwnDA.below {w w' : World} {base hi : Nat} {v1 v2 v3 v4 : Value} {vs : List (Value × Value)} {D : MDisk} (h : OwnDA w base hi v1 v2 v3 v4 vs D) (hb : Below w.heap.size w w') : OwnDA w' base hi v1 v2 v3 v4 vs D :=
  h.fr (S := fun _ => False) (Fr.of_below hb) (fun _ _ _ => id)
def kD1 (D : MDisk) : Nat := kNd 1 D.nodes D.nodes.length
def kD2 (D : MDisk) : Nat := kD1 D + 2 * D.names.length
def kD3 (D : MDisk) : Nat := kD2 D + 2 * D.kept.length
def kD4 (D : MDisk) : Nat := kD3 D + 4 * D.pend.length
/-- A disk as the marks leave it. -/
def mkD (D : MDisk) : MDisk := ⟨muN 1 D.nodes, marksE (kD1 D) D.names.length, marksE (kD2 D) D.kept.length, marksO (kD3 D) D.pend.length, D.quota⟩
set_option maxRecDepth 20000 in
set_option maxHeartbeats 1000000 in
theorem markDisk_own (base hi : Nat) (v1 v2 v3 v4 : Value) (vs : List (Value × Value)) (D : MDisk) (w : World) (hhi : hi ≤ w.heap.size) (hk : kD4 D ≤ 4503599627370000) (hl : D.nodes.length ≤ 4503599627370000) (h : OwnDA w base hi v1 v2 v3 v4 vs D) :
    Calls Tryz.prog 8 #[.agg #[v1, v2, v3, v4, .int .i64 D.quota], .int .i64 1] w fun e w' => e = .returned (.int .i64 ((kD4 D : Nat) : Int)) ∧ (∃ vs', OwnDA w' base hi v1 v2 v3 v4 vs' (mkD D)) ∧ Fr (fun g => base ≤ g ∧ g < hi) w w' := by
  obtain ⟨a1, c1, rfl⟩ := h.nodes.slice
  obtain ⟨a2, c2, rfl⟩ := h.names.slice
  obtain ⟨a3, c3, rfl⟩ := h.kept.slice
  obtain ⟨a4, c4, rfl⟩ := h.pend.slice
  have hp1 : 1 ≤ kD1 D := kNd_pos 1 D.nodes
  have hd2 : kD2 D = kD1 D + 2 * D.names.length := rfl
  have hd3 : kD3 D = kD2 D + 2 * D.kept.length := rfl
  have hd4 : kD4 D = kD3 D + 4 * D.pend.length := rfl
  have hA := (Below.refl w.heap.size w).alloc (Nat.le_refl _) (.cells #[.slice a1 D.nodes.length c1, .slice a2 D.names.length c2, .slice a3 D.kept.length c3, .slice a4 D.pend.length c4, .int .i64 D.quota] 27)
  have L0 := Laid.new w #[.slice a1 D.nodes.length c1, .slice a2 D.names.length c2, .slice a3 D.kept.length c3, .slice a4 D.pend.length c4, .int .i64 D.quota] 27
  have h0 := h.below hA
  have hf0 := Fr.of_below (S := fun g => base ≤ g ∧ g < hi) hA
  have HN := hide (markN_own base a1 c1 1 D.nodes vs _ (by show kD1 D ≤ _; omega) hl h0.nodes)
  rw [show kNd 1 D.nodes D.nodes.length = kD1 D from rfl] at HN
  have H0 := hide h0
  have HF0 := hide hf0
  clear h h0 hf0 hA
  go_enter Tryz.func8, Tryz.ntmps8
  go_wp2_with fail
  generalize w.alloc (.cells #[.slice a1 D.nodes.length c1, .slice a2 D.names.length c2, .slice a3 D.kept.length c3, .slice a4 D.pend.length c4, .int .i64 D.quota] 27) = w0 at L0 HN H0 HF0 ⊢
  refine HN.out.mono ?_
  rintro e w1 ⟨rfl, ⟨vs', hm', on1⟩, f1⟩
  have hns : ∀ g, nodeS (.slice a1 D.nodes.length c1) vs g → base ≤ g ∧ g < hi := fun g hg => ⟨(H0.out.nodes.lo hg).1, H0.out.b1 g hg⟩
  have hns' : ∀ g, nodeS (.slice a1 D.nodes.length c1) vs' g → g < hi := fun g hg => (hns g (by unfold nodeS at hg ⊢; rw [← hm']; exact hg)).2
  have n2 := owns_fr H0.out.names f1 (H0.out.nodes.notin H0.out.names (by decide) (by decide))
  have n3 := owns_fr H0.out.kept f1 (H0.out.nodes.notin H0.out.kept (by decide) (by decide))
  have n4 := owns_fr H0.out.pend f1 (H0.out.nodes.notin H0.out.pend (by decide) (by decide))
  have L1 : Laid w1 w.heap.size #[.slice a1 D.nodes.length c1, .slice a2 D.names.length c2, .slice a3 D.kept.length c3, .slice a4 D.pend.length c4, .int .i64 D.quota] 27 := (f1.block w.heap.size L0.lt (fun h => by have := hns _ h; omega)).trans L0
  have t1 : w1.cell? ⟨w.heap.size, 1, none⟩ = some (.slice a2 D.names.length c2) := L1.cell 1
  have HF1 := hide (HF0.out.trans (f1.mono hns))
  have HM := hide (markE_own base a2 c2 (kD1 D) D.names w1 (by omega) (by omega) n2)
  have ON1 := hide on1
  have N2 := hide n2
  have N3 := hide n3
  have N4 := hide n4
  have HB := hide (And.intro H0.out.b2 (And.intro H0.out.b3 (And.intro H0.out.b4 H0.out.away)))
  have HNS := hide hns'
  have lo2 := fun g h => (World.ownsRow.lt H0.out.names g h).1
  have lo3 := fun g h => (World.ownsRow.lt H0.out.kept g h).1
  have lo4 := fun g h => (World.ownsRow.lt H0.out.pend g h).1
  have LO := hide (And.intro lo2 (And.intro lo3 lo4))
  clear HN H0 HF0 on1 f1 hm' hns hns' n2 n3 n4 L0 lo2 lo3 lo4
  go_wp2_with fail
  refine HM.out.mono ?_
  rintro e w2 ⟨rfl, on2, f2⟩
  rw [← hd2]
  have m1 := ON1.out.fr f2 (fun g hg e => ON1.out.notin N2.out (by decide) (by decide) g e hg)
  have m3 := owns_fr N3.out f2 (away_not HB.out.2.2.2.symm)
  have m4 := owns_fr N4.out f2 (away_not (owns_away N4.out N2.out (by decide)))
  have L2 : Laid w2 w.heap.size #[.slice a1 D.nodes.length c1, .slice a2 D.names.length c2, .slice a3 D.kept.length c3, .slice a4 D.pend.length c4, .int .i64 D.quota] 27 := (f2.block w.heap.size L1.lt (fun h => by have := HB.out.1 _ h; omega)).trans L1
  have t2 : w2.cell? ⟨w.heap.size, 2, none⟩ = some (.slice a3 D.kept.length c3) := L2.cell 2
  have HF2 := hide (HF1.out.trans (f2.mono (fun g hg => ⟨LO.out.1 g hg, HB.out.1 g hg⟩)))
  have HM3 := hide (markE_own base a3 c3 (kD2 D) D.kept w2 (by omega) (by omega) m3)
  have M1 := hide m1
  have M2 := hide on2
  have M3 := hide m3
  have M4 := hide m4
  clear HM ON1 N2 N3 N4 HF1 on2 f2 m1 m3 m4 L1 t1
  go_wp2_with fail
  refine HM3.out.mono ?_
  rintro e w3 ⟨rfl, on3, f3⟩
  rw [← hd3]
  have p1 := M1.out.fr f3 (fun g hg e => M1.out.notin M3.out (by decide) (by decide) g e hg)
  have p2 := owns_fr M2.out f3 (away_not HB.out.2.2.2)
  have p4 := owns_fr M4.out f3 (away_not (owns_away M4.out M3.out (by decide)))
  have L3 : Laid w3 w.heap.size #[.slice a1 D.nodes.length c1, .slice a2 D.names.length c2, .slice a3 D.kept.length c3, .slice a4 D.pend.length c4, .int .i64 D.quota] 27 := (f3.block w.heap.size L2.lt (fun h => by have := HB.out.2.1 _ h; omega)).trans L2
  have t3 : w3.cell? ⟨w.heap.size, 3, none⟩ = some (.slice a4 D.pend.length c4) := L3.cell 3
  have HF3 := hide (HF2.out.trans (f3.mono (fun g hg => ⟨LO.out.2.1 g hg, HB.out.2.1 g hg⟩)))
  have HM4 := hide (markO_own base a4 c4 (kD3 D) D.pend w3 (by omega) (by omega) p4)
  have P1 := hide p1
  have P2 := hide p2
  have P3 := hide on3
  have P4 := hide p4
  clear HM3 M1 M2 M3 M4 HF2 on3 f3 p1 p2 p4 L2 t2 L3
  go_wp2_with fail
  refine HM4.out.mono ?_
  rintro e w4 ⟨rfl, on4, f4⟩
  rw [← hd4]
  have q1 := P1.out.fr f4 (fun g hg e => P1.out.notin P4.out (by decide) (by decide) g e hg)
  have q2 := owns_fr P2.out f4 (away_not (owns_away P2.out P4.out (by decide)))
  have q3 := owns_fr P3.out f4 (away_not (owns_away P3.out P4.out (by decide)))
  have HX := hide (show (∃ vs', OwnDA w4 base hi (.slice a1 D.nodes.length c1) (.slice a2 D.names.length c2) (.slice a3 D.kept.length c3) (.slice a4 D.pend.length c4) vs' (mkD D)) from ⟨vs', q1, q2, q3, on4, HB.out.2.2.2, HNS.out, HB.out.1, HB.out.2.1, HB.out.2.2.1⟩)
  have HF4 := hide (HF3.out.trans (f4.mono (fun g hg => ⟨LO.out.2.2 g hg, HB.out.2.2.1 g hg⟩)))
  clear HM4 P1 P2 P3 P4 HF3 on4 f4 q1 q2 q3 t3 HB LO HNS
  go_wp2
  go_ret
  exact ⟨rfl, HX.out, HF4.out⟩
theorem marks_shape {w : World} {v : Value} {D : MDisk} (h : DiskAt w v (mkD D)) : ∃ a1 c1 a2 c2 a3 c3 a4 c4, v = .agg #[.slice a1 D.nodes.length c1, .slice a2 D.names.length c2, .slice a3 D.kept.length c3, .slice a4 D.pend.length c4, .int .i64 D.quota] ∧ NodeAt w a1 (muN 1 D.nodes) ∧ EntAt w a2 (marksE (kD1 D) D.names.length) ∧ EntAt w a3 (marksE (kD2 D) D.kept.length) ∧ OpAt w a4 (marksO (kD3 D) D.pend.length) := by
  obtain ⟨a1, c1, a2, c2, a3, c3, a4, c4, e, h1, h2, h3, h4⟩ := h
  unfold mkD at e h1 h2 h3 h4
  simp only [muN_length, marksE_length, marksO_length] at e h1 h2 h3 h4
  exact ⟨a1, c1, a2, c2, a3, c3, a4, c4, e, h1, h2, h3, h4⟩
set_option maxRecDepth 20000 in
set_option maxHeartbeats 1000000 in
theorem heldDisk_any (v : Value) (D : MDisk) (w : World) (hk : kD4 D ≤ 4503599627370000) (hl : D.nodes.length ≤ 4503599627370000) (h : DiskAt w v (mkD D)) :
    Calls Tryz.prog 9 #[v, .int .i64 1] w fun e w' => e = .returned (.int .i64 ((kD4 D : Nat) : Int)) ∧ Below w.heap.size w w' := by
  obtain ⟨a1, c1, a2, c2, a3, c3, a4, c4, rfl, h1, h2, h3, h4⟩ := marks_shape h
  have hp1 : 1 ≤ kD1 D := kNd_pos 1 D.nodes
  have hd2 : kD2 D = kD1 D + 2 * D.names.length := rfl
  have hd3 : kD3 D = kD2 D + 2 * D.kept.length := rfl
  have hd4 : kD4 D = kD3 D + 4 * D.pend.length := rfl
  have hA := (Below.refl w.heap.size w).alloc (Nat.le_refl _) (.cells #[.slice a1 D.nodes.length c1, .slice a2 D.names.length c2, .slice a3 D.kept.length c3, .slice a4 D.pend.length c4, .int .i64 D.quota] 27)
  have L0 := Laid.new w #[.slice a1 D.nodes.length c1, .slice a2 D.names.length c2, .slice a3 D.kept.length c3, .slice a4 D.pend.length c4, .int .i64 D.quota] 27
  have HN := hide (heldN_any a1 c1 1 D.nodes _ (by show kD1 D ≤ _; omega) hl (h1.below hA))
  rw [show kNd 1 D.nodes D.nodes.length = kD1 D from rfl] at HN
  have E2 := hide (h2.below hA)
  have E3 := hide (h3.below hA)
  have E4 := hide (h4.below hA)
  have HA := hide hA
  have k1 : ¬ ((kD1 D : Nat) : Int) < 0 := by omega
  have k2 : ¬ ((kD2 D : Nat) : Int) < 0 := by omega
  have k3 : ¬ ((kD3 D : Nat) : Int) < 0 := by omega
  have k4 : ¬ ((kD4 D : Nat) : Int) < 0 := by omega
  have t1 := L0.cell 1
  have HL0 := hide L0
  clear h h1 h2 h3 h4 hA L0
  go_enter Tryz.func9, Tryz.ntmps9
  go_wp2_with fail
  generalize w.alloc (.cells #[.slice a1 D.nodes.length c1, .slice a2 D.names.length c2, .slice a3 D.kept.length c3, .slice a4 D.pend.length c4, .int .i64 D.quota] 27) = w0 at HN E2 E3 E4 HA t1 HL0 ⊢
  refine HN.out.mono ?_
  rintro e w1 ⟨rfl, rfl⟩
  have t1' : w1.cell? ⟨w.heap.size, 1, none⟩ = some (.slice a2 D.names.length c2) := HL0.out.cell 1
  clear t1
  have HM := hide (heldE_any a2 c2 (kD1 D) D.names.length w1 (by omega) (by omega) E2.out)
  go_wp2_with fail
  refine HM.out.mono ?_
  rintro e w2 ⟨rfl, hb2⟩
  rw [← hd2]
  have L2 := HL0.out.below hb2 HL0.out.lt
  have t2 : w2.cell? ⟨w.heap.size, 2, none⟩ = some (.slice a3 D.kept.length c3) := L2.cell 2
  have HM3 := hide (heldE_any a3 c3 (kD2 D) D.kept.length w2 (by omega) (by omega) (E3.out.below hb2))
  have F4 := hide (E4.out.below hb2)
  have HA2 := hide (HA.out.trans (hb2.mono HA.out.size))
  have HL2 := hide L2
  clear HN HM E2 E3 E4 HA t1' HL0 hb2 L2
  go_wp2_with fail
  refine HM3.out.mono ?_
  rintro e w3 ⟨rfl, hb3⟩
  rw [← hd3]
  have L3 := HL2.out.below hb3 HL2.out.lt
  have t3 : w3.cell? ⟨w.heap.size, 3, none⟩ = some (.slice a4 D.pend.length c4) := L3.cell 3
  have HM4 := hide (heldO_any a4 c4 (kD3 D) D.pend.length w3 (by omega) (by omega) (F4.out.below hb3))
  have HA3 := hide (HA2.out.trans (hb3.mono HA2.out.size))
  clear HM3 F4 HA2 t2 HL2 hb3 L3
  go_wp2_with fail
  refine HM4.out.mono ?_
  rintro e w4 ⟨rfl, hb4⟩
  rw [← hd4]
  have HA4 := hide (HA3.out.trans (hb4.mono HA3.out.size))
  clear HM4 HA3 t3 hb4
  go_wp2
  go_ret
  exact ⟨rfl, HA4.out⟩
end Go.Proofs.YtpbpidfjecejcaaGreatDoor
namespace Go.Proofs.YtpbpidfjecejcaaGreatDoor
open Go.RowKit
set_option maxRecDepth 20000 in
set_option maxHeartbeats 1000000 in
theorem markDisk_rawK (lo hi : Nat) (v : Value) (w : World) (hhi : hi ≤ w.heap.size) (h : DiskRaw w lo hi v) :
    Calls Tryz.prog 8 #[v, .int .i64 1] w fun e w' => (∃ k' : Nat, e = .returned (.int .i64 (k' : Int)) ∧ k' ≤ 1125899906842624) ∧ Out lo hi w w' := by
  obtain ⟨a1, m1, c1, a2, m2, c2, a3, m3, c3, a4, m4, c4, q, rfl, r1, r2, r3, r4⟩ := h.ex
  have hA := (Below.refl w.heap.size w).alloc (Nat.le_refl _) (.cells #[.slice a1 m1 c1, .slice a2 m2 c2, .slice a3 m3 c3, .slice a4 m4 c4, .int .i64 q] 27)
  have L0 := Laid.new w #[.slice a1 m1 c1, .slice a2 m2 c2, .slice a3 m3 c3, .slice a4 m4 c4, .int .i64 q] 27
  have HN := hide (markN_el lo hi 1 _ _ (by omega) (r1.below hA))
  have HO0 := hide (show Out lo hi w _ from Out.of_below hA)
  have HE2 := hide (r2.below hA)
  have HE3 := hide (r3.below hA)
  have HE4 := hide (r4.below hA)
  clear h r1 r2 r3 r4
  go_enter Tryz.func8, Tryz.ntmps8
  go_wp2_with fail
  generalize w.alloc (.cells #[.slice a1 m1 c1, .slice a2 m2 c2, .slice a3 m3 c3, .slice a4 m4 c4, .int .i64 q] 27) = w0 at hA L0 HN HO0 HE2 HE3 HE4 ⊢
  refine HN.out.mono ?_
  rintro e w1 ⟨⟨k1, rfl, hk1⟩, hkp1, ho1⟩
  have L1 : Laid w1 w.heap.size #[.slice a1 m1 c1, .slice a2 m2 c2, .slice a3 m3 c3, .slice a4 m4 c4, .int .i64 q] 27 := (ho1.block w.heap.size L0.lt (.inr hhi)).trans L0
  have t1 : w1.cell? ⟨w.heap.size, 1, none⟩ = some (.slice a2 m2 c2) := L1.cell 1
  have HM := hide (markE_el lo hi k1 _ w1 (by omega) (HE2.out.turn hkp1))
  replace HE3 := hide (HE3.out.turn hkp1)
  replace HE4 := hide (HE4.out.turn hkp1)
  replace HO0 := hide (HO0.out.trans ho1)
  clear HN HE2 hkp1 ho1 L0 hA
  go_wp2_with fail
  refine HM.out.mono ?_
  rintro e w2 ⟨⟨k2, rfl, hk2⟩, hkp2, ho2⟩
  have L2 : Laid w2 w.heap.size #[.slice a1 m1 c1, .slice a2 m2 c2, .slice a3 m3 c3, .slice a4 m4 c4, .int .i64 q] 27 := (ho2.block w.heap.size L1.lt (.inr hhi)).trans L1
  have t2 : w2.cell? ⟨w.heap.size, 2, none⟩ = some (.slice a3 m3 c3) := L2.cell 2
  replace HM := hide (markE_el lo hi k2 _ w2 (by omega) (HE3.out.turn hkp2))
  replace HE4 := hide (HE4.out.turn hkp2)
  replace HO0 := hide (HO0.out.trans ho2)
  clear HE3 hkp2 ho2 L1 t1
  go_wp2_with fail
  refine HM.out.mono ?_
  rintro e w3 ⟨⟨k3, rfl, hk3⟩, hkp3, ho3⟩
  have L3 : Laid w3 w.heap.size #[.slice a1 m1 c1, .slice a2 m2 c2, .slice a3 m3 c3, .slice a4 m4 c4, .int .i64 q] 27 := (ho3.block w.heap.size L2.lt (.inr hhi)).trans L2
  have t3 : w3.cell? ⟨w.heap.size, 3, none⟩ = some (.slice a4 m4 c4) := L3.cell 3
  replace HM := hide (markO_el lo hi k3 _ w3 (by omega) (HE4.out.turn hkp3))
  replace HO0 := hide (HO0.out.trans ho3)
  clear HE4 hkp3 ho3 L2 t2 L3
  go_wp2_with fail
  refine HM.out.mono ?_
  rintro e w4 ⟨⟨k4, rfl, hk4⟩, hkp4, ho4⟩
  replace HO0 := hide (HO0.out.trans ho4)
  clear hkp4 ho4 t3 HM
  go_wp2
  go_ret
  exact ⟨⟨k4, rfl, by omega⟩, HO0.out⟩
theorem kNd_bound (M : Nat) : ∀ (k : Nat) (us : List NdM), (∀ e ∈ us, e.1.length ≤ M) → kNd k us us.length ≤ k + us.length * (M + 1)
  | k, [], _ => by simp [kNd]
  | k, u :: r, h => by
    have h1 := kNd_bound M (k + u.1.length + 1) r (fun e he => h e (List.mem_cons_of_mem _ he))
    have h2 := h u (List.mem_cons_self ..)
    show kNd (k + u.1.length + 1) r r.length ≤ k + (r.length + 1) * (M + 1)
    rw [Nat.add_mul, Nat.one_mul]
    omega
/-- The bounds of a disk that is handed back. -/
structure Small (C : MDisk) : Prop where
  n1 : C.nodes.length ≤ 1048576
  n2 : C.names.length ≤ 1048576
  n3 : C.kept.length ≤ 1048576
  n4 : C.pend.length ≤ 1048576
  ns : ∀ e ∈ C.nodes, e.1.length ≤ 1048576
  k : kD4 C ≤ 4503599627370000
theorem small_of {C : MDisk} (h1 : C.nodes.length ≤ 1048576) (h2 : C.names.length ≤ 1048576) (h3 : C.kept.length ≤ 1048576) (h4 : C.pend.length ≤ 1048576) (hs : ∀ e ∈ C.nodes, e.1.length ≤ 1048576) : Small C := by
  refine ⟨h1, h2, h3, h4, hs, ?_⟩
  have hb := kNd_bound 1048576 1 C.nodes hs
  have hm : C.nodes.length * (1048576 + 1) ≤ 1048576 * (1048576 + 1) := Nat.mul_le_mul_right _ h1
  unfold kD4 kD3 kD2 kD1
  omega
end Go.Proofs.YtpbpidfjecejcaaGreatDoor
