import Derived.Test.YtknnpgffdbkfnaaSpanEq
namespace Go.Proofs.Ytknnpgffdbkfnaa
open Go.RowKit
def sumX : List SP → Nat
  | [] => 0
  | x :: r => (2 + x.2.2.length) + sumX r
theorem sumX_append (a b : List SP) : sumX (a ++ b) = sumX a + sumX b := by
  induction a with
  | nil => simp [sumX]
  | cons x r ih => simp only [List.cons_append, sumX, ih]; omega
theorem sumX_take_succ (xs : List SP) (j : Nat) (h : j < xs.length) : sumX (xs.take (j + 1)) = sumX (xs.take j) + (2 + xs[j].2.2.length) := by
  rw [List.take_succ_eq_append_getElem h, sumX_append]; simp [sumX]
theorem sumX_take_le (xs : List SP) (j : Nat) : sumX (xs.take j) ≤ sumX xs := by
  have h := sumX_append (xs.take j) (xs.drop j)
  rw [List.take_append_drop] at h; omega
theorem len_le_sumX (xs : List SP) : ∀ x ∈ xs, x.2.2.length ≤ sumX xs := by
  induction xs with
  | nil => intro x hx; cases hx
  | cons y r ih =>
    intro x hx
    rcases List.mem_cons.1 hx with rfl | hx
    · simp only [sumX]; omega
    · have := ih x hx; simp only [sumX]; omega
theorem count_le_sumX (xs : List SP) : xs.length ≤ sumX xs := by
  induction xs with
  | nil => simp [sumX]
  | cons y r ih => simp only [sumX, List.length_cons]; omega
/-- What marking a list of spans writes. -/
def marksX : Nat → List SP → List SP
  | _, [] => []
  | k, x :: r => (k, k + 1, marks (k + 2) x.2.2.length) :: marksX (k + (2 + x.2.2.length)) r
theorem marksX_length (k : Nat) (xs : List SP) : (marksX k xs).length = xs.length := by
  induction xs generalizing k with
  | nil => rfl
  | cons x r ih => simp [marksX, ih]
theorem marksX_snoc (k : Nat) (xs : List SP) (x : SP) : marksX k (xs ++ [x]) = marksX k xs ++ [(k + sumX xs, k + sumX xs + 1, marks (k + sumX xs + 2) x.2.2.length)] := by
  induction xs generalizing k with
  | nil => simp [marksX, sumX]
  | cons y r ih => simp only [List.cons_append, marksX, sumX, ih, Nat.add_assoc]
theorem marksX_at (k : Nat) (xs : List SP) (j : Nat) (h : j < xs.length) (h' : j < (marksX k xs).length) : (marksX k xs)[j] = (k + sumX (xs.take j), k + sumX (xs.take j) + 1, marks (k + sumX (xs.take j) + 2) xs[j].2.2.length) := by
  induction xs generalizing k j with
  | nil => simp at h
  | cons x r ih =>
    cases j with
    | zero => simp [marksX, sumX]
    | succ j =>
      simp only [marksX, List.getElem_cons_succ, List.take_succ_cons, sumX]
      rw [ih (k + (2 + x.2.2.length)) j (by simpa using h) (by rw [marksX_length]; simpa using h)]
      simp only [Nat.add_assoc]
def markedX (k : Nat) (xs : List SP) (i : Nat) : List SP := marksX k (xs.take i) ++ xs.drop i
theorem markedX_length (k : Nat) (xs : List SP) (i : Nat) (h : i ≤ xs.length) : (markedX k xs i).length = xs.length := by simp [markedX, marksX_length]; omega
theorem markedX_zero (k : Nat) (xs : List SP) : markedX k xs 0 = xs := by simp [markedX, marksX]
theorem markedX_len (k : Nat) (xs : List SP) : markedX k xs xs.length = marksX k xs := by simp [markedX]
theorem markedX_at (k : Nat) (xs : List SP) (i : Nat) (h : i < xs.length) (h' : i < (markedX k xs i).length) : (markedX k xs i)[i] = xs[i] := by
  have e : (markedX k xs i)[i]? = some xs[i] := by
    unfold markedX
    rw [List.getElem?_append_right (by simp [marksX_length]; omega)]
    have e2 : i - (marksX k (xs.take i)).length = 0 := by simp [marksX_length]; omega
    rw [e2, List.drop_eq_getElem_cons h]; rfl
  rw [List.getElem?_eq_getElem h'] at e
  simpa using e
theorem markedX_set (k : Nat) (xs : List SP) (i : Nat) (h : i < xs.length) : (markedX k xs i).set i (k + sumX (xs.take i), k + sumX (xs.take i) + 1, marks (k + sumX (xs.take i) + 2) xs[i].2.2.length) = markedX k xs (i + 1) := by
  unfold markedX
  rw [List.set_append_right _ _ (by simp [marksX_length]; omega)]
  have e : i - (marksX k (xs.take i)).length = 0 := by simp [marksX_length]; omega
  rw [e, List.drop_eq_getElem_cons h, List.set_cons_zero, List.take_succ_eq_append_getElem h, marksX_snoc]
  simp
theorem cells3_set (vs : List S3) (i : Nat) (p q : Nat) (h : i < vs.length) : ((cells3 vs).set (i * 3) (iv p)).set (i * 3 + 1) (iv q) = cells3 (vs.set i (p, q, vs[i].2.2)) := by
  induction vs generalizing i with
  | nil => simp at h
  | cons x r ih =>
    cases i with
    | zero => simp [cells3_cons]
    | succ i =>
      rw [cells3_cons, show (i + 1) * 3 = i * 3 + 1 + 1 + 1 from by omega]
      simp only [List.set_cons_succ, List.getElem_cons_succ, cells3_cons]
      rw [ih i (by simpa using h)]
/-- Both numbers of one span are put. -/
theorem OwnX.put {w : World} {lo g n cap i p q : Nat} {vs : List S3} {xs : List SP} (h : OwnX w lo (.slice (some ⟨g, 0, none⟩) n cap) vs xs) (hi : i < xs.length) :
    ∃ vs', vs'.map (·.2.2) = vs.map (·.2.2) ∧ OwnX ((w.setCell ⟨g, i * 3, none⟩ (iv p)).setCell ⟨g, i * 3 + 1, none⟩ (iv q)) lo (.slice (some ⟨g, 0, none⟩) n cap) vs' (xs.set i (p, q, xs[i].2.2)) ∧ w.grownBy ((w.setCell ⟨g, i * 3, none⟩ (iv p)).setCell ⟨g, i * 3 + 1, none⟩ (iv q)) (some g) := by
  have hl := h.len
  have h0 := h.2.row
  have hn : n = (xs.map (·.2.2)).length := by
    obtain ⟨a', c', e⟩ := h.2.slice
    simp only [Value.slice.injEq] at e
    exact e.2.1
  subst hn
  have s1 := World.ownsRow.stored h0 (i * 3) (iv p)
  have s2 := World.ownsRow.stored s1.1 (i * 3 + 1) (iv q)
  have hg := grown_trans s1.2 s2.2
  have hm : (vs.set i (p, q, vs[i].2.2)).map (·.2.2) = vs.map (·.2.2) := by
    rw [List.map_set]
    have : vs[i].2.2 = (vs.map (·.2.2))[i]'(by simp; omega) := by simp
    simp only [this, List.set_getElem_self]
  have hx2 : (xs.set i (p, q, xs[i].2.2)).map (·.2.2) = xs.map (·.2.2) := by
    rw [List.map_set]
    have : xs[i].2.2 = (xs.map (·.2.2))[i]'(by simpa using hi) := by simp
    simp only [this, List.set_getElem_self]
  refine ⟨vs.set i (p, q, vs[i].2.2), hm, ⟨?_, ?_⟩, hg⟩
  · rw [List.map_set, List.map_set, h.1]
  · rw [hx2]
    refine ⟨by rw [List.length_set]; exact h.2.len, by rw [← cells3_set vs i p q (by omega)]; exact s2.1, fun j hj => ?_, ?_⟩
    · obtain ⟨y, hy, hoy⟩ := h.2.body j hj
      have hj2 : j < vs.length := by have := h.2.len; omega
      have ey : vs[j] = y := by rw [List.getElem?_eq_getElem hj2] at hy; simpa using hy
      refine ⟨(vs.set i (p, q, vs[i].2.2))[j]'(by simpa using hj2), List.getElem?_eq_getElem _, ?_⟩
      have eb : ((vs.set i (p, q, vs[i].2.2))[j]'(by simpa using hj2)).2.2 = y.2.2 := by
        by_cases e : i = j
        · subst e; simp [ey]
        · simp [e, ey]
      rw [eb]
      exact World.ownsRow.kept hoy hg (blocks_apart hoy h0 (by decide))
    · have hp' : (vs.map (·.2.2)).Pairwise (fun a b : Value => a.ownBlock = none ∨ a.ownBlock ≠ b.ownBlock) := by rw [List.pairwise_map]; exact h.2.apart
      rw [← hm, List.pairwise_map] at hp'
      exact hp'
theorem OwnX.frozen {w : World} {lo g n cap : Nat} {vs : List S3} {xs : List SP} (h : OwnX w lo (.slice (some ⟨g, 0, none⟩) n cap) vs xs) (o : Nat) : w.frozen? ⟨g, o, none⟩ = false := by
  have hn : n = (xs.map (·.2.2)).length := by
    obtain ⟨a', c', e⟩ := h.2.slice
    simp only [Value.slice.injEq] at e
    exact e.2.1
  subst hn
  exact World.ownsRow.frozenAt h.2.row o
/-- One body is written. -/
theorem OwnX.body_set {w w' : World} {lo i : Nat} {v : Value} {x : S3} {vs : List S3} {xs : List SP} {l : List Nat} (h : OwnX w lo v vs xs) (hi : i < xs.length) (hx : vs[i]? = some x) (ho : OwnB w' lo x.2.2 l) (hox : OwnB w lo x.2.2 xs[i].2.2) (hg : w.grownBy w' x.2.2.ownBlock) : OwnX w' lo v vs (xs.set i (xs[i].1, xs[i].2.1, l)) := by
  have hl := h.len
  have hm2 : (xs.set i (xs[i].1, xs[i].2.1, l)).map (·.2.2) = (xs.map (·.2.2)).set i l := by rw [List.map_set]
  refine ⟨?_, ?_⟩
  · rw [List.map_set, h.1]
    have : (xs[i].1, xs[i].2.1) = (xs.map (fun x => (x.1, x.2.1)))[i]'(by simpa using hi) := by simp
    simp only [this, List.set_getElem_self]
  · rw [hm2]
    refine ⟨by rw [List.length_set]; exact h.2.len, by rw [List.length_set]; exact World.ownsRow.kept h.2.row hg (by
      rcases blocks_apart hox h.2.row (by decide) with e | e
      · exact .inr (fun e' => by
          rw [e] at e'
          rcases h.2.row.2 with ⟨_, hn⟩ | ⟨g, cap, cur, rfl, _⟩
          · simp at hn; simp [hn] at hi
          · simp [Value.ownBlock] at e')
      · exact .inr (fun e' => e e'.symm)), fun j hj => ?_, h.2.apart⟩
    have hj' : j < (xs.map (·.2.2)).length := by simpa using hj
    obtain ⟨y, hy, hoy⟩ := h.2.body j hj'
    refine ⟨y, hy, ?_⟩
    by_cases e : i = j
    · subst e
      rw [hx] at hy
      simp only [Option.some.injEq] at hy
      subst hy
      simpa using ho
    · rw [show ((xs.map (·.2.2)).set i l)[j] = (xs.map (·.2.2))[j] from by simp [e]]
      refine World.ownsRow.kept hoy hg ?_
      have hp := List.pairwise_iff_getElem.1 h.2.apart
      have hiv : i < vs.length := by omega
      have hjv : j < vs.length := by have := h.2.len; omega
      have ei : vs[i] = x := by rw [List.getElem?_eq_getElem hiv] at hx; simpa using hx
      have ej : vs[j] = y := by rw [List.getElem?_eq_getElem hjv] at hy; simpa using hy
      rcases Nat.lt_or_ge i j with hij | hij
      · have := hp i j hiv hjv hij
        rw [ei, ej] at this
        cases hb : y.2.2.ownBlock with
        | none => exact .inl rfl
        | some g =>
          refine .inr fun e' => ?_
          rcases this with h1 | h1
          · rw [h1] at e'; cases e'
          · exact h1 (by rw [hb, e'])
      · have := hp j i hjv hiv (by omega)
        rw [ei, ej] at this
        exact this
set_option maxHeartbeats 1000000 in
theorem markSpanS_any (lo hi k : Nat) (a : Option Addr) (cap : Nat) (xs : List SP) (vs : List S3) (w : World) (hk : k + sumX xs ≤ 4503599627370496) (hown : OwnX w lo (.slice a xs.length cap) vs xs) (hrow : ∀ g, (Value.slice a xs.length cap).ownBlock = some g → g < hi) (hin : ∀ x ∈ vs.map (·.2.2), ∀ g, Value.ownBlock x = some g → g < hi) :
    Calls Try.prog 41 #[.slice a xs.length cap, .int .i64 (k : Int)] w fun e w' => e = .returned (.int .i64 ((k + sumX xs : Nat) : Int)) ∧ (∃ vs', OwnX w' lo (.slice a xs.length cap) vs' (marksX k xs)) ∧ Out lo hi w w' := by
  have hcl := count_le_sumX xs
  go_enter Try.func41, Try.ntmps41
  go_wp2
  go_loopw [1, 5] (fun s i wr => ∃ j : Nat, j ≤ xs.length ∧ i = .int .i64 j ∧ s = .int .i64 ((k + sumX (xs.take j) : Nat) : Int) ∧ (∃ vs', vs'.map (·.2.2) = vs.map (·.2.2) ∧ OwnX wr lo (.slice a xs.length cap) vs' (markedX k xs j)) ∧ Out lo hi w wr) (fun _ i _ => xs.length - (intOf i).toNat)
  case atStart => exact ⟨0, Nat.zero_le _, rfl, val_int (by simp [sumX]), ⟨vs, rfl, by rw [markedX_zero]; exact hown⟩, Out.refl _ _ _⟩
  case round =>
    obtain ⟨j, hj, rfl, rfl, ⟨vs1, hm1, hown'⟩, hout⟩ := hrel
    clear hown
    by_cases hlt : j < xs.length
    · have hml := markedX_length k xs j hj
      obtain ⟨g, rfl, -, hc⟩ := hown'.cells (by omega)
      obtain ⟨x, hx, c0, c1, c2, ho⟩ := hc j (by omega)
      have hat := markedX_at k xs j hlt (by omega)
      rw [hat] at ho c0 c1
      have hs1 := sumX_take_le xs (j + 1)
      have HS := hide (sumX_take_succ xs j hlt)
      have hs2 : k + sumX (xs.take j) + 2 ≤ 4503599627370496 := by have := HS.out; omega
      have hs3 : xs[j].2.2.length ≤ 4503599627370496 := by have := HS.out; omega
      obtain ⟨vs2, hm2, hown2, hg2⟩ := hown'.put (p := k + sumX (xs.take j)) (q := k + sumX (xs.take j) + 1) (i := j) (by omega)
      rw [hat] at hown2
      have hset := markedX_set k xs j hlt
      have hf0 := hown'.frozen (j * 3)
      have hf1 := hown'.frozen (j * 3 + 1)
      have hjl : j < ((markedX k xs j).set j (k + sumX (xs.take j), k + sumX (xs.take j) + 1, xs[j].2.2)).length := by rw [List.length_set]; omega
      obtain ⟨g', eg, -, hc'⟩ := hown2.cells (by omega)
      have eg' : g' = g := by simpa using eg.symm
      rw [eg'] at hc'
      obtain ⟨x2, hx2, -, -, d2, ho2⟩ := hc' j hjl
      rw [List.getElem_set_self] at ho2
      obtain ⟨ai, ci, hxe⟩ := ho2.slice
      simp only at hxe ho2
      rw [hxe] at d2 ho2
      have hgl := (World.ownsRow.lt hown'.2.row g rfl).1
      have hgh := hrow g rfl
      have hxin : ∀ b, x2.2.2.ownBlock = some b → b < hi := fun b hb => hin x2.2.2 (by rw [← hm1, ← hm2]; exact List.mem_map.2 ⟨x2, List.mem_of_getElem? hx2, rfl⟩) b hb
      have hbset := fun (w1 : World) (o1 : OwnB w1 lo (.slice ai xs[j].2.2.length ci) (marks (k + sumX (xs.take j) + 2) xs[j].2.2.length)) (g1 : World.grownBy _ w1 (Value.slice ai xs[j].2.2.length ci).ownBlock) => OwnX.body_set (l := marks (k + sumX (xs.take j) + 2) xs[j].2.2.length) hown2 hjl hx2 (by rw [hxe]; exact o1) (by rw [List.getElem_set_self, hxe]; exact ho2) (by rw [hxe]; exact g1)
      simp only [List.getElem_set_self, List.set_set, hset] at hbset
      have e0 : iv (k + sumX (xs.take j)) = .int .i64 ((k : Int) + (sumX (xs.take j) : Int)) := val_int (by omega)
      have e1 : iv (k + sumX (xs.take j) + 1) = .int .i64 ((k : Int) + (sumX (xs.take j) : Int) + 1) := val_int (by omega)
      rw [e0, e1] at hg2 d2 ho2 hbset
      have HB := hide hbset
      have HM := hide (hm2.trans hm1)
      have HO2 := hide ho2
      have HG2 := hide hg2
      have HOUT := hide hout
      have HXI := hide hxin
      rw [hxe] at HXI
      clear hbset hown' hown2 hc hc' hx hx2 c2 ho hat hml hset hjl e0 e1 hm1 hm2 hout hg2 ho2 hin hrow hs1 hxin eg eg' hxe
      generalize xs[j].1 = y0 at c0
      generalize xs[j].2.1 = y1 at c1
      generalize sumX (xs.take j) = s0 at *
      go_wp2_with fail
      refine (markByteS_any lo ai ci (k + s0 + 2) xs[j].2.2 _ hs2 hs3 HO2.out).mono ?_
      rintro e w1 ⟨rfl, o1, g1, z1⟩
      have HX := hide (show (∃ vs', vs'.map (·.2.2) = vs.map (·.2.2) ∧ OwnX w1 lo (.slice (some ⟨g, 0, none⟩) xs.length cap) vs' (markedX k xs (j + 1))) ∧ Out lo hi w w1 from ⟨⟨vs2, HM.out, HB.out w1 o1 g1⟩, (HOUT.out.trans (Out.of_grown HG2.out (fun b hb => by simp only [Option.some.injEq] at hb; omega))).trans (Out.of_grown g1 (fun b hb => ⟨(World.ownsRow.lt HO2.out b hb).1, HXI.out b hb⟩))⟩)
      clear HB HM HO2 HG2 HOUT HXI o1 g1 z1 d2
      go_wp2
      go_roundw
      case rel => exact ⟨j + 1, by omega, by go_num, val_int (by rw [HS.out]; omega), HX.out.1, HX.out.2⟩
      case measure => simp [intOf]; omega
    · obtain rfl : j = xs.length := by omega
      rw [markedX_len] at hown'
      go_wp2
      go_ret
      exact ⟨ret_int (by simp), ⟨vs1, hown'⟩, hout⟩
end Go.Proofs.Ytknnpgffdbkfnaa
