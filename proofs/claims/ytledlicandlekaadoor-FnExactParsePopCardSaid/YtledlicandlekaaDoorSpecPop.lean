import Derived.Test.YtledlicandlekaaDoorPopMath
import Derived.Test.YtledlicandlekaaDoorPopIm
import Derived.Test.YtledlicandlekaaDoorSpecWd
import Derived.Test.YtledlicandlekaaDoorCaseW
namespace Go.Proofs.YtledlicandlekaaDoor
open Go.RowKit Go.Lib
def loB (s : ByteArray) : ByteArray := strB ((bytesL s).map loN)
theorem up_lt {l : List Nat} (h : ∀ x ∈ l, x < 256) : ∀ x ∈ l.map upN, x < 256 := by
  intro x hx
  obtain ⟨n, hn, rfl⟩ := List.mem_map.1 hx
  have := h n hn
  unfold upN
  split <;> omega
theorem lo_lt' {l : List Nat} (h : ∀ x ∈ l, x < 256) : ∀ x ∈ l.map loN, x < 256 := by
  intro x hx
  obtain ⟨n, hn, rfl⟩ := List.mem_map.1 hx
  have := h n hn
  unfold loN
  split <;> omega
theorem lo_up (y : ByteArray) (c d : List Nat) (hc : c.map upN = c) (hd : c.map loN = d) (bc : ∀ x ∈ c, x < 256) (bd : ∀ x ∈ d, x < 256) : loB y = strB d ↔ upB y = strB c := by
  unfold loB upB
  constructor
  · intro h
    have h1 := strB_inj (lo_lt' (bytesL_lt y)) bd h
    rw [← hd] at h1
    have h2 := (fold_list (bytesL y) c).2 h1
    rw [h2, hc]
  · intro h
    have h1 := strB_inj (up_lt (bytesL_lt y)) bc h
    rw [← hc] at h1
    have h2 := (fold_list (bytesL y) c).1 h1
    rw [h2, hd]
theorem lo_yes {y : ByteArray} {c d : List Nat} {e : List UInt8} (h : upB y = strB c) (hc : c.map upN = c) (hd : c.map loN = d) (bc : ∀ x ∈ c, x < 256) (bd : ∀ x ∈ d, x < 256) (he : (strB d).data.toList = e) : ((loB y).toList == e) = true := by
  rw [(lo_up y c d hc hd bc bd).2 h, ByteArray.toList_eq, he]
  simp
theorem lo_no {y : ByteArray} {c d : List Nat} {e : List UInt8} (h : ¬ upB y = strB c) (hc : c.map upN = c) (hd : c.map loN = d) (bc : ∀ x ∈ c, x < 256) (bd : ∀ x ∈ d, x < 256) (he : (strB d).data.toList = e) : ((loB y).toList == e) = false := by
  rw [ByteArray.toList_eq, ← he]
  refine beq_eq_false_iff_ne.2 fun e2 => h ((lo_up y c d hc hd bc bd).1 ?_)
  exact ByteArray.ext (Array.toList_inj.1 e2)
theorem loB_any (y : ByteArray) (w : World) (hy : y.size ≤ 1048576) :
    Calls Tryd.prog 31 #[.string y] w fun e w' => e = .returned (.string (loB y)) ∧ Below w.heap.size w w' := by
  have h := lower_any (bytesL y) w (by rw [bytesL_len]; exact hy) (bytesL_lt y)
  rw [strB_bytesL] at h
  exact h
def PopPost (t : List UInt8) (w : World) (e : Ending) (w' : World) : Prop := e = .returned (.agg (cmP (popA t).1 (popA t).2)) ∧ Below w.heap.size w w'
theorem pop_post {t : List UInt8} {w W : World} {K N : Int} (h : popA t = (K, N)) (hb : Below w.heap.size w W) : PopPost t w (.returned (.agg (cmP K N))) W := by
  unfold PopPost
  rw [h]
  exact ⟨rfl, hb⟩
theorem popA_one {t : List UInt8} {y : ByteArray} (h : splitOf 32 t = [y.data.toList]) {m : Nat} {k : Int} (hv : vbOf (upB y) = some (m, k)) : popA t = if m = 1 then (0, 0) else (k, 0) := by
  unfold popA
  rw [h]
  show (match vbOf (upB y) with | some (m, k) => if m = 1 then ((0 : Int), (0 : Int)) else (k, 0) | none => (0, 0)) = _
  rw [hv]
theorem popA_one0 {t : List UInt8} {y : ByteArray} (h : splitOf 32 t = [y.data.toList]) (hv : vbOf (upB y) = none) : popA t = (0, 0) := by
  unfold popA
  rw [h]
  show (match vbOf (upB y) with | some (m, k) => if m = 1 then ((0 : Int), (0 : Int)) else (k, 0) | none => (0, 0)) = _
  rw [hv]
theorem popA_two {t : List UInt8} {y z : ByteArray} (h : splitOf 32 t = [y.data.toList, z.data.toList]) {m n : Nat} {k : Int} (hv : vbOf (upB y) = some (m, k)) (hn : numOf z.data.toList = some n) : popA t = if m = 0 then (0, 0) else (k, (n : Int)) := by
  unfold popA
  rw [h]
  show (match vbOf (upB y), numOf z.data.toList with | some (m, k), some n => if m = 0 then ((0 : Int), (0 : Int)) else (k, (n : Int)) | _, _ => (0, 0)) = _
  rw [hv, hn]
theorem popA_two0 {t : List UInt8} {y z : ByteArray} (h : splitOf 32 t = [y.data.toList, z.data.toList]) (hv : vbOf (upB y) = none ∨ numOf z.data.toList = none) : popA t = (0, 0) := by
  unfold popA
  rw [h]
  show (match vbOf (upB y), numOf z.data.toList with | some (m, k), some n => if m = 0 then ((0 : Int), (0 : Int)) else (k, (n : Int)) | _, _ => (0, 0)) = _
  rcases hv with hv | hv
  · rw [hv]
  · rw [hv]
    cases vbOf (upB y) <;> rfl
theorem popA_many {t : List UInt8} (h : 2 < (splitOf 32 t).length) : popA t = (0, 0) := by
  unfold popA
  cases hs : splitOf 32 t with
  | nil => rfl
  | cons a r =>
    cases r with
    | nil => rw [hs] at h; simp at h
    | cons b r =>
      cases r with
      | nil => rw [hs] at h; simp at h
      | cons c r => rfl
theorem vb_noop {u : ByteArray} (h : u = strB [78, 79, 79, 80]) : vbOf u = some (0, 1) := by subst h; kernel_rfl
theorem vb_quit {u : ByteArray} (h : u = strB [81, 85, 73, 84]) : vbOf u = some (0, 2) := by subst h; kernel_rfl
theorem vb_stat {u : ByteArray} (h : u = strB [83, 84, 65, 84]) : vbOf u = some (0, 3) := by subst h; kernel_rfl
theorem vb_rset {u : ByteArray} (h : u = strB [82, 83, 69, 84]) : vbOf u = some (0, 8) := by subst h; kernel_rfl
theorem vb_retr {u : ByteArray} (h : u = strB [82, 69, 84, 82]) : vbOf u = some (1, 6) := by subst h; kernel_rfl
theorem vb_dele {u : ByteArray} (h : u = strB [68, 69, 76, 69]) : vbOf u = some (1, 7) := by subst h; kernel_rfl
theorem vb_list {u : ByteArray} (h : u = strB [76, 73, 83, 84]) : vbOf u = some (2, 4) := by subst h; kernel_rfl
theorem vb_uidl {u : ByteArray} (h : u = strB [85, 73, 68, 76]) : vbOf u = some (2, 5) := by subst h; kernel_rfl
theorem vb_none {u : ByteArray} (h0 : ¬ u = strB [78, 79, 79, 80]) (h1 : ¬ u = strB [81, 85, 73, 84]) (h2 : ¬ u = strB [83, 84, 65, 84]) (h3 : ¬ u = strB [82, 83, 69, 84]) (h4 : ¬ u = strB [82, 69, 84, 82]) (h5 : ¬ u = strB [68, 69, 76, 69]) (h6 : ¬ u = strB [76, 73, 83, 84]) (h7 : ¬ u = strB [85, 73, 68, 76]) : vbOf u = none := by
  unfold vbOf
  rw [if_neg (show ¬ u = ⟨#[78, 79, 79, 80]⟩ from h0), if_neg (show ¬ u = ⟨#[81, 85, 73, 84]⟩ from h1), if_neg (show ¬ u = ⟨#[83, 84, 65, 84]⟩ from h2), if_neg (show ¬ u = ⟨#[82, 83, 69, 84]⟩ from h3), if_neg (show ¬ u = ⟨#[82, 69, 84, 82]⟩ from h4), if_neg (show ¬ u = ⟨#[68, 69, 76, 69]⟩ from h5), if_neg (show ¬ u = ⟨#[76, 73, 83, 84]⟩ from h6), if_neg (show ¬ u = ⟨#[85, 73, 68, 76]⟩ from h7)]
set_option maxRecDepth 20000 in
set_option maxHeartbeats 4000000 in
theorem specPop_any (a : Option Addr) (cap : Nat) (l : List Nat) (w : World) (hl : l.length ≤ 1048576) (hr : RowAt w a l) :
    Calls Tryd.prog 14 #[.slice a l.length cap] w (PopPost (strB l).data.toList w) := by
  have h0 := blk_new w (cmP 0 0) 36
  have hb0 := (Below.refl w.heap.size w).alloc (Nat.le_refl _) (.cells (cmP 0 0) 36)
  have htl : (strB l).data.toList.length = l.length := by
    have := strB_size l
    exact this
  by_cases hbig : 40 < l.length
  · have hi : (40 : Int) < (l.length : Int) := by omega
    have HP := hide (popA_long (t := (strB l).data.toList) (by omega))
    have H0 := hide h0
    have HB := hide hb0
    obtain ⟨p0, p1, p2, p3, p4, p5, p6, p7, p8⟩ := cmP_cells h0
    have fz := fun j => h0.fz j
    clear h0 hb0 hr
    unfold cmP at p0 p1 p2 p3 p4 p5 p6 p7 p8 fz
    go_enter Tryd.func14, Tryd.ntmps14
    go_wp2
    exact bodyPost_ret (ret_cmd w.heap.size _ (cmP 0 0) rfl rfl rfl H0.out) rfl (pop_post HP.out HB.out)
  · have hi : ¬ (40 : Int) < (l.length : Int) := by omega
    have HWD := hide (l5Words_any a cap l (w.alloc (.cells (cmP 0 0) 36)) (by omega) (hr.below hb0))
    have H0 := hide h0
    have HB0 := hide hb0
    clear h0 hb0 hr
    unfold cmP at HWD
    generalize (strB l).data.toList = t at HWD htl ⊢
    go_enter Tryd.func14, Tryd.ntmps14
    go_wp2_with fail
    refine HWD.out.mono ?_
    rintro e w1 ⟨v1, ws, rfl, ho1, hws, hb1⟩
    have hb1' : Below (w.alloc (.cells (cmP 0 0) 36)).heap.size (w.alloc (.cells (cmP 0 0) 36)) w1 := hb1
    have H1 := hide (show CmB w1 w.heap.size 0 0 from H0.out.below hb1' H0.out.lt)
    have HB1 := hide (HB0.out.trans (hb1'.mono HB0.out.size))
    have hsz : ∀ y ∈ ws, y.size ≤ 40 := fun y hy => by
      have hm : y.data.toList ∈ splitOf 32 t := by rw [← hws]; exact List.mem_map.2 ⟨y, hy, rfl⟩
      have h1 := splitOf_mem hm
      have h2 : y.data.toList.length = y.size := rfl
      omega
    have hwl : ws.length ≤ 41 := by
      have h1 := congrArg List.length hws
      rw [List.length_map] at h1
      have h2 := splitOf_len 32 t
      omega
    clear HWD hb1 hb1' H0 HB0
    rcases ho1.at with ⟨_, h0⟩ | ⟨g3, cap3, rfl, hg3, _, _, hcells⟩
    · exact absurd (by rw [← hws, h0]; rfl) (splitOf_ne 32 t)
    · by_cases h2 : 2 < ws.length
      · have h2i : (2 : Int) < (ws.length : Int) := by omega
        have HP := hide (popA_many (t := t) (by rw [← hws, List.length_map]; exact h2))
        obtain ⟨p0, p1, p2, p3, p4, p5, p6, p7, p8⟩ := cmP_cells H1.out
        have fz := fun j => H1.out.fz j
        clear hcells ho1 hws hsz
        go_wp2
        exact bodyPost_ret (ret_cmd w.heap.size _ (cmP 0 0) rfl rfl rfl (set9 H1.out)) rfl (pop_post HP.out (below9 HB1.out (Nat.le_refl _) _ _ _ _ _ _ _ _ _))
      · match ws, hcells, hws, hsz, h2 with
        | [], _, hws, _, _ => exact absurd hws.symm (splitOf_ne 32 t)
        | [y], hcells, hws, hsz, _ =>
          have hc0 := hcells 0 y rfl
          have hyz := hsz y (by simp)
          have HLO := hide (fun W => loB_any y W (by omega))
          have HS := hide (show splitOf 32 t = [y.data.toList] from hws.symm)
          rw [Nat.zero_add] at hc0
          clear hcells ho1 hws hsz h2
          simp only [List.length_cons, List.length_nil, Nat.zero_add]
          go_wp2_with fail
          refine (HLO.out w1).mono ?_
          rintro e w2 ⟨rfl, hb2⟩
          have H2 := hide (show CmB w2 w.heap.size 0 0 from H1.out.below hb2 H1.out.lt)
          have HB2 := hide (HB1.out.trans (hb2.mono HB1.out.size))
          obtain ⟨p0, p1, p2, p3, p4, p5, p6, p7, p8⟩ := cmP_cells H2.out
          have fz := fun j => H2.out.fz j
          clear hb2 HB1 hc0 H1 HLO
          by_cases v0 : upB y = strB [78, 79, 79, 80]
          · have e0 := lo_yes (c := [78, 79, 79, 80]) (d := [110, 111, 111, 112]) (e := [110, 111, 111, 112]) v0 (by decide) (by decide) (by decide) (by decide) rfl
            have HP := hide (popA_one HS.out (vb_noop v0))
            clear v0
            generalize loB y = lo at e0 ⊢
            go_wp2
            exact bodyPost_ret (ret_cmd w.heap.size _ (cmP 1 0) rfl rfl rfl (set9 H2.out)) rfl (pop_post HP.out (below9 HB2.out (Nat.le_refl _) _ _ _ _ _ _ _ _ _))
          have e0 := lo_no (c := [78, 79, 79, 80]) (d := [110, 111, 111, 112]) (e := [110, 111, 111, 112]) v0 (by decide) (by decide) (by decide) (by decide) rfl
          by_cases v1 : upB y = strB [81, 85, 73, 84]
          · have e1 := lo_yes (c := [81, 85, 73, 84]) (d := [113, 117, 105, 116]) (e := [113, 117, 105, 116]) v1 (by decide) (by decide) (by decide) (by decide) rfl
            have HP := hide (popA_one HS.out (vb_quit v1))
            clear v1
            generalize loB y = lo at e0 e1 ⊢
            go_wp2
            exact bodyPost_ret (ret_cmd w.heap.size _ (cmP 2 0) rfl rfl rfl (set9 H2.out)) rfl (pop_post HP.out (below9 HB2.out (Nat.le_refl _) _ _ _ _ _ _ _ _ _))
          have e1 := lo_no (c := [81, 85, 73, 84]) (d := [113, 117, 105, 116]) (e := [113, 117, 105, 116]) v1 (by decide) (by decide) (by decide) (by decide) rfl
          by_cases v2 : upB y = strB [83, 84, 65, 84]
          · have e2 := lo_yes (c := [83, 84, 65, 84]) (d := [115, 116, 97, 116]) (e := [115, 116, 97, 116]) v2 (by decide) (by decide) (by decide) (by decide) rfl
            have HP := hide (popA_one HS.out (vb_stat v2))
            clear v2
            generalize loB y = lo at e0 e1 e2 ⊢
            go_wp2
            exact bodyPost_ret (ret_cmd w.heap.size _ (cmP 3 0) rfl rfl rfl (set9 H2.out)) rfl (pop_post HP.out (below9 HB2.out (Nat.le_refl _) _ _ _ _ _ _ _ _ _))
          have e2 := lo_no (c := [83, 84, 65, 84]) (d := [115, 116, 97, 116]) (e := [115, 116, 97, 116]) v2 (by decide) (by decide) (by decide) (by decide) rfl
          by_cases v3 : upB y = strB [82, 83, 69, 84]
          · have e3 := lo_yes (c := [82, 83, 69, 84]) (d := [114, 115, 101, 116]) (e := [114, 115, 101, 116]) v3 (by decide) (by decide) (by decide) (by decide) rfl
            have HP := hide (popA_one HS.out (vb_rset v3))
            clear v3
            generalize loB y = lo at e0 e1 e2 e3 ⊢
            go_wp2
            exact bodyPost_ret (ret_cmd w.heap.size _ (cmP 8 0) rfl rfl rfl (set9 H2.out)) rfl (pop_post HP.out (below9 HB2.out (Nat.le_refl _) _ _ _ _ _ _ _ _ _))
          have e3 := lo_no (c := [82, 83, 69, 84]) (d := [114, 115, 101, 116]) (e := [114, 115, 101, 116]) v3 (by decide) (by decide) (by decide) (by decide) rfl
          by_cases v4 : upB y = strB [76, 73, 83, 84]
          · have e4 := lo_yes (c := [76, 73, 83, 84]) (d := [108, 105, 115, 116]) (e := [108, 105, 115, 116]) v4 (by decide) (by decide) (by decide) (by decide) rfl
            have HP := hide (popA_one HS.out (vb_list v4))
            clear v4
            generalize loB y = lo at e0 e1 e2 e3 e4 ⊢
            go_wp2
            exact bodyPost_ret (ret_cmd w.heap.size _ (cmP 4 0) rfl rfl rfl (set9 H2.out)) rfl (pop_post HP.out (below9 HB2.out (Nat.le_refl _) _ _ _ _ _ _ _ _ _))
          have e4 := lo_no (c := [76, 73, 83, 84]) (d := [108, 105, 115, 116]) (e := [108, 105, 115, 116]) v4 (by decide) (by decide) (by decide) (by decide) rfl
          by_cases v5 : upB y = strB [85, 73, 68, 76]
          · have e5 := lo_yes (c := [85, 73, 68, 76]) (d := [117, 105, 100, 108]) (e := [117, 105, 100, 108]) v5 (by decide) (by decide) (by decide) (by decide) rfl
            have HP := hide (popA_one HS.out (vb_uidl v5))
            clear v5
            generalize loB y = lo at e0 e1 e2 e3 e4 e5 ⊢
            go_wp2
            exact bodyPost_ret (ret_cmd w.heap.size _ (cmP 5 0) rfl rfl rfl (set9 H2.out)) rfl (pop_post HP.out (below9 HB2.out (Nat.le_refl _) _ _ _ _ _ _ _ _ _))
          have e5 := lo_no (c := [85, 73, 68, 76]) (d := [117, 105, 100, 108]) (e := [117, 105, 100, 108]) v5 (by decide) (by decide) (by decide) (by decide) rfl
          by_cases v6 : upB y = strB [82, 69, 84, 82]
          · have e6 := lo_yes (c := [82, 69, 84, 82]) (d := [114, 101, 116, 114]) (e := [114, 101, 116, 114]) v6 (by decide) (by decide) (by decide) (by decide) rfl
            have HP := hide (popA_one HS.out (vb_retr v6))
            clear v6
            generalize loB y = lo at e0 e1 e2 e3 e4 e5 e6 ⊢
            go_wp2
            exact bodyPost_ret (ret_cmd w.heap.size _ (cmP 0 0) rfl rfl rfl (set9 H2.out)) rfl (pop_post HP.out (below9 HB2.out (Nat.le_refl _) _ _ _ _ _ _ _ _ _))
          have e6 := lo_no (c := [82, 69, 84, 82]) (d := [114, 101, 116, 114]) (e := [114, 101, 116, 114]) v6 (by decide) (by decide) (by decide) (by decide) rfl
          by_cases v7 : upB y = strB [68, 69, 76, 69]
          · have e7 := lo_yes (c := [68, 69, 76, 69]) (d := [100, 101, 108, 101]) (e := [100, 101, 108, 101]) v7 (by decide) (by decide) (by decide) (by decide) rfl
            have HP := hide (popA_one HS.out (vb_dele v7))
            clear v7
            generalize loB y = lo at e0 e1 e2 e3 e4 e5 e6 e7 ⊢
            go_wp2
            exact bodyPost_ret (ret_cmd w.heap.size _ (cmP 0 0) rfl rfl rfl (set9 H2.out)) rfl (pop_post HP.out (below9 HB2.out (Nat.le_refl _) _ _ _ _ _ _ _ _ _))
          have e7 := lo_no (c := [68, 69, 76, 69]) (d := [100, 101, 108, 101]) (e := [100, 101, 108, 101]) v7 (by decide) (by decide) (by decide) (by decide) rfl
          have HP := hide (popA_one0 HS.out (vb_none v0 v1 v2 v3 v6 v7 v4 v5))
          clear v0 v1 v2 v3 v4 v5 v6 v7
          generalize loB y = lo at e0 e1 e2 e3 e4 e5 e6 e7 ⊢
          go_wp2
          exact bodyPost_ret (ret_cmd w.heap.size _ (cmP 0 0) rfl rfl rfl (set9 H2.out)) rfl (pop_post HP.out (below9 HB2.out (Nat.le_refl _) _ _ _ _ _ _ _ _ _))
        | [y, y2], hcells, hws, hsz, _ =>
          have hc0 := hcells 0 y rfl
          have hc1 := hcells 1 y2 rfl
          have hyz := hsz y (by simp)
          have hzz := hsz y2 (by simp)
          have HLO := hide (fun W => loB_any y W (by omega))
          have HS := hide (show splitOf 32 t = [y.data.toList, y2.data.toList] from hws.symm)
          rw [Nat.zero_add] at hc0 hc1
          clear hcells ho1 hws hsz h2
          simp only [List.length_cons, List.length_nil, Nat.zero_add]
          go_wp2_with fail
          refine (l5Num_any y2 1 4294967295 w1 (by omega) (by omega)).mono ?_
          rintro e w1' ⟨n, ok, rfl, hN, hbn⟩
          have hc0' : w1'.cell? ⟨g3, 0, none⟩ = some (.string y) := (hbn.cell (p := ⟨g3, 0, none⟩) (lt_of_cell0 hc0)).trans hc0
          have H1' := hide (show CmB w1' w.heap.size 0 0 from H1.out.below hbn H1.out.lt)
          have HB1' := hide (HB1.out.trans (hbn.mono HB1.out.size))
          clear hbn HB1 hc0 hc1 H1
          cases ok with
          | false =>
            have HP := hide (popA_two0 HS.out (.inr (numOf_no (x := y2.data.toList) (by
              rcases hN with ⟨h, _⟩ | ⟨_, h⟩
              · cases h
              · exact h))))
            obtain ⟨p0, p1, p2, p3, p4, p5, p6, p7, p8⟩ := cmP_cells H1'.out
            have fz := fun j => H1'.out.fz j
            clear hN hc0' HLO
            go_wp2
            exact bodyPost_ret (ret_cmd w.heap.size _ (cmP 0 0) rfl rfl rfl (set9 H1'.out)) rfl (pop_post HP.out (below9 HB1'.out (Nat.le_refl _) _ _ _ _ _ _ _ _ _))
          | true =>
            have hN' : y2.data.toList = decDigits n ∧ 1 ≤ n ∧ n ≤ 4294967295 := by
              rcases hN with ⟨_, h⟩ | ⟨h, _⟩
              · exact h
              · cases h
            have HN := hide (numOf_yes hN'.1 hN'.2.1 hN'.2.2)
            have hn1 : (1 : Int) ≤ (n : Int) := by omega
            have hn2 : (n : Int) ≤ 4294967295 := by omega
            have hn0 : (0 : Int) < (n : Int) := by omega
            have HQ := hide (fun (m : Nat) (k : Int) (hv : vbOf (upB y) = some (m, k)) => popA_two HS.out hv HN.out)
            clear hN hN'
            generalize (n : Int) = z at HQ hn0 hn1 hn2 ⊢
            have hn3 : ¬ z ≤ 0 := by omega
            go_wp2_with fail
            refine (HLO.out w1').mono ?_
            rintro e w2 ⟨rfl, hb2⟩
            have H2 := hide (show CmB w2 w.heap.size 0 0 from H1'.out.below hb2 H1'.out.lt)
            have HB2 := hide (HB1'.out.trans (hb2.mono HB1'.out.size))
            obtain ⟨p0, p1, p2, p3, p4, p5, p6, p7, p8⟩ := cmP_cells H2.out
            have fz := fun j => H2.out.fz j
            clear hb2 HB1' hc0' H1' HLO
            by_cases v0 : upB y = strB [78, 79, 79, 80]
            · have e0 := lo_yes (c := [78, 79, 79, 80]) (d := [110, 111, 111, 112]) (e := [110, 111, 111, 112]) v0 (by decide) (by decide) (by decide) (by decide) rfl
              have HP := hide (HQ.out _ _ (vb_noop v0))
              clear v0
              generalize loB y = lo at e0 ⊢
              go_wp2
              exact bodyPost_ret (ret_cmd w.heap.size _ (cmP 0 0) rfl rfl rfl (set9 H2.out)) rfl (pop_post HP.out (below9 HB2.out (Nat.le_refl _) _ _ _ _ _ _ _ _ _))
            have e0 := lo_no (c := [78, 79, 79, 80]) (d := [110, 111, 111, 112]) (e := [110, 111, 111, 112]) v0 (by decide) (by decide) (by decide) (by decide) rfl
            by_cases v1 : upB y = strB [81, 85, 73, 84]
            · have e1 := lo_yes (c := [81, 85, 73, 84]) (d := [113, 117, 105, 116]) (e := [113, 117, 105, 116]) v1 (by decide) (by decide) (by decide) (by decide) rfl
              have HP := hide (HQ.out _ _ (vb_quit v1))
              clear v1
              generalize loB y = lo at e0 e1 ⊢
              go_wp2
              exact bodyPost_ret (ret_cmd w.heap.size _ (cmP 0 0) rfl rfl rfl (set9 H2.out)) rfl (pop_post HP.out (below9 HB2.out (Nat.le_refl _) _ _ _ _ _ _ _ _ _))
            have e1 := lo_no (c := [81, 85, 73, 84]) (d := [113, 117, 105, 116]) (e := [113, 117, 105, 116]) v1 (by decide) (by decide) (by decide) (by decide) rfl
            by_cases v2 : upB y = strB [83, 84, 65, 84]
            · have e2 := lo_yes (c := [83, 84, 65, 84]) (d := [115, 116, 97, 116]) (e := [115, 116, 97, 116]) v2 (by decide) (by decide) (by decide) (by decide) rfl
              have HP := hide (HQ.out _ _ (vb_stat v2))
              clear v2
              generalize loB y = lo at e0 e1 e2 ⊢
              go_wp2
              exact bodyPost_ret (ret_cmd w.heap.size _ (cmP 0 0) rfl rfl rfl (set9 H2.out)) rfl (pop_post HP.out (below9 HB2.out (Nat.le_refl _) _ _ _ _ _ _ _ _ _))
            have e2 := lo_no (c := [83, 84, 65, 84]) (d := [115, 116, 97, 116]) (e := [115, 116, 97, 116]) v2 (by decide) (by decide) (by decide) (by decide) rfl
            by_cases v3 : upB y = strB [82, 83, 69, 84]
            · have e3 := lo_yes (c := [82, 83, 69, 84]) (d := [114, 115, 101, 116]) (e := [114, 115, 101, 116]) v3 (by decide) (by decide) (by decide) (by decide) rfl
              have HP := hide (HQ.out _ _ (vb_rset v3))
              clear v3
              generalize loB y = lo at e0 e1 e2 e3 ⊢
              go_wp2
              exact bodyPost_ret (ret_cmd w.heap.size _ (cmP 0 0) rfl rfl rfl (set9 H2.out)) rfl (pop_post HP.out (below9 HB2.out (Nat.le_refl _) _ _ _ _ _ _ _ _ _))
            have e3 := lo_no (c := [82, 83, 69, 84]) (d := [114, 115, 101, 116]) (e := [114, 115, 101, 116]) v3 (by decide) (by decide) (by decide) (by decide) rfl
            by_cases v4 : upB y = strB [76, 73, 83, 84]
            · have e4 := lo_yes (c := [76, 73, 83, 84]) (d := [108, 105, 115, 116]) (e := [108, 105, 115, 116]) v4 (by decide) (by decide) (by decide) (by decide) rfl
              have HP := hide (HQ.out _ _ (vb_list v4))
              clear v4
              generalize loB y = lo at e0 e1 e2 e3 e4 ⊢
              go_wp2
              exact bodyPost_ret (ret_cmd w.heap.size _ (cmP 4 z) rfl rfl rfl (set9 H2.out)) rfl (pop_post HP.out (below9 HB2.out (Nat.le_refl _) _ _ _ _ _ _ _ _ _))
            have e4 := lo_no (c := [76, 73, 83, 84]) (d := [108, 105, 115, 116]) (e := [108, 105, 115, 116]) v4 (by decide) (by decide) (by decide) (by decide) rfl
            by_cases v5 : upB y = strB [85, 73, 68, 76]
            · have e5 := lo_yes (c := [85, 73, 68, 76]) (d := [117, 105, 100, 108]) (e := [117, 105, 100, 108]) v5 (by decide) (by decide) (by decide) (by decide) rfl
              have HP := hide (HQ.out _ _ (vb_uidl v5))
              clear v5
              generalize loB y = lo at e0 e1 e2 e3 e4 e5 ⊢
              go_wp2
              exact bodyPost_ret (ret_cmd w.heap.size _ (cmP 5 z) rfl rfl rfl (set9 H2.out)) rfl (pop_post HP.out (below9 HB2.out (Nat.le_refl _) _ _ _ _ _ _ _ _ _))
            have e5 := lo_no (c := [85, 73, 68, 76]) (d := [117, 105, 100, 108]) (e := [117, 105, 100, 108]) v5 (by decide) (by decide) (by decide) (by decide) rfl
            by_cases v6 : upB y = strB [82, 69, 84, 82]
            · have e6 := lo_yes (c := [82, 69, 84, 82]) (d := [114, 101, 116, 114]) (e := [114, 101, 116, 114]) v6 (by decide) (by decide) (by decide) (by decide) rfl
              have HP := hide (HQ.out _ _ (vb_retr v6))
              clear v6
              generalize loB y = lo at e0 e1 e2 e3 e4 e5 e6 ⊢
              go_wp2
              exact bodyPost_ret (ret_cmd w.heap.size _ (cmP 6 z) rfl rfl rfl (set9 H2.out)) rfl (pop_post HP.out (below9 HB2.out (Nat.le_refl _) _ _ _ _ _ _ _ _ _))
            have e6 := lo_no (c := [82, 69, 84, 82]) (d := [114, 101, 116, 114]) (e := [114, 101, 116, 114]) v6 (by decide) (by decide) (by decide) (by decide) rfl
            by_cases v7 : upB y = strB [68, 69, 76, 69]
            · have e7 := lo_yes (c := [68, 69, 76, 69]) (d := [100, 101, 108, 101]) (e := [100, 101, 108, 101]) v7 (by decide) (by decide) (by decide) (by decide) rfl
              have HP := hide (HQ.out _ _ (vb_dele v7))
              clear v7
              generalize loB y = lo at e0 e1 e2 e3 e4 e5 e6 e7 ⊢
              go_wp2
              exact bodyPost_ret (ret_cmd w.heap.size _ (cmP 7 z) rfl rfl rfl (set9 H2.out)) rfl (pop_post HP.out (below9 HB2.out (Nat.le_refl _) _ _ _ _ _ _ _ _ _))
            have e7 := lo_no (c := [68, 69, 76, 69]) (d := [100, 101, 108, 101]) (e := [100, 101, 108, 101]) v7 (by decide) (by decide) (by decide) (by decide) rfl
            have HP := hide (popA_two0 HS.out (.inl (vb_none v0 v1 v2 v3 v6 v7 v4 v5)))
            clear v0 v1 v2 v3 v4 v5 v6 v7
            generalize loB y = lo at e0 e1 e2 e3 e4 e5 e6 e7 ⊢
            go_wp2
            exact bodyPost_ret (ret_cmd w.heap.size _ (cmP 0 0) rfl rfl rfl (set9 H2.out)) rfl (pop_post HP.out (below9 HB2.out (Nat.le_refl _) _ _ _ _ _ _ _ _ _))
        | _ :: _ :: _ :: _, _, _, _, h2 => exact absurd (by simp) h2
end Go.Proofs.YtledlicandlekaaDoor
