import Derived.Test.YtokcdpamcbpaiabDoorSpecRf
import Derived.Test.YtokcdpamcbpaiabDoorBytL
namespace Go.Proofs.YtokcdpamcbpaiabDoor
open Go.RowKit
def accS (a : Option Nat) (w : List Nat) : Option Nat := match a, findK w with
  | some f, some k => some (f ||| 2 ^ k)
  | _, _ => none
/-- The flags that words name; none if one names none. -/
def accTo (ws : List (List Nat)) : Option Nat := ws.foldl accS (some 0)
theorem acc_none : ∀ ws : List (List Nat), ws.foldl accS none = none
  | [] => rfl
  | _ :: ws => by rw [List.foldl_cons]; exact acc_none ws
theorem acc_step {ws : List (List Nat)} {i f k : Nat} (hi : i < ws.length) (h : accTo (ws.take i) = some f) (hk : findK ws[i] = some k) : accTo (ws.take (i + 1)) = some (f ||| 2 ^ k) := by
  unfold accTo at h ⊢
  rw [List.take_succ_eq_append_getElem hi, List.foldl_append, h, List.foldl_cons, List.foldl_nil]
  unfold accS
  rw [hk]
theorem acc_stop {ws : List (List Nat)} {i : Nat} (hi : i < ws.length) (hk : findK ws[i] = none) : accTo ws = none := by
  unfold accTo
  rw [← List.take_append_drop i ws, List.foldl_append, List.drop_eq_getElem_cons hi, List.foldl_cons]
  have : accS (List.foldl accS (some 0) (ws.take i)) ws[i] = none := by
    unfold accS
    rw [hk]
    split
    · next h => cases h
    · rfl
  rw [this]
  exact acc_none _
theorem or_lt31 {f k : Nat} (hf : f < 2147483648) (hk : k < 31) : f ||| 2 ^ k < 2147483648 := Nat.or_lt_two_pow (n := 31) hf (Nat.pow_lt_pow_right (by decide) hk)
/-- What a text of flags tells. -/
def rfOf (t : List UInt8) : Option Nat := match brk t with
  | none => none
  | some i => if i = [] then some 0 else accTo ((splitOf 32 i).map fun l => l.map UInt8.toNat)
def RfPost (w : World) (r : Option Nat) (e : Ending) (w' : World) : Prop := e = .returned (.agg #[.bool r.isSome, .int .u32 ((r.getD 0 : Nat) : Int)]) ∧ Below w.heap.size w w'
/-- The bit that spec.ReadFlagList has found behind j names. -/
def bitTo (y : List Nat) : Nat → Int
  | 0 => -1
  | j + 1 => if fits y j then (j : Int) else bitTo y j
theorem bitTo_is (y : List Nat) : ∀ j, (bitTo y j = -1 ∧ ∀ i, i < j → fits y i = false) ∨ ∃ i, i < j ∧ fits y i = true ∧ bitTo y j = (i : Int)
  | 0 => .inl ⟨rfl, fun i h => by omega⟩
  | j + 1 => by
    cases hf : fits y j with
    | true => exact .inr ⟨j, by omega, hf, by rw [bitTo, hf]; rfl⟩
    | false =>
      have e : bitTo y (j + 1) = bitTo y j := by rw [bitTo, hf]; rfl
      rw [e]
      rcases bitTo_is y j with ⟨h1, h2⟩ | ⟨i, h1, h2, h3⟩
      · refine .inl ⟨h1, fun i hi => ?_⟩
        by_cases e : i = j
        · rw [e]; exact hf
        · exact h2 i (by omega)
      · exact .inr ⟨i, by omega, h2, h3⟩
theorem bitTo_end (y : List Nat) : (findK y = none ∧ bitTo y 31 = -1) ∨ ∃ k, k < 31 ∧ findK y = some k ∧ bitTo y 31 = (k : Int) := by
  rcases bitTo_is y 31 with ⟨h1, h2⟩ | ⟨i, h1, h2, h3⟩
  · exact .inl ⟨findK_none h2, h1⟩
  · exact .inr ⟨i, h1, findK_some h1 h2, h3⟩
theorem nameL_lt (j : Nat) (hj : j < 31) : ∀ x ∈ nameL j, x < 256 := by
  have h : ∀ j, j < 31 → ∀ x ∈ nameL j, x < 256 := by decide
  exact h j hj
theorem lo_lt {l : List Nat} (h : ∀ x ∈ l, x < 256) : ∀ x ∈ l.map loN, x < 256 := by
  intro x hx
  obtain ⟨n, hn, rfl⟩ := List.mem_map.1 hx
  have := h n hn
  unfold loN
  split <;> omega
theorem nameL_len (j : Nat) (hj : j < 31) : (nameL j).length ≤ 9 := by
  have h : ∀ j, j < 31 → (nameL j).length ≤ 9 := by decide
  exact h j hj
theorem fits_eq {y : List Nat} {j : Nat} (h : y = nameL j) : fits y j = true := by unfold fits; simp [h]
theorem fits_big {y : List Nat} {j : Nat} (h : y ≠ nameL j) (hj : ¬ j < 5) : fits y j = false := by unfold fits; simp [h, hj]
theorem fits_low {y : List Nat} {j : Nat} (h : y ≠ nameL j) (hj : j < 5) : fits y j = decide (y.map loN = (nameL j).map loN) := by unfold fits; simp [h, hj]
theorem or_nat' (a b : Nat) (ha : a < 4294967296) (hb : b < 4294967296) : bits .or .u32 (a : Int) (b : Int) = ((a ||| b : Nat) : Int) := u32_or_nat a b ha hb
/-- A block that holds flags. -/
def Bx (w : World) (g : Nat) (b : Bool) (y : Int) : Prop := w.heap[g]? = some (.cells #[.bool b, .int .u32 y] 26 (0, 0))
theorem Bx.c0 {w : World} {g : Nat} {b : Bool} {y : Int} (h : Bx w g b y) : w.cell? ⟨g, 0, none⟩ = some (.bool b) := by rw [cell_of_row w g 0 _ _ _ h]; rfl
theorem Bx.c1 {w : World} {g : Nat} {b : Bool} {y : Int} (h : Bx w g b y) : w.cell? ⟨g, 1, none⟩ = some (.int .u32 y) := by rw [cell_of_row w g 1 _ _ _ h]; rfl
theorem Bx.fz {w : World} {g : Nat} {b : Bool} {y : Int} (h : Bx w g b y) (j : Nat) : w.frozen? ⟨g, j, none⟩ = false := by unfold Bx at h; simp [World.frozen?, h]
theorem Bx.lt {w : World} {g : Nat} {b : Bool} {y : Int} (h : Bx w g b y) : g < w.heap.size := lt_of_block h
theorem Bx.below {B : Nat} {w w' : World} {g : Nat} {b : Bool} {y : Int} (h : Bx w g b y) (hb : Below B w w') (hg : g < B) : Bx w' g b y := (hb.block g hg).trans h
theorem Bx.set {w : World} {g : Nat} {b : Bool} {y : Int} (h : Bx w g b y) (b' : Bool) (y' : Int) : Bx ((w.setCell ⟨g, 0, none⟩ (.bool b')).setCell ⟨g, 1, none⟩ (.int .u32 y')) g b' y' := by
  unfold Bx
  rw [setCell_eq_setRow w g 0 _ _ _ _ h, setCell_eq_setRow _ g 1 _ _ _ _ (setRow_heap w g _ _ _ _ h), setRow_setRow, setRow_heap w g _ _ _ _ h]
  rfl
theorem Bx.set1 {w : World} {g : Nat} {b : Bool} {y : Int} (h : Bx w g b y) (y' : Int) : Bx (w.setCell ⟨g, 1, none⟩ (.int .u32 y')) g b y' := by
  unfold Bx
  rw [setCell_eq_setRow w g 1 _ _ _ _ h, setRow_heap w g _ _ _ _ h]
  rfl
theorem Bx.other {w : World} {g g' j : Nat} {b : Bool} {y : Int} {u : Value} (h : Bx w g b y) (hg : g ≠ g') : Bx (w.setCell ⟨g', j, none⟩ u) g b y := (heap_setCell_other w ⟨g', j, none⟩ g u (by simpa using hg)).trans h
theorem Bx.alloc {w : World} {g : Nat} {b : Bool} {y : Int} (h : Bx w g b y) (o : Obj) : Bx (w.alloc o) g b y := h.below ((Below.refl w.heap.size w).alloc (Nat.le_refl _) o) h.lt
theorem bx_new (w : World) (b : Bool) (y : Int) : Bx (w.alloc (.cells #[.bool b, .int .u32 y] 26)) w.heap.size b y := heap_alloc_new w _
/-- Words that lie somewhere from block lo on. -/
def WordsAt (w : World) (lo : Nat) (a : Option Addr) (ws : List ByteArray) : Prop := ∀ j (h : j < ws.length), ∃ gb, a = some ⟨gb, 0, none⟩ ∧ lo ≤ gb ∧ w.cell? ⟨gb, j, none⟩ = some (.string ws[j])
theorem WordsAt.below {w w' : World} {lo : Nat} {a : Option Addr} {ws : List ByteArray} (h : WordsAt w lo a ws) (hb : Below w.heap.size w w') : WordsAt w' lo a ws := fun j hj => by
  obtain ⟨gb, e, h1, h2⟩ := h j hj
  exact ⟨gb, e, h1, by rw [hb.cell (p := ⟨gb, j, none⟩) (lt_of_cell0 h2)]; exact h2⟩
theorem WordsAt.set {w : World} {lo g i : Nat} {a : Option Addr} {ws : List ByteArray} {u : Value} (h : WordsAt w lo a ws) (hg : g < lo) : WordsAt (w.setCell ⟨g, i, none⟩ u) lo a ws := fun j hj => by
  obtain ⟨gb, e, h1, h2⟩ := h j hj
  exact ⟨gb, e, h1, by rw [World.cell?_setCell_other _ _ _ _ (by intro e; simp only [Addr.mk.injEq] at e; omega)]; exact h2⟩
theorem ownT_words {w : World} {lo : Nat} {v : Value} {ws : List ByteArray} (h : OwnT w lo v ws) : ∃ a c, v = .slice a ws.length c ∧ WordsAt w lo a ws := by
  rcases h.at with ⟨rfl, h0⟩ | ⟨g, cap, rfl, hg, hgb, hcap, hcells⟩
  · exact ⟨none, 0, by rw [h0]; rfl, fun j h => by rw [h0] at h; cases h⟩
  · refine ⟨some ⟨g, 0, none⟩, cap, rfl, fun j h => ⟨g, rfl, hgb, ?_⟩⟩
    have hc := hcells j ws[j] (List.getElem?_eq_getElem h)
    rw [Nat.zero_add] at hc
    exact hc
theorem rf_no {w W : World} {r : Option Nat} (h : r = none) (hb : Below w.heap.size w W) : RfPost w r (.returned (.agg #[.bool false, .int .u32 0])) W := by subst h; exact ⟨rfl, hb⟩
theorem rf_yes {w W : World} {r : Option Nat} {f : Nat} (h : r = some f) (hb : Below w.heap.size w W) : RfPost w r (.returned (.agg #[.bool true, .int .u32 (f : Int)])) W := by subst h; exact ⟨rfl, hb⟩
set_option maxRecDepth 20000 in
set_option maxHeartbeats 1000000 in
theorem specRf_any (s : ByteArray) (w : World) (hs : s.size ≤ 1048576) :
    Calls Tryd.prog 7 #[.string s] w (RfPost w (rfOf s.data.toList)) := by
  have hx0 := bx_new w false 0
  have hb0 := (Below.refl w.heap.size w).alloc (Nat.le_refl _) (.cells #[.bool false, .int .u32 0] 26)
  go_enter Tryd.func7, Tryd.ntmps7
  go_wp2_with fail
  have hz0 : (w.alloc (.cells #[.bool false, .int .u32 0] 26)).heap.size = w.heap.size + 1 := World.size_alloc ..
  generalize w.alloc (.cells #[.bool false, .int .u32 0] 26) = w0 at hx0 hb0 hz0 ⊢
  refine (l6Brackets_any s w0 (by omega)).mono ?_
  rintro e w1 ⟨⟨x, ok, rfl, hor⟩, n1, rfl⟩
  have HB1 := hide (below_drewN hb0 n1)
  have hx1 : Bx (w0.drewN n1) w.heap.size false 0 := hx0
  have hz1 : (w0.drewN n1).heap.size = w.heap.size + 1 := hz0
  generalize w0.drewN n1 = w1 at HB1 hx1 hz1 ⊢
  clear hx0 hb0 hz0
  have p0 := hx1.c0
  have p1 := hx1.c1
  have g0 := hx1.fz 0
  have g1 := hx1.fz 1
  have HX1 := hide hx1
  clear hx1
  rcases hor with ⟨rfl, hbk⟩ | ⟨rfl, hbk⟩
  · by_cases hxe : x.toList = []
    · have hxe2 : x.toList.isEmpty = true := by rw [hxe]; rfl
      have HR := hide (show rfOf s.data.toList = some 0 by unfold rfOf; rw [hbk]; simp only; rw [if_pos (by rw [← ByteArray.toList_eq]; exact hxe)])
      clear hbk hxe
      go_wp2
      exact bodyPost_ret (ret_flags w.heap.size _ true 0 rfl rfl ((HX1.out.set true 0).alloc _)) rfl (rf_yes (f := 0) HR.out (((HB1.out.setCell (p := ⟨w.heap.size, 0, none⟩) (Nat.le_refl _) _).setCell (p := ⟨w.heap.size, 1, none⟩) (Nat.le_refl _) _).alloc (by simp; omega) _))
    · have hxe2 : x.toList.isEmpty = false := by simpa using hxe
      have hxs : x.size ≤ 1048575 := by
        have h1 : brk s.data.toList = some x.data.toList := hbk
        unfold brk at h1
        split at h1
        · simp only [Option.some.injEq] at h1
          have h2 := congrArg List.length h1
          have h3 : x.data.toList.length = x.size := rfl
          have h4 : s.data.toList.length = s.size := rfl
          rw [List.length_take, List.length_drop] at h2
          omega
        · cases h1
      have HR := hide (show rfOf s.data.toList = accTo ((splitOf 32 x.data.toList).map fun l => l.map UInt8.toNat) by unfold rfOf; rw [hbk]; simp only; rw [if_neg (by rw [← ByteArray.toList_eq]; exact hxe)])
      clear hbk hxe
      have h2x := HX1.out.alloc (.cells #[.bool true, .int .u32 0] 26)
      have h2o := bx_new w1 true 0
      have HB2 := hide (HB1.out.alloc (by omega) (.cells #[.bool true, .int .u32 0] 26))
      have hz2 : (w1.alloc (.cells #[.bool true, .int .u32 0] 26)).heap.size = w.heap.size + 2 := by rw [World.size_alloc]; omega
      rw [hz1] at h2o
      clear p0 p1 g0 g1 HX1
      go_wp2_with fail
      generalize w1.alloc (.cells #[.bool true, .int .u32 0] 26) = w2 at h2x h2o HB2 hz2 ⊢
      have hsp := l6Split_any x 32 w2 hxs
      refine hsp.mono ?_
      rintro e w3 ⟨v3, ws, rfl, ho3, hws, hb3⟩
      have hwl : ws.length ≤ 1048576 := by
        have h1 := congrArg List.length hws
        rw [List.length_map] at h1
        have h2 := splitOf_len 32 x.data.toList
        have h3 : x.data.toList.length = x.size := rfl
        omega
      have hwsz : ∀ y ∈ ws, y.size ≤ 1048576 := fun y hy => by
        have hm : y.data.toList ∈ splitOf 32 x.data.toList := by rw [← hws]; exact List.mem_map.2 ⟨y, hy, rfl⟩
        have h1 := splitOf_mem hm
        have h2 : y.data.toList.length = y.size := rfl
        have h3 : x.data.toList.length = x.size := rfl
        omega
      have HR2 := hide (show rfOf s.data.toList = accTo (ws.map bytesL) by
        rw [HR.out, ← hws, List.map_map]; rfl)
      have HB3 := hide (HB2.out.trans (hb3.mono HB2.out.size))
      have h3x := h2x.below hb3 (by omega)
      have h3o := h2o.below hb3 (by omega)
      have hz3 : w.heap.size + 2 ≤ w3.heap.size := by have := hb3.size; omega
      clear h2x h2o HB2 hb3 hws hsp HR
      obtain ⟨g3, c3, rfl, hwd⟩ := ownT_words ho3
      rw [hz2] at hwd
      have HWD := hide hwd
      have HX3 := hide h3x
      have HO3 := hide h3o
      have HWZ := hide hwsz
      clear hwd h3x h3o ho3 hwsz
      go_wp2
      go_loopw [7, 8, 9, 10, 26] (fun _ _ _ _ i wr => ∃ (k F : Nat), k ≤ ws.length ∧ i = .int .i64 (k : Int) ∧ F < 2147483648 ∧ accTo ((ws.map bytesL).take k) = some F ∧ Bx wr w.heap.size false 0 ∧ Bx wr (w.heap.size + 1) true (F : Int) ∧ WordsAt wr (w.heap.size + 2) g3 ws ∧ Below w.heap.size w wr) (fun _ _ _ _ i _ => ws.length - (intOf i).toNat)
      case atStart => exact ⟨0, 0, Nat.zero_le _, rfl, by omega, rfl, HX3.out, HO3.out, HWD.out, HB3.out⟩
      case round =>
        obtain ⟨k, F, hk, rfl, hF, hacc, hx, ho, hwd, hb⟩ := hrel
        clear HX3 HO3 HWD HB3
        by_cases hlt : k < ws.length
        · obtain ⟨gb, rfl, _, hcell⟩ := hwd k hlt
          have hml : k < (ws.map bytesL).length := by rw [List.length_map]; exact hlt
          have hget : (ws.map bytesL)[k] = bytesL ws[k] := List.getElem_map ..
          have HACC := hide (fun kk (h : findK (bytesL ws[k]) = some kk) => acc_step hml hacc (hget.trans rfl ▸ h))
          have HSTOP := hide (fun (h : findK (bytesL ws[k]) = none) => HR2.out.trans (acc_stop hml (hget ▸ h)))
          have hysz := HWZ.out _ (List.getElem_mem hlt)
          have hyb := bytesL_lt ws[k]
          have hyl := bytesL_len ws[k]
          have hye := strB_bytesL ws[k]
          rw [← hye] at hcell
          generalize bytesL ws[k] = y at hcell HACC HSTOP hyb hyl
          have hyl2 : y.length ≤ 1048576 := by omega
          have HX := hide hx
          have HO := hide ho
          have HWD := hide hwd
          have HB := hide hb
          clear hx ho hwd hb hacc hye hyl hysz hget
          go_wp2
          have HKP := hide (fun (W : World) (hW : Below wr.heap.size wr W) => And.intro (HX.out.below hW HX.out.lt) (And.intro (HO.out.below hW HO.out.lt) (And.intro (HWD.out.below hW) (HB.out.trans (hW.mono HB.out.size)))))
          clear HX HO HWD HB
          go_loopw [8, 9, 10] (fun bv kv _ wi => ∃ j : Nat, j ≤ 31 ∧ kv = .int .i64 (j : Int) ∧ bv = .int .i64 (bitTo y j) ∧ Below wr.heap.size wr wi) (fun _ kv _ _ => 31 - (intOf kv).toNat)
          case atStart => exact ⟨0, by omega, rfl, rfl, Below.refl _ _⟩
          case round =>
            obtain ⟨j, hj, rfl, rfl, hbi⟩ := hrel
            by_cases hj31 : j < 31
            · have HBT := hide (show bitTo y (j + 1) = if fits y j then (j : Int) else bitTo y j from rfl)
              have HNM := hide (specName_any j wr hj31)
              have hbq := strB_beq hyb (nameL_lt j hj31)
              have HBI := hide hbi
              clear hbi
              generalize bitTo y j = B0 at HBT
              go_wp2_with fail
              refine HNM.out.mono ?_
              rintro e w5 ⟨rfl, hb5⟩
              have HB5 := hide (HBI.out.trans (hb5.mono HBI.out.size))
              clear hb5 HNM HBI
              by_cases hyn : y = nameL j
              · have HE : Hid (bitTo y (j + 1) = (j : Int)) := hide (by rw [HBT.out, fits_eq hyn]; rfl)
                rw [decide_eq_true hyn] at hbq
                clear HBT hyn
                generalize strB (nameL j) = nm at hbq ⊢
                go_wp2
                go_roundw
                case rel => exact ⟨j + 1, by omega, by go_num, by rw [HE.out], HB5.out⟩
                case measure => simp [intOf]; omega
              · rw [decide_eq_false hyn] at hbq
                by_cases hj5 : j < 5
                · have hj5i : (j : Int) < 5 := by omega
                  have HFL := hide (fits_low hyn hj5)
                  have HL1 := hide (fun W => lower_any y W hyl2 hyb)
                  have HL2 := hide (fun W => lower_any (nameL j) W (by have := nameL_len j hj31; omega) (nameL_lt j hj31))
                  have hlq := strB_beq (lo_lt hyb) (lo_lt (nameL_lt j hj31))
                  generalize strB (y.map loN) = ly at HL1 hlq
                  generalize strB ((nameL j).map loN) = ln at HL2 hlq
                  rw [← HFL.out] at hlq
                  generalize strB (nameL j) = nm at hbq HL2 ⊢
                  clear hyn HFL
                  go_wp2_with fail
                  refine (HL1.out w5).mono ?_
                  rintro e w6 ⟨rfl, hb6⟩
                  go_wp2_with fail
                  refine (HL2.out w6).mono ?_
                  rintro e w7 ⟨rfl, hb7⟩
                  have hb57 := hb6.trans (hb7.mono hb6.size)
                  have HB7 := hide (HB5.out.trans (hb57.mono HB5.out.size))
                  clear HL1 HL2 hb6 hb7 hb57 HB5
                  cases hft : fits y j with
                  | true =>
                    have HE : Hid (bitTo y (j + 1) = (j : Int)) := hide (by rw [HBT.out, hft]; rfl)
                    rw [hft] at hlq
                    clear HBT hft
                    go_wp2
                    go_roundw
                    case rel => exact ⟨j + 1, by omega, by go_num, by rw [HE.out], HB7.out⟩
                    case measure => simp [intOf]; omega
                  | false =>
                    have HE : Hid (bitTo y (j + 1) = B0) := hide (by rw [HBT.out, hft]; rfl)
                    rw [hft] at hlq
                    clear HBT hft
                    go_wp2
                    go_roundw
                    case rel => exact ⟨j + 1, by omega, by go_num, by rw [HE.out], HB7.out⟩
                    case measure => simp [intOf]; omega
                · have hj5i : ¬ (j : Int) < 5 := by omega
                  have HE : Hid (bitTo y (j + 1) = B0) := hide (by rw [HBT.out, fits_big hyn hj5]; rfl)
                  clear HBT hyn
                  generalize strB (nameL j) = nm at hbq ⊢
                  go_wp2
                  go_roundw
                  case rel => exact ⟨j + 1, by omega, by go_num, by rw [HE.out], HB5.out⟩
                  case measure => simp [intOf]; omega
            · obtain rfl : j = 31 := by omega
              obtain ⟨hx, ho, hwd, hb⟩ := HKP.out wr hbi
              clear hbi HKP
              rcases bitTo_end y with ⟨hfn, hbt⟩ | ⟨kk, hkk, hfs, hbt⟩
              · have HS := hide (HSTOP.out hfn)
                rw [hbt]
                have p0 := hx.c0
                have p1 := hx.c1
                have g0 := hx.fz 0
                have g1 := hx.fz 1
                have HX := hide hx
                have HB := hide hb
                clear hx ho hwd hb hfn hbt HACC HSTOP
                go_wp2
                exact bodyPost_ret (ret_flags w.heap.size _ false 0 rfl rfl (HX.out.set false 0)) rfl (rf_no HS.out ((HB.out.setCell (p := ⟨w.heap.size, 0, none⟩) (Nat.le_refl _) _).setCell (p := ⟨w.heap.size, 1, none⟩) (Nat.le_refl _) _))
              · have HA2 := hide (HACC.out kk hfs)
                rw [hbt]
                have hor2 := or_lt31 hF hkk
                have hob := or_nat' F (2 ^ kk) (by omega) (Nat.lt_of_lt_of_le (Nat.pow_lt_pow_right (by decide) hkk) (by decide))
                have q1 := ho.c1
                have g1 := ho.fz 1
                have HX := hide hx
                have HO := hide ho
                have HWD := hide hwd
                have HB := hide hb
                clear hx ho hwd hb hfs hbt HACC HSTOP
                have HV := hide (show bits .or .u32 (F : Int) ((2 : Int) ^ kk % 4294967296) = ((F ||| 2 ^ kk : Nat) : Int) by
                  have hp : (2 : Nat) ^ kk < 4294967296 := Nat.lt_of_lt_of_le (Nat.pow_lt_pow_right (by decide) hkk) (by decide)
                  have e : (2 : Int) ^ kk = ((2 ^ kk : Nat) : Int) := by simp
                  rw [e, show ((2 ^ kk : Nat) : Int) % 4294967296 = ((2 ^ kk : Nat) : Int) from Int.emod_eq_of_lt (Int.natCast_nonneg _) (show ((2 ^ kk : Nat) : Int) < ((4294967296 : Nat) : Int) from Int.ofNat_lt.2 hp)]
                  exact hob)
                clear hob
                go_wp2
                rw [HV.out]
                exact ⟨⟨k + 1, F ||| 2 ^ kk, by omega, by go_num, hor2, HA2.out, HX.out.other (by omega), HO.out.set1 _, HWD.out.set (by omega), HB.out.setCell (p := ⟨w.heap.size + 1, 1, none⟩) (by simp) _⟩, by simp [intOf]; omega⟩
        · obtain rfl : k = ws.length := by omega
          have HA2 := hide (show rfOf s.data.toList = some F by rw [HR2.out, ← hacc, List.take_of_length_le (by simp)])
          have p0 := hx.c0
          have p1 := hx.c1
          have g0 := hx.fz 0
          have g1 := hx.fz 1
          have q0 := ho.c0
          have q1 := ho.c1
          have HX := hide hx
          have HB := hide hb
          clear hx ho hwd hb hacc
          go_wp2
          exact bodyPost_ret (ret_flags w.heap.size _ true (F : Int) rfl rfl (HX.out.set true (F : Int))) rfl (rf_yes HA2.out ((HB.out.setCell (p := ⟨w.heap.size, 0, none⟩) (Nat.le_refl _) _).setCell (p := ⟨w.heap.size, 1, none⟩) (Nat.le_refl _) _))
  · have HR := hide (show rfOf s.data.toList = none by unfold rfOf; rw [hbk])
    clear hbk
    go_wp2
    exact bodyPost_ret (ret_flags w.heap.size _ false 0 rfl rfl (HX1.out.set false 0)) rfl (rf_no HR.out ((HB1.out.setCell (p := ⟨w.heap.size, 0, none⟩) (Nat.le_refl _) _).setCell (p := ⟨w.heap.size, 1, none⟩) (Nat.le_refl _) _))
end Go.Proofs.YtokcdpamcbpaiabDoor
