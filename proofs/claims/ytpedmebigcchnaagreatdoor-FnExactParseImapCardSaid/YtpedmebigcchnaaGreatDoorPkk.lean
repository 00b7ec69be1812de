import Derived.Test.YtpedmebigcchnaaGreatDoorPkb
import Derived.Test.YtpedmebigcchnaaGreatDoorPkg
import Derived.Test.YtpedmebigcchnaaGreatDoorPkj
namespace Go.Proofs.YtpedmebigcchnaaGreatDoor
open Go.RowKit
theorem Tryz.infoStr : (Tryz.prog.info? 9).map (fun i => (i.zero, i.size, i.bytes)) = some (some (.string ⟨#[]⟩), 1, 16) := by kernel_rfl
/-- A row of strings of the call's own, by what it holds. -/
def OwnT (w : World) (base : Nat) (v : Value) (xs : List ByteArray) : Prop := w.ownsRow base 9 1 v xs.length (xs.map Value.string)
theorem OwnT.nil (w : World) (base : Nat) : OwnT w base (.slice none 0 0) [] := ⟨rfl, .inl ⟨rfl, rfl⟩⟩
theorem OwnT.at {w : World} {base : Nat} {v : Value} {xs : List ByteArray} (h : OwnT w base v xs) : (v = .slice none 0 0 ∧ xs = []) ∨ ∃ g cap, v = .slice (some ⟨g, 0, none⟩) xs.length cap ∧ g < w.heap.size ∧ base ≤ g ∧ xs.length ≤ cap ∧ ∀ (j : Nat) x, xs[j]? = some x → w.cell? ⟨g, 0 + j, none⟩ = some (.string x) := by
  rcases h.2 with ⟨hv, hn⟩ | ⟨g, cap', cur, h', hb, hg, hnc, hcm, hcs, hx⟩
  · exact .inl ⟨hv, List.length_eq_zero_iff.1 hn⟩
  · refine .inr ⟨g, cap', h', lt_of_block hg, hb, hnc, fun j x hj => ?_⟩
    rw [cell_of_row w g _ _ _ (0, 0) hg, Nat.zero_add]
    have h3 : (cur.toList.take (xs.length * 1))[j]? = some (.string x) := by rw [hx]; simp [hj]
    have hjl : j < xs.length := (List.getElem?_eq_some_iff.1 hj).1
    rw [List.getElem?_take_of_lt (by omega)] at h3
    simpa using h3
theorem wpList_append_t {ops : Array Oper} {rest : List Oper} {o : Oper} {act : Act} {Q : Exit → Act → World → Prop} (w : World) (hgd : o.guard = none) (s x : Operand)
    (ho : o.op = .call { callee := .builtin .append, args := #[s, x], argTypes := #[60, 60] })
    (base : Nat) (v : Value) (xs : List ByteArray) (t : ByteArray) (g1 c : Nat) (hs : act.eval s = v) (hx : act.eval x = .slice (some ⟨g1, 0, none⟩) 1 c) (hown : OwnT w base v xs)
    (h0 : w.cell? ⟨g1, 0, none⟩ = some (.string t)) (hlen : xs.length ≤ 1048576) (hbase : base ≤ w.heap.size)
    (h : ∀ v' w', OwnT w' base v' (xs ++ [t]) → w.grownBy w' v.ownBlock → wpList Tryz.prog ops Q rest (act.put o.dst v') w') : wpList Tryz.prog ops Q (o :: rest) act w := by
  obtain ⟨i0, hi, hz0, hz1, hz2⟩ := info_parts Tryz.infoStr
  refine wpList_append_own w hgd s x 60 ho base 9 i0 (.string ⟨#[]⟩) 1 16 Tryz.underlying60 hi hz0 hz1 hz2 rfl (by decide) v xs.length (xs.map Value.string) hs hown ⟨g1, 0, none⟩ 1 c [.string t] hx (by simp) ?_ ?_ (by unfold maxLen; omega) (by omega) hbase ?_
  · intro j u hj
    rw [addr_add]
    match j with
    | 0 => simp only [List.getElem?_cons_zero, Option.some.injEq] at hj; rw [← hj]; exact h0
    | j + 1 => simp at hj
  · intro u hu
    simp only [List.mem_cons, List.not_mem_nil, or_false] at hu
    rw [hu]; rfl
  · intro v' w' hown2 hg _
    refine h v' w' ?_ hg
    unfold OwnT
    rw [List.length_append, List.map_append]
    exact hown2
end Go.Proofs.YtpedmebigcchnaaGreatDoor
namespace Go.Proofs.YtpedmebigcchnaaGreatDoor
open Go.RowKit
theorem ret_flags {fn : Func} {tmps : Array Value} {p : Tmp} (B : Nat) (W : World) (ok : Bool) (f : Int) (hf : fn.results = #[.cell p 45]) (hp : tmps.getD p undef = .pointer (some ⟨B, 0, none⟩)) (hb : W.heap[B]? = some (.cells #[.bool ok, .int .u32 f] 45 (0, 0))) :
    (results fn tmps).run Tryz.prog W = .ok (.agg #[.bool ok, .int .u32 f]) W :=
  results_cell_row (P := Tryz.prog) hf _ _ B _ _ _ _ hp hb Tryz.underlying45 rfl (by kernel_rfl)
end Go.Proofs.YtpedmebigcchnaaGreatDoor
namespace Go.Proofs.YtpedmebigcchnaaGreatDoor
open Go.RowKit
/-- What stands in brackets. -/
def brk (t : List UInt8) : Option (List UInt8) := if 2 ≤ t.length ∧ t.head? = some 40 ∧ t.getLast? = some 41 then some ((t.drop 1).take (t.length - 2)) else none
def accS (a : Option Nat) (w : List Nat) : Option Nat := match a, findK w with
  | some f, some k => some (f ||| 2 ^ k)
  | _, _ => none
/-- The flags that words name; none if one names none. -/
def accTo (ws : List (List Nat)) : Option Nat := ws.foldl accS (some 0)
theorem acc_none : ∀ ws : List (List Nat), ws.foldl accS none = none
  | [] => rfl
  | _ :: ws => by rw [List.foldl_cons]; exact acc_none ws
theorem acc_step {ws : List (List Nat)} {i f k : Nat} (hi : i < ws.length) (h : accTo (ws.take i) = some f) (hk : findK ws[i] = some k) : accTo (ws.take (i + 1)) = some (f ||| 2 ^ k) := by
  unfold accTo at h ⊢
  rw [List.take_succ_eq_append_getElem hi, List.foldl_append, h, List.foldl_cons, List.foldl_nil]
  unfold accS
  rw [hk]
theorem acc_stop {ws : List (List Nat)} {i : Nat} (hi : i < ws.length) (hk : findK ws[i] = none) : accTo ws = none := by
  unfold accTo
  rw [← List.take_append_drop i ws, List.foldl_append, List.drop_eq_getElem_cons hi, List.foldl_cons]
  have : accS (List.foldl accS (some 0) (ws.take i)) ws[i] = none := by
    unfold accS
    rw [hk]
    split
    · next h => cases h
    · rfl
  rw [this]
  exact acc_none _
theorem or_lt31 {f k : Nat} (hf : f < 2147483648) (hk : k < 31) : f ||| 2 ^ k < 2147483648 := Nat.or_lt_two_pow (n := 31) hf (Nat.pow_lt_pow_right (by decide) hk)
/-- What a text of flags tells. -/
def rfOf (t : List UInt8) : Option Nat := match brk t with
  | none => none
  | some i => if i = [] then some 0 else accTo ((splitOf 32 i).map fun l => l.map UInt8.toNat)
def RfPost (w : World) (r : Option Nat) (e : Ending) (w' : World) : Prop := e = .returned (.agg #[.bool r.isSome, .int .u32 ((r.getD 0 : Nat) : Int)]) ∧ Below w.heap.size w w'
/-- The bit that spec.ReadFlagList has found behind j names. -/
def bitTo (y : List Nat) : Nat → Int
  | 0 => -1
  | j + 1 => if fits y j then (j : Int) else bitTo y j
theorem bitTo_is (y : List Nat) : ∀ j, (bitTo y j = -1 ∧ ∀ i, i < j → fits y i = false) ∨ ∃ i, i < j ∧ fits y i = true ∧ bitTo y j = (i : Int)
  | 0 => .inl ⟨rfl, fun i h => by omega⟩
  | j + 1 => by
    cases hf : fits y j with
    | true => exact .inr ⟨j, by omega, hf, by rw [bitTo, hf]; rfl⟩
    | false =>
      have e : bitTo y (j + 1) = bitTo y j := by rw [bitTo, hf]; rfl
      rw [e]
      rcases bitTo_is y j with ⟨h1, h2⟩ | ⟨i, h1, h2, h3⟩
      · refine .inl ⟨h1, fun i hi => ?_⟩
        by_cases e : i = j
        · rw [e]; exact hf
        · exact h2 i (by omega)
      · exact .inr ⟨i, by omega, h2, h3⟩
theorem bitTo_end (y : List Nat) : (findK y = none ∧ bitTo y 31 = -1) ∨ ∃ k, k < 31 ∧ findK y = some k ∧ bitTo y 31 = (k : Int) := by
  rcases bitTo_is y 31 with ⟨h1, h2⟩ | ⟨i, h1, h2, h3⟩
  · exact .inl ⟨findK_none h2, h1⟩
  · exact .inr ⟨i, h1, findK_some h1 h2, h3⟩
theorem nameL_lt (j : Nat) (hj : j < 31) : ∀ x ∈ nameL j, x < 256 := by
  have h : ∀ j, j < 31 → ∀ x ∈ nameL j, x < 256 := by decide
  exact h j hj
theorem lo_lt {l : List Nat} (h : ∀ x ∈ l, x < 256) : ∀ x ∈ l.map loN, x < 256 := by
  intro x hx
  obtain ⟨n, hn, rfl⟩ := List.mem_map.1 hx
  have := h n hn
  unfold loN
  split <;> omega
theorem nameL_len (j : Nat) (hj : j < 31) : (nameL j).length ≤ 9 := by
  have h : ∀ j, j < 31 → (nameL j).length ≤ 9 := by decide
  exact h j hj
theorem fits_eq {y : List Nat} {j : Nat} (h : y = nameL j) : fits y j = true := by unfold fits; simp [h]
theorem fits_big {y : List Nat} {j : Nat} (h : y ≠ nameL j) (hj : ¬ j < 5) : fits y j = false := by unfold fits; simp [h, hj]
theorem fits_low {y : List Nat} {j : Nat} (h : y ≠ nameL j) (hj : j < 5) : fits y j = decide (y.map loN = (nameL j).map loN) := by unfold fits; simp [h, hj]
theorem or_nat' (a b : Nat) (ha : a < 4294967296) (hb : b < 4294967296) : bits .or .u32 (a : Int) (b : Int) = ((a ||| b : Nat) : Int) := u32_or_nat a b ha hb
/-- A block that holds flags. -/
def Bx (w : World) (g : Nat) (b : Bool) (y : Int) : Prop := w.heap[g]? = some (.cells #[.bool b, .int .u32 y] 45 (0, 0))
theorem Bx.c0 {w : World} {g : Nat} {b : Bool} {y : Int} (h : Bx w g b y) : w.cell? ⟨g, 0, none⟩ = some (.bool b) := by rw [cell_of_row w g 0 _ _ _ h]; rfl
theorem Bx.c1 {w : World} {g : Nat} {b : Bool} {y : Int} (h : Bx w g b y) : w.cell? ⟨g, 1, none⟩ = some (.int .u32 y) := by rw [cell_of_row w g 1 _ _ _ h]; rfl
theorem Bx.fz {w : World} {g : Nat} {b : Bool} {y : Int} (h : Bx w g b y) (j : Nat) : w.frozen? ⟨g, j, none⟩ = false := by unfold Bx at h; simp [World.frozen?, h]
theorem Bx.lt {w : World} {g : Nat} {b : Bool} {y : Int} (h : Bx w g b y) : g < w.heap.size := lt_of_block h
theorem Bx.below {B : Nat} {w w' : World} {g : Nat} {b : Bool} {y : Int} (h : Bx w g b y) (hb : Below B w w') (hg : g < B) : Bx w' g b y := (hb.block g hg).trans h
theorem Bx.set {w : World} {g : Nat} {b : Bool} {y : Int} (h : Bx w g b y) (b' : Bool) (y' : Int) : Bx ((w.setCell ⟨g, 0, none⟩ (.bool b')).setCell ⟨g, 1, none⟩ (.int .u32 y')) g b' y' := by
  unfold Bx
  rw [setCell_eq_setRow w g 0 _ _ _ _ h, setCell_eq_setRow _ g 1 _ _ _ _ (setRow_heap w g _ _ _ _ h), setRow_setRow, setRow_heap w g _ _ _ _ h]
  rfl
theorem Bx.set1 {w : World} {g : Nat} {b : Bool} {y : Int} (h : Bx w g b y) (y' : Int) : Bx (w.setCell ⟨g, 1, none⟩ (.int .u32 y')) g b y' := by
  unfold Bx
  rw [setCell_eq_setRow w g 1 _ _ _ _ h, setRow_heap w g _ _ _ _ h]
  rfl
theorem Bx.other {w : World} {g g' j : Nat} {b : Bool} {y : Int} {u : Value} (h : Bx w g b y) (hg : g ≠ g') : Bx (w.setCell ⟨g', j, none⟩ u) g b y := (heap_setCell_other w ⟨g', j, none⟩ g u (by simpa using hg)).trans h
theorem Bx.alloc {w : World} {g : Nat} {b : Bool} {y : Int} (h : Bx w g b y) (o : Obj) : Bx (w.alloc o) g b y := h.below ((Below.refl w.heap.size w).alloc (Nat.le_refl _) o) h.lt
theorem bx_new (w : World) (b : Bool) (y : Int) : Bx (w.alloc (.cells #[.bool b, .int .u32 y] 45)) w.heap.size b y := heap_alloc_new w _
/-- Words that lie somewhere from block lo on. -/
def WordsAt (w : World) (lo : Nat) (a : Option Addr) (ws : List ByteArray) : Prop := ∀ j (h : j < ws.length), ∃ gb, a = some ⟨gb, 0, none⟩ ∧ lo ≤ gb ∧ w.cell? ⟨gb, j, none⟩ = some (.string ws[j])
theorem WordsAt.below {w w' : World} {lo : Nat} {a : Option Addr} {ws : List ByteArray} (h : WordsAt w lo a ws) (hb : Below w.heap.size w w') : WordsAt w' lo a ws := fun j hj => by
  obtain ⟨gb, e, h1, h2⟩ := h j hj
  exact ⟨gb, e, h1, by rw [hb.cell (p := ⟨gb, j, none⟩) (lt_of_cell0 h2)]; exact h2⟩
theorem WordsAt.set {w : World} {lo g i : Nat} {a : Option Addr} {ws : List ByteArray} {u : Value} (h : WordsAt w lo a ws) (hg : g < lo) : WordsAt (w.setCell ⟨g, i, none⟩ u) lo a ws := fun j hj => by
  obtain ⟨gb, e, h1, h2⟩ := h j hj
  exact ⟨gb, e, h1, by rw [World.cell?_setCell_other _ _ _ _ (by intro e; simp only [Addr.mk.injEq] at e; omega)]; exact h2⟩
theorem ownT_words {w : World} {lo : Nat} {v : Value} {ws : List ByteArray} (h : OwnT w lo v ws) : ∃ a c, v = .slice a ws.length c ∧ WordsAt w lo a ws := by
  rcases h.at with ⟨rfl, h0⟩ | ⟨g, cap, rfl, hg, hgb, hcap, hcells⟩
  · exact ⟨none, 0, by rw [h0]; rfl, fun j h => by rw [h0] at h; cases h⟩
  · refine ⟨some ⟨g, 0, none⟩, cap, rfl, fun j h => ⟨g, rfl, hgb, ?_⟩⟩
    have hc := hcells j ws[j] (List.getElem?_eq_getElem h)
    rw [Nat.zero_add] at hc
    exact hc
theorem rf_no {w W : World} {r : Option Nat} (h : r = none) (hb : Below w.heap.size w W) : RfPost w r (.returned (.agg #[.bool false, .int .u32 0])) W := by subst h; exact ⟨rfl, hb⟩
theorem rf_yes {w W : World} {r : Option Nat} {f : Nat} (h : r = some f) (hb : Below w.heap.size w W) : RfPost w r (.returned (.agg #[.bool true, .int .u32 (f : Int)])) W := by subst h; exact ⟨rfl, hb⟩
end Go.Proofs.YtpedmebigcchnaaGreatDoor
