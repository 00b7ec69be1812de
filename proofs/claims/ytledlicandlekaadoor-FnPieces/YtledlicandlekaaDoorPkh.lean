import Derived.Test.YtledlicandlekaaDoorPka
import Derived.Test.YtledlicandlekaaDoorPkb
import Derived.Test.YtledlicandlekaaDoorShelf
import Derived.Test.YtledlicandlekaaDoorPkc
import Derived.Test.YtledlicandlekaaDoorShelfB
import Derived.Test.YtledlicandlekaaDoorPkd
import Derived.Test.YtledlicandlekaaDoorPke
import Derived.Test.YtledlicandlekaaDoorPkf
import Derived.Test.YtledlicandlekaaDoorPkg
import Derived.Lib.Builder
import Derived.Laws.BitsAllLaws
import Derived.Lib.SplitLaws
import Derived.Lib.IndexBytes
import Derived.Lib.IndexLaws
import Derived.Lib.CountLaws
import Derived.Lib.ConvBytes
namespace Go.Proofs.YtledlicandlekaaDoor
/-- The k-th byte of the code; past its end 0. -/
def nx (code : List Nat) (i : Nat) : Nat := code.getD i 0
def dataLen (c : Nat) : Nat := if c < 200 then c % 12 else c
def dataAt (code : List Nat) (i : Nat) : List Nat := (List.range (dataLen (nx code i))).map fun k => nx code (i + 1 + k)
def recAt (code : List Nat) (i : Nat) : List Nat := if dataAt code i = [] then [120] else dataAt code i
def recsGo (code : List Nat) : Nat → Nat → List (List Nat)
  | 0, _ => []
  | m + 1, i => recAt code i :: recsGo code m (i + 1 + dataLen (nx code i))
def drawOf (code : List Nat) : List (List Nat) :=
  recsGo code (nx code 1 % 9) 2 ++
    (if nx code 0 % 20 = 0 then [[]] else if nx code 0 % 20 = 1 then [List.replicate (2000 + nx code 0 / 20 % 2) 0] else if nx code 0 % 20 = 2 then List.replicate 19 (List.replicate 2000 0) ++ [List.replicate (1880 + nx code 0 / 20) 0] else [])
theorem nx_lt {code : List Nat} (h : ∀ x ∈ code, x < 256) (i : Nat) : nx code i < 256 := by
  unfold nx
  rcases Nat.lt_or_ge i code.length with h' | h'
  · simp [h']; exact h _ (List.getElem_mem h')
  · simp [List.getElem?_eq_none h']
theorem dataLen_lt {c : Nat} (h : c < 256) : dataLen c < 256 := by unfold dataLen; split <;> omega
theorem dataAt_length (code : List Nat) (i : Nat) : (dataAt code i).length = dataLen (nx code i) := by simp [dataAt]
theorem recsGo_length (code : List Nat) (m i : Nat) : (recsGo code m i).length = m := by
  induction m generalizing i with
  | zero => rfl
  | succ m ih => simp [recsGo, ih]
theorem recAt_ok {code : List Nat} (h : ∀ x ∈ code, x < 256) (i : Nat) : (recAt code i).length < 256 ∧ ∀ x ∈ recAt code i, x < 256 := by
  unfold recAt
  split
  · exact ⟨by simp, by intro x hx; simp at hx; omega⟩
  · refine ⟨by rw [dataAt_length]; exact dataLen_lt (nx_lt h i), fun x hx => ?_⟩
    simp only [dataAt, List.mem_map] at hx
    obtain ⟨k, _, rfl⟩ := hx
    exact nx_lt h _
theorem recsGo_ok {code : List Nat} (h : ∀ x ∈ code, x < 256) (m i : Nat) : ∀ l ∈ recsGo code m i, l.length ≤ 4000 ∧ ∀ x ∈ l, x < 256 := by
  induction m generalizing i with
  | zero => intro l hl; simp [recsGo] at hl
  | succ m ih =>
    intro l hl
    rcases List.mem_cons.1 hl with rfl | hl
    · exact ⟨by have := (recAt_ok h i).1; omega, (recAt_ok h i).2⟩
    · exact ih _ l hl
theorem drawOf_ok {code : List Nat} (h : ∀ x ∈ code, x < 256) : (drawOf code).length ≤ 100 ∧ ∀ l ∈ drawOf code, l.length ≤ 4000 ∧ ∀ x ∈ l, x < 256 := by
  have h0 := nx_lt h 0
  constructor
  · unfold drawOf
    rw [List.length_append, recsGo_length]
    have : nx code 1 % 9 < 9 := Nat.mod_lt _ (by decide)
    split
    · simp only [List.length_cons, List.length_nil]; omega
    · split
      · simp only [List.length_cons, List.length_nil]; omega
      · split
        · rw [List.length_append, List.length_replicate]; simp only [List.length_cons, List.length_nil]; omega
        · simp only [List.length_nil]; omega
  · intro l hl
    unfold drawOf at hl
    rcases List.mem_append.1 hl with hl | hl
    · exact recsGo_ok h _ _ l hl
    · have hz : ∀ n, n ≤ 4000 → l = List.replicate n 0 → l.length ≤ 4000 ∧ ∀ x ∈ l, x < 256 := by
        intro n hn e
        subst e
        exact ⟨by rw [List.length_replicate]; exact hn, fun x hx => by have := (List.mem_replicate.1 hx).2; omega⟩
      split at hl
      · obtain rfl : l = [] := List.mem_singleton.1 hl
        exact ⟨by simp, fun x hx => by cases hx⟩
      · split at hl
        · exact hz (2000 + nx code 0 / 20 % 2) (by omega) (List.mem_singleton.1 hl)
        · split at hl
          · rcases List.mem_append.1 hl with hl | hl
            · exact hz 2000 (by omega) (List.mem_replicate.1 hl).2
            · exact hz (1880 + nx code 0 / 20) (by omega) (List.mem_singleton.1 hl)
          · cases hl
end Go.Proofs.YtledlicandlekaaDoor
namespace Go.Proofs.YtledlicandlekaaDoor
open Go.RowKit
/-- The reader over 'code' at place i (it stays at the code's end once there). -/
def Rd (w : World) (p : Nat) (v : Value) (code : List Nat) (i : Nat) : Prop := w.heap[p]? = some (.cells #[v, .int .i64 ((min i code.length : Nat) : Int)] 67 (0, 0))
theorem Rd.c0 {w : World} {p i : Nat} {v : Value} {code : List Nat} (h : Rd w p v code i) : w.cell? ⟨p, 0, none⟩ = some v := by rw [cell_of_row w p 0 _ _ (0, 0) h]; rfl
theorem Rd.c1 {w : World} {p i : Nat} {v : Value} {code : List Nat} (h : Rd w p v code i) : w.cell? ⟨p, 1, none⟩ = some (.int .i64 ((min i code.length : Nat) : Int)) := by rw [cell_of_row w p 1 _ _ (0, 0) h]; rfl
theorem Rd.fz {w : World} {p i : Nat} {v : Value} {code : List Nat} (h : Rd w p v code i) (j : Nat) : w.frozen? ⟨p, j, none⟩ = false := frozen_of_row w p j _ _ h
theorem Rd.lt {w : World} {p i : Nat} {v : Value} {code : List Nat} (h : Rd w p v code i) : p < w.heap.size := lt_of_block h
theorem Rd.below {w w' : World} {B p i : Nat} {v : Value} {code : List Nat} (h : Rd w p v code i) (hb : Below B w w') (hp : p < B) : Rd w' p v code i := (hb.block p hp).trans h
theorem Rd.grown {w w' : World} {p i : Nat} {v : Value} {code : List Nat} {row : Option Nat} (h : Rd w p v code i) (hg : w.grownBy w' row) (hne : some p ≠ row) : Rd w' p v code i := (hg.block p h.lt hne).trans h
theorem Rd.step {w : World} {p i : Nat} {v : Value} {code : List Nat} (h : Rd w p v code i) (hi : i < code.length) : Rd (w.setCell ⟨p, 1, none⟩ (.int .i64 ((i : Int) + 1))) p v code (i + 1) := by
  have h2 := heap_setCell_same w p 1 _ _ (.int .i64 ((i : Int) + 1)) h
  unfold Rd
  rw [h2]
  have e : ((min (i + 1) code.length : Nat) : Int) = (i : Int) + 1 := by omega
  rw [e]
  rfl
theorem grown_setCell (w : World) (p j : Nat) (u : Value) : w.grownBy (w.setCell ⟨p, j, none⟩ u) (some p) :=
  ⟨rfl, rfl, rfl, by simp, fun k _ hk => heap_setCell_other w ⟨p, j, none⟩ k u (fun e => hk (by simp [e]))⟩
theorem grown_drew {w w' : World} {row : Option Nat} (h : w.grownBy w' row) (n : Nat) : w.grownBy (w'.drewN n) row := ⟨h.os, h.tape, h.output, h.size, h.block⟩
theorem grown_drew0 {w w' : World} {row : Option Nat} {n : Nat} (h : (w.drewN n).grownBy w' row) : w.grownBy w' row := ⟨h.os, h.tape, h.output, h.size, h.block⟩
theorem next_any (p : Nat) (a : Option Addr) (cap : Nat) (code : List Nat) (i : Nat) (w : World) (hl : code.length ≤ 1048576) (hr : RowAt w a code) (hb : ∀ x ∈ code, x < 256) (hrd : Rd w p (.slice a code.length cap) code i) :
    Calls Tryd.prog 37 #[.pointer (some ⟨p, 0, none⟩)] w fun e w' => e = .returned (.int .i64 (nx code i : Int)) ∧ Rd w' p (.slice a code.length cap) code (i + 1) ∧ w.grownBy w' (some p) ∧ w'.heap.size = w.heap.size := by
  have c0 := hrd.c0
  have c1 := hrd.c1
  have f1 := hrd.fz 1
  by_cases hi : i < code.length
  · obtain ⟨b, off, rfl, hc⟩ := hr (by omega)
    have hck := hc i hi
    have hm : min i code.length = i := by omega
    rw [hm] at c1
    have hst := hrd.step hi
    have hnx : nx code i = code[i] := by simp [nx, hi]
    have HN := hide hnx
    have hx256 : code[i] < 256 := hb _ (List.getElem_mem hi)
    have HS := hide hst
    have hix : (i : Int) < (code.length : Int) := by omega
    have hdec : decide ((code.length : Int) ≤ (i : Int)) = false := by simp; omega
    clear hm hnx hst hc hr hrd
    go_enter Tryd.func37, Tryd.ntmps37
    go_wp2
    go_quiet (fail)
    go_wp2
    go_quiet (fail)
    go_wp2
    go_ret
    exact ⟨ret_int (by rw [unhide HN]), unhide HS, grown_drew0 (grown_setCell _ _ _ _), by simp⟩
  · have hm : min i code.length = code.length := by omega
    rw [hm] at c1
    go_enter Tryd.func37, Tryd.ntmps37
    go_wp2
    go_quiet (fail)
    go_wp2
    go_ret
    refine ⟨ret_int (by simp [nx, List.getElem?_eq_none (Nat.le_of_not_lt hi)]), ?_, grown_drew (grown_refl _ _) _, rfl⟩
    have e : min (i + 1) code.length = min i code.length := by omega
    have h2 : Rd w p (.slice a code.length cap) code (i + 1) := by unfold Rd; rw [e]; exact hrd
    exact h2
theorem grown_new {w wr w4 : World} {r r' : Option Nat} (h : w.grownBy wr r) (k : wr.grownBy w4 r') (hr : ∀ b, r' = some b → w.heap.size ≤ b) : w.grownBy w4 r :=
  ⟨k.os.trans h.os, k.tape.trans h.tape, k.output.trans h.output, Nat.le_trans h.size k.size, fun i hi ho => (k.block i (Nat.lt_of_lt_of_le hi h.size) (fun e => by have := hr i e.symm; omega)).trans (h.block i hi ho)⟩
theorem own_ne {w : World} {B p : Nat} {v : Value} {l : List Nat} (h : OwnB w B v l) (hp : p < B) : v.ownBlock = none ∨ v.ownBlock ≠ some p := .inr fun e => by have := (World.ownsRow.lt h p e).1; omega
theorem own_ne' {w : World} {B p : Nat} {v : Value} {l : List Nat} (h : OwnB w B v l) (hp : p < B) : some p ≠ v.ownBlock := fun e => by have := (World.ownsRow.lt h p e.symm).1; omega
end Go.Proofs.YtledlicandlekaaDoor
namespace Go.Proofs.YtledlicandlekaaDoor
open Go.RowKit
/-- Nothing but block p has changed of what was there. -/
structure Kp (p : Nat) (w w' : World) : Prop where
  size : w.heap.size ≤ w'.heap.size
  block : ∀ g, g < w.heap.size → g ≠ p → w'.heap[g]? = w.heap[g]?
theorem Kp.refl (p : Nat) (w : World) : Kp p w w := ⟨Nat.le_refl _, fun _ _ _ => rfl⟩
theorem Kp.of_below {p : Nat} {w w' : World} (h : Below w.heap.size w w') : Kp p w w' := ⟨h.size, fun g hg _ => h.block g hg⟩
theorem Kp.trans {p : Nat} {a b c : World} (h : Kp p a b) (k : Kp p b c) : Kp p a c := ⟨Nat.le_trans h.size k.size, fun g hg hn => (k.block g (Nat.lt_of_lt_of_le hg h.size) hn).trans (h.block g hg hn)⟩
/-- The reader in block p over what came in at w0: all below it is as it was; of wk nothing else has changed. -/
structure RdIn (wk w0 w : World) (p : Nat) (a : Option Addr) (cap : Nat) (code : List Nat) (i : Nat) : Prop where
  rd : Rd w p (.slice a code.length cap) code i
  low : Below w0.heap.size w0 w
  above : w0.heap.size ≤ p
  kp : Kp p wk w
/-- What came in. -/
structure CodeIn (w0 : World) (a : Option Addr) (code : List Nat) : Prop where
  len : code.length ≤ 1048576
  row : RowAt w0 a code
  byte : ∀ x ∈ code, x < 256
theorem next_in {wk w0 w : World} {p : Nat} {a : Option Addr} {cap : Nat} {code : List Nat} {i : Nat} (hc : CodeIn w0 a code) (h : RdIn wk w0 w p a cap code i) :
    Calls Tryd.prog 37 #[.pointer (some ⟨p, 0, none⟩)] w fun e w' => e = .returned (.int .i64 (nx code i : Int)) ∧ RdIn wk w0 w' p a cap code (i + 1) := by
  refine (next_any p a cap code i w hc.len (hc.row.below h.low) hc.byte h.rd).mono ?_
  rintro e w' ⟨rfl, h1, h2, h3⟩
  have := h.above
  exact ⟨rfl, h1, h.low.trans ((Below.refl _ _).grown h2 h.low.size (fun k e => by simp at e; omega)), h.above, h.kp.trans ⟨by omega, fun g hg hn => h2.block g hg (by simpa using hn)⟩⟩
/-- A number that is drawn: within bounds; the reader stands somewhere. -/
def DNum (wk w0 : World) (p : Nat) (a : Option Addr) (cap : Nat) (code : List Nat) (k : IntKind) (lo hi : Int) (e : Ending) (w' : World) : Prop := ∃ (x : Int) (j : Nat), e = .returned (.int k x) ∧ lo ≤ x ∧ x < hi ∧ RdIn wk w0 w' p a cap code j
theorem dnum_mk {wk w0 w' : World} {p : Nat} {a : Option Addr} {cap : Nat} {code : List Nat} {j : Nat} (h : RdIn wk w0 w' p a cap code j) (k : IntKind) (lo hi x : Int) (h1 : lo ≤ x) (h2 : x < hi) : DNum wk w0 p a cap code k lo hi (.returned (.int k x)) w' := ⟨x, j, rfl, h1, h2, h⟩
theorem or_drawn (c : Nat) : 0 ≤ bits .or .u32 ((c : Int) % 32) (2 ^ (5 + c % 26) % 4294967296) ∧ bits .or .u32 ((c : Int) % 32) (2 ^ (5 + c % 26) % 4294967296) < 2147483648 := by
  have hp : (2 : Nat) ^ (5 + c % 26) < 2 ^ 31 := Nat.pow_lt_pow_right (by decide) (by omega)
  have e2 : ((2 : Int) ^ (5 + c % 26)) = ((2 ^ (5 + c % 26) : Nat) : Int) := by simp
  have e1 : (c : Int) % 32 = ((c % 32 : Nat) : Int) := by omega
  have hor : c % 32 ||| 2 ^ (5 + c % 26) < 2 ^ 31 := Nat.or_lt_two_pow (by omega) hp
  rw [e2, e1]
  generalize 2 ^ (5 + c % 26) = m at hp hor ⊢
  have e3 : ((m : Nat) : Int) % 4294967296 = ((m : Nat) : Int) := by omega
  rw [e3, u32_or_nat _ _ (by omega) (by omega)]
  omega
set_option maxRecDepth 20000 in
set_option maxHeartbeats 1000000 in
theorem l4Flags_in {wk w0 w : World} {p : Nat} {a : Option Addr} {cap : Nat} {code : List Nat} {i : Nat} (hc : CodeIn w0 a code) (h : RdIn wk w0 w p a cap code i) :
    Calls Tryd.prog 72 #[.pointer (some ⟨p, 0, none⟩)] w (DNum wk w0 p a cap code .u32 0 2147483648) := by
  have hx := nx_lt hc.byte i
  have NX := hide (next_in hc h)
  clear hc h
  go_enter Tryd.func72, Tryd.ntmps72
  go_wp2_with fail
  refine NX.out.mono ?_
  rintro e w1 ⟨rfl, hrd1⟩
  have H1 := hide hrd1
  clear hrd1 NX
  generalize nx code i = c at hx ⊢
  by_cases h0 : c = 255
  · subst h0
    go_wp2
    go_ret
    exact dnum_mk H1.out _ _ _ _ (by omega) (by omega)
  · by_cases h1 : 128 ≤ c
    · have hk0 : ¬ (c : Int) = 255 := by omega
      have hk1 : (128 : Int) ≤ (c : Int) := by omega
      have HE := hide (or_drawn c)
      go_wp2
      go_ret
      exact dnum_mk H1.out _ _ _ _ HE.out.1 HE.out.2
    · have hk0 : ¬ (c : Int) = 255 := by omega
      have hk1 : ¬ (128 : Int) ≤ (c : Int) := by omega
      go_wp2
      go_ret
      exact dnum_mk H1.out _ _ _ _ (by omega) (by omega)
theorem RdIn.below {wk w0 w w' : World} {p : Nat} {a : Option Addr} {cap : Nat} {code : List Nat} {i : Nat} (h : RdIn wk w0 w p a cap code i) (hb : Below w.heap.size w w') : RdIn wk w0 w' p a cap code i := ⟨h.rd.below hb h.rd.lt, h.low.trans (hb.mono h.low.size), h.above, h.kp.trans (Kp.of_below hb)⟩
theorem RdIn.anew {wk w0 w : World} {p : Nat} {a : Option Addr} {cap : Nat} {code : List Nat} {i : Nat} (h : RdIn wk w0 w p a cap code i) : RdIn w w0 w p a cap code i := ⟨h.rd, h.low, h.above, Kp.refl _ _⟩
theorem RdIn.onto {wk wm w0 w : World} {p : Nat} {a : Option Addr} {cap : Nat} {code : List Nat} {i : Nat} (h : Kp p wk wm) (h' : RdIn wm w0 w p a cap code i) : RdIn wk w0 w p a cap code i := ⟨h'.rd, h'.low, h'.above, h.trans h'.kp⟩
/-- A string that is drawn: of at most n bytes; the reader stands somewhere. -/
def DStr (wk w0 : World) (p : Nat) (a : Option Addr) (cap : Nat) (code : List Nat) (n : Nat) (e : Ending) (w' : World) : Prop := ∃ (s : ByteArray) (j : Nat), e = .returned (.string s) ∧ s.size ≤ n ∧ RdIn wk w0 w' p a cap code j
theorem dstr_mk {wk w0 w' : World} {p : Nat} {a : Option Addr} {cap : Nat} {code : List Nat} {j n : Nat} (h : RdIn wk w0 w' p a cap code j) (s : ByteArray) (hs : s.size ≤ n) : DStr wk w0 p a cap code n (.returned (.string s)) w' := ⟨s, j, rfl, hs, h⟩
theorem app_size (s t : ByteArray) : (s ++ t).size = s.size + t.size := ByteArray.size_append
end Go.Proofs.YtledlicandlekaaDoor
namespace Go.Proofs.YtledlicandlekaaDoor
open Go.RowKit
/-- A text cut at each of a byte. -/
def splitOf (b : UInt8) : List UInt8 → List (List UInt8)
  | [] => [[]]
  | x :: r => if x = b then [] :: splitOf b r else
    match splitOf b r with
    | w :: ws => (x :: w) :: ws
    | [] => [[x]]
theorem splitOf_ne (b : UInt8) (t : List UInt8) : splitOf b t ≠ [] := by
  cases t with
  | nil => simp [splitOf]
  | cons x r =>
    rw [splitOf]
    split
    · simp
    · split <;> simp
theorem splitOf_no {b : UInt8} : ∀ {t : List UInt8}, b ∉ t → splitOf b t = [t]
  | [], _ => rfl
  | x :: r, h => by
    have h1 : x ≠ b := fun e => h (by rw [e]; exact List.mem_cons_self)
    rw [splitOf, if_neg h1, splitOf_no (fun hm => h (List.mem_cons_of_mem _ hm))]
theorem splitOf_at {b : UInt8} {c : List UInt8} : ∀ {a : List UInt8}, b ∉ a → splitOf b (a ++ b :: c) = a :: splitOf b c
  | [], _ => by rw [List.nil_append, splitOf, if_pos rfl]
  | x :: r, h => by
    have h1 : x ≠ b := fun e => h (by rw [e]; exact List.mem_cons_self)
    rw [List.cons_append, splitOf, if_neg h1, splitOf_at (fun hm => h (List.mem_cons_of_mem _ hm))]
theorem splitOf_len (b : UInt8) (t : List UInt8) : (splitOf b t).length ≤ t.length + 1 := by
  induction t with
  | nil => simp [splitOf]
  | cons x r ih =>
    rw [splitOf]
    split
    · simp; omega
    · split
      · next h => rw [h] at ih; simp at ih ⊢; omega
      · simp
theorem splitOf_mem {b : UInt8} : ∀ {t w : List UInt8}, w ∈ splitOf b t → w.length ≤ t.length
  | [], w, h => by simp [splitOf] at h; simp [h]
  | x :: r, w, h => by
    rw [splitOf] at h
    split at h
    · rcases List.mem_cons.1 h with rfl | h
      · simp
      · have := splitOf_mem h; simp; omega
    · split at h
      · next w0 ws e =>
        rcases List.mem_cons.1 h with rfl | h
        · have := splitOf_mem (b := b) (t := r) (w := w0) (by rw [e]; exact List.mem_cons_self)
          simp; omega
        · have := splitOf_mem (b := b) (t := r) (w := w) (by rw [e]; exact List.mem_cons_of_mem _ h)
          simp; omega
      · simp at h; rw [h]; simp
/-- The library's Split at a byte. -/
theorem splitB_of (b : UInt8) : ∀ (n : Nat) (s : ByteArray), s.size ≤ n → (Lib.splitB ⟨#[b]⟩ 0 (Lib.countB s ⟨#[b]⟩) s).map (·.data.toList) = splitOf b s.data.toList
  | n, s, hn => by
    have hi : Lib.indexB s ⟨#[b]⟩ = Lib.indexByte s.data.toList b := Lib.index_one s.data.toList b
    have hge := Lib.indexByte_ge s.data.toList b
    by_cases h : Lib.indexB s ⟨#[b]⟩ = -1
    · rw [Lib.splitB_miss _ _ _ _ h, List.map_cons, List.map_nil]
      have hno := Lib.indexByte_none (hi ▸ h)
      rw [splitOf_no]
      intro hm
      obtain ⟨k, hk, e⟩ := List.getElem_of_mem hm
      exact hno k (by rw [List.getElem?_eq_getElem hk, e])
    · obtain ⟨i, hii⟩ := Int.eq_ofNat_of_zero_le (show 0 ≤ Lib.indexB s ⟨#[b]⟩ by omega)
      have hsome := Lib.indexByte_some (o := i) (by rw [← hi]; exact hii)
      have hlt : i < s.data.toList.length := (List.getElem?_eq_some_iff.1 hsome.1).1
      have hsz : s.data.toList.length = s.size := rfl
      have h1 : (⟨#[b]⟩ : ByteArray).size = 1 := rfl
      rw [Lib.countB_hit s _ i (by rw [h1]; omega) hii, Nat.add_comm, Lib.splitB_hit _ _ _ _ i hii, List.map_cons, h1]
      have hext : (s.extract (i + 1) s.size).data.toList = s.data.toList.drop (i + 1) := by
        have e : (s.extract (i + 1) s.size).data.toList = (s.data.toList.drop (i + 1)).take (s.size - (i + 1)) := by rw [ByteArray.data_extract, Array.toList_extract]
        rw [e, List.take_of_length_le (by rw [List.length_drop, hsz]; exact Nat.le_refl _)]
      have hext0 : (s.extract 0 (i + 0)).data.toList = s.data.toList.take i := by
        rw [ByteArray.data_extract, Array.toList_extract]; simp
      have hsm : (s.extract (i + 1) s.size).size ≤ n - 1 := by
        have : (s.extract (i + 1) s.size).data.toList.length = s.size - (i + 1) := by rw [hext, List.length_drop, hsz]
        have e2 : (s.extract (i + 1) s.size).data.toList.length = (s.extract (i + 1) s.size).size := rfl
        omega
      have hn1 : n - 1 < n := by omega
      rw [splitB_of b (n - 1) _ hsm, hext, hext0]
      have hb : s.data.toList[i] = b := by
        have := hsome.1
        rw [List.getElem?_eq_getElem hlt] at this
        simpa using this
      conv => rhs; rw [← List.take_append_drop i s.data.toList, List.drop_eq_getElem_cons hlt, hb]
      rw [splitOf_at]
      intro hm
      obtain ⟨k, hk, e⟩ := List.getElem_of_mem hm
      rw [List.length_take] at hk
      rw [List.getElem_take] at e
      exact hsome.2 k (by omega) (by rw [List.getElem?_eq_getElem (by omega), e])
termination_by n => n
/-- Small and capital letters. -/
def upN (n : Nat) : Nat := if 97 ≤ n ∧ n ≤ 122 then n - 32 else n
def loN (n : Nat) : Nat := if 65 ≤ n ∧ n ≤ 90 then n + 32 else n
theorem fold_iff (a b : Nat) : upN a = upN b ↔ loN a = loN b := by
  unfold upN loN
  split <;> split <;> split <;> split <;> omega
theorem fold_list : ∀ (l m : List Nat), l.map upN = m.map upN ↔ l.map loN = m.map loN
  | [], [] => by simp
  | [], _ :: _ => by simp
  | _ :: _, [] => by simp
  | a :: l, b :: m => by
    simp only [List.map_cons, List.cons.injEq]
    rw [fold_iff, fold_list l m]
end Go.Proofs.YtledlicandlekaaDoor
namespace Go.Proofs.YtledlicandlekaaDoor
open Go.RowKit
/-- A row that a conversion has made of a string: its bytes l, then what is behind them. -/
structure RowF (w : World) (g c : Nat) (l : List Nat) : Prop where
  ex : ∃ cur : Array Value, w.heap[g]? = some (.cells cur 5 (c, c + 1)) ∧ cur.size = c ∧ ∀ j (h : j < l.length), cur[j]? = some (bv l[j])
  le : l.length ≤ c
theorem RowF.cell {w : World} {g c : Nat} {l : List Nat} (h : RowF w g c l) (j : Nat) (hj : j < l.length) : w.cell? ⟨g, j, none⟩ = some (.int .u8 (l[j] : Int)) := by
  obtain ⟨cur, hc, hs, he⟩ := h.ex
  rw [cell_of_row w g j _ _ _ hc]
  exact he j hj
theorem RowF.frozen {w : World} {g c : Nat} {l : List Nat} (h : RowF w g c l) (j : Nat) (hj : j < l.length) : w.frozen? ⟨g, j, none⟩ = false := by
  obtain ⟨cur, hc, hs, he⟩ := h.ex
  have := h.le
  simp [World.frozen?, hc]
  omega
theorem RowF.lt {w : World} {g c : Nat} {l : List Nat} (h : RowF w g c l) : g < w.heap.size := by
  obtain ⟨cur, hc, _⟩ := h.ex
  exact lt_of_block hc
theorem RowF.row {w : World} {g c : Nat} {l : List Nat} (h : RowF w g c l) : RowAt w (some ⟨g, 0, none⟩) l := fun _ => ⟨g, 0, rfl, fun i hi => by rw [Nat.zero_add]; exact h.cell i hi⟩
theorem RowF.set {w : World} {g c : Nat} {l : List Nat} (h : RowF w g c l) (j x : Nat) : RowF (w.setCell ⟨g, j, none⟩ (.int .u8 (x : Int))) g c (l.set j x) := by
  obtain ⟨cur, hc, hs, he⟩ := h.ex
  refine ⟨⟨cur.setIfInBounds j (.int .u8 (x : Int)), ?_, by simpa using hs, fun i hi => ?_⟩, by rw [List.length_set]; exact h.le⟩
  · rw [setCell_eq_setRow w g j _ _ _ _ hc, setRow_heap w g _ _ _ _ hc]
  · rw [List.length_set] at hi
    have hle := h.le
    rw [Array.getElem?_setIfInBounds, List.getElem_set]
    by_cases e : j = i
    · subst e
      rw [if_pos rfl, if_pos (by omega), if_pos rfl]
      rfl
    · rw [if_neg e, if_neg e]
      exact he i hi
theorem rowF_new (w : World) (l : List Nat) (hb : ∀ x ∈ l, x < 256) : RowF (Lib.bytesWorld w 5 (strB l)) w.heap.size (Lib.bytesCells w 5 (strB l)).size l := by
  refine ⟨⟨_, Lib.bytesWorld_at_new w 5 (strB l), rfl, fun j hj => ?_⟩, ?_⟩
  · have hj2 : j < (strB l).data.size := by simpa [strB] using hj
    unfold Lib.bytesCells
    rw [Array.getElem?_append_left (by simpa using hj2)]
    simp only [Array.getElem?_map]
    rw [Array.getElem?_eq_getElem hj2]
    simp only [Option.map_some]
    congr 1
    have : ((strB l).data[j]'hj2).toNat = l[j] := by
      simp [strB]
      exact hb _ (List.getElem_mem hj)
    rw [this]
    rfl
  · unfold Lib.bytesCells
    simp [strB]
theorem bytesW_below (w : World) (s : ByteArray) : Below w.heap.size w (Lib.bytesWorld w 5 s) := by
  refine ⟨rfl, rfl, rfl, by rw [Lib.bytesWorld_size]; omega, fun k hk => Lib.bytesWorld_at_old w 5 s k hk⟩
theorem strB_size (l : List Nat) : (strB l).size = l.length := by simp [strB, ByteArray.size]
def mapTo (f : Nat → Nat) (l : List Nat) (k : Nat) : List Nat := (l.take k).map f ++ l.drop k
theorem mapTo_len (f : Nat → Nat) (l : List Nat) (k : Nat) (h : k ≤ l.length) : (mapTo f l k).length = l.length := by simp [mapTo]; omega
theorem mapTo_at (f : Nat → Nat) (l : List Nat) (k : Nat) (h : k < l.length) : (mapTo f l k)[k]'(by rw [mapTo_len f l k (by omega)]; exact h) = l[k] := by
  unfold mapTo
  rw [List.getElem_append_right (by simp; omega)]
  simp
  congr 1
  omega
theorem mapTo_set (f : Nat → Nat) (l : List Nat) (k : Nat) (h : k < l.length) : (mapTo f l k).set k (f l[k]) = mapTo f l (k + 1) := by
  unfold mapTo
  rw [List.set_append_right _ _ (by simp; omega)]
  have e : k - ((l.take k).map f).length = 0 := by simp; omega
  rw [e, List.drop_eq_getElem_cons h, List.set_cons_zero, List.take_succ_eq_append_getElem h, List.map_append]
  simp only [List.map_cons, List.map_nil, List.append_assoc, List.cons_append, List.nil_append]
theorem mapTo_same (f : Nat → Nat) (l : List Nat) (k : Nat) (h : k < l.length) (e : f l[k] = l[k]) : mapTo f l (k + 1) = mapTo f l k := by
  rw [← mapTo_set f l k h, e]
  have hlen : k < (mapTo f l k).length := by rw [mapTo_len f l k (by omega)]; exact h
  have h2 : (mapTo f l k).set k ((mapTo f l k)[k]'hlen) = mapTo f l k := List.set_getElem_self hlen
  rw [mapTo_at f l k h] at h2
  exact h2
theorem mapTo_end (f : Nat → Nat) (l : List Nat) : mapTo f l l.length = l.map f := by simp [mapTo]
set_option maxRecDepth 20000 in
set_option maxHeartbeats 1000000 in
theorem capitals_any (l : List Nat) (w : World) (hl : l.length ≤ 1048576) (hb : ∀ x ∈ l, x < 256) :
    Calls Tryd.prog 68 #[.string (strB l)] w fun e w' => e = .returned (.string (strB (l.map upN))) ∧ Below w.heap.size w w' := by
  have hconv := Lib.run_convert_string_bytes (P := Tryd.prog) w 9 22 5 (strB l) Tryd.underlying9 Tryd.underlying22 Tryd.underlying5
  rw [strB_size] at hconv
  have HF := hide (rowF_new w l hb)
  have HB := hide (bytesW_below w (strB l))
  go_enter Tryd.func68, Tryd.ntmps68
  generalize Lib.bytesWorld w 5 (strB l) = w1 at hconv HF HB
  generalize (Lib.bytesCells w 5 (strB l)).size = cc at HF
  generalize grownCap w l.length 0 5 = gc at hconv
  generalize strB l = sl at hconv ⊢
  go_wp2
  clear hconv
  go_loopw [4, 5, 10] (fun _ _ i wr => ∃ k : Nat, k ≤ l.length ∧ i = .int .i64 (k : Int) ∧ RowF wr w.heap.size cc (mapTo upN l k) ∧ Below w.heap.size w wr) (fun _ _ i _ => l.length - (intOf i).toNat)
  case atStart => exact ⟨0, Nat.zero_le _, rfl, HF.out, HB.out⟩
  case round =>
    obtain ⟨k, hk, rfl, hF, hB⟩ := hrel
    clear HF HB
    by_cases hlt : k < l.length
    · have hml := mapTo_len upN l k hk
      have hc := hF.cell k (by omega)
      rw [mapTo_at upN l k hlt] at hc
      have hfz := hF.frozen k (by omega)
      have hx : l[k] < 256 := hb _ (List.getElem_mem hlt)
      have HST := hide (mapTo_set upN l k hlt)
      have HSM := hide (mapTo_same upN l k hlt)
      have HF := hide hF
      have HB := hide hB
      generalize l[k] = x at hc hx HST HSM
      clear hF hB hml hb
      by_cases h1 : 97 ≤ x
      · by_cases h2 : x ≤ 122
        · have hfx : upN x = x - 97 + 65 := by unfold upN; rw [if_pos ⟨h1, h2⟩]; omega
          have HS2 := hide (show RowF (wr.setCell ⟨w.heap.size, k, none⟩ (.int .u8 (((x - 97 + 65 : Nat)) : Int))) w.heap.size cc (mapTo upN l (k + 1)) from by
            have h := HF.out.set k (x - 97 + 65)
            have e := HST.out
            rw [hfx] at e
            rw [e] at h
            exact h)
          have HB2 := hide (HB.out.setCell (p := ⟨w.heap.size, k, none⟩) (Nat.le_refl _) (.int .u8 (((x - 97 + 65 : Nat)) : Int)))
          have hi1 : (97 : Int) ≤ (x : Int) := by omega
          have hi2 : (x : Int) ≤ 122 := by omega
          have he : ((x - 97 + 65 : Nat) : Int) = (x : Int) - 97 + 65 := by omega
          rw [he] at HS2 HB2
          clear HF HB HST HSM hfx he
          go_wp2
          go_roundw
          case rel => exact ⟨k + 1, by omega, by go_num, HS2.out, HB2.out⟩
          case measure => simp [intOf]; omega
        · have hi1 : (97 : Int) ≤ (x : Int) := by omega
          have hi2 : ¬ (x : Int) ≤ 122 := by omega
          have hfx : upN x = x := by unfold upN; rw [if_neg (fun h => h2 h.2)]
          have HS2 := hide (show RowF wr w.heap.size cc (mapTo upN l (k + 1)) by rw [HSM.out hfx]; exact HF.out)
          clear HF HST HSM hfx
          go_wp2
          go_roundw
          case rel => exact ⟨k + 1, by omega, by go_num, HS2.out, HB.out⟩
          case measure => simp [intOf]; omega
      · have hi1 : ¬ (97 : Int) ≤ (x : Int) := by omega
        have hfx : upN x = x := by unfold upN; rw [if_neg (fun h => h1 h.1)]
        have HS2 := hide (show RowF wr w.heap.size cc (mapTo upN l (k + 1)) by rw [HSM.out hfx]; exact HF.out)
        clear HF HST HSM hfx
        go_wp2
        go_roundw
        case rel => exact ⟨k + 1, by omega, by go_num, HS2.out, HB.out⟩
        case measure => simp [intOf]; omega
    · obtain rfl : k = l.length := by omega
      rw [mapTo_end] at hF
      have hcv : (convert 22 9 (.slice (some ⟨w.heap.size, 0, none⟩) l.length gc)).run Tryd.prog wr = .ok (.string (strB (l.map upN))) wr := by
        have h := run_string_of wr (some ⟨w.heap.size, 0, none⟩) gc (l.map upN) hF.row
        rw [List.length_map] at h
        exact h
      have HB := hide hB
      clear hF hB hb
      generalize hsr : strB (l.map upN) = sr at hcv
      have HSR := hide hsr
      clear hsr
      go_wp2
      go_ret
      exact ⟨by rw [HSR.out]; rfl, HB.out⟩
end Go.Proofs.YtledlicandlekaaDoor
namespace Go.Proofs.YtledlicandlekaaDoor
open Go.RowKit
set_option maxRecDepth 20000 in
set_option maxHeartbeats 1000000 in
theorem lower_any (l : List Nat) (w : World) (hl : l.length ≤ 1048576) (hb : ∀ x ∈ l, x < 256) :
    Calls Tryd.prog 31 #[.string (strB l)] w fun e w' => e = .returned (.string (strB (l.map loN))) ∧ Below w.heap.size w w' := by
  have hconv := Lib.run_convert_string_bytes (P := Tryd.prog) w 9 22 5 (strB l) Tryd.underlying9 Tryd.underlying22 Tryd.underlying5
  rw [strB_size] at hconv
  have HF := hide (rowF_new w l hb)
  have HB := hide (bytesW_below w (strB l))
  go_enter Tryd.func31, Tryd.ntmps31
  generalize Lib.bytesWorld w 5 (strB l) = w1 at hconv HF HB
  generalize (Lib.bytesCells w 5 (strB l)).size = cc at HF
  generalize grownCap w l.length 0 5 = gc at hconv
  generalize strB l = sl at hconv ⊢
  go_wp2
  clear hconv
  go_loopw [4, 5, 10] (fun _ _ i wr => ∃ k : Nat, k ≤ l.length ∧ i = .int .i64 (k : Int) ∧ RowF wr w.heap.size cc (mapTo loN l k) ∧ Below w.heap.size w wr) (fun _ _ i _ => l.length - (intOf i).toNat)
  case atStart => exact ⟨0, Nat.zero_le _, rfl, HF.out, HB.out⟩
  case round =>
    obtain ⟨k, hk, rfl, hF, hB⟩ := hrel
    clear HF HB
    by_cases hlt : k < l.length
    · have hml := mapTo_len loN l k hk
      have hc := hF.cell k (by omega)
      rw [mapTo_at loN l k hlt] at hc
      have hfz := hF.frozen k (by omega)
      have hx : l[k] < 256 := hb _ (List.getElem_mem hlt)
      have HST := hide (mapTo_set loN l k hlt)
      have HSM := hide (mapTo_same loN l k hlt)
      have HF := hide hF
      have HB := hide hB
      generalize l[k] = x at hc hx HST HSM
      clear hF hB hml hb
      by_cases h1 : 65 ≤ x
      · by_cases h2 : x ≤ 90
        · have hfx : loN x = x + 32 := by unfold loN; rw [if_pos ⟨h1, h2⟩]
          have HS2 := hide (show RowF (wr.setCell ⟨w.heap.size, k, none⟩ (.int .u8 (((x + 32 : Nat)) : Int))) w.heap.size cc (mapTo loN l (k + 1)) from by
            have h := HF.out.set k (x + 32)
            have e := HST.out
            rw [hfx] at e
            rw [e] at h
            exact h)
          have HB2 := hide (HB.out.setCell (p := ⟨w.heap.size, k, none⟩) (Nat.le_refl _) (.int .u8 (((x + 32 : Nat)) : Int)))
          have hi1 : (65 : Int) ≤ (x : Int) := by omega
          have hi2 : (x : Int) ≤ 90 := by omega
          have he : ((x + 32 : Nat) : Int) = (x : Int) + 32 := by omega
          rw [he] at HS2 HB2
          clear HF HB HST HSM hfx he
          go_wp2
          go_roundw
          case rel => exact ⟨k + 1, by omega, by go_num, HS2.out, HB2.out⟩
          case measure => simp [intOf]; omega
        · have hi1 : (65 : Int) ≤ (x : Int) := by omega
          have hi2 : ¬ (x : Int) ≤ 90 := by omega
          have hfx : loN x = x := by unfold loN; rw [if_neg (fun h => h2 h.2)]
          have HS2 := hide (show RowF wr w.heap.size cc (mapTo loN l (k + 1)) by rw [HSM.out hfx]; exact HF.out)
          clear HF HST HSM hfx
          go_wp2
          go_roundw
          case rel => exact ⟨k + 1, by omega, by go_num, HS2.out, HB.out⟩
          case measure => simp [intOf]; omega
      · have hi1 : ¬ (65 : Int) ≤ (x : Int) := by omega
        have hfx : loN x = x := by unfold loN; rw [if_neg (fun h => h1 h.1)]
        have HS2 := hide (show RowF wr w.heap.size cc (mapTo loN l (k + 1)) by rw [HSM.out hfx]; exact HF.out)
        clear HF HST HSM hfx
        go_wp2
        go_roundw
        case rel => exact ⟨k + 1, by omega, by go_num, HS2.out, HB.out⟩
        case measure => simp [intOf]; omega
    · obtain rfl : k = l.length := by omega
      rw [mapTo_end] at hF
      have hcv : (convert 22 9 (.slice (some ⟨w.heap.size, 0, none⟩) l.length gc)).run Tryd.prog wr = .ok (.string (strB (l.map loN))) wr := by
        have h := run_string_of wr (some ⟨w.heap.size, 0, none⟩) gc (l.map loN) hF.row
        rw [List.length_map] at h
        exact h
      have HB := hide hB
      clear hF hB hb
      generalize hsr : strB (l.map loN) = sr at hcv
      have HSR := hide hsr
      clear hsr
      go_wp2
      go_ret
      exact ⟨by rw [HSR.out]; rfl, HB.out⟩
end Go.Proofs.YtledlicandlekaaDoor
namespace Go.Proofs.YtledlicandlekaaDoor
open Go.RowKit
/-- Every string is one of mine. -/
theorem str_is (s : ByteArray) : ∃ l : List Nat, s = strB l ∧ l.length = s.size ∧ ∀ x ∈ l, x < 256 := by
  refine ⟨s.data.toList.map UInt8.toNat, ?_, by rw [List.length_map, Array.length_toList]; rfl, fun x hx => ?_⟩
  · unfold strB
    rw [List.map_map]
    have e : (UInt8.ofNat ∘ UInt8.toNat) = id := by funext b; simp
    rw [e, List.map_id]
  · obtain ⟨b, _, rfl⟩ := List.mem_map.1 hx
    exact b.toNat_lt
theorem lower_str (s : ByteArray) (w : World) (hs : s.size ≤ 1048576) : Calls Tryd.prog 31 #[.string s] w fun e w' => ∃ t : ByteArray, e = .returned (.string t) ∧ t.size = s.size ∧ Below w.heap.size w w' := by
  obtain ⟨l, rfl, hl, hb⟩ := str_is s
  refine (lower_any l w (by omega) hb).mono ?_
  rintro e w' ⟨rfl, h⟩
  exact ⟨_, rfl, by rw [strB_size, strB_size, List.length_map], h⟩
set_option maxHeartbeats 1000000 in
theorem l6Word_in {wk w0 w : World} {p : Nat} {a : Option Addr} {cap : Nat} {code : List Nat} {i : Nat} (s : ByteArray) (hs : s.size ≤ 1000) (hc : CodeIn w0 a code) (h : RdIn wk w0 w p a cap code i) :
    Calls Tryd.prog 53 #[.pointer (some ⟨p, 0, none⟩), .string s] w (DStr wk w0 p a cap code s.size) := by
  have NX := hide (next_in hc h)
  clear hc h
  go_enter Tryd.func53, Tryd.ntmps53
  go_wp2_with fail
  refine NX.out.mono ?_
  rintro e w1 ⟨rfl, hrd1⟩
  have H1 := hide hrd1
  clear hrd1 NX
  generalize nx code i = c
  by_cases h0 : c % 3 = 0
  · have hk : (c : Int) % 3 = 0 := by omega
    have LW := hide (lower_str s w1 (by omega))
    go_wp2_with fail
    refine LW.out.mono ?_
    rintro e w2 ⟨t, rfl, ht, hb⟩
    have H2 := hide (H1.out.below hb)
    have HT := hide ht
    clear hb ht
    go_wp2
    go_ret
    exact dstr_mk H2.out _ (by have := HT.out; omega)
  · have hk : ¬ (c : Int) % 3 = 0 := by omega
    go_wp2
    go_ret
    exact dstr_mk H1.out _ (Nat.le_refl _)
end Go.Proofs.YtledlicandlekaaDoor
