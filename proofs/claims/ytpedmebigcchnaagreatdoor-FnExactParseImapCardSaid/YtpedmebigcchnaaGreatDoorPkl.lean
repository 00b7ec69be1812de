import Derived.Test.YtpedmebigcchnaaGreatDoorPkh
import Derived.Test.YtpedmebigcchnaaGreatDoorPkk
import Derived.Test.YtpedmebigcchnaaGreatDoorPke
import Derived.Test.YtpedmebigcchnaaGreatDoorPki
import Derived.Deep.RegionWith
namespace Go.Proofs.YtpedmebigcchnaaGreatDoor
open Go.RowKit Go.Lib
theorem bh_head : ∀ t : List UInt8, bhL t = [] ∨ ∃ c, bhL t = 32 :: c
  | [] => .inl rfl
  | x :: r => by
    rw [bhL]
    split
    · next h => rw [h]; exact .inr ⟨r, rfl⟩
    · exact bh_head r
/-- What stands behind the first blank, and whether there is one. -/
def nbL (t : List UInt8) : List UInt8 := (bhL t).drop 1
def hbL (t : List UInt8) : Bool := !(bhL t).isEmpty
theorem cutIs_pc {t a c : List UInt8} {ok : Bool} (h : CutIs t 32 a c ok) : a = pcL t ∧ c = nbL t ∧ ok = hbL t := by
  unfold nbL hbL
  rcases h with ⟨rfl, rfl, hn⟩ | ⟨rfl, hn, rfl, rfl⟩
  · obtain ⟨h1, h2⟩ := pc_at (c := c) hn
    rw [h1, h2]
    exact ⟨rfl, rfl, rfl⟩
  · obtain ⟨h1, h2⟩ := pc_no hn
    rw [h1, h2]
    exact ⟨rfl, rfl, rfl⟩
theorem bh_hb {t : List UInt8} (h : hbL t = true) : bhL t = 32 :: nbL t := by
  unfold hbL at h
  unfold nbL
  rcases bh_head t with e | ⟨c, e⟩
  · rw [e] at h; cases h
  · rw [e]; rfl
theorem bh_no {t : List UInt8} (h : hbL t = false) : bhL t = [] ∧ nbL t = [] := by
  unfold hbL at h
  unfold nbL
  rcases bh_head t with e | ⟨c, e⟩
  · rw [e]; exact ⟨rfl, rfl⟩
  · rw [e] at h; cases h
theorem bl_bh {s : ByteArray} {t : List UInt8} (h : s.data.toList = bhL t) : blOk s = hbL t ∧ (blB s).data.toList = nbL t := by
  unfold blOk blB
  rw [h]
  cases e : hbL t with
  | true =>
    rw [bh_hb e]
    have h1 : Lib.hasPrefix (32 :: nbL t) [32] = true := by unfold Lib.hasPrefix; simp [List.isPrefixOf]
    refine ⟨h1, ?_⟩
    show Lib.trimPrefix (32 :: nbL t) [32] = nbL t
    unfold Lib.trimPrefix
    first | (rw [if_pos h1]; rfl) | (simp [h1])
  | false =>
    obtain ⟨h1, h2⟩ := bh_no e
    rw [h1, h2]
    exact ⟨rfl, rfl⟩
theorem nb_len (t : List UInt8) : (nbL t).length ≤ t.length := by
  unfold nbL
  have h := congrArg List.length (pc_bh t)
  rw [List.length_append] at h
  simp
  omega
theorem pc_le (t : List UInt8) : (pcL t).length ≤ t.length := by
  have h := congrArg List.length (pc_bh t)
  rw [List.length_append] at h
  omega
/-- Letters in capitals. -/
def upU (c : UInt8) : UInt8 := UInt8.ofNat (upN c.toNat)
def upT (x : List UInt8) : ByteArray := ⟨(x.map upU).toArray⟩
theorem upB_is (s : ByteArray) : upB s = upT s.data.toList := by
  apply ByteArray.ext
  apply Array.toList_inj.1
  unfold upB upT bytesL strB
  simp [upU, Function.comp_def]
theorem upT_list (x : List UInt8) : (upT x).data.toList = x.map upU := by unfold upT; simp
theorem upB_T {s : ByteArray} {t : List UInt8} (h : s.data.toList = t) : upB s = upT t := by rw [upB_is, h]
theorem upU_nat (c : UInt8) : (upU c).toNat = upN c.toNat := by
  unfold upU
  have h : upN c.toNat < 256 := by
    have := c.toNat_lt
    unfold upN
    split <;> omega
  rw [UInt8.toNat_ofNat']
  omega
theorem upU_iff (c d : UInt8) (h : ∀ n, n < 256 → (upN n = d.toNat ↔ n = d.toNat)) : upU c = d ↔ c = d := by
  rw [← UInt8.toNat_inj, ← UInt8.toNat_inj, upU_nat]
  exact h _ c.toNat_lt
theorem up32 (c : UInt8) : upU c = 32 ↔ c = 32 := upU_iff c 32 (fun n hn => by show upN n = 32 ↔ n = 32; unfold upN; split <;> omega)
theorem up40 (c : UInt8) : upU c = 40 ↔ c = 40 := upU_iff c 40 (fun n hn => by show upN n = 40 ↔ n = 40; unfold upN; split <;> omega)
theorem up41 (c : UInt8) : upU c = 41 ↔ c = 41 := upU_iff c 41 (fun n hn => by show upN n = 41 ↔ n = 41; unfold upN; split <;> omega)
theorem split_up : ∀ t : List UInt8, splitOf 32 (t.map upU) = (splitOf 32 t).map (List.map upU)
  | [] => rfl
  | x :: r => by
    rw [List.map_cons, splitOf, splitOf]
    by_cases h : x = 32
    · rw [if_pos h, if_pos ((up32 x).2 h), split_up r]; rfl
    · rw [if_neg h, if_neg (fun e => h ((up32 x).1 e)), split_up r]
      cases e : splitOf 32 r with
      | nil => rfl
      | cons a l => rfl
theorem brk_up (t : List UInt8) : brk (t.map upU) = (brk t).map (List.map upU) := by
  unfold brk
  have h1 : (t.map upU).head? = some 40 ↔ t.head? = some 40 := by
    rw [List.head?_map]
    cases t.head? with
    | none => simp
    | some a => simpa using up40 a
  have h2 : (t.map upU).getLast? = some 41 ↔ t.getLast? = some 41 := by
    rw [List.getLast?_map]
    cases t.getLast? with
    | none => simp
    | some a => simpa using up41 a
  rw [List.length_map]
  by_cases h : 2 ≤ t.length ∧ t.head? = some 40 ∧ t.getLast? = some 41
  · rw [if_pos h, if_pos ⟨h.1, h1.2 h.2.1, h2.2 h.2.2⟩]
    simp [List.map_take]
  · rw [if_neg h, if_neg (fun e => h ⟨e.1, h1.1 e.2.1, h2.1 e.2.2⟩)]
    rfl
/-- The item that a word in capitals names; 0: none. -/
def itemOf (u : ByteArray) : Nat :=
  if u = ⟨#[85, 73, 68]⟩ then 1
  else if u = ⟨#[70, 76, 65, 71, 83]⟩ then 2
  else if u = ⟨#[82, 70, 67, 56, 50, 50, 46, 83, 73, 90, 69]⟩ then 4
  else if u = ⟨#[66, 79, 68, 89, 91, 93]⟩ then 8
  else 0
def modeOf (u : ByteArray) : Nat :=
  if u = ⟨#[70, 76, 65, 71, 83]⟩ then 1
  else if u = ⟨#[43, 70, 76, 65, 71, 83]⟩ then 2
  else if u = ⟨#[45, 70, 76, 65, 71, 83]⟩ then 3
  else 0
theorem itemOf_le (u : ByteArray) : itemOf u < 16 := by unfold itemOf; repeat' split <;> try omega
theorem modeOf_le (u : ByteArray) : modeOf u ≤ 3 := by unfold modeOf; repeat' split <;> try omega
/-- Numbers joined bit by bit, and whether all of them are some. -/
def orN (l : List Nat) : Nat := l.foldl (· ||| ·) 0
def allN (l : List Nat) : Bool := l.all (fun n => decide (n ≠ 0))
theorem orN_snoc (l : List Nat) (n : Nat) : orN (l ++ [n]) = orN l ||| n := by simp [orN, List.foldl_append]
theorem allN_snoc (l : List Nat) (n : Nat) : allN (l ++ [n]) = (allN l && decide (n ≠ 0)) := by simp [allN, List.all_append]
theorem or_fold (l : List Nat) : ∀ a, l.foldl (· ||| ·) a = a ||| orN l := by
  unfold orN
  induction l with
  | nil => intro a; simp
  | cons x r ih =>
    intro a
    rw [List.foldl_cons, List.foldl_cons, ih (a ||| x), ih (0 ||| x), Nat.zero_or, Nat.or_assoc]
theorem orN_cons (n : Nat) (l : List Nat) : orN (n :: l) = n ||| orN l := by
  show l.foldl (· ||| ·) (0 ||| n) = _
  rw [or_fold, Nat.zero_or]
theorem orN_lt (l : List Nat) (h : ∀ n ∈ l, n < 16) : orN l < 16 := by
  induction l with
  | nil => decide
  | cons x r ih =>
    rw [orN_cons]
    exact Nat.or_lt_two_pow (n := 4) (h x List.mem_cons_self) (ih (fun n hn => h n (List.mem_cons_of_mem _ hn)))
theorem orN_ne {l : List Nat} (h : allN l = true) (hl : l ≠ []) : orN l ≠ 0 := by
  cases l with
  | nil => exact absurd rfl hl
  | cons x r =>
    rw [orN_cons]
    have hx : x ≠ 0 := by
      unfold allN at h
      rw [List.all_cons, Bool.and_eq_true] at h
      simpa using h.1
    intro e
    exact hx (Nat.or_eq_zero_iff.1 e).1
/-- The items that a text names; 0: none. -/
def itemsOf (t : List UInt8) : Nat :=
  match brk t with
  | none => itemOf (upT t)
  | some i => if allN ((splitOf 32 i).map (fun x => itemOf (upT x))) = true then orN ((splitOf 32 i).map (fun x => itemOf (upT x))) else 0
theorem itemOf_nil : itemOf (upT []) = 0 := by decide
end Go.Proofs.YtpedmebigcchnaaGreatDoor
namespace Go.Proofs.YtpedmebigcchnaaGreatDoor
open Go.RowKit Go.Lib
def namesI (b : List UInt8) : List (List UInt8) :=
  match brk (b.map upU) with
  | some i => if i = [] then [] else splitOf 32 i
  | none => [b.map upU]
def itK (x : List UInt8) : Nat := itemOf ⟨x.toArray⟩
theorem items_names (b : List UInt8) : itemsOf b = if allN ((namesI b).map itK) = true ∧ orN ((namesI b).map itK) ≠ 0 then orN ((namesI b).map itK) else 0 := by
  unfold itemsOf namesI
  rw [brk_up]
  cases e : brk b with
  | none =>
    show itemOf (upT b) = if allN [itemOf (upT b)] = true ∧ orN [itemOf (upT b)] ≠ 0 then orN [itemOf (upT b)] else 0
    generalize itemOf (upT b) = n
    have h1 : orN [n] = n := by simp [orN]
    have h2 : allN [n] = decide (n ≠ 0) := by simp [allN]
    rw [h1, h2]
    by_cases h : n = 0
    · subst h; rfl
    · rw [if_pos ⟨by simpa using h, h⟩]
  | some i =>
    simp only [Option.map_some]
    by_cases hi : i = []
    · subst hi
      have h1 : (splitOf 32 ([] : List UInt8)).map (fun x => itemOf (upT x)) = [0] := by
        show [itemOf (upT [])] = [0]
        rw [itemOf_nil]
      rw [h1]
      rfl
    · have hm : i.map upU ≠ [] := by simpa using hi
      rw [if_neg hm, split_up, List.map_map]
      have h1 : (splitOf 32 i).map (itK ∘ List.map upU) = (splitOf 32 i).map (fun x => itemOf (upT x)) := rfl
      rw [h1]
      have hL : (splitOf 32 i).map (fun x => itemOf (upT x)) ≠ [] := by simpa using splitOf_ne 32 i
      generalize (splitOf 32 i).map (fun x => itemOf (upT x)) = L at hL ⊢
      by_cases ha : allN L = true
      · rw [if_pos ha, if_pos ⟨ha, orN_ne ha hL⟩]
      · rw [if_neg ha, if_neg (fun h => ha h.1)]
/-- What a line tells behind its tag. -/
structure MF where
  kind : Int
  uid : Bool
  set : List (Nat × Nat)
  items : Nat
  mode : Nat
  flags : Nat
  body : List Nat
/-- What FETCH and STORE tell behind their word. -/
def onSet (u : ByteArray) (t : List UInt8) : Option MF :=
  match setOf (pcL t) with
  | none => none
  | some ps =>
    if hbL t = false then none
    else if u = ⟨#[70, 69, 84, 67, 72]⟩ then (if itemsOf (nbL t) = 0 then none else some ⟨9, false, ps, itemsOf (nbL t), 0, 0, []⟩)
    else if u = ⟨#[83, 84, 79, 82, 69]⟩ then
      match rfOf (nbL (nbL t)) with
      | none => none
      | some fl => if hbL (nbL t) = false ∨ modeOf (upT (pcL (nbL t))) = 0 then none else some ⟨10, false, ps, 0, modeOf (upT (pcL (nbL t))), fl, []⟩
    else none
/-- What APPEND tells behind its word. -/
def onApp (body : List Nat) (t : List UInt8) : Option MF :=
  if t = [] then some ⟨12, false, [], 0, 0, 0, body⟩
  else if t.getLast? = some 32 then
    match rfOf t.dropLast with
    | none => none
    | some fl => some ⟨12, false, [], 0, 0, fl, body⟩
  else none
def withUid (m : MF) : MF := { m with uid := true }
def imOf (has : Bool) (body : List Nat) (t : List UInt8) : Option MF :=
  if has = true then (if upT (pcL t) = ⟨#[65, 80, 80, 69, 78, 68]⟩ ∧ hbL t = true then onApp body (nbL t) else none)
  else if hbL t = false then
    (if upT (pcL t) = ⟨#[78, 79, 79, 80]⟩ then some ⟨1, false, [], 0, 0, 0, []⟩
     else if upT (pcL t) = ⟨#[76, 79, 71, 79, 85, 84]⟩ then some ⟨2, false, [], 0, 0, 0, []⟩
     else if upT (pcL t) = ⟨#[69, 88, 80, 85, 78, 71, 69]⟩ then some ⟨11, false, [], 0, 0, 0, []⟩
     else none)
  else if upT (pcL t) = ⟨#[85, 73, 68]⟩ then (onSet (upT (pcL (nbL t))) (nbL (nbL t))).map withUid
  else onSet (upT (pcL t)) (nbL t)
/-- A tag. -/
def isAl (c : UInt8) : Bool := decide (48 ≤ c.toNat ∧ c.toNat ≤ 57) || decide (97 ≤ c.toNat ∧ c.toNat ≤ 122) || decide (65 ≤ c.toNat ∧ c.toNat ≤ 90)
def tagOk (t : List UInt8) : Bool := decide (1 ≤ t.length ∧ t.length ≤ 20) && t.all isAl
def noF : MF := ⟨0, false, [], 0, 0, 0, []⟩
/-- What ParseImap answers: the tag, and the rest. -/
def imA (bad has : Bool) (body : List Nat) (l : List UInt8) : List UInt8 × MF :=
  if bad = true ∨ 300 < l.length ∨ tagOk (pcL l) = false ∨ hbL l = false then ([42], noF)
  else (pcL l, (imOf has body (nbL l)).getD noF)
end Go.Proofs.YtpedmebigcchnaaGreatDoor
namespace Go.Proofs.YtpedmebigcchnaaGreatDoor
open Go.RowKit
/-- The pairs 'ps' (from, to) lie at 'a'. -/
def PrAt (w : World) (a : Option Addr) (ps : List (Int × Int)) : Prop :=
  0 < ps.length → ∃ b off, a = some ⟨b, off, none⟩ ∧ ∀ i (h : i < ps.length), w.cell? ⟨b, off + i * 2, none⟩ = some (.int .u32 ps[i].1) ∧ w.cell? ⟨b, off + i * 2 + 1, none⟩ = some (.int .u32 ps[i].2)
theorem PrAt.below {w w' : World} {a : Option Addr} {ps : List (Int × Int)} (h : PrAt w a ps) (hb : Below w.heap.size w w') : PrAt w' a ps := fun hp => by
  obtain ⟨b, off, rfl, hc⟩ := h hp
  refine ⟨b, off, rfl, fun i hi => ?_⟩
  obtain ⟨h1, h2⟩ := hc i hi
  exact ⟨by rw [hb.cell (p := ⟨b, off + i * 2, none⟩) (lt_of_cell0 h1)]; exact h1, by rw [hb.cell (p := ⟨b, off + i * 2 + 1, none⟩) (lt_of_cell0 h2)]; exact h2⟩
theorem Tryz.infoPair : (Tryz.prog.info? 79).map (fun i => (i.zero, i.size, i.bytes)) = some (some (.agg #[.int .u32 0, .int .u32 0]), 2, 8) := by kernel_rfl
def prP (e : Int × Int) : Value × Value := (.int .u32 e.1, .int .u32 e.2)
/-- The pairs of a call's own. -/
def OwnP (w : World) (base : Nat) (v : Value) (es : List (Int × Int)) : Prop := Own2 w base 79 v (es.map prP)
theorem OwnP.at {w : World} {base : Nat} {a : Option Addr} {n cap : Nat} {es : List (Int × Int)} (h : OwnP w base (.slice a n cap) es) : PrAt w a es := fun hp => by
  rcases h.2 with ⟨_, hn⟩ | ⟨g, cap', cur, h', _⟩
  · simp at hn; simp [hn] at hp
  · simp only [Value.slice.injEq] at h'
    obtain ⟨rfl, rfl, rfl⟩ := h'
    refine ⟨g, 0, rfl, fun i hi => ?_⟩
    obtain ⟨h0, h1⟩ := Own2.cells h i (by simpa using hi)
    rw [Nat.zero_add]
    simp [prP] at h0 h1
    exact ⟨h0, h1⟩
theorem eqPair_same (x y : Int) (w : World) :
    Calls Tryz.prog 46 #[.agg #[.int .u32 x, .int .u32 y], .agg #[.int .u32 x, .int .u32 y]] w fun e w' => e = .returned (.bool true) ∧ Below w.heap.size w w' := by
  go_enter Tryz.func46, Tryz.ntmps46
  go_wp2
  go_ret
  exact ⟨rfl, ((Below.refl _ _).alloc (Nat.le_refl _) _).alloc (by simp) _⟩
theorem eqPairS_same (a a' : Option Addr) (cap cap' : Nat) (es : List (Int × Int)) (w : World) (hl : es.length ≤ 9223372036854775807) (hr : PrAt w a es) (hr' : PrAt w a' es) :
    Calls Tryz.prog 26 #[.slice a es.length cap, .slice a' es.length cap'] w fun e w' => e = .returned (.bool true) ∧ Below w.heap.size w w' := by
  go_enter Tryz.func26, Tryz.ntmps26
  go_wp2
  go_loopw [5] (fun i wr => ∃ k : Nat, k ≤ es.length ∧ i = .int .i64 k ∧ Below w.heap.size w wr) (fun i _ => es.length - (intOf i).toNat)
  case atStart => exact ⟨0, Nat.zero_le _, rfl, Below.refl _ _⟩
  case round =>
    obtain ⟨k, hk, rfl, hnx⟩ := hrel
    by_cases hlt : k < es.length
    · obtain ⟨b, off, rfl, hc⟩ := (hr.below hnx) (by omega)
      obtain ⟨b', off', rfl, hc'⟩ := (hr'.below hnx) (by omega)
      obtain ⟨hc0, hc1⟩ := hc k hlt
      obtain ⟨hd0, hd1⟩ := hc' k hlt
      have HN := hide hnx
      clear hc hc' hr hr' hnx
      generalize es[k].1 = s0 at hc0 hd0
      generalize es[k].2 = n0 at hc1 hd1
      go_wp2
      go_region_with (go_at_call 46; refine (eqPair_same s0 n0 _).mono ?_; rintro e w2 ⟨rfl, hb⟩)
      all_goals
        have hnx2 : Below w.heap.size w w2 := HN.out.drew.trans (hb.mono HN.out.size)
        have HN2 := hide hnx2
        clear hnx2 hb hc0 hc1 hd0 hd1
        go_wp2
        go_roundw
        case rel => exact ⟨k + 1, by omega, by go_num, HN2.out⟩
        case measure => simp [intOf]; omega
    · go_wp2
      go_ret
      exact ⟨rfl, hnx⟩
end Go.Proofs.YtpedmebigcchnaaGreatDoor
