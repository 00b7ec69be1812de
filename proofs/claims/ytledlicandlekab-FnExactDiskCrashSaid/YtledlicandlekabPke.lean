import Derived.Test.YtledlicandlekabPka
import Derived.Test.YtledlicandlekabPkb
import Derived.Test.YtledlicandlekabPkc
import Derived.Test.YtledlicandlekabPkd
import Derived.Deep.RegionWith
import Derived.Deep.Cut
namespace Go.Proofs.Ytledlicandlekab
open Go.RowKit
/-- 'x > nm', as the model has it. -/
def gtB (x nm : ByteArray) : Bool := !(Op.bytesLess x.toList nm.toList || x.toList == nm.toList)
/-- The place of the first name above nm. -/
def posE (l : List (ByteArray × Int)) (nm : ByteArray) : Nat := l.findIdx fun e => gtB e.1 nm
/-- nm bound anew in l, which lacks it. -/
def insE (l : List (ByteArray × Int)) (nm : ByteArray) (nd : Int) : List (ByteArray × Int) := l.take (posE l nm) ++ (nm, nd) :: l.drop (posE l nm)
/-- What l1With has written behind k entries. -/
def outK (l : List (ByteArray × Int)) (nm : ByteArray) (nd : Int) (k : Nat) : List (ByteArray × Int) := if k ≤ posE l nm then l.take k else l.take (posE l nm) ++ (nm, nd) :: (l.take k).drop (posE l nm)
theorem outK_lo {l : List (ByteArray × Int)} {nm : ByteArray} {nd : Int} {k : Nat} (hk : k < l.length) (h : k < posE l nm) : outK l nm nd (k + 1) = outK l nm nd k ++ [(l[k].1, l[k].2)] := by
  unfold outK
  rw [if_pos (by omega), if_pos (by omega), List.take_succ_eq_append_getElem hk]
theorem outK_at {l : List (ByteArray × Int)} {nm : ByteArray} {nd : Int} {k : Nat} (hk : k < l.length) (h : k = posE l nm) : outK l nm nd (k + 1) = (outK l nm nd k ++ [(nm, nd)]) ++ [(l[k].1, l[k].2)] := by
  unfold outK
  rw [if_neg (by omega), if_pos (by omega), ← h, List.take_succ_eq_append_getElem hk]
  have e : (l.take k ++ [l[k]]).drop k = [l[k]] := by
    rw [List.drop_append_of_le_length (by simp; omega)]
    simp
  rw [e]
  simp
theorem outK_hi {l : List (ByteArray × Int)} {nm : ByteArray} {nd : Int} {k : Nat} (hk : k < l.length) (h : posE l nm < k) : outK l nm nd (k + 1) = outK l nm nd k ++ [(l[k].1, l[k].2)] := by
  unfold outK
  rw [if_neg (by omega), if_neg (by omega), List.take_succ_eq_append_getElem hk, List.drop_append_of_le_length (by simp; omega)]
  simp
theorem outK_zero (l : List (ByteArray × Int)) (nm : ByteArray) (nd : Int) : outK l nm nd 0 = [] := by unfold outK; rw [if_pos (by omega)]; rfl
theorem posE_le (l : List (ByteArray × Int)) (nm : ByteArray) : posE l nm ≤ l.length := List.findIdx_le_length
theorem outK_end {l : List (ByteArray × Int)} {nm : ByteArray} {nd : Int} (h : posE l nm < l.length) : outK l nm nd l.length = insE l nm nd := by
  unfold outK insE
  rw [if_neg (by omega), List.take_length]
theorem outK_end' {l : List (ByteArray × Int)} {nm : ByteArray} {nd : Int} (h : ¬ posE l nm < l.length) : outK l nm nd l.length ++ [(nm, nd)] = insE l nm nd := by
  have := posE_le l nm
  unfold outK insE
  rw [if_pos (by omega), show posE l nm = l.length from by omega]
  simp
theorem outK_len (l : List (ByteArray × Int)) (nm : ByteArray) (nd : Int) (k : Nat) : (outK l nm nd k).length ≤ l.length + 1 := by
  unfold outK
  split <;> simp <;> omega
theorem gt_at {l : List (ByteArray × Int)} {nm : ByteArray} {k : Nat} (hk : k < l.length) (h : k = posE l nm) : gtB l[k].1 nm = true := by
  subst h
  exact List.findIdx_getElem (w := hk)
theorem gt_lo {l : List (ByteArray × Int)} {nm : ByteArray} {k : Nat} (hk : k < l.length) (h : k < posE l nm) : gtB l[k].1 nm = false := by
  have := List.not_of_lt_findIdx h
  simpa using this
end Go.Proofs.Ytledlicandlekab
namespace Go.Proofs.Ytledlicandlekab
open Go.RowKit
theorem ent_new (w : World) (x : ByteArray) (n : Int) : (w.alloc (.cells #[.string x, .int .i64 n] 58)).cell? ⟨w.heap.size, 0, none⟩ = some (.string x) ∧ (w.alloc (.cells #[.string x, .int .i64 n] 58)).cell? ⟨w.heap.size, 1, none⟩ = some (.int .i64 n) := by
  have l2 := Laid.new w #[.string x, .int .i64 n] 58
  exact ⟨l2.cell 0, l2.cell 1⟩
theorem ent_new1 (w : World) (o : Obj) (x : ByteArray) (n : Int) : ((w.alloc o).alloc (.cells #[.string x, .int .i64 n] 58)).cell? ⟨w.heap.size + 1, 0, none⟩ = some (.string x) ∧ ((w.alloc o).alloc (.cells #[.string x, .int .i64 n] 58)).cell? ⟨w.heap.size + 1, 1, none⟩ = some (.int .i64 n) := by
  have h := ent_new (w.alloc o) x n
  rw [show (w.alloc o).heap.size = w.heap.size + 1 from by simp] at h
  exact h
theorem ownE_alloc {w : World} {base : Nat} {v : Value} {es : List (ByteArray × Int)} (h : OwnE w base v es) (o : Obj) : OwnE (w.alloc o) base v es := h.below ((Below.refl _ _).alloc (Nat.le_refl _) o)
theorem below_grown2 {w w1 w3 : World} {base : Nat} {v : Value} {es : List (ByteArray × Int)} {o1 o2 : Obj} (hb : Below base w w1) (hs : base ≤ w1.heap.size) (ho : OwnE w1 base v es) (hg : ((w1.alloc o1).alloc o2).grownBy w3 v.ownBlock) : Below base w w3 :=
  ((hb.alloc hs o1).alloc (by simp; omega) o2).grown hg (by simp; omega) (fun j hj => (World.ownsRow.lt ho j hj).1)
theorem grown_ent {w w3 : World} {base : Nat} {v : Value} {es : List (ByteArray × Int)} {x : ByteArray} {n : Int} {o : Obj} (ho : OwnE w base v es) (hg : ((w.alloc (.cells #[.string x, .int .i64 n] 58)).alloc o).grownBy w3 v.ownBlock) : w3.cell? ⟨w.heap.size, 0, none⟩ = some (.string x) ∧ w3.cell? ⟨w.heap.size, 1, none⟩ = some (.int .i64 n) := by
  have l0 : Laid ((w.alloc (.cells #[.string x, .int .i64 n] 58)).alloc o) w.heap.size #[.string x, .int .i64 n] 58 := Laid.below (B := w.heap.size + 1) (Laid.new w _ _) ((Below.refl _ _).alloc (by simp) _) (by omega)
  have l1 : Laid w3 w.heap.size #[.string x, .int .i64 n] 58 := (hg.block w.heap.size (by simp; omega) (fun e => by have := (World.ownsRow.lt ho _ e.symm).2; omega)).trans l0
  exact ⟨l1.cell 0, l1.cell 1⟩
set_option maxRecDepth 20000 in
set_option maxHeartbeats 1000000 in
theorem l1With_any (a : Option Addr) (cap : Nat) (es : List (ByteArray × Int)) (nm : ByteArray) (nd : Int) (w : World) (hn : es.length ≤ 1048574) (hr : EntAt w a es) :
    Calls Try.prog 71 #[.slice a es.length cap, .string nm, .int .i64 nd] w fun e w' => ∃ v, e = .returned v ∧ OwnE w' w.heap.size v (insE (es.filter fun e => decide (e.1 ≠ nm)) nm nd) ∧ Below w.heap.size w w' := by
  go_enter Try.func71, Try.ntmps71
  go_wp2_with fail
  refine (l1Without_any a cap es nm w (by omega) hr).mono ?_
  rintro e w1 ⟨v1, rfl, ho1, hb1⟩
  obtain ⟨a1, c1, hv1⟩ := ho1.slice
  subst hv1
  have he1 := ho1.at
  have hfl : (es.filter fun e => decide (e.1 ≠ nm)).length ≤ 1048574 := Nat.le_trans (List.length_filter_le _ _) hn
  have HB1 := hide hb1
  have HE1 := hide he1
  clear ho1 hb1 hr he1
  generalize hle : (es.filter fun e => decide (e.1 ≠ nm)) = l at HE1 hfl
  have HLE := hide hle
  clear hle
  go_wp2
  go_loopw [7, 8, 15] (fun v d i wr => ∃ k : Nat, k ≤ l.length ∧ i = .int .i64 k ∧ d = .bool (decide (posE l nm < k)) ∧ OwnE wr w1.heap.size v (outK l nm nd k) ∧ Below w1.heap.size w1 wr) (fun _ _ i _ => l.length - (intOf i).toNat)
  case atStart => exact ⟨0, Nat.zero_le _, rfl, by simp, by rw [outK_zero]; exact World.ownsRow_nil w1 w1.heap.size 58 2, Below.refl _ _⟩
  case round =>
    obtain ⟨k, hk, rfl, rfl, hown, hnx⟩ := hrel
    have hlen := outK_len l nm nd k
    by_cases hlt : k < l.length
    · obtain ⟨b, off, rfl, hc⟩ := (HE1.out.below hnx) (by omega)
      obtain ⟨hc0, hc1⟩ := hc k hlt
      have HLO := hide (fun h => outK_lo (nm := nm) (nd := nd) hlt h)
      have HAT := hide (fun h => outK_at (nm := nm) (nd := nd) hlt h)
      have HHI := hide (fun h => outK_hi (nm := nm) (nd := nd) hlt h)
      have HGA := hide (fun h => gt_at (nm := nm) hlt h)
      have HGL := hide (fun h => gt_lo (nm := nm) hlt h)
      have HO := hide hown
      have HN := hide hnx
      have HS := hide hnx.size
      clear hc hown hnx
      generalize l[k].1 = x0 at hc0 HLO HAT HHI HGA HGL
      generalize l[k].2 = x1 at hc1 HLO HAT HHI
      have HC := hide (ent_new1 wr (.cells #[.string x0, .int .i64 x1] 58) x0 x1)
      rcases Nat.lt_trichotomy k (posE l nm) with hp | hp | hp
      · have hd : decide (posE l nm < k) = false := by simp; omega
        rw [hd]
        have hg := HGL.out hp
        have HOUT := hide (HLO.out hp)
        have HDD := hide (show Value.bool false = .bool (decide (posE l nm < k + 1)) from by rw [decide_eq_false (by omega)])
        unfold gtB at hg
        clear HLO HAT HHI HGA HGL hp hd
        generalize outK l nm nd k = ol at HO HOUT hlen
        go_wp2_with (first
          | (at_builtin; refine wpList_append_entry _ rfl (.tmp 33) (.tmp 35) rfl w1.heap.size u7 ol (x0, x1) (wr.heap.size + 1) 1 rfl rfl ?_ ?_ ?_ ?_ ?_ ?_; (exact ownE_alloc (ownE_alloc HO.out _) _); (exact HC.out.1); (exact HC.out.2); omega; (exact Nat.le_trans HS.out (by simp; omega)); intro v3 w3 ho3 hg3)
          | go_in)
        exact ⟨⟨k + 1, by omega, by go_num, HDD.out, by rw [HOUT.out]; exact ho3, below_grown2 HN.out HS.out HO.out hg3⟩, by simp [intOf]; omega⟩
      · have hd : decide (posE l nm < k) = false := by simp; omega
        rw [hd]
        have hg := HGA.out hp
        have HOUT := hide (HAT.out hp)
        have HDD := hide (show Value.bool true = .bool (decide (posE l nm < k + 1)) from by rw [decide_eq_true (by omega)])
        unfold gtB at hg
        clear HLO HAT HHI HGA HGL hp hd
        generalize outK l nm nd k = ol at HO HOUT hlen
        have HC2 := hide (ent_new1 wr (.cells #[.string x0, .int .i64 x1] 58) nm nd)
        go_wp2_with (first
          | (at_builtin; refine wpList_append_entry _ rfl (.tmp 27) (.tmp 31) rfl w1.heap.size u7 ol (nm, nd) (wr.heap.size + 1) 1 rfl rfl ?_ ?_ ?_ ?_ ?_ ?_; (exact ownE_alloc (ownE_alloc HO.out _) _); (exact HC2.out.1); (exact HC2.out.2); omega; (exact Nat.le_trans HS.out (by simp; omega)); intro v3 w3 ho3 hg3; obtain ⟨q3, q4⟩ := grown_ent HO.out hg3; have HS3 := hide (below_grown2 HN.out HS.out HO.out hg3).size; have HO3 := hide ho3; have HG3 := hide hg3; clear ho3 hg3)
          | (at_builtin; refine wpList_append_entry _ rfl (.tmp 33) (.tmp 35) rfl w1.heap.size v3 (ol ++ [(nm, nd)]) (x0, x1) w3.heap.size 1 rfl rfl ?_ ?_ ?_ ?_ ?_ ?_; (exact ownE_alloc HO3.out _); (exact (ent_new w3 x0 x1).1); (exact (ent_new w3 x0 x1).2); (simp; omega); (exact Nat.le_trans HS3.out (by simp)); intro v4 w4 ho4 hg4)
          | go_in)
        exact ⟨⟨k + 1, by omega, by go_num, HDD.out, by rw [HOUT.out]; exact ho4, ((below_grown2 HN.out HS.out HO.out HG3.out).alloc HS3.out _).grown hg4 (Nat.le_trans HS3.out (by simp)) (fun j hj => (World.ownsRow.lt HO3.out j hj).1)⟩, by simp [intOf]; omega⟩
      · have hd : decide (posE l nm < k) = true := by simp; omega
        rw [hd]
        have HOUT := hide (HHI.out hp)
        have HDD := hide (show Value.bool true = .bool (decide (posE l nm < k + 1)) from by rw [decide_eq_true (by omega)])
        clear HLO HAT HHI HGA HGL hp hd
        generalize outK l nm nd k = ol at HO HOUT hlen
        go_wp2_with (first
          | (at_builtin; refine wpList_append_entry _ rfl (.tmp 33) (.tmp 35) rfl w1.heap.size u7 ol (x0, x1) (wr.heap.size + 1) 1 rfl rfl ?_ ?_ ?_ ?_ ?_ ?_; (exact ownE_alloc (ownE_alloc HO.out _) _); (exact HC.out.1); (exact HC.out.2); omega; (exact Nat.le_trans HS.out (by simp; omega)); intro v3 w3 ho3 hg3)
          | go_in)
        exact ⟨⟨k + 1, by omega, by go_num, HDD.out, by rw [HOUT.out]; exact ho3, below_grown2 HN.out HS.out HO.out hg3⟩, by simp [intOf]; omega⟩
    · obtain rfl : k = l.length := by omega
      by_cases hp : posE l nm < l.length
      · have hd : decide (posE l nm < l.length) = true := by simp; omega
        rw [hd]
        rw [outK_end hp] at hown
        have HO := hide hown
        have HN := hide (HB1.out.trans (hnx.mono HB1.out.size))
        have HS := hide HB1.out.size
        clear hown hnx hd hp hlen
        go_wp2
        go_ret
        exact ⟨u7, rfl, by rw [HLE.out]; exact HO.out.mono HS.out, HN.out⟩
      · have hd : decide (posE l nm < l.length) = false := by simp; omega
        rw [hd]
        have HOUT := hide (outK_end' (nd := nd) hp)
        have HO := hide hown
        have HN := hide hnx
        have HS := hide hnx.size
        have HC := hide (ent_new wr nm nd)
        clear hown hnx hd hp
        generalize outK l nm nd l.length = ol at HO HOUT hlen
        go_wp2_with (first
          | (at_builtin; refine wpList_append_entry _ rfl (.tmp 40) (.tmp 44) rfl w1.heap.size u7 ol (nm, nd) wr.heap.size 1 rfl rfl ?_ ?_ ?_ ?_ ?_ ?_; (exact ownE_alloc HO.out _); (exact HC.out.1); (exact HC.out.2); omega; (exact Nat.le_trans HS.out (by simp)); intro v3 w3 ho3 hg3)
          | go_in)
        go_ret
        have hb3 : Below w1.heap.size w1 w3 := (HN.out.alloc HS.out _).grown hg3 (Nat.le_trans HS.out (by simp)) (fun j hj => (World.ownsRow.lt HO.out j hj).1)
        exact ⟨v3, rfl, by rw [HLE.out, ← HOUT.out]; exact ho3.mono HB1.out.size, HB1.out.trans (hb3.mono HB1.out.size)⟩
end Go.Proofs.Ytledlicandlekab
namespace Go.Proofs.Ytledlicandlekab
open Go.RowKit
abbrev EN := ByteArray × Int
abbrev DO := Int × ByteArray × ByteArray × Int
def noName (es : List EN) (nm : ByteArray) : List EN := es.filter fun e => decide (e.1 ≠ nm)
def nodeIn (es : List EN) (nm : ByteArray) : Option Int := (es.find? fun e => decide (e.1 = nm)).map (·.2)
/-- What an operation of Pend makes of a list of entries; none if it is not good. -/
def repE (nodes : Int) (es : List EN) (o : DO) : Option (List EN) :=
  if o.1 = 1 then (if okName o.2.1 = true ∧ o.2.2.1.toList = [] ∧ 0 ≤ o.2.2.2 ∧ o.2.2.2 < nodes ∧ (∀ e ∈ es, e.2 ≠ o.2.2.2) then some (insE (noName es o.2.1) o.2.1 o.2.2.2) else none)
  else if o.1 = 4 then (match nodeIn es o.2.1 with
    | none => none
    | some nd => if okName o.2.2.1 = true ∧ o.2.2.1 ≠ o.2.1 ∧ o.2.2.2 = 0 then some (insE (noName (noName es o.2.1) o.2.2.1) o.2.2.1 nd) else none)
  else if o.1 = 5 then (match nodeIn es o.2.1 with
    | none => none
    | some _ => if o.2.2.1.toList = [] ∧ o.2.2.2 = 0 then some (noName es o.2.1) else none)
  else none
def RepPost (w : World) : Option (List EN) → Ending → World → Prop
  | none, e, w' => e = .returned (.tuple #[.slice none 0 0, .bool false]) ∧ Below w.heap.size w w'
  | some l, e, w' => ∃ a c, e = .returned (.tuple #[.slice a l.length c, .bool true]) ∧ OwnE w' w.heap.size (.slice a l.length c) l ∧ Below w.heap.size w w'
theorem nodeIn_none {es : List EN} {nm : ByteArray} (h : ∀ i (h : i < es.length), es[i].1 ≠ nm) : nodeIn es nm = none := by
  unfold nodeIn
  rw [List.find?_eq_none.2 (fun x hx => by
    obtain ⟨i, hi, rfl⟩ := List.getElem_of_mem hx
    simpa using h i hi)]
  rfl
theorem nodeIn_some {es : List EN} {nm : ByteArray} {i : Nat} (hi : i < es.length) (h1 : es[i].1 = nm) (h2 : ∀ k (hk : k < i), es[k].1 ≠ nm) : nodeIn es nm = some es[i].2 := by
  unfold nodeIn
  have : es.find? (fun e => decide (e.1 = nm)) = some es[i] := by
    rw [List.find?_eq_some_iff_getElem]
    refine ⟨by simpa using h1, i, hi, rfl, fun j hj => by simpa using h2 j hj⟩
  rw [this]
  rfl
theorem l1Find_n (a : Option Addr) (cap : Nat) (es : List EN) (nm : ByteArray) (w : World) (hn : es.length ≤ 1048574) (hr : EntAt w a es) :
    Calls Try.prog 24 #[.slice a es.length cap, .string nm] w fun e w' => ((∃ i nd, i < es.length ∧ nodeIn es nm = some nd ∧ (∀ b off, a = some ⟨b, off, none⟩ → w.cell? ⟨b, off + i * 2 + 1, none⟩ = some (.int .i64 nd)) ∧ e = .returned (.int .i64 ((i : Nat) : Int))) ∨ (nodeIn es nm = none ∧ e = .returned (.int .i64 (-1)))) ∧ w' = w := by
  refine (l1Find_any a cap es nm w (by omega) hr).mono ?_
  rintro e w' ⟨h, rfl⟩
  refine ⟨?_, rfl⟩
  rcases h with ⟨i, hi, h1, h2, rfl⟩ | ⟨h, rfl⟩
  · refine .inl ⟨i, es[i].2, hi, nodeIn_some hi h1 h2, fun b off e => ?_, rfl⟩
    obtain ⟨b', off', e', hc⟩ := hr (by omega)
    rw [e] at e'
    simp only [Option.some.injEq, Addr.mk.injEq, and_true] at e'
    obtain ⟨rfl, rfl⟩ := e'
    exact (hc i hi).2
  · exact .inr ⟨nodeIn_none h, rfl⟩
theorem rep_no {w w' : World} {R : Option (List EN)} (h : R = none) (hb : Below w.heap.size w w') : RepPost w R (.returned (.tuple #[.slice none 0 0, .bool false])) w' := by subst h; exact ⟨rfl, hb⟩
theorem rep_yes {w w' : World} {R : Option (List EN)} {l : List EN} {a : Option Addr} {c : Nat} (h : R = some l) (ho : OwnE w' w.heap.size (.slice a l.length c) l) (hb : Below w.heap.size w w') : RepPost w R (.returned (.tuple #[.slice a l.length c, .bool true])) w' := by subst h; exact ⟨a, c, rfl, ho, hb⟩
theorem rep1 (nodes : Int) (es : List EN) (nm to : ByteArray) (nd : Int) : repE nodes es (1, nm, to, nd) = if okName nm = true ∧ to.toList = [] ∧ 0 ≤ nd ∧ nd < nodes ∧ (∀ e ∈ es, e.2 ≠ nd) then some (insE (noName es nm) nm nd) else none := rfl
theorem rep4 (nodes : Int) (es : List EN) (nm to : ByteArray) (nd : Int) : repE nodes es (4, nm, to, nd) = (match nodeIn es nm with | none => none | some n0 => if okName to = true ∧ to ≠ nm ∧ nd = 0 then some (insE (noName (noName es nm) to) to n0) else none) := rfl
theorem rep5 (nodes : Int) (es : List EN) (nm to : ByteArray) (nd : Int) : repE nodes es (5, nm, to, nd) = (match nodeIn es nm with | none => none | some _ => if to.toList = [] ∧ nd = 0 then some (noName es nm) else none) := rfl
set_option maxRecDepth 20000 in
set_option maxHeartbeats 1000000 in
theorem l1Replay_any (a : Option Addr) (cap : Nat) (es : List EN) (kd : Int) (nm to : ByteArray) (nd nodes : Int) (w : World) (hn : es.length ≤ 1048573) (hs1 : nm.size ≤ 1048576) (hs2 : to.size ≤ 1048576) (hr : EntAt w a es) :
    Calls Try.prog 42 #[.slice a es.length cap, .agg #[.int .i64 kd, .string nm, .string to, .int .i64 nd], .int .i64 nodes] w (RepPost w (repE nodes es (kd, nm, to, nd))) := by
  have hB0 : Below w.heap.size w (w.alloc (.cells #[.int .i64 kd, .string nm, .string to, .int .i64 nd] 74)) := (Below.refl _ _).alloc (Nat.le_refl _) _
  have L0 := Laid.new w #[.int .i64 kd, .string nm, .string to, .int .i64 nd] 74
  have hr0 := hr.below hB0
  have HFI := hide (fun nm => l1Find_n a cap es nm _ (by omega) hr0)
  go_enter Try.func42, Try.ntmps42
  go_wp2_with fail
  generalize w.alloc (.cells #[.int .i64 kd, .string nm, .string to, .int .i64 nd] 74) = W0 at hB0 L0 hr0 HFI ⊢
  refine (HFI.out nm).mono ?_
  rintro e w1 ⟨hcase, rfl⟩
  have q0 : w1.cell? ⟨w.heap.size, 0, none⟩ = some (.int .i64 kd) := L0.cell 0
  have q1 : w1.cell? ⟨w.heap.size, 1, none⟩ = some (.string nm) := L0.cell 1
  have q2 : w1.cell? ⟨w.heap.size, 2, none⟩ = some (.string to) := L0.cell 2
  have q3 : w1.cell? ⟨w.heap.size, 3, none⟩ = some (.int .i64 nd) := L0.cell 3
  have HC := hide hcase
  have HB0 := hide hB0
  have HR0 := hide hr0
  have HL0 := hide L0
  clear hcase hB0 hr0 L0 HFI hr
  obtain ⟨at_, hat⟩ : ∃ v, e = .returned (.int .i64 v) := by
    rcases HC.out with ⟨i, _, _, _, _, rfl⟩ | ⟨_, rfl⟩
    · exact ⟨_, rfl⟩
    · exact ⟨_, rfl⟩
  subst hat
  by_cases k1 : kd = 1
  · subst k1
    have hR := rep1 nodes es nm to nd
    by_cases c1 : okName nm = true
    · by_cases c2 : to.toList = []
      · have c2' : (to.toList == []) = true := by simpa using c2
        by_cases c3 : 0 ≤ nd
        · by_cases c4 : nd < nodes
          · have c3' : ¬ nd < 0 := by omega
            have c4' : ¬ nodes ≤ nd := by omega
            have HR := hide hR
            clear hR
            go_wp2_with fail
            refine (l1GoodName_any nm w1 (by omega)).mono ?_
            rintro e w2 ⟨rfl, rfl⟩
            rw [c1]
            go_wp2
            go_loopw [10, 42] (fun _ i wr => ∃ k : Nat, k ≤ es.length ∧ i = .int .i64 (k : Int) ∧ (∀ j (h : j < es.length), j < k → es[j].2 ≠ nd) ∧ Below w2.heap.size w2 wr) (fun _ i _ => es.length - (intOf i).toNat)
            case atStart => exact ⟨0, Nat.zero_le _, rfl, fun j _ h => by omega, Below.refl _ _⟩
            case round =>
              obtain ⟨k, hk, rfl, hno, hbw⟩ := hrel
              have HNO := hide hno
              have HBW := hide (HB0.out.trans (hbw.mono HB0.out.size))
              have p1 := (hbw.cell (p := ⟨w.heap.size, 1, none⟩) (lt_of_cell0 q1)).trans q1
              have p3 := (hbw.cell (p := ⟨w.heap.size, 3, none⟩) (lt_of_cell0 q3)).trans q3
              have HRW := hide (HR0.out.below hbw)
              have HN := hide hbw
              clear hno hbw
              by_cases hlt : k < es.length
              · obtain ⟨b, off, rfl, hc⟩ := HRW.out (by omega)
                obtain ⟨hc0, hc1⟩ := hc k hlt
                have hsz : w.heap.size < wr.heap.size := lt_of_cell0 p3
                by_cases hx : es[k].2 = nd
                · have HX := hide (show ¬ (okName nm = true ∧ to.toList = [] ∧ 0 ≤ nd ∧ nd < nodes ∧ ∀ e ∈ es, e.2 ≠ nd) from fun h => h.2.2.2.2 es[k] (List.getElem_mem hlt) hx)
                  rw [hx] at hc1
                  generalize es[k].1 = x0 at hc0
                  clear hc hx
                  go_wp2
                  go_ret2
                  exact rep_no (by rw [HR.out, if_neg HX.out]) (HBW.out.alloc (by omega) _)
                · have hxb : (es[k].2 == nd) = false := by simpa using hx
                  have HX := hide hx
                  generalize es[k].1 = x0 at hc0
                  generalize hx1 : es[k].2 = x1 at hc1 hxb
                  clear hc hx hx1
                  go_wp2
                  go_roundw
                  case rel => exact ⟨k + 1, by omega, by go_num, fun j h h' => by
                    by_cases e : j = k
                    · subst e; exact HX.out
                    · exact HNO.out j h (by omega), HN.out.alloc HN.out.size _⟩
                  case measure => simp [intOf]; omega
              · obtain rfl : k = es.length := by omega
                have HX := hide (show (okName nm = true ∧ to.toList = [] ∧ 0 ≤ nd ∧ nd < nodes ∧ ∀ e ∈ es, e.2 ≠ nd) from ⟨c1, c2, c3, c4, fun e he => by
                  obtain ⟨j, hj, rfl⟩ := List.getElem_of_mem he
                  exact HNO.out j hj hj⟩)
                go_wp2_with fail
                refine (l1With_any a cap es nm nd wr (by omega) HRW.out).mono ?_
                rintro e w3 ⟨v3, rfl, ho3, hb3⟩
                obtain ⟨a3, c3v, rfl⟩ := ho3.slice
                have HO3 := hide ho3
                have HB3 := hide hb3
                clear ho3 hb3
                generalize hll : insE (es.filter fun e => decide (e.1 ≠ nm)) nm nd = L at HO3
                have HLL := hide hll
                clear hll
                have hsw : w.heap.size ≤ wr.heap.size := HBW.out.size
                go_wp2
                go_ret2
                exact rep_yes (by rw [HR.out, if_pos HX.out]; exact congrArg some HLL.out) (HO3.out.mono hsw) (HBW.out.trans (HB3.out.mono hsw))
          · have c3' : ¬ nd < 0 := by omega
            have c4' : nodes ≤ nd := by omega
            have HR := hide (hR.trans (if_neg (fun h => c4 h.2.2.2.1)))
            clear hR
            go_wp2_with fail
            refine (l1GoodName_any nm w1 (by omega)).mono ?_
            rintro e w2 ⟨rfl, rfl⟩
            rw [c1]
            go_wp2
            go_ret2
            exact rep_no HR.out HB0.out
        · have c3' : nd < 0 := by omega
          have HR := hide (hR.trans (if_neg (fun h => c3 h.2.2.1)))
          clear hR
          go_wp2_with fail
          refine (l1GoodName_any nm w1 (by omega)).mono ?_
          rintro e w2 ⟨rfl, rfl⟩
          rw [c1]
          go_wp2
          go_ret2
          exact rep_no HR.out HB0.out
      · have c2' : (to.toList == []) = false := by simpa using c2
        have HR := hide (hR.trans (if_neg (fun h => c2 h.2.1)))
        clear hR
        go_wp2_with fail
        refine (l1GoodName_any nm w1 (by omega)).mono ?_
        rintro e w2 ⟨rfl, rfl⟩
        rw [c1]
        go_wp2
        go_ret2
        exact rep_no HR.out HB0.out
    · have c1' : okName nm = false := by simpa using c1
      have HR := hide (hR.trans (if_neg (fun h => c1 h.1)))
      clear hR
      go_wp2_with fail
      refine (l1GoodName_any nm w1 (by omega)).mono ?_
      rintro e w2 ⟨rfl, rfl⟩
      rw [c1']
      go_wp2
      go_ret2
      exact rep_no HR.out HB0.out
  · have k1' : (kd == 1) = false := by simpa using k1
    by_cases k4 : kd = 4
    · subst k4
      have hR := rep4 nodes es nm to nd
      rcases HC.out with ⟨i, n0, hi, hn0, hcl, e1⟩ | ⟨hn0, e1⟩
      · obtain rfl : at_ = (i : Int) := by simpa using e1
        rw [hn0] at hR
        simp only at hR
        have hai : ¬ (i : Int) < 0 := by omega
        have HCL := hide hcl
        clear HC hcl e1
        by_cases c1 : okName to = true
        · by_cases c2 : to = nm
          · have HR := hide (hR.trans (if_neg (fun h => h.2.1 c2)))
            have hq := beq_of_eq c2
            clear hR hn0 c2
            go_wp2_with fail
            refine (l1GoodName_any to w1 (by omega)).mono ?_
            rintro e w2 ⟨rfl, rfl⟩
            rw [c1]
            go_wp2
            go_ret2
            exact rep_no HR.out HB0.out
          · have hq := beq_of_ne c2
            by_cases c3 : nd = 0
            · have HR := hide (hR.trans (if_pos ⟨c1, c2, c3⟩))
              subst c3
              obtain ⟨b, off, rfl, hc⟩ := HR0.out (by omega)
              have hcn := HCL.out b off rfl
              clear hR hn0 c2 hc HCL
              go_wp2_with fail
              refine (l1GoodName_any to w1 (by omega)).mono ?_
              rintro e w2 ⟨rfl, rfl⟩
              rw [c1]
              go_wp2
              have HWO := hide (fun (W : World) (hW : Below w2.heap.size w2 W) => l1Without_any (some ⟨b, off, none⟩) cap es nm W (by omega) (HR0.out.below hW))
              have hfl : (noName es nm).length ≤ 1048573 := Nat.le_trans (List.length_filter_le _ _) hn
              go_region_with (first
                | (go_at_call 72; refine (HWO.out _ (Below.refl _ _).drew).mono ?_; rintro e w4 ⟨v4, rfl, ho4, hb4⟩; have hho4 : OwnE w4 w2.heap.size v4 (noName es nm) := ho4; generalize hL4 : noName es nm = L4 at hho4 hfl; obtain ⟨a4, c4, rfl⟩ := hho4.slice; have p2 : w4.cell? ⟨w.heap.size, 2, none⟩ = some (.string to) := (hb4.cell (p := ⟨w.heap.size, 2, none⟩) (lt_of_cell0 q2)).trans q2; have HO4 := hide hho4; have HB4 := hide hb4; have HL4 := hide hL4; clear ho4 hho4 hb4 hL4)
                | (go_at_call 71; refine (l1With_any a4 c4 L4 to n0 w4 (by omega) HO4.out.at).mono ?_; rintro e w5 ⟨v5, rfl, ho5, hb5⟩; have HO5 := hide ho5; have HB5 := hide hb5; clear ho5 hb5))
              all_goals
                obtain ⟨a5, c5, e5⟩ := HO5.out.slice
                subst e5
                have hsw := HB0.out.size
                have hb24 : Below w2.heap.size w2 w4 := (Below.refl w2.heap.size w2).drew.trans HB4.out
                have hs4 := hb24.size
                go_wp2
                go_ret2
                exact rep_yes (HR.out.trans (by rw [HL4.out]; rfl)) (HO5.out.mono (by omega)) ((HB0.out.trans (hb24.mono hsw)).trans (HB5.out.mono (by omega)))
            · have hz : (nd != 0) = true := by simpa using c3
              have HR := hide (hR.trans (if_neg (fun h => c3 h.2.2)))
              clear hR hn0 c2
              go_wp2_with fail
              refine (l1GoodName_any to w1 (by omega)).mono ?_
              rintro e w2 ⟨rfl, rfl⟩
              rw [c1]
              go_wp2
              go_ret2
              exact rep_no HR.out HB0.out
        · have c1' : okName to = false := by simpa using c1
          have HR := hide (hR.trans (if_neg (fun h => c1 h.1)))
          clear hR hn0
          go_wp2_with fail
          refine (l1GoodName_any to w1 (by omega)).mono ?_
          rintro e w2 ⟨rfl, rfl⟩
          rw [c1']
          go_wp2
          go_ret2
          exact rep_no HR.out HB0.out
      · obtain rfl : at_ = -1 := by simpa using e1
        rw [hn0] at hR
        simp only at hR
        have HR := hide hR
        clear hR hn0 HC e1
        go_wp2
        go_ret2
        exact rep_no HR.out HB0.out
    · have k4' : (kd == 4) = false := by simpa using k4
      by_cases k5 : kd = 5
      · subst k5
        have hR := rep5 nodes es nm to nd
        rcases HC.out with ⟨i, n0, hi, hn0, hcl, e1⟩ | ⟨hn0, e1⟩
        · obtain rfl : at_ = (i : Int) := by simpa using e1
          rw [hn0] at hR
          simp only at hR
          have hai : ¬ (i : Int) < 0 := by omega
          clear HC hcl e1
          by_cases c2 : to.toList = []
          · have c2' : (to.toList == []) = true := by simpa using c2
            by_cases c3 : nd = 0
            · have HR := hide (hR.trans (if_pos ⟨c2, c3⟩))
              subst c3
              clear hR hn0
              go_wp2_with fail
              refine (l1Without_any a cap es nm w1 (by omega) HR0.out).mono ?_
              rintro e w3 ⟨v3, rfl, ho3, hb3⟩
              obtain ⟨a3, c3v, rfl⟩ := ho3.slice
              have HO3 := hide ho3
              have HB3 := hide hb3
              clear ho3 hb3
              generalize hll : (es.filter fun e => decide (e.1 ≠ nm)) = L at HO3
              have HLL := hide hll
              clear hll
              have hsw := HB0.out.size
              go_wp2
              go_ret2
              exact rep_yes (HR.out.trans (congrArg some HLL.out)) (HO3.out.mono hsw) (HB0.out.trans (HB3.out.mono hsw))
            · have hz : (nd != 0) = true := by simpa using c3
              have HR := hide (hR.trans (if_neg (fun h => c3 h.2)))
              clear hR hn0
              go_wp2
              go_ret2
              exact rep_no HR.out HB0.out
          · have c2' : (to.toList == []) = false := by simpa using c2
            have HR := hide (hR.trans (if_neg (fun h => c2 h.1)))
            clear hR hn0
            go_wp2
            go_ret2
            exact rep_no HR.out HB0.out
        · obtain rfl : at_ = -1 := by simpa using e1
          rw [hn0] at hR
          simp only at hR
          have HR := hide hR
          clear hR hn0 HC e1
          go_wp2
          go_ret2
          exact rep_no HR.out HB0.out
      · have k5' : (kd == 5) = false := by simpa using k5
        have HR := hide (show repE nodes es (kd, nm, to, nd) = none by unfold repE; simp only; rw [if_neg k1, if_neg k4, if_neg k5])
        go_wp2
        go_ret2
        exact rep_no HR.out HB0.out
end Go.Proofs.Ytledlicandlekab
namespace Go.Proofs.Ytledlicandlekab
open Go.RowKit Go.Maps
def kS (s : ByteArray) : Lit := .string s.data.toList
def kN (n : Int) : Lit := .int .i64 n
theorem lawStr : Keyed Try.prog 9 := string_keyed Try.underlying9
theorem zeroInt (w : World) : (zeroValue 3).run Try.prog w = .ok (.int .i64 0) w := by kernel_rfl
theorem keyS (s : ByteArray) (h : s.size ≤ maxLen) : keyOf Try.prog 9 (.string s) = some (kS s) := by
  rw [keyOf_string Try.underlying9]
  simp [mapKey, Try.underlying9, h, kS]
theorem keyN (n : Int) (h : (Lit.int .i64 n).wf = true) : keyOf Try.prog 3 (.int .i64 n) = some (kN n) := keyOf_int_mk Try.underlying3 h
abbrev DU := DataW Unit
/-- A listing: its two maps, in blocks of their own. -/
structure Lst (w : World) (b1 b2 n : Nat) (D1 D2 : DU) : Prop where
  o1 : w.ownsMap Try.prog 9 (plainElem Try.prog 3) b1 n D1
  o2 : w.ownsMap Try.prog 3 unitElem b2 n D2
  ne : b1 ≠ b2
def lstV (b1 b2 : Nat) : Value := .agg #[.map (some b1), .map (some b2)]
theorem Lst.below {B : Nat} {w w' : World} {b1 b2 n : Nat} {D1 D2 : DU} (h : Lst w b1 b2 n D1 D2) (hb : Below B w w') (h1 : b1 < B) (h2 : b2 < B) : Lst w' b1 b2 n D1 D2 := ⟨ownsMap_below h.o1 hb h1, ownsMap_below h.o2 hb h2, h.ne⟩
/-- Nothing but two blocks may have changed. -/
structure Off (b1 b2 : Nat) (w w' : World) : Prop where
  os : w'.os = w.os
  tape : w'.tape = w.tape
  output : w'.output = w.output
  size : w.heap.size ≤ w'.heap.size
  block : ∀ k, k < w.heap.size → k ≠ b1 → k ≠ b2 → w'.heap[k]? = w.heap[k]?
theorem Off.trans {b1 b2 : Nat} {a b c : World} (h : Off b1 b2 a b) (k : Off b1 b2 b c) : Off b1 b2 a c :=
  ⟨k.os.trans h.os, k.tape.trans h.tape, k.output.trans h.output, Nat.le_trans h.size k.size, fun j hj h1 h2 => (k.block j (Nat.lt_of_lt_of_le hj h.size) h1 h2).trans (h.block j hj h1 h2)⟩
theorem Off.of_below {b1 b2 : Nat} {w w' : World} (h : Below w.heap.size w w') : Off b1 b2 w w' := ⟨h.os, h.tape, h.output, h.size, fun k hk _ _ => h.block k hk⟩
theorem Off.of_grown {b1 b2 b : Nat} {w w' : World} (h : w.grownBy w' (some b)) (hb : b = b1 ∨ b = b2) : Off b1 b2 w w' :=
  ⟨h.os, h.tape, h.output, h.size, fun k hk h1 h2 => h.block k hk (fun e => by simp only [Option.some.injEq] at e; rcases hb with rfl | rfl <;> omega)⟩
theorem Off.below {b1 b2 B : Nat} {w w' : World} (h : Off b1 b2 w w') (h1 : B ≤ b1) (h2 : B ≤ b2) (hB : B ≤ w.heap.size) : Below B w w' :=
  ⟨h.os, h.tape, h.output, h.size, fun k hk => h.block k (by omega) (by omega) (by omega)⟩
theorem Laid.off {b1 b2 g : Nat} {w w' : World} {cs : Array Value} {t : TypeId} (h : Laid w g cs t) (ho : Off b1 b2 w w') (h1 : g ≠ b1) (h2 : g ≠ b2) : Laid w' g cs t := (ho.block g h.lt h1 h2).trans h
/-- What drop leaves. -/
def DropPost (w : World) (b1 b2 n : Nat) (D1 D2 : DU) (s : ByteArray) (e : Ending) (w' : World) : Prop := ∃ v, e = .returned v ∧ ∃ D1' D2', Lst w' b1 b2 n D1' D2' ∧ Off b1 b2 w w' ∧
  ((Maps.has D1 (kS s) = false ∧ D1' = D1 ∧ D2' = D2) ∨ (Maps.has D1 (kS s) = true ∧ ∃ c : Int, D1.atKey (kS s) (.lit (.int .i64 0)) = .lit (.int .i64 c) ∧ D1' = D1.del (kS s) ∧ D2' = D2.del (kN c)))
set_option maxRecDepth 20000 in
theorem drop_any (b1 b2 n : Nat) (D1 D2 : DU) (s : ByteArray) (w : World) (hs : s.size ≤ 1048576) (hL : Lst w b1 b2 n D1 D2) :
    Calls Try.prog 75 #[lstV b1 b2, .string s] w (DropPost w b1 b2 n D1 D2 s) := by
  have hk := keyS s (by unfold maxLen; omega)
  have hA := (Below.refl w.heap.size w).alloc (Nat.le_refl _) (.cells #[.map (some b1), .map (some b2)] 80)
  have L0 := Laid.new w #[.map (some b1), .map (some b2)] 80
  have hLA := hL.below hA hL.o1.lt hL.o2.lt
  unfold lstV
  have HA := hide hA
  have HLA := hide hLA
  have HL := hide hL
  have HL0 := hide L0
  clear hA hLA hL L0
  have hb1 := HL.out.o1.lt
  have hb2 := HL.out.o2.lt
  cases hh : Maps.has D1 (kS s) with
  | false =>
    go_enter Try.func75, Try.ntmps75
    go_wp2_with (at_lookup; refine wpList_lookup_own_ok_int _ rfl _ _ 77 rfl 9 3 .i64 lawStr Try.underlying77 Try.underlying3 (zeroInt _) b1 n D1 rfl HLA.out.o1 _ _ rfl hk ?_; intro c hat hwc)
    go_end0
    exact ⟨_, rfl, D1, D2, HLA.out, Off.of_below HA.out, .inl ⟨hh, rfl, rfl⟩⟩
  | true =>
    have hmv : ∀ w3 : World, (w.alloc (.cells #[.map (some b1), .map (some b2)] 80)).mapTurned w3 b2 → w3.cell? ⟨w.heap.size, 0, none⟩ = some (.map (some b1)) := fun w3 ht => by
      have h : Laid w3 w.heap.size #[.map (some b1), .map (some b2)] 80 := (ht.grown.block w.heap.size HL0.out.lt (fun e => by simp at e; omega)).trans HL0.out
      exact h.cell 0
    have HMV := hide hmv
    have HH := hide hh
    clear hmv
    go_enter Try.func75, Try.ntmps75
    go_wp2_with (first
      | (at_lookup; refine wpList_lookup_own_ok_int _ rfl _ _ 77 rfl 9 3 .i64 lawStr Try.underlying77 Try.underlying3 (zeroInt _) b1 n D1 rfl HLA.out.o1 _ _ rfl hk ?_; intro c hat hwc; have HAT := hide hat; have hkc := keyN c hwc; clear hat)
      | (at_delete; refine wpList_delete_own _ rfl _ _ 78 3 rfl 113 lawInt Try.underlying78 unitElem b2 n D2 rfl HLA.out.o2 _ _ rfl hkc ?_; intro w3 ho3 ht3; have HO3 := hide ho3; have HT3 := hide ht3; have q0 := HMV.out w3 ht3; have HP3 := hide (HLA.out.o1.kept ht3.grown (fun e => HL.out.ne (by simpa using e))); clear ho3 ht3)
      | (at_delete; refine wpList_delete_own _ rfl _ _ 77 9 rfl 3 lawStr Try.underlying77 (plainElem Try.prog 3) b1 n D1 rfl HP3.out _ _ rfl hk ?_; intro w4 ho4 ht4; have HO4 := hide ho4; have HT4 := hide ht4; clear ho4 ht4))
    go_end0
    refine ⟨_, rfl, _, _, ⟨HO4.out, HO3.out.kept HT4.out.grown (fun e => HL.out.ne (by simpa using e.symm)), HL.out.ne⟩, ?_, .inr ⟨HH.out, c, HAT.out, rfl, rfl⟩⟩
    exact ((Off.of_below HA.out).trans (Off.of_grown HT3.out.grown (.inr rfl))).trans (Off.of_grown HT4.out.grown (.inl rfl))
end Go.Proofs.Ytledlicandlekab
namespace Go.Proofs.Ytledlicandlekab
open Go.RowKit Go.Maps
/-- No name twice, no node twice. -/
structure Good (es : List EN) : Prop where
  g1 : ∀ s n m, (s, n) ∈ es → (s, m) ∈ es → n = m
  g2 : ∀ s t n, (s, n) ∈ es → (t, n) ∈ es → s = t
/-- The two maps read as the list. -/
structure Reads (D1 D2 : DU) (es : List EN) : Prop where
  m1 : IsMap D1
  ti : Tidy D1
  sz : Maps.size D1 = es.length
  m2 : IsMap D2
  r1 : ∀ s n, (s, n) ∈ es → Maps.has D1 (kS s) = true ∧ D1.atKey (kS s) (.lit (.int .i64 0)) = .lit (.int .i64 n)
  r2 : ∀ s, Maps.has D1 (kS s) = true → ∃ n, (s, n) ∈ es
  r3 : ∀ n, Maps.has D2 (kN n) = true ↔ ∃ s, (s, n) ∈ es
theorem kS_inj {s t : ByteArray} (h : kS s = kS t) : s = t := by
  unfold kS at h
  simp only [Lit.string.injEq] at h
  cases s; cases t
  simpa using h
theorem kN_inj {n m : Int} (h : kN n = kN m) : n = m := by
  unfold kN at h
  simpa using h
theorem mem_noName {es : List EN} {s t : ByteArray} {n : Int} : (t, n) ∈ noName es s ↔ (t, n) ∈ es ∧ t ≠ s := by
  unfold noName
  simp
theorem mem_insE {l : List EN} {nm s : ByteArray} {nd n : Int} : (s, n) ∈ insE l nm nd ↔ (s = nm ∧ n = nd) ∨ (s, n) ∈ l := by
  unfold insE
  rw [List.mem_append, List.mem_cons]
  constructor
  · rintro (h | h | h)
    · exact .inr (List.mem_of_mem_take h)
    · exact .inl (by simpa using h)
    · exact .inr (List.mem_of_mem_drop h)
  · rintro (⟨rfl, rfl⟩ | h)
    · exact .inr (.inl rfl)
    · rw [← List.take_append_drop (posE l nm) l, List.mem_append] at h
      rcases h with h | h
      · exact .inl h
      · exact .inr (.inr h)
/-- A list without a name or a node twice. -/
def Apart (es : List EN) : Prop := es.Pairwise fun x y => x.1 ≠ y.1 ∧ x.2 ≠ y.2
theorem Apart.good {es : List EN} (h : Apart es) : Good es := by
  have hp := List.pairwise_iff_getElem.1 h
  refine ⟨fun s n m h1 h2 => ?_, fun s t n h1 h2 => ?_⟩
  · obtain ⟨i, hi, ei⟩ := List.getElem_of_mem h1
    obtain ⟨j, hj, ej⟩ := List.getElem_of_mem h2
    rcases Nat.lt_trichotomy i j with c | c | c
    · have := (hp i j hi hj c).1; rw [ei, ej] at this; exact absurd rfl this
    · subst c; rw [ei] at ej; simpa using congrArg Prod.snd ej
    · have := (hp j i hj hi c).1; rw [ei, ej] at this; exact absurd rfl this
  · obtain ⟨i, hi, ei⟩ := List.getElem_of_mem h1
    obtain ⟨j, hj, ej⟩ := List.getElem_of_mem h2
    rcases Nat.lt_trichotomy i j with c | c | c
    · have := (hp i j hi hj c).2; rw [ei, ej] at this; exact absurd rfl this
    · subst c; rw [ei] at ej; simpa using congrArg Prod.fst ej
    · have := (hp j i hj hi c).2; rw [ei, ej] at this; exact absurd rfl this
theorem noName_same {es : List EN} {s : ByteArray} (h : ∀ n, (s, n) ∉ es) : noName es s = es := by
  unfold noName
  rw [List.filter_eq_self]
  intro e he
  simp only [ne_eq, decide_not, Bool.not_eq_eq_eq_not, Bool.not_true, decide_eq_false_iff_not]
  intro e2
  exact h e.2 (by rw [← e2]; exact he)
theorem noName_len {es : List EN} (h : Apart es) {s : ByteArray} {n : Int} (hm : (s, n) ∈ es) : (noName es s).length + 1 = es.length := by
  induction es with
  | nil => cases hm
  | cons x r ih =>
    obtain ⟨h1, h2⟩ := List.pairwise_cons.1 h
    by_cases e : x.1 = s
    · have hr : noName r s = r := noName_same (fun m hm' => (h1 _ hm').1 e)
      have : noName (x :: r) s = noName r s := by unfold noName; rw [List.filter_cons_of_neg (by simpa using e)]
      rw [this, hr]
      rfl
    · have : noName (x :: r) s = x :: noName r s := by unfold noName; rw [List.filter_cons_of_pos (by simpa using e)]
      rw [this, List.length_cons, List.length_cons]
      have := ih h2 (by
        rcases List.mem_cons.1 hm with h' | h'
        · exact absurd (by rw [← h']) e
        · exact h')
      omega
theorem insE_len (l : List EN) (nm : ByteArray) (nd : Int) : (insE l nm nd).length = l.length + 1 := by
  unfold insE
  rw [List.length_append, List.length_cons, List.length_take, List.length_drop]
  have : posE l nm ≤ l.length := List.findIdx_le_length
  omega
theorem Apart.noName {es : List EN} (h : Apart es) (s : ByteArray) : Apart (noName es s) := List.Pairwise.sublist List.filter_sublist h
theorem Apart.ins {l : List EN} (h : Apart l) {nm : ByteArray} {nd : Int} (h1 : ∀ n, (nm, n) ∉ l) (h2 : ∀ s, (s, nd) ∉ l) : Apart (insE l nm nd) := by
  have hp : (insE l nm nd).Perm ((nm, nd) :: l) := by
    have := (List.perm_middle (a := ((nm, nd) : EN)) (l₁ := l.take (posE l nm)) (l₂ := l.drop (posE l nm)))
    rw [List.take_append_drop] at this
    exact this
  refine (hp.pairwise_iff (fun {x y} h => ⟨fun e => h.1 e.symm, fun e => h.2 e.symm⟩)).2 ?_
  exact List.pairwise_cons.2 ⟨fun y hy => ⟨fun e => h1 y.2 (by have e' : nm = y.1 := e; rw [e']; exact hy), fun e => h2 y.1 (by have e' : nd = y.2 := e; rw [e']; exact hy)⟩, h⟩
theorem Reads.del {D1 D2 : DU} {es : List EN} {s : ByteArray} {c : Int} (h : Reads D1 D2 es) (ap : Apart es) (hs : Maps.has D1 (kS s) = true) (hc : D1.atKey (kS s) (.lit (.int .i64 0)) = .lit (.int .i64 c)) : Reads (D1.del (kS s)) (D2.del (kN c)) (noName es s) := by
  have g := ap.good
  obtain ⟨n0, hn0⟩ := h.r2 s hs
  have e := (h.r1 s n0 hn0).2
  rw [hc] at e
  have e2 : c = n0 := by simpa using e
  subst e2
  refine ⟨h.m1.del _, h.ti.del _, by have e1 := size_del (k := kS s) h.ti; rw [hs, if_pos rfl, h.sz] at e1; have e2 := noName_len ap hn0; omega, h.m2.del _, fun t n ht => ?_, fun t ht => ?_, fun n => ⟨fun hn => ?_, fun hn => ?_⟩⟩
  · obtain ⟨h1, h2⟩ := mem_noName.1 ht
    have hne : kS t ≠ kS s := fun e => h2 (kS_inj e)
    rw [has_del_other hne, atKey_del_other hne]
    exact h.r1 t n h1
  · have hne : t ≠ s := fun e => by rw [e, has_del_same] at ht; cases ht
    rw [has_del_other (fun e => hne (kS_inj e))] at ht
    obtain ⟨n, hn⟩ := h.r2 t ht
    exact ⟨n, mem_noName.2 ⟨hn, hne⟩⟩
  · have hne : n ≠ c := fun e => by rw [e, has_del_same] at hn; cases hn
    rw [has_del_other (fun e => hne (kN_inj e))] at hn
    obtain ⟨t, ht⟩ := (h.r3 n).1 hn
    exact ⟨t, mem_noName.2 ⟨ht, fun e => hne (g.g1 s n c (by rw [← e]; exact ht) hn0)⟩⟩
  · obtain ⟨t, ht⟩ := hn
    obtain ⟨h1, h2⟩ := mem_noName.1 ht
    have hne : n ≠ c := fun e => h2 (g.g2 t s c (by rw [← e]; exact h1) hn0)
    rw [has_del_other (fun e => hne (kN_inj e))]
    exact (h.r3 n).2 ⟨t, h1⟩
theorem Reads.same {D1 D2 : DU} {es : List EN} {s : ByteArray} (h : Reads D1 D2 es) (hs : Maps.has D1 (kS s) = false) : Reads D1 D2 (noName es s) := by
  rw [noName_same (fun n hn => by rw [(h.r1 s n hn).1] at hs; cases hs)]
  exact h
theorem Good.noName {es : List EN} (g : Good es) (s : ByteArray) : Good (noName es s) := ⟨fun t n m h1 h2 => g.g1 t n m (mem_noName.1 h1).1 (mem_noName.1 h2).1, fun t u n h1 h2 => g.g2 t u n (mem_noName.1 h1).1 (mem_noName.1 h2).1⟩
theorem Good.ins {l : List EN} (g : Good l) {nm : ByteArray} {nd : Int} (h1 : ∀ n, (nm, n) ∉ l) (h2 : ∀ s, (s, nd) ∉ l) : Good (insE l nm nd) := by
  refine ⟨fun s n m a b => ?_, fun s t n a b => ?_⟩
  · rcases mem_insE.1 a with ⟨e1, e2⟩ | a'
    · rcases mem_insE.1 b with ⟨_, e4⟩ | b'
      · rw [e2, e4]
      · exact absurd (by rw [← e1]; exact b') (h1 m)
    · rcases mem_insE.1 b with ⟨e3, _⟩ | b'
      · exact absurd (by rw [← e3]; exact a') (h1 n)
      · exact g.g1 s n m a' b'
  · rcases mem_insE.1 a with ⟨e1, e2⟩ | a'
    · rcases mem_insE.1 b with ⟨e3, _⟩ | b'
      · rw [e1, e3]
      · exact absurd (by rw [← e2]; exact b') (h2 t)
    · rcases mem_insE.1 b with ⟨_, e4⟩ | b'
      · exact absurd (by rw [← e4]; exact a') (h2 s)
      · exact g.g2 s t n a' b'
theorem Reads.put {D1 D2 : DU} {l : List EN} {nm : ByteArray} {nd : Int} (h : Reads D1 D2 l) (hk1 : WideAt.IsKeyLit (kS nm)) (hk2 : WideAt.IsKeyLit (kN nd)) (h1 : ∀ n, (nm, n) ∉ l) : Reads (D1.put (kS nm) (.lit (.int .i64 nd))) (D2.put (kN nd) (.agg [])) (insE l nm nd) := by
  have hno : Maps.has D1 (kS nm) = false := by
    cases e : Maps.has D1 (kS nm) with
    | false => rfl
    | true => obtain ⟨n, hn⟩ := h.r2 nm e; exact absurd hn (h1 n)
  refine ⟨h.m1.put _ _, h.ti.put hk1 _, by rw [size_put h.ti, hno, insE_len, h.sz]; rfl, h.m2.put _ _, fun t n ht => ?_, fun t ht => ?_, fun n => ⟨fun hn => ?_, fun hn => ?_⟩⟩
  · rcases mem_insE.1 ht with ⟨rfl, rfl⟩ | ht
    · exact ⟨has_put_same h.m1 hk1 _, atKey_put_same h.m1 hk1 _ _⟩
    · have hne : kS t ≠ kS nm := fun e => h1 n (by rw [← kS_inj e]; exact ht)
      rw [has_put_other hne, atKey_put_other hne]
      exact h.r1 t n ht
  · by_cases e : t = nm
    · exact ⟨nd, mem_insE.2 (.inl ⟨e, rfl⟩)⟩
    · rw [has_put_other (fun e' => e (kS_inj e'))] at ht
      obtain ⟨n, hn⟩ := h.r2 t ht
      exact ⟨n, mem_insE.2 (.inr hn)⟩
  · by_cases e : n = nd
    · exact ⟨nm, mem_insE.2 (.inl ⟨rfl, e⟩)⟩
    · rw [has_put_other (fun e' => e (kN_inj e'))] at hn
      obtain ⟨t, ht⟩ := (h.r3 n).1 hn
      exact ⟨t, mem_insE.2 (.inr ht)⟩
  · obtain ⟨t, ht⟩ := hn
    by_cases e : n = nd
    · subst e; exact has_put_same h.m2 hk2 _
    · rw [has_put_other (fun e' => e (kN_inj e'))]
      rcases mem_insE.1 ht with ⟨_, e'⟩ | ht
      · exact absurd e' e
      · exact (h.r3 n).2 ⟨t, ht⟩
/-- drop, told by the list. -/
def LstAt (w : World) (b1 b2 n : Nat) (es : List EN) : Prop := ∃ D1 D2, Lst w b1 b2 n D1 D2 ∧ Reads D1 D2 es
theorem drop_list (b1 b2 n : Nat) (es : List EN) (s : ByteArray) (w : World) (hs : s.size ≤ 1048576) (hL : LstAt w b1 b2 n es) (g : Apart es) :
    Calls Try.prog 75 #[lstV b1 b2, .string s] w fun e w' => (∃ v, e = .returned v) ∧ LstAt w' b1 b2 n (noName es s) ∧ Off b1 b2 w w' := by
  obtain ⟨D1, D2, hl, hr⟩ := hL
  refine (drop_any b1 b2 n D1 D2 s w hs hl).mono ?_
  rintro e w' ⟨v, rfl, D1', D2', hl', hb, ⟨hh, rfl, rfl⟩ | ⟨hh, c, hc, rfl, rfl⟩⟩
  · exact ⟨⟨v, rfl⟩, ⟨_, _, hl', hr.same hh⟩, hb⟩
  · exact ⟨⟨v, rfl⟩, ⟨_, _, hl', hr.del g hh hc⟩, hb⟩
theorem has_list (b1 b2 n : Nat) (es : List EN) (s : ByteArray) (w : World) (hs : s.size ≤ 1048576) (hL : LstAt w b1 b2 n es) :
    Calls Try.prog 83 #[lstV b1 b2, .string s] w fun e w' => (∃ r : Bool, e = .returned (.bool r) ∧ (r = true ↔ ∃ m, (s, m) ∈ es)) ∧ Below w.heap.size w w' := by
  obtain ⟨D1, D2, hl, hr⟩ := hL
  have hk := keyS s (by unfold maxLen; omega)
  have hA := (Below.refl w.heap.size w).alloc (Nat.le_refl _) (.cells #[.map (some b1), .map (some b2)] 80)
  have hLA := hl.below hA hl.o1.lt hl.o2.lt
  have HR := hide (show Maps.has D1 (kS s) = true ↔ ∃ m, (s, m) ∈ es from ⟨hr.r2 s, fun ⟨m, hm⟩ => (hr.r1 s m hm).1⟩)
  have HA := hide hA
  have HLA := hide hLA
  unfold lstV
  clear hA hLA hl hr
  generalize hq : Maps.has D1 (kS s) = q at HR
  go_enter Try.func83, Try.ntmps83
  go_wp2_with (at_lookup; refine wpList_lookup_own_ok_int _ rfl _ _ 77 rfl 9 3 .i64 lawStr Try.underlying77 Try.underlying3 (zeroInt _) b1 n D1 rfl HLA.out.o1 _ _ rfl hk ?_; intro c hat hwc)
  go_ret
  exact ⟨⟨q, rfl, HR.out⟩, HA.out⟩
theorem isKeyS (s : ByteArray) : WideAt.IsKeyLit (kS s) := trivial
theorem isKeyN (n : Int) : WideAt.IsKeyLit (kN n) := trivial
theorem Lst.mono {w : World} {b1 b2 n m : Nat} {D1 D2 : DU} (h : Lst w b1 b2 n D1 D2) (hn : n ≤ m) : Lst w b1 b2 m D1 D2 := ⟨h.o1.mono hn, h.o2.mono hn, h.ne⟩
set_option maxRecDepth 20000 in
theorem bind_list (b1 b2 n : Nat) (es : List EN) (s : ByteArray) (nd : Int) (w : World) (hs : s.size ≤ 1048576) (hw : (Lit.int .i64 nd).wf = true) (hn : n ≤ 1048576) (hL : LstAt w b1 b2 n es) (g : Apart es) :
    Calls Try.prog 73 #[lstV b1 b2, .string s, .int .i64 nd] w fun e w' => (∃ v, e = .returned v) ∧ LstAt w' b1 b2 (n + 1) (insE (noName es s) s nd) ∧ Off b1 b2 w w' := by
  have hk := keyS s (by unfold maxLen; omega)
  have hkn := keyN nd hw
  have hpe : plainElem (H := Unit) Try.prog 3 (.int .i64 nd) = some (.lit (.int .i64 nd), []) := plainElem_int Try.underlying3 hw
  have hA := (Below.refl w.heap.size w).alloc (Nat.le_refl _) (.cells #[.map (some b1), .map (some b2)] 80)
  have L0 := Laid.new w #[.map (some b1), .map (some b2)] 80
  have hlt : b1 < w.heap.size ∧ b2 < w.heap.size := by obtain ⟨D1, D2, hl, _⟩ := hL; exact ⟨hl.o1.lt, hl.o2.lt⟩
  have hLA : LstAt (w.alloc (.cells #[.map (some b1), .map (some b2)] 80)) b1 b2 n es := by
    obtain ⟨D1, D2, hl, hr⟩ := hL
    exact ⟨D1, D2, hl.below hA hlt.1 hlt.2, hr⟩
  have DR := hide (drop_list b1 b2 n es s _ hs hLA g)
  have HA := hide hA
  have HL0 := hide L0
  clear hA L0 hLA hL
  unfold lstV at DR ⊢
  go_enter Try.func73, Try.ntmps73
  go_wp2_with fail
  refine (DR.out).mono ?_
  rintro e w2 ⟨⟨v, rfl⟩, ⟨D1, D2, hl2, hr2⟩, hof2⟩
  have hL2 := HL0.out.off hof2 (by omega) (by omega)
  have q0 : w2.cell? ⟨w.heap.size, 0, none⟩ = some (.map (some b1)) := hL2.cell 0
  have HOF := hide ((Off.of_below HA.out).trans hof2)
  have HL2 := hide hL2
  have HLL := hide hl2
  have HRR := hide hr2
  have HMV := hide (fun (w3 : World) (h3 : w2.grownBy w3 (some b1)) => (show w3.cell? ⟨w.heap.size, 1, none⟩ = some (.map (some b2)) from (hL2.off (Off.of_grown (b1 := b1) (b2 := b2) h3 (.inl rfl)) (by omega) (by omega)).cell 1))
  clear hL2 hl2 hr2 hof2 DR
  go_wp2_with (first
    | (at_mapUpdate; refine wpList_mapUpdate_own _ rfl _ _ _ 77 rfl 9 3 lawStr Try.underlying77 (plainElem Try.prog 3) b1 n D1 rfl HLL.out.o1 (by unfold maxLen; omega) _ _ _ rfl rfl hk _ [] hpe ?_; intro w3 ho3 hg3; have HO3 := hide ho3; have HG3 := hide hg3; have q1 := HMV.out w3 hg3; have HP3 := hide (HLL.out.o2.kept hg3 (fun e => HLL.out.ne (by simpa using e.symm))); clear ho3 hg3)
    | (at_mapUpdate; refine wpList_mapUpdate_own _ rfl _ _ _ 78 rfl 3 113 lawInt Try.underlying78 unitElem b2 n D2 rfl HP3.out (by unfold maxLen; omega) _ _ _ rfl rfl hkn _ [] unitElem_mk ?_; intro w4 ho4 hg4; have HO4 := hide ho4; have HG4 := hide hg4; clear ho4 hg4)
    | go_in)
  go_end0
  refine ⟨⟨_, rfl⟩, ⟨_, _, ⟨HO3.out.kept HG4.out (fun e => HLL.out.ne (by simpa using e)), HO4.out, HLL.out.ne⟩, HRR.out.put (isKeyS s) (isKeyN nd) (fun m hm => (mem_noName.1 hm).2 rfl)⟩, (HOF.out.trans (Off.of_grown HG3.out (.inl rfl))).trans (Off.of_grown HG4.out (.inr rfl))⟩
end Go.Proofs.Ytledlicandlekab
namespace Go.Proofs.Ytledlicandlekab
open Go.RowKit Go.Maps
theorem nodeIn_of {es : List EN} {s : ByteArray} {n : Int} (h : nodeIn es s = some n) : (s, n) ∈ es := by
  unfold nodeIn at h
  cases hf : es.find? (fun e => decide (e.1 = s)) with
  | none => rw [hf] at h; cases h
  | some e =>
    rw [hf] at h
    have h1 := List.find?_some hf
    have h2 := List.mem_of_find?_eq_some hf
    simp at h h1
    rw [← h1, ← h]
    exact h2
theorem nodeIn_no {es : List EN} {s : ByteArray} (h : nodeIn es s = none) : ∀ n, (s, n) ∉ es := by
  intro n hn
  unfold nodeIn at h
  simp only [Option.map_eq_none_iff] at h
  have := List.find?_eq_none.1 h _ hn
  simp at this
theorem nodeIn_iff {es : List EN} (g : Good es) {s : ByteArray} {n : Int} : nodeIn es s = some n ↔ (s, n) ∈ es := by
  refine ⟨nodeIn_of, fun h => ?_⟩
  cases e : nodeIn es s with
  | none => exact absurd h (nodeIn_no e n)
  | some m => rw [g.g1 s m n (nodeIn_of e) h]
theorem rep_good {nodes : Int} {es l : List EN} {o : DO} (g : Apart es) (h : repE nodes es o = some l) : Apart l := by
  unfold repE at h
  split at h
  · split at h
    · next c =>
      simp only [Option.some.injEq] at h
      subst h
      exact (g.noName _).ins (fun n hn => (mem_noName.1 hn).2 rfl) (fun s hs => c.2.2.2.2 _ (mem_noName.1 hs).1 rfl)
    · cases h
  · split at h
    · split at h
      · cases h
      · next n0 hn0 =>
        split at h
        · simp only [Option.some.injEq] at h
          subst h
          refine ((g.noName _).noName _).ins (fun n hn => (mem_noName.1 hn).2 rfl) (fun s hs => ?_)
          obtain ⟨h1, _⟩ := mem_noName.1 hs
          obtain ⟨h3, h4⟩ := mem_noName.1 h1
          exact h4 (g.good.g2 s _ n0 h3 (nodeIn_of hn0))
        · cases h
    · split at h
      · split at h
        · cases h
        · split at h
          · simp only [Option.some.injEq] at h
            subst h
            exact g.noName _
          · cases h
      · cases h
/-- What takes tells. -/
def TakePost (w : World) (R : Option (List EN)) (e : Ending) (w' : World) : Prop := ∃ r : Bool, e = .returned (.bool r) ∧ r = R.isSome ∧ Below w.heap.size w w'
theorem take_no {w w' : World} {R : Option (List EN)} (h : R = none) (hb : Below w.heap.size w w') : TakePost w R (.returned (.bool false)) w' := ⟨false, rfl, by rw [h]; rfl, hb⟩
theorem take_yes {w w' : World} {R : Option (List EN)} {l : List EN} (h : R = some l) (hb : Below w.heap.size w w') : TakePost w R (.returned (.bool true)) w' := ⟨true, rfl, by rw [h]; rfl, hb⟩
set_option maxRecDepth 20000 in
set_option maxHeartbeats 1000000 in
theorem takes_list (b1 b2 n : Nat) (es : List EN) (kd : Int) (nm to : ByteArray) (nd nodes : Int) (w : World) (hs1 : nm.size ≤ 1048576) (hs2 : to.size ≤ 1048576) (hw : (Lit.int .i64 nd).wf = true) (hL : LstAt w b1 b2 n es) (g : Apart es) :
    Calls Try.prog 74 #[lstV b1 b2, .agg #[.int .i64 kd, .string nm, .string to, .int .i64 nd], .int .i64 nodes] w (TakePost w (repE nodes es (kd, nm, to, nd))) := by
  have hkn := keyN nd hw
  have hA : Below w.heap.size w ((w.alloc (.cells #[.map (some b1), .map (some b2)] 80)).alloc (.cells #[.int .i64 kd, .string nm, .string to, .int .i64 nd] 74)) := ((Below.refl _ _).alloc (Nat.le_refl _) _).alloc (by simp) _
  have hlt : b1 < w.heap.size ∧ b2 < w.heap.size := by obtain ⟨D1, D2, hl, _⟩ := hL; exact ⟨hl.o1.lt, hl.o2.lt⟩
  have hLA : LstAt ((w.alloc (.cells #[.map (some b1), .map (some b2)] 80)).alloc (.cells #[.int .i64 kd, .string nm, .string to, .int .i64 nd] 74)) b1 b2 n es := by
    obtain ⟨D1, D2, hl, hr⟩ := hL
    exact ⟨D1, D2, hl.below hA hlt.1 hlt.2, hr⟩
  have hz : ((w.alloc (.cells #[.map (some b1), .map (some b2)] 80)).alloc (.cells #[.int .i64 kd, .string nm, .string to, .int .i64 nd] 74)).heap.size = w.heap.size + 2 := by simp
  have L0 : Laid ((w.alloc (.cells #[.map (some b1), .map (some b2)] 80)).alloc (.cells #[.int .i64 kd, .string nm, .string to, .int .i64 nd] 74)) w.heap.size #[.map (some b1), .map (some b2)] 80 := Laid.below (B := w.heap.size + 1) (Laid.new w _ _) ((Below.refl _ _).alloc (by simp) _) (by omega)
  have L1 := Laid.new (w.alloc (.cells #[.map (some b1), .map (some b2)] 80)) #[.int .i64 kd, .string nm, .string to, .int .i64 nd] 74
  rw [show (w.alloc (.cells #[.map (some b1), .map (some b2)] 80)).heap.size = w.heap.size + 1 from World.size_alloc ..] at L1
  unfold lstV
  go_enter Try.func74, Try.ntmps74
  go_upto_region 1 with fail
  generalize (w.alloc (.cells #[.map (some b1), .map (some b2)] 80)).alloc (.cells #[.int .i64 kd, .string nm, .string to, .int .i64 nd] 74) = W at hA hLA hz L0 L1 ⊢
  have q0 : W.cell? ⟨w.heap.size, 0, none⟩ = some (.map (some b1)) := L0.cell 0
  have q1 : W.cell? ⟨w.heap.size, 1, none⟩ = some (.map (some b2)) := L0.cell 1
  have p0 : W.cell? ⟨w.heap.size + 1, 0, none⟩ = some (.int .i64 kd) := L1.cell 0
  have p1 : W.cell? ⟨w.heap.size + 1, 1, none⟩ = some (.string nm) := L1.cell 1
  have p2 : W.cell? ⟨w.heap.size + 1, 2, none⟩ = some (.string to) := L1.cell 2
  have p3 : W.cell? ⟨w.heap.size + 1, 3, none⟩ = some (.int .i64 nd) := L1.cell 3
  have HHS := hide (fun s (hs : s.size ≤ 1048576) => has_list b1 b2 n es s W hs hLA)
  obtain ⟨D1, D2, hl, hr⟩ := hLA
  have HTW := hide (hr.r3 nd)
  have HL := hide hl
  have HA := hide hA
  have HL1 := hide L1
  have HG := hide g
  clear hA hl hr L0 L1 hL g
  by_cases k1 : kd = 1
  · subst k1
    have hR := rep1 nodes es nm to nd
    have HR := hide hR
    clear hR HHS
    generalize htw : Maps.has D2 (kN nd) = tw at HTW
    go_wp2_with (at_lookup; refine wpList_lookup_own_unit _ rfl _ _ 78 rfl 3 113 lawInt Try.underlying78 (zeroUnit _) b2 n D2 rfl HL.out.o2 _ _ rfl hkn ?_)
    refine (goodName_any nm _ (by omega)).mono ?_
    rintro e w2 ⟨rfl, hb2⟩
    have hX2 : Below W.heap.size W w2 := ((Below.refl W.heap.size W).alloc (Nat.le_refl _) _).trans (hb2.mono (by simp))
    have hL2 := HL1.out.below hX2 (by omega)
    have t2 : w2.cell? ⟨w.heap.size + 1, 2, none⟩ = some (.string to) := hL2.cell 2
    have t3 : w2.cell? ⟨w.heap.size + 1, 3, none⟩ = some (.int .i64 nd) := hL2.cell 3
    have HX2 := hide (HA.out.trans (hX2.mono HA.out.size))
    clear hb2 hX2 hL2 q0 q1 p0 p1 p2 p3
    by_cases c1 : okName nm = true
    · rw [c1]
      by_cases c2 : to.toList = []
      · have c2' : (to.toList == []) = true := by simpa using c2
        by_cases c3 : 0 ≤ nd
        · by_cases c4 : nd < nodes
          · cases tw with
            | true =>
              have HN := hide (show repE nodes es (1, nm, to, nd) = none by
                rw [HR.out, if_neg]
                intro h
                obtain ⟨s, hs⟩ := HTW.out.1 rfl
                exact h.2.2.2.2 _ hs rfl)
              go_wp2
              go_ret
              exact take_no HN.out HX2.out
            | false =>
              have HN := hide (show repE nodes es (1, nm, to, nd) = some (insE (noName es nm) nm nd) by
                rw [HR.out, if_pos ⟨c1, c2, c3, c4, fun e he e2 => by
                  have := HTW.out.2 ⟨e.1, by rw [← e2]; exact he⟩
                  cases this⟩])
              go_wp2
              go_ret
              exact take_yes HN.out HX2.out
          · have HN := hide (HR.out.trans (if_neg (fun h => c4 h.2.2.2.1)))
            go_wp2
            go_ret
            exact take_no HN.out HX2.out
        · have HN := hide (HR.out.trans (if_neg (fun h => c3 h.2.2.1)))
          go_wp2
          go_ret
          exact take_no HN.out HX2.out
      · have c2' : (to.toList == []) = false := by simpa using c2
        have HN := hide (HR.out.trans (if_neg (fun h => c2 h.2.1)))
        go_wp2
        go_ret
        exact take_no HN.out HX2.out
    · have c1' : okName nm = false := by simpa using c1
      rw [c1']
      have HN := hide (HR.out.trans (if_neg (fun h => c1 h.1)))
      go_wp2
      go_ret
      exact take_no HN.out HX2.out
  · have k1' : (kd == 1) = false := by simpa using k1
    by_cases k4 : kd = 4
    · subst k4
      have HR := hide (rep4 nodes es nm to nd)
      go_wp2_with fail
      refine (HHS.out nm hs1).mono ?_
      rintro e w2 ⟨⟨r, rfl, hrr⟩, hb2⟩
      have hL2 := HL1.out.below hb2 (by omega)
      have t1 : w2.cell? ⟨w.heap.size + 1, 1, none⟩ = some (.string nm) := hL2.cell 1
      have t2 : w2.cell? ⟨w.heap.size + 1, 2, none⟩ = some (.string to) := hL2.cell 2
      have t3 : w2.cell? ⟨w.heap.size + 1, 3, none⟩ = some (.int .i64 nd) := hL2.cell 3
      have HX2 := hide (HA.out.trans (hb2.mono HA.out.size))
      have HL2 := hide hL2
      have hs2' := hb2.size
      have HRR := hide hrr
      clear hb2 hL2 q0 q1 p0 p1 p2 p3 hrr HHS
      cases r with
      | false =>
        have HN := hide (show repE nodes es (4, nm, to, nd) = none by
          rw [HR.out]
          cases e : nodeIn es nm with
          | none => rfl
          | some m => exact absurd (HRR.out.2 ⟨m, nodeIn_of e⟩) (by simp))
        go_wp2
        go_ret
        exact take_no HN.out HX2.out
      | true =>
        obtain ⟨m, hm⟩ := HRR.out.1 rfl
        have HN := hide (show repE nodes es (4, nm, to, nd) = if okName to = true ∧ to ≠ nm ∧ nd = 0 then some (insE (noName (noName es nm) to) to m) else none by rw [HR.out, (nodeIn_iff HG.out.good).2 hm])
        clear hm
        go_wp2_with fail
        refine (goodName_any to w2 (by omega)).mono ?_
        rintro e w3 ⟨rfl, hb3⟩
        have hL3 := HL2.out.below hb3 (by omega)
        have s1 : w3.cell? ⟨w.heap.size + 1, 1, none⟩ = some (.string nm) := hL3.cell 1
        have s2 : w3.cell? ⟨w.heap.size + 1, 2, none⟩ = some (.string to) := hL3.cell 2
        have s3 : w3.cell? ⟨w.heap.size + 1, 3, none⟩ = some (.int .i64 nd) := hL3.cell 3
        have HX3 := hide (HX2.out.trans (hb3.mono HX2.out.size))
        clear hb3 hL3 t1 t2 t3
        by_cases c1 : okName to = true
        · rw [c1]
          by_cases c2 : to = nm
          · have hq := beq_of_eq c2
            have HN2 := hide (HN.out.trans (if_neg (fun h => h.2.1 c2)))
            clear c2
            go_wp2
            go_ret
            exact take_no HN2.out HX3.out
          · have hq := beq_of_ne c2
            by_cases c3 : nd = 0
            · have HN2 := hide (HN.out.trans (if_pos ⟨c1, c2, c3⟩))
              have hz0 : (nd == 0) = true := by simpa using c3
              clear c2 c3
              go_wp2
              go_ret
              exact take_yes HN2.out HX3.out
            · have HN2 := hide (HN.out.trans (if_neg (fun h => c3 h.2.2)))
              have hz0 : (nd == 0) = false := by simpa using c3
              clear c2
              go_wp2
              go_ret
              exact take_no HN2.out HX3.out
        · have c1' : okName to = false := by simpa using c1
          rw [c1']
          have HN2 := hide (HN.out.trans (if_neg (fun h => c1 h.1)))
          go_wp2
          go_ret
          exact take_no HN2.out HX3.out
    · have k4' : (kd == 4) = false := by simpa using k4
      by_cases k5 : kd = 5
      · subst k5
        have HR := hide (rep5 nodes es nm to nd)
        go_wp2_with fail
        refine (HHS.out nm hs1).mono ?_
        rintro e w2 ⟨⟨r, rfl, hrr⟩, hb2⟩
        have hL2 := HL1.out.below hb2 (by omega)
        have t2 : w2.cell? ⟨w.heap.size + 1, 2, none⟩ = some (.string to) := hL2.cell 2
        have t3 : w2.cell? ⟨w.heap.size + 1, 3, none⟩ = some (.int .i64 nd) := hL2.cell 3
        have HX2 := hide (HA.out.trans (hb2.mono HA.out.size))
        have HRR := hide hrr
        clear hb2 hL2 q0 q1 p0 p1 p2 p3 hrr HHS
        cases r with
        | false =>
          have HN := hide (show repE nodes es (5, nm, to, nd) = none by
            rw [HR.out]
            cases e : nodeIn es nm with
            | none => rfl
            | some m => exact absurd (HRR.out.2 ⟨m, nodeIn_of e⟩) (by simp))
          go_wp2
          go_ret
          exact take_no HN.out HX2.out
        | true =>
          obtain ⟨m, hm⟩ := HRR.out.1 rfl
          have HN := hide (show repE nodes es (5, nm, to, nd) = if to.toList = [] ∧ nd = 0 then some (noName es nm) else none by rw [HR.out, (nodeIn_iff HG.out.good).2 hm])
          clear hm
          by_cases c2 : to.toList = []
          · have c2' : (to.toList == []) = true := by simpa using c2
            by_cases c3 : nd = 0
            · have HN2 := hide (HN.out.trans (if_pos ⟨c2, c3⟩))
              have hz0 : (nd == 0) = true := by simpa using c3
              clear c3
              go_wp2
              go_ret
              exact take_yes HN2.out HX2.out
            · have HN2 := hide (HN.out.trans (if_neg (fun h => c3 h.2)))
              have hz0 : (nd == 0) = false := by simpa using c3
              go_wp2
              go_ret
              exact take_no HN2.out HX2.out
          · have c2' : (to.toList == []) = false := by simpa using c2
            have HN2 := hide (HN.out.trans (if_neg (fun h => c2 h.1)))
            go_wp2
            go_ret
            exact take_no HN2.out HX2.out
      · have k5' : (kd == 5) = false := by simpa using k5
        have HN := hide (show repE nodes es (kd, nm, to, nd) = none by unfold repE; simp only; rw [if_neg k1, if_neg k4, if_neg k5])
        go_wp2
        go_ret
        exact take_no HN.out HA.out
end Go.Proofs.Ytledlicandlekab
