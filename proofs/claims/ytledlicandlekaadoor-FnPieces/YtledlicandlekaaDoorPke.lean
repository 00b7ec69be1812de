import Derived.Test.YtledlicandlekaaDoorPka
import Derived.Test.YtledlicandlekaaDoorPkb
import Derived.Test.YtledlicandlekaaDoorShelf
import Derived.Test.YtledlicandlekaaDoorPkc
import Derived.Test.YtledlicandlekaaDoorShelfB
import Derived.Test.YtledlicandlekaaDoorPkd
import Derived.Lib.SlBytesConst
import Derived.Lib.SliceRun
namespace Go.Proofs.YtledlicandlekaaDoor
open Go.RowKit
theorem lastIx_get {c : Nat} : ∀ {l : List Nat} {i : Nat}, lastIx c l = some i → l[i]? = some c
  | [], _, h => by simp [lastIx] at h
  | x :: r, i, h => by
    rw [lastIx] at h
    cases hr : lastIx c r with
    | some j => rw [hr] at h; simp at h; subst h; rw [List.getElem?_cons_succ]; exact lastIx_get hr
    | none =>
      rw [hr] at h
      by_cases e : x = c
      · simp [e] at h; subst h; simp [e]
      · simp [e] at h
theorem last_drop {l : List Nat} {i : Nat} (h : l[i]? = some 123) : ((l.drop (i + 1)).getLast? = some 125) ↔ l.getLast? = some 125 := by
  have hi : i < l.length := by
    rcases Nat.lt_or_ge i l.length with h' | h'
    · exact h'
    · rw [List.getElem?_eq_none h'] at h; cases h
  rw [List.getLast?_drop]
  split
  · next hle =>
    have e : i = l.length - 1 := by omega
    rw [List.getLast?_eq_getElem?, ← e, h]
    simp
  · exact Iff.rfl
theorem litOf_word {l : List Nat} {i : Nat} (h : lastIx 123 l = some i) (hl : (l.drop (i + 1)).getLast? = some 125) : litOf l = (litN (((l.drop (i + 1)).take ((l.drop (i + 1)).length - 1)).map UInt8.ofNat)).map fun n => (n, i) := by
  unfold litOf
  rw [if_pos ((last_drop (lastIx_get h)).1 hl), h]
  have e : wordOf l i = (l.drop (i + 1)).take ((l.drop (i + 1)).length - 1) := by
    unfold wordOf
    rw [List.length_drop, show l.length - 1 - (i + 1) = l.length - (i + 1) - 1 from by omega]
  rw [← e]
theorem litOf_open {l : List Nat} {i : Nat} (h : lastIx 123 l = some i) (hl : ¬ (l.drop (i + 1)).getLast? = some 125) : litOf l = none :=
  litOf_last fun e => hl ((last_drop (lastIx_get h)).2 e)
theorem litN_rd {x : List UInt8} {n : Nat} {ok : Bool} (h : RdIs x 0 999999999 n ok) : litN x = if ok then some n else none := by
  rcases h with ⟨rfl, e, _, h2⟩ | ⟨rfl, _, h2⟩
  · exact litN_yes e h2
  · exact litN_no fun m hm => h2 m (Nat.zero_le _) hm
theorem strB_sz (l : List Nat) : (strB l).size = l.length := by
  have := congrArg List.length (strB_list l)
  rw [ByteArray.toList_eq, List.length_map] at this
  simpa using this
theorem strB_data (l : List Nat) : (strB l).data.toList = l.map UInt8.ofNat := by rw [← strB_list, ByteArray.toList_eq]
set_option maxRecDepth 20000 in
set_option maxHeartbeats 1000000 in
theorem literalOf_any (b off cap : Nat) (d : List Nat) (w : World) (hE : Env w) (h256 : ∀ x ∈ d, x < 256) (hd : d.length ≤ 1048576) (hcap : d.length < cap) (hT : Tx w b off d) :
    Calls Tryd.prog 44 #[.slice (some ⟨b, off, none⟩) d.length cap] w fun e w' => e = .returned (litR (litOf d)) ∧ Below w.heap.size w w' := by
  have HL := hide (lastIndex_any 123 b off cap d w hd hT)
  have HT := hide hT
  have HE := hide hE
  have H256 := hide h256
  clear hT hE h256
  go_enter Tryd.func44, Tryd.ntmps44
  go_wp2_with fail
  refine HL.out.mono ?_
  rintro e w1 ⟨rfl, rfl⟩
  clear HL
  cases hix : lastIx 123 d with
  | none =>
    have hv : lastI 123 d = -1 := by unfold lastI; rw [hix]
    have HR := hide (litOf_none (lastIx_none.1 hix))
    rw [hv]
    clear hv hix
    go_wp2
    go_ret3
    exact ⟨by rw [HR.out]; rfl, Below.refl _ _⟩
  | some i =>
    have hv : lastI 123 d = (i : Int) := by unfold lastI; rw [hix]
    have hi := lastIx_lt hix
    rw [hv]
    have HIX := hide hix
    clear hv hix
    have hi0 : ¬ (i : Int) < 0 := by omega
    have hwr : IntKind.i64.wrap ((i : Int) + 1) = (i : Int) + 1 := by rw [IntKind.wrap_i64]; omega
    have hnat : ((i : Int) + 1).toNat = i + 1 := by omega
    have hb1 : (i : Int) + 1 ≤ (d.length : Int) := by omega
    have hb2 : ¬ cap = i + 1 := by omega
    have hb3 : (0 : Int) ≤ (i : Int) + 1 := by omega
    have HBA := hide ((Below.refl w1.heap.size w1).alloc (Nat.le_refl _) (.cells #[.int .u8 125] 5 (1, 2)))
    have HC := hide (show (w1.alloc (.cells #[.int .u8 125] 5 (1, 2))).cell? ⟨w1.heap.size, 0, none⟩ = some (.int .u8 125) from World.cell?_alloc_mark w1 #[.int .u8 125] 5 (1, 2) 0)
    have hkc : (convert 22 22 (.slice (some ⟨w1.heap.size, 0, none⟩) 1 1)).run Tryd.prog (w1.alloc (.cells #[.int .u8 125] 5)) = .ok (.slice (some ⟨w1.heap.size, 0, none⟩) 1 1) (w1.alloc (.cells #[.int .u8 125] 5 (1, 2))) := Lib.run_convert_bytes_const (P := Tryd.prog) w1 22 5 #[.int .u8 125] 1 1 Tryd.underlying22 Tryd.underlying5
    have HS := hide (fun W (hb : Below w1.heap.size w1 W) hc => bsuf_any b (off + (i + 1)) (cap - (i + 1)) (d.drop (i + 1)) w1.heap.size 1 W (fun x hx => H256.out x (List.mem_of_mem_drop hx)) (by rw [List.length_drop]; omega) (by rw [List.length_drop]; omega) ((HT.out.below hb).drop (i + 1)) hc)
    generalize hm : d.length = m at hd hcap hi hb1
    have HM := hide hm
    clear hm
    have hlen : (d.drop (i + 1)).length = m - (i + 1) := by rw [List.length_drop, HM.out]
    rw [hlen] at HS
    go_wp2_with fail
    generalize w1.alloc (.cells #[.int .u8 125] 5 (1, 2)) = w2 at HBA HC ⊢
    refine (HS.out w2 HBA.out HC.out).mono ?_
    rintro e w3 ⟨rfl, rfl⟩
    have hTd := (HT.out.below HBA.out).drop (i + 1)
    have hE3 := HE.out.below HBA.out
    clear hkc HC HS hwr hnat hb1 hb2 hb3
    by_cases hl : (d.drop (i + 1)).getLast? = some 125
    · have HLW := hide (litOf_word HIX.out hl)
      have hrow := (hTd.take (m - (i + 1) - 1)).row
      have hwl : ((d.drop (i + 1)).take (m - (i + 1) - 1)).length = m - (i + 1) - 1 := by rw [List.length_take, hlen]; omega
      have hcv := run_string_of w3 _ (cap - (i + 1)) _ hrow
      rw [hwl] at hcv
      have HD := hide (readDecimal_any (strB ((d.drop (i + 1)).take (m - (i + 1) - 1))) 0 999999999 w3 hE3 (by rw [strB_sz, hwl]; omega) (by decide))
      have HSW := hide (strB_data ((d.drop (i + 1)).take (m - (i + 1) - 1)))
      rw [if_pos hl, decide_eq_true hl]
      clear hl hrow hTd hE3 hwl
      generalize strB ((d.drop (i + 1)).take (m - (i + 1) - 1)) = sw at hcv HD HSW
      have HLEN := hide hlen
      clear hlen
      go_wp2_with fail
      refine HD.out.mono ?_
      rintro e w4 ⟨n, ok, rfl, hIs, hb4⟩
      have HB4 := hide (below_on HBA.out hb4)
      rw [HSW.out] at hIs
      have hN := litN_rd hIs
      have HR := hide (HLW.out.trans (by rw [HLEN.out, hN]))
      have hn9 : n ≤ 999999999 := by rcases hIs with ⟨_, _, _, h⟩ | ⟨_, h, _⟩ <;> omega
      have hwn : IntKind.i64.wrap (n : Int) = (n : Int) := by rw [IntKind.wrap_i64]; omega
      clear hIs hN hcv HD HSW hb4 HLW HBA
      cases ok
      · go_wp2
        go_ret3
        exact ⟨by rw [HR.out]; rfl, HB4.out⟩
      · go_wp2
        go_ret3
        exact ⟨by rw [HR.out]; rfl, HB4.out⟩
    · have HR := hide (litOf_open HIX.out hl)
      have hcv := run_string_of w3 _ (cap - (i + 1)) _ hTd.row
      rw [hlen] at hcv
      have HD := hide (readDecimal_any (strB (d.drop (i + 1))) 0 999999999 w3 hE3 (by rw [strB_sz, hlen]; omega) (by decide))
      rw [if_neg hl, decide_eq_false hl]
      clear hl hTd hE3
      generalize strB (d.drop (i + 1)) = sw at hcv HD
      clear hlen
      go_wp2_with fail
      refine HD.out.mono ?_
      rintro e w4 ⟨n, ok, rfl, -, hb4⟩
      have HB4 := hide (below_on HBA.out hb4)
      clear hcv HD hb4 HBA
      go_wp2
      go_ret3
      exact ⟨by rw [HR.out]; rfl, HB4.out⟩
end Go.Proofs.YtledlicandlekaaDoor
namespace Go.Proofs.YtledlicandlekaaDoor
open Go.RowKit
theorem clone_any (a : Option Addr) (cap : Nat) (l : List Nat) (w : World) (hl : l.length ≤ 1048576) (h0 : 0 < l.length) (hr : RowAt w a l) :
    Calls Tryd.prog 24 #[.slice a l.length cap] w fun e w' => ∃ v, e = .returned v ∧ OwnB w' w.heap.size v l ∧ Below w.heap.size w w' := by
  obtain ⟨b, off, rfl, hc⟩ := hr h0
  have hn := fun (n c : Nat) (x : Option Addr) (w : World) => Lib.run_eql_slice_nil (P := Tryd.prog) w 22 5 x n c 0 0 Tryd.underlying22
  go_enter Tryd.func24, Tryd.ntmps24
  have hE : OwnB (w.alloc (.cells #[] 5)) w.heap.size (.slice (some ⟨w.heap.size, 0, none⟩) ([] : List Nat).length ([] : List Nat).length) [] := own_of_block (l := []) (Nat.le_refl _) (by simp) (heap_alloc_new w _)
  have hA : Below w.heap.size w (w.alloc (.cells #[] 5)) := (Below.refl _ _).alloc (Nat.le_refl _) _
  go_wp2_with (at_builtin; refine wpList_append_bytes _ rfl _ _ rfl w.heap.size (.slice (some ⟨w.heap.size, 0, none⟩) 0 0) [] l rfl hE _ _ rfl (hr.below hA) h0 (by simp; omega) (by simp) ?_; intro v2 w2 ho2 hg2)
  go_ret
  exact ⟨_, rfl, ho2, hA.grown hg2 (by simp) (fun k h => by simp [Value.ownBlock] at h; omega)⟩
theorem clone_own (a : Option Addr) (cap : Nat) (l : List Nat) (w : World) (hl : l.length ≤ 1048576) (hr : RowAt w a l) :
    Calls Tryd.prog 24 #[.slice a l.length cap] w fun e w' => ∃ v, e = .returned v ∧ OwnB w' w.heap.size v l ∧ Below w.heap.size w w' := by
  by_cases h0 : 0 < l.length
  · exact clone_any a cap l w hl h0 hr
  · obtain rfl : l = [] := List.length_eq_zero_iff.1 (by omega)
    have hn := fun (n c : Nat) (x : Option Addr) (w : World) => Lib.run_eql_slice_nil (P := Tryd.prog) w 22 5 x n c 0 0 Tryd.underlying22
    cases a with
    | none =>
      go_enter Tryd.func24, Tryd.ntmps24
      go_wp2
      go_ret
      exact ⟨_, rfl, OwnB.nil _ _, Below.refl _ _⟩
    | some x =>
      go_enter Tryd.func24, Tryd.ntmps24
      have hE : OwnB (w.alloc (.cells #[] 5)) w.heap.size (.slice (some ⟨w.heap.size, 0, none⟩) ([] : List Nat).length ([] : List Nat).length) [] := own_of_block (l := []) (Nat.le_refl _) (by simp) (heap_alloc_new w _)
      have hA : Below w.heap.size w (w.alloc (.cells #[] 5)) := (Below.refl _ _).alloc (Nat.le_refl _) _
      obtain ⟨i0, hi, hz0, hz1, hz2⟩ := info_parts Tryd.info5
      go_wp2_with (at_builtin; refine wpList_append_own _ rfl _ _ 22 rfl w.heap.size 5 i0 (.int .u8 0) 1 1 Tryd.underlying22 hi hz0 hz1 hz2 rfl (by decide) (.slice (some ⟨w.heap.size, 0, none⟩) 0 0) 0 [] rfl hE x 0 cap [] rfl (by simp) (by intro j u hj; simp at hj) (by intro u hu; cases hu) (by unfold maxLen; omega) (by omega) (by simp) ?_; intro v2 w2 ho2 hg2 _)
      go_ret
      exact ⟨_, rfl, ho2, hA.grown hg2 (by simp) (fun k h => by simp [Value.ownBlock] at h; omega)⟩
end Go.Proofs.YtledlicandlekaaDoor
namespace Go.Proofs.YtledlicandlekaaDoor
open Go.RowKit
/-- A cutter's block. -/
abbrev BlkC (w : World) (g : Nat) (x : Value) (lits : Bool) : Prop := Blk w g #[x, .bool lits] 48
/-- What next answers, and what the cutter holds behind it. -/
def NextPost (g b off c : Nat) (lits : Bool) (d : List Nat) (w : World) (e : Ending) (w' : World) : Prop := Two g g w w' ∧ match oneOf lits d with
  | none => e = .returned (.tuple #[.agg unZ, .bool false]) ∧ BlkC w' g (.slice (some ⟨b, off, none⟩) d.length c) lits
  | some (u, k) => ∃ lv bv o', e = .returned (.tuple #[.agg #[lv, bv, .bool u.2.2.1, .bool u.2.2.2], .bool true]) ∧ OwnB w' (w.heap.size + 1) lv u.1 ∧ OwnB w' (w.heap.size + 1) bv u.2.1 ∧ (lv.ownBlock = none ∨ lv.ownBlock ≠ bv.ownBlock) ∧ BlkC w' g (.slice (some ⟨b, o', none⟩) (d.length - k) (c - k)) lits ∧ (k = d.length ∨ o' = off + k)
theorem next_none {g b off c : Nat} {lits : Bool} {d : List Nat} {w W : World} (h : oneOf lits d = none) (hb : Two g g w W) (hg : BlkC W g (.slice (some ⟨b, off, none⟩) d.length c) lits) : NextPost g b off c lits d w (.returned (.tuple #[.agg unZ, .bool false])) W := by
  unfold NextPost
  rw [h]
  exact ⟨hb, rfl, hg⟩
theorem next_bad {g b off c k o' : Nat} {lits : Bool} {d : List Nat} {w W : World} (h : oneOf lits d = some (badU, k)) (hb : Two g g w W) (hg : BlkC W g (.slice (some ⟨b, o', none⟩) (d.length - k) (c - k)) lits) (ho : k = d.length ∨ o' = off + k) :
    NextPost g b off c lits d w (.returned (.tuple #[.agg #[.slice none 0 0, .slice none 0 0, .bool false, .bool true], .bool true])) W := by
  unfold NextPost
  rw [h]
  exact ⟨hb, _, _, o', rfl, OwnB.nil _ _, OwnB.nil _ _, .inl rfl, hg, ho⟩
theorem next_line {g b off c k o' : Nat} {lits : Bool} {d l : List Nat} {w W : World} {v : Value} (h : oneOf lits d = some ((l, [], false, false), k)) (hb : Two g g w W) (hv : OwnB W (w.heap.size + 1) v l) (hg : BlkC W g (.slice (some ⟨b, o', none⟩) (d.length - k) (c - k)) lits) (ho : k = d.length ∨ o' = off + k) :
    NextPost g b off c lits d w (.returned (.tuple #[.agg #[v, .slice none 0 0, .bool false, .bool false], .bool true])) W := by
  unfold NextPost
  rw [h]
  exact ⟨hb, _, _, o', rfl, hv, OwnB.nil _ _, apart_nil hv, hg, ho⟩
/-- How next stands: nothing old has changed, its result's block is as it was made. -/
structure NX (w W : World) : Prop where
  bel : Below w.heap.size w W
  u : BlkU W w.heap.size #[.slice none 0 0, .slice none 0 0, .bool false, .bool false]
theorem NX.below {w W W' : World} (h : NX w W) (hb : Below W.heap.size W W') : NX w W' := ⟨below_on h.bel hb, h.u.below hb h.u.lt⟩
theorem two_new {g k j : Nat} {w W : World} (h : Two g g w W) (hk : w.heap.size ≤ k) (v : Value) : Two g g w (W.setCell ⟨k, j, none⟩ v) :=
  ⟨h.os, h.tape, h.output, by simpa using h.size, fun i hi h1 h2 => (heap_setCell_other W ⟨k, j, none⟩ i v (by simp; omega)).trans (h.block i hi h1 h2)⟩
theorem two4 {g : Nat} {w W : World} (h : Two g g w W) (u0 u1 u2 u3 : Value) : Two g g w ((((W.setCell ⟨w.heap.size, 0, none⟩ u0).setCell ⟨w.heap.size, 1, none⟩ u1).setCell ⟨w.heap.size, 2, none⟩ u2).setCell ⟨w.heap.size, 3, none⟩ u3) :=
  two_new (two_new (two_new (two_new h (Nat.le_refl _) _) (Nat.le_refl _) _) (Nat.le_refl _) _) (Nat.le_refl _) _
theorem blkC4 {g k : Nat} {W : World} {x : Value} {lits : Bool} (h : BlkC W g x lits) (hk : g ≠ k) (u0 u1 u2 u3 : Value) : BlkC ((((W.setCell ⟨k, 0, none⟩ u0).setCell ⟨k, 1, none⟩ u1).setCell ⟨k, 2, none⟩ u2).setCell ⟨k, 3, none⟩ u3) g x lits :=
  (((h.other hk _).other hk _).other hk _).other hk _
theorem Two.on {g : Nat} {w W W' : World} (h : Two g g w W) (hb : Below W.heap.size W W') : Two g g w W' := h.trans (Two.of_below hb)
theorem Tx.other {w : World} {b off g j : Nat} {d : List Nat} (h : Tx w b off d) (hne : b ≠ g) (v : Value) : Tx (w.setCell ⟨g, j, none⟩ v) b off d := fun i hi => by
  rw [← h i hi]
  simp [World.cell?, heap_setCell_other w ⟨g, j, none⟩ b v (by simpa using hne)]
theorem litR_form (r : Option (Nat × Nat)) : ∃ (x y : Nat) (z : Bool), litR r = .tuple #[.int .i64 (x : Int), .int .i64 (y : Int), .bool z] ∧ (z = false → r = none) ∧ (z = true → r = some (y, x)) := by
  cases r with
  | none => exact ⟨0, 0, false, rfl, fun _ => rfl, fun h => by cases h⟩
  | some q => exact ⟨q.2, q.1, true, rfl, fun h => by (cases h), fun _ => rfl⟩
set_option maxRecDepth 20000 in
set_option maxHeartbeats 2000000 in
theorem next_easy (g b off c : Nat) (lits : Bool) (d : List Nat) (w : World) (hE : Env w) (h256 : ∀ x ∈ d, x < 256) (hd : d.length ≤ 1048576) (hcap : d.length ≤ c) (hT : Tx w b off d) (hg : BlkC w g (.slice (some ⟨b, off, none⟩) d.length c) lits) (hbg : b ≠ g)
    (hEz : ∀ e n i, findEnd d = some e → litOf (d.take e) = some (n, i) → lits = true → e ≤ 300 → n ≤ 8000 → d.length < e + 2 + n + 2) :
    Calls Tryd.prog 23 #[.pointer (some ⟨g, 0, none⟩)] w (NextPost g b off c lits d w) := by
  have h0 := blk_new w unZ 44
  have hb0 := (Below.refl w.heap.size w).alloc (Nat.le_refl _) (.cells unZ 44)
  have hgl := hg.lt
  have hg0 := hg.below hb0 hgl
  have q0 : (w.alloc (.cells unZ 44)).cell? ⟨g, 0, none⟩ = some (.slice (some ⟨b, off, none⟩) d.length c) := hg0.cell 0
  have HE := hide hE
  have H256 := hide h256
  have HT := hide hT
  have HG := hide hg
  have HEZ := hide hEz
  have H0 := hide h0
  have HB0 := hide hb0
  have hs0 : (w.alloc (.cells unZ 44)).heap.size = w.heap.size + 1 := by simp
  have hkc := Lib.run_convert_bytes_const (P := Tryd.prog) (w.alloc (.cells unZ 44)) 22 5 #[.int .u8 13, .int .u8 10] 2 2 Tryd.underlying22 Tryd.underlying5
  rw [hs0] at hkc
  clear hE h256 hT hg h0 hb0 hg0 hs0 hEz
  unfold unZ at *
  go_enter Tryd.func23, Tryd.ntmps23
  go_wp2_with fail
  have hN0 : NX w ((w.alloc (.cells #[.slice none 0 0, .slice none 0 0, .bool false, .bool false] 44)).alloc (.cells #[.int .u8 13, .int .u8 10] 5 (2, 3))) := by
    have hbb : Below (w.alloc (.cells #[.slice none 0 0, .slice none 0 0, .bool false, .bool false] 44)).heap.size (w.alloc (.cells #[.slice none 0 0, .slice none 0 0, .bool false, .bool false] 44)) ((w.alloc (.cells #[.slice none 0 0, .slice none 0 0, .bool false, .bool false] 44)).alloc (.cells #[.int .u8 13, .int .u8 10] 5 (2, 3))) := (Below.refl _ _).alloc (Nat.le_refl _) _
    exact NX.below ⟨HB0.out, H0.out⟩ hbb
  have c0 : ((w.alloc (.cells #[.slice none 0 0, .slice none 0 0, .bool false, .bool false] 44)).alloc (.cells #[.int .u8 13, .int .u8 10] 5 (2, 3))).cell? ⟨w.heap.size + 1, 0, none⟩ = some (.int .u8 13) := by
    have h := World.cell?_alloc_mark (w.alloc (.cells #[.slice none 0 0, .slice none 0 0, .bool false, .bool false] 44)) #[.int .u8 13, .int .u8 10] 5 (2, 3) 0
    simpa using h
  have c1 : ((w.alloc (.cells #[.slice none 0 0, .slice none 0 0, .bool false, .bool false] 44)).alloc (.cells #[.int .u8 13, .int .u8 10] 5 (2, 3))).cell? ⟨w.heap.size + 1, 1, none⟩ = some (.int .u8 10) := by
    have h := World.cell?_alloc_mark (w.alloc (.cells #[.slice none 0 0, .slice none 0 0, .bool false, .bool false] 44)) #[.int .u8 13, .int .u8 10] 5 (2, 3) 1
    simpa using h
  clear hkc q0 H0 HB0
  generalize ((w.alloc (.cells #[.slice none 0 0, .slice none 0 0, .bool false, .bool false] 44)).alloc (.cells #[.int .u8 13, .int .u8 10] 5 (2, 3))) = W0 at hN0 c0 c1 ⊢
  refine (bcut_any b off c d (w.heap.size + 1) 2 W0 H256.out hd hcap (HT.out.below hN0.bel) (HE.out.below hN0.bel).max c0 c1).mono ?_
  rintro e W1 ⟨rfl, q, rfl⟩
  have HN1 := hide (hN0.below (below_drewN (Below.refl W0.heap.size W0) q))
  clear c0 c1 hN0
  generalize W0.drewN q = W1 at HN1 ⊢
  have HG1 := hide (HG.out.below HN1.out.bel hgl)
  have g0 : W1.cell? ⟨g, 0, none⟩ = some (.slice (some ⟨b, off, none⟩) d.length c) := HG1.out.cell 0
  have g1 : W1.cell? ⟨g, 1, none⟩ = some (.bool lits) := HG1.out.cell 1
  have gf := fun j => HG1.out.fz j
  have u0 : W1.cell? ⟨w.heap.size, 0, none⟩ = some (.slice none 0 0) := HN1.out.u.cell 0
  have u1 : W1.cell? ⟨w.heap.size, 1, none⟩ = some (.slice none 0 0) := HN1.out.u.cell 1
  have u2 : W1.cell? ⟨w.heap.size, 2, none⟩ = some (.bool false) := HN1.out.u.cell 2
  have u3 : W1.cell? ⟨w.heap.size, 3, none⟩ = some (.bool false) := HN1.out.u.cell 3
  have uf := fun j => HN1.out.u.fz j
  have hgz : ¬ g = w.heap.size := by omega
  have hzg : ¬ w.heap.size = g := by omega
  cases hfe : findEnd d with
  | none =>
    have hv : cutR b off c d = .tuple #[.slice (some ⟨b, off, none⟩) d.length c, .slice none 0 0, .bool false] := by unfold cutR; rw [hfe]
    have HR := hide (show oneOf lits d = none by unfold oneOf; rw [hfe])
    rw [hv]
    clear hv hfe
    go_wp2
    exact bodyPost_ret (ret_unit w.heap.size _ #[.slice none 0 0, .slice none 0 0, .bool false, .bool false] (.bool false) rfl rfl rfl (set4 HN1.out.u _ _ _ _) rfl) rfl (next_none HR.out (two4 (Two.of_below HN1.out.bel) _ _ _ _) (blkC4 HG1.out hgz _ _ _ _))
  | some e =>
    obtain ⟨he, -, -⟩ := findEnd_lt hfe
    have hv : cutR b off c d = .tuple #[.slice (some ⟨b, off, none⟩) e c, .slice (some ⟨b, if c = e + 2 then off else off + (e + 2), none⟩) (d.length - (e + 2)) (c - (e + 2)), .bool true] := by unfold cutR; rw [hfe]
    rw [hv]
    have HOO := hide (show e + 2 = d.length ∨ (if c = e + 2 then off else off + (e + 2)) = off + (e + 2) by split <;> omega)
    generalize (if c = e + 2 then off else off + (e + 2)) = o2 at HOO ⊢
    have HFE := hide hfe
    clear hv hfe
    by_cases h3 : 300 < e
    · have h3i : (300 : Int) < (e : Int) := by omega
      have HR := hide (show oneOf lits d = some (badU, e + 2) by unfold oneOf; rw [HFE.out]; simp only []; rw [if_pos h3])
      go_wp2
      exact bodyPost_ret (ret_unit w.heap.size _ #[.slice none 0 0, .slice none 0 0, .bool false, .bool true] (.bool true) rfl rfl rfl (set4 (HN1.out.u.other hzg _) _ _ _ _) rfl) rfl (next_bad HR.out (two4 ((Two.of_below HN1.out.bel).set1 _) _ _ _ _) (blkC4 (HG1.out.set 0 _) hgz _ _ _ _) HOO.out)
    · have h3i : ¬ (300 : Int) < (e : Int) := by omega
      have hte : (d.take e).length = e := by rw [List.length_take]; omega
      have HL := hide (literalOf_any b off c (d.take e) W1 (HE.out.below HN1.out.bel) (fun x hx => H256.out x (List.mem_of_mem_take hx)) (by omega) (by omega) ((HT.out.below HN1.out.bel).take e))
      rw [hte] at HL
      clear u0 u1 u2 u3 uf g0 g1 gf
      go_wp2_with fail
      refine HL.out.mono ?_
      rintro e2 W2 ⟨rfl, hb2⟩
      have HN2 := hide (HN1.out.below hb2)
      have HG2 := hide (HG1.out.below hb2 HG1.out.lt)
      clear HL hb2 HN1 HG1
      have g0 : W2.cell? ⟨g, 0, none⟩ = some (.slice (some ⟨b, off, none⟩) d.length c) := HG2.out.cell 0
      have g1 : W2.cell? ⟨g, 1, none⟩ = some (.bool lits) := HG2.out.cell 1
      have gf := fun j => HG2.out.fz j
      obtain ⟨x, y, z, hxyz, hz0, hz1⟩ := litR_form (litOf (d.take e))
      rw [hxyz]
      have HZ0 := hide hz0
      have HZ1 := hide hz1
      clear hxyz hz0 hz1
      by_cases hA : lits = false ∨ z = false
      · have HR := hide (show oneOf lits d = some ((d.take e, [], false, false), e + 2) by
          unfold oneOf
          rw [HFE.out]
          simp only []
          rw [if_neg h3]
          rcases hA with rfl | hz
          · rfl
          · rw [HZ0.out hz]
            cases lits <;> rfl)
        have hT3 := ((HT.out.below HN2.out.bel).other (g := g) (j := 0) hbg (.slice (some ⟨b, o2, none⟩) (d.length - (e + 2)) (c - (e + 2)))).take e
        have HCL := hide (clone_own (some ⟨b, off, none⟩) c (d.take e) _ (by omega) hT3.row)
        rw [hte] at HCL
        have HTE := hide hte
        clear hT3 hte
        cases lits <;> cases z
        case true.true => rcases hA with h | h <;> cases h
        all_goals
          clear hA
          go_wp2_with fail
          refine HCL.out.mono ?_
          rintro e3 W4 ⟨v, rfl, hov, hb4⟩
          obtain ⟨va, vc, hve⟩ := hov.slice
          rw [HTE.out] at hve
          subst hve
          have hz4 : w.heap.size + 1 ≤ (W2.setCell ⟨g, 0, none⟩ (.slice (some ⟨b, o2, none⟩) (d.length - (e + 2)) (c - (e + 2)))).heap.size := by have := HN2.out.u.lt; simp; omega
          have HOV := hide (hov.mono hz4)
          have HU4 := hide ((HN2.out.u.other (j := 0) hzg (.slice (some ⟨b, o2, none⟩) (d.length - (e + 2)) (c - (e + 2)))).below hb4 hz4)
          have HG4 := hide ((HG2.out.set 0 (.slice (some ⟨b, o2, none⟩) (d.length - (e + 2)) (c - (e + 2)))).below hb4 (by omega))
          have HT4 := hide (((Two.of_below HN2.out.bel).set1 (b1 := g) (b2 := g) (j := 0) (.slice (some ⟨b, o2, none⟩) (d.length - (e + 2)) (c - (e + 2)))).on hb4)
          clear HCL hov hb4 g0 g1 gf hz4
          have u0 : W4.cell? ⟨w.heap.size, 0, none⟩ = some (.slice none 0 0) := HU4.out.cell 0
          have u1 : W4.cell? ⟨w.heap.size, 1, none⟩ = some (.slice none 0 0) := HU4.out.cell 1
          have u2 : W4.cell? ⟨w.heap.size, 2, none⟩ = some (.bool false) := HU4.out.cell 2
          have u3 : W4.cell? ⟨w.heap.size, 3, none⟩ = some (.bool false) := HU4.out.cell 3
          have uf := fun j => HU4.out.fz j
          go_wp2
          exact bodyPost_ret (ret_unit w.heap.size _ #[_, .slice none 0 0, .bool false, .bool false] (.bool true) rfl rfl rfl (set4 HU4.out _ _ _ _) rfl) rfl (next_line HR.out (two4 HT4.out _ _ _ _) (own4 HOV.out (Nat.lt_succ_self _) _ _ _ _) (blkC4 HG4.out hgz _ _ _ _) HOO.out)
      · have hl : lits = true := by cases lits <;> simp_all
        have hz : z = true := by cases z <;> simp_all
        subst hl hz
        have hLO := HZ1.out rfl
        have u0 : W2.cell? ⟨w.heap.size, 0, none⟩ = some (.slice none 0 0) := HN2.out.u.cell 0
        have u1 : W2.cell? ⟨w.heap.size, 1, none⟩ = some (.slice none 0 0) := HN2.out.u.cell 1
        have u2 : W2.cell? ⟨w.heap.size, 2, none⟩ = some (.bool false) := HN2.out.u.cell 2
        have u3 : W2.cell? ⟨w.heap.size, 3, none⟩ = some (.bool false) := HN2.out.u.cell 3
        have uf := fun j => HN2.out.u.fz j
        clear hA HZ0 HZ1
        by_cases h8 : 8000 < y
        · have h8i : (8000 : Int) < (y : Int) := by omega
          have HR := hide (show oneOf true d = some (badU, e + 2) by
            unfold oneOf
            rw [HFE.out]
            simp only [if_true]
            rw [if_neg h3, hLO]
            simp only []
            rw [if_pos h8])
          clear hLO hte
          go_wp2
          exact bodyPost_ret (ret_unit w.heap.size _ #[.slice none 0 0, .slice none 0 0, .bool false, .bool true] (.bool true) rfl rfl rfl (set4 (HN2.out.u.other hzg _) _ _ _ _) rfl) rfl (next_bad HR.out (two4 ((Two.of_below HN2.out.bel).set1 _) _ _ _ _) (blkC4 (HG2.out.set 0 _) hgz _ _ _ _) HOO.out)
        · have h8i : ¬ (8000 : Int) < (y : Int) := by omega
          have hsh := HEZ.out e y x HFE.out hLO rfl (by omega) (by omega)
          have HR := hide (show oneOf true d = none by
            unfold oneOf
            rw [HFE.out]
            simp only [if_true]
            rw [if_neg h3, hLO]
            simp only []
            rw [if_neg h8, if_pos hsh])
          have hwy : IntKind.i64.wrap ((y : Int) + 2) = (y : Int) + 2 := by rw [IntKind.wrap_i64]; omega
          have hshi : ((d.length - (e + 2) : Nat) : Int) < (y : Int) + 2 := by omega
          clear hLO hte hsh
          go_wp2
          exact bodyPost_ret (ret_unit w.heap.size _ #[.slice none 0 0, .slice none 0 0, .bool false, .bool false] (.bool false) rfl rfl rfl (set4 HN2.out.u _ _ _ _) rfl) rfl (next_none HR.out (two4 (Two.of_below HN2.out.bel) _ _ _ _) (blkC4 HG2.out hgz _ _ _ _))
end Go.Proofs.YtledlicandlekaaDoor
namespace Go.Proofs.YtledlicandlekaaDoor
open Go.RowKit
theorem next_lit {g b off c k o' : Nat} {lits : Bool} {d l m : List Nat} {w W : World} {v v' : Value} (h : oneOf lits d = some ((l, m, true, false), k)) (hb : Two g g w W) (hv : OwnB W (w.heap.size + 1) v l) (hv' : OwnB W (w.heap.size + 1) v' m) (ha : v.ownBlock = none ∨ v.ownBlock ≠ v'.ownBlock) (hg : BlkC W g (.slice (some ⟨b, o', none⟩) (d.length - k) (c - k)) lits) (ho : k = d.length ∨ o' = off + k) :
    NextPost g b off c lits d w (.returned (.tuple #[.agg #[v, v', .bool true, .bool false], .bool true])) W := by
  unfold NextPost
  rw [h]
  exact ⟨hb, _, _, o', rfl, hv, hv', ha, hg, ho⟩
theorem begE_at {d : List Nat} {j : Nat} (h : j + 1 < d.length) : begE (d.drop j) = decide (d.getD j 0 = 13 ∧ d.getD (j + 1) 0 = 10) := by
  unfold begE
  rw [List.drop_eq_getElem_cons (by omega), List.drop_eq_getElem_cons h, List.head?_cons, List.tail_cons, List.head?_cons, getD_at (by omega), getD_at h]
  simp
set_option maxRecDepth 20000 in
set_option maxHeartbeats 2000000 in
theorem next_body (g b off c : Nat) (lits : Bool) (d : List Nat) (w : World) (hE : Env w) (h256 : ∀ x ∈ d, x < 256) (hd : d.length ≤ 1048576) (hcap : d.length ≤ c) (hT : Tx w b off d) (hg : BlkC w g (.slice (some ⟨b, off, none⟩) d.length c) lits) (hbg : b ≠ g)
    (e n i : Nat) (hfe : findEnd d = some e) (hlo : litOf (d.take e) = some (n, i)) (hl : lits = true) (h3 : e ≤ 300) (h8 : n ≤ 8000) (hsz : e + 2 + n + 2 ≤ d.length) :
    Calls Tryd.prog 23 #[.pointer (some ⟨g, 0, none⟩)] w (NextPost g b off c lits d w) := by
  have h0 := blk_new w unZ 44
  have hb0 := (Below.refl w.heap.size w).alloc (Nat.le_refl _) (.cells unZ 44)
  have hgl := hg.lt
  have hg0 := hg.below hb0 hgl
  have q0 : (w.alloc (.cells unZ 44)).cell? ⟨g, 0, none⟩ = some (.slice (some ⟨b, off, none⟩) d.length c) := hg0.cell 0
  have HE := hide hE
  have H256 := hide h256
  have HT := hide hT
  have HG := hide hg
  have HFE := hide hfe
  have HLO := hide hlo
  have H0 := hide h0
  have HB0 := hide hb0
  have hs0 : (w.alloc (.cells unZ 44)).heap.size = w.heap.size + 1 := by simp
  have hkc := Lib.run_convert_bytes_const (P := Tryd.prog) (w.alloc (.cells unZ 44)) 22 5 #[.int .u8 13, .int .u8 10] 2 2 Tryd.underlying22 Tryd.underlying5
  rw [hs0] at hkc
  clear hE h256 hT hg h0 hb0 hg0 hs0 hfe hlo
  unfold unZ at *
  go_enter Tryd.func23, Tryd.ntmps23
  go_wp2_with fail
  have hN0 : NX w ((w.alloc (.cells #[.slice none 0 0, .slice none 0 0, .bool false, .bool false] 44)).alloc (.cells #[.int .u8 13, .int .u8 10] 5 (2, 3))) := by
    have hbb : Below (w.alloc (.cells #[.slice none 0 0, .slice none 0 0, .bool false, .bool false] 44)).heap.size (w.alloc (.cells #[.slice none 0 0, .slice none 0 0, .bool false, .bool false] 44)) ((w.alloc (.cells #[.slice none 0 0, .slice none 0 0, .bool false, .bool false] 44)).alloc (.cells #[.int .u8 13, .int .u8 10] 5 (2, 3))) := (Below.refl _ _).alloc (Nat.le_refl _) _
    exact NX.below ⟨HB0.out, H0.out⟩ hbb
  have c0 : ((w.alloc (.cells #[.slice none 0 0, .slice none 0 0, .bool false, .bool false] 44)).alloc (.cells #[.int .u8 13, .int .u8 10] 5 (2, 3))).cell? ⟨w.heap.size + 1, 0, none⟩ = some (.int .u8 13) := by
    have h := World.cell?_alloc_mark (w.alloc (.cells #[.slice none 0 0, .slice none 0 0, .bool false, .bool false] 44)) #[.int .u8 13, .int .u8 10] 5 (2, 3) 0
    simpa using h
  have c1 : ((w.alloc (.cells #[.slice none 0 0, .slice none 0 0, .bool false, .bool false] 44)).alloc (.cells #[.int .u8 13, .int .u8 10] 5 (2, 3))).cell? ⟨w.heap.size + 1, 1, none⟩ = some (.int .u8 10) := by
    have h := World.cell?_alloc_mark (w.alloc (.cells #[.slice none 0 0, .slice none 0 0, .bool false, .bool false] 44)) #[.int .u8 13, .int .u8 10] 5 (2, 3) 1
    simpa using h
  clear hkc q0 H0 HB0
  generalize ((w.alloc (.cells #[.slice none 0 0, .slice none 0 0, .bool false, .bool false] 44)).alloc (.cells #[.int .u8 13, .int .u8 10] 5 (2, 3))) = W0 at hN0 c0 c1 ⊢
  refine (bcut_any b off c d (w.heap.size + 1) 2 W0 H256.out hd hcap (HT.out.below hN0.bel) (HE.out.below hN0.bel).max c0 c1).mono ?_
  rintro e' W1 ⟨rfl, q, rfl⟩
  have HN1 := hide (hN0.below (below_drewN (Below.refl W0.heap.size W0) q))
  clear c0 c1 hN0
  generalize W0.drewN q = W1 at HN1 ⊢
  have HG1 := hide (HG.out.below HN1.out.bel hgl)
  have g0 : W1.cell? ⟨g, 0, none⟩ = some (.slice (some ⟨b, off, none⟩) d.length c) := HG1.out.cell 0
  have g1 : W1.cell? ⟨g, 1, none⟩ = some (.bool lits) := HG1.out.cell 1
  have gf := fun j => HG1.out.fz j
  have u0 : W1.cell? ⟨w.heap.size, 0, none⟩ = some (.slice none 0 0) := HN1.out.u.cell 0
  have u1 : W1.cell? ⟨w.heap.size, 1, none⟩ = some (.slice none 0 0) := HN1.out.u.cell 1
  have u2 : W1.cell? ⟨w.heap.size, 2, none⟩ = some (.bool false) := HN1.out.u.cell 2
  have u3 : W1.cell? ⟨w.heap.size, 3, none⟩ = some (.bool false) := HN1.out.u.cell 3
  have uf := fun j => HN1.out.u.fz j
  have hgz : ¬ g = w.heap.size := by omega
  have hzg : ¬ w.heap.size = g := by omega
  have hv : cutR b off c d = .tuple #[.slice (some ⟨b, off, none⟩) e c, .slice (some ⟨b, off + (e + 2), none⟩) (d.length - (e + 2)) (c - (e + 2)), .bool true] := by unfold cutR; rw [HFE.out]; simp only []; rw [if_neg (by omega)]
  rw [hv]
  clear hv
  have h3i : ¬ (300 : Int) < (e : Int) := by omega
  have hte : (d.take e).length = e := by rw [List.length_take]; omega
  have hie := (litOf_lt HLO.out).1
  rw [hte] at hie
  have HL := hide (literalOf_any b off c (d.take e) W1 (HE.out.below HN1.out.bel) (fun x hx => H256.out x (List.mem_of_mem_take hx)) (by omega) (by omega) ((HT.out.below HN1.out.bel).take e))
  rw [hte, HLO.out] at HL
  clear u0 u1 u2 u3 uf g0 g1 gf hte
  subst hl
  go_wp2_with fail
  refine HL.out.mono ?_
  rintro e2 W2 ⟨rfl, hb2⟩
  have HN2 := hide (HN1.out.below hb2)
  have HG2 := hide (HG1.out.below hb2 HG1.out.lt)
  clear HL hb2 HN1 HG1
  have g0 : W2.cell? ⟨g, 0, none⟩ = some (.slice (some ⟨b, off, none⟩) d.length c) := HG2.out.cell 0
  have g1 : W2.cell? ⟨g, 1, none⟩ = some (.bool true) := HG2.out.cell 1
  have gf := fun j => HG2.out.fz j
  have h8i : ¬ (8000 : Int) < (n : Int) := by omega
  have hwy : IntKind.i64.wrap ((n : Int) + 2) = (n : Int) + 2 := by rw [IntKind.wrap_i64]; omega
  have hrl : (d.drop (e + 2 + n)).length = d.length - (e + 2) - n := by rw [List.length_drop]; omega
  have HS := hide (fun W (hb : Below w.heap.size w W) k0 k1 => bpre_any b (off + (e + 2 + n)) (c - (e + 2) - n) (d.drop (e + 2 + n)) W2.heap.size 2 W (fun x hx => H256.out x (List.mem_of_mem_drop hx)) (by rw [hrl]; omega) ((HT.out.below hb).drop (e + 2 + n)) k0 k1)
  rw [hrl, begE_at (by omega), show off + (e + 2 + n) = off + (e + 2) + n from by omega] at HS
  have HX := hide (show d.length - (e + 2 + n) = d.length - (e + 2) - n ∧ c - (e + 2 + n) = c - (e + 2) - n by omega)
  generalize hD : d.length - (e + 2) = D at HS HX ⊢
  generalize hC : c - (e + 2) = C at HS HX ⊢
  have hDn : n + 2 ≤ D := by omega
  have hDC : D ≤ C := by omega
  have hDi : ¬ (D : Int) < (n : Int) + 2 := by omega
  have hnD : (n : Int) ≤ (D : Int) := by omega
  have hCn : ¬ C = n := by omega
  have hkc : (convert 22 22 (.slice (some ⟨W2.heap.size, 0, none⟩) 2 2)).run Tryd.prog (W2.alloc (.cells #[.int .u8 13, .int .u8 10] 5)) = .ok (.slice (some ⟨W2.heap.size, 0, none⟩) 2 2) (W2.alloc (.cells #[.int .u8 13, .int .u8 10] 5 (2, 3))) := Lib.run_convert_bytes_const (P := Tryd.prog) W2 22 5 #[.int .u8 13, .int .u8 10] 2 2 Tryd.underlying22 Tryd.underlying5
  have HC0 := hide (show (W2.alloc (.cells #[.int .u8 13, .int .u8 10] 5 (2, 3))).cell? ⟨W2.heap.size, 0, none⟩ = some (.int .u8 13) from World.cell?_alloc_mark W2 #[.int .u8 13, .int .u8 10] 5 (2, 3) 0)
  have HC1 := hide (show (W2.alloc (.cells #[.int .u8 13, .int .u8 10] 5 (2, 3))).cell? ⟨W2.heap.size, 1, none⟩ = some (.int .u8 10) from World.cell?_alloc_mark W2 #[.int .u8 13, .int .u8 10] 5 (2, 3) 1)
  have hal : Below W2.heap.size W2 (W2.alloc (.cells #[.int .u8 13, .int .u8 10] 5 (2, 3))) := (Below.refl _ _).alloc (Nat.le_refl _) _
  have HN3 := hide (HN2.out.below hal)
  have HG3 := hide (HG2.out.below hal HG2.out.lt)
  have HHD := hide hD
  have HHC := hide hC
  have HSZ := hide hsz
  have HHD2 := hide (And.intro hd hcap)
  clear hal hD hC hrl hsz hd hcap
  unfold litR
  simp only []
  go_wp2_with fail
  clear hkc g0 g1 gf HN2 HG2
  generalize W2.alloc (.cells #[.int .u8 13, .int .u8 10] 5 (2, 3)) = W3 at HC0 HC1 HN3 HG3 ⊢
  refine (HS.out W3 HN3.out.bel HC0.out HC1.out).mono ?_
  rintro e3 W4 ⟨rfl, rfl⟩
  clear HS HC0 HC1
  have g0 : W4.cell? ⟨g, 0, none⟩ = some (.slice (some ⟨b, off, none⟩) d.length c) := HG3.out.cell 0
  have gf := fun j => HG3.out.fz j
  have u0 : W4.cell? ⟨w.heap.size, 0, none⟩ = some (.slice none 0 0) := HN3.out.u.cell 0
  have u1 : W4.cell? ⟨w.heap.size, 1, none⟩ = some (.slice none 0 0) := HN3.out.u.cell 1
  have u2 : W4.cell? ⟨w.heap.size, 2, none⟩ = some (.bool false) := HN3.out.u.cell 2
  have u3 : W4.cell? ⟨w.heap.size, 3, none⟩ = some (.bool false) := HN3.out.u.cell 3
  have uf := fun j => HN3.out.u.fz j
  have HONE := hide (show oneOf true d = (if d.getD (e + 2 + n) 0 = 13 ∧ d.getD (e + 2 + n + 1) 0 = 10 then some ((d.take i, (d.drop (e + 2)).take n, true, false), e + 2 + n + 2) else some (badU, e + 2 + n)) by
    unfold oneOf
    rw [HFE.out]
    simp only [if_true]
    rw [if_neg (by omega), HLO.out]
    simp only []
    rw [if_neg (by omega), if_neg (by have := HSZ.out; omega)])
  by_cases hbe : d.getD (e + 2 + n) 0 = 13 ∧ d.getD (e + 2 + n + 1) 0 = 10
  · have HR := hide (HONE.out.trans (if_pos hbe))
    rw [decide_eq_true hbe, if_pos rfl]
    have HO := hide (show e + 2 + n + 2 = d.length ∨ (if C - n = 2 then off + (e + 2) + n else off + (e + 2) + n + 2) = off + (e + 2 + n + 2) by
      have h1 := HHD.out; have h2 := HHC.out; have h4 := HHD2.out.2
      split <;> omega)
    generalize (if C - n = 2 then off + (e + 2) + n else off + (e + 2) + n + 2) = o3 at HO ⊢
    have HX2 := hide (show d.length - (e + 2 + n + 2) = D - n - 2 ∧ c - (e + 2 + n + 2) = C - n - 2 by have := HX.out; omega)
    clear hbe HONE
    go_wp2_with fail
    have HU5 := hide (HN3.out.u.other (j := 0) hzg (.slice (some ⟨b, o3, none⟩) (D - n - 2) (C - n - 2)))
    have HG5 := hide (HG3.out.set 0 (.slice (some ⟨b, o3, none⟩) (D - n - 2) (C - n - 2)))
    have HT5 := hide ((Two.of_below HN3.out.bel).set1 (b1 := g) (b2 := g) (j := 0) (.slice (some ⟨b, o3, none⟩) (D - n - 2) (C - n - 2)))
    have HX5 := hide ((HT.out.below HN3.out.bel).other (g := g) (j := 0) hbg (.slice (some ⟨b, o3, none⟩) (D - n - 2) (C - n - 2)))
    clear g0 gf u0 u1 u2 u3 uf HN3 HG3 HG
    generalize W4.setCell ⟨g, 0, none⟩ (.slice (some ⟨b, o3, none⟩) (D - n - 2) (C - n - 2)) = w5 at HU5 HG5 HT5 HX5 ⊢
    have hl1 : (d.take i).length = i := by rw [List.length_take]; have := HSZ.out; omega
    have hl2 : ((d.drop (e + 2)).take n).length = n := by rw [List.length_take, List.length_drop]; have := HSZ.out; omega
    have HA := hide (fun W (h : Below w5.heap.size w5 W) => clone_own (some ⟨b, off, none⟩) c (d.take i) W (by omega) ((HX5.out.below h).take i).row)
    have HD := hide (fun W (h : Below w5.heap.size w5 W) => clone_own (some ⟨b, off + (e + 2), none⟩) C ((d.drop (e + 2)).take n) W (by omega) (((HX5.out.below h).drop (e + 2)).take n).row)
    rw [hl1] at HA
    rw [hl2] at HD
    have HL1 := hide hl1
    have HL2 := hide hl2
    have hz5 : w.heap.size + 1 ≤ w5.heap.size := HU5.out.lt
    have HZ5 := hide hz5
    have hic : (i : Int) ≤ (c : Int) := by have := HHD2.out.2; have := HSZ.out; omega
    have hnc : (n : Int) ≤ (C : Int) := by omega
    clear hl1 hl2 hz5
    go_region_with (first
      | (go_at_call 24; have _x := HBWP; refine (HD.out _ ?_).mono ?_; (first | exact HBWP.out | exact below_drewN HBWP.out _ | exact HBWP.out.drew); rintro eq wq ⟨vq, rfl, hoq, hbq⟩; obtain ⟨aq, cq, hvq⟩ := hoq.slice; rw [HL2.out] at hvq; subst hvq; have HBWQ : Hid (Below w5.heap.size w5 wq) := (by first | exact hide (below_on HBWP.out hbq) | exact hide (below_on (below_drewN HBWP.out _) hbq)); have KQ := hide (HU5.out.below HBWQ.out HU5.out.lt); have HOQ := hide hoq; have HOP2 := hide (HOP.out.below hbq (Nat.le_refl _)); have q0 : wq.cell? ⟨w.heap.size, 0, none⟩ = some (.slice none 0 0) := KQ.out.cell 0; have q1 : wq.cell? ⟨w.heap.size, 1, none⟩ = some (.slice none 0 0) := KQ.out.cell 1; have q2 : wq.cell? ⟨w.heap.size, 2, none⟩ = some (.bool false) := KQ.out.cell 2; have q3 : wq.cell? ⟨w.heap.size, 3, none⟩ = some (.bool false) := KQ.out.cell 3; have qf := fun j => KQ.out.fz j; clear hoq hbq)
      | (go_at_call 24; refine (HA.out _ ?_).mono ?_; (first | exact Below.refl _ _ | exact below_drewN (Below.refl _ _) _ | exact (Below.refl _ _).drew); rintro ep wp ⟨vp, rfl, hop, hbp⟩; obtain ⟨ap, cp, hvp⟩ := hop.slice; rw [HL1.out] at hvp; subst hvp; have HBWP : Hid (Below w5.heap.size w5 wp) := (by first | exact hide hbp | exact hide (below_on (below_drewN (Below.refl _ _) _) hbp)); have HOP := hide hop; clear hop hbp))
    all_goals
      have HAP := hide (show (Value.slice ap i cp).ownBlock = none ∨ (Value.slice ap i cp).ownBlock ≠ (Value.slice aq n cq).ownBlock by
        cases hb : (Value.slice ap i cp).ownBlock with
        | none => exact .inl rfl
        | some k =>
          refine .inr fun e => ?_
          have h1 := (World.ownsRow.lt HOP.out k hb).2
          have h2 := (World.ownsRow.lt HOQ.out k e.symm).1
          omega)
      have HO1 := hide (HOP2.out.mono (show w.heap.size + 1 ≤ _ from HZ5.out))
      have HO2 := hide (HOQ.out.mono (Nat.le_trans HZ5.out HBWP.out.size))
      clear HOP HOP2 HOQ HA HD
      go_wp2
      refine bodyPost_ret (ret_unit w.heap.size _ #[.slice ap i cp, .slice aq n cq, .bool true, .bool false] (.bool true) rfl rfl rfl (set4 KQ.out _ _ _ _) rfl) rfl (next_lit (o' := o3) HR.out (two4 (HT5.out.on HBWQ.out) _ _ _ _) (own4 HO1.out (Nat.lt_succ_self _) _ _ _ _) (own4 HO2.out (Nat.lt_succ_self _) _ _ _ _) HAP.out ?_ HO.out)
      rw [HX2.out.1, HX2.out.2]
      exact blkC4 (HG5.out.below HBWQ.out HG5.out.lt) hgz _ _ _ _
  · have HR := hide (HONE.out.trans (if_neg hbe))
    rw [decide_eq_false hbe, if_neg (by simp)]
    clear hbe HONE
    go_wp2
    refine bodyPost_ret (ret_unit w.heap.size _ #[.slice none 0 0, .slice none 0 0, .bool false, .bool true] (.bool true) rfl rfl rfl (set4 (HN3.out.u.other hzg _) _ _ _ _) rfl) rfl (next_bad (o' := off + (e + 2) + n) HR.out (two4 ((Two.of_below HN3.out.bel).set1 _) _ _ _ _) ?_ (.inr (by omega)))
    rw [HX.out.1, HX.out.2]
    exact blkC4 (HG3.out.set 0 _) hgz _ _ _ _
theorem nextUnit_any (g b off c : Nat) (lits : Bool) (d : List Nat) (w : World) (hE : Env w) (h256 : ∀ x ∈ d, x < 256) (hd : d.length ≤ 1048576) (hcap : d.length ≤ c) (hT : Tx w b off d) (hg : BlkC w g (.slice (some ⟨b, off, none⟩) d.length c) lits) (hbg : b ≠ g) :
    Calls Tryd.prog 23 #[.pointer (some ⟨g, 0, none⟩)] w (NextPost g b off c lits d w) := by
  by_cases h : ∃ e n i, findEnd d = some e ∧ litOf (d.take e) = some (n, i) ∧ lits = true ∧ e ≤ 300 ∧ n ≤ 8000 ∧ e + 2 + n + 2 ≤ d.length
  · obtain ⟨e, n, i, h1, h2, h3, h4, h5, h6⟩ := h
    exact next_body g b off c lits d w hE h256 hd hcap hT hg hbg e n i h1 h2 h3 h4 h5 h6
  · refine next_easy g b off c lits d w hE h256 hd hcap hT hg hbg fun e n i h1 h2 h3 h4 h5 => ?_
    rcases Nat.lt_or_ge d.length (e + 2 + n + 2) with h' | h'
    · exact h'
    · exact absurd ⟨e, n, i, h1, h2, h3, h4, h5, h'⟩ h
end Go.Proofs.YtledlicandlekaaDoor
namespace Go.Proofs.YtledlicandlekaaDoor
open Go.RowKit
abbrev U4 := Value × Value × Bool × Bool
def cellsU (vs : List U4) : List Value := vs.flatMap fun x => [x.1, x.2.1, .bool x.2.2.1, .bool x.2.2.2]
theorem cellsU_cons (x : U4) (vs : List U4) : cellsU (x :: vs) = x.1 :: x.2.1 :: .bool x.2.2.1 :: .bool x.2.2.2 :: cellsU vs := rfl
theorem cellsU_append (a b : List U4) : cellsU (a ++ b) = cellsU a ++ cellsU b := by unfold cellsU; rw [List.flatMap_append]
theorem cellsU_length (vs : List U4) : (cellsU vs).length = vs.length * 4 := by
  induction vs with
  | nil => rfl
  | cons x r ih => rw [cellsU_cons]; simp [ih]; omega
theorem cellsU_get (vs : List U4) (i : Nat) (h : i < vs.length) : (cellsU vs)[i * 4]? = some vs[i].1 ∧ (cellsU vs)[i * 4 + 1]? = some vs[i].2.1 ∧ (cellsU vs)[i * 4 + 2]? = some (.bool vs[i].2.2.1) ∧ (cellsU vs)[i * 4 + 3]? = some (.bool vs[i].2.2.2) := by
  induction vs generalizing i with
  | nil => simp at h
  | cons x r ih =>
    cases i with
    | zero => exact ⟨rfl, rfl, rfl, rfl⟩
    | succ i =>
      obtain ⟨h0, h1, h2, h3⟩ := ih i (by simpa using h)
      refine ⟨?_, ?_, ?_, ?_⟩
      · rw [cellsU_cons, show (i + 1) * 4 = i * 4 + 1 + 1 + 1 + 1 from by omega]; simpa using h0
      · rw [cellsU_cons, show (i + 1) * 4 + 1 = i * 4 + 1 + 1 + 1 + 1 + 1 from by omega]; simpa using h1
      · rw [cellsU_cons, show (i + 1) * 4 + 2 = i * 4 + 2 + 1 + 1 + 1 + 1 from by omega]; simpa using h2
      · rw [cellsU_cons, show (i + 1) * 4 + 3 = i * 4 + 3 + 1 + 1 + 1 + 1 from by omega]; simpa using h3
def slicesU (vs : List U4) : List Value := vs.flatMap fun x => [x.1, x.2.1]
def apartV (a b : Value) : Prop := a.ownBlock = none ∨ a.ownBlock ≠ b.ownBlock
/-- A list of units of the call's own: vs its elements, us what they hold; each line and each body its own block. -/
structure OwnU (w : World) (lo : Nat) (v : Value) (vs : List U4) (us : List UnitM) : Prop where
  len : vs.length = us.length
  row : w.ownsRow lo 44 4 v us.length (cellsU vs)
  body : ∀ i (h : i < us.length), ∃ x, vs[i]? = some x ∧ OwnB w lo x.1 us[i].1 ∧ OwnB w lo x.2.1 us[i].2.1 ∧ x.2.2 = us[i].2.2
  apart : (slicesU vs).Pairwise apartV
theorem OwnU.nil (w : World) (lo : Nat) : OwnU w lo (.slice none 0 0) [] [] := ⟨rfl, World.ownsRow_nil w lo _ 4, fun i h => by simp at h, List.Pairwise.nil⟩
theorem OwnU.slice {w : World} {lo : Nat} {v : Value} {vs : List U4} {us : List UnitM} (h : OwnU w lo v vs us) : ∃ a cap, v = .slice a us.length cap := by
  rcases h.row.2 with ⟨rfl, hn⟩ | ⟨g, cap, cur, rfl, _⟩
  · exact ⟨none, 0, by rw [hn]⟩
  · exact ⟨_, cap, rfl⟩
theorem ownsK {w w' : World} {base e k n : Nat} {v : Value} {xs : List Value} (h : w.ownsRow base e k v n xs) (hk : ∀ g, base ≤ g → g < w.heap.size → w'.heap[g]? = w.heap[g]?) : w'.ownsRow base e k v n xs := by
  refine ⟨h.1, ?_⟩
  rcases h.2 with hn | ⟨g, cap, cur, rfl, hbase, hg, rest⟩
  · exact .inl hn
  · exact .inr ⟨g, cap, cur, rfl, hbase, (hk g hbase (lt_of_block hg)).trans hg, rest⟩
theorem ownsA {w : World} {b1 b2 e1 e2 k1 k2 n1 n2 : Nat} {v x : Value} {xs ys : List Value} (h1 : w.ownsRow b1 e1 k1 v n1 xs) (h2 : w.ownsRow b2 e2 k2 x n2 ys) (he : e1 ≠ e2) : v.ownBlock = none ∨ v.ownBlock ≠ x.ownBlock := by
  rcases h1.2 with ⟨rfl, _⟩ | ⟨g, cap, cur, rfl, _, hg, _⟩
  · exact .inl rfl
  · refine .inr fun e => ?_
    rcases h2.2 with ⟨rfl, _⟩ | ⟨g', cap', cur', rfl, _, hg', _⟩
    · simp [Value.ownBlock] at e
    · simp only [Value.ownBlock, Option.some.injEq] at e
      subst e
      rw [hg] at hg'
      simp only [Option.some.injEq, Obj.cells.injEq] at hg'
      exact he hg'.2.1
theorem OwnU.below {B lo : Nat} {w w' : World} {v : Value} {vs : List U4} {us : List UnitM} (h : OwnU w lo v vs us) (hb : Below B w w') (hB : w.heap.size ≤ B) : OwnU w' lo v vs us := by
  have hk : ∀ g, lo ≤ g → g < w.heap.size → w'.heap[g]? = w.heap[g]? := fun g _ hg => hb.block g (by omega)
  refine ⟨h.len, ownsK h.row hk, fun i hi => ?_, h.apart⟩
  obtain ⟨x, hx, o1, o2, e⟩ := h.body i hi
  exact ⟨x, hx, ownsK o1 hk, ownsK o2 hk, e⟩
theorem OwnU.mono {w : World} {lo lo' : Nat} {v : Value} {vs : List U4} {us : List UnitM} (h : OwnU w lo v vs us) (hl : lo' ≤ lo) : OwnU w lo' v vs us := by
  refine ⟨h.len, ⟨h.row.1, ?_⟩, fun i hi => ?_, h.apart⟩
  · rcases h.row.2 with hn | ⟨g, cap, cur, rfl, hbase, rest⟩
    · exact .inl hn
    · exact .inr ⟨g, cap, cur, rfl, Nat.le_trans hl hbase, rest⟩
  · obtain ⟨x, hx, o1, o2, e⟩ := h.body i hi
    exact ⟨x, hx, o1.mono hl, o2.mono hl, e⟩
theorem OwnU.other {w : World} {lo g j : Nat} {v : Value} {vs : List U4} {us : List UnitM} (h : OwnU w lo v vs us) (hg : g < lo) (u : Value) : OwnU (w.setCell ⟨g, j, none⟩ u) lo v vs us := by
  have hk : ∀ g', lo ≤ g' → g' < w.heap.size → (w.setCell ⟨g, j, none⟩ u).heap[g']? = w.heap[g']? := fun g' h' _ => heap_setCell_other w ⟨g, j, none⟩ g' u (by simp; omega)
  refine ⟨h.len, ownsK h.row hk, fun i hi => ?_, h.apart⟩
  obtain ⟨x, hx, o1, o2, e⟩ := h.body i hi
  exact ⟨x, hx, ownsK o1 hk, ownsK o2 hk, e⟩
theorem mem_slicesU {vs : List U4} {y : Value} (h : y ∈ slicesU vs) : ∃ x ∈ vs, y = x.1 ∨ y = x.2.1 := by
  unfold slicesU at h
  obtain ⟨x, hx, hy⟩ := List.mem_flatMap.1 h
  exact ⟨x, hx, by simpa using hy⟩
theorem OwnU.lt {w : World} {lo : Nat} {v : Value} {vs : List U4} {us : List UnitM} (h : OwnU w lo v vs us) : ∀ y ∈ slicesU vs, ∀ g, y.ownBlock = some g → g < w.heap.size := by
  intro y hy g hg
  obtain ⟨x, hx, e⟩ := mem_slicesU hy
  obtain ⟨i, hi, rfl⟩ := List.getElem_of_mem hx
  obtain ⟨z, hz, o1, o2, _⟩ := h.body i (by have := h.len; omega)
  rw [List.getElem?_eq_getElem hi] at hz
  simp only [Option.some.injEq] at hz
  subst hz
  rcases e with rfl | rfl
  · exact (World.ownsRow.lt o1 g hg).2
  · exact (World.ownsRow.lt o2 g hg).2
/-- append of one unit whose line and body are newer than all. -/
theorem OwnU.push {w0 w w' : World} {lo : Nat} {v v' lv bv : Value} {vs : List U4} {us : List UnitM} {u : UnitM} (h0 : OwnU w0 lo v vs us) (h : OwnU w lo v vs us) (o1 : OwnB w (w0.heap.size) lv u.1) (o2 : OwnB w (w0.heap.size) bv u.2.1) (hlo : lo ≤ w0.heap.size) (ha : apartV lv bv)
    (ho : w'.ownsRow lo 44 4 v' (us.length + 1) (cellsU vs ++ [lv, bv, .bool u.2.2.1, .bool u.2.2.2])) (hg : w.grownBy w' v.ownBlock) : OwnU w' lo v' (vs ++ [(lv, bv, u.2.2)]) (us ++ [u]) := by
  have k : ∀ {x : Value} {l : List Nat}, OwnB w lo x l → OwnB w' lo x l := fun hx => World.ownsRow.kept hx hg (ownsA hx h.row (by decide))
  refine ⟨by rw [List.length_append, List.length_append, h.len]; rfl, by rw [List.length_append, cellsU_append]; exact ho, fun i hi => ?_, ?_⟩
  · by_cases e : i < us.length
    · obtain ⟨y, hy, p1, p2, e3⟩ := h.body i e
      refine ⟨y, by rw [List.getElem?_append_left (by have := h.len; omega)]; exact hy, ?_⟩
      rw [List.getElem_append_left e]
      exact ⟨k p1, k p2, e3⟩
    · have e2 : i = us.length := by simp at hi; omega
      subst e2
      refine ⟨(lv, bv, u.2.2), by rw [List.getElem?_append_right (by have := h.len; omega)]; simp [h.len], ?_⟩
      simp only [List.getElem_concat_length]
      exact ⟨k (o1.mono hlo), k (o2.mono hlo), trivial⟩
  · unfold slicesU
    rw [List.flatMap_append, List.pairwise_append]
    refine ⟨h.apart, by simp; exact ha, fun y hy z hz => ?_⟩
    cases hb : y.ownBlock with
    | none => exact .inl hb
    | some g =>
      refine .inr fun e => ?_
      have h1 := h0.lt y hy g hb
      rw [hb] at e
      simp only [List.flatMap_cons, List.flatMap_nil, List.append_nil, List.mem_cons, List.not_mem_nil, or_false] at hz
      rcases hz with rfl | rfl
      · have h2 := (World.ownsRow.lt o1 g e.symm).1; omega
      · have h2 := (World.ownsRow.lt o2 g e.symm).1; omega
theorem Tryd.infoUnit : (Tryd.prog.info? 44).map (fun i => (i.zero, i.size, i.bytes)) = some (some (.agg #[.slice none 0 0, .slice none 0 0, .bool false, .bool false]), 4, 56) := by kernel_rfl
theorem wpList_append_unit {ops : Array Oper} {rest : List Oper} {o : Oper} {act : Act} {Q : Exit → Act → World → Prop} (w0 w : World) (hgd : o.guard = none) (s x : Operand)
    (ho : o.op = .call { callee := .builtin .append, args := #[s, x], argTypes := #[23, 23] })
    (lo : Nat) (v lv bv : Value) (vs : List U4) (us : List UnitM) (u : UnitM) (g1 c : Nat) (hs : act.eval s = v) (hx : act.eval x = .slice (some ⟨g1, 0, none⟩) 1 c) (h0 : OwnU w0 lo v vs us) (hown : OwnU w lo v vs us)
    (o1 : OwnB w (w0.heap.size) lv u.1) (o2 : OwnB w (w0.heap.size) bv u.2.1) (hlo : lo ≤ w0.heap.size) (hsz : w0.heap.size ≤ w.heap.size) (ha : apartV lv bv)
    (c0 : w.cell? ⟨g1, 0, none⟩ = some lv) (c1 : w.cell? ⟨g1, 1, none⟩ = some bv) (c2 : w.cell? ⟨g1, 2, none⟩ = some (.bool u.2.2.1)) (c3 : w.cell? ⟨g1, 3, none⟩ = some (.bool u.2.2.2)) (hlen : us.length ≤ 1048576)
    (h : ∀ v' w', OwnU w' lo v' (vs ++ [(lv, bv, u.2.2)]) (us ++ [u]) → w.grownBy w' v.ownBlock → wpList Tryd.prog ops Q rest (act.put o.dst v') w') : wpList Tryd.prog ops Q (o :: rest) act w := by
  obtain ⟨i0, hi, hz0, hz1, hz2⟩ := info_parts Tryd.infoUnit
  refine wpList_append_own w hgd s x 23 ho lo 44 i0 (.agg #[.slice none 0 0, .slice none 0 0, .bool false, .bool false]) 4 56 Tryd.underlying23 hi hz0 hz1 hz2 rfl (by decide) v us.length (cellsU vs) hs hown.row ⟨g1, 0, none⟩ 1 c [lv, bv, .bool u.2.2.1, .bool u.2.2.2] hx (by simp) ?_ ?_ (by unfold maxLen; omega) (by omega) (by omega) ?_
  · intro j y hj
    rw [addr_add]
    match j with
    | 0 => simp only [List.getElem?_cons_zero, Option.some.injEq] at hj; rw [← hj]; exact c0
    | 1 => simp only [List.getElem?_cons_succ, List.getElem?_cons_zero, Option.some.injEq] at hj; rw [← hj]; exact c1
    | 2 => simp only [List.getElem?_cons_succ, List.getElem?_cons_zero, Option.some.injEq] at hj; rw [← hj]; exact c2
    | 3 => simp only [List.getElem?_cons_succ, List.getElem?_cons_zero, Option.some.injEq] at hj; rw [← hj]; exact c3
    | j + 4 => simp at hj
  · intro y hy
    simp only [List.mem_cons, List.not_mem_nil, or_false] at hy
    rcases hy with rfl | rfl | rfl | rfl
    · obtain ⟨a, c', rfl⟩ := o1.slice; rfl
    · obtain ⟨a, c', rfl⟩ := o2.slice; rfl
    · rfl
    · rfl
  · intro v' w' hown' hg _
    exact h v' w' (h0.push hown o1 o2 hlo ha hown' hg) hg
end Go.Proofs.YtledlicandlekaaDoor
namespace Go.Proofs.YtledlicandlekaaDoor
open Go.RowKit
abbrev BlkN (w : World) (g : Nat) (x y : Value) : Prop := Blk w g #[x, y] 25
theorem ret_units {fn : Func} {tmps : Array Value} {p : Tmp} (B : Nat) (W : World) (x y : Value) (hf : fn.results = #[.cell p 25]) (hp : tmps.getD p undef = .pointer (some ⟨B, 0, none⟩)) (hb : BlkN W B x y) :
    (results fn tmps).run Tryd.prog W = .ok (.agg #[x, y]) W :=
  results_cell_row (P := Tryd.prog) hf _ _ B _ _ _ _ hp hb Tryd.underlying25 rfl (by kernel_rfl)
/-- What both Cuts answer. -/
def CutsPost (r : List UnitM × List Nat) (w : World) (e : Ending) (w' : World) : Prop := ∃ v vs rv, e = .returned (.agg #[v, rv]) ∧ OwnU w' w.heap.size v vs r.1 ∧ OwnB w' w.heap.size rv r.2 ∧ (∀ y ∈ slicesU vs, apartV y rv) ∧ Below w.heap.size w w'
structure CLoop (w wr : World) (v : Value) (vs : List U4) (us : List UnitM) : Prop where
  b0 : BlkN wr w.heap.size (.slice none 0 0) (.slice none 0 0)
  b1 : BlkN wr (w.heap.size + 1) v (.slice none 0 0)
  ow : OwnU wr (w.heap.size + 2) v vs us
  bel : Below w.heap.size w wr
  sz : w.heap.size + 2 ≤ wr.heap.size
theorem CLoop.below {w wr W : World} {v : Value} {vs : List U4} {us : List UnitM} (h : CLoop w wr v vs us) (hb : Below wr.heap.size wr W) : CLoop w W v vs us :=
  ⟨h.b0.below hb h.b0.lt, h.b1.below hb h.b1.lt, h.ow.below hb (Nat.le_refl _), h.bel.trans (hb.mono h.bel.size), Nat.le_trans h.sz hb.size⟩
theorem CLoop.push {w W W' : World} {v v' : Value} {vs vs' : List U4} {us us' : List UnitM} (h : CLoop w W v vs us) (ho : OwnU W' (w.heap.size + 2) v' vs' us') (hg : W.grownBy W' v.ownBlock) : CLoop w (W'.setCell ⟨w.heap.size + 1, 0, none⟩ v') v' vs' us' := by
  have hlo : ∀ b, v.ownBlock = some b → w.heap.size + 2 ≤ b := fun b hb => (World.ownsRow.lt h.ow.row b hb).1
  have ne : ∀ b, b < w.heap.size + 2 → some b ≠ v.ownBlock := fun b hb e => by have := hlo b e.symm; omega
  have k0 : BlkN W' w.heap.size (.slice none 0 0) (.slice none 0 0) := (hg.block _ h.b0.lt (ne _ (by omega))).trans h.b0
  have k1 : BlkN W' (w.heap.size + 1) v (.slice none 0 0) := (hg.block _ h.b1.lt (ne _ (by omega))).trans h.b1
  refine ⟨k0.other (by omega) _, k1.set 0 v', ho.other (by omega) _, (h.bel.grown hg (by have := h.bel.size; omega) (fun k e => by have := hlo k e; omega)).setCell (p := ⟨w.heap.size + 1, 0, none⟩) (by simp) _, by have := hg.size; have := h.sz; simp; omega⟩
theorem CLoop.blk1 {w W W' : World} {v : Value} {vs : List U4} {us : List UnitM} (h : CLoop w W v vs us) (hg : W.grownBy W' v.ownBlock) : BlkN W' (w.heap.size + 1) v (.slice none 0 0) :=
  (hg.block _ h.b1.lt (fun e => by have := (World.ownsRow.lt h.ow.row _ e.symm).1; omega)).trans h.b1
theorem cut_stop {lits : Bool} {f : Nat} {r : List Nat} (h : oneOf lits r = none) : cutOf lits f r = ([], r) := by
  cases f with
  | zero => rfl
  | succ f => rw [cutOf, h]
theorem cut_go {lits : Bool} {f : Nat} {r : List Nat} {u : UnitM} {k : Nat} (h : oneOf lits r = some (u, k)) : cutOf lits (f + 1) r = (u :: (cutOf lits f (r.drop k)).1, (cutOf lits f (r.drop k)).2) := by
  rw [cutOf, h]
/-- How far the cutting has come: us are cut off, r is left. -/
def CutTo (lits : Bool) (d : List Nat) (us : List UnitM) (r : List Nat) : Prop := ∃ f, r.length ≤ f ∧ (cutOf lits d.length d) = (us ++ (cutOf lits f r).1, (cutOf lits f r).2)
theorem cutTo_start (lits : Bool) (d : List Nat) : CutTo lits d [] d := ⟨d.length, Nat.le_refl _, by simp⟩
theorem CutTo.step {lits : Bool} {d r : List Nat} {us : List UnitM} {u : UnitM} {k : Nat} (h : CutTo lits d us r) (ho : oneOf lits r = some (u, k)) : CutTo lits d (us ++ [u]) (r.drop k) := by
  obtain ⟨f, hf, e⟩ := h
  obtain ⟨h1, h2⟩ := oneOf_size ho
  cases f with
  | zero => omega
  | succ f =>
    refine ⟨f, by rw [List.length_drop]; omega, ?_⟩
    rw [e, cut_go ho]
    simp
theorem CutTo.stop {lits : Bool} {d r : List Nat} {us : List UnitM} (h : CutTo lits d us r) (ho : oneOf lits r = none) : cutOf lits d.length d = (us, r) := by
  obtain ⟨f, hf, e⟩ := h
  rw [e, cut_stop ho]
  simp
set_option maxRecDepth 20000 in
set_option maxHeartbeats 2000000 in
theorem specCut_any (lits : Bool) (b off cap : Nat) (d : List Nat) (w : World) (hd : d.length ≤ 1048576) (hcap : d.length ≤ cap) (hT : Tx w b off d) (hbw : b < w.heap.size) :
    Calls Tryd.prog 6 #[.bool lits, .slice (some ⟨b, off, none⟩) d.length cap] w (CutsPost (cutOf lits d.length d) w) := by
  have hz : ((w.alloc (.cells #[.slice none 0 0, .slice none 0 0] 25)).alloc (.cells #[.slice none 0 0, .slice none 0 0] 25)).heap.size = w.heap.size + 2 := by simp
  have hb2 : Below w.heap.size w ((w.alloc (.cells #[.slice none 0 0, .slice none 0 0] 25)).alloc (.cells #[.slice none 0 0, .slice none 0 0] 25)) := ((Below.refl _ _).alloc (Nat.le_refl _) _).alloc (by simp) _
  have hC0 : CLoop w ((w.alloc (.cells #[.slice none 0 0, .slice none 0 0] 25)).alloc (.cells #[.slice none 0 0, .slice none 0 0] 25)) (.slice none 0 0) [] [] :=
    ⟨(blk_new w _ _).below (B := w.heap.size + 1) ((Below.refl _ _).alloc (by simp) _) (by omega), heap_alloc2_new w _ _, OwnU.nil _ _, hb2, by omega⟩
  have HC0 := hide hC0
  have HT := hide hT
  clear hC0 hb2 hz hT
  go_enter Tryd.func6, Tryd.ntmps6
  go_wp2
  generalize (w.alloc (.cells #[.slice none 0 0, .slice none 0 0] 25)).alloc (.cells #[.slice none 0 0, .slice none 0 0] 25) = W0 at HC0 ⊢
  go_loopw [6, 7, 8] (fun rv _ _ wr => ∃ (o c : Nat) (r : List Nat) (v : Value) (vs : List U4) (us : List UnitM), rv = .slice (some ⟨b, o, none⟩) r.length c ∧ r.length ≤ c ∧ us.length + r.length ≤ d.length ∧ (∀ i (h : i < r.length), w.cell? ⟨b, o + i, none⟩ = some (.int .u8 (r[i] : Int))) ∧ CutTo lits d us r ∧ CLoop w wr v vs us) (fun rv _ _ _ => match rv with | .slice _ n _ => n | _ => 0)
  case atStart => exact ⟨off, cap, d, _, [], [], rfl, hcap, by simp, HT.out, cutTo_start lits d, HC0.out⟩
  case round =>
    obtain ⟨o, c, r, v, vs, us, rfl, hrc, hul, hTr, hct, hC⟩ := hrel
    have hTx : Tx w b o r := hTr
    have HL := hide (l6One_any lits b o c r wr (by omega) hrc (fun i hi => by rw [hC.bel.cell (p := ⟨b, o + i, none⟩) hbw]; exact hTx i hi))
    have HTX := hide hTx
    have HCT := hide hct
    have HC := hide hC
    clear hTr hTx hct hC HC0
    go_wp2_with fail
    refine HL.out.mono ?_
    rintro e w2 ⟨cs, rfl, hU, hb2⟩
    have hC2 := HC.out.below hb2
    cases hone : oneOf lits r with
    | none =>
      rw [hone] at hU
      have hcs : cs = unZ := hU
      subst hcs
      have HR := hide (HCT.out.stop hone)
      have hal := (Below.refl w2.heap.size w2).alloc (Nat.le_refl _) (.cells unZ 44)
      have hC3 := hC2.below hal
      have HC3 := hide hC3
      have HB := hide (fun W (h : Below w.heap.size w W) => l1Bytes_any (some ⟨b, o, none⟩) c r W (by omega) (fun _ => ⟨b, o, rfl, fun i hi => by rw [h.cell (p := ⟨b, o + i, none⟩) hbw]; exact HTX.out i hi⟩))
      clear hal hC3 hC2 hU hb2 hone HL HCT HC
      unfold unZ at HC3 ⊢
      simp only []
      go_wp2_with fail
      generalize w2.alloc (.cells #[.slice none 0 0, .slice none 0 0, .bool false, .bool false] 44) = w3 at HC3 ⊢
      refine (HB.out w3 HC3.out.bel).mono ?_
      rintro e w4 ⟨rfl, ho4, hb4⟩
      have hC4 := HC3.out.below hb4
      have z3 := HC3.out.sz
      have HAP := hide (show ∀ y ∈ slicesU vs, apartV y (.slice (some ⟨w3.heap.size, 0, none⟩) r.length r.length) from fun y hy => by
        cases hyb : y.ownBlock with
        | none => exact .inl hyb
        | some g => exact .inr (fun e => by have h1 := HC3.out.ow.lt y hy g hyb; rw [hyb] at e; simp only [Value.ownBlock, Option.some.injEq] at e; omega))
      obtain ⟨va, vc, hve⟩ := hC4.ow.slice
      have HO4 := hide ho4
      have k1 : BlkN (w4.setCell ⟨w.heap.size + 1, 1, none⟩ (.slice (some ⟨w3.heap.size, 0, none⟩) r.length r.length)) (w.heap.size + 1) v (.slice (some ⟨w3.heap.size, 0, none⟩) r.length r.length) := hC4.b1.set 1 _
      have k0 : BlkN (w4.setCell ⟨w.heap.size + 1, 1, none⟩ (.slice (some ⟨w3.heap.size, 0, none⟩) r.length r.length)) w.heap.size (.slice none 0 0) (.slice none 0 0) := hC4.b0.other (by omega) _
      have HBEL := hide hC4.bel
      have HOW := hide hC4.ow
      have a10 : w4.cell? ⟨w.heap.size + 1, 0, none⟩ = some v := hC4.b1.cell 0
      have a11 : w4.cell? ⟨w.heap.size + 1, 1, none⟩ = some (.slice none 0 0) := hC4.b1.cell 1
      have a00 : w4.cell? ⟨w.heap.size, 0, none⟩ = some (.slice none 0 0) := hC4.b0.cell 0
      have a01 : w4.cell? ⟨w.heap.size, 1, none⟩ = some (.slice none 0 0) := hC4.b0.cell 1
      have f1 := fun j => hC4.b1.fz j
      have f0 := fun j => hC4.b0.fz j
      have K0 := hide k0
      have Z3 := hide z3
      clear k0 k1 hC4 hb4 ho4 z3 HC3 HB
      subst hve
      go_wp2
      refine bodyPost_ret (ret_units w.heap.size _ _ _ rfl rfl ((K0.out.set 0 _).set 1 _)) rfl ?_
      rw [HR.out]
      have z3 := Z3.out
      exact ⟨_, vs, _, rfl, (((HOW.out.other (show w.heap.size + 1 < w.heap.size + 2 by omega) _).other (show w.heap.size < w.heap.size + 2 by omega) _).other (show w.heap.size < w.heap.size + 2 by omega) _).mono (by omega), (ownB_low (ownB_low (ownB_low HO4.out (p := ⟨w.heap.size + 1, 1, none⟩) (by simp; omega) _) (p := ⟨w.heap.size, 0, none⟩) (by simp; omega) _) (p := ⟨w.heap.size, 1, none⟩) (by simp; omega) _).mono (by omega), HAP.out, ((HBEL.out.setCell (p := ⟨w.heap.size + 1, 1, none⟩) (by simp) _).setCell (p := ⟨w.heap.size, 0, none⟩) (by simp) _).setCell (p := ⟨w.heap.size, 1, none⟩) (by simp) _⟩
    | some q =>
      obtain ⟨u, k⟩ := q
      rw [hone] at hU
      obtain ⟨lv, bv, hcs, o1, o2, hap⟩ := hU
      subst hcs
      obtain ⟨hk1, hk2⟩ := oneOf_size hone
      have HCT2 := hide (HCT.out.step hone)
      have hsz2 := hb2.size
      obtain ⟨la, lc, hlv⟩ := o1.slice
      obtain ⟨ba, bc, hbv⟩ := o2.slice
      subst hlv hbv
      have hal := ((Below.refl w2.heap.size w2).alloc (Nat.le_refl _) (.cells #[.slice la u.1.length lc, .slice ba u.2.1.length bc, .bool u.2.2.1, .bool u.2.2.2] 44)).alloc (by simp) (.cells #[.slice la u.1.length lc, .slice ba u.2.1.length bc, .bool u.2.2.1, .bool u.2.2.2] 44)
      have hC4 := hC2.below hal
      have HO1 := hide ((o1.mono (Nat.le_succ _)).below hal (Nat.le_refl _))
      have HO2 := hide ((o2.mono (Nat.le_succ _)).below hal (Nat.le_refl _))
      have HAP := hide hap
      have hU4 : BlkU ((w2.alloc (.cells #[.slice la u.1.length lc, .slice ba u.2.1.length bc, .bool u.2.2.1, .bool u.2.2.2] 44)).alloc (.cells #[.slice la u.1.length lc, .slice ba u.2.1.length bc, .bool u.2.2.1, .bool u.2.2.2] 44)) (w2.heap.size + 1) #[.slice la u.1.length lc, .slice ba u.2.1.length bc, .bool u.2.2.1, .bool u.2.2.2] := heap_alloc2_new w2 _ _
      have HU4 := hide hU4
      have hkb : ((k : Int) == 0) = false := by simp; omega
      have q1 : w2.cell? ⟨w.heap.size + 1, 0, none⟩ = some v := hC2.b1.cell 0
      have hlt2 : w.heap.size + 1 < w2.heap.size := hC2.b1.lt
      have q3 : (w2.alloc (.cells #[.slice la u.1.length lc, .slice ba u.2.1.length bc, .bool u.2.2.1, .bool u.2.2.2] 44)).cell? ⟨w.heap.size + 1, 0, none⟩ = some v := by
        have hh : Below w2.heap.size w2 (w2.alloc (.cells #[.slice la u.1.length lc, .slice ba u.2.1.length bc, .bool u.2.2.1, .bool u.2.2.2] 44)) := (Below.refl w2.heap.size w2).alloc (Nat.le_refl _) _
        rw [hh.cell (p := ⟨w.heap.size + 1, 0, none⟩) hlt2]; exact q1
      obtain ⟨va, vc, hve⟩ := hC2.ow.slice
      have HC4 := hide hC4
      have HSZ := hide (show wr.heap.size ≤ ((w2.alloc (.cells #[.slice la u.1.length lc, .slice ba u.2.1.length bc, .bool u.2.2.1, .bool u.2.2.2] 44)).alloc (.cells #[.slice la u.1.length lc, .slice ba u.2.1.length bc, .bool u.2.2.1, .bool u.2.2.2] 44)).heap.size from by simp; omega)
      have hul2 : us.length ≤ 1048576 := by omega
      have hkr : (k : Int) ≤ (c : Int) := by omega
      clear hal hC4 hC2 o1 o2 hap hb2 hsz2 hone HL HCT hU4
      simp only []
      subst hve
      go_wp2_with (first
        | (at_builtin; refine wpList_append_unit wr _ rfl (.tmp 23) (.tmp 25) rfl (w.heap.size + 2) _ (.slice la u.1.length lc) (.slice ba u.2.1.length bc) vs us u (w2.heap.size + 1) 1 rfl rfl HC.out.ow HC4.out.ow HO1.out HO2.out HC.out.sz HSZ.out HAP.out (HU4.out.cell 0) (HU4.out.cell 1) (HU4.out.cell 2) (HU4.out.cell 3) hul2 ?_; intro v7 w7 ho7 hg7; obtain ⟨a7, c7, rfl⟩ := ho7.slice; have HP7 := hide (HC4.out.push ho7 hg7); have q7 := (HC4.out.blk1 hg7).cell 0; have f7 := (HC4.out.blk1 hg7).fz 0; clear ho7 hg7)
        | go_in)
      have h8 : CLoop w (w7.setCell ⟨w.heap.size + 1, 0, none⟩ (.slice a7 (us.length + 1) c7)) (.slice a7 (us.length + 1) c7) (vs ++ [(.slice la u.1.length lc, .slice ba u.2.1.length bc, u.2.2)]) (us ++ [u]) := by
        have h := HP7.out
        rw [List.length_append, List.length_singleton] at h
        exact h
      have hlen : (r.drop k).length = r.length - k := List.length_drop
      refine ⟨⟨if c = k then o else o + k, c - k, r.drop k, _, _, us ++ [u], ?_, by omega, by rw [List.length_append, List.length_singleton, hlen]; omega, ?_, HCT2.out, h8⟩, by simp only []; omega⟩
      · rw [hlen]; split <;> rfl
      · intro i h
        rw [hlen] at h
        rw [if_neg (by omega), Nat.add_assoc, HTX.out (k + i) (by omega)]
        simp
end Go.Proofs.YtledlicandlekaaDoor
namespace Go.Proofs.YtledlicandlekaaDoor
open Go.RowKit
theorem OwnU.keep {lo : Nat} {w w' : World} {v : Value} {vs : List U4} {us : List UnitM} (h : OwnU w lo v vs us) (hk : ∀ g, lo ≤ g → g < w.heap.size → w'.heap[g]? = w.heap[g]?) : OwnU w' lo v vs us := by
  refine ⟨h.len, ownsK h.row hk, fun i hi => ?_, h.apart⟩
  obtain ⟨x, hx, p1, p2, e⟩ := h.body i hi
  exact ⟨x, hx, ownsK p1 hk, ownsK p2 hk, e⟩
structure ILoop (w wr : World) (x : Value) (lits : Bool) (v : Value) (vs : List U4) (us : List UnitM) : Prop where
  b0 : BlkN wr w.heap.size (.slice none 0 0) (.slice none 0 0)
  bc : BlkC wr (w.heap.size + 1) x lits
  b1 : BlkN wr (w.heap.size + 2) v (.slice none 0 0)
  ow : OwnU wr (w.heap.size + 3) v vs us
  bel : Below w.heap.size w wr
  sz : w.heap.size + 3 ≤ wr.heap.size
theorem ILoop.below {w wr W : World} {x v : Value} {lits : Bool} {vs : List U4} {us : List UnitM} (h : ILoop w wr x lits v vs us) (hb : Below wr.heap.size wr W) : ILoop w W x lits v vs us :=
  ⟨h.b0.below hb h.b0.lt, h.bc.below hb h.bc.lt, h.b1.below hb h.b1.lt, h.ow.below hb (Nat.le_refl _), h.bel.trans (hb.mono h.bel.size), Nat.le_trans h.sz hb.size⟩
theorem ILoop.two {w wr W : World} {x x' v : Value} {lits : Bool} {vs : List U4} {us : List UnitM} (h : ILoop w wr x lits v vs us) (ht : Two (w.heap.size + 1) (w.heap.size + 1) wr W) (hc : BlkC W (w.heap.size + 1) x' lits) : ILoop w W x' lits v vs us :=
  ⟨h.b0.two ht (by omega) (by omega), hc, h.b1.two ht (by omega) (by omega), h.ow.keep (fun g h1 h2 => ht.block g h2 (by omega) (by omega)), h.bel.trans (ht.below (by omega) (by omega) h.bel.size), Nat.le_trans h.sz ht.size⟩
theorem ILoop.push {w W W' : World} {x v v' : Value} {lits : Bool} {vs vs' : List U4} {us us' : List UnitM} (h : ILoop w W x lits v vs us) (ho : OwnU W' (w.heap.size + 3) v' vs' us') (hg : W.grownBy W' v.ownBlock) : ILoop w (W'.setCell ⟨w.heap.size + 2, 0, none⟩ v') x lits v' vs' us' := by
  have hlo : ∀ b, v.ownBlock = some b → w.heap.size + 3 ≤ b := fun b hb => (World.ownsRow.lt h.ow.row b hb).1
  have ne : ∀ b, b < w.heap.size + 3 → some b ≠ v.ownBlock := fun b hb e => by have := hlo b e.symm; omega
  have k0 : BlkN W' w.heap.size (.slice none 0 0) (.slice none 0 0) := (hg.block _ h.b0.lt (ne _ (by omega))).trans h.b0
  have kc : BlkC W' (w.heap.size + 1) x lits := (hg.block _ h.bc.lt (ne _ (by omega))).trans h.bc
  have k1 : BlkN W' (w.heap.size + 2) v (.slice none 0 0) := (hg.block _ h.b1.lt (ne _ (by omega))).trans h.b1
  refine ⟨k0.other (by omega) _, kc.other (by omega) _, k1.set 0 v', ho.other (by omega) _, (h.bel.grown hg (by have := h.bel.size; omega) (fun k e => by have := hlo k e; omega)).setCell (p := ⟨w.heap.size + 2, 0, none⟩) (by simp) _, by have := hg.size; have := h.sz; simp; omega⟩
theorem ILoop.blk1 {w W W' : World} {x v : Value} {lits : Bool} {vs : List U4} {us : List UnitM} (h : ILoop w W x lits v vs us) (hg : W.grownBy W' v.ownBlock) : BlkN W' (w.heap.size + 2) v (.slice none 0 0) :=
  (hg.block _ h.b1.lt (fun e => by have := (World.ownsRow.lt h.ow.row _ e.symm).1; omega)).trans h.b1
set_option maxRecDepth 20000 in
set_option maxHeartbeats 2000000 in
theorem implCut_any (lits : Bool) (b off cap : Nat) (d : List Nat) (w : World) (hE : Env w) (h256 : ∀ x ∈ d, x < 256) (hd : d.length ≤ 1048576) (hcap : d.length ≤ cap) (hT : Tx w b off d) (hbw : b < w.heap.size) :
    Calls Tryd.prog 8 #[.bool lits, .slice (some ⟨b, off, none⟩) d.length cap] w (CutsPost (cutOf lits d.length d) w) := by
  have hI0 : ILoop w (((w.alloc (.cells #[.slice none 0 0, .slice none 0 0] 25)).alloc (.cells #[.slice (some ⟨b, off, none⟩) d.length cap, .bool lits] 48)).alloc (.cells #[.slice none 0 0, .slice none 0 0] 25)) (.slice (some ⟨b, off, none⟩) d.length cap) lits (.slice none 0 0) [] [] := by
    have z1 : (w.alloc (.cells #[.slice none 0 0, .slice none 0 0] 25)).heap.size = w.heap.size + 1 := by simp
    have z2 : ((w.alloc (.cells #[.slice none 0 0, .slice none 0 0] 25)).alloc (.cells #[.slice (some ⟨b, off, none⟩) d.length cap, .bool lits] 48)).heap.size = w.heap.size + 2 := by simp
    have k1 : Below (w.heap.size + 1) (w.alloc (.cells #[.slice none 0 0, .slice none 0 0] 25)) ((w.alloc (.cells #[.slice none 0 0, .slice none 0 0] 25)).alloc (.cells #[.slice (some ⟨b, off, none⟩) d.length cap, .bool lits] 48)) := (Below.refl _ _).alloc (by omega) _
    have k2 : Below (w.heap.size + 2) ((w.alloc (.cells #[.slice none 0 0, .slice none 0 0] 25)).alloc (.cells #[.slice (some ⟨b, off, none⟩) d.length cap, .bool lits] 48)) (((w.alloc (.cells #[.slice none 0 0, .slice none 0 0] 25)).alloc (.cells #[.slice (some ⟨b, off, none⟩) d.length cap, .bool lits] 48)).alloc (.cells #[.slice none 0 0, .slice none 0 0] 25)) := (Below.refl _ _).alloc (by omega) _
    have n1 : BlkC ((w.alloc (.cells #[.slice none 0 0, .slice none 0 0] 25)).alloc (.cells #[.slice (some ⟨b, off, none⟩) d.length cap, .bool lits] 48)) (w.heap.size + 1) (.slice (some ⟨b, off, none⟩) d.length cap) lits := by have h := blk_new (w.alloc (.cells #[.slice none 0 0, .slice none 0 0] 25)) #[.slice (some ⟨b, off, none⟩) d.length cap, .bool lits] 48; rwa [z1] at h
    have n2 : BlkN (((w.alloc (.cells #[.slice none 0 0, .slice none 0 0] 25)).alloc (.cells #[.slice (some ⟨b, off, none⟩) d.length cap, .bool lits] 48)).alloc (.cells #[.slice none 0 0, .slice none 0 0] 25)) (w.heap.size + 2) (.slice none 0 0) (.slice none 0 0) := by have h := blk_new ((w.alloc (.cells #[.slice none 0 0, .slice none 0 0] 25)).alloc (.cells #[.slice (some ⟨b, off, none⟩) d.length cap, .bool lits] 48)) #[.slice none 0 0, .slice none 0 0] 25; rwa [z2] at h
    exact ⟨((blk_new w _ _).below k1 (by omega)).below k2 (by omega), n1.below k2 (by omega), n2, OwnU.nil _ _, (((Below.refl w.heap.size w).alloc (Nat.le_refl _) _).alloc (by omega) _).alloc (by omega) _, by simp⟩
  have HI0 := hide hI0
  have HT := hide hT
  have HE := hide hE
  have H256 := hide h256
  clear hI0 hT hE h256
  go_enter Tryd.func8, Tryd.ntmps8
  go_wp2
  generalize ((w.alloc (.cells #[.slice none 0 0, .slice none 0 0] 25)).alloc (.cells #[.slice (some ⟨b, off, none⟩) d.length cap, .bool lits] 48)).alloc (.cells #[.slice none 0 0, .slice none 0 0] 25) = W0 at HI0 ⊢
  rw [show w.heap.size + 1 + 1 = w.heap.size + 2 from rfl]
  go_loopw [7, 8] (fun _ _ wr => ∃ (o c : Nat) (r : List Nat) (v : Value) (vs : List U4) (us : List UnitM), r.length ≤ c ∧ us.length + r.length ≤ d.length ∧ (∀ x ∈ r, x < 256) ∧ Tx w b o r ∧ CutTo lits d us r ∧ ILoop w wr (.slice (some ⟨b, o, none⟩) r.length c) lits v vs us) (fun _ _ wr => match wr.cell? ⟨w.heap.size + 1, 0, none⟩ with | some (.slice _ n _) => n | _ => 0)
  case atStart => exact ⟨off, cap, d, _, [], [], hcap, by simp, H256.out, HT.out, cutTo_start lits d, HI0.out⟩
  case round =>
    obtain ⟨o, c, r, v, vs, us, hrc, hul, hr2, hTr, hct, hI⟩ := hrel
    have HL := hide (nextUnit_any (w.heap.size + 1) b o c lits r wr (HE.out.below hI.bel) hr2 (by omega) hrc (fun i hi => by rw [hI.bel.cell (p := ⟨b, o + i, none⟩) hbw]; exact hTr i hi) hI.bc (by omega))
    have hme : (match wr.cell? ⟨w.heap.size + 1, 0, none⟩ with | some (.slice _ n _) => n | _ => 0) = r.length := by rw [hI.bc.cell 0]; rfl
    have HME := hide hme
    have HTX := hide hTr
    have HR2 := hide hr2
    have HCT := hide hct
    have HI := hide hI
    clear hTr hct hI HI0 hr2 hme
    go_wp2_with fail
    refine HL.out.mono ?_
    rintro e w2 ⟨ht2, hpost⟩
    cases hone : oneOf lits r with
    | none =>
      rw [hone] at hpost
      obtain ⟨rfl, hbc⟩ := hpost
      have hI2 := HI.out.two ht2 hbc
      have HR := hide (HCT.out.stop hone)
      have hal := (Below.refl w2.heap.size w2).alloc (Nat.le_refl _) (.cells unZ 44)
      have hI3 := hI2.below hal
      have q2 : w2.cell? ⟨w.heap.size + 1, 0, none⟩ = some (.slice (some ⟨b, o, none⟩) r.length c) := hI2.bc.cell 0
      have q3 : (w2.alloc (.cells unZ 44)).cell? ⟨w.heap.size + 1, 0, none⟩ = some (.slice (some ⟨b, o, none⟩) r.length c) := hI3.bc.cell 0
      have HI3 := hide hI3
      have HB := hide (fun W (h : Below w.heap.size w W) => clone_own (some ⟨b, o, none⟩) c r W (by omega) (fun _ => ⟨b, o, rfl, fun i hi => by rw [h.cell (p := ⟨b, o + i, none⟩) hbw]; exact HTX.out i hi⟩))
      clear hal hI3 hI2 ht2 hbc hone HL HCT HI HME
      unfold unZ at HI3 q3 ⊢
      simp only []
      go_wp2_with fail
      generalize w2.alloc (.cells #[.slice none 0 0, .slice none 0 0, .bool false, .bool false] 44) = w3 at HI3 q3 ⊢
      refine (HB.out w3 HI3.out.bel).mono ?_
      rintro e w4 ⟨rv, rfl, ho4, hb4⟩
      have hI4 := HI3.out.below hb4
      have z3 := HI3.out.sz
      obtain ⟨ra, rc, hre⟩ := ho4.slice
      have HAP := hide (show ∀ y ∈ slicesU vs, apartV y rv from fun y hy => by
        cases hyb : y.ownBlock with
        | none => exact .inl hyb
        | some g => exact .inr (fun e => by have h1 := HI3.out.ow.lt y hy g hyb; rw [hyb] at e; have h2 := (World.ownsRow.lt ho4 g e.symm).1; omega))
      obtain ⟨va, vc, hve⟩ := hI4.ow.slice
      have HO4 := hide ho4
      have K0 := hide hI4.b0
      have K1 := hide hI4.b1
      have HBEL := hide hI4.bel
      have HOW := hide hI4.ow
      have a10 : w4.cell? ⟨w.heap.size + 2, 0, none⟩ = some v := hI4.b1.cell 0
      have a11 : w4.cell? ⟨w.heap.size + 2, 1, none⟩ = some (.slice none 0 0) := hI4.b1.cell 1
      have a00 : w4.cell? ⟨w.heap.size, 0, none⟩ = some (.slice none 0 0) := hI4.b0.cell 0
      have a01 : w4.cell? ⟨w.heap.size, 1, none⟩ = some (.slice none 0 0) := hI4.b0.cell 1
      have f1 := fun j => hI4.b1.fz j
      have f0 := fun j => hI4.b0.fz j
      have Z3 := hide z3
      clear hI4 hb4 ho4 z3 HI3 HB q2 q3
      subst hve hre
      go_wp2
      refine bodyPost_ret (ret_units w.heap.size _ _ _ rfl rfl (((K0.out.other (g' := w.heap.size + 2) (j := 1) (by omega) _).set 0 _).set 1 _)) rfl ?_
      rw [HR.out]
      have z3 := Z3.out
      exact ⟨_, vs, _, rfl, (((HOW.out.other (show w.heap.size + 2 < w.heap.size + 3 by omega) _).other (show w.heap.size < w.heap.size + 3 by omega) _).other (show w.heap.size < w.heap.size + 3 by omega) _).mono (by omega), (ownB_low (ownB_low (ownB_low HO4.out (p := ⟨w.heap.size + 2, 1, none⟩) (by simp; omega) _) (p := ⟨w.heap.size, 0, none⟩) (by simp; omega) _) (p := ⟨w.heap.size, 1, none⟩) (by simp; omega) _).mono (by omega), HAP.out, ((HBEL.out.setCell (p := ⟨w.heap.size + 2, 1, none⟩) (by simp) _).setCell (p := ⟨w.heap.size, 0, none⟩) (by simp) _).setCell (p := ⟨w.heap.size, 1, none⟩) (by simp) _⟩
    | some q =>
      obtain ⟨u, k⟩ := q
      rw [hone] at hpost
      obtain ⟨lv, bv, o', rfl, o1, o2, hap, hbc, hoo⟩ := hpost
      obtain ⟨hk1, hk2⟩ := oneOf_size hone
      have HCT2 := hide (HCT.out.step hone)
      have hI2 := HI.out.two ht2 hbc
      have hsz2 := ht2.size
      obtain ⟨la, lc, hlv⟩ := o1.slice
      obtain ⟨ba, bc, hbv⟩ := o2.slice
      subst hlv hbv
      have hal := ((Below.refl w2.heap.size w2).alloc (Nat.le_refl _) (.cells #[.slice la u.1.length lc, .slice ba u.2.1.length bc, .bool u.2.2.1, .bool u.2.2.2] 44)).alloc (by simp) (.cells #[.slice la u.1.length lc, .slice ba u.2.1.length bc, .bool u.2.2.1, .bool u.2.2.2] 44)
      have hI4 := hI2.below hal
      have HO1 := hide ((o1.mono (Nat.le_succ _)).below hal (Nat.le_refl _))
      have HO2 := hide ((o2.mono (Nat.le_succ _)).below hal (Nat.le_refl _))
      have HAP := hide hap
      have hU4 : BlkU ((w2.alloc (.cells #[.slice la u.1.length lc, .slice ba u.2.1.length bc, .bool u.2.2.1, .bool u.2.2.2] 44)).alloc (.cells #[.slice la u.1.length lc, .slice ba u.2.1.length bc, .bool u.2.2.1, .bool u.2.2.2] 44)) (w2.heap.size + 1) #[.slice la u.1.length lc, .slice ba u.2.1.length bc, .bool u.2.2.1, .bool u.2.2.2] := heap_alloc2_new w2 _ _
      have HU4 := hide hU4
      have q1 : w2.cell? ⟨w.heap.size + 2, 0, none⟩ = some v := hI2.b1.cell 0
      have hlt2 : w.heap.size + 2 < w2.heap.size := hI2.b1.lt
      have q3 : (w2.alloc (.cells #[.slice la u.1.length lc, .slice ba u.2.1.length bc, .bool u.2.2.1, .bool u.2.2.2] 44)).cell? ⟨w.heap.size + 2, 0, none⟩ = some v := by
        have hh : Below w2.heap.size w2 (w2.alloc (.cells #[.slice la u.1.length lc, .slice ba u.2.1.length bc, .bool u.2.2.1, .bool u.2.2.2] 44)) := (Below.refl w2.heap.size w2).alloc (Nat.le_refl _) _
        rw [hh.cell (p := ⟨w.heap.size + 2, 0, none⟩) hlt2]; exact q1
      obtain ⟨va, vc, hve⟩ := hI2.ow.slice
      have HI4 := hide hI4
      have HSZ := hide (show wr.heap.size ≤ ((w2.alloc (.cells #[.slice la u.1.length lc, .slice ba u.2.1.length bc, .bool u.2.2.1, .bool u.2.2.2] 44)).alloc (.cells #[.slice la u.1.length lc, .slice ba u.2.1.length bc, .bool u.2.2.1, .bool u.2.2.2] 44)).heap.size from by simp; omega)
      have hul2 : us.length ≤ 1048576 := by omega
      have HOO := hide hoo
      clear hal hI4 hI2 o1 o2 hap ht2 hsz2 hone HL HCT hU4 hbc hoo
      simp only []
      subst hve
      go_wp2_with (first
        | (at_builtin; refine wpList_append_unit wr _ rfl (.tmp 24) (.tmp 26) rfl (w.heap.size + 3) _ (.slice la u.1.length lc) (.slice ba u.2.1.length bc) vs us u (w2.heap.size + 1) 1 rfl rfl HI.out.ow HI4.out.ow HO1.out HO2.out HI.out.sz HSZ.out HAP.out (HU4.out.cell 0) (HU4.out.cell 1) (HU4.out.cell 2) (HU4.out.cell 3) hul2 ?_; intro v7 w7 ho7 hg7; obtain ⟨a7, c7, rfl⟩ := ho7.slice; have HP7 := hide (HI4.out.push ho7 hg7); have q7 := (HI4.out.blk1 hg7).cell 0; have f7 := (HI4.out.blk1 hg7).fz 0; clear ho7 hg7)
        | go_in)
      have h8 : ILoop w (w7.setCell ⟨w.heap.size + 2, 0, none⟩ (.slice a7 (us.length + 1) c7)) (.slice (some ⟨b, o', none⟩) (r.length - k) (c - k)) lits (.slice a7 (us.length + 1) c7) (vs ++ [(.slice la u.1.length lc, .slice ba u.2.1.length bc, u.2.2)]) (us ++ [u]) := by
        have h := HP7.out
        rw [List.length_append, List.length_singleton] at h
        exact h
      have hlen : (r.drop k).length = r.length - k := List.length_drop
      refine ⟨⟨o', c - k, r.drop k, _, _, us ++ [u], by omega, by rw [List.length_append, List.length_singleton, hlen]; omega, fun x hx => HR2.out x (List.mem_of_mem_drop hx), ?_, HCT2.out, by rw [hlen]; exact h8⟩, ?_⟩
      · intro i h
        rw [hlen] at h
        rcases HOO.out with h1 | h1
        · omega
        · rw [h1, Nat.add_assoc, HTX.out (k + i) (by omega)]
          simp
      · rw [HME.out, h8.bc.cell 0]
        show r.length - k < r.length
        omega
end Go.Proofs.YtledlicandlekaaDoor
