import Derived.Test.YtledlicandlekaaDoorCutIm3
import Derived.Test.YtledlicandlekaaDoorCutSp4
import Derived.Lib.SlBytesConst
namespace Go.Proofs.YtledlicandlekaaDoor
open Go.RowKit
theorem lastIx_get {c : Nat} : ∀ {l : List Nat} {i : Nat}, lastIx c l = some i → l[i]? = some c
  | [], _, h => by simp [lastIx] at h
  | x :: r, i, h => by
    rw [lastIx] at h
    cases hr : lastIx c r with
    | some j => rw [hr] at h; simp at h; subst h; rw [List.getElem?_cons_succ]; exact lastIx_get hr
    | none =>
      rw [hr] at h
      by_cases e : x = c
      · simp [e] at h; subst h; simp [e]
      · simp [e] at h
theorem last_drop {l : List Nat} {i : Nat} (h : l[i]? = some 123) : ((l.drop (i + 1)).getLast? = some 125) ↔ l.getLast? = some 125 := by
  have hi : i < l.length := by
    rcases Nat.lt_or_ge i l.length with h' | h'
    · exact h'
    · rw [List.getElem?_eq_none h'] at h; cases h
  rw [List.getLast?_drop]
  split
  · next hle =>
    have e : i = l.length - 1 := by omega
    rw [List.getLast?_eq_getElem?, ← e, h]
    simp
  · exact Iff.rfl
theorem litOf_word {l : List Nat} {i : Nat} (h : lastIx 123 l = some i) (hl : (l.drop (i + 1)).getLast? = some 125) : litOf l = (litN (((l.drop (i + 1)).take ((l.drop (i + 1)).length - 1)).map UInt8.ofNat)).map fun n => (n, i) := by
  unfold litOf
  rw [if_pos ((last_drop (lastIx_get h)).1 hl), h]
  have e : wordOf l i = (l.drop (i + 1)).take ((l.drop (i + 1)).length - 1) := by
    unfold wordOf
    rw [List.length_drop, show l.length - 1 - (i + 1) = l.length - (i + 1) - 1 from by omega]
  rw [← e]
theorem litOf_open {l : List Nat} {i : Nat} (h : lastIx 123 l = some i) (hl : ¬ (l.drop (i + 1)).getLast? = some 125) : litOf l = none :=
  litOf_last fun e => hl ((last_drop (lastIx_get h)).2 e)
theorem litN_rd {x : List UInt8} {n : Nat} {ok : Bool} (h : RdIs x 0 999999999 n ok) : litN x = if ok then some n else none := by
  rcases h with ⟨rfl, e, _, h2⟩ | ⟨rfl, _, h2⟩
  · exact litN_yes e h2
  · exact litN_no fun m hm => h2 m (Nat.zero_le _) hm
theorem strB_sz (l : List Nat) : (strB l).size = l.length := by
  have := congrArg List.length (strB_list l)
  rw [ByteArray.toList_eq, List.length_map] at this
  simpa using this
theorem strB_data (l : List Nat) : (strB l).data.toList = l.map UInt8.ofNat := by rw [← strB_list, ByteArray.toList_eq]
set_option maxRecDepth 20000 in
set_option maxHeartbeats 1000000 in
theorem literalOf_any (b off cap : Nat) (d : List Nat) (w : World) (hE : Env w) (h256 : ∀ x ∈ d, x < 256) (hd : d.length ≤ 1048576) (hcap : d.length < cap) (hT : Tx w b off d) :
    Calls Tryd.prog 44 #[.slice (some ⟨b, off, none⟩) d.length cap] w fun e w' => e = .returned (litR (litOf d)) ∧ Below w.heap.size w w' := by
  have HL := hide (lastIndex_any 123 b off cap d w hd hT)
  have HT := hide hT
  have HE := hide hE
  have H256 := hide h256
  clear hT hE h256
  go_enter Tryd.func44, Tryd.ntmps44
  go_wp2_with fail
  refine HL.out.mono ?_
  rintro e w1 ⟨rfl, rfl⟩
  clear HL
  cases hix : lastIx 123 d with
  | none =>
    have hv : lastI 123 d = -1 := by unfold lastI; rw [hix]
    have HR := hide (litOf_none (lastIx_none.1 hix))
    rw [hv]
    clear hv hix
    go_wp2
    go_ret3
    exact ⟨by rw [HR.out]; rfl, Below.refl _ _⟩
  | some i =>
    have hv : lastI 123 d = (i : Int) := by unfold lastI; rw [hix]
    have hi := lastIx_lt hix
    rw [hv]
    have HIX := hide hix
    clear hv hix
    have hi0 : ¬ (i : Int) < 0 := by omega
    have hwr : IntKind.i64.wrap ((i : Int) + 1) = (i : Int) + 1 := by rw [IntKind.wrap_i64]; omega
    have hnat : ((i : Int) + 1).toNat = i + 1 := by omega
    have hb1 : (i : Int) + 1 ≤ (d.length : Int) := by omega
    have hb2 : ¬ cap = i + 1 := by omega
    have hb3 : (0 : Int) ≤ (i : Int) + 1 := by omega
    have HBA := hide ((Below.refl w1.heap.size w1).alloc (Nat.le_refl _) (.cells #[.int .u8 125] 5 (1, 2)))
    have HC := hide (show (w1.alloc (.cells #[.int .u8 125] 5 (1, 2))).cell? ⟨w1.heap.size, 0, none⟩ = some (.int .u8 125) from World.cell?_alloc_mark w1 #[.int .u8 125] 5 (1, 2) 0)
    have hkc : (convert 22 22 (.slice (some ⟨w1.heap.size, 0, none⟩) 1 1)).run Tryd.prog (w1.alloc (.cells #[.int .u8 125] 5)) = .ok (.slice (some ⟨w1.heap.size, 0, none⟩) 1 1) (w1.alloc (.cells #[.int .u8 125] 5 (1, 2))) := Lib.run_convert_bytes_const (P := Tryd.prog) w1 22 5 #[.int .u8 125] 1 1 Tryd.underlying22 Tryd.underlying5
    have HS := hide (fun W (hb : Below w1.heap.size w1 W) hc => bsuf_any b (off + (i + 1)) (cap - (i + 1)) (d.drop (i + 1)) w1.heap.size 1 W (fun x hx => H256.out x (List.mem_of_mem_drop hx)) (by rw [List.length_drop]; omega) (by rw [List.length_drop]; omega) ((HT.out.below hb).drop (i + 1)) hc)
    generalize hm : d.length = m at hd hcap hi hb1
    have HM := hide hm
    clear hm
    have hlen : (d.drop (i + 1)).length = m - (i + 1) := by rw [List.length_drop, HM.out]
    rw [hlen] at HS
    go_wp2_with fail
    generalize w1.alloc (.cells #[.int .u8 125] 5 (1, 2)) = w2 at HBA HC ⊢
    refine (HS.out w2 HBA.out HC.out).mono ?_
    rintro e w3 ⟨rfl, rfl⟩
    have hTd := (HT.out.below HBA.out).drop (i + 1)
    have hE3 := HE.out.below HBA.out
    clear hkc HC HS hwr hnat hb1 hb2 hb3
    by_cases hl : (d.drop (i + 1)).getLast? = some 125
    · have HLW := hide (litOf_word HIX.out hl)
      have hrow := (hTd.take (m - (i + 1) - 1)).row
      have hwl : ((d.drop (i + 1)).take (m - (i + 1) - 1)).length = m - (i + 1) - 1 := by rw [List.length_take, hlen]; omega
      have hcv := run_string_of w3 _ (cap - (i + 1)) _ hrow
      rw [hwl] at hcv
      have HD := hide (readDecimal_any (strB ((d.drop (i + 1)).take (m - (i + 1) - 1))) 0 999999999 w3 hE3 (by rw [strB_sz, hwl]; omega) (by decide))
      have HSW := hide (strB_data ((d.drop (i + 1)).take (m - (i + 1) - 1)))
      rw [if_pos hl, decide_eq_true hl]
      clear hl hrow hTd hE3 hwl
      generalize strB ((d.drop (i + 1)).take (m - (i + 1) - 1)) = sw at hcv HD HSW
      have HLEN := hide hlen
      clear hlen
      go_wp2_with fail
      refine HD.out.mono ?_
      rintro e w4 ⟨n, ok, rfl, hIs, hb4⟩
      have HB4 := hide (below_on HBA.out hb4)
      rw [HSW.out] at hIs
      have hN := litN_rd hIs
      have HR := hide (HLW.out.trans (by rw [HLEN.out, hN]))
      have hn9 : n ≤ 999999999 := by rcases hIs with ⟨_, _, _, h⟩ | ⟨_, h, _⟩ <;> omega
      have hwn : IntKind.i64.wrap (n : Int) = (n : Int) := by rw [IntKind.wrap_i64]; omega
      clear hIs hN hcv HD HSW hb4 HLW HBA
      cases ok
      · go_wp2
        go_ret3
        exact ⟨by rw [HR.out]; rfl, HB4.out⟩
      · go_wp2
        go_ret3
        exact ⟨by rw [HR.out]; rfl, HB4.out⟩
    · have HR := hide (litOf_open HIX.out hl)
      have hcv := run_string_of w3 _ (cap - (i + 1)) _ hTd.row
      rw [hlen] at hcv
      have HD := hide (readDecimal_any (strB (d.drop (i + 1))) 0 999999999 w3 hE3 (by rw [strB_sz, hlen]; omega) (by decide))
      rw [if_neg hl, decide_eq_false hl]
      clear hl hTd hE3
      generalize strB (d.drop (i + 1)) = sw at hcv HD
      clear hlen
      go_wp2_with fail
      refine HD.out.mono ?_
      rintro e w4 ⟨n, ok, rfl, -, hb4⟩
      have HB4 := hide (below_on HBA.out hb4)
      clear hcv HD hb4 HBA
      go_wp2
      go_ret3
      exact ⟨by rw [HR.out]; rfl, HB4.out⟩
end Go.Proofs.YtledlicandlekaaDoor
