import Derived.Test.YtokcdpamcbpaiabDoorCaseW
import Derived.Test.YtokcdpamcbpaiabDoorCutSp
import Derived.Test.YtokcdpamcbpaiabDoorStrRow
import Derived.Test.YtokcdpamcbpaiabDoorSpecNm
namespace Go.Proofs.YtokcdpamcbpaiabDoor
open Go.RowKit
def szS : Value → Nat
  | .string t => t.size
  | _ => 0
theorem cut_split {t a c : List UInt8} {b : UInt8} {ok : Bool} (h : CutIs t b a c ok) : (ok = true → splitOf b t = a :: splitOf b c ∧ c.length + 1 ≤ t.length) ∧ (ok = false → splitOf b t = [a]) := by
  rcases h with ⟨h1, h2, h3⟩ | ⟨h1, h2, h3, h4⟩
  · refine ⟨fun _ => ⟨?_, ?_⟩, (fun h => by rw [h1] at h; cases h)⟩
    · rw [h2, splitOf_at h3]
    · rw [h2]; simp
  · refine ⟨(fun h => by rw [h1] at h; cases h), fun _ => ?_⟩
    rw [h3, splitOf_no h2]
set_option maxRecDepth 20000 in
set_option maxHeartbeats 1000000 in
theorem l6Split_any (s : ByteArray) (b : UInt8) (w : World) (hs : s.size ≤ 1048575) :
    Calls Tryd.prog 16 #[.string s, .int .u8 (b.toNat : Int)] w fun e w' => ∃ v ws, e = .returned v ∧ OwnT w' w.heap.size v ws ∧ ws.map (·.data.toList) = splitOf b s.data.toList ∧ Below w.heap.size w w' := by
  go_enter Tryd.func16, Tryd.ntmps16
  go_wp2
  go_loopw [0, 5, 6, 7, 8] (fun sv ov _ _ _ wr => ∃ (t : ByteArray) (ws : List ByteArray), sv = .string t ∧ OwnT wr w.heap.size ov ws ∧ ws.length + t.size ≤ s.size ∧ ws.map (·.data.toList) ++ splitOf b t.data.toList = splitOf b s.data.toList ∧ Below w.heap.size w wr) (fun sv _ _ _ _ _ => szS sv)
  case atStart => exact ⟨s, [], rfl, OwnT.nil _ _, by simp, by simp, Below.refl _ _⟩
  case round =>
    obtain ⟨t, ws, rfl, ho, hz, hsp, hb⟩ := hrel
    have HO := hide ho
    have HSP := hide hsp
    have HB := hide hb
    clear ho hsp hb
    go_wp2_with fail
    refine (l4Cut_any t b wr (by omega)).mono ?_
    rintro e w2 ⟨x, y, ok, rfl, hcut, n2, rfl⟩
    have HC := hide (cut_split hcut)
    have HB2 := hide (below_drewN HB.out n2)
    have HO2 := hide (show OwnT (wr.drewN n2) w.heap.size u5 ws from HO.out)
    clear hcut
    have hn0 : ((wr.drewN n2).alloc (.cells #[.string x] 9)).cell? ⟨wr.heap.size, 0, none⟩ = some (.string x) := by
      have := cell_of_row _ _ 0 _ _ _ (heap_alloc_new (wr.drewN n2) (.cells #[.string x] 9))
      exact this
    generalize hW : wr.drewN n2 = W at HB2 HO2 hn0
    have hsz : wr.heap.size = W.heap.size := by rw [← hW]; rfl
    rw [hsz] at hn0
    have HN0 := hide hn0
    have HA := hide (HB2.out.alloc HB2.out.size (.cells #[.string x] 9))
    have HOA := hide (show OwnT (W.alloc (.cells #[.string x] 9)) w.heap.size u5 ws from World.ownsRow.alloc HO2.out _)
    have HLO := hide (fun j hj => (World.ownsRow.lt HO2.out j hj).1)
    clear hn0 HO HO2
    cases ok with
    | false =>
      have HF := hide (HC.out.2 rfl)
      clear HC
      go_wp2_with (first
        | (at_builtin; refine wpList_append_t _ rfl (.tmp 16) (.tmp 18) rfl w.heap.size u5 ws x W.heap.size 1 rfl rfl ?_ ?_ ?_ ?_ ?_; (exact HOA.out); (exact HN0.out); (omega); (exact HA.out.size); intro v4 w4 ho4 hg4)
        | go_in)
      go_ret
      exact ⟨v4, ws ++ [x], rfl, ho4, by rw [List.map_append, ← HSP.out, HF.out]; rfl, HA.out.grown hg4 HA.out.size HLO.out⟩
    | true =>
      have HF := hide (HC.out.1 rfl)
      clear HC
      have hyl : y.data.toList.length = y.size := rfl
      have htl : t.data.toList.length = t.size := rfl
      have hlen := HF.out.2
      have HZ := hide (show (ws ++ [x]).length + y.size ≤ s.size by rw [List.length_append]; simp; omega)
      have HE := hide (show (ws ++ [x]).map (·.data.toList) ++ splitOf b y.data.toList = splitOf b s.data.toList by rw [← HSP.out, HF.out.1, List.map_append]; simp)
      have hlt : y.size < t.size := by omega
      clear hlen hyl htl HF
      go_wp2_with (first
        | (at_builtin; refine wpList_append_t _ rfl (.tmp 16) (.tmp 18) rfl w.heap.size u5 ws x W.heap.size 1 rfl rfl ?_ ?_ ?_ ?_ ?_; (exact HOA.out); (exact HN0.out); (omega); (exact HA.out.size); intro v4 w4 ho4 hg4; have HO4 := hide ho4; have HG4 := hide hg4; clear ho4 hg4)
        | go_in)
      go_roundw
      case rel => exact ⟨y, ws ++ [x], rfl, HO4.out, HZ.out, HE.out, HA.out.grown HG4.out HA.out.size HLO.out⟩
      case measure => exact hlt
/-- What stands in brackets. -/
def brk (t : List UInt8) : Option (List UInt8) := if 2 ≤ t.length ∧ t.head? = some 40 ∧ t.getLast? = some 41 then some ((t.drop 1).take (t.length - 2)) else none
def BrkPost (s : ByteArray) (e : Ending) : Prop := ∃ (x : ByteArray) (ok : Bool), e = .returned (.tuple #[.string x, .bool ok]) ∧ ((ok = true ∧ brk s.data.toList = some x.data.toList) ∨ (ok = false ∧ brk s.data.toList = none))
theorem u8_ne {x : UInt8} {n : Nat} (h : x ≠ UInt8.ofNat n) (hn : n < 256 := by decide) : ((x.toNat : Int) == (n : Int)) = false := by
  rw [beq_eq_false_iff_ne]
  intro e
  apply h
  apply UInt8.toNat_inj.1
  simp
  omega
theorem brk_no {s : ByteArray} {x : ByteArray} (h : ¬ (2 ≤ s.size ∧ s.data.toList.head? = some 40 ∧ s.data.toList.getLast? = some 41)) : BrkPost s (.returned (.tuple #[.string x, .bool false])) := ⟨x, false, rfl, .inr ⟨rfl, if_neg h⟩⟩
set_option maxRecDepth 20000 in
set_option maxHeartbeats 1000000 in
theorem l6Brackets_any (s : ByteArray) (w : World) (hs : s.size ≤ 1048576) :
    Calls Tryd.prog 15 #[.string s] w fun e w' => BrkPost s e ∧ ∃ n, w' = w.drewN n := by
  by_cases h2 : 2 ≤ s.size
  · have hh : s.data.toList.head? = some s[0] := by
      rw [List.head?_eq_getElem?, List.getElem?_eq_getElem (show 0 < s.data.toList.length from (show 0 < s.size by omega))]
      rfl
    have hl : s.data.toList.getLast? = some (s[s.size - 1]'(by omega)) := by
      rw [List.getLast?_eq_getElem?, List.getElem?_eq_getElem (show s.data.toList.length - 1 < s.data.toList.length from (show s.size - 1 < s.size by omega))]
      rfl
    have hi2 : ¬ (s.size : Int) < 2 := by omega
    by_cases h0 : s[0] = 40
    · by_cases h1 : s[s.size - 1]'(by omega) = 41
      · have HY := hide (show brk s.data.toList = some (s.extract 1 (s.size - 1)).data.toList by
          unfold brk
          rw [if_pos ⟨h2, by rw [hh, h0], by rw [hl, h1]⟩, ext_list]
          rfl)
        clear hh hl
        go_enter Tryd.func15, Tryd.ntmps15
        go_wp2
        go_ret2
        exact ⟨⟨_, true, rfl, .inl ⟨rfl, HY.out⟩⟩, 0, rfl⟩
      · have HN := hide (brk_no (s := s) (x := ⟨#[]⟩) (fun h => h1 (by have := h.2.2; rw [hl] at this; simpa using this)))
        have hb1 : (((s[s.size - 1]'(by omega)).toNat : Int) == 41) = false := u8_ne h1
        clear hh hl
        go_enter Tryd.func15, Tryd.ntmps15
        go_wp2
        go_ret2
        exact ⟨HN.out, 0, rfl⟩
    · have HN := hide (brk_no (s := s) (x := ⟨#[]⟩) (fun h => h0 (by have := h.2.1; rw [hh] at this; simpa using this)))
      have hb0 : ((s[0].toNat : Int) == 40) = false := u8_ne h0
      clear hh hl
      go_enter Tryd.func15, Tryd.ntmps15
      go_wp2
      go_ret2
      exact ⟨HN.out, 0, rfl⟩
  · have hi2 : (s.size : Int) < 2 := by omega
    have HN := hide (brk_no (s := s) (x := ⟨#[]⟩) (fun h => h2 h.1))
    go_enter Tryd.func15, Tryd.ntmps15
    go_wp2
    go_ret2
    exact ⟨HN.out, 0, rfl⟩
end Go.Proofs.YtokcdpamcbpaiabDoor
