import Derived.Test.YtledlicandlekaaDoorCutSpl
import Derived.Test.YtledlicandlekaaDoorCaseU
namespace Go.Proofs.YtledlicandlekaaDoor
open Go.RowKit
set_option maxRecDepth 20000 in
set_option maxHeartbeats 1000000 in
theorem l5Words_any (a : Option Addr) (cap : Nat) (l : List Nat) (w : World) (hs : l.length ≤ 1048575) (hr : RowAt w a l) :
    Calls Tryd.prog 29 #[.slice a l.length cap] w fun e w' => ∃ v ws, e = .returned v ∧ OwnT w' w.heap.size v ws ∧ ws.map (·.data.toList) = splitOf 32 (strB l).data.toList ∧ Below w.heap.size w w' := by
  have hcv := run_string_of w a cap l hr
  have hsz0 : (strB l).size ≤ 1048575 := by rw [strB_size]; exact hs
  clear hr
  generalize strB l = s at hcv hsz0 ⊢
  go_enter Tryd.func29, Tryd.ntmps29
  go_wp2
  clear hcv
  go_loopw [3, 4, 5, 6, 7] (fun ov sv _ _ _ wr => ∃ (t : ByteArray) (ws : List ByteArray), sv = .string t ∧ OwnT wr w.heap.size ov ws ∧ ws.length + t.size ≤ s.size ∧ ws.map (·.data.toList) ++ splitOf 32 t.data.toList = splitOf 32 s.data.toList ∧ Below w.heap.size w wr) (fun _ sv _ _ _ _ => szS sv)
  case atStart => exact ⟨s, [], rfl, OwnT.nil _ _, by simp, by simp, Below.refl _ _⟩
  case round =>
    obtain ⟨t, ws, rfl, ho, hz, hsp, hb⟩ := hrel
    have HO := hide ho
    have HSP := hide hsp
    have HB := hide hb
    clear ho hsp hb
    go_wp2_with fail
    refine (l4Cut_any t 32 wr (by omega)).mono ?_
    rintro e w2 ⟨x, y, ok, rfl, hcut, n2, rfl⟩
    have HC := hide (cut_split hcut)
    have HB2 := hide (below_drewN HB.out n2)
    have HO2 := hide (show OwnT (wr.drewN n2) w.heap.size u3 ws from HO.out)
    clear hcut
    have hn0 : ((wr.drewN n2).alloc (.cells #[.string x] 9)).cell? ⟨wr.heap.size, 0, none⟩ = some (.string x) := by
      have := cell_of_row _ _ 0 _ _ _ (heap_alloc_new (wr.drewN n2) (.cells #[.string x] 9))
      exact this
    generalize hW : wr.drewN n2 = W at HB2 HO2 hn0
    have hsz : wr.heap.size = W.heap.size := by rw [← hW]; rfl
    rw [hsz] at hn0
    have HN0 := hide hn0
    have HA := hide (HB2.out.alloc HB2.out.size (.cells #[.string x] 9))
    have HOA := hide (show OwnT (W.alloc (.cells #[.string x] 9)) w.heap.size u3 ws from World.ownsRow.alloc HO2.out _)
    have HLO := hide (fun j hj => (World.ownsRow.lt HO2.out j hj).1)
    clear hn0 HO HO2
    cases ok with
    | false =>
      have HF := hide (HC.out.2 rfl)
      clear HC
      go_wp2_with (first
        | (at_builtin; refine wpList_append_t _ rfl (.tmp 16) (.tmp 18) rfl w.heap.size u3 ws x W.heap.size 1 rfl rfl ?_ ?_ ?_ ?_ ?_; (exact HOA.out); (exact HN0.out); (omega); (exact HA.out.size); intro v4 w4 ho4 hg4)
        | go_in)
      go_ret
      exact ⟨v4, ws ++ [x], rfl, ho4, by rw [List.map_append, ← HSP.out, HF.out]; rfl, HA.out.grown hg4 HA.out.size HLO.out⟩
    | true =>
      have HF := hide (HC.out.1 rfl)
      clear HC
      have hyl : y.data.toList.length = y.size := rfl
      have htl : t.data.toList.length = t.size := rfl
      have hlen := HF.out.2
      have HZ := hide (show (ws ++ [x]).length + y.size ≤ s.size by rw [List.length_append]; simp; omega)
      have HE := hide (show (ws ++ [x]).map (·.data.toList) ++ splitOf 32 y.data.toList = splitOf 32 s.data.toList by rw [← HSP.out, HF.out.1, List.map_append]; simp)
      have hlt : y.size < t.size := by omega
      clear hlen hyl htl HF
      go_wp2_with (first
        | (at_builtin; refine wpList_append_t _ rfl (.tmp 16) (.tmp 18) rfl w.heap.size u3 ws x W.heap.size 1 rfl rfl ?_ ?_ ?_ ?_ ?_; (exact HOA.out); (exact HN0.out); (omega); (exact HA.out.size); intro v4 w4 ho4 hg4; have HO4 := hide ho4; have HG4 := hide hg4; clear ho4 hg4)
        | go_in)
      go_roundw
      case rel => exact ⟨y, ws ++ [x], rfl, HO4.out, HZ.out, HE.out, HA.out.grown HG4.out HA.out.size HLO.out⟩
      case measure => exact hlt
end Go.Proofs.YtledlicandlekaaDoor
