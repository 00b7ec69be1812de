import Derived.Test.YtpedmebigcchnaaGreatDoorPke
import Derived.Test.YtpedmebigcchnaaGreatDoorPkk
import Derived.Test.YtpedmebigcchnaaGreatDoorPkf
import Derived.Test.YtpedmebigcchnaaGreatDoorPkg
import Derived.Test.YtpedmebigcchnaaGreatDoorPkj
namespace Go.Proofs.YtpedmebigcchnaaGreatDoor
open Go.RowKit
def szS : Value → Nat
  | .string t => t.size
  | _ => 0
theorem cut_split {t a c : List UInt8} {b : UInt8} {ok : Bool} (h : CutIs t b a c ok) : (ok = true → splitOf b t = a :: splitOf b c ∧ c.length + 1 ≤ t.length) ∧ (ok = false → splitOf b t = [a]) := by
  rcases h with ⟨h1, h2, h3⟩ | ⟨h1, h2, h3, h4⟩
  · refine ⟨fun _ => ⟨?_, ?_⟩, (fun h => by rw [h1] at h; cases h)⟩
    · rw [h2, splitOf_at h3]
    · rw [h2]; simp
  · refine ⟨(fun h => by rw [h1] at h; cases h), fun _ => ?_⟩
    rw [h3, splitOf_no h2]
end Go.Proofs.YtpedmebigcchnaaGreatDoor
namespace Go.Proofs.YtpedmebigcchnaaGreatDoor
open Go.RowKit
set_option maxRecDepth 20000 in
set_option maxHeartbeats 1000000 in
theorem l6Split_any (s : ByteArray) (b : UInt8) (w : World) (hs : s.size ≤ 1048575) :
    Calls Tryz.prog 33 #[.string s, .int .u8 (b.toNat : Int)] w fun e w' => ∃ v ws, e = .returned v ∧ OwnT w' w.heap.size v ws ∧ ws.map (·.data.toList) = splitOf b s.data.toList ∧ Below w.heap.size w w' := by
  go_enter Tryz.func33, Tryz.ntmps33
  go_wp2
  go_loopw [0, 5, 6, 7, 8] (fun sv ov _ _ _ wr => ∃ (t : ByteArray) (ws : List ByteArray), sv = .string t ∧ OwnT wr w.heap.size ov ws ∧ ws.length + t.size ≤ s.size ∧ ws.map (·.data.toList) ++ splitOf b t.data.toList = splitOf b s.data.toList ∧ Below w.heap.size w wr) (fun sv _ _ _ _ _ => szS sv)
  case atStart => exact ⟨s, [], rfl, OwnT.nil _ _, by simp, by simp, Below.refl _ _⟩
  case round =>
    obtain ⟨t, ws, rfl, ho, hz, hsp, hb⟩ := hrel
    have HO := hide ho
    have HSP := hide hsp
    have HB := hide hb
    clear ho hsp hb
    go_wp2_with fail
    refine (l4Cut_any t b wr (by omega)).mono ?_
    rintro e w2 ⟨x, y, ok, rfl, hcut, n2, rfl⟩
    have HC := hide (cut_split hcut)
    have HB2 := hide (below_drewN HB.out n2)
    have HO2 := hide (show OwnT (wr.drewN n2) w.heap.size u5 ws from HO.out)
    clear hcut
    have hn0 : ((wr.drewN n2).alloc (.cells #[.string x] 9)).cell? ⟨wr.heap.size, 0, none⟩ = some (.string x) := by
      have := cell_of_row _ _ 0 _ _ _ (heap_alloc_new (wr.drewN n2) (.cells #[.string x] 9))
      exact this
    generalize hW : wr.drewN n2 = W at HB2 HO2 hn0
    have hsz : wr.heap.size = W.heap.size := by rw [← hW]; rfl
    rw [hsz] at hn0
    have HN0 := hide hn0
    have HA := hide (HB2.out.alloc HB2.out.size (.cells #[.string x] 9))
    have HOA := hide (show OwnT (W.alloc (.cells #[.string x] 9)) w.heap.size u5 ws from World.ownsRow.alloc HO2.out _)
    have HLO := hide (fun j hj => (World.ownsRow.lt HO2.out j hj).1)
    clear hn0 HO HO2
    cases ok with
    | false =>
      have HF := hide (HC.out.2 rfl)
      clear HC
      go_wp2_with (first
        | (at_builtin; refine wpList_append_t _ rfl (.tmp 16) (.tmp 18) rfl w.heap.size u5 ws x W.heap.size 1 rfl rfl ?_ ?_ ?_ ?_ ?_; (exact HOA.out); (exact HN0.out); (omega); (exact HA.out.size); intro v4 w4 ho4 hg4)
        | go_in)
      go_ret
      exact ⟨v4, ws ++ [x], rfl, ho4, by rw [List.map_append, ← HSP.out, HF.out]; rfl, HA.out.grown hg4 HA.out.size HLO.out⟩
    | true =>
      have HF := hide (HC.out.1 rfl)
      clear HC
      have hyl : y.data.toList.length = y.size := rfl
      have htl : t.data.toList.length = t.size := rfl
      have hlen := HF.out.2
      have HZ := hide (show (ws ++ [x]).length + y.size ≤ s.size by rw [List.length_append]; simp; omega)
      have HE := hide (show (ws ++ [x]).map (·.data.toList) ++ splitOf b y.data.toList = splitOf b s.data.toList by rw [← HSP.out, HF.out.1, List.map_append]; simp)
      have hlt : y.size < t.size := by omega
      clear hlen hyl htl HF
      go_wp2_with (first
        | (at_builtin; refine wpList_append_t _ rfl (.tmp 16) (.tmp 18) rfl w.heap.size u5 ws x W.heap.size 1 rfl rfl ?_ ?_ ?_ ?_ ?_; (exact HOA.out); (exact HN0.out); (omega); (exact HA.out.size); intro v4 w4 ho4 hg4; have HO4 := hide ho4; have HG4 := hide hg4; clear ho4 hg4)
        | go_in)
      go_roundw
      case rel => exact ⟨y, ws ++ [x], rfl, HO4.out, HZ.out, HE.out, HA.out.grown HG4.out HA.out.size HLO.out⟩
      case measure => exact hlt
end Go.Proofs.YtpedmebigcchnaaGreatDoor
namespace Go.Proofs.YtpedmebigcchnaaGreatDoor
open Go.RowKit
set_option maxRecDepth 20000 in
set_option maxHeartbeats 1000000 in
theorem specName_any (k : Nat) (w : World) (hk : k < 31) :
    Calls Tryz.prog 34 #[.int .i64 (k : Int)] w fun e w' => e = .returned (.string (strB (nameL k))) ∧ Below w.heap.size w w' := by
  match k, hk with
  | 0, _ | 1, _ | 2, _ | 3, _ | 4, _ =>
    go_enter Tryz.func34, Tryz.ntmps34
    go_wp2
    go_ret
    exact ⟨rfl, Below.refl _ _⟩
  | k + 5, hk =>
    have hs : (convert 22 9 (.slice (some ⟨w.heap.size, 0, none⟩) 1 1)).run Tryz.prog (w.alloc (.cells #[.int .u8 (97 + ((k : Int) + 5) - 5)] 5)) = .ok (.string (strB (nameL (k + 5)))) (w.alloc (.cells #[.int .u8 (97 + ((k : Int) + 5) - 5)] 5)) := by
      have e : nameL (k + 5) = [92 + (k + 5)] := rfl
      rw [e]
      refine run_string_of _ _ 1 [92 + (k + 5)] fun _ => ⟨w.heap.size, 0, rfl, fun i hi => ?_⟩
      have hi0 : i = 0 := by simpa using hi
      subst hi0
      rw [cell_of_row _ _ _ _ _ _ (heap_alloc_new w _)]
      simp
      omega
    go_enter Tryz.func34, Tryz.ntmps34
    go_wp2
    go_ret
    exact ⟨rfl, (Below.refl _ _).alloc (Nat.le_refl _) _⟩
end Go.Proofs.YtpedmebigcchnaaGreatDoor
