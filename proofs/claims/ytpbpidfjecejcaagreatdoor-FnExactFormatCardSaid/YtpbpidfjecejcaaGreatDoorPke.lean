import Derived.Test.YtpbpidfjecejcaaGreatDoorPkd
import Derived.Test.YtpbpidfjecejcaaGreatDoorPka
import Derived.Laws.IdiomStrings
import Derived.Deep.RegionWith
import Derived.Maps.OwnSet
namespace Go.Proofs.YtpbpidfjecejcaaGreatDoor
open Go.RowKit
theorem str_one (W : World) (z : Int) (x : Nat) (h : z = (x : Int)) : (convert 52 9 (.slice (some ⟨W.heap.size, 0, none⟩) 1 1)).run Tryz.prog (W.alloc (.cells #[.int .u8 z] 5)) = .ok (.string (strB [x])) (W.alloc (.cells #[.int .u8 z] 5)) := by
  subst h
  refine run_string_of _ _ 1 [x] fun _ => ⟨W.heap.size, 0, rfl, fun i hi => ?_⟩
  have hi0 : i = 0 := by simpa using hi
  subst hi0
  rw [cell_of_row _ _ _ _ _ _ (heap_alloc_new W _)]
  rfl
set_option maxRecDepth 20000 in
theorem markText_any (k : Nat) (w : World) (hk : k ≤ 4503599627370496) :
    Calls Tryz.prog 55 #[.int .i64 (k : Int)] w fun e w' => (∃ s, e = .returned (.string s)) ∧ Below w.heap.size w w' := by
  by_cases h0 : k = 0
  · subst h0
    go_enter Tryz.func55, Tryz.ntmps55
    go_wp2
    go_ret
    exact ⟨⟨_, rfl⟩, Below.refl _ _⟩
  · have hpos : ¬ (k : Int) ≤ 0 := by omega
    go_enter Tryz.func55, Tryz.ntmps55
    go_wp2
    go_loopw [0, 3] (fun kv ov wr => ∃ (j : Nat) (s : ByteArray), kv = .int .i64 (j : Int) ∧ ov = .string s ∧ s.size + j ≤ k ∧ Below w.heap.size w wr) (fun kv _ _ => (intOf kv).toNat)
    case atStart => exact ⟨k, _, rfl, rfl, by simp [ByteArray.size], Below.refl _ _⟩
    case round =>
      obtain ⟨j, s, rfl, rfl, hs, hb⟩ := hrel
      by_cases hj : 0 < j
      · have hji : (0 : Int) < (j : Int) := by omega
        have hs1 := str_one wr ((48 : Int) + (j : Int) % 10) (48 + j % 10) (by omega)
        have htz : (strB [48 + j % 10]).size = 1 := by simp [strB, ByteArray.size]
        generalize strB [48 + j % 10] = t at hs1 htz
        have HB := hide (hb.alloc hb.size (.cells #[.int .u8 ((48 : Int) + (j : Int) % 10)] 5))
        clear hb
        have HZ := hide (show (t ++ s).size + j / 10 ≤ k by rw [ByteArray.size_append]; omega)
        go_wp2
        go_roundw
        case rel => exact ⟨j / 10, t ++ s, by go_num, rfl, HZ.out, HB.out⟩
        case measure => simp [intOf]; omega
      · obtain rfl : j = 0 := by omega
        go_wp2
        go_ret
        exact ⟨⟨_, rfl⟩, hb⟩
set_option maxRecDepth 20000 in
set_option maxHeartbeats 1000000 in
theorem markE_raw (lo hi g n cap m k : Nat) (w : World) (hn : n ≤ 1048576) (hk : k ≤ 1125899906842624) (hr : Raw w g 102 m) (hm : n * 2 ≤ m) (h1 : lo ≤ g) (h2 : g < hi) :
    Calls Tryz.prog 32 #[.slice (some ⟨g, 0, none⟩) n cap, .int .i64 (k : Int)] w fun e w' => e = .returned (.int .i64 ((k + 2 * n : Nat) : Int)) ∧ (∀ g' t n', Raw w g' t n' → Raw w' g' t n') ∧ Out lo hi w w' := by
  go_enter Tryz.func32, Tryz.ntmps32
  go_wp2
  go_loopw [1, 5] (fun s i wr => ∃ j : Nat, j ≤ n ∧ i = .int .i64 j ∧ s = .int .i64 ((k + 2 * j : Nat) : Int) ∧ (∀ g' t n', Raw w g' t n' → Raw wr g' t n') ∧ Out lo hi w wr) (fun _ i _ => n - (intOf i).toNat)
  case atStart => exact ⟨0, Nat.zero_le _, rfl, rfl, fun _ _ _ h => h, Out.refl _ _ _⟩
  case round =>
    obtain ⟨j, hj, rfl, rfl, hrk, ho⟩ := hrel
    by_cases hlt : j < n
    · obtain ⟨s', hs'⟩ : ∃ s', s' = k + 2 * j := ⟨_, rfl⟩
      rw [← hs']
      have hb' : s' ≤ 4503599627370000 := by omega
      have HRK := hide hrk
      have HO := hide ho
      have HJ := hide hs'
      clear hrk ho hs'
      go_wp2_with fail
      refine (markText_any s' wr (by omega)).mono ?_
      rintro e w2 ⟨⟨t, rfl⟩, hb2⟩
      have hraw2 := ((HRK.out g _ m hr).of_eq (hb2.block g (HRK.out g _ m hr).lt))
      have HRK2 := hide (fun g' t' n' (h : Raw w g' t' n') => ((HRK.out g' t' n' h).of_eq (hb2.block g' (HRK.out g' t' n' h).lt)))
      have HO2 := hide (HO.out.andThen hb2 HO.out.size)
      obtain ⟨z0, hz0⟩ := hraw2.cell (j * 2) (by omega)
      obtain ⟨z1, hz1⟩ := hraw2.cell (j * 2 + 1) (by omega)
      have hf0 := hraw2.frozen (j * 2)
      have hf1 := hraw2.frozen (j * 2 + 1)
      have HX := hide (show ∀ u v : Value, (∀ g' t' n', Raw w g' t' n' → Raw ((w2.setCell ⟨g, j * 2, none⟩ u).setCell ⟨g, j * 2 + 1, none⟩ v) g' t' n') ∧ Out lo hi w ((w2.setCell ⟨g, j * 2, none⟩ u).setCell ⟨g, j * 2 + 1, none⟩ v) from fun u v =>
        ⟨fun _ _ _ h => ((HRK2.out _ _ _ h).set _ _ _).set _ _ _, (HO2.out.set h1 h2).set h1 h2⟩)
      clear hraw2 hb2 HRK HO HRK2 HO2
      go_wp2
      go_roundw
      case rel => exact ⟨j + 1, by omega, by go_num, by rw [show k + 2 * (j + 1) = s' + 1 + 1 from by have := HJ.out; omega]; go_num, (HX.out _ _).1, (HX.out _ _).2⟩
      case measure => simp [intOf]; omega
    · obtain rfl : j = n := by omega
      have HO := hide ho
      have HRK := hide hrk
      clear ho hrk
      go_wp2
      go_ret
      exact ⟨rfl, HRK.out, HO.out⟩
end Go.Proofs.YtpbpidfjecejcaaGreatDoor
namespace Go.Proofs.YtpbpidfjecejcaaGreatDoor
open Go.RowKit
set_option maxRecDepth 20000 in
set_option maxHeartbeats 1000000 in
theorem markO_raw (lo hi g n cap m k : Nat) (w : World) (hn : n ≤ 1048576) (hk : k ≤ 1125899906842624) (hr : Raw w g 105 m) (hm : n * 4 ≤ m) (h1 : lo ≤ g) (h2 : g < hi) :
    Calls Tryz.prog 33 #[.slice (some ⟨g, 0, none⟩) n cap, .int .i64 (k : Int)] w fun e w' => e = .returned (.int .i64 ((k + 4 * n : Nat) : Int)) ∧ (∀ g' t n', Raw w g' t n' → Raw w' g' t n') ∧ Out lo hi w w' := by
  go_enter Tryz.func33, Tryz.ntmps33
  go_wp2
  go_loopw [1, 5] (fun s i wr => ∃ j : Nat, j ≤ n ∧ i = .int .i64 j ∧ s = .int .i64 ((k + 4 * j : Nat) : Int) ∧ (∀ g' t n', Raw w g' t n' → Raw wr g' t n') ∧ Out lo hi w wr) (fun _ i _ => n - (intOf i).toNat)
  case atStart => exact ⟨0, Nat.zero_le _, rfl, rfl, fun _ _ _ h => h, Out.refl _ _ _⟩
  case round =>
    obtain ⟨j, hj, rfl, rfl, hrk, ho⟩ := hrel
    by_cases hlt : j < n
    · obtain ⟨s', hs'⟩ : ∃ s', s' = k + 4 * j := ⟨_, rfl⟩
      rw [← hs']
      have hb' : s' ≤ 4503599627370000 := by omega
      have HJ := hide hs'
      have hraw := hrk g _ m hr
      obtain ⟨z0, hz0⟩ := hraw.cell (j * 4) (by omega)
      have hf0 := hraw.frozen (j * 4)
      have HRK := hide (show ∀ u : Value, ∀ g' t' n', Raw w g' t' n' → Raw (wr.setCell ⟨g, j * 4, none⟩ u) g' t' n' from fun u _ _ _ h => (hrk _ _ _ h).set _ _ _)
      have HO := hide (show ∀ u : Value, Out lo hi w (wr.setCell ⟨g, j * 4, none⟩ u) from fun u => ho.set h1 h2)
      clear hrk ho hs' hraw
      go_wp2_with fail
      replace HRK := hide (HRK.out (.int .i64 (s' : Int)))
      replace HO := hide (HO.out (.int .i64 (s' : Int)))
      generalize wr.setCell ⟨g, j * 4, none⟩ (.int .i64 (s' : Int)) = w1 at HRK HO ⊢
      have e1 : ((s' : Int) + 1) = ((s' + 1 : Nat) : Int) := by omega
      rw [e1]
      clear e1
      obtain ⟨s1, hs1⟩ : ∃ s1, s1 = s' + 1 := ⟨_, rfl⟩
      rw [← hs1]
      have hb1 : s1 ≤ 4503599627370001 := by omega
      have HJ1 := hide hs1
      clear hs1
      refine (markText_any s1 w1 (by omega)).mono ?_
      rintro e w2 ⟨⟨t, rfl⟩, hb2⟩
      have hraw2 := ((HRK.out g _ m hr).of_eq (hb2.block g (HRK.out g _ m hr).lt))
      have HRK2 := hide (fun (u : Value) g' t' n' (h : Raw w g' t' n') => ((HRK.out g' t' n' h).of_eq (hb2.block g' (HRK.out g' t' n' h).lt)).set g (j * 4 + 1) u)
      have HO2 := hide (fun (u : Value) => (HO.out.andThen hb2 HO.out.size).set (j := j * 4 + 1) (u := u) h1 h2)
      obtain ⟨z1, hz1⟩ := hraw2.cell (j * 4 + 1) (by omega)
      have hf1 := hraw2.frozen (j * 4 + 1)
      clear hraw2 hb2 HRK HO hz0 hf0
      go_wp2_with fail
      replace HRK2 := hide (HRK2.out (.string t))
      replace HO2 := hide (HO2.out (.string t))
      generalize w2.setCell ⟨g, j * 4 + 1, none⟩ (.string t) = w3 at HRK2 HO2 ⊢
      have e2 : ((s1 : Int) + 1) = ((s1 + 1 : Nat) : Int) := by omega
      rw [e2]
      clear e2
      obtain ⟨s2, hs2⟩ : ∃ s2, s2 = s1 + 1 := ⟨_, rfl⟩
      rw [← hs2]
      have hb3 : s2 ≤ 4503599627370002 := by omega
      have HJ2 := hide hs2
      clear hs2 hz1 hf1
      refine (markText_any s2 w3 (by omega)).mono ?_
      rintro e w4 ⟨⟨t4, rfl⟩, hb4⟩
      have hraw4 := ((HRK2.out g _ m hr).of_eq (hb4.block g (HRK2.out g _ m hr).lt))
      have HX := hide (show ∀ u v : Value, (∀ g' t' n', Raw w g' t' n' → Raw ((w4.setCell ⟨g, j * 4 + 2, none⟩ u).setCell ⟨g, j * 4 + 3, none⟩ v) g' t' n') ∧ Out lo hi w ((w4.setCell ⟨g, j * 4 + 2, none⟩ u).setCell ⟨g, j * 4 + 3, none⟩ v) from fun u v =>
        ⟨fun g' t' n' h => (((HRK2.out g' t' n' h).of_eq (hb4.block g' (HRK2.out g' t' n' h).lt)).set _ _ _).set _ _ _, ((HO2.out.andThen hb4 HO2.out.size).set h1 h2).set h1 h2⟩)
      obtain ⟨z2, hz2⟩ := hraw4.cell (j * 4 + 2) (by omega)
      obtain ⟨z3, hz3⟩ := hraw4.cell (j * 4 + 3) (by omega)
      have hf2 := hraw4.frozen (j * 4 + 2)
      have hf3 := hraw4.frozen (j * 4 + 3)
      clear hraw4 hb4 HRK2 HO2
      go_wp2
      go_roundw
      case rel => exact ⟨j + 1, by omega, by go_num, by rw [show k + 4 * (j + 1) = s2 + 1 + 1 from by have := HJ.out; have := HJ1.out; have := HJ2.out; omega]; go_num, (HX.out _ _).1, (HX.out _ _).2⟩
      case measure => simp [intOf]; omega
    · obtain rfl : j = n := by omega
      have HO := hide ho
      have HRK := hide hrk
      clear ho hrk
      go_wp2
      go_ret
      exact ⟨rfl, HRK.out, HO.out⟩
theorem markN_nil (k : Nat) (w : World) : Calls Tryz.prog 31 #[.slice none 0 0, .int .i64 (k : Int)] w fun e w' => e = .returned (.int .i64 (k : Int)) ∧ w' = w := by
  go_enter Tryz.func31, Tryz.ntmps31
  go_wp2
  go_loopw [1, 5] (fun s i wr => i = .int .i64 0 ∧ s = .int .i64 (k : Int) ∧ wr = w) (fun _ _ _ => 0)
  case atStart => exact ⟨rfl, rfl, rfl⟩
  case round =>
    obtain ⟨rfl, rfl, rfl⟩ := hrel
    go_wp2
    go_ret
    exact ⟨rfl, rfl⟩
theorem markE_nil (k : Nat) (w : World) : Calls Tryz.prog 32 #[.slice none 0 0, .int .i64 (k : Int)] w fun e w' => e = .returned (.int .i64 (k : Int)) ∧ w' = w := by
  go_enter Tryz.func32, Tryz.ntmps32
  go_wp2
  go_loopw [1, 5] (fun s i wr => i = .int .i64 0 ∧ s = .int .i64 (k : Int) ∧ wr = w) (fun _ _ _ => 0)
  case atStart => exact ⟨rfl, rfl, rfl⟩
  case round =>
    obtain ⟨rfl, rfl, rfl⟩ := hrel
    go_wp2
    go_ret
    exact ⟨rfl, rfl⟩
theorem markO_nil (k : Nat) (w : World) : Calls Tryz.prog 33 #[.slice none 0 0, .int .i64 (k : Int)] w fun e w' => e = .returned (.int .i64 (k : Int)) ∧ w' = w := by
  go_enter Tryz.func33, Tryz.ntmps33
  go_wp2
  go_loopw [1, 5] (fun s i wr => i = .int .i64 0 ∧ s = .int .i64 (k : Int) ∧ wr = w) (fun _ _ _ => 0)
  case atStart => exact ⟨rfl, rfl, rfl⟩
  case round =>
    obtain ⟨rfl, rfl, rfl⟩ := hrel
    go_wp2
    go_ret
    exact ⟨rfl, rfl⟩
end Go.Proofs.YtpbpidfjecejcaaGreatDoor
namespace Go.Proofs.YtpbpidfjecejcaaGreatDoor
open Go.RowKit
/-- A byte that a good name may hold. -/
def okB (x : UInt8) : Bool := decide (33 ≤ x.toNat ∧ x.toNat ≤ 126)
/-- A good name. -/
def okName (s : ByteArray) : Bool := decide (1 ≤ s.size ∧ s.size ≤ 80 ∧ ∀ i, i < s.size → okB (s.get! i) = true)
theorem okName_no {s : ByteArray} {i : Nat} (h : i < s.size) (hb : okB (s.get! i) = false) : okName s = false := by
  unfold okName
  refine decide_eq_false fun h' => ?_
  rw [h'.2.2 i h] at hb
  simp at hb
theorem get_bang (s : ByteArray) (k : Nat) (h : k < s.size) : s.get! k = s[k]'h := by
  show s.data[k]! = _
  rw [getElem!_pos s.data k h]
  rfl
theorem l1GoodName_any (s : ByteArray) (w : World) (hs : s.size ≤ 9223372036854775807) :
    Calls Tryz.prog 76 #[.string s] w fun e w' => e = .returned (.bool (okName s)) ∧ w' = w := by
  by_cases h1 : s.size < 1
  · have hf : okName s = false := decide_eq_false fun h => by omega
    rw [hf]
    go_enter Tryz.func76, Tryz.ntmps76
    go_wp2
    go_ret
    exact ⟨rfl, rfl⟩
  by_cases h2 : 80 < s.size
  · have hf : okName s = false := decide_eq_false fun h => by omega
    rw [hf]
    go_enter Tryz.func76, Tryz.ntmps76
    go_wp2
    go_ret
    exact ⟨rfl, rfl⟩
  go_enter Tryz.func76, Tryz.ntmps76
  go_wp2
  go_loop [3] (fun i => ∃ k : Nat, k ≤ s.size ∧ i = .int .i64 k ∧ ∀ i, i < k → okB (s.get! i) = true) (fun i => s.size - (intOf i).toNat)
  case atStart => exact ⟨0, Nat.zero_le _, rfl, fun i h => by omega⟩
  case round =>
    obtain ⟨k, hk, rfl, hok⟩ := hrel
    have HK := hide hok
    clear hok
    by_cases hlt : k < s.size
    · have HG := hide (get_bang s k hlt)
      by_cases lo : s[k].toNat < 33
      · go_wp2
        go_ret
        exact ⟨ret_bool (okName_no hlt (by rw [HG.out]; exact decide_eq_false fun h => by omega)).symm, rfl⟩
      · by_cases hi : 126 < s[k].toNat
        · go_wp2
          go_ret
          exact ⟨ret_bool (okName_no hlt (by rw [HG.out]; exact decide_eq_false fun h => by omega)).symm, rfl⟩
        · have HB := hide (show okB (s.get! k) = true from by rw [HG.out]; exact decide_eq_true ⟨by omega, by omega⟩)
          go_wp2
          go_round
          case rel => exact ⟨k + 1, by omega, by go_num, fun i h => by
            by_cases e : i = k
            · rw [e]; exact HB.out
            · exact HK.out i (by omega)⟩
          case measure => simp [intOf]; omega
    · have hf : okName s = true := decide_eq_true ⟨by omega, by omega, fun i h => HK.out i (by omega)⟩
      go_wp2
      go_ret
      exact ⟨rfl, rfl⟩
set_option maxRecDepth 20000 in
theorem goodName_any (s : ByteArray) (w : World) (hs : s.size ≤ 9223372036854775807) :
    Calls Tryz.prog 104 #[.string s] w fun e w' => e = .returned (.bool (okName s)) ∧ Below w.heap.size w w' := by
  by_cases h1 : s.size < 1
  · have hf : okName s = false := decide_eq_false fun h => by omega
    rw [hf]
    go_enter Tryz.func104, Tryz.ntmps104
    go_wp2
    go_ret
    exact ⟨rfl, Below.refl _ _⟩
  by_cases h2 : 80 < s.size
  · have hf : okName s = false := decide_eq_false fun h => by omega
    rw [hf]
    go_enter Tryz.func104, Tryz.ntmps104
    go_wp2
    go_ret
    exact ⟨rfl, Below.refl _ _⟩
  have hcv := run_bytes_of_string (P := Tryz.prog) w 9 52 5 s (by kernel_rfl) (by kernel_rfl) (by kernel_rfl)
  generalize hcap : grownCap w s.size 0 5 = cap at hcv
  have hrow : ∀ j (h : j < s.size), (w.drew.alloc (.cells (bytesRow s cap) 5 ((bytesRow s cap).size, (bytesRow s cap).size + 1))).cell? ⟨w.heap.size, j, none⟩ = some (.int .u8 (s[j].toNat : Int)) := fun j h => by
    have e := World.cell?_alloc_mark w.drew (bytesRow s cap) 5 ((bytesRow s cap).size, (bytesRow s cap).size + 1) j
    rw [bytesRow_at s cap j h] at e
    exact e
  have hnx : Below w.heap.size w (w.drew.alloc (.cells (bytesRow s cap) 5 ((bytesRow s cap).size, (bytesRow s cap).size + 1))) := (Below.refl _ _).drew.alloc (Nat.le_refl _) _
  generalize (w.drew.alloc (.cells (bytesRow s cap) 5 ((bytesRow s cap).size, (bytesRow s cap).size + 1))) = w1 at hcv hrow hnx
  have HN := hide hnx
  have HRW := hide hrow
  clear hnx hrow hcap
  go_enter Tryz.func104, Tryz.ntmps104
  go_wp2
  clear hcv
  go_loop [16] (fun i => ∃ k : Nat, k ≤ s.size ∧ i = .int .i64 k ∧ ∀ i, i < k → okB (s.get! i) = true) (fun i => s.size - (intOf i).toNat)
  case atStart => exact ⟨0, Nat.zero_le _, rfl, fun i h => by omega⟩
  case round =>
    obtain ⟨k, hk, rfl, hok⟩ := hrel
    have HK := hide hok
    clear hok
    by_cases hlt : k < s.size
    · have HG := hide (get_bang s k hlt)
      have hc := HRW.out k hlt
      by_cases lo : s[k].toNat < 33
      · go_wp2
        go_ret
        exact ⟨ret_bool (okName_no hlt (by rw [HG.out]; exact decide_eq_false fun h => by omega)).symm, HN.out⟩
      · by_cases hi : 126 < s[k].toNat
        · go_wp2
          go_ret
          exact ⟨ret_bool (okName_no hlt (by rw [HG.out]; exact decide_eq_false fun h => by omega)).symm, HN.out⟩
        · have HB := hide (show okB (s.get! k) = true from by rw [HG.out]; exact decide_eq_true ⟨by omega, by omega⟩)
          go_wp2
          go_round
          case rel => exact ⟨k + 1, by omega, by go_num, fun i h => by
            by_cases e : i = k
            · rw [e]; exact HB.out
            · exact HK.out i (by omega)⟩
          case measure => simp [intOf]; omega
    · have hf : okName s = true := decide_eq_true ⟨by omega, by omega, fun i h => HK.out i (by omega)⟩
      go_wp2
      go_ret
      exact ⟨rfl, HN.out⟩
end Go.Proofs.YtpbpidfjecejcaaGreatDoor
namespace Go.Proofs.YtpbpidfjecejcaaGreatDoor
open Go.RowKit
def okEnt (nodes : Int) (e : ByteArray × Int) : Bool := decide (okName e.1 = true ∧ 0 ≤ e.2 ∧ e.2 < nodes)
def apart (x y : ByteArray × Int) : Bool := decide (Op.bytesLess x.1.toList y.1.toList = true ∧ x.2 ≠ y.2)
def okList (nodes : Int) (es : List (ByteArray × Int)) : Bool := decide (es.length ≤ 300 ∧ ∀ i (h : i < es.length), okEnt nodes es[i] = true ∧ ∀ k (hk : k < i), apart es[k] es[i] = true)
theorem okList_no1 {nodes : Int} {es : List (ByteArray × Int)} {i : Nat} (h : i < es.length) (hb : okEnt nodes es[i] = false) : okList nodes es = false := by
  unfold okList
  refine decide_eq_false fun h' => ?_
  rw [(h'.2 i h).1] at hb
  simp at hb
theorem okList_no2 {nodes : Int} {es : List (ByteArray × Int)} {i k : Nat} (h : i < es.length) (hk : k < i) (hb : apart es[k] es[i] = false) : okList nodes es = false := by
  unfold okList
  refine decide_eq_false fun h' => ?_
  rw [(h'.2 i h).2 k hk] at hb
  simp at hb
set_option maxRecDepth 20000 in
theorem l1InOrder_any (a : Option Addr) (cap : Nat) (es : List (ByteArray × Int)) (nodes : Int) (w : World) (hn : es.length ≤ 9223372036854775807) (hes : ∀ e ∈ es, e.1.size ≤ 9223372036854775807) (hr : EntAt w a es) :
    Calls Tryz.prog 71 #[.slice a es.length cap, .int .i64 nodes] w fun e w' => e = .returned (.bool (okList nodes es)) ∧ Below w.heap.size w w' := by
  by_cases h6 : 300 < es.length
  · have hf : okList nodes es = false := decide_eq_false fun h => by omega
    rw [hf]
    go_enter Tryz.func71, Tryz.ntmps71
    go_wp2
    go_ret
    exact ⟨rfl, Below.refl _ _⟩
  go_enter Tryz.func71, Tryz.ntmps71
  go_wp2
  go_loopw [13] (fun i wr => ∃ k : Nat, k ≤ es.length ∧ i = .int .i64 k ∧ (∀ i (h : i < es.length), i < k → okEnt nodes es[i] = true ∧ ∀ k (hk : k < i), apart es[k] es[i] = true) ∧ Below w.heap.size w wr) (fun i _ => es.length - (intOf i).toNat)
  case atStart => exact ⟨0, Nat.zero_le _, rfl, fun i _ h => by omega, Below.refl _ _⟩
  case round =>
    obtain ⟨k, hk, rfl, hok, hnx⟩ := hrel
    have HK := hide hok
    have HR := hide hr
    have HNX := hide hnx
    clear hok
    by_cases hlt : k < es.length
    · obtain ⟨b, off, ha, hc⟩ := (hr.below hnx) (by omega)
      have HA := hide ha
      subst ha
      obtain ⟨hc0, hc1⟩ := hc k hlt
      have hkl := hes _ (List.getElem_mem hlt)
      have HN := hide (hnx.alloc hnx.size (.cells #[.string es[k].1, .int .i64 es[k].2] 102))
      have HL := hide (Laid.new wr #[.string es[k].1, .int .i64 es[k].2] 102)
      have HNO := hide (okList_no1 (nodes := nodes) hlt)
      have HOK := hide (show okEnt nodes es[k] = decide (okName es[k].1 = true ∧ 0 ≤ es[k].2 ∧ es[k].2 < nodes) from rfl)
      clear hc hr hnx hes
      generalize hnm : es[k].1 = nm at hc0 HN HL HOK hkl
      generalize hnd : es[k].2 = nd at hc1 HN HL HOK
      have HNM := hide hnm
      have HND := hide hnd
      clear hnm hnd
      by_cases g1 : okName nm = true
      · go_wp2_with fail
        refine (l1GoodName_any nm _ hkl).mono ?_
        rintro e w2 ⟨rfl, rfl⟩
        rw [g1]
        have HG1 := hide g1
        clear g1 hc0 hc1
        by_cases g2 : nd < 0
        · go_wp2
          go_ret
          exact ⟨ret_bool (HNO.out (by rw [HOK.out]; exact decide_eq_false fun h => by omega)).symm, HN.out⟩
        by_cases g3 : nodes ≤ nd
        · go_wp2
          go_ret
          exact ⟨ret_bool (HNO.out (by rw [HOK.out]; exact decide_eq_false fun h => by omega)).symm, HN.out⟩
        go_wp2
        have HE := hide (show okEnt nodes es[k] = true from by rw [HOK.out]; exact decide_eq_true ⟨HG1.out, by omega, by omega⟩)
        generalize wr.alloc (.cells #[.string nm, .int .i64 nd] 102) = w3 at HN HL ⊢
        generalize wr.heap.size = B at HL ⊢
        clear HNX HNO HOK g2 g3 hkl
        go_loopw [7] (fun j wx => ∃ m : Nat, m ≤ k ∧ j = .int .i64 m ∧ (∀ i (h : i < es.length), i < m → apart es[i] es[k] = true) ∧ Below w.heap.size w wx ∧ Laid wx B #[.string nm, .int .i64 nd] 102) (fun j _ => k - (intOf j).toNat)
        case atStart => exact ⟨0, Nat.zero_le _, rfl, fun i _ h => by omega, HN.out, HL.out⟩
        case round =>
          obtain ⟨m, hm, rfl, hap, hnx, hl⟩ := hrel
          have HAP := hide hap
          have HN2 := hide hnx
          have HL2 := hide hl
          by_cases hmk : m < k
          · obtain ⟨b', off', hb', hcm⟩ := (HR.out.below hnx) (by omega)
            simp only [Option.some.injEq, Addr.mk.injEq, and_true] at hb'
            obtain ⟨rfl, rfl⟩ := hb'
            obtain ⟨hx0, hx1⟩ := hcm m (by omega)
            have q0 : wr.cell? ⟨B, 0, none⟩ = some (.string nm) := by rw [hl.cell]; rfl
            have q1 : wr.cell? ⟨B, 1, none⟩ = some (.int .i64 nd) := by rw [hl.cell]; rfl
            have HNO := hide (okList_no2 (nodes := nodes) hlt hmk)
            have HAD := hide (show apart es[m] es[k] = decide (Op.bytesLess es[m].1.toList nm.toList = true ∧ es[m].2 ≠ nd) from by unfold apart; rw [HNM.out, HND.out])
            clear hcm hnx hl hap
            generalize es[m].1 = xm at hx0 HAD
            generalize es[m].2 = xd at hx1 HAD
            by_cases hb1 : Op.bytesLess xm.toList nm.toList = true
            · by_cases hd1 : xd = nd
              · have hd2 : (xd == nd) = true := by simp [hd1]
                have HBAD := hide (HNO.out (by rw [HAD.out]; exact decide_eq_false fun h => h.2 hd1))
                clear hd1 HAD HNO
                go_wp2
                go_quiet (fail)
                go_wp2
                go_ret
                exact ⟨ret_bool HBAD.out.symm, below_drewN HN2.out _⟩
              · have hd2 : (xd == nd) = false := by simp [hd1]
                have HGOOD := hide (show apart es[m] es[k] = true from by rw [HAD.out]; exact decide_eq_true ⟨hb1, hd1⟩)
                clear hd1 HAD HNO
                go_wp2
                go_quiet (fail)
                go_wp2
                go_roundw
                case rel => exact ⟨m + 1, by omega, by go_num, fun i h h' => by
                  by_cases e : i = m
                  · subst e; exact HGOOD.out
                  · exact HAP.out i h (by omega), below_drewN HN2.out _, HL2.out⟩
                case measure => simp [intOf]; omega
            · have hb2 : Op.bytesLess xm.toList nm.toList = false := by simpa using hb1
              have HBAD := hide (HNO.out (by rw [HAD.out]; exact decide_eq_false fun h => hb1 h.1))
              clear hb1 HAD HNO
              go_wp2
              go_quiet (fail)
              go_wp2
              go_ret
              exact ⟨ret_bool HBAD.out.symm, below_drewN HN2.out _⟩
          · go_wp2
            refine ⟨⟨k + 1, by omega, by go_num, fun i h h' => ?_, HN2.out⟩, by simp [intOf]; omega⟩
            by_cases e : i = k
            · subst e; exact ⟨HE.out, fun j hj => HAP.out j (by omega) (by omega)⟩
            · exact HK.out i h (by omega)
      · have g1' : okName nm = false := by simpa using g1
        go_wp2_with fail
        refine (l1GoodName_any nm _ hkl).mono ?_
        rintro e w2 ⟨rfl, rfl⟩
        rw [g1']
        clear hc0 hc1
        go_wp2
        go_ret
        exact ⟨ret_bool (HNO.out (by rw [HOK.out]; exact decide_eq_false fun h => g1 h.1)).symm, HN.out⟩
    · have hf : okList nodes es = true := decide_eq_true ⟨by omega, fun i h => HK.out i h (by omega)⟩
      have HF := hide hf
      clear hf
      go_wp2
      go_ret
      exact ⟨ret_bool HF.out.symm, HNX.out⟩
end Go.Proofs.YtpbpidfjecejcaaGreatDoor
namespace Go.Proofs.YtpbpidfjecejcaaGreatDoor
open Go.RowKit Go.Maps
theorem less_trans : ∀ x y z : List UInt8, Op.bytesLess x y = true → Op.bytesLess y z = true → Op.bytesLess x z = true
  | _, _, [], _, h => by simp [Op.bytesLess] at h
  | [], _, _ :: _, _, _ => by simp [Op.bytesLess]
  | _ :: _, [], _ :: _, h, _ => by simp [Op.bytesLess] at h
  | a :: x, b :: y, c :: z, h1, h2 => by
    simp only [Op.bytesLess, Bool.or_eq_true, decide_eq_true_eq, Bool.and_eq_true, beq_iff_eq] at h1 h2 ⊢
    rcases h1 with h1 | ⟨rfl, h1⟩
    · rcases h2 with h2 | ⟨rfl, h2⟩
      · exact .inl (UInt8.lt_trans h1 h2)
      · exact .inl h1
    · rcases h2 with h2 | ⟨rfl, h2⟩
      · exact .inl h2
      · exact .inr ⟨rfl, less_trans x y z h1 h2⟩
/-- The nodes of the first k entries, as a set. -/
def nodesSet (es : List (ByteArray × Int)) (k : Nat) : DataW Unit := setOf (.agg []) ((es.take k).map fun e => Lit.int .i64 e.2)
theorem nodesSet_zero (es : List (ByteArray × Int)) : nodesSet es 0 = .map [] := rfl
theorem nodesSet_succ (es : List (ByteArray × Int)) (k : Nat) (h : k < es.length) : nodesSet es (k + 1) = (nodesSet es k).put (.int .i64 es[k].2) (.agg []) := by
  unfold nodesSet
  rw [List.take_succ_eq_append_getElem h, List.map_append]
  exact setOf_snoc _ _ _
theorem has_nodes (es : List (ByteArray × Int)) (k : Nat) (x : Int) : Maps.has (nodesSet es k) (.int .i64 x) = (es.take k).any (fun e => decide (e.2 = x)) := by
  unfold nodesSet
  rw [has_setOf _ _ _ (fun y hy => by obtain ⟨_, _, rfl⟩ := List.mem_map.1 hy; trivial), List.any_map]
  congr 1
  funext e
  simp [Lit.sameKey]
theorem has_nodes_true {es : List (ByteArray × Int)} {k : Nat} {x : Int} (h : Maps.has (nodesSet es k) (.int .i64 x) = true) : ∃ i, ∃ h : i < es.length, i < k ∧ es[i].2 = x := by
  rw [has_nodes, List.any_eq_true] at h
  obtain ⟨e, he, hx⟩ := h
  obtain ⟨i, hi, rfl⟩ := List.getElem_of_mem he
  simp at hi
  refine ⟨i, by omega, by omega, ?_⟩
  simpa using hx
theorem has_nodes_false {es : List (ByteArray × Int)} {k : Nat} {x : Int} (h : Maps.has (nodesSet es k) (.int .i64 x) = false) (i : Nat) (hi : i < es.length) (hk : i < k) : es[i].2 ≠ x := by
  intro e
  have : Maps.has (nodesSet es k) (.int .i64 x) = true := by
    rw [has_nodes, List.any_eq_true]
    exact ⟨es[i], List.mem_take_iff_getElem.2 ⟨i, by omega, rfl⟩, by simp [e]⟩
  rw [this] at h
  simp at h
theorem ownsMap_below {H : Type} {w w' : World} {P : Program} {k : TypeId} {R : Value → Option (DataW H × List MemPlace)} {b n B : Nat} {D : DataW H} (h : w.ownsMap P k R b n D) (hb : Below B w w') (hB : b < B) : w'.ownsMap P k R b n D := by
  obtain ⟨es, c, h1, rest⟩ := h
  exact ⟨es, c, (hb.block b hB).trans h1, rest⟩
end Go.Proofs.YtpbpidfjecejcaaGreatDoor
