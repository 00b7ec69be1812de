import Derived.Test.YtpccongphchagaaGreatDoorPkzo
import Derived.Deep.RegionHeld3
namespace Go.Proofs.YtpccongphchagaaGreatDoor
open Go.RowKit
set_option linter.unusedVariables false
/-- What DrawDiskDo hands back. -/
def DrwPost (w : World) (e : Ending) (w' : World) : Prop := ∃ a1 n1 c1 a2 n2 c2 a3 n3 c3 a4 n4 c4 q v b vs l, e = .returned (.tuple #[.agg #[.slice a1 n1 c1, .slice a2 n2 c2, .slice a3 n3 c3, .slice a4 n4 c4, .int .i64 q], v]) ∧ w.heap.size ≤ b ∧ OwnV w' b v vs l ∧ l.length ≤ 60 ∧ OpsB l ∧ Below w.heap.size w w'
theorem dr_end {w wa W : World} {b n1 c1 n2 c2 n3 c3 n4 c4 : Nat} {a1 a2 a3 a4 : Option Addr} {q : Int} {v z1 z2 z3 z4 z5 : Value} {vs : List V4} {l : List OpV} (hv : OwnV W b v vs l) (hl : l.length ≤ 60) (ho : OpsB l) (hb : w.heap.size ≤ b) (hA : Below w.heap.size w wa) (low : Below wa.heap.size wa W) (hL : Laid W w.heap.size #[z1, z2, z3, z4, z5] 27) : DrwPost w (.returned (.tuple #[.agg #[.slice a1 n1 c1, .slice a2 n2 c2, .slice a3 n3 c3, .slice a4 n4 c4, .int .i64 q], v])) (setD W w.heap.size (.slice a1 n1 c1) (.slice a2 n2 c2) (.slice a3 n3 c3) (.slice a4 n4 c4) (.int .i64 q)) := by
  have h1 : Below w.heap.size w W := hA.trans (low.mono hA.size)
  exact ⟨a1, n1, c1, a2, n2, c2, a3, n3, c3, a4, n4, c4, q, v, b, vs, l, rfl, hb, hv.setD hL _ _ _ _ _, hl, ho, h1.trans ((setD_fr _ _ _ _ _ _ _).below (fun g e => by omega) h1.size)⟩
set_option maxRecDepth 20000 in
set_option maxHeartbeats 8000000 in
theorem drawDo_in {w : World} {a : Option Addr} {cap : Nat} {code : List Nat} (hc : CodeW w a code) (hz : nx code 0 = 0) :
    Calls Tryz.prog 4 #[.slice a code.length cap] w (DrwPost w) := by
  have hA := (Below.refl w.heap.size w).alloc (Nat.le_refl _) (.cells #[.slice none 0 0, .slice none 0 0, .slice none 0 0, .slice none 0 0, .int .i64 0] 27)
  have LA := Laid.new w #[.slice none 0 0, .slice none 0 0, .slice none 0 0, .slice none 0 0, .int .i64 0] 27
  have sA : (w.alloc (.cells #[.slice none 0 0, .slice none 0 0, .slice none 0 0, .slice none 0 0, .int .i64 0] 27)).heap.size = w.heap.size + 1 := World.size_alloc ..
  go_enter Tryz.func4, Tryz.ntmps4
  go_upto_region 1 with fail
  generalize w.alloc (.cells #[.slice none 0 0, .slice none 0 0, .slice none 0 0, .slice none 0 0, .int .i64 0] 27) = wa at hA LA sA ⊢
  have hB := (Below.refl wa.heap.size wa).alloc (Nat.le_refl _) (.cells #[.slice a code.length cap, .int .i64 0] 52)
  have LB := Laid.new wa #[.slice a code.length cap, .int .i64 0] 52
  have hca : CodeW wa a code := ⟨hc.len, hc.row.below hA, hc.byte⟩
  have hrd : RdIn (wa.alloc (.cells #[.slice a code.length cap, .int .i64 0] 52)) wa (wa.alloc (.cells #[.slice a code.length cap, .int .i64 0] 52)) wa.heap.size a cap code 0 := ⟨by
    unfold Rd
    rw [Nat.zero_min]
    exact LB, hB, Nat.le_refl _, Kp.refl _ _⟩
  have HD := hide (l1Disk_in hca hz hrd)
  have HCA := hide hca
  have HA := hide hA
  have HLA := hide LA
  have hpw := LB.lt
  have HSA := hide sA
  clear hc hA LA hB LB hca hrd hz sA
  go_upto_region 2 with fail
  generalize wa.alloc (.cells #[.slice a code.length cap, .int .i64 0] 52) = W1 at HD hpw ⊢
  go_wp2_with fail
  refine HD.out.mono ?_
  rintro e w2 ⟨v1, v2, v3, v4, D, j, rfl, hdk, hv, hrd2, hlow2, hs2⟩
  have SP := hide (l1Spoilt_in HCA.out ⟨hrd2, hlow2, Nat.le_refl _, Kp.refl _ _⟩ hdk hv hpw)
  have hs2' := hlow2.size
  clear HD hdk hv hrd2 hlow2
  go_wp2_with fail
  refine SP.out.mono ?_
  rintro e w3 ⟨a1, n1, c1, a2, n2, c2, a3, n3, c3, a4, n4, c4, q, j3, rfl, hr3⟩
  have hal := (Below.refl w3.heap.size w3).alloc (Nat.le_refl _) (.cells #[.slice a1 n1 c1, .slice a2 n2 c2, .slice a3 n3 c3, .slice a4 n4 c4, .int .i64 q] 27)
  have L4 := Laid.new w3 #[.slice a1 n1 c1, .slice a2 n2 c2, .slice a3 n3 c3, .slice a4 n4 c4, .int .i64 q] 27
  have HR4 := hide ((hr3.below hal).anew)
  have HNE := hide (show ¬ w3.heap.size = wa.heap.size from by have := hr3.kp.size; omega)
  have hno : ¬ w3.heap.size = w.heap.size := by have := hr3.kp.size; have := HSA.out; omega
  have hno' : ¬ w.heap.size = w3.heap.size := by omega
  clear SP hr3 hal
  go_upto_region 3 with fail
  generalize w3.alloc (.cells #[.slice a1 n1 c1, .slice a2 n2 c2, .slice a3 n3 c3, .slice a4 n4 c4, .int .i64 q] 27) = W4 at HR4 L4 ⊢
  have q0 : W4.cell? ⟨w3.heap.size, 0, none⟩ = some (.slice a1 n1 c1) := L4.cell 0
  have q1 : W4.cell? ⟨w3.heap.size, 1, none⟩ = some (.slice a2 n2 c2) := L4.cell 1
  have q2 : W4.cell? ⟨w3.heap.size, 2, none⟩ = some (.slice a3 n3 c3) := L4.cell 2
  have q3 : W4.cell? ⟨w3.heap.size, 3, none⟩ = some (.slice a4 n4 c4) := L4.cell 3
  have q4 : W4.cell? ⟨w3.heap.size, 4, none⟩ = some (.int .i64 q) := L4.cell 4
  have OPS := hide (fun (X : World) (hb : Below W4.heap.size W4 X) => l1Ops_in 60 (by omega) HCA.out ((HR4.out.below hb).anew))
  have HLS := hide (fun (X : World) (hb : Below wa.heap.size wa X) => HLA.out.below hb HLA.out.lt)
  have HL4 := hide L4
  have HSZ := hide (show w.heap.size ≤ W4.heap.size from by have := HSA.out; have := HR4.out.low.size; omega)
  clear HLA L4
  go_wp2
  go_region_held3 (fun w' => w'.cell? ⟨w3.heap.size, 0, none⟩ = some (.slice a1 n1 c1) ∧ w'.cell? ⟨w3.heap.size, 1, none⟩ = some (.slice a2 n2 c2) ∧ w'.cell? ⟨w3.heap.size, 2, none⟩ = some (.slice a3 n3 c3) ∧ w'.cell? ⟨w3.heap.size, 3, none⟩ = some (.slice a4 n4 c4) ∧ w'.cell? ⟨w3.heap.size, 4, none⟩ = some (.int .i64 q)) (go_keep)
    (first
      | (go_at_call 15; refine (OPS.out _ (Below.refl _ _).drew).mono ?_; rintro e w5 ⟨v, vs, l, j5, rfl, hv5, hl5, hob5, hr5⟩; have L5 := HLS.out w5 hr5.low; have L5b := (hr5.kp.block w3.heap.size HL4.out.lt HNE.out).trans HL4.out; have r0 := Laid.cell L5b 0; have r1 := Laid.cell L5b 1; have r2 := Laid.cell L5b 2; have r3 := Laid.cell L5b 3; have r4 := Laid.cell L5b 4; clear L5b; have z0 : w5.cell? ⟨w.heap.size, 0, none⟩ = some (.slice none 0 0) := L5.cell 0; have z1 : w5.cell? ⟨w.heap.size, 1, none⟩ = some (.slice none 0 0) := L5.cell 1; have z2 : w5.cell? ⟨w.heap.size, 2, none⟩ = some (.slice none 0 0) := L5.cell 2; have z3 : w5.cell? ⟨w.heap.size, 3, none⟩ = some (.slice none 0 0) := L5.cell 3; have z4 : w5.cell? ⟨w.heap.size, 4, none⟩ = some (.int .i64 0) := L5.cell 4; have f0 := frozen_of_row w5 w.heap.size 0 _ _ L5; have f1 := frozen_of_row w5 w.heap.size 1 _ _ L5; have f2 := frozen_of_row w5 w.heap.size 2 _ _ L5; have f3 := frozen_of_row w5 w.heap.size 3 _ _ L5; have f4 := frozen_of_row w5 w.heap.size 4 _ _ L5; have HE5 := hide (dr_end (a1 := a1) (n1 := n1) (c1 := c1) (a2 := a2) (n2 := n2) (c2 := c2) (a3 := a3) (n3 := n3) (c3 := c3) (a4 := a4) (n4 := n4) (c4 := c4) (q := q) hv5 hl5 hob5 HSZ.out HA.out hr5.low L5); have HL5 := hide L5; clear L5 hv5 hl5 hob5 hr5)
      | fail)
  all_goals
    go_wp2
    exact bodyPost_ret (ret_one w.heap.size _ _ _ _ _ _ _ rfl rfl rfl (set_disk _ _ _ _ _ HL5.out)) rfl HE5.out
end Go.Proofs.YtpccongphchagaaGreatDoor
