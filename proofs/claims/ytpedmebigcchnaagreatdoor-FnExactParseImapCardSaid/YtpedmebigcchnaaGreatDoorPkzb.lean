import Derived.Test.YtpedmebigcchnaaGreatDoorPkza
namespace Go.Proofs.YtpedmebigcchnaaGreatDoor
open Go.RowKit
set_option linter.unusedVariables false
structure AV (W : World) (b : Nat) : Prop where
  a1 : Blk W (b + 5) #[.int .i64 1] 3
  a2 : Blk W (b + 6) #[.int .i64 2] 3
  a3 : Blk W (b + 7) #[.int .i64 11] 3
def imE (b : Nat) : List (ByteArray × Value) := setE b ++ [(⟨#[78, 79, 79, 80]⟩, vAl (b + 5))] ++ [(⟨#[76, 79, 71, 79, 85, 84]⟩, vAl (b + 6))] ++ [(⟨#[69, 88, 80, 85, 78, 71, 69]⟩, vAl (b + 7))]
set_option maxRecDepth 20000 in
set_option maxHeartbeats 1000000 in
theorem imapVerbs_any (w : World) :
    Calls Tryz.prog 44 #[] w fun e w' => e = .returned (.map (some w.heap.size)) ∧ MapF w' w.heap.size (imE w.heap.size) ∧ SV w' w.heap.size ∧ AV w' w.heap.size ∧ Below w.heap.size w w' ∧ w'.heap.size = w.heap.size + 8 := by
  go_enter Tryz.func44, Tryz.ntmps44
  go_wp2_with fail
  refine (setVerbs_any w).mono ?_
  rintro e W0 ⟨rfl, m0, s0, b0, z0⟩
  have M0 := hide m0
  have S0 := hide s0
  have B0 := hide b0
  have Z0 := hide z0
  clear m0 s0 b0 z0
  go_wp2_with fail
  refine (aloneV_any 1 W0).mono ?_
  rintro e X0 ⟨rfl, hX⟩
  have hal := (Below.refl W0.heap.size W0).alloc (Nat.le_refl _) (.cells #[.int .i64 1] 3)
  have hbk := blk_new W0 #[.int .i64 1] 3
  rw [← hX, Z0.out] at hal
  rw [← hX, Z0.out] at hbk
  have hzz : X0.heap.size = w.heap.size + 6 := by rw [hX, World.size_alloc, Z0.out]
  have MX0 := hide (M0.out.below hal (by omega))
  have SX0 := hide (S0.out.below hal (by omega))
  have BX0 := hide (B0.out.trans (hal.mono (by have h := Z0.out; omega)))
  have KX0_0 := hide hbk
  have hz : W0.heap.size = w.heap.size + 5 := Z0.out
  have ZX0 := hide hzz
  clear hX hal hbk hzz
  rw [hz]
  clear hz
  go_wp2_with (first | (refine wpList_update_f _ rfl _ _ _ 74 73 rfl Tryz.underlying74 Tryz.underlying9 w.heap.size _ ⟨#[78, 79, 79, 80]⟩ (vAl (w.heap.size + 5)) rfl rfl rfl MX0.out (lookF_none (by kernel_rfl)) ?_; intro W1 a1 a2 a3 a4; have M1 := hide a1; have B1 := hide (ins_below BX0.out (Nat.le_refl _) a2 a3 a4); have S1 := hide (show SV W1 w.heap.size from ⟨(a2 _ (by omega)).trans SX0.out.k1, (a2 _ (by omega)).trans SX0.out.v1, (a2 _ (by omega)).trans SX0.out.k2, (a2 _ (by omega)).trans SX0.out.v2⟩); have K1_0 := hide (show Blk W1 (w.heap.size + 5) #[.int .i64 1] 3 from (a2 _ (by omega)).trans KX0_0.out); have Z1 := hide (show W1.heap.size = w.heap.size + 6 from by have h := ZX0.out; omega); clear a1 a2 a3 a4) | fail)
  go_wp2_with fail
  refine (aloneV_any 2 W1).mono ?_
  rintro e X1 ⟨rfl, hX⟩
  have hal := (Below.refl W1.heap.size W1).alloc (Nat.le_refl _) (.cells #[.int .i64 2] 3)
  have hbk := blk_new W1 #[.int .i64 2] 3
  rw [← hX, Z1.out] at hal
  rw [← hX, Z1.out] at hbk
  have hzz : X1.heap.size = w.heap.size + 7 := by rw [hX, World.size_alloc, Z1.out]
  have MX1 := hide (M1.out.below hal (by omega))
  have SX1 := hide (S1.out.below hal (by omega))
  have BX1 := hide (B1.out.trans (hal.mono (by have h := Z1.out; omega)))
  have KX1_0 := hide (K1_0.out.below hal (by omega))
  have KX1_1 := hide hbk
  have hz : W1.heap.size = w.heap.size + 6 := Z1.out
  have ZX1 := hide hzz
  clear hX hal hbk hzz
  rw [hz]
  clear hz
  go_wp2_with (first | (refine wpList_update_f _ rfl _ _ _ 74 73 rfl Tryz.underlying74 Tryz.underlying9 w.heap.size _ ⟨#[76, 79, 71, 79, 85, 84]⟩ (vAl (w.heap.size + 6)) rfl rfl rfl MX1.out (lookF_none (by kernel_rfl)) ?_; intro W2 a1 a2 a3 a4; have M2 := hide a1; have B2 := hide (ins_below BX1.out (Nat.le_refl _) a2 a3 a4); have S2 := hide (show SV W2 w.heap.size from ⟨(a2 _ (by omega)).trans SX1.out.k1, (a2 _ (by omega)).trans SX1.out.v1, (a2 _ (by omega)).trans SX1.out.k2, (a2 _ (by omega)).trans SX1.out.v2⟩); have K2_0 := hide (show Blk W2 (w.heap.size + 5) #[.int .i64 1] 3 from (a2 _ (by omega)).trans KX1_0.out); have K2_1 := hide (show Blk W2 (w.heap.size + 6) #[.int .i64 2] 3 from (a2 _ (by omega)).trans KX1_1.out); have Z2 := hide (show W2.heap.size = w.heap.size + 7 from by have h := ZX1.out; omega); clear a1 a2 a3 a4) | fail)
  go_wp2_with fail
  refine (aloneV_any 11 W2).mono ?_
  rintro e X2 ⟨rfl, hX⟩
  have hal := (Below.refl W2.heap.size W2).alloc (Nat.le_refl _) (.cells #[.int .i64 11] 3)
  have hbk := blk_new W2 #[.int .i64 11] 3
  rw [← hX, Z2.out] at hal
  rw [← hX, Z2.out] at hbk
  have hzz : X2.heap.size = w.heap.size + 8 := by rw [hX, World.size_alloc, Z2.out]
  have MX2 := hide (M2.out.below hal (by omega))
  have SX2 := hide (S2.out.below hal (by omega))
  have BX2 := hide (B2.out.trans (hal.mono (by have h := Z2.out; omega)))
  have KX2_0 := hide (K2_0.out.below hal (by omega))
  have KX2_1 := hide (K2_1.out.below hal (by omega))
  have KX2_2 := hide hbk
  have hz : W2.heap.size = w.heap.size + 7 := Z2.out
  have ZX2 := hide hzz
  clear hX hal hbk hzz
  rw [hz]
  clear hz
  go_wp2_with (first | (refine wpList_update_f _ rfl _ _ _ 74 73 rfl Tryz.underlying74 Tryz.underlying9 w.heap.size _ ⟨#[69, 88, 80, 85, 78, 71, 69]⟩ (vAl (w.heap.size + 7)) rfl rfl rfl MX2.out (lookF_none (by kernel_rfl)) ?_; intro W3 a1 a2 a3 a4; have M3 := hide a1; have B3 := hide (ins_below BX2.out (Nat.le_refl _) a2 a3 a4); have S3 := hide (show SV W3 w.heap.size from ⟨(a2 _ (by omega)).trans SX2.out.k1, (a2 _ (by omega)).trans SX2.out.v1, (a2 _ (by omega)).trans SX2.out.k2, (a2 _ (by omega)).trans SX2.out.v2⟩); have K3_0 := hide (show Blk W3 (w.heap.size + 5) #[.int .i64 1] 3 from (a2 _ (by omega)).trans KX2_0.out); have K3_1 := hide (show Blk W3 (w.heap.size + 6) #[.int .i64 2] 3 from (a2 _ (by omega)).trans KX2_1.out); have K3_2 := hide (show Blk W3 (w.heap.size + 7) #[.int .i64 11] 3 from (a2 _ (by omega)).trans KX2_2.out); have Z3 := hide (show W3.heap.size = w.heap.size + 8 from by have h := ZX2.out; omega); clear a1 a2 a3 a4) | fail)
  go_ret
  exact ⟨rfl, M3.out, S3.out, ⟨K3_0.out, K3_1.out, K3_2.out⟩, B3.out, Z3.out⟩
theorem VD.base {gr gc : Nat} {ud : Bool} {R : Option MF} {w w2 w' : World} (h : VD gr gc ud R w2 w') (t : Two gr gc w w2) : VD gr gc ud R w w' := by
  obtain ⟨r, fd, m, sa, sn, sc, ba, bn, bc, h1, h2, h3, h4, h5, h6, h7, h8, h9⟩ := h
  exact ⟨r, fd, m, sa, sn, sc, ba, bn, bc, h1, h2, t.trans h3, h4.mono t.size, h5.mono t.size, h6, h7, h8, h9⟩
theorem VD.none {gr gc : Nat} {ud : Bool} {s : ByteArray} {w w' : World} (hr : RdB w' gr s true) (hc : CmI w' gc 0 ⟨#[]⟩ ud (.slice none 0 0) 0 0 0 (.slice none 0 0)) (t : Two gr gc w w') : VD gr gc ud none w w' :=
  ⟨s, true, noF, Option.none, 0, 0, Option.none, 0, 0, hr, hc, t, OwnP.nil _ _, OwnB.nil _ _, .inl rfl, rfl, (fun h _ => by cases h), (fun _ => rfl)⟩
set_option maxRecDepth 20000 in
set_option maxHeartbeats 1000000 in
theorem literal_any (gr gc : Nat) (ab : Option Addr) (cb : Nat) (b : List Nat) (s : ByteArray) (w : World) (hs : s.size ≤ 1048576) (hlb : b.length ≤ 1048576) (hr : RdB w gr s false) (hc : CmI w gc 0 ⟨#[]⟩ false (.slice none 0 0) 0 0 0 (.slice none 0 0)) (hne : gr ≠ gc) (hRB : ∀ X, Two gr gc w X → RowAt X ab b) (hM : ∀ X, Two gr gc w X → MaxL X) (hE : ∀ X, Two gr gc w X → Env X) :
    Calls Tryz.prog 23 #[.pointer (some ⟨gr, 0, none⟩), .slice ab b.length cb, .pointer (some ⟨gc, 0, none⟩)] w fun e w' => (∃ v, e = .returned v) ∧ VD gr gc false (imOf true b s.data.toList) w w' := by
  have HR := hide hr
  have HC := hide hc
  have HRB := hide hRB
  have HM := hide hM
  have HE := hide hE
  have hgr := hr.lt
  have hgc := hc.lt
  have hsl : s.data.toList.length ≤ 1048576 := hs
  have hzv : ∀ w : World, (zeroValue 73).run Tryz.prog w = .ok .nilFunc w := fun w => by kernel_rfl
  have HZ := hide hzv
  have HU := hide (show upB (pcB s) = upT (pcL s.data.toList) from upB_T rfl)
  generalize hR : imOf true b s.data.toList = R
  have HRR := hide hR
  clear hr hc hRB hM hE hzv hR
  go_enter Tryz.func23, Tryz.ntmps23
  go_wp2_with fail
  refine (literalVerbs_any ab b.length cb w).mono ?_
  rintro e W1 ⟨rfl, m1, k1, b1⟩
  have T1 := hide (Two.of_below (b1 := gr) (b2 := gc) b1)
  have H1 := hide (HR.out.below b1 hgr)
  have C1 := hide (HC.out.below b1 hgc)
  have M1 := hide m1
  have K1 := hide k1
  clear m1 k1 b1
  go_wp2_with fail
  refine (word_any gr gr s false W1 hs H1.out (HE.out W1 T1.out)).mono ?_
  rintro e w2 ⟨rfl, h2, t2⟩
  have T2 := hide (T1.out.trans (t2.one (gc := gc)))
  have H2 := hide h2
  have C2 := hide (CmI.two C1.out t2 hne)
  have M2 := hide (M1.out.two t2 (by omega) (by omega))
  have K2 := hide (K1.out.two t2 (by omega) (by omega))
  clear h2 t2 H1 C1 M1 K1
  have HFO : Hid (Calls Tryz.prog 41 #[.pointer (some ⟨gr, 0, none⟩), (lookF [(⟨#[65, 80, 80, 69, 78, 68]⟩, vApp (w.heap.size + 1))] (upB (pcB s))).getD .nilFunc, .pointer (some ⟨gc, 0, none⟩)] w2 fun e w' => (∃ v, e = .returned v) ∧ VD gr gc false R w w') := hide (by
    by_cases hu : upB (pcB s) = ⟨#[65, 80, 80, 69, 78, 68]⟩
    · rw [lookF, if_pos hu]
      show Calls _ _ #[_, vApp (w.heap.size + 1), _] _ _
      unfold vApp
      refine follow_app gr gc (w.heap.size + 1) w2 (fun w' => VD gr gc false R w w') ?_
      have hap := append_any gr gc (w.heap.size + 1) ab cb b false s.data.toList (bhB s) false w2 rfl hsl hlb H2.out C2.out K2.out hne ⟨by omega, by omega⟩ (fun X h => HRB.out X (T2.out.trans h)) (fun X h => HM.out X (T2.out.trans h))
      refine hap.mono ?_
      rintro e w3 ⟨hv, hd⟩
      refine ⟨hv, ?_⟩
      have hq : (if (false || !hbL s.data.toList) = true then none else onApp b (nbL s.data.toList)) = R := by
        rw [← HRR.out]
        cases hh : hbL s.data.toList with
        | true => rw [im_app ⟨HU.out.symm.trans hu, hh⟩]; rfl
        | false => rw [im_app_no (fun h => by rw [hh] at h; cases h.2)]; rfl
      rw [hq] at hd
      exact hd.base T2.out
    · rw [lookF, if_neg hu, lookF]
      show Calls _ _ #[_, .nilFunc, _] _ _
      refine (follow_nil gr gc (bhB s) false w2 H2.out).mono ?_
      rintro e w3 ⟨hv, h3, t3⟩
      refine ⟨hv, ?_⟩
      have hq : R = none := by rw [← HRR.out]; exact im_app_no (fun h => hu (HU.out.trans h.1))
      rw [hq]
      exact VD.none h3 (CmI.two C2.out t3 hne) (T2.out.trans (t3.one (gc := gc))))
  go_wp2_with (first
    | (at_lookup; refine wpList_lookup_f _ rfl _ _ 74 73 rfl Tryz.underlying74 Tryz.underlying9 (HZ.out _) w.heap.size _ (upB (pcB s)) rfl rfl M2.out ?_)
    | fail)
  refine HFO.out.mono ?_
  rintro e w3 ⟨⟨v3, rfl⟩, hd⟩
  have HD := hide hd
  clear hd
  go_wp2
  go_end0
  exact ⟨⟨_, rfl⟩, HD.out⟩
end Go.Proofs.YtpedmebigcchnaaGreatDoor
namespace Go.Proofs.YtpedmebigcchnaaGreatDoor
open Go.RowKit
set_option linter.unusedVariables false
def cmZ : Array Value := cmI 0 ⟨#[]⟩ false (.slice none 0 0) 0 0 0 (.slice none 0 0)
theorem box2Y (w : World) (A cs : Array Value) (t : TypeId) : Blk ((w.alloc (.cells A t)).alloc (.cells cs t)) (w.heap.size + 1) cs t ∧ Below w.heap.size w ((w.alloc (.cells A t)).alloc (.cells cs t)) := ⟨(box2 w A cs t t).2.1, (box2 w A cs t t).2.2.1⟩
set_option maxRecDepth 20000 in
set_option maxHeartbeats 1000000 in
theorem wholeI_any (gr : Nat) (s : ByteArray) (f : Bool) (K : Int) (tag : ByteArray) (ud : Bool) (sa : Option Addr) (sn sc : Nat) (it md fl : Int) (ba : Option Addr) (bn bc : Nat) (w : World) (hr : RdB w gr s f) :
    Calls Tryz.prog 25 #[.pointer (some ⟨gr, 0, none⟩), .agg (cmI K tag ud (.slice sa sn sc) it md fl (.slice ba bn bc))] w fun e w' => e = .returned (.agg (if f = false ∧ s.data.toList = [] then cmI K tag ud (.slice sa sn sc) it md fl (.slice ba bn bc) else cmZ)) ∧ Below w.heap.size w w' := by
  have r2 := hr.below (box2Y w (cmI K tag ud (.slice sa sn sc) it md fl (.slice ba bn bc)) cmZ 29).2 hr.lt
  have c0 : ((w.alloc (.cells (cmI K tag ud (.slice sa sn sc) it md fl (.slice ba bn bc)) 29)).alloc (.cells cmZ 29)).cell? ⟨gr, 0, none⟩ = some (.string s) := r2.cell 0
  have c1 : ((w.alloc (.cells (cmI K tag ud (.slice sa sn sc) it md fl (.slice ba bn bc)) 29)).alloc (.cells cmZ 29)).cell? ⟨gr, 1, none⟩ = some (.bool f) := r2.cell 1
  have HY := hide (fun cs : Array Value => box2Y w (cmI K tag ud (.slice sa sn sc) it md fl (.slice ba bn bc)) cs 29)
  clear hr r2
  unfold cmZ at c0 c1
  unfold cmI at c0 c1 ⊢
  by_cases hg : f = false ∧ s.data.toList = []
  · rw [if_pos hg]
    obtain ⟨rfl, hs⟩ := hg
    have hs2 : s.toList.isEmpty = true := by rw [ByteArray.toList_eq, hs]; rfl
    clear hs
    go_enter Tryz.func25, Tryz.ntmps25
    go_wp2
    exact bodyPost_ret (ret_cmdI (w.heap.size + 1) _ (cmI K tag ud (.slice sa sn sc) it md fl (.slice ba bn bc)) rfl rfl rfl (HY.out _).1) rfl ⟨rfl, (HY.out _).2⟩
  · rw [if_neg hg]
    cases f with
    | true =>
      clear hg
      go_enter Tryz.func25, Tryz.ntmps25
      go_wp2
      exact bodyPost_ret (ret_cmdI (w.heap.size + 1) _ cmZ rfl rfl rfl (HY.out cmZ).1) rfl ⟨rfl, (HY.out cmZ).2⟩
    | false =>
      have hs2 : s.toList.isEmpty = false := by
        rw [ByteArray.toList_eq]
        have : ¬ s.data.toList = [] := fun h => hg ⟨rfl, h⟩
        simpa using this
      clear hg
      go_enter Tryz.func25, Tryz.ntmps25
      go_wp2
      exact bodyPost_ret (ret_cmdI (w.heap.size + 1) _ cmZ rfl rfl rfl (HY.out cmZ).1) rfl ⟨rfl, (HY.out cmZ).2⟩
end Go.Proofs.YtpedmebigcchnaaGreatDoor
namespace Go.Proofs.YtpedmebigcchnaaGreatDoor
open Go.RowKit
set_option linter.unusedVariables false
theorem onSet_other {u : ByteArray} {t : List UInt8} (h1 : ¬ u = ⟨#[70, 69, 84, 67, 72]⟩) (h2 : ¬ u = ⟨#[83, 84, 79, 82, 69]⟩) : onSet u t = none := by
  cases h : setOf (pcL t) with
  | none => exact onSet_no2 h
  | some ps => exact onSet_o h h1 h2
set_option maxRecDepth 20000 in
theorem follow_set (gr gc b : Nat) (ud : Bool) (u : ByteArray) (t : List UInt8) (s : ByteArray) (f : Bool) (w : World) (hst : s.data.toList = bhL t) (hs : t.length ≤ 1048576) (hr : RdB w gr s f) (hc : CmI w gc 0 ⟨#[]⟩ ud (.slice none 0 0) 0 0 0 (.slice none 0 0)) (hV : SV w b) (hne : gr ≠ gc) (hgb : gr < b ∧ gc < b) (hM : ∀ X, Two gr gc w X → MaxL X) (hE : ∀ X, Two gr gc w X → Env X) :
    Calls Tryz.prog 41 #[.pointer (some ⟨gr, 0, none⟩), (lookF (setE b) u).getD .nilFunc, .pointer (some ⟨gc, 0, none⟩)] w fun e w' => (∃ v, e = .returned v) ∧ VD gr gc ud (if (f || !hbL t) = true then none else onSet u (nbL t)) w w' := by
  unfold setE
  by_cases h1 : u = ⟨#[70, 69, 84, 67, 72]⟩
  · subst h1
    rw [lookF, if_pos rfl]
    show Calls _ _ #[_, vOver (b + 1) (b + 2), _] _ _
    unfold vOver
    exact follow_over gr gc (b + 1) (b + 2) w (fun w' => VD gr gc ud (if (f || !hbL t) = true then none else onSet ⟨#[70, 69, 84, 67, 72]⟩ (nbL t)) w w') (over_fetch gr gc (b + 1) (b + 2) ud t s f w hst hs hr hc hV.k1 hV.v1 hne ⟨by omega, by omega⟩ ⟨by omega, by omega⟩ hM hE)
  by_cases h2 : u = ⟨#[83, 84, 79, 82, 69]⟩
  · subst h2
    rw [lookF, if_neg h1, lookF, if_pos rfl]
    show Calls _ _ #[_, vOver (b + 3) (b + 4), _] _ _
    unfold vOver
    exact follow_over gr gc (b + 3) (b + 4) w (fun w' => VD gr gc ud (if (f || !hbL t) = true then none else onSet ⟨#[83, 84, 79, 82, 69]⟩ (nbL t)) w w') (over_store gr gc (b + 3) (b + 4) ud t s f w hst hs hr hc hV.k2 hV.v2 hne ⟨by omega, by omega⟩ ⟨by omega, by omega⟩ hM hE)
  · rw [lookF, if_neg h1, lookF, if_neg h2, lookF]
    show Calls _ _ #[_, .nilFunc, _] _ _
    refine (follow_nil gr gc s f w hr).mono ?_
    rintro e w3 ⟨hv, h3, t3⟩
    refine ⟨hv, ?_⟩
    have hq : (if (f || !hbL t) = true then none else onSet u (nbL t)) = none := by
      rw [onSet_other h1 h2]
      split <;> rfl
    rw [hq]
    exact VD.none h3 (CmI.two hc t3 hne) t3.one
theorem alone_im {b0 : List Nat} {t : List UInt8} {u : ByteArray} {k : Int} (hu : upT (pcL t) = u) (h1 : ¬ u = ⟨#[70, 69, 84, 67, 72]⟩) (h2 : ¬ u = ⟨#[83, 84, 79, 82, 69]⟩) (h3 : ¬ u = ⟨#[85, 73, 68]⟩) (hk : hbL t = false → imOf false b0 t = some ⟨k, false, [], 0, 0, 0, []⟩) : onAlone k false t = imOf false b0 t := by
  unfold onAlone
  cases hh : hbL t with
  | false => rw [if_pos ⟨rfl, rfl⟩, hk hh]
  | true =>
    rw [if_neg (fun h => by cases h.2), im_set hh (by rw [hu]; exact h3), hu, onSet_other h1 h2]
set_option maxRecDepth 20000 in
theorem follow_im (gr gc b : Nat) (ud : Bool) (b0 : List Nat) (u : ByteArray) (t : List UInt8) (s : ByteArray) (w : World) (hu : upT (pcL t) = u) (hU : ¬ u = ⟨#[85, 73, 68]⟩) (hst : s.data.toList = bhL t) (hs : t.length ≤ 1048576) (hr : RdB w gr s false) (hc : CmI w gc 0 ⟨#[]⟩ ud (.slice none 0 0) 0 0 0 (.slice none 0 0)) (hV : SV w b) (hA : AV w b) (hne : gr ≠ gc) (hgb : gr < b ∧ gc < b) (hM : ∀ X, Two gr gc w X → MaxL X) (hE : ∀ X, Two gr gc w X → Env X) :
    Calls Tryz.prog 41 #[.pointer (some ⟨gr, 0, none⟩), (lookF (imE b) u).getD .nilFunc, .pointer (some ⟨gc, 0, none⟩)] w fun e w' => (∃ v, e = .returned v) ∧ VD gr gc ud (imOf false b0 t) w w' := by
  have hset : (u = ⟨#[70, 69, 84, 67, 72]⟩ ∨ u = ⟨#[83, 84, 79, 82, 69]⟩) → (if (false || !hbL t) = true then none else onSet u (nbL t)) = imOf false b0 t := by
    intro hor
    cases hh : hbL t with
    | true => rw [im_set hh (by rw [hu]; exact hU), hu]; rfl
    | false =>
      rw [im_short hh, hu]
      rcases hor with rfl | rfl
      · show none = _
        rw [if_neg (by decide), if_neg (by decide), if_neg (by decide)]
      · show none = _
        rw [if_neg (by decide), if_neg (by decide), if_neg (by decide)]
  by_cases h1 : u = ⟨#[70, 69, 84, 67, 72]⟩ ∨ u = ⟨#[83, 84, 79, 82, 69]⟩
  · have hl : lookF (imE b) u = lookF (setE b) u := by
      rcases h1 with rfl | rfl <;> rfl
    rw [hl, ← hset h1]
    exact follow_set gr gc b ud u t s false w hst hs hr hc hV hne hgb hM hE
  have hF : ¬ u = ⟨#[70, 69, 84, 67, 72]⟩ := fun h => h1 (.inl h)
  have hS : ¬ u = ⟨#[83, 84, 79, 82, 69]⟩ := fun h => h1 (.inr h)
  by_cases n0 : u = ⟨#[78, 79, 79, 80]⟩
  · subst n0
    have hl : lookF (imE b) ⟨#[78, 79, 79, 80]⟩ = some (vAl (b + 5)) := rfl
    rw [hl]
    show Calls _ _ #[_, vAl (b + 5), _] _ _
    unfold vAl
    have hq : onAlone 1 false t = imOf false b0 t := alone_im hu hF hS hU (fun hh => by rw [im_short hh, if_pos hu])
    rw [← hq]
    exact follow_alone gr gc (b + 5) w (fun w' => VD gr gc ud (onAlone 1 false t) w w') (aloneI_any gr gc (b + 5) 1 ud t s false w hst hr hc hA.a1 hne)
  by_cases n1 : u = ⟨#[76, 79, 71, 79, 85, 84]⟩
  · subst n1
    have hl : lookF (imE b) ⟨#[76, 79, 71, 79, 85, 84]⟩ = some (vAl (b + 6)) := rfl
    rw [hl]
    show Calls _ _ #[_, vAl (b + 6), _] _ _
    unfold vAl
    have hq : onAlone 2 false t = imOf false b0 t := alone_im hu hF hS hU (fun hh => by rw [im_short hh, if_neg (by rw [hu]; decide), if_pos hu])
    rw [← hq]
    exact follow_alone gr gc (b + 6) w (fun w' => VD gr gc ud (onAlone 2 false t) w w') (aloneI_any gr gc (b + 6) 2 ud t s false w hst hr hc hA.a2 hne)
  by_cases n2 : u = ⟨#[69, 88, 80, 85, 78, 71, 69]⟩
  · subst n2
    have hl : lookF (imE b) ⟨#[69, 88, 80, 85, 78, 71, 69]⟩ = some (vAl (b + 7)) := rfl
    rw [hl]
    show Calls _ _ #[_, vAl (b + 7), _] _ _
    unfold vAl
    have hq : onAlone 11 false t = imOf false b0 t := alone_im hu hF hS hU (fun hh => by rw [im_short hh, if_neg (by rw [hu]; decide), if_neg (by rw [hu]; decide), if_pos hu])
    rw [← hq]
    exact follow_alone gr gc (b + 7) w (fun w' => VD gr gc ud (onAlone 11 false t) w w') (aloneI_any gr gc (b + 7) 11 ud t s false w hst hr hc hA.a3 hne)
  have hl : lookF (imE b) u = none := by
    unfold imE setE
    simp only [List.cons_append, List.nil_append]
    rw [lookF, if_neg hF, lookF, if_neg hS, lookF, if_neg n0, lookF, if_neg n1, lookF, if_neg n2, lookF]
  rw [hl]
  show Calls _ _ #[_, .nilFunc, _] _ _
  refine (follow_nil gr gc s false w hr).mono ?_
  rintro e w3 ⟨hv, h3, t3⟩
  refine ⟨hv, ?_⟩
  have hq : imOf false b0 t = none := by
    cases hh : hbL t with
    | true => rw [im_set hh (by rw [hu]; exact hU), hu, onSet_other hF hS]
    | false => rw [im_short hh, hu, if_neg n0, if_neg n1, if_neg n2]
  rw [hq]
  exact VD.none h3 (CmI.two hc t3 hne) t3.one
end Go.Proofs.YtpedmebigcchnaaGreatDoor
