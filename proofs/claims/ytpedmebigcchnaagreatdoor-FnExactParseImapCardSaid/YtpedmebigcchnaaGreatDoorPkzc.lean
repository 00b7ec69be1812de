import Derived.Test.YtpedmebigcchnaaGreatDoorPkzb
namespace Go.Proofs.YtpedmebigcchnaaGreatDoor
open Go.RowKit
set_option linter.unusedVariables false
def putUid (ud : Bool) (m : MF) : MF := { m with uid := ud }
theorem uid_fin {b0 : List Nat} {t : List UInt8} (hu : upT (pcL t) = ⟨#[85, 73, 68]⟩) : imOf false b0 t = (if ((false || !hbL t) || !hbL (nbL t)) = true then none else onSet (upT (pcL (nbL t))) (nbL (nbL t))).map (putUid true) := by
  cases hh : hbL t with
  | false =>
    rw [im_short hh, hu, if_neg (by decide), if_neg (by decide), if_neg (by decide)]
    rfl
  | true =>
    have e : imOf false b0 t = (onSet (upT (pcL (nbL t))) (nbL (nbL t))).map withUid := by
      unfold imOf
      rw [if_neg (by simp), if_neg (by rw [hh]; simp), if_pos hu]
    rw [e]
    cases h2 : hbL (nbL t) with
    | false => rw [(bh_no h2).2, onSet_no1 rfl]; rfl
    | true => rfl
theorem same_uid {b0 : List Nat} {t : List UInt8} (hu : ¬ upT (pcL t) = ⟨#[85, 73, 68]⟩) : imOf false b0 t = (imOf false b0 t).map (putUid false) := by
  cases e : imOf false b0 t with
  | none => rfl
  | some m =>
    have hm : m.uid = false := by
      cases hh : hbL t with
      | true => rw [im_set hh hu] at e; exact (onSet_kind e).2
      | false =>
        rw [im_short hh] at e
        repeat' split at e
        all_goals first
          | (simp only [Option.some.injEq] at e; subst e; rfl)
          | (cases e; done)
    show some m = some (putUid false m)
    unfold putUid
    rw [← hm]
set_option maxRecDepth 20000 in
set_option maxHeartbeats 1000000 in
theorem imap_any (gr gc : Nat) (b0 : List Nat) (s : ByteArray) (w : World) (hs : s.size ≤ 1048576) (hr : RdB w gr s false) (hc : CmI w gc 0 ⟨#[]⟩ false (.slice none 0 0) 0 0 0 (.slice none 0 0)) (hne : gr ≠ gc) (hM : ∀ X, Two gr gc w X → MaxL X) (hE : ∀ X, Two gr gc w X → Env X) :
    Calls Tryz.prog 24 #[.pointer (some ⟨gr, 0, none⟩), .pointer (some ⟨gc, 0, none⟩)] w fun e w' => (∃ v, e = .returned v) ∧ ∃ ud R0, VD gr gc ud R0 w w' ∧ imOf false b0 s.data.toList = R0.map (putUid ud) := by
  have HR := hide hr
  have HC := hide hc
  have HM := hide hM
  have HE := hide hE
  have hgr := hr.lt
  have hgc := hc.lt
  have hsl : s.data.toList.length ≤ 1048576 := hs
  have hzv : ∀ w : World, (zeroValue 73).run Tryz.prog w = .ok .nilFunc w := fun w => by kernel_rfl
  have HZ := hide hzv
  have HU := hide (show upB (pcB s) = upT (pcL s.data.toList) from upB_T rfl)
  obtain ⟨q1, q2⟩ := bl_bh (s := bhB s) (t := s.data.toList) rfl
  have hnl := nb_len s.data.toList
  have hs2 : (blB (bhB s)).size ≤ 1048576 := size_le q2 (by omega)
  have Q1 := hide q1
  have HU2 := hide (show upB (pcB (blB (bhB s))) = upT (pcL (nbL s.data.toList)) from upB_T (by show pcL (blB (bhB s)).data.toList = _; rw [q2]))
  have Q3 := hide (show (bhB (blB (bhB s))).data.toList = bhL (nbL s.data.toList) from by show bhL (blB (bhB s)).data.toList = _; rw [q2])
  clear hr hc hM hE hzv q1 q2
  go_enter Tryz.func24, Tryz.ntmps24
  go_wp2_with fail
  refine (imapVerbs_any w).mono ?_
  rintro e W1 ⟨rfl, m1, s1, a1, b1, z1⟩
  have T1 := hide (Two.of_below (b1 := gr) (b2 := gc) b1)
  have H1 := hide (HR.out.below b1 hgr)
  have C1 := hide (show CmI W1 gc 0 ⟨#[]⟩ false (.slice none 0 0) 0 0 0 (.slice none 0 0) from HC.out.below b1 hgc)
  have M1 := hide m1
  have S1 := hide s1
  have A1 := hide a1
  clear m1 s1 a1 b1 z1
  go_wp2_with fail
  refine (word_any gr gr s false W1 hs H1.out (HE.out W1 T1.out)).mono ?_
  rintro e w2 ⟨rfl, h2, t2⟩
  have T2 := hide (T1.out.trans (t2.one (gc := gc)))
  have H2 := hide h2
  have C2 := hide (CmI.two C1.out t2 hne)
  have M2 := hide (M1.out.two t2 (by omega) (by omega))
  have S2 := hide (S1.out.two t2 (by omega) (by omega))
  have A2 := hide (show AV w2 w.heap.size from ⟨A1.out.a1.two t2 (by omega) (by omega), A1.out.a2.two t2 (by omega) (by omega), A1.out.a3.two t2 (by omega) (by omega)⟩)
  clear h2 t2 H1 C1 M1 S1 A1
  by_cases hu : upB (pcB s) = ⟨#[85, 73, 68]⟩
  · have he : ((upB (pcB s)).toList == [85, 73, 68]) = true := by rw [hu, ByteArray.toList_eq]; rfl
    have HFN := hide (uid_fin (b0 := b0) (HU.out.symm.trans hu))
    have c3 : w2.cell? ⟨gc, 3, none⟩ = some (.bool false) := C2.out.cell 3
    have f3 := C2.out.fz 3
    have H3 := hide (H2.out.other (j := 3) (g' := gc) hne (.bool true))
    have C3 := hide (CmI.ud C2.out true)
    have T3 := hide (T2.out.set2 (j := 3) (.bool true))
    clear hu S2 A2 M2
    generalize upB (pcB s) = u at he HU ⊢
    go_upto_region 5 with fail
    generalize w2.setCell ⟨gc, 3, none⟩ (.bool true) = w3 at H3 C3 T3 ⊢
    clear c3 f3 H2 C2 T2
    go_wp2_with fail
    refine (setVerbs_any w3).mono ?_
    rintro e W4 ⟨rfl, m4, s4, b4, z4⟩
    have T4 := hide (T3.out.trans (Two.of_below b4))
    have H4 := hide (H3.out.below b4 H3.out.lt)
    have C4 := hide (show CmI W4 gc 0 ⟨#[]⟩ true (.slice none 0 0) 0 0 0 (.slice none 0 0) from Blk.below C3.out b4 C3.out.lt)
    have hg3 : gr < w3.heap.size ∧ gc < w3.heap.size := ⟨H3.out.lt, C3.out.lt⟩
    have M4 := hide m4
    have S4 := hide s4
    clear m4 s4 b4 z4 H3 C3 T3
    have BL := hide (blank_any gr gr (bhB s) false W4 H4.out)
    rw [Q1.out] at BL
    go_wp2_with fail
    refine BL.out.mono ?_
    rintro e w5 ⟨⟨v5, rfl⟩, h5, t5⟩
    have T5 := hide (T4.out.trans (t5.one (gc := gc)))
    have H5 := hide h5
    have C5 := hide (CmI.two C4.out t5 hne)
    have M5 := hide (M4.out.two t5 (by omega) (by omega))
    have S5 := hide (S4.out.two t5 (by omega) (by omega))
    clear h5 t5 BL H4 C4 M4 S4 T4
    go_wp2_with fail
    refine (word_any gr gr (blB (bhB s)) _ w5 hs2 H5.out (HE.out w5 T5.out)).mono ?_
    rintro e w6 ⟨rfl, h6, t6⟩
    have T6 := hide (T5.out.trans (t6.one (gc := gc)))
    have M6 := hide (M5.out.two t6 (by omega) (by omega))
    have FS := hide (follow_set gr gc w3.heap.size true (upB (pcB (blB (bhB s)))) (nbL s.data.toList) (bhB (blB (bhB s))) (false || !hbL s.data.toList) w6 Q3.out (by omega) h6 (CmI.two C5.out t6 hne) (S5.out.two t6 (by omega) (by omega)) hne hg3 (fun X h => HM.out X (T6.out.trans h)) (fun X h => HE.out X (T6.out.trans h)))
    rw [← HU2.out] at HFN
    clear h6 t6 H5 C5 M5 S5 T5
    generalize upB (pcB (blB (bhB s))) = u2 at FS HFN HU2 ⊢
    go_wp2_with (first
      | (at_lookup; refine wpList_lookup_f _ rfl _ _ 74 73 rfl Tryz.underlying74 Tryz.underlying9 (HZ.out _) w3.heap.size _ u2 rfl rfl M6.out ?_)
      | fail)
    refine FS.out.mono ?_
    rintro e w7 ⟨⟨v7, rfl⟩, hd⟩
    have HD := hide (hd.base T6.out)
    clear hd
    go_wp2
    go_end0
    exact ⟨⟨_, rfl⟩, true, _, HD.out, HFN.out⟩
  · have he : ((upB (pcB s)).toList == [85, 73, 68]) = false := by
      rw [ByteArray.toList_eq]
      exact beq_eq_false_iff_ne.2 (fun e2 => hu (ByteArray.ext (Array.toList_inj.1 e2)))
    have HFN := hide (same_uid (b0 := b0) (t := s.data.toList) (fun h => hu (HU.out.trans h)))
    have FI := hide (follow_im gr gc w.heap.size false b0 (upB (pcB s)) s.data.toList (bhB s) w2 HU.out.symm hu rfl hsl H2.out C2.out S2.out A2.out hne ⟨hgr, hgc⟩ (fun X h => HM.out X (T2.out.trans h)) (fun X h => HE.out X (T2.out.trans h)))
    clear hu
    generalize upB (pcB s) = u at he FI HU ⊢
    go_wp2_with (first
      | (at_lookup; refine wpList_lookup_f _ rfl _ _ 74 73 rfl Tryz.underlying74 Tryz.underlying9 (HZ.out _) w.heap.size _ u rfl rfl M2.out ?_)
      | fail)
    refine FI.out.mono ?_
    rintro e w7 ⟨⟨v7, rfl⟩, hd⟩
    have HD := hide (hd.base T2.out)
    clear hd
    go_wp2
    go_end0
    exact ⟨⟨_, rfl⟩, false, _, HD.out, HFN.out⟩
end Go.Proofs.YtpedmebigcchnaaGreatDoor
