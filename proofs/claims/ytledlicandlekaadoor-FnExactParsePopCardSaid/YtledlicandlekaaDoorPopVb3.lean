import Derived.Test.YtledlicandlekaaDoorPopVb2
namespace Go.Proofs.YtledlicandlekaaDoor
open Go.RowKit
/-- The verb that a word in capitals names: 0 alone, 1 with a number, 2 either; and its kind. -/
def vbOf (u : ByteArray) : Option (Nat × Int) :=
  if u = ⟨#[78, 79, 79, 80]⟩ then some (0, 1)
  else if u = ⟨#[81, 85, 73, 84]⟩ then some (0, 2)
  else if u = ⟨#[83, 84, 65, 84]⟩ then some (0, 3)
  else if u = ⟨#[82, 83, 69, 84]⟩ then some (0, 8)
  else if u = ⟨#[82, 69, 84, 82]⟩ then some (1, 6)
  else if u = ⟨#[68, 69, 76, 69]⟩ then some (1, 7)
  else if u = ⟨#[76, 73, 83, 84]⟩ then some (2, 4)
  else if u = ⟨#[85, 73, 68, 76]⟩ then some (2, 5)
  else none
def fnV (m g : Nat) : Value := if m = 0 then vAlone g else if m = 1 then vNum g else vNoa g
theorem look_pop (s : Nat) (u : ByteArray) : (vbOf u = none ∧ lookF (popE s) u = none) ∨ ∃ (i m : Nat) (h : i < popK.length), m ≤ 2 ∧ vbOf u = some (m, popK[i]) ∧ lookF (popE s) u = some (fnV m (s + 1 + i)) := by
  unfold popE
  by_cases h0 : u = ⟨#[78, 79, 79, 80]⟩
  · exact .inr ⟨0, 0, by decide, by decide, by rw [vbOf, if_pos h0]; rfl, by rw [lookF, if_pos h0]; rfl⟩
  by_cases h1 : u = ⟨#[81, 85, 73, 84]⟩
  · exact .inr ⟨1, 0, by decide, by decide, by rw [vbOf, if_neg h0, if_pos h1]; rfl, by rw [lookF, if_neg h0, lookF, if_pos h1]; rfl⟩
  by_cases h2 : u = ⟨#[83, 84, 65, 84]⟩
  · exact .inr ⟨2, 0, by decide, by decide, by rw [vbOf, if_neg h0, if_neg h1, if_pos h2]; rfl, by rw [lookF, if_neg h0, lookF, if_neg h1, lookF, if_pos h2]; rfl⟩
  by_cases h3 : u = ⟨#[82, 83, 69, 84]⟩
  · exact .inr ⟨3, 0, by decide, by decide, by rw [vbOf, if_neg h0, if_neg h1, if_neg h2, if_pos h3]; rfl, by rw [lookF, if_neg h0, lookF, if_neg h1, lookF, if_neg h2, lookF, if_pos h3]; rfl⟩
  by_cases h4 : u = ⟨#[82, 69, 84, 82]⟩
  · exact .inr ⟨4, 1, by decide, by decide, by rw [vbOf, if_neg h0, if_neg h1, if_neg h2, if_neg h3, if_pos h4]; rfl, by rw [lookF, if_neg h0, lookF, if_neg h1, lookF, if_neg h2, lookF, if_neg h3, lookF, if_pos h4]; rfl⟩
  by_cases h5 : u = ⟨#[68, 69, 76, 69]⟩
  · exact .inr ⟨5, 1, by decide, by decide, by rw [vbOf, if_neg h0, if_neg h1, if_neg h2, if_neg h3, if_neg h4, if_pos h5]; rfl, by rw [lookF, if_neg h0, lookF, if_neg h1, lookF, if_neg h2, lookF, if_neg h3, lookF, if_neg h4, lookF, if_pos h5]; rfl⟩
  by_cases h6 : u = ⟨#[76, 73, 83, 84]⟩
  · exact .inr ⟨6, 2, by decide, by decide, by rw [vbOf, if_neg h0, if_neg h1, if_neg h2, if_neg h3, if_neg h4, if_neg h5, if_pos h6]; rfl, by rw [lookF, if_neg h0, lookF, if_neg h1, lookF, if_neg h2, lookF, if_neg h3, lookF, if_neg h4, lookF, if_neg h5, lookF, if_pos h6]; rfl⟩
  by_cases h7 : u = ⟨#[85, 73, 68, 76]⟩
  · exact .inr ⟨7, 2, by decide, by decide, by rw [vbOf, if_neg h0, if_neg h1, if_neg h2, if_neg h3, if_neg h4, if_neg h5, if_neg h6, if_pos h7]; rfl, by rw [lookF, if_neg h0, lookF, if_neg h1, lookF, if_neg h2, lookF, if_neg h3, lookF, if_neg h4, lookF, if_neg h5, lookF, if_neg h6, lookF, if_pos h7]; rfl⟩
  exact .inl ⟨by rw [vbOf, if_neg h0, if_neg h1, if_neg h2, if_neg h3, if_neg h4, if_neg h5, if_neg h6, if_neg h7], by rw [lookF, if_neg h0, lookF, if_neg h1, lookF, if_neg h2, lookF, if_neg h3, lookF, if_neg h4, lookF, if_neg h5, lookF, if_neg h6, lookF, if_neg h7, lookF]⟩
theorem eq_nil (w : World) : (binOp .eql 87 .nilFunc .nilFunc).run Tryd.prog w = .ok (.bool true) w := by kernel_rfl
theorem eq_fn (f : FuncId) (c : Array Value) (w : World) : (binOp .eql 87 (.func (.func f) #[] c) .nilFunc).run Tryd.prog w = .ok (.bool false) w := by kernel_rfl
/-- What popCommand leaves of a line. -/
def PDone (gr gc : Nat) (s : ByteArray) (w w' : World) : Prop := Two gr gc w w' ∧
  ((vbOf (upB (pcB s)) = none ∧ RdB w' gr (bhB s) true ∧ CmB w' gc 0 0) ∨
   (∃ m k, vbOf (upB (pcB s)) = some (m, k) ∧ m ≠ 1 ∧ (m = 0 ∨ (bhB s).data.toList = []) ∧ RdB w' gr (bhB s) false ∧ CmB w' gc k 0) ∨
   (∃ m k, ∃ (n : Nat) (ok : Bool), vbOf (upB (pcB s)) = some (m, k) ∧ m ≠ 0 ∧ (m = 1 ∨ (bhB s).data.toList ≠ []) ∧ RdIs (pcL (blB (bhB s)).data.toList) 1 4294967295 n ok ∧ RdB w' gr (bhB (blB (bhB s))) (!blOk (bhB s) || !ok) ∧ CmB w' gc k (n : Int)))
set_option maxRecDepth 20000 in
set_option maxHeartbeats 1000000 in
theorem follow_any (gr gc : Nat) (s u : ByteArray) (w0 W w : World) (hs : s.size ≤ 1048576) (hr : RdB w gr s false) (hc : CmB w gc 0 0) (hV : PVs w0 W (popE w0.heap.size) popK) (hw : Two gr gc W w) (hlt : gr < w0.heap.size ∧ gc < w0.heap.size) (hne : gr ≠ gc) (hE : ∀ X, Two gr gc w X → Env X) :
    Calls Tryd.prog 49 #[.pointer (some ⟨gr, 0, none⟩), (lookF (popE w0.heap.size) u).getD .nilFunc, .pointer (some ⟨gc, 0, none⟩)] w fun e w' => (∃ v, e = .returned v) ∧ Two gr gc w w' ∧
      ((vbOf u = none ∧ RdB w' gr s true ∧ CmB w' gc 0 0) ∨
       (∃ m k, vbOf u = some (m, k) ∧ m ≠ 1 ∧ (m = 0 ∨ s.data.toList = []) ∧ RdB w' gr s false ∧ CmB w' gc k 0) ∨
       (∃ m k, ∃ (n : Nat) (ok : Bool), vbOf u = some (m, k) ∧ m ≠ 0 ∧ (m = 1 ∨ s.data.toList ≠ []) ∧ RdIs (pcL (blB s).data.toList) 1 4294967295 n ok ∧ RdB w' gr (bhB (blB s)) (!blOk s || !ok) ∧ CmB w' gc k (n : Int))) := by
  have hq0 := eq_nil
  have hq1 := eq_fn
  have HR := hide hr
  have HC := hide hc
  have HE := hide hE
  rcases look_pop w0.heap.size u with ⟨hv, hl⟩ | ⟨i, m, hi, hm, hv, hl⟩
  · rw [hl]
    have HV := hide hv
    clear hr hc hE hl hv hV hw
    show Calls _ _ #[_, .nilFunc, _] _ _
    go_enter Tryd.func49, Tryd.ntmps49
    go_wp2_with fail
    refine (need_any gr gr s false false w HR.out).mono ?_
    rintro e w2 ⟨⟨v2, rfl⟩, h2, t2⟩
    have T2 := hide (show Two gr gc w w2 from ⟨t2.os, t2.tape, t2.output, t2.size, fun k hk h1 _ => t2.block k hk h1 h1⟩)
    have H2 := hide h2
    have c2 : CmB w2 gc 0 0 := (t2.block gc HC.out.lt (Ne.symm hne) (Ne.symm hne)).trans HC.out
    have HC2 := hide c2
    clear h2 t2 c2
    go_wp2
    exact bodyPost_ret (results_none rfl _ _ _) rfl ⟨⟨_, rfl⟩, T2.out, .inl ⟨HV.out, H2.out, HC2.out⟩⟩
  · rw [hl]
    have hbx : Blk w (w0.heap.size + 1 + i) #[.int .i64 popK[i]] 3 := (hV.bx i hi).two hw (by omega) (by omega)
    have HB := hide hbx
    have HV := hide hv
    have hgb : w0.heap.size + 1 + i ≠ gr ∧ w0.heap.size + 1 + i ≠ gc := by omega
    generalize w0.heap.size + 1 + i = gb at HB hgb ⊢
    generalize popK[i] = k at HB HV
    clear hr hc hE hl hv hbx hV hw hlt
    rcases (show m = 0 ∨ m = 1 ∨ m = 2 by omega) with rfl | rfl | rfl
    · have e : (some (fnV 0 gb)).getD Value.nilFunc = vAlone gb := rfl
      rw [e]
      unfold vAlone
      go_enter Tryd.func49, Tryd.ntmps49
      go_wp2_with fail
      refine (alone1_any gr gc gb k 0 0 s false w HR.out HC.out HB.out hne).mono ?_
      rintro e w2 ⟨⟨v2, rfl⟩, h2, c2, t2⟩
      have HP := hide (And.intro h2 (And.intro c2 t2))
      clear h2 c2 t2
      go_wp2
      go_end0
      exact ⟨⟨_, rfl⟩, HP.out.2.2, .inr (.inl ⟨0, k, HV.out, by decide, .inl rfl, HP.out.1, HP.out.2.1⟩)⟩
    · have e : (some (fnV 1 gb)).getD Value.nilFunc = vNum gb := rfl
      rw [e]
      unfold vNum
      go_enter Tryd.func49, Tryd.ntmps49
      go_wp2_with fail
      refine (num1_any gr gc gb k 0 0 s false w hs HR.out HC.out HB.out hne HE.out).mono ?_
      rintro e w2 ⟨⟨v2, rfl⟩, n, ok, hN, h2, c2, t2⟩
      have HP := hide (And.intro hN (And.intro h2 (And.intro c2 t2)))
      clear hN h2 c2 t2
      go_wp2
      go_end0
      exact ⟨⟨_, rfl⟩, HP.out.2.2.2, .inr (.inr ⟨1, k, n, ok, HV.out, by decide, .inl rfl, HP.out.1, HP.out.2.1, HP.out.2.2.1⟩)⟩
    · have e : (some (fnV 2 gb)).getD Value.nilFunc = vNoa gb := rfl
      rw [e]
      unfold vNoa
      go_enter Tryd.func49, Tryd.ntmps49
      go_wp2_with fail
      refine (noa1_any gr gc gb k 0 0 s false w hs HR.out HC.out HB.out hne hgb HE.out).mono ?_
      rintro e w2 ⟨⟨v2, rfl⟩, hor⟩
      have HP := hide hor
      clear hor
      go_wp2
      go_end0
      refine ⟨⟨_, rfl⟩, ?_⟩
      rcases HP.out with ⟨hz, h2, c2, t2⟩ | ⟨hz, n, ok, hN, h2, c2, t2⟩
      · exact ⟨t2, .inr (.inl ⟨2, k, HV.out, by decide, .inr hz, h2, c2⟩)⟩
      · exact ⟨t2, .inr (.inr ⟨2, k, n, ok, HV.out, by decide, .inr hz, hN, h2, c2⟩)⟩
end Go.Proofs.YtledlicandlekaaDoor
