import Derived.Test.YtledlicandlekaaDoorPopRd
namespace Go.Proofs.YtledlicandlekaaDoor
open Go.RowKit
def upB (s : ByteArray) : ByteArray := strB ((bytesL s).map upN)
theorem word_any (g gc : Nat) (s : ByteArray) (f : Bool) (w : World) (hs : s.size ≤ 1048576) (hr : RdB w g s f) (hE : Env w) :
    Calls Tryd.prog 51 #[.pointer (some ⟨g, 0, none⟩)] w fun e w' => e = .returned (.string (upB (pcB s))) ∧ RdB w' g (bhB s) f ∧ Two g gc w w' := by
  have HP := hide (piece_any g gc s f w hs hr hE)
  have hpl := pc_len s
  have HU := hide (fun W => capitals_any (bytesL (pcB s)) W (by rw [bytesL_len]; omega) (bytesL_lt _))
  rw [strB_bytesL] at HU
  clear hr hE
  go_enter Tryd.func51, Tryd.ntmps51
  go_wp2_with fail
  refine HP.out.mono ?_
  rintro e w1 ⟨rfl, h1, t1⟩
  have H1 := hide h1
  have T1 := hide t1
  clear h1 t1
  go_wp2_with fail
  refine (HU.out w1).mono ?_
  rintro e w2 ⟨rfl, hb2⟩
  have H2 := hide (H1.out.below hb2 H1.out.lt)
  have T2 := hide (T1.out.trans (Two.of_below hb2))
  clear hb2
  go_wp2
  go_ret
  exact ⟨rfl, H2.out, T2.out⟩
/-- What blank leaves. -/
def blB (s : ByteArray) : ByteArray := ⟨(Lib.trimPrefix s.data.toList [32]).toArray⟩
def blOk (s : ByteArray) : Bool := Lib.hasPrefix s.data.toList [32]
theorem blank_any (g gc : Nat) (s : ByteArray) (f : Bool) (w : World) (hr : RdB w g s f) :
    Calls Tryd.prog 83 #[.pointer (some ⟨g, 0, none⟩)] w fun e w' => (∃ v, e = .returned v) ∧ RdB w' g (blB s) (f || !blOk s) ∧ Two g gc w w' := by
  have c0 : w.cell? ⟨g, 0, none⟩ = some (.string s) := hr.cell 0
  have HP := hide (Tryd.strings_CutPrefix s ⟨#[32]⟩ w)
  rw [show (⟨(Lib.trimPrefix s.data.toList (⟨#[32]⟩ : ByteArray).data.toList).toArray⟩ : ByteArray) = blB s from rfl, show Lib.hasPrefix s.data.toList (⟨#[32]⟩ : ByteArray).data.toList = blOk s from rfl] at HP
  have HR := hide hr
  clear hr
  generalize blB s = b at HP ⊢
  generalize blOk s = ok at HP ⊢
  go_enter Tryd.func83, Tryd.ntmps83
  go_wp2_with fail
  refine HP.out.mono ?_
  rintro e w1 ⟨rfl, rfl⟩
  go_wp2_with fail
  refine (need_any g gc s f ok w1 HR.out).mono ?_
  rintro e w2 ⟨⟨v2, rfl⟩, h2, t2⟩
  have d0 : w2.cell? ⟨g, 0, none⟩ = some (.string s) := h2.cell 0
  have f0 := h2.fz 0
  have H2 := hide (h2.set 0 (.string b))
  have T2 := hide (t2.set1 (j := 0) (.string b))
  clear h2 t2
  go_wp2
  go_end0
  exact ⟨⟨_, rfl⟩, H2.out, T2.out⟩
theorem number_any (g gc : Nat) (s : ByteArray) (f : Bool) (w : World) (hs : s.size ≤ 1048576) (hr : RdB w g s f) (hE : Env w) (hgl : ∀ W, Two g gc w W → Env W) :
    Calls Tryd.prog 84 #[.pointer (some ⟨g, 0, none⟩)] w fun e w' => ∃ (n : Nat) (ok : Bool), e = .returned (.int .u32 (n : Int)) ∧ RdIs (pcL s.data.toList) 1 4294967295 n ok ∧ RdB w' g (bhB s) (f || !ok) ∧ Two g gc w w' := by
  have HP := hide (piece_any g gc s f w hs hr hE)
  have hpl := pc_len s
  have HD := hide (fun W h => readDecimal_any (pcB s) 1 4294967295 W h (by omega) (by omega))
  have HG := hide hgl
  clear hr hE hgl
  go_enter Tryd.func84, Tryd.ntmps84
  go_wp2_with fail
  refine HP.out.mono ?_
  rintro e w1 ⟨rfl, h1, t1⟩
  have H1 := hide h1
  have T1 := hide t1
  clear h1 t1
  go_wp2_with fail
  refine (show Calls _ _ #[_, .int .u64 1, .int .u64 4294967295] _ _ from HD.out w1 (HG.out w1 T1.out)).mono ?_
  rintro e w2 ⟨n, ok, rfl, hN, hb2⟩
  have H2 := hide (H1.out.below hb2 H1.out.lt)
  have T2 := hide (T1.out.trans (Two.of_below hb2))
  have HN := hide (show RdIs (pcL s.data.toList) 1 4294967295 n ok from hN)
  have hn32 : (n : Int) ≤ 4294967295 := by
    rcases hN with ⟨_, _, _, h⟩ | ⟨_, h, _⟩ <;> omega
  clear hb2 hN
  go_wp2_with fail
  refine (need_any g gc (bhB s) f ok w2 H2.out).mono ?_
  rintro e w3 ⟨⟨v3, rfl⟩, h3, t3⟩
  have H3 := hide h3
  have T3 := hide (T2.out.trans t3)
  clear h3 t3
  go_wp2
  go_ret
  exact ⟨n, ok, rfl, HN.out, H3.out, T3.out⟩
end Go.Proofs.YtledlicandlekaaDoor
