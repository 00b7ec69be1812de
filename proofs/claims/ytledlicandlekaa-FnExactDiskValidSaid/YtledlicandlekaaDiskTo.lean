import Derived.Test.YtledlicandlekaaDiskSz4
namespace Go.Proofs.Ytledlicandlekaa
open Go.RowKit
theorem toEntry_any (s : ByteArray) (n : Int) (w : World) :
    Calls Try.prog 32 #[.agg #[.string s, .int .i64 n]] w fun e w' => e = .returned (.agg #[.string s, .int .i64 n]) ∧ Below w.heap.size w w' := by
  go_enter Try.func32, Try.ntmps32
  go_wp2
  refine bodyPost_ret (v := .agg #[.string s, .int .i64 n]) (by simp [results, Try.results32, go_sem]) rfl ⟨rfl, ?_⟩
  exact (((Below.refl _ _).alloc (Nat.le_refl _) _).alloc (by simp) _).alloc (by simp; omega) _
theorem toDirOp_any (k : Int) (s t : ByteArray) (n : Int) (w : World) :
    Calls Try.prog 33 #[.agg #[.int .i64 k, .string s, .string t, .int .i64 n]] w fun e w' => e = .returned (.agg #[.int .i64 k, .string s, .string t, .int .i64 n]) ∧ Below w.heap.size w w' := by
  go_enter Try.func33, Try.ntmps33
  go_wp2
  refine bodyPost_ret (v := .agg #[.int .i64 k, .string s, .string t, .int .i64 n]) (by simp [results, Try.results33, go_sem]) rfl ⟨rfl, ?_⟩
  exact (((Below.refl _ _).alloc (Nat.le_refl _) _).alloc (by simp) _).alloc (by simp; omega) _
end Go.Proofs.Ytledlicandlekaa
