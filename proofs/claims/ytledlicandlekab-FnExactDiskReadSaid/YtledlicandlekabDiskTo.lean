import Derived.Test.YtledlicandlekabDiskSz4
namespace Go.Proofs.Ytledlicandlekab
open Go.RowKit
theorem toEntry_any (s : ByteArray) (n : Int) (w : World) :
    Calls Try.prog 58 #[.agg #[.string s, .int .i64 n]] w fun e w' => e = .returned (.agg #[.string s, .int .i64 n]) ∧ Below w.heap.size w w' := by
  go_enter Try.func58, Try.ntmps58
  go_wp2
  refine bodyPost_ret (v := .agg #[.string s, .int .i64 n]) (by simp [results, Try.results58, go_sem]) rfl ⟨rfl, ?_⟩
  exact (((Below.refl _ _).alloc (Nat.le_refl _) _).alloc (by simp) _).alloc (by simp; omega) _
theorem toDirOp_any (k : Int) (s t : ByteArray) (n : Int) (w : World) :
    Calls Try.prog 59 #[.agg #[.int .i64 k, .string s, .string t, .int .i64 n]] w fun e w' => e = .returned (.agg #[.int .i64 k, .string s, .string t, .int .i64 n]) ∧ Below w.heap.size w w' := by
  go_enter Try.func59, Try.ntmps59
  go_wp2
  refine bodyPost_ret (v := .agg #[.int .i64 k, .string s, .string t, .int .i64 n]) (by simp [results, Try.results59, go_sem]) rfl ⟨rfl, ?_⟩
  exact (((Below.refl _ _).alloc (Nat.le_refl _) _).alloc (by simp) _).alloc (by simp; omega) _
end Go.Proofs.Ytledlicandlekab
