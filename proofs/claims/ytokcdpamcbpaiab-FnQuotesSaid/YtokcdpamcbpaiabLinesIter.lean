import Derived.Test.YtokcdpamcbpaiabRangeLaw
import Derived.Test.YtokcdpamcbpaiabLinesMath
namespace Go.Proofs.Ytokcdpamcbpaiab
open Go.RowKit Go.Shelf
attribute [local go_sem] Oper.semAt_some
/-- A piece of the text d: its place and its length. -/
abbrev Sp (d : List Nat) := { x : Nat × Nat // x.1 + x.2 ≤ d.length }
/-- The text d lies in block b from off on. -/
def TextAt (W : World) (b off : Nat) (d : List Nat) : Prop := ∀ i (h : i < d.length), W.cell? ⟨b, off + i, none⟩ = some (.int .u8 ((d[i] : Nat) : Int))
theorem TextAt.below {W W' : World} {b off n₀ : Nat} {d : List Nat} (h : TextAt W b off d) (hb : Below n₀ W W') (hn : b < n₀) : TextAt W' b off d := fun i hi => (hb.cell (p := ⟨b, off + i, none⟩) hn).trans (h i hi)
theorem TextAt.drop {W : World} {b off : Nat} {d : List Nat} (h : TextAt W b off d) (p : Nat) : TextAt W b (off + p) (d.drop p) := fun i hi => by
  have hi' : p + i < d.length := by rw [List.length_drop] at hi; omega
  rw [Nat.add_assoc, h (p + i) hi']
  simp
def spV (b off : Nat) {d : List Nat} (x : Sp d) : Array Value := #[.slice (some ⟨b, off + x.1.1, none⟩) x.1.2 x.1.2]
theorem indexByte_n (b off cap n : Nat) (l : List Nat) (w : World) (hn : l.length = n) (hc : TextAt w b off l) (hb : ∀ x ∈ l, x < 256) :
    Calls Try.prog 51 #[.slice (some ⟨b, off, none⟩) n cap, .int .u8 10] w fun e w' => e = .returned (.int .i64 (nlOf l)) ∧ w' = w := by
  subst hn; exact indexByte_any b off cap l w hc hb
def leftOf (wr : World) (bs : Nat) : Nat := match wr.cell? ⟨bs, 0, none⟩ with | some (.slice _ n _) => n | _ => 0
theorem leftOf_eq {wr : World} {bs n c : Nat} {a : Option Addr} (h : wr.cell? ⟨bs, 0, none⟩ = some (.slice a n c)) : leftOf wr bs = n := by unfold leftOf; rw [h]
theorem box_set {W : World} {bs : Nat} {u : Value} {t : TypeId} (h : W.heap[bs]? = some (.cells #[u] t (0, 0))) (v : Value) : (W.setCell ⟨bs, 0, none⟩ v).heap[bs]? = some (.cells #[v] t (0, 0)) := by
  rw [setCell_eq_setRow W bs 0 _ _ _ v h, setRow_heap W bs _ _ _ _ h]; rfl
theorem spans_step {d : List Nat} {p k : Nat} (hlt : p < d.length) (hk : cutAt (d.drop p) = k) : spansF (d.length - p) p (d.drop p) = (p, k) :: spansF (d.length - (p + k)) (p + k) (d.drop (p + k)) := by
  obtain ⟨f, hf⟩ : ∃ f, d.length - p = f + 1 := ⟨d.length - p - 1, by omega⟩
  have hp := cutAt_pos (d.drop p) (by rw [List.length_drop]; omega)
  have hl := cutAt_le (d.drop p)
  rw [List.length_drop] at hl
  rw [hf]
  simp only [spansF]
  rw [if_neg (by rw [List.length_drop]; omega), hk, List.drop_drop]
  rw [spansF_more f (d.length - (p + k)) _ _ (by rw [List.length_drop]; omega) (by rw [List.length_drop]; omega)]
set_option maxRecDepth 20000 in
set_option maxHeartbeats 2000000 in
theorem lines1_in (m l bs n₀ b off : Nat) (d : List Nat) (hb : ∀ x ∈ d, x < 256) (hbn0 : 0 < d.length → b < n₀) (hd : d.length ≤ 1048576) (hnb : n₀ ≤ bs) (J : List (Sp d) → World → Prop)
    (hJs : ∀ pre W1 v, J pre W1 → J pre (W1.setCell ⟨bs, 0, none⟩ v)) (hJd : ∀ pre W1, J pre W1 → J pre W1.drew)
    (hY : ∀ pre x W1, J pre W1 → pre.length < d.length → YieldAt Fence.wide (m - 1) Try.prog l (spV b off x) W1 fun e W' => e = .returned (.bool true) ∧ J (pre ++ [x]) W' ∧ Kept n₀ bs W1 W')
    (W : World) (a0 : Option Addr) (c0 : Nat) (hc0 : W.heap[bs]? = some (.cells #[.slice a0 d.length c0] 22 (0, 0))) (ha0 : 0 < d.length → a0 = some ⟨b, off, none⟩ ∧ d.length ≤ c0 ∧ c0 ≤ 9223372036854775807) (hT : 0 < d.length → TextAt W b off d) (h0 : J [] W) :
    CallsIn Fence.wide m Try.prog 50 #[.func (.yield l) #[] #[], .pointer (some ⟨bs, 0, none⟩)] W fun e W' => (∃ v, e = .returned v) ∧ ∃ xs : List (Sp d), xs.map (·.1) = spansOf d ∧ J xs W' := by
  refine callsIn_of_wp Try.func50 rfl trivial ?_ rfl
  simp only [Try.ntmps50, List.size_toArray, List.length_cons, List.length_nil, Nat.reduceAdd, Nat.reduceSub, Array.replicate_succ, Array.replicate_zero, List.push_toArray, List.append_toArray, List.nil_append, List.cons_append]
  gi_wp2
  gi_loopw [3, 4] (fun _ _ wr => ∃ (p : Nat) (pre : List (Sp d)) (a : Option Addr) (c : Nat), p ≤ d.length ∧ pre.length ≤ p ∧ wr.heap[bs]? = some (.cells #[.slice a (d.length - p) c] 22 (0, 0)) ∧ (p < d.length → a = some ⟨b, off + p, none⟩ ∧ d.length - p ≤ c ∧ c ≤ 9223372036854775807) ∧ (0 < d.length → TextAt wr b off d) ∧ pre.map (·.1) ++ spansF (d.length - p) p (d.drop p) = spansOf d ∧ J pre wr) (fun _ _ wr => leftOf wr bs)
  case atStart => exact ⟨0, [], a0, c0, Nat.zero_le _, Nat.le_refl _, hc0, fun h => ha0 h, hT, by simp [spansOf], h0⟩
  case round =>
    obtain ⟨p, pre, a, c, hp, hpre, hcl, ha, ht, hsp, hJ⟩ := hrel
    have hcell : wr.cell? ⟨bs, 0, none⟩ = some (.slice a (d.length - p) c) := by rw [cell_of_row _ _ _ _ _ _ hcl]; rfl
    by_cases hlt : p < d.length
    · have hbn := hbn0 (by omega)
      obtain ⟨rfl, hle, hcm⟩ := ha hlt
      have hpos : (0 : Int) < ((d.length - p : Nat) : Int) := by omega
      have hfz : wr.frozen? ⟨bs, 0, none⟩ = false := by simp [World.frozen?, hcl]
      have hbd : ∀ x ∈ d.drop p, x < 256 := fun x hx => hb x (List.mem_of_mem_drop hx)
      have htx := (ht (by omega)).drop p
      have hdl : (d.drop p).length = d.length - p := List.length_drop ..
      have HS := hide hsp
      have HJ := hide hJ
      have HT := hide (ht (by omega))
      have HC := hide hcl
      have HM := hide (leftOf_eq hcell)
      have HCM := hide hcm
      clear hsp hJ ht hcl ha0 hT h0 hc0
      gi_wp2_with fail
      refine ⟨trivial, fun h => (by cases h), (callsIn_wide.2 (indexByte_n b (off + p) c _ (d.drop p) wr hdl htx hbd)).mono ?_⟩
      rintro e w1 ⟨rfl, rfl⟩
      by_cases h10 : 10 ∈ d.drop p
      · obtain ⟨k, hk⟩ : ∃ k, cutAt (d.drop p) = k + 1 := ⟨cutAt (d.drop p) - 1, by have := cutAt_pos (d.drop p) (by omega); omega⟩
        have hkl := cutAt_le (d.drop p)
        have hnl : nlOf (d.drop p) = (k : Int) := by unfold nlOf; rw [if_pos h10, hk]; push_cast; omega
        rw [hnl]
        have hk1 : (k : Int) + 1 ≤ ((d.length - p : Nat) : Int) := by omega
        have hk2 : (k : Int) + 1 ≤ (c : Int) := by omega
        have hcd : w1.drew.cell? ⟨bs, 0, none⟩ = some (.slice (some ⟨b, off + p, none⟩) (d.length - p) c) := hcell
        have hfd : w1.drew.frozen? ⟨bs, 0, none⟩ = false := hfz
        have mixed : Try.prog.follows Departure.mixedOrders = true := by kernel_rfl
        gi_wp2
        gi_region_o
        have hlen : d.length - p - (k + 1) = d.length - (p + (k + 1)) := by omega
        rw [hlen]
        have hadr : p + (k + 1) < d.length → (if c = k + 1 then some (⟨b, off + p, none⟩ : Addr) else some ⟨b, off + p + (k + 1), none⟩) = some ⟨b, off + (p + (k + 1)), none⟩ := fun h => by rw [if_neg (by omega), Nat.add_assoc]
        generalize (if c = k + 1 then some (⟨b, off + p, none⟩ : Addr) else some ⟨b, off + p + (k + 1), none⟩) = A at hadr ⊢
        have hw2 : (w1.setCell ⟨bs, 0, none⟩ (.slice A (d.length - (p + (k + 1))) (c - (k + 1)))).drew.heap[bs]? = some (.cells #[.slice A (d.length - (p + (k + 1))) (c - (k + 1))] 22 (0, 0)) := box_set HC.out _
        have hJ2 : J pre (w1.setCell ⟨bs, 0, none⟩ (.slice A (d.length - (p + (k + 1))) (c - (k + 1)))).drew := hJd _ _ (hJs _ _ _ HJ.out)
        have hB2 : Below n₀ w1 (w1.setCell ⟨bs, 0, none⟩ (.slice A (d.length - (p + (k + 1))) (c - (k + 1)))).drew := ((Calm.setCell (bs := bs) w1 hnb _).below).trans (Calm.drew (bs := bs) _).below
        generalize (w1.setCell ⟨bs, 0, none⟩ (.slice A (d.length - (p + (k + 1))) (c - (k + 1)))).drew = w2 at hw2 hJ2 hB2 ⊢
        have hpk : p + (k + 1) ≤ d.length := by omega
        obtain ⟨fn, tmps, assign, body, hy, hR⟩ := hY pre ⟨(p, k + 1), hpk⟩ w2 hJ2 (by omega)
        simp only [spV] at hy
        have HW2 := hide hw2
        have HB2 := hide hB2
        clear hw2 hB2 hJ2 hcd hfd hcell hfz hcm
        gi_wp2
        refine ⟨fun h => (by cases h), hR.mono ?_⟩
        rintro e w3 ⟨rfl, hJ3, hK3⟩
        have hcl3 := hK3.2.trans HW2.out
        have hc3 : w3.cell? ⟨bs, 0, none⟩ = some (.slice A (d.length - (p + (k + 1))) (c - (k + 1))) := by rw [cell_of_row _ _ _ _ _ _ hcl3]; rfl
        have hT3 := (HT.out.below HB2.out hbn).below hK3.1 hbn
        gi_wp2
        go_roundw
        case rel =>
          refine ⟨p + (k + 1), pre ++ [⟨(p, k + 1), hpk⟩], A, c - (k + 1), hpk, by rw [List.length_append]; simp; omega, hcl3, fun h => ⟨hadr h, by omega, by have := HCM.out; omega⟩, fun _ => hT3, ?_, hJ3⟩
          rw [← HS.out, spans_step hlt hk]
          simp
        case measure => rw [leftOf_eq hc3, HM.out]; omega
      · have hk := cutAt_none _ h10
        rw [hdl] at hk
        have hnl : nlOf (d.drop p) = -1 := by unfold nlOf; rw [if_neg h10]
        rw [hnl]
        have hw2 : (w1.setCell ⟨bs, 0, none⟩ (.slice none 0 0)).heap[bs]? = some (.cells #[.slice none 0 0] 22 (0, 0)) := box_set HC.out _
        have hJ2 : J pre (w1.setCell ⟨bs, 0, none⟩ (.slice none 0 0)) := hJs _ _ _ HJ.out
        have hB2 : Below n₀ w1 (w1.setCell ⟨bs, 0, none⟩ (.slice none 0 0)) := (Calm.setCell (bs := bs) w1 hnb _).below
        have hpk : p + (d.length - p) ≤ d.length := by omega
        obtain ⟨fn, tmps, assign, body, hy, hR⟩ := hY pre ⟨(p, d.length - p), hpk⟩ (w1.setCell ⟨bs, 0, none⟩ (.slice none 0 0)) hJ2 (by omega)
        simp only [spV] at hy
        have hle' : ((d.length - p : Nat) : Int) ≤ (c : Int) := by omega
        have HW2 := hide hw2
        have HB2 := hide hB2
        have HK := hide hk
        clear hw2 hB2 hJ2 hcm hk hnl
        gi_wp2
        refine ⟨fun h => (by cases h), hR.mono ?_⟩
        rintro e w3 ⟨rfl, hJ3, hK3⟩
        have hcl3 := hK3.2.trans HW2.out
        have hc3 : w3.cell? ⟨bs, 0, none⟩ = some (.slice none 0 0) := by rw [cell_of_row _ _ _ _ _ _ hcl3]; rfl
        have hT3 := (HT.out.below HB2.out hbn).below hK3.1 hbn
        clear hcell hfz
        gi_wp2
        go_roundw
        case rel =>
          refine ⟨d.length, pre ++ [⟨(p, d.length - p), hpk⟩], none, 0, Nat.le_refl _, by rw [List.length_append]; simp; omega, by rw [Nat.sub_self]; exact hcl3, fun h => by omega, fun _ => hT3, ?_, hJ3⟩
          rw [← HS.out, spans_step hlt HK.out, show p + (d.length - p) = d.length from by omega]
          simp
        case measure => rw [leftOf_eq hc3, HM.out]; omega
    · obtain rfl : p = d.length := by omega
      rw [Nat.sub_self] at hcell hsp
      rw [spansF_nil _ _ _ (by simp), List.append_nil] at hsp
      have HS := hide hsp
      have HJ := hide hJ
      clear hsp hJ ha ht hcl ha0 hT h0 hc0 hY hJs hJd
      gi_wp2
      go_end0
      exact ⟨⟨_, rfl⟩, pre, HS.out, HJ.out⟩
end Go.Proofs.Ytokcdpamcbpaiab
