import Derived.Test.YtpbpidfjecejcaaGreatDoorPla
import Derived.Test.YtpbpidfjecejcaaGreatDoorShelf
import Derived.Test.YtpbpidfjecejcaaGreatDoorPkt
import Derived.Test.YtpbpidfjecejcaaGreatDoorPkr
import Derived.Test.YtpbpidfjecejcaaGreatDoorPks
import Derived.Test.YtpbpidfjecejcaaGreatDoorPko
import Derived.Test.YtpbpidfjecejcaaGreatDoorPki
import Derived.Test.YtpbpidfjecejcaaGreatDoorPka
import Derived.Laws.IdiomStrings
namespace Go.Proofs.YtpbpidfjecejcaaGreatDoor
open Go.RowKit Go.Sort Go.Lib
theorem holds_zero0 (w : World) (T : TypeId) (nd : Nat) (hs : nd ≤ 24) : Holds (fun (b : UInt8) => Value.int .u8 (b.toNat : Int)) (w.alloc (.cells Lib.zeros24 T)) w.heap.size 0 (Array.replicate nd (0 : UInt8)) := fun j hj => by
  have hj' : j < nd := by simpa using hj
  refine ⟨?_, World.frozen?_alloc_new _ _ _ _⟩
  rw [World.cell?_alloc_new, Lib.zeros24_at _ (by omega), getElem!_pos _ j hj]
  simp
theorem fin0 (w : World) (o : Obj) (dk : Array UInt8) (k : Nat) : Below w.heap.size w ((putRow (fun (b : UInt8) => Value.int .u8 (b.toNat : Int)) (w.alloc o) w.heap.size 0 dk).drewN k) := by
  rw [alloc_eq_grow]
  obtain ⟨os', _, e⟩ := putRow_grow_new (fun (b : UInt8) => Value.int .u8 (b.toNat : Int)) w #[o] w.heap.size 0 dk (Nat.le_refl _)
  rw [e]
  exact below_grown w k os'
set_option maxHeartbeats 1600000 in
set_option maxRecDepth 100000 in
theorem formatUint_any (u : Nat) (w : World) (hu : u < 18446744073709551616) (htab : TabIs Tryz.prog w "internal/strconv.uint64pow10" .u64 Lib.pow10Tab) :
    Calls Tryz.prog 100 #[.int .u64 (u : Int), .int .i64 10] w fun e w' => e = .returned (.string (decS u)) ∧ Below w.heap.size w w' := by
  by_cases hs : u < 100
  · have hi : (u : Int) < 100 := by omega
    go_enter Tryz.func100, Tryz.ntmps100
    go_wp2_with fail
    refine (Tryz.internal_strconv_small u hs _).mono ?_
    rintro e w1 ⟨rfl, rfl⟩
    go_wp2
    go_ret
    exact ⟨rfl, Below.refl _ _⟩
  · have hi : ¬ (u : Int) < 100 := by omega
    have hnd := nd20 u hu
    have hb3 : Lib.nDigits u ≤ 24 := by omega
    have hal : Tryz.prog.arrayLen 174 = 24 := by simp [Program.arrayLen, Tryz.underlying174]
    have hsl : ∀ W, (Instr.sliceAt 174 (.pointer (some ⟨w.heap.size, 0, none⟩)) none (some (.int .i64 (Lib.nDigits u : Int))) none).run Tryz.prog W = .ok (.slice (some ⟨w.heap.size, 0, none⟩) (Lib.nDigits u) 24) W := fun W => by
      rw [run_sliceAt_array_h W 174 ⟨w.heap.size, 0, none⟩ (by simp [Program.arrayLen, Program.elem, Tryz.underlying174]) .i64 (Lib.nDigits u : Int) (by omega) (by rw [hal]; omega)]
      go_simp
    have hH0 := holds_zero0 w 174 (Lib.nDigits u) (by omega)
    have hfmt := Tryz.internal_strconv_formatBase10 w.heap.size 0 24 u (Array.replicate (Lib.nDigits u) 0) (w.alloc (.cells Lib.zeros24 174)) hH0 (by rw [Array.size_replicate]; exact Lib.lt_pow_nDigits u) hu (by rw [Array.size_replicate]; omega)
    rw [Array.size_replicate] at hfmt
    have HH0 := hide hH0
    clear hH0 hal
    go_enter Tryz.func100, Tryz.ntmps100
    go_wp2_with fail
    refine (Tryz.internal_strconv_numDigits u (by omega) hu _ (Lib.tabIs_alloc htab _)).mono ?_
    rintro e w1 ⟨rfl, rfl⟩
    go_wp2_with fail
    refine hfmt.mono ?_
    rintro e w2 ⟨rfl, k, v', dk, rfl, hF⟩
    have hcv : (convert 52 9 (.slice (some ⟨w.heap.size, 0, none⟩) (Lib.nDigits u) 24)).run Tryz.prog ((putRow (fun (b : UInt8) => Value.int .u8 (b.toNat : Int)) (w.alloc (.cells Lib.zeros24 174)) w.heap.size 0 dk).drewN k) = .ok (.string ⟨(Lib.decDigits u).toArray⟩) ((putRow (fun (b : UInt8) => Value.int .u8 (b.toNat : Int)) (w.alloc (.cells Lib.zeros24 174)) w.heap.size 0 dk).drewN k) := by
      have h := run_convert_bytes_back (P := Tryz.prog) ((putRow (fun (b : UInt8) => Value.int .u8 (b.toNat : Int)) (w.alloc (.cells Lib.zeros24 174)) w.heap.size 0 dk).drewN k) 52 9 5 ⟨w.heap.size, 0, none⟩ 24 (Lib.decDigits u) Tryz.underlying52 Tryz.underlying5 Tryz.underlying9 (fun j hj => by
        rw [Lib.row_is_numeral hF j hj, Lib.add_plain, World.cell?_drewN]
        exact cell?_putRow (fun (b : UInt8) => Value.int .u8 (b.toNat : Int)) _ w.heap.size 0 _ dk HH0.out (by rw [hF.size, Array.size_replicate]) j (by rw [hF.size]; rw [Lib.decDigits_length] at hj; exact hj))
      rw [Lib.decDigits_length] at h
      exact h
    go_wp2
    go_ret
    exact ⟨rfl, fin0 w _ dk k⟩
theorem strFormatUint_any (u : Nat) (w : World) (hu : u < 18446744073709551616) (htab : TabIs Tryz.prog w "internal/strconv.uint64pow10" .u64 Lib.pow10Tab) :
    Calls Tryz.prog 62 #[.int .u64 (u : Int), .int .i64 10] w fun e w' => e = .returned (.string (decS u)) ∧ Below w.heap.size w w' := by
  go_enter Tryz.func62, Tryz.ntmps62
  go_wp2_with fail
  refine (formatUint_any u w hu htab).mono ?_
  rintro e w1 ⟨rfl, hb⟩
  go_wp2
  go_ret
  exact ⟨rfl, hb⟩
end Go.Proofs.YtpbpidfjecejcaaGreatDoor
namespace Go.Proofs.YtpbpidfjecejcaaGreatDoor
open Go.RowKit Go.Sort Go.Lib
set_option linter.unusedVariables false
/-- The decimal of u, as bytes. -/
def decN (u : Nat) : List Nat := (Lib.decDigits u).map UInt8.toNat
theorem decN_byte (u : Nat) : ∀ x ∈ decN u, x < 256 := fun x hx => by
  obtain ⟨c, _, rfl⟩ := List.mem_map.1 hx
  exact c.toNat_lt
theorem decN_len (u : Nat) : (decN u).length = Lib.nDigits u := by unfold decN; rw [List.length_map, Lib.decDigits_length]
theorem decS_strB (u : Nat) : decS u = strB (decN u) := by
  unfold decS strB decN
  congr 2
  rw [List.map_map]
  conv => lhs; rw [← List.map_id (Lib.decDigits u)]
  apply List.map_congr_left
  intro c _
  simp
set_option maxHeartbeats 1600000 in
set_option maxRecDepth 100000 in
theorem iAppendUint_any (base : Nat) (v : Value) (l : List Nat) (g cap u : Nat) (w : World) (hu : u < 18446744073709551616) (htab : TabIs Tryz.prog w "internal/strconv.uint64pow10" .u64 Lib.pow10Tab) (h : OwM w base v l g cap) (hg : g < w.heap.size) (hb : base ≤ w.heap.size) (hlen : l.length ≤ 1000000) :
    Calls Tryz.prog 98 #[v, .int .u64 (u : Int), .int .i64 10] w fun e w' => ∃ v' g' cap', e = .returned v' ∧ OwM w' base v' (l ++ decN u) g' cap' ∧ g' < w'.heap.size ∧ Below base w w' := by
  have hv := h.val
  subst hv
  have hnd := nd20 u hu
  have hdl := decN_len u
  have HOW := hide h
  have HB := hide hb
  clear h hb
  by_cases hs : u < 100
  · have hi : (u : Int) < 100 := by omega
    have HSRC := hide (src_str (decN u) (decN_byte u) w)
    rw [← decS_strB] at HSRC
    go_enter Tryz.func98, Tryz.ntmps98
    go_wp2_with fail
    refine (Tryz.internal_strconv_small u hs _).mono ?_
    rintro e w1 ⟨rfl, rfl⟩
    go_wp2_with (at_builtin; (refine wpList_append_m _ rfl (.tmp 13) (.tmp 16) 9 rfl base _ l g cap rfl ?_ ?_ (.string (decS u)) (decN u) rfl ?_ ?_ ?_ ?_; (exact HOW.out); (exact hg); (exact HSRC.out); (exact HB.out); (omega); intro v' w' g' cap' r1 r2 r3; have HR := hide (And.intro r1 (And.intro r2 r3)); clear r1 r2 r3))
    go_ret
    exact ⟨v', g', cap', rfl, HR.out.1, HR.out.2.1, HR.out.2.2⟩
  · have hi : ¬ (u : Int) < 100 := by omega
    have hb3 : Lib.nDigits u ≤ 24 := by omega
    have hal : Tryz.prog.arrayLen 174 = 24 := by simp [Program.arrayLen, Tryz.underlying174]
    have hsl : ∀ W, (Instr.sliceAt 174 (.pointer (some ⟨w.heap.size, 0, none⟩)) none (some (.int .i64 (Lib.nDigits u : Int))) none).run Tryz.prog W = .ok (.slice (some ⟨w.heap.size, 0, none⟩) (Lib.nDigits u) 24) W := fun W => by
      rw [run_sliceAt_array_h W 174 ⟨w.heap.size, 0, none⟩ (by simp [Program.arrayLen, Program.elem, Tryz.underlying174]) .i64 (Lib.nDigits u : Int) (by omega) (by rw [hal]; omega)]
      go_simp
    have hH0 := holds_zero0 w 174 (Lib.nDigits u) (by omega)
    have hfmt := Tryz.internal_strconv_formatBase10 w.heap.size 0 24 u (Array.replicate (Lib.nDigits u) 0) (w.alloc (.cells Lib.zeros24 174)) hH0 (by rw [Array.size_replicate]; exact Lib.lt_pow_nDigits u) hu (by rw [Array.size_replicate]; omega)
    rw [Array.size_replicate] at hfmt
    have HH0 := hide hH0
    clear hH0 hal
    go_enter Tryz.func98, Tryz.ntmps98
    go_wp2_with fail
    refine (Tryz.internal_strconv_numDigits u (by omega) hu _ (Lib.tabIs_alloc htab _)).mono ?_
    rintro e w1 ⟨rfl, rfl⟩
    go_wp2_with fail
    refine hfmt.mono ?_
    rintro e w2 ⟨rfl, k, v', dk, rfl, hF⟩
    have hbl := fin0 w (.cells Lib.zeros24 174) dk k
    have HSRC := hide (src_row ⟨w.heap.size, 0, none⟩ 24 (decN u) ((putRow (fun (b : UInt8) => Value.int .u8 (b.toNat : Int)) (w.alloc (.cells Lib.zeros24 174)) w.heap.size 0 dk).drewN k) (fun j hj => by
      have hj' : j < (Lib.decDigits u).length := by simpa [decN] using hj
      have e1 : bv (decN u)[j] = Value.int .u8 ((Lib.decDigits u)[j].toNat : Int) := by simp [decN, bv]
      rw [e1, Lib.row_is_numeral hF j hj', Lib.add_plain, World.cell?_drewN]
      exact cell?_putRow (fun (b : UInt8) => Value.int .u8 (b.toNat : Int)) _ w.heap.size 0 _ dk HH0.out (by rw [hF.size, Array.size_replicate]) j (by rw [hF.size]; rw [Lib.decDigits_length] at hj'; exact hj')))
    have HO2 := hide (HOW.out.below hg hbl)
    have hg2 : g < ((putRow (fun (b : UInt8) => Value.int .u8 (b.toNat : Int)) (w.alloc (.cells Lib.zeros24 174)) w.heap.size 0 dk).drewN k).heap.size := Nat.lt_of_lt_of_le hg hbl.size
    have HB2 := hide (Nat.le_trans HB.out hbl.size)
    have HBL := hide (hbl.mono HB.out)
    rw [hdl] at HSRC
    clear hbl hfmt hF HOW HH0 htab
    generalize (putRow (fun (b : UInt8) => Value.int .u8 (b.toNat : Int)) (w.alloc (.cells Lib.zeros24 174)) w.heap.size 0 dk).drewN k = W2 at HSRC HO2 hg2 HB2 HBL ⊢
    go_wp2_with (at_builtin; (refine wpList_append_m _ rfl (.tmp 24) (.tmp 26) 52 rfl base _ l g cap rfl ?_ ?_ (.slice (some ⟨w.heap.size, 0, none⟩) (Lib.nDigits u) 24) (decN u) rfl ?_ ?_ ?_ ?_; (exact HO2.out); (exact hg2); (rw [hdl]; exact HSRC.out); (exact HB2.out); (omega); intro v' w' g' cap' r1 r2 r3; have HR := hide (And.intro r1 (And.intro r2 (HBL.out.trans r3))); clear r1 r2 r3))
    go_ret
    exact ⟨v', g', cap', rfl, HR.out.1, HR.out.2.1, HR.out.2.2⟩
theorem appendUint_any (base : Nat) (v : Value) (l : List Nat) (g cap u : Nat) (w : World) (hu : u < 18446744073709551616) (htab : TabIs Tryz.prog w "internal/strconv.uint64pow10" .u64 Lib.pow10Tab) (h : OwM w base v l g cap) (hg : g < w.heap.size) (hb : base ≤ w.heap.size) (hlen : l.length ≤ 1000000) :
    Calls Tryz.prog 59 #[v, .int .u64 (u : Int), .int .i64 10] w fun e w' => ∃ v' g' cap', e = .returned v' ∧ OwM w' base v' (l ++ decN u) g' cap' ∧ g' < w'.heap.size ∧ Below base w w' := by
  have HC := hide (iAppendUint_any base v l g cap u w hu htab h hg hb hlen)
  have hv := h.val
  subst hv
  clear h
  go_enter Tryz.func59, Tryz.ntmps59
  go_wp2_with fail
  refine HC.out.mono ?_
  rintro e w1 ⟨v', g', cap', rfl, r⟩
  have HR := hide r
  clear r
  go_wp2
  go_ret
  exact ⟨v', g', cap', rfl, HR.out⟩
end Go.Proofs.YtpbpidfjecejcaaGreatDoor
namespace Go.Proofs.YtpbpidfjecejcaaGreatDoor
open Go.RowKit Go.Sort Go.Lib
set_option linter.unusedVariables false
/-- Numbers that lie in memory. -/
def U64At (w : World) (a : Option Addr) (ns : List Nat) : Prop := 0 < ns.length → ∃ b off, a = some ⟨b, off, none⟩ ∧ ∀ i (h : i < ns.length), w.cell? ⟨b, off + i, none⟩ = some (.int .u64 (ns[i] : Int))
/-- A record's text: its word and its numbers. -/
def recOf (wl : List Nat) (ns : List Nat) : List Nat := wl ++ ns.flatMap (fun n => 32 :: decN n)
theorem rec_step (wl ns : List Nat) (k : Nat) (h : k < ns.length) : recOf wl (ns.take (k + 1)) = (recOf wl (ns.take k) ++ [32]) ++ decN ns[k] := by
  unfold recOf
  rw [List.take_add_one, List.getElem?_eq_getElem h]
  simp only [Option.toList_some, List.flatMap_append, List.flatMap_cons, List.flatMap_nil, List.append_nil, List.append_assoc, List.cons_append, List.nil_append]
/-- What []byte(s) makes. -/
theorem owM_new (w : World) (l : List Nat) (hb : ∀ x ∈ l, x < 256) (cap : Nat) (hc : l.length ≤ cap) :
    OwM (w.drew.alloc (.cells (bytesRow (strB l) cap) 5 ((bytesRow (strB l) cap).size, (bytesRow (strB l) cap).size + 1))) w.heap.size (.slice (some ⟨w.heap.size, 0, none⟩) l.length cap) l w.heap.size cap := by
  have hsz : (bytesRow (strB l) cap).size = cap := by
    unfold bytesRow
    have := strB_size l
    have hd : (strB l).data.size = l.length := this
    simp only [Array.size_append, Array.size_map, Array.size_replicate, hd, this]
    omega
  have hh : (w.drew.alloc (.cells (bytesRow (strB l) cap) 5 ((bytesRow (strB l) cap).size, (bytesRow (strB l) cap).size + 1))).heap[w.heap.size]? = some (.cells (bytesRow (strB l) cap) 5 ((bytesRow (strB l) cap).size, (bytesRow (strB l) cap).size + 1)) := heap_alloc_new w.drew _
  refine ⟨rfl, Nat.le_refl _, hc, fun j hj => ?_, fun j hj => ⟨?_, ?_⟩⟩
  · have hj2 : j < (strB l).data.size := by have h := strB_size l; have h' : (strB l).data.size = l.length := h; omega
    rw [cell_of_row _ _ _ _ _ _ hh, bytesRow_at (strB l) cap j hj2]
    have hx := hb l[j] (List.getElem_mem hj)
    simp only [strB, bv, List.getElem_toArray, List.getElem_map]
    congr 2
    simp
    omega
  · rw [cell_of_row _ _ _ _ _ _ hh, Array.getElem?_eq_getElem (by rw [hsz]; exact hj)]
    rfl
  · simp only [World.frozen?, hh]
    rw [hsz]
    simp
    omega
theorem recOf_byte (wl ns : List Nat) (h : ∀ x ∈ wl, x < 256) : ∀ x ∈ recOf wl ns, x < 256 := fun x hx => by
  unfold recOf at hx
  rcases List.mem_append.1 hx with hx | hx
  · exact h x hx
  · obtain ⟨n, _, hx⟩ := List.mem_flatMap.1 hx
    rcases List.mem_cons.1 hx with rfl | hx
    · omega
    · exact decN_byte n x hx
theorem recOf_len (wl : List Nat) : ∀ (ns : List Nat), (∀ n ∈ ns, n < 18446744073709551616) → (recOf wl ns).length ≤ wl.length + ns.length * 21
  | [], _ => by simp [recOf]
  | n :: r, h => by
    have h1 := recOf_len wl r (fun m hm => h m (List.mem_cons_of_mem _ hm))
    have h2 := nd20 n (h n (List.mem_cons_self ..))
    have h3 := decN_len n
    unfold recOf at h1 ⊢
    simp only [List.flatMap_cons, List.length_append, List.length_cons] at h1 ⊢
    omega
set_option maxHeartbeats 1600000 in
set_option maxRecDepth 20000 in
theorem record_any (wl : List Nat) (a : Option Addr) (c : Nat) (ns : List Nat) (w : World) (hb : ∀ x ∈ wl, x < 256) (hwl : wl.length ≤ 100) (hl : ns.length ≤ 100) (hns : ∀ n ∈ ns, n < 18446744073709551616) (hr : U64At w a ns) (htab : ∀ X, Below w.heap.size w X → TabIs Tryz.prog X "internal/strconv.uint64pow10" .u64 Lib.pow10Tab) :
    Calls Tryz.prog 24 #[.string (strB wl), .slice a ns.length c] w fun e w' => ∃ v g cap, e = .returned v ∧ OwM w' w.heap.size v (recOf wl ns) g cap ∧ g < w'.heap.size ∧ Below w.heap.size w w' := by
  have hcv := run_bytes_of_string (P := Tryz.prog) w 9 52 5 (strB wl) (by kernel_rfl) (by kernel_rfl) (by kernel_rfl)
  have hge := grownCap_ge w (strB wl).size 0 5
  rw [strB_size] at hcv hge
  have HOM := hide (owM_new w wl hb (grownCap w wl.length 0 5) hge)
  have hnx : Below w.heap.size w (w.drew.alloc (.cells (bytesRow (strB wl) (grownCap w wl.length 0 5)) 5 ((bytesRow (strB wl) (grownCap w wl.length 0 5)).size, (bytesRow (strB wl) (grownCap w wl.length 0 5)).size + 1))) := (Below.refl _ _).drew.alloc (Nat.le_refl _) _
  have HN := hide hnx
  have HLT := hide (show w.heap.size < (w.drew.alloc (.cells (bytesRow (strB wl) (grownCap w wl.length 0 5)) 5 ((bytesRow (strB wl) (grownCap w wl.length 0 5)).size, (bytesRow (strB wl) (grownCap w wl.length 0 5)).size + 1))).heap.size from by simp)
  generalize w.drew.alloc (.cells (bytesRow (strB wl) (grownCap w wl.length 0 5)) 5 ((bytesRow (strB wl) (grownCap w wl.length 0 5)).size, (bytesRow (strB wl) (grownCap w wl.length 0 5)).size + 1)) = W1 at hcv HOM HN HLT
  generalize grownCap w wl.length 0 5 = cap0 at hcv HOM
  have HR := hide (fun X (hX : Below w.heap.size w X) => show U64At X a ns from fun hp => by
    obtain ⟨b, off, e, hc⟩ := hr hp
    exact ⟨b, off, e, fun i hi => (hX.cell (p := ⟨b, off + i, none⟩) (lt_of_cell0 (hc i hi))).trans (hc i hi)⟩)
  have HTB := hide htab
  have HNS := hide hns
  have HLN := hide (fun k => recOf_len wl (ns.take k) (fun n hn => hns n (List.mem_of_mem_take hn)))
  clear hnx hge hr htab hns hb
  go_enter Tryz.func24, Tryz.ntmps24
  go_wp2
  go_loopw [5, 7, 12] (fun t _ i wv => ∃ (k g cap : Nat), k ≤ ns.length ∧ i = .int .i64 (k : Int) ∧ OwM wv w.heap.size t (recOf wl (ns.take k)) g cap ∧ g < wv.heap.size ∧ Below w.heap.size w wv) (fun _ _ i _ => ns.length - (RowKit.intOf i).toNat)
  case atStart => exact ⟨0, _, _, Nat.zero_le _, rfl, by simpa [recOf] using HOM.out, HLT.out, HN.out⟩
  case round =>
    obtain ⟨k, g, cap, hk, rfl, hO, hg, hbv⟩ := hrel
    have hv := hO.val
    subst hv
    have hbs := hbv.size
    by_cases hlt : k < ns.length
    · obtain ⟨b, off, rfl, hc⟩ := HR.out wr hbv (by omega)
      have s0 := hc k hlt
      have hn64 := HNS.out _ (List.getElem_mem hlt)
      have HST := hide (rec_step wl ns k hlt)
      generalize ns[k] = nk at s0 hn64 HST
      have hrl : (recOf wl (ns.take k)).length ≤ 3000 := by
        have h := HLN.out k
        have h2 : (ns.take k).length ≤ 100 := by simp; omega
        have h3 : (ns.take k).length * 21 ≤ 100 * 21 := Nat.mul_le_mul_right _ h2
        omega
      generalize recOf wl (ns.take k) = rk at hO hrl HST
      have hal := (Below.refl wr.heap.size wr).alloc (Nat.le_refl _) (.cells #[.int .u8 32] 5)
      have HO1 := hide (hO.below hg hal)
      have hg1 : g < (wr.alloc (.cells #[.int .u8 32] 5)).heap.size := Nat.lt_of_lt_of_le hg hal.size
      have HSR := hide (src_row ⟨wr.heap.size, 0, none⟩ 1 [32] (wr.alloc (.cells #[.int .u8 32] 5)) (fun j hj => by
        have hj0 : j = 0 := by simpa using hj
        subst hj0
        rw [addr_add, cell_of_row _ _ _ _ _ _ (heap_alloc_new wr _)]
        rfl))
      have HB1 := hide (Nat.le_trans hbs hal.size)
      have HBL := hide (hbv.trans (hal.mono hbs))
      clear hO hal hc hbv
      go_wp2_with (at_builtin; (refine wpList_append_m _ rfl (.tmp 16) (.tmp 17) 52 rfl w.heap.size _ rk g cap rfl ?_ ?_ (.slice (some ⟨wr.heap.size, 0, none⟩) 1 1) [32] rfl ?_ ?_ ?_ ?_; (exact HO1.out); (exact hg1); (exact HSR.out); (exact HB1.out); (simp; omega); intro v2 w2 g2 cap2 r1 r2 r3; have HO2 := hide r1; have HG2 := hide r2; have HB2 := hide (HBL.out.trans r3); clear r1 r2 r3))
      have AU := hide (appendUint_any w.heap.size v2 (rk ++ [32]) g2 cap2 nk w2 hn64 (HTB.out w2 HB2.out) HO2.out HG2.out HB2.out.size (by simp; omega))
      have hv2 := HO2.out.val
      subst hv2
      refine AU.out.mono ?_
      rintro e w3 ⟨v3, g3, cap3, rfl, h3, h4, h5⟩
      have HO3 := hide h3
      have HG3 := hide h4
      have HB3 := hide (HB2.out.trans h5)
      clear h3 h4 h5 AU HO1 HO2 s0
      go_wp2
      go_roundw
      case rel => exact ⟨k + 1, g3, cap3, by omega, by go_num, by rw [HST.out]; exact HO3.out, HG3.out, HB3.out⟩
      case measure => simp [RowKit.intOf]; omega
    · obtain rfl : k = ns.length := by omega
      have HT := hide (List.take_length (l := ns))
      rw [HT.out] at hO
      have HO := hide hO
      have HBV := hide hbv
      clear hO hbv hlt
      go_wp2
      go_ret
      exact ⟨_, g, cap, rfl, by rw [HT.out]; exact HO.out, hg, HBV.out⟩
end Go.Proofs.YtpbpidfjecejcaaGreatDoor
namespace Go.Proofs.YtpbpidfjecejcaaGreatDoor
open Go.RowKit
set_option linter.unusedVariables false
/-- A file made: created, written, synced. -/
def putOps (nm : ByteArray) (d : List Nat) : List OpV := [(1, nm, noStr, []), (2, nm, noStr, d), (3, nm, noStr, [])]
theorem own4_new (w : World) (base e : Nat) (vs : List V4) (hb : base ≤ w.heap.size) (hn : vs.length ≤ 1048576) : Own4 (w.alloc (.cells (four vs).toArray e)) base e (.slice (some ⟨w.heap.size, 0, none⟩) vs.length vs.length) vs :=
  ⟨four_length vs, .inr ⟨w.heap.size, vs.length, (four vs).toArray, rfl, hb, heap_alloc_new w _, Nat.le_refl _, by unfold maxLen; omega, by simp [four_length], by simp only; rw [List.take_of_length_le]; rw [four_length]; exact Nat.le_refl _⟩⟩
theorem OwnV.mono {w : World} {base base' : Nat} {v : Value} {vs : List V4} {os : List OpV} (h : OwnV w base v vs os) (hb : base' ≤ base) : OwnV w base' v vs os :=
  ⟨h.len, h.row.mono hb, fun i hi => by
    obtain ⟨x, h1, h2⟩ := h.body i hi
    exact ⟨x, h1, h2.mono hb⟩⟩
theorem OwnV.below' {w w' : World} {base : Nat} {v : Value} {vs : List V4} {os : List OpV} (h : OwnV w base v vs os) (hb : Below w.heap.size w w') : OwnV w' base v vs os :=
  ⟨h.len, h.row.below hb (Nat.le_refl _), fun i hi => by
    obtain ⟨x, h1, h2⟩ := h.body i hi
    exact ⟨x, h1, h2.below hb (Nat.le_refl _)⟩⟩
theorem OwnV.slice {w : World} {base : Nat} {v : Value} {vs : List V4} {os : List OpV} (h : OwnV w base v vs os) : ∃ a cap, v = .slice a os.length cap := by
  obtain ⟨a, cap, e⟩ := Own4.slice h.row
  exact ⟨a, cap, by rw [e, h.len]⟩
/-- A row of operations that a literal makes. -/
theorem ownV_new (w : World) (base : Nat) (vs : List V4) (os : List OpV) (hb : base ≤ w.heap.size) (hn : vs.length ≤ 1048576) (hl : vs.length = os.length) (hbd : ∀ i (h : i < os.length), ∃ x, vs[i]? = some (.int .i64 os[i].1, .string os[i].2.1, .string os[i].2.2.1, x) ∧ OwnB w base x os[i].2.2.2) :
    OwnV (w.alloc (.cells (four vs).toArray 56)) base (.slice (some ⟨w.heap.size, 0, none⟩) vs.length vs.length) vs os :=
  ⟨hl, own4_new w base _ vs hb hn, fun i hi => by
    obtain ⟨x, h1, h2⟩ := hbd i hi
    exact ⟨x, h1, h2.below ((Below.refl _ _).alloc (Nat.le_refl _) _) (Nat.le_refl _)⟩⟩
/-- append of operations. -/
theorem wpList_append_ops {ops : Array Oper} {rest : List Oper} {o : Oper} {act : Act} {Q : Exit → Act → World → Prop} (w : World) (hgd : o.guard = none) (s x : Operand)
    (ho : o.op = .call { callee := .builtin .append, args := #[s, x], argTypes := #[44, 44] })
    (base : Nat) (v : Value) (vs : List V4) (es : List OpV) (hs : act.eval s = v) (hown : OwnV w base v vs es) (xv : Value) (xs : List V4) (l : List OpV) (hx : act.eval x = xv) (hr : OwnV w base xv xs l) (hp : 0 < l.length) (hlen : es.length + l.length ≤ 1048576) (hbase : base ≤ w.heap.size)
    (h : ∀ v' w', OwnV w' base v' (vs ++ xs) (es ++ l) → w.grownBy w' v.ownBlock → wpList Tryz.prog ops Q rest (act.put o.dst v') w') : wpList Tryz.prog ops Q (o :: rest) act w := by
  obtain ⟨i0, hi, hz0, hz1, hz2⟩ := info_parts Tryz.infoOp
  have hvl := hown.len
  have hxl := hr.len
  rcases hr.row.2 with ⟨_, h0⟩ | ⟨g, cap, cur, hxv, hlo, hg, hnc, hcm, hcs, htk⟩
  · omega
  · subst hxv
    have hcl : ∀ j u, (four xs)[j]? = some u → w.cell? ((⟨g, 0, none⟩ : Addr).add j) = some u := fun j u hj => by
      rw [addr_add, Nat.zero_add, cell_of_row w g j _ _ _ hg]
      rw [← htk] at hj
      rw [List.getElem?_take] at hj
      split at hj
      · rw [← Array.getElem?_toList]; exact hj
      · cases hj
    have h1 : ∀ u ∈ four xs, u.oneCell' = true := fun u hu => by
      unfold four at hu
      obtain ⟨p, hp2, hu⟩ := List.mem_flatMap.1 hu
      obtain ⟨i, hi2, rfl⟩ := List.getElem_of_mem hp2
      obtain ⟨y, e1, e2⟩ := hr.body i (by omega)
      rw [List.getElem?_eq_getElem hi2] at e1
      simp only [Option.some.injEq] at e1
      rw [e1] at hu
      obtain ⟨ay, cy, rfl⟩ := e2.slice
      simp only [List.mem_cons, List.not_mem_nil, or_false] at hu
      rcases hu with rfl | rfl | rfl | rfl <;> rfl
    refine wpList_append_own w hgd s x 44 ho base 56 i0 (.agg #[.int .i64 0, .string ByteArray.empty, .string ByteArray.empty, .slice none 0 0]) 4 64 Tryz.underlying44 hi hz0 hz1 hz2 rfl (by decide) v vs.length (four vs) hs hown.row ⟨g, 0, none⟩ xs.length cap (four xs) hx (four_length xs) hcl h1 (by unfold maxLen; omega) (by omega) hbase ?_
    intro v' w' hown2 hgr _
    have f : Fr (fun k => v.ownBlock = some k) w w' := Fr.of_grown hgr (fun k e => e)
    have hS : ∀ k, v.ownBlock = some k → ∃ t, KindAt w k t ∧ t ≠ 5 := fun k e => ⟨_, own_kind hown.row e, by decide⟩
    refine h v' w' ⟨by simp [hvl, hxl], ?_, fun i hi2 => ?_⟩ hgr
    · unfold Own4
      rw [four_append, List.length_append]
      exact hown2
    · rw [List.length_append] at hi2
      by_cases h1 : i < es.length
      · obtain ⟨y, e1, e2⟩ := hown.body i h1
        refine ⟨y, ?_, ?_⟩
        · rw [List.getElem?_append_left (by omega), e1, List.getElem_append_left h1]
        · rw [List.getElem_append_left h1]; exact own_frk e2 f hS
      · obtain ⟨y, e1, e2⟩ := hr.body (i - es.length) (by omega)
        refine ⟨y, ?_, ?_⟩
        · rw [List.getElem?_append_right (by omega), hvl, e1, List.getElem_append_right (by omega)]
        · rw [List.getElem_append_right (by omega)]; exact own_frk e2 f hS
/-- What a list of operations that is handed back is. -/
def PutPost (w : World) (l : List OpV) (e : Ending) (w' : World) : Prop := ∃ v vs, e = .returned v ∧ OwnV w' w.heap.size v vs l ∧ Below w.heap.size w w'
set_option maxRecDepth 20000 in
theorem l5Put_any (nm : ByteArray) (a : Option Addr) (c : Nat) (d : List Nat) (w : World) (hd : d.length ≤ 1048576) (hr : RowAt w a d) :
    Calls Tryz.prog 21 #[.string nm, .slice a d.length c] w (PutPost w (putOps nm d)) := by
  have HC := hide (bytes_w a c d w hd hr)
  clear hr
  go_enter Tryz.func21, Tryz.ntmps21
  go_wp2_with fail
  refine HC.out.mono ?_
  rintro e w1 ⟨v, rfl, ho, hb⟩
  obtain ⟨a1, c1, rfl⟩ := OwnB.slice ho
  have HN := hide (ownV_new w1 w.heap.size [(.int .i64 1, .string nm, .string noStr, .slice none 0 0), (.int .i64 2, .string nm, .string noStr, .slice a1 d.length c1), (.int .i64 3, .string nm, .string noStr, .slice none 0 0)] (putOps nm d) hb.size (by simp) rfl (fun i hi => by
    match i, hi with
    | 0, _ => exact ⟨_, rfl, OwnB.nil _ _⟩
    | 1, _ => exact ⟨_, rfl, ho⟩
    | 2, _ => exact ⟨_, rfl, OwnB.nil _ _⟩))
  have HB := hide (hb.trans (((Below.refl w1.heap.size w1).alloc (Nat.le_refl _) (.cells (four [(.int .i64 1, .string nm, .string noStr, .slice none 0 0), (.int .i64 2, .string nm, .string noStr, .slice a1 d.length c1), (.int .i64 3, .string nm, .string noStr, .slice none 0 0)]).toArray 56)).mono hb.size))
  clear ho hb HC
  go_wp2
  go_ret
  exact ⟨_, _, rfl, HN.out, HB.out⟩
set_option maxRecDepth 20000 in
theorem grown_any (nm : ByteArray) (a : Option Addr) (c : Nat) (d : List Nat) (w : World) (hd : d.length ≤ 1048576) (hr : RowAt w a d) :
    Calls Tryz.prog 60 #[.string nm, .slice a d.length c] w (PutPost w [(2, nm, noStr, d), (3, nm, noStr, [])]) := by
  have HC := hide (clone_own a c d w hd hr)
  clear hr
  go_enter Tryz.func60, Tryz.ntmps60
  go_wp2_with fail
  refine HC.out.mono ?_
  rintro e w1 ⟨v, rfl, ho, hb⟩
  obtain ⟨a1, c1, rfl⟩ := OwnB.slice ho
  have HN := hide (ownV_new w1 w.heap.size [(.int .i64 2, .string nm, .string noStr, .slice a1 d.length c1), (.int .i64 3, .string nm, .string noStr, .slice none 0 0)] [(2, nm, noStr, d), (3, nm, noStr, [])] hb.size (by simp) rfl (fun i hi => by
    match i, hi with
    | 0, _ => exact ⟨_, rfl, ho⟩
    | 1, _ => exact ⟨_, rfl, OwnB.nil _ _⟩))
  have HB := hide (hb.trans (((Below.refl w1.heap.size w1).alloc (Nat.le_refl _) (.cells (four [(.int .i64 2, .string nm, .string noStr, .slice a1 d.length c1), (.int .i64 3, .string nm, .string noStr, .slice none 0 0)]).toArray 56)).mono hb.size))
  clear ho hb HC
  go_wp2
  go_ret
  exact ⟨_, _, rfl, HN.out, HB.out⟩
set_option maxRecDepth 20000 in
theorem made_any (nm : ByteArray) (a : Option Addr) (c : Nat) (d : List Nat) (w : World) (hd : d.length ≤ 1048576) (hr : RowAt w a d) :
    Calls Tryz.prog 25 #[.string nm, .slice a d.length c] w (PutPost w (putOps nm d)) := by
  have hal := (Below.refl w.heap.size w).alloc (Nat.le_refl _) (.cells (four [(.int .i64 1, .string nm, .string noStr, .slice none 0 0)]).toArray 56)
  have HV0 := hide (ownV_new w w.heap.size [(.int .i64 1, .string nm, .string noStr, .slice none 0 0)] [(1, nm, noStr, [])] (Nat.le_refl _) (by simp) rfl (fun i hi => by
    match i, hi with
    | 0, _ => exact ⟨_, rfl, OwnB.nil _ _⟩))
  have HC := hide (grown_any nm a c d _ hd (hr.below hal))
  have HAL := hide hal
  clear hr hal
  go_enter Tryz.func25, Tryz.ntmps25
  go_wp2_with fail
  refine HC.out.mono ?_
  rintro e w1 ⟨v, vs, rfl, ho, hb⟩
  have hv1 := HV0.out.below' hb
  have hbw := HAL.out.trans (hb.mono HAL.out.size)
  have ho' := ho.mono HAL.out.size
  obtain ⟨a1, c1, rfl⟩ := ho.slice
  have HV1 := hide hv1
  have HO := hide ho'
  have HB := hide hbw
  have FIN := hide (fun (v5 : Value) (w5 : World) (hg : w1.grownBy w5 (some w.heap.size)) => show Below w.heap.size w w5 from hbw.trans ((Fr.of_grown (S := fun g => g = w.heap.size) hg (fun k e => by simpa using e.symm)).below (fun g e => by omega) hbw.size))
  clear hv1 ho ho' hb hbw HC HV0 HAL
  go_wp2_with (at_builtin; (refine wpList_append_ops _ rfl (.tmp 7) (.tmp 10) rfl w.heap.size (.slice (some ⟨w.heap.size, 0, none⟩) 1 1) [(.int .i64 1, .string nm, .string noStr, .slice none 0 0)] [(1, nm, noStr, [])] rfl ?_ (.slice a1 2 c1) vs [(2, nm, noStr, d), (3, nm, noStr, [])] rfl ?_ ?_ ?_ ?_ ?_; (exact HV1.out); (exact HO.out); (exact Nat.succ_pos 1); (simp); (exact HB.out.size); intro v5 w5 h5 hg5; have HV5 := hide h5; have HB5 := hide (FIN.out v5 w5 hg5); clear h5 hg5))
  go_ret
  exact ⟨v5, _, rfl, HV5.out, HB5.out⟩
end Go.Proofs.YtpbpidfjecejcaaGreatDoor
namespace Go.Proofs.YtpbpidfjecejcaaGreatDoor
open Go.RowKit
/-- spec.Crc gives the sum of the bytes and leaves the world as it was. -/
theorem specCrc_any (a : Option Addr) (cap : Nat) (l : List Nat) (w : World) (hl : l.length ≤ 1048576) (hr : RowAt w a l) (hb : ∀ x ∈ l, x < 256) :
    Calls Tryz.prog 122 #[.slice a l.length cap] w fun e w' => e = .returned (.int .u32 ((crcOf l : Nat) : Int)) ∧ w' = w := by
  go_enter Tryz.func122, Tryz.ntmps122
  go_wp2
  go_loop [3, 10] (fun c i => ∃ k : Nat, k ≤ l.length ∧ i = .int .i64 k ∧ c = .int .u32 ((crcFold 4294967295 (l.take k) : Nat) : Int)) (fun _ i => l.length - (intOf i).toNat)
  case atStart => exact ⟨0, Nat.zero_le _, rfl, rfl⟩
  case round =>
    obtain ⟨k, hk, rfl, rfl⟩ := hrel
    by_cases hlt : k < l.length
    · obtain ⟨b, off, rfl, hc⟩ := hr (by omega)
      have hck := hc k hlt
      clear hc hr
      have hxb : l[k] < 256 := hb _ (List.getElem_mem hlt)
      have hcl : crcFold 4294967295 (l.take k) < 4294967296 := crcFold_lt _ (fun x hx => hb x (List.mem_of_mem_take hx)) _ (by decide)
      have HN : Hid (crcFold 4294967295 (l.take (k + 1)) = crcByte (crcFold 4294967295 (l.take k)) l[k]) := by
        show _ = _
        rw [List.take_succ_eq_append_getElem hlt, crcFold_snoc]
      generalize crcFold 4294967295 (l.take k) = c0 at hcl HN ⊢
      go_wp2
      go_loop [3, 6] (fun c j => ∃ m : Nat, m ≤ 8 ∧ j = .int .i64 m ∧ c = .int .u32 ((specSteps c0 l[k] m : Nat) : Int)) (fun _ j => 8 - (intOf j).toNat)
      case atStart => exact ⟨0, Nat.zero_le _, rfl, rfl⟩
      case round =>
        obtain ⟨m, hm, rfl, rfl⟩ := hrel
        by_cases hm8 : m < 8
        · have hsl := specSteps_lt c0 l[k] m hcl
          have HS : Hid (specSteps c0 l[k] (m + 1) = specStep (specSteps c0 l[k] m) l[k] m) := rfl
          generalize specSteps c0 l[k] m = c1 at hsl HS ⊢
          go_wp2
          all_goals
            go_round
            case rel => exact ⟨m + 1, by omega, by go_num, val_int (by rw [HS.out]; first | exact spec_hit hsl hxb ‹_› | exact spec_miss hsl hxb ‹_›)⟩
            case measure => simp [intOf]; omega
        · go_wp2
          go_round
          case rel => exact ⟨k + 1, by omega, by go_num, val_int (by rw [HN.out, ← spec_byte _ _ hxb, show m = 8 from by omega])⟩
          case measure => simp [intOf]; omega
    · have hcl : crcFold 4294967295 (l.take k) < 4294967296 := crcFold_lt _ (fun x hx => hb x (List.mem_of_mem_take hx)) _ (by decide)
      go_wp2
      go_ret
      exact ⟨ret_int (by rw [out_eq _ hcl, List.take_of_length_le (by omega)]; rfl), rfl⟩
end Go.Proofs.YtpbpidfjecejcaaGreatDoor
