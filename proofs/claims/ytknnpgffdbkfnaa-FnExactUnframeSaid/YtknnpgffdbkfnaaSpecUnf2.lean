import Derived.Test.YtknnpgffdbkfnaaSpecUnframe
namespace Go.Proofs.Ytknnpgffdbkfnaa
open Go.RowKit
theorem l2First_short_n (n b off cap : Nat) (w : World) (hl : n < 6) :
    Calls Try.prog 29 #[.slice (some ⟨b, off, none⟩) n cap] w fun e w' => e = .returned (.tuple #[.slice none 0 0, .bool false]) ∧ w' = w := by
  go_enter Try.func29, Try.ntmps29
  go_wp2
  go_ret2
  exact ⟨rfl, rfl⟩
theorem l2First_n (n b off cap : Nat) (d : List Nat) (hn : n = d.length) (w : World) (hl4 : d.length ≤ 40000) (hcap : d.length ≤ cap) (hr : RowAt w (some ⟨b, off, none⟩) d) (hb : ∀ x ∈ d, x < 256) :
    Calls Try.prog 29 #[.slice (some ⟨b, off, none⟩) n cap] w fun e w' => Below w.heap.size w w' ∧ ((∃ r v, firstOf d = some r ∧ e = .returned (.tuple #[v, .bool true]) ∧ OwnB w' w.heap.size v r) ∨ (firstOf d = none ∧ e = .returned (.tuple #[.slice none 0 0, .bool false]))) := by
  subst hn; exact l2First_any b off cap d w hl4 hcap hr hb
theorem specUnframe_long (b off cap : Nat) (d : List Nat) (w : World) (hl : 40000 < d.length) :
    Calls Try.prog 15 #[.slice (some ⟨b, off, none⟩) d.length cap] w fun e w' => ∃ v, e = .returned v ∧ LogOf w' w.heap.size v (unfOf d) ∧ Below w.heap.size w w' := by
  have hu : unfOf d = ([], 0) := by unfold unfOf; rw [if_pos hl]
  rw [hu]
  clear hu
  go_enter Try.func15, Try.ntmps15
  go_wp2
  exact bodyPost_ret (v := .agg #[.slice none 0 0, .int .i64 0]) (by simp [results, Try.results15, go_sem]) rfl ⟨_, rfl, ⟨_, [], rfl, OwnBV.nil _ _⟩, ((Below.refl _ _).alloc (Nat.le_refl _) _).alloc (by simp) _⟩
set_option maxHeartbeats 400000 in
theorem specUnframe_any (b off cap : Nat) (d : List Nat) (w : World) (hl : d.length ≤ 40000) (hcap : d.length ≤ cap) (hr : RowAt w (some ⟨b, off, none⟩) d) (hb : ∀ x ∈ d, x < 256) :
    Calls Try.prog 15 #[.slice (some ⟨b, off, none⟩) d.length cap] w fun e w' => ∃ v, e = .returned v ∧ LogOf w' w.heap.size v (unfOf d) ∧ Below w.heap.size w w' := by
  have hd : decide ((40000 : Int) < (d.length : Int)) = false := by simp; omega
  have HU : Hid (unfGo d d.length [] 0 = unfOf d) := by show _ = _; unfold unfOf; rw [if_neg (by omega)]
  go_enter Try.func15, Try.ntmps15
  go_wp2
  go_loopg [4] d.length (fun f _ wr => ∃ rs g vr vs, Unf w wr f d rs g vr vs)
  case atStart =>
    refine ⟨[], 0, .slice none 0 0, [], HU.out, by omega, by omega, by simp, ?_, ?_, OwnBV.nil _ _, ((Below.refl _ _).alloc (Nat.le_refl _) _).alloc (by simp) _, by simp⟩
    · exact (Below.heap_alloc (w.alloc _) _ _ (by simp)).trans (heap_alloc_new w _)
    · have h := heap_alloc_new (w.alloc (.cells #[.slice none 0 0, .int .i64 0] 32)) (.cells #[.slice none 0 0, .int .i64 0] 32)
      simpa [Blk2] using h
  case round =>
    obtain ⟨rs, g, vr, vs, hgo, hfu, hgd, hrg, hB, hB1, hov, hnx, hsz⟩ := hrel
    have HG := hide hgo
    clear hgo HU
    have c0 := hB1.c0
    have c1 := hB1.c1
    have f0 := hB1.fz 0
    have f1 := hB1.fz 1
    have hgi : (g : Int) ≤ (d.length : Int) := by omega
    have hs0 := hnx.size
    have hrw := hr.below hnx
    by_cases hgc : g < cap
    · go_wp2_with fail
      refine (l2First_n (d.length - g) b (off + g) (cap - g) (d.drop g) (by simp) wr (by simp; omega) (by simp; omega) (hrw.drop g) (fun x hx => hb x (List.mem_of_mem_drop hx))).mono ?_
      rintro e w2 ⟨hb2, h2⟩
      have k0 := hB.below hb2 hB.lt
      have k1 := hB1.below hb2 hB1.lt
      have kv := hov.below hb2 (Nat.le_refl _)
      have HOV := hide hov
      have hn2 : Below w.heap.size w w2 := hnx.trans (hb2.mono hs0)
      have hs2 := hb2.size
      clear hB hB1 hov c0 c1 f0 f1 hrw hr
      have c0 := k1.c0
      have c1 := k1.c1
      have f0 := k1.fz 0
      have f1 := k1.fz 1
      have r0 := k0.c0
      have r1 := k0.c1
      have q0 := k0.fz 0
      have q1 := k0.fz 1
      rcases h2 with ⟨r, v, hfi, rfl, ho2⟩ | ⟨hfi, rfl⟩
      · obtain ⟨a2, c2, rfl⟩ := ho2.slice
        have hrl := firstOf_len hfi
        simp only [List.length_drop] at hrl
        obtain ⟨f', hf', hgo', hfu'⟩ := unf_some (rs := rs) hfu hfi
        rw [unhide HG] at hgo'
        have HGO := hide hgo'
        have HF := hide hf'
        have HFU := hide hfu'
        clear hgo' hf' hfu' hfi HG
        have HKN := hide ((unhide HOV).ne_new ho2)
        clear HOV
        obtain ⟨av, cv, rfl⟩ := kv.slice
        have HA := hide (unf_arm (e := 24) hsz hs2 k0 k1 kv (ho2.mono hsz) hn2)
        have hrl2 : rs.length ≤ 1048576 := by omega
        clear k0 kv hnx hb2 hn2 r0 r1 q0 q1
        go_wp2_with (at_builtin; refine wpList_append_row _ rfl _ _ rfl (w.heap.size + 2) (.slice av rs.length cv) vs rs (.slice a2 r.length c2) r w2.heap.size 1 rfl rfl (unhide HA).1 (unhide HA).2.1 (unhide HA).2.2.1 (unhide HKN) hrl2 (by simp; omega) ?_; intro v3 w3 ho3 hg3; obtain ⟨a3, c3, rfl⟩ := ho3.slice; have hz := (unhide HA).2.2.2 w3 hg3; have c30 := hz.2.1.c0; have c31 := hz.2.1.c1; have f30 := hz.2.1.fz 0; have f31 := hz.2.1.fz 1)
        have hd3 := unf_done (u := .int .i64 ((g : Int) + (6 + (r.length : Int)))) hz.1 hz.2.1 ho3 hz.2.2.1 hz.2.2.2
        go_roundg f'
        case measure => have := unhide HF; omega
        case rel =>
          refine ⟨rs ++ [r], g + (6 + r.length), .slice a3 (rs ++ [r]).length c3, vs ++ [.slice a2 r.length c2], (unhide HGO).symm, by have := unhide HFU; omega, by omega, by simp; omega, ?_, ?_, ?_, ?_, ?_⟩
          · simpa using hd3.1
          · simpa using hd3.2.1
          · simpa using hd3.2.2.1
          · simpa using hd3.2.2.2.1
          · simpa using hd3.2.2.2.2
      · have hu : unfOf d = (rs, g) := by rw [← unhide HG]; exact unf_none hfi
        have HU := hide hu
        clear hu HG HOV hfi
        obtain ⟨av, cv, rfl⟩ := kv.slice
        go_wp2
        refine bodyPost_ret (v := .agg #[.slice av rs.length cv, .int .i64 (g : Int)]) (by simp [results, Try.results15, go_sem, r0, r1]) rfl ⟨_, rfl, ?_, (hn2.setCell (Nat.le_refl _) _).setCell (Nat.le_refl _) _⟩
        rw [unhide HU]
        exact ⟨_, vs, rfl, ((kv.other (by omega) _).other (by omega) _).mono (by omega)⟩
    · obtain rfl : g = cap := by omega
      have hdg : d.length - g = 0 := by omega
      have hfi : firstOf (d.drop g) = none := firstOf_short (by simp; omega)
      have hu : unfOf d = (rs, g) := by rw [← unhide HG]; exact unf_none hfi
      have HU := hide hu
      have r0 := hB.c0
      have r1 := hB.c1
      have q0 := hB.fz 0
      have q1 := hB.fz 1
      clear hu HG hfi
      obtain ⟨av, cv, rfl⟩ := hov.slice
      go_wp2_with fail
      refine (l2First_short_n 0 b off 0 wr (by omega)).mono ?_
      rintro e w2 ⟨rfl, rfl⟩
      go_wp2
      refine bodyPost_ret (v := .agg #[.slice av rs.length cv, .int .i64 (g : Int)]) (by simp [results, Try.results15, go_sem, r0, r1]) rfl ⟨_, rfl, ?_, (hnx.setCell (Nat.le_refl _) _).setCell (Nat.le_refl _) _⟩
      rw [unhide HU]
      exact ⟨_, vs, rfl, ((hov.other (by omega) _).other (by omega) _).mono (by omega)⟩
end Go.Proofs.Ytknnpgffdbkfnaa
