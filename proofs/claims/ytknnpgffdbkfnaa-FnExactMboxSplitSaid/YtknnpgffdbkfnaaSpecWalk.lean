import Derived.Test.YtknnpgffdbkfnaaSplitEq
import Derived.Test.YtknnpgffdbkfnaaSpecPc3
import Derived.Test.YtknnpgffdbkfnaaSpecSplit
namespace Go.Proofs.Ytknnpgffdbkfnaa
open Go.RowKit
theorem spans_pos (f p : Nat) (d : List Nat) : ∀ x ∈ spansF f p d, 0 < x.2 := by
  induction f generalizing p d with
  | zero => intro x hx; simp [spansF] at hx
  | succ f ih =>
    intro x hx
    rw [spansF] at hx
    split at hx
    · cases hx
    · rcases List.mem_cons.1 hx with rfl | hx
      · exact cutAt_pos d (by omega)
      · exact ih _ _ x hx
theorem seg_next {d : List Nat} {cs at_ : Nat} {x : Nat × Nat} (h1 : x.1 = at_) (h2 : cs ≤ at_) : segB d cs at_ ++ pieceOf d x = segB d cs (at_ + x.2) := by
  unfold segB pieceOf
  rw [h1, show at_ + x.2 - cs = (at_ - cs) + x.2 from by omega, List.take_add, List.drop_drop, show cs + (at_ - cs) = at_ from by omega]
theorem seg_len {d : List Nat} {cs at_ : Nat} (h2 : cs ≤ at_) (h3 : at_ ≤ d.length) : (segB d cs at_).length = at_ - cs := by
  unfold segB; rw [List.length_take, List.length_drop]; omega
theorem OwnB.text {w : World} {base g n cap : Nat} {l : List Nat} (h : OwnB w base (.slice (some ⟨g, 0, none⟩) n cap) l) : TextAt w g 0 l := fun i hi => by
  obtain ⟨b, off, e, hc⟩ := h.row (by omega)
  simp only [Option.some.injEq, Addr.mk.injEq, and_true] at e
  obtain ⟨rfl, rfl⟩ := e
  exact hc i hi
theorem OwnB.at0 {w : World} {base : Nat} {v : Value} {l : List Nat} (h : OwnB w base v l) (h0 : 0 < l.length) : ∃ g c, v = .slice (some ⟨g, 0, none⟩) l.length c ∧ base ≤ g ∧ g < w.heap.size ∧ l.length ≤ c := by
  rcases h.2 with ⟨_, hn⟩ | ⟨g, cap, cur, rfl, hb, hg, hc, _⟩
  · omega
  · refine ⟨g, cap, rfl, hb, lt_of_block hg, ?_⟩
    exact hc
/-- How the loop stands. -/
structure SLoop (w wr : World) (lo2 : Nat) (lv v cur : Value) (d : List Nat) (xs : List Value) (xsL : List (Nat × Nat)) (k cs at_ lc : Nat) (vs : List S3) (acc : List (Nat × Nat × List Nat)) : Prop where
  sg : Spg w wr lo2 lv v 24 xsL.length xs vs (acc.map (·.2.2))
  cu : OwnB wr lc cur (segB d cs at_)
  lc1 : lo2 ≤ lc
  lc2 : lc ≤ wr.heap.size
  ap : ∀ y ∈ vs, ∀ g, y.2.2.ownBlock = some g → g < lc
  cov : Cover d at_ (xsL.drop k)
  pos : (at_ = 0 ∧ cs = 0) ∨ cs < at_
  vm : vs.map (fun x : S3 => (x.1, x.2.1)) = acc.map (fun x => (x.1, x.2.1))
  go : (specGo d (xsL.drop k) cs at_).map (acc ++ ·) = specGo d xsL 0 0
  al : acc.length ≤ k
theorem specMbox_long (b off cap : Nat) (d : List Nat) (w : World) (hl : 40000 < d.length) (hd : d.length ≤ 1048576) :
    Calls Try.prog 21 #[.slice (some ⟨b, off, none⟩) d.length cap] w (SplPost d w) := by
  have hi : (40000 : Int) < (d.length : Int) := by omega
  have hb0 : BlkS (w.alloc (.cells #[.bool false, .slice none 0 0] 40)) w.heap.size (.bool false) (.slice none 0 0) := heap_alloc_new w _
  go_enter Try.func21, Try.ntmps21
  go_wp2
  exact bodyPost_ret (ret_spans w.heap.size _ _ _ rfl rfl hb0) rfl ⟨_, rfl, by rw [split_none (Or.inl hl)]; exact rfl, (Below.refl _ _).alloc (Nat.le_refl _) _⟩
/-- What the end of a piece brings. -/
theorem spec_cut_no {d : List Nat} {xsL : List (Nat × Nat)} {x : Nat × Nat} {r : List (Nat × Nat)} {cs at_ : Nat} {acc : List (Nat × Nat × List Nat)} (hgo : (specGo d (x :: r) cs at_).map (acc ++ ·) = specGo d xsL 0 0) (hcut : headL d x = true ∧ 0 < at_) (hok : okEntry (segB d cs at_) = false) : specGo d xsL 0 0 = none := by
  rw [← hgo, specGo, if_pos hcut, if_neg (by rw [hok]; simp)]
  rfl
theorem spec_cut_yes {d : List Nat} {xsL : List (Nat × Nat)} {x : Nat × Nat} {r : List (Nat × Nat)} {cs at_ : Nat} {acc : List (Nat × Nat × List Nat)} (hgo : (specGo d (x :: r) cs at_).map (acc ++ ·) = specGo d xsL 0 0) (hcut : headL d x = true ∧ 0 < at_) (hok : okEntry (segB d cs at_) = true) : (specGo d r at_ (at_ + x.2)).map ((acc ++ [spanB d cs at_]) ++ ·) = specGo d xsL 0 0 := by
  rw [← hgo, specGo, if_pos hcut, if_pos hok]
  cases specGo d r at_ (at_ + x.2) with
  | none => rfl
  | some l => simp
theorem spec_end_no {d : List Nat} {xsL : List (Nat × Nat)} {cs at_ : Nat} {acc : List (Nat × Nat × List Nat)} (hgo : (specGo d [] cs at_).map (acc ++ ·) = specGo d xsL 0 0) (h0 : 0 < at_) (hok : okEntry (segB d cs at_) = false) : specGo d xsL 0 0 = none := by
  rw [← hgo, specGo, if_pos h0, if_neg (by rw [hok]; simp)]
  rfl
theorem spec_end_yes {d : List Nat} {xsL : List (Nat × Nat)} {cs at_ : Nat} {acc : List (Nat × Nat × List Nat)} (hgo : (specGo d [] cs at_).map (acc ++ ·) = specGo d xsL 0 0) (h0 : 0 < at_) (hok : okEntry (segB d cs at_) = true) : specGo d xsL 0 0 = some (acc ++ [spanB d cs at_]) := by
  rw [← hgo, specGo, if_pos h0, if_pos hok]
  rfl
theorem spec_end_zero {d : List Nat} {xsL : List (Nat × Nat)} {cs at_ : Nat} {acc : List (Nat × Nat × List Nat)} (hgo : (specGo d [] cs at_).map (acc ++ ·) = specGo d xsL 0 0) (h0 : ¬ 0 < at_) : specGo d xsL 0 0 = some acc := by
  rw [← hgo, specGo, if_neg h0]
  simp
/-- A piece that is well-formed has come to the list; the next line begins anew. -/
theorem loop_cut {w wr w2 w6 : World} {lo2 : Nat} {lv v v3 u cur v6 : Value} {d : List Nat} {xs : List Value} {xsL : List (Nat × Nat)} {k cs at_ lc : Nat} {vs : List S3} {acc : List (Nat × Nat × List Nat)} {x : Nat × Nat}
    (S : SLoop w wr lo2 lv v cur d xs xsL k cs at_ lc vs acc) (hx1 : x.1 = at_) (hx0 : 0 < x.2) (hx3 : Cover d (at_ + x.2) (xsL.drop (k + 1)))
    (hgo : (specGo d (xsL.drop (k + 1)) at_ (at_ + x.2)).map ((acc ++ [spanB d cs at_]) ++ ·) = specGo d xsL 0 0)
    (hS : Spg w w2 lo2 lv v3 24 xsL.length xs (vs ++ [(cs, at_, u)]) (acc.map (·.2.2) ++ [unquoteOf (innerOf (segB d cs at_))]))
    (ho6 : OwnB w6 w2.heap.size v6 ([] ++ pieceOf d x)) (hg6 : w2.grownBy w6 (Value.slice none 0 0).ownBlock) :
    SLoop w w6 lo2 lv v3 v6 d xs xsL (k + 1) at_ (at_ + x.2) w2.heap.size (vs ++ [(cs, at_, u)]) (acc ++ [spanB d cs at_]) := by
  refine ⟨?_, ?_, hS.sz, hg6.size, fun y hy g e => hS.os.lt y hy g e, hx3, Or.inr (by omega), ?_, hgo, by rw [List.length_append]; have := S.al; simp; omega⟩
  · rw [List.map_append]
    exact hS.kept hg6 (fun g e => by cases e) (by
      cases e : v3.ownBlock with
      | none => exact .inl rfl
      | some g => exact .inr (by simp [Value.ownBlock])) (fun y _ => by
      cases e : y.2.2.ownBlock with
      | none => exact .inl rfl
      | some g => exact .inr (by simp [Value.ownBlock]))
  · rw [List.nil_append] at ho6
    have e : segB d at_ (at_ + x.2) = pieceOf d x := by
      unfold segB pieceOf
      rw [hx1, show at_ + x.2 - at_ = x.2 from by omega]
    rw [e]; exact ho6
  · rw [List.map_append, List.map_append, S.vm]
    rfl
/-- A line comes to the piece. -/
theorem loop_more {w w2 w6 : World} {lo2 : Nat} {lv v cur v6 : Value} {d : List Nat} {xs : List Value} {xsL : List (Nat × Nat)} {k cs at_ lc : Nat} {vs : List S3} {acc : List (Nat × Nat × List Nat)} {x : Nat × Nat}
    (S : SLoop w w2 lo2 lv v cur d xs xsL k cs at_ lc vs acc) (hx1 : x.1 = at_) (hx0 : 0 < x.2) (hx3 : Cover d (at_ + x.2) (xsL.drop (k + 1)))
    (hgo : (specGo d (xsL.drop (k + 1)) cs (at_ + x.2)).map (acc ++ ·) = specGo d xsL 0 0)
    (h6 : OwnB w6 lc v6 (segB d cs at_ ++ pieceOf d x)) (hg6 : w2.grownBy w6 cur.ownBlock) :
    SLoop w w6 lo2 lv v v6 d xs xsL (k + 1) cs (at_ + x.2) lc vs acc := by
  refine ⟨S.sg.kept hg6 (fun g e => by have := (World.ownsRow.lt S.cu g e).1; have := S.lc1; omega) (blocks_apart S.sg.os.row S.cu (by decide)) (fun y hy => ?_), by rw [← seg_next hx1 (by have := S.pos; omega)]; exact h6, S.lc1, Nat.le_trans S.lc2 hg6.size, S.ap, hx3, Or.inr (by have := S.pos; omega), S.vm, hgo, by have := S.al; omega⟩
  cases e : y.2.2.ownBlock with
  | none => exact .inl rfl
  | some g => exact .inr fun e' => by have := S.ap y hy g e; have := (World.ownsRow.lt S.cu g e'.symm).1; omega
theorem spl_end {w W : World} {lo2 : Nat} {sv v : Value} {ex nx : Nat} {xs : List Value} {vs : List S3} {l : List (Nat × Nat × List Nat)} (S : Spg w W lo2 sv v ex nx xs vs (l.map (·.2.2))) (hv : vs.map (fun x : S3 => (x.1, x.2.1)) = l.map (fun x => (x.1, x.2.1))) :
    SplIs ((W.setCell ⟨w.heap.size, 0, none⟩ (.bool true)).setCell ⟨w.heap.size, 1, none⟩ v) w.heap.size (.agg #[.bool true, v]) (some l) := by
  have hlo := S.lo
  exact ⟨v, vs, rfl, hv, ((S.os.other (show w.heap.size < lo2 by omega) _).other (show w.heap.size < lo2 by omega) _).mono (by omega)⟩
set_option maxRecDepth 20000 in
set_option maxHeartbeats 4000000 in
theorem specMbox_any (b off cap : Nat) (d : List Nat) (w : World) (hd : d.length ≤ 40000) (hcap : d.length ≤ cap) (hT : TextAt w b off d) (hbw : b < w.heap.size) (hb : ∀ x ∈ d, x < 256) :
    Calls Try.prog 21 #[.slice (some ⟨b, off, none⟩) d.length cap] w (SplPost d w) := by
  have hi : ¬ (40000 : Int) < (d.length : Int) := by omega
  have b0 : BlkS ((w.alloc (.cells #[.bool false, .slice none 0 0] 40)).alloc (.cells #[.bool true, .slice none 0 0] 40)) w.heap.size (.bool false) (.slice none 0 0) := (Below.heap_alloc _ _ _ (by simp)).trans (heap_alloc_new w _)
  have b1 : BlkS ((w.alloc (.cells #[.bool false, .slice none 0 0] 40)).alloc (.cells #[.bool true, .slice none 0 0] 40)) (w.heap.size + 1) (.bool true) (.slice none 0 0) := by
    have h := heap_alloc_new (w.alloc (.cells #[.bool false, .slice none 0 0] 40)) (.cells #[.bool true, .slice none 0 0] 40)
    simpa [BlkS] using h
  have bw : Below w.heap.size w ((w.alloc (.cells #[.bool false, .slice none 0 0] 40)).alloc (.cells #[.bool true, .slice none 0 0] 40)) := ((Below.refl _ _).alloc (Nat.le_refl _) _).alloc (by simp) _
  have hz : ((w.alloc (.cells #[.bool false, .slice none 0 0] 40)).alloc (.cells #[.bool true, .slice none 0 0] 40)).heap.size = w.heap.size + 2 := by simp
  have HRES := hide (show splitOf d = specGo d (spansOf d) 0 0 by rw [← split_eq]; unfold specSplit; rw [if_neg (by omega)])
  have HB := hide hb
  have HT := hide hT
  clear hb hT
  go_enter Try.func21, Try.ntmps21
  go_wp2_with fail
  generalize (w.alloc (.cells #[.bool false, .slice none 0 0] 40)).alloc (.cells #[.bool true, .slice none 0 0] 40) = W1 at b0 b1 bw hz ⊢
  refine (l3Lines_any b off cap d W1 (by omega) hcap (HT.out.below bw hbw) (by have := bw.size; omega)).mono ?_
  rintro e W2 ⟨lv, rfl, hln, hb2⟩
  have hcov := cover_all d
  have hle := spans_le d (cover_all d)
  have hps := spans_pos d.length 0 d
  have hsl : (spansOf d).length ≤ d.length := spansF_len _ _ _
  rw [show spansF d.length 0 d = spansOf d from rfl] at hps
  generalize spansOf d = xsL at hln hcov hle hps hsl HRES
  obtain ⟨la, lc0, rfl⟩ := row_sl hln
  have hsz2 := hb2.size
  have S0 : SLoop w W2 W2.heap.size (.slice la xsL.length lc0) (.slice none 0 0) (.slice none 0 0) d (xsL.map (lnV b off cap)) xsL 0 0 0 W2.heap.size [] [] :=
    ⟨⟨b0.below hb2 b0.lt, b1.below hb2 b1.lt, by rw [hz] at hln; exact hln, fun g hg => (World.ownsRow.lt hln g hg).2, OwnS.nil _ _, bw.trans (hb2.mono bw.size), Nat.le_refl _, by omega⟩, by show OwnB _ _ _ (segB d 0 0); simpa [segB] using OwnB.nil _ _, Nat.le_refl _, Nat.le_refl _, fun y hy => (by cases hy), (by simpa using hcov), Or.inl ⟨rfl, rfl⟩, rfl, by simp, Nat.le_refl _⟩
  have HS0 := hide S0
  have HPS := hide hps
  have HLE := hide hle
  clear b0 b1 bw hz hln hb2 hsz2 hcov S0 hps hle
  go_wp2
  go_loopw [4, 5, 7, 16] (fun a c _ i wr => ∃ (k cs at_ lc : Nat) (v : Value) (vs : List S3) (acc : List (Nat × Nat × List Nat)), k ≤ xsL.length ∧ i = .int .i64 (k : Int) ∧ a = .int .i64 (at_ : Int) ∧ SLoop w wr W2.heap.size (.slice la xsL.length lc0) v c d (xsL.map (lnV b off cap)) xsL k cs at_ lc vs acc) (fun _ _ _ i _ => xsL.length - (intOf i).toNat)
  case atStart => exact ⟨0, 0, 0, W2.heap.size, _, [], [], Nat.zero_le _, rfl, rfl, HS0.out⟩
  case round =>
    obtain ⟨k, cs, at_, lc, v, vs, acc, hk, rfl, rfl, SL⟩ := hrel
    obtain ⟨va, vc, hve⟩ := SL.sg.os.slice
    subst hve
    clear HS0
    have hpn := cover_le SL.cov
    have hal := SL.al
    by_cases hlt : k < xsL.length
    · have hcv := SL.cov
      have hgo := SL.go
      rw [List.drop_eq_getElem_cons hlt] at hcv hgo
      obtain ⟨hx1, hx2, hx3⟩ := hcv
      have hx0 := HPS.out _ (List.getElem_mem hlt)
      obtain ⟨g1, hla, hc⟩ := cell_row1 (k := k) SL.sg.st (List.getElem?_eq_getElem (by simpa using hlt)) (by omega)
      subst hla
      rw [List.getElem_map] at hc
      generalize xsL[k] = x at hgo hx1 hx2 hx3 hx0 hc
      simp only [lnV] at hc
      rw [hx1] at hc
      have hTr := HT.out.below SL.sg.bel hbw
      have hTx : TextAt wr b (off + at_) (pieceOf d x) := by rw [← hx1]; exact piece_cells (fun _ => hTr) x (by omega)
      have hpl := piece_len d x (by omega)
      have hbp : ∀ y ∈ pieceOf d x, y < 256 := fun y hy => HB.out y (mem_piece hy)
      have hM := hide (l3Marks_n b (off + at_) (cap - at_) x.2 (pieceOf d x) wr hpl (by omega) (by omega) hTx hbp)
      have hz : (marksV (pieceOf d x) == 0) = headL d x := marksV_zero (pieceOf d x)
      generalize marksV (pieceOf d x) = mv at hM hz
      have HR2 := hide (rowAt_of_text hTx)
      have hsgl := seg_len (d := d) (cs := cs) (at_ := at_) (by have := SL.pos; omega) hpn
      have HGO := hide hgo
      have HSL := hide SL
      have HX3 := hide hx3
      have HX1 := hide hx1
      have HPL := hide hpl
      clear hgo hTr hTx SL hbp hx3 hpl hx1
      go_wp2_with fail
      refine (hM.out).mono ?_
      rintro e w2 ⟨rfl, rfl⟩
      clear hM
      by_cases hcut : headL d x = true ∧ 0 < at_
      · rw [hcut.1] at hz
        have hati : (0 : Int) < (at_ : Int) := by have := hcut.2; omega
        have HCUT := hide hcut
        clear hcut
        have hcsat : cs < at_ := by have := HSL.out.pos; omega
        obtain ⟨gc, cc, hcur, hgc1, hgc2, hgc3⟩ := HSL.out.cu.at0 (by omega)
        have HCU := hide HSL.out.cu
        have hbseg : ∀ y ∈ segB d cs at_, y < 256 := fun y hy => HB.out y (List.mem_of_mem_drop (List.mem_of_mem_take hy))
        subst hcur
        have hTs := HCU.out.text
        by_cases hok : okEntry (segB d cs at_) = true
        · have PG := hide (l3Piece_good HSL.out.sg gc cc cs at_ (segB d cs at_) (by omega) (by omega) hgc3 hTs hgc2 hbseg hok (by rw [List.length_map]; omega))
          have HG := hide (spec_cut_yes HGO.out HCUT.out hok)
          clear hok hTs hbseg HGO
          rw [hsgl] at PG ⊢
          go_wp2_with fail
          refine (PG.out).mono ?_
          rintro e w3 ⟨v3, u, rfl, hS3⟩
          have HS3 := hide hS3
          have HLC := hide (fun v6 w6 h6 hg6 => loop_cut (v6 := v6) (w6 := w6) HSL.out HX1.out hx0 HX3.out HG.out hS3 h6 hg6)
          have HR3 := hide (show RowAt w3 (some ⟨b, off + at_, none⟩) (pieceOf d x) by rw [← HX1.out]; exact rowAt_of_text (piece_cells (fun _ => HT.out.below hS3.bel hbw) x (by have := HX1.out; omega)))
          clear PG hS3 HG
          go_wp2_with (at_builtin; refine wpList_append_at _ rfl (.tmp 32) (.tmp 33) rfl w3.heap.size (.slice none 0 0) [] (pieceOf d x) x.2 HPL.out rfl (OwnB.nil _ _) ⟨b, off + at_, none⟩ (cap - at_) rfl HR3.out (by have := HPL.out; simp; omega) (Nat.le_refl _) ?_; intro v6 w6 ho6 hg6)
          go_roundw
          case rel => exact ⟨k + 1, at_, at_ + x.2, w3.heap.size, _, _, _, by omega, by go_num, by go_num, HLC.out _ _ ho6 hg6⟩
          case measure => simp [intOf]; omega
        · have hok' : okEntry (segB d cs at_) = false := by simpa using hok
          have PB := hide (l3Piece_bad (w.heap.size + 1) gc cc at_ (segB d cs at_) w2 (by omega) hgc3 hTs hbseg hok')
          have HX := hide (spec_cut_no HGO.out HCUT.out hok')
          have p0 := HSL.out.sg.b0.c0
          have p1 := HSL.out.sg.b0.c1
          have f0 := HSL.out.sg.b0.fz 0
          have f1 := HSL.out.sg.b0.fz 1
          clear hok hok' hTs hbseg HGO
          rw [hsgl] at PB ⊢
          go_wp2_with fail
          refine (PB.out).mono ?_
          rintro e w3 ⟨rfl, rfl⟩
          clear PB
          go_wp2
          exact bodyPost_ret (ret_spans w.heap.size _ _ _ rfl rfl ((HSL.out.sg.b0.set0 _).set1 _)) rfl ⟨_, rfl, by rw [HRES.out, HX.out]; exact rfl, (HSL.out.sg.bel.setCell (p := ⟨w.heap.size, 0, none⟩) (Nat.le_refl _) _).setCell (p := ⟨w.heap.size, 1, none⟩) (Nat.le_refl _) _⟩
      · have hgo' : (specGo d (xsL.drop (k + 1)) cs (at_ + x.2)).map (acc ++ ·) = specGo d xsL 0 0 := by have h := HGO.out; rw [specGo, if_neg hcut] at h; exact h
        have HLM := hide (fun v6 w6 h6 hg6 => loop_more (v6 := v6) (w6 := w6) HSL.out HX1.out hx0 HX3.out hgo' h6 hg6)
        have hlb := HSL.out.lc2
        have HCU := hide HSL.out.cu
        by_cases hh : headL d x = true
        · have hati : ¬ (0 : Int) < (at_ : Int) := by have : ¬ 0 < at_ := fun h => hcut ⟨hh, h⟩; omega
          rw [hh] at hz
          clear hcut hgo' hh
          go_wp2_with (at_builtin; refine wpList_append_at _ rfl (.tmp 32) (.tmp 33) rfl lc u5 (segB d cs at_) (pieceOf d x) x.2 HPL.out rfl HCU.out ⟨b, off + at_, none⟩ (cap - at_) rfl HR2.out (by have := HPL.out; omega) hlb ?_; intro v6 w6 ho6 hg6)
          go_roundw
          case rel => exact ⟨k + 1, cs, at_ + x.2, lc, _, _, _, by omega, by go_num, by go_num, HLM.out _ _ ho6 hg6⟩
          case measure => simp [intOf]; omega
        · have hh' : headL d x = false := by simpa using hh
          rw [hh'] at hz
          clear hcut hgo' hh hh'
          go_wp2_with (at_builtin; refine wpList_append_at _ rfl (.tmp 32) (.tmp 33) rfl lc u5 (segB d cs at_) (pieceOf d x) x.2 HPL.out rfl HCU.out ⟨b, off + at_, none⟩ (cap - at_) rfl HR2.out (by have := HPL.out; omega) hlb ?_; intro v6 w6 ho6 hg6)
          go_roundw
          case rel => exact ⟨k + 1, cs, at_ + x.2, lc, _, _, _, by omega, by go_num, by go_num, HLM.out _ _ ho6 hg6⟩
          case measure => simp [intOf]; omega
    · obtain rfl : k = xsL.length := by omega
      have hgo := SL.go
      rw [List.drop_length] at hgo
      have HVM := hide SL.vm
      by_cases h0 : 0 < at_
      · have hati : (0 : Int) < (at_ : Int) := by omega
        have hcsat : cs < at_ := by have := SL.pos; omega
        have hsgl := seg_len (d := d) (cs := cs) (at_ := at_) (by omega) hpn
        obtain ⟨gc, cc, hcur, hgc1, hgc2, hgc3⟩ := SL.cu.at0 (by omega)
        have hcu := SL.cu
        subst hcur
        have hTs := hcu.text
        have hbseg : ∀ y ∈ segB d cs at_, y < 256 := fun y hy => HB.out y (List.mem_of_mem_drop (List.mem_of_mem_take hy))
        by_cases hok : okEntry (segB d cs at_) = true
        · have PG := hide (l3Piece_good SL.sg gc cc cs at_ (segB d cs at_) (by omega) (by omega) hgc3 hTs hgc2 hbseg hok (by rw [List.length_map]; omega))
          have HX := hide (spec_end_yes hgo h0 hok)
          clear hok hTs hbseg hgo SL hcu
          rw [hsgl] at PG ⊢
          go_wp2_with fail
          refine (PG.out).mono ?_
          rintro e w3 ⟨v3, u, rfl, hS3⟩
          obtain ⟨a3, c3, hv3⟩ := hS3.os.slice
          rw [List.length_append, List.length_map, List.length_singleton] at hv3
          subst hv3
          have HS3 := hide (show Spg w w3 W2.heap.size (.slice la xsL.length lc0) (.slice a3 (acc.length + 1) c3) 24 xsL.length (xsL.map (lnV b off cap)) (vs ++ [(cs, at_, u)]) ((acc ++ [spanB d cs at_]).map (·.2.2)) by rw [List.map_append]; exact hS3)
          clear PG hS3
          have p0 := HS3.out.b0.c0
          have p1 := HS3.out.b0.c1
          have f0 := HS3.out.b0.fz 0
          have f1 := HS3.out.b0.fz 1
          have q0 := HS3.out.b1.c0
          have q1 := HS3.out.b1.c1
          go_wp2
          exact bodyPost_ret (ret_spans w.heap.size _ _ _ rfl rfl ((HS3.out.b0.set0 _).set1 _)) rfl ⟨_, rfl, by rw [HRES.out, HX.out]; exact spl_end HS3.out (by rw [List.map_append, List.map_append, HVM.out]; rfl), (HS3.out.bel.setCell (p := ⟨w.heap.size, 0, none⟩) (Nat.le_refl _) _).setCell (p := ⟨w.heap.size, 1, none⟩) (Nat.le_refl _) _⟩
        · have hok' : okEntry (segB d cs at_) = false := by simpa using hok
          have PB := hide (l3Piece_bad (w.heap.size + 1) gc cc at_ (segB d cs at_) wr (by omega) hgc3 hTs hbseg hok')
          have HX := hide (spec_end_no hgo h0 hok')
          have p0 := SL.sg.b0.c0
          have p1 := SL.sg.b0.c1
          have f0 := SL.sg.b0.fz 0
          have f1 := SL.sg.b0.fz 1
          have HSL := hide SL
          clear hok hok' hTs hbseg hgo SL hcu
          rw [hsgl] at PB ⊢
          go_wp2_with fail
          refine (PB.out).mono ?_
          rintro e w3 ⟨rfl, rfl⟩
          clear PB
          go_wp2
          exact bodyPost_ret (ret_spans w.heap.size _ _ _ rfl rfl ((HSL.out.sg.b0.set0 _).set1 _)) rfl ⟨_, rfl, by rw [HRES.out, HX.out]; exact rfl, (HSL.out.sg.bel.setCell (p := ⟨w.heap.size, 0, none⟩) (Nat.le_refl _) _).setCell (p := ⟨w.heap.size, 1, none⟩) (Nat.le_refl _) _⟩
      · have hati : ¬ (0 : Int) < (at_ : Int) := by omega
        have HX := hide (spec_end_zero hgo h0)
        have hsg := SL.sg
        rw [List.length_map] at hsg
        have HS3 := hide hsg
        clear hgo SL hsg
        have p0 := HS3.out.b0.c0
        have p1 := HS3.out.b0.c1
        have f0 := HS3.out.b0.fz 0
        have f1 := HS3.out.b0.fz 1
        have q0 := HS3.out.b1.c0
        have q1 := HS3.out.b1.c1
        go_wp2
        exact bodyPost_ret (ret_spans w.heap.size _ _ _ rfl rfl ((HS3.out.b0.set0 _).set1 _)) rfl ⟨_, rfl, by rw [HRES.out, HX.out]; exact spl_end HS3.out HVM.out, (HS3.out.bel.setCell (p := ⟨w.heap.size, 0, none⟩) (Nat.le_refl _) _).setCell (p := ⟨w.heap.size, 1, none⟩) (Nat.le_refl _) _⟩
end Go.Proofs.Ytknnpgffdbkfnaa
