import Derived.Test.YtpbpidfjecejcaaGreatDoorPks
import Derived.Test.YtpbpidfjecejcaaGreatDoorPkj
import Derived.Test.YtpbpidfjecejcaaGreatDoorPkw
import Derived.Deep.RegionLaw
import Derived.Laws.Closers25
namespace Go.Proofs.YtpbpidfjecejcaaGreatDoor
open Go.RowKit
theorem run_enterU (v : Value) (w : World) : (callFunc 79 #[v]).run Tryz.prog w = .ok (.enter 79 #[v]) w := by
  kernel_rfl
theorem run_enterT (v : Value) (w : World) : (callFunc 80 #[v]).run Tryz.prog w = .ok (.enter 80 #[v]) w := by
  kernel_rfl
theorem like_calls {X W : World} {f : FuncId} {args : Array Value} {r : Value} (h : Calls Tryz.prog f args W fun e w' => e = .returned r ∧ Below W.heap.size W w') (e1 : W.heap = X.heap) (e2 : W.os = X.os) (e3 : W.tape = X.tape) (e4 : W.output = X.output) :
    Calls Tryz.prog f args W fun e w' => e = .returned r ∧ Below X.heap.size X w' :=
  h.mono fun e w' ⟨h1, h2⟩ => ⟨h1, (like_below e1 e2 e3 e4).trans (by rw [show X.heap.size = W.heap.size from by rw [e1]]; exact h2)⟩
theorem used_like {X W : World} {v : Value} {D : MDisk} (hW : Wkd D) (hd : DiskAt X v D) (e1 : W.heap = X.heap) (e2 : W.os = X.os) (e3 : W.tape = X.tape) (e4 : W.output = X.output) :
    Calls Tryz.prog 79 #[v] W fun e w' => e = .returned (.int .i64 (usedOf D.nodes D.names : Int)) ∧ Below X.heap.size X w' := like_calls (l1Used_any v D W hW (hd.below (like_below e1 e2 e3 e4))) e1 e2 e3 e4
theorem total_like {X W : World} {v : Value} {D : MDisk} (hW : Wkd D) (hd : DiskAt X v D) (e1 : W.heap = X.heap) (e2 : W.os = X.os) (e3 : W.tape = X.tape) (e4 : W.output = X.output) :
    Calls Tryz.prog 80 #[v] W fun e w' => e = .returned (.int .i64 (sumN D.nodes : Int)) ∧ Below X.heap.size X w' := like_calls (l1Total_any v D W (by have := hW.nn; omega) (by have := hW.sum; omega) (hd.below (like_below e1 e2 e3 e4))) e1 e2 e3 e4
/-- The copy of a row, from a world that is like one that is known. -/
theorem bytes_like {X W : World} {a : Option Addr} {cap : Nat} {l : List Nat} (hl : l.length ≤ 1048576) (hr : RowAt X a l) (e1 : W.heap = X.heap) (e2 : W.os = X.os) (e3 : W.tape = X.tape) (e4 : W.output = X.output) :
    Calls Tryz.prog 57 #[.slice a l.length cap] W fun e w' => ∃ a2 c2, e = .returned (.slice a2 l.length c2) ∧ OwnB w' X.heap.size (.slice a2 l.length c2) l ∧ Below X.heap.size X w' := by
  have h0 := like_below e1 e2 e3 e4
  have hz : X.heap.size = W.heap.size := by rw [e1]
  refine (bytes_w a cap l W hl (hr.below h0)).mono ?_
  rintro e w' ⟨v, rfl, ho, hb⟩
  obtain ⟨a2, c2, rfl⟩ := ho.slice
  rw [← hz] at ho hb
  exact ⟨a2, c2, rfl, ho, h0.trans hb⟩
/-- A row that has grown is put as a node's data. -/
theorem app_put {w wD w9 : World} {base gn n cap k : Nat} {v2 v3 v4 : Value} {D : MDisk} {a9 : Option Addr} {c9 : Nat} {l : List Nat} (hd : Dk wD base (.slice (some ⟨gn, 0, none⟩) n cap) v2 v3 v4 D) (hK : Kep base w wD) (hw : base ≤ w.heap.size) (hl : base ≤ wD.heap.size) (hk : k < D.nodes.length) (b9 : Below wD.heap.size wD w9) (ho : OwnB w9 wD.heap.size (.slice a9 l.length c9) l) :
    Dk (w9.setCell ⟨gn, k * 2, none⟩ (.slice a9 l.length c9)) base (.slice (some ⟨gn, 0, none⟩) n cap) v2 v3 v4 ⟨D.nodes.set k (l, D.nodes[k].2), D.names, D.kept, D.pend, D.quota⟩ ∧ Kep base w (w9.setCell ⟨gn, k * 2, none⟩ (.slice a9 l.length c9)) ∧ (∀ b cs t, Laid wD b cs t → t ≠ 99 → Laid (w9.setCell ⟨gn, k * 2, none⟩ (.slice a9 l.length c9)) b cs t) ∧ w9.frozen? ⟨gn, k * 2, none⟩ = false := by
  have d9 := hd.below b9
  have K9 := hK.trans (Kep.of_below b9 hl)
  have PUT := OwnN.putData d9.n hk (OwnB.mono ho hl)
  obtain ⟨h1, h2, h3⟩ := put_next d9 K9 hw PUT.1 PUT.2
  obtain ⟨g', e, _, hf, _, _⟩ := d9.n.cells (by omega)
  simp only [Option.some.injEq, Addr.mk.injEq, and_true] at e
  subst e
  exact ⟨h1, h2, fun b cs t hL ht => h3 b cs t (hL.below b9 hL.lt) ht, hf _⟩
end Go.Proofs.YtpbpidfjecejcaaGreatDoor
namespace Go.Proofs.YtpbpidfjecejcaaGreatDoor
open Go.RowKit
set_option linter.unusedVariables false
theorem run_enterUs (v : Value) (w : World) : (callFunc 131 #[v]).run Tryz.prog w = .ok (.enter 131 #[v]) w := by
  kernel_rfl
theorem add_fin {base : Nat} {W w5 : World} {o b1 b2 m g n cap i : Nat} {v3 v4 x v' : Value} {y : Int} {l : List Nat} {vs : List (Value × Value)} {D : MDisk} (h : Drv base W o b1 b2 m (.slice (some ⟨g, 0, none⟩) n cap) v3 v4 vs D) (hi : i < D.nodes.length) (hx : vs[i]? = some (x, .int .i64 y)) (ho : OwnB w5 base v' l) (hg : W.grownBy w5 x.ownBlock) (hat : v'.ownBlock = x.ownBlock ∨ v'.ownBlock = some W.heap.size ∨ v'.ownBlock = none) (hb : base ≤ W.heap.size) :
    Drv base (w5.setCell ⟨g, i * 2, none⟩ v') o b1 b2 m (.slice (some ⟨g, 0, none⟩) n cap) v3 v4 (vs.set i (v', .int .i64 y)) ⟨D.nodes.set i (l, D.nodes[i].2), D.names, D.kept, D.pend, D.quota⟩ ∧ KepI base W (w5.setCell ⟨g, i * 2, none⟩ v') ∧ w5.cell? ⟨g, i * 2, none⟩ = some x ∧ w5.frozen? ⟨g, i * 2, none⟩ = false := by
  obtain ⟨h1, h2⟩ := drv_put h hi hx ho hg hat hb
  obtain ⟨x0, hx0, p1⟩ := h.n.body i hi
  obtain rfl : x = x0 := by rw [hx] at hx0; simp only [Option.some.injEq, Prod.mk.injEq] at hx0; exact hx0.1
  have hrow := World.ownsRow.kept h.n.row hg (owns_away h.n.row p1 (by decide))
  obtain ⟨hl2, hx2⟩ := List.getElem?_eq_some_iff.1 hx
  have hc := (Own2.cells hrow i hl2).1
  rw [hx2] at hc
  exact ⟨h1, h2, hc, Own2.frozen hrow _⟩
set_option maxRecDepth 20000 in
set_option maxHeartbeats 2000000 in
theorem add_any (base o b1 b2 m : Nat) (v1 v3 v4 : Value) (vs : List (Value × Value)) (D : MDisk) (nm : ByteArray) (ad : Option Addr) (data : List Nat) (cd k : Nat) (w : World) (hbase : base ≤ w.heap.size) (hW : Wkd D) (hs1 : nm.size ≤ 1048576) (hdl : data.length ≤ 1048576) (hk : k < D.nodes.length) (hin : nodeIn D.names nm = some (k : Int)) (hrow : RowAt w ad data) (hd : Drv base w o b1 b2 m v1 v3 v4 vs D) :
    Calls Tryz.prog 111 #[.pointer (some ⟨o, 0, none⟩), .string nm, .slice ad data.length cd] w (DrAny base o m w (addR D (k : Int) data)) := by
  obtain ⟨a1, c1, rfl⟩ := hd.n.slice
  obtain ⟨g, rfl, hgb, -, -⟩ := hd.n.cells (by omega)
  have q5 : w.cell? ⟨o, 5, none⟩ = some (.int .i64 D.quota) := hd.box.cell 5
  have hub := used_le _ _ hW.fine.ap hW.fine.nd
  have hsm := hW.sum
  have hnn := hW.nn
  have hq0 := hW.q0
  have hq1 := hW.q1
  have hndl := hW.data _ (List.getElem_mem hk)
  have HD := hide hd
  have HW := hide hW
  have HIN := hide hin
  have HRW := hide hrow
  have USE := hide (fun W' (e1 : W'.heap = w.heap) (e2 : W'.os = w.os) (e3 : W'.tape = w.tape) (e4 : W'.output = w.output) => like_calls (X := w) (used_any base o b1 b2 m _ v3 v4 vs D W' hW (hd.below (like_below e1 e2 e3 e4))) e1 e2 e3 e4)
  have hnda : ndAt D (k : Int) = D.nodes[k] := by
    unfold ndAt
    simp [List.getD_eq_getElem?_getD, List.getElem?_eq_getElem hk]
  have HR0 := hide (show addR D (k : Int) data = (if D.quota < (usedOf D.nodes D.names : Int) + (data.length : Int) then (D, 5) else if 40000 < (D.nodes[k]).1.length + data.length ∨ 200000 < sumN D.nodes + data.length then (D, 6) else (putD D (k : Int) ((D.nodes[k]).1 ++ data, (D.nodes[k]).2), 0)) from by unfold addR; rw [hnda])
  clear hd hW hin hrow hnda
  generalize hus : usedOf D.nodes D.names = us at hub HR0 USE
  have hwq : IntKind.i64.wrap (D.quota - (us : Int)) = D.quota - (us : Int) := by have h := wrap_i64_ediv (D.quota - (us : Int)) 1 (by omega) (by omega) (by omega); simpa using h
  clear hus
  by_cases hsp : D.quota < (us : Int) + (data.length : Int)
  · have HR := hide (HR0.out.trans (if_pos hsp))
    have hspd : decide (D.quota - (us : Int) < (data.length : Int)) = true := decide_eq_true (by omega)
    go_enter Tryz.func111, Tryz.ntmps111
    go_upto_region 1 with fail
    go_cut [17] (fun s wx => s = .bool true ∧ Below w.heap.size w wx)
    case first =>
      go_region_law (first
        | (refine step_call_one 131 run_enterUs (.tmp 14) #[81] (by rfl) (by rfl) (.pointer (some ⟨o, 0, none⟩)) (by simp [go_sem]) ?_; refine (USE.out _ (by rfl) (by rfl) (by rfl) (by rfl)).mono ?_; rintro e w6 ⟨rfl, hb6⟩; have HB6 := hide hb6; have u5 : w6.cell? ⟨o, 5, none⟩ = some (.int .i64 D.quota) := (HD.out.below hb6).box.cell 5; clear hb6; refine ⟨_, rfl, ?_⟩)
        | fail)
      all_goals
        go_wp2_with fail
        go_meet
        case rel => exact ⟨by first | rfl | simp [*], HB6.out⟩
    case rest =>
      obtain ⟨rfl, hbc⟩ := hcut
      have HBC := hide hbc
      clear hbc
      go_wp2
      go_ret
      exact (dr_same HR.out rfl HD.out HBC.out hbase).some
  have HR1 := hide (HR0.out.trans (if_neg hsp))
  have hspd : decide (D.quota - (us : Int) < (data.length : Int)) = false := decide_eq_false (by omega)
  go_enter Tryz.func111, Tryz.ntmps111
  go_upto_region 1 with fail
  go_cut [17] (fun s wx => s = .bool false ∧ Below w.heap.size w wx)
  case first =>
    go_region_law (first
      | (refine step_call_one 131 run_enterUs (.tmp 14) #[81] (by rfl) (by rfl) (.pointer (some ⟨o, 0, none⟩)) (by simp [go_sem]) ?_; refine (USE.out _ (by rfl) (by rfl) (by rfl) (by rfl)).mono ?_; rintro e w6 ⟨rfl, hb6⟩; have HB6 := hide hb6; have u5 : w6.cell? ⟨o, 5, none⟩ = some (.int .i64 D.quota) := (HD.out.below hb6).box.cell 5; clear hb6; refine ⟨_, rfl, ?_⟩)
      | fail)
    all_goals
      go_wp2_with fail
      go_meet
      case rel => exact ⟨by first | rfl | simp [*], HB6.out⟩
  case rest =>
    obtain ⟨rfl, hbc⟩ := hcut
    have HBC := hide hbc
    have NODE := hide (node_any base o b1 b2 m _ v3 v4 vs D nm k g c1 wc hs1 hnn hk HIN.out rfl (HD.out.below hbc))
    clear hbc q5 USE hwq hspd hsp
    go_wp2_with fail
    refine NODE.out.mono ?_
    rintro e w2 ⟨rfl, hb2⟩
    have hbw2 := HBC.out.trans (hb2.mono HBC.out.size)
    have d2 := HD.out.below hbw2
    obtain ⟨g', eg, -, hfz, hcs⟩ := d2.n.cells (by omega)
    simp only [Option.some.injEq, Addr.mk.injEq, and_true] at eg
    subst eg
    obtain ⟨ai, ci, hvi, x2, -, hob⟩ := hcs k hk
    have p0 : w2.cell? ⟨o, 0, none⟩ = some (.slice (some ⟨g, 0, none⟩) D.nodes.length c1) := d2.box.cell 0
    have SUM := hide (bytesOf_any (some ⟨g, 0, none⟩) c1 D.nodes w2 (by omega) (by omega) d2.n.own.at)
    have HD2 := hide d2
    have HB2 := hide hbw2
    have HVI := hide hvi
    clear hb2 hbw2 d2 hfz hcs hvi hob NODE
    generalize hsn : sumN D.nodes = sm at hub hsm HR1 SUM
    generalize hdd : D.nodes[k].1 = dd at x2 hndl HVI HR1
    have HDD := hide hdd
    clear hsn hdd
    by_cases hf1 : 40000 < dd.length + data.length
    · have HR := hide (HR1.out.trans (if_pos (.inl hf1)))
      go_wp2
      go_ret
      exact (dr_same HR.out rfl HD.out HB2.out hbase).some
    go_wp2_with fail
    refine SUM.out.mono ?_
    rintro e w3 ⟨rfl, hb3⟩
    have HB3 := hide (HB2.out.trans (hb3.mono HB2.out.size))
    by_cases hf2 : 200000 < sm + data.length
    · have HR := hide (HR1.out.trans (if_pos (.inr hf2)))
      clear hb3
      go_wp2
      go_ret
      exact (dr_same HR.out rfl HD.out HB3.out hbase).some
    have HR := hide (HR1.out.trans (if_neg (fun h => h.elim hf1 hf2)))
    have d3 := HD2.out.below hb3
    have hbs : base ≤ w3.heap.size := Nat.le_trans hbase HB3.out.size
    obtain ⟨x0, hx0, hob0⟩ := d3.n.body k hk
    have hxe : x0 = .slice ai dd.length ci := by
      have h1 := HVI.out
      rw [hx0] at h1
      simpa using h1
    subst hxe
    have HX := hide hx0
    rw [HDD.out] at hob0
    have HOB := hide hob0
    have HRO := hide (HRW.out.below HB3.out)
    have y2 : w3.cell? ⟨g, k * 2, none⟩ = some (.slice ai dd.length ci) := (hb3.cell (p := ⟨g, k * 2, none⟩) (lt_of_cell0 x2)).trans x2
    have hsl : dd.length + data.length ≤ 1099511627776 := by omega
    have HD3 := hide d3
    have HK3 := hide (KepI.of_below HB3.out hbase)
    have FIN := hide (fun (v5 : Value) (w5 : World) (h5 : OwnB w5 base v5 (dd ++ data)) (hg : w3.grownBy w5 (Value.slice ai dd.length ci).ownBlock) (hat : v5.ownBlock = (Value.slice ai dd.length ci).ownBlock ∨ v5.ownBlock = some w3.heap.size) => add_fin HD3.out hk HX.out h5 hg (hat.elim .inl (fun e => .inr (.inl e))) hbs)
    clear hb3 d3 hx0 hob0 SUM
    go_wp2_with (at_builtin; (refine wpList_append_blk _ rfl (.tmp 47) (.tmp 48) rfl base (.slice ai dd.length ci) dd data rfl ?_ ad cd rfl ?_ hsl ?_ ?_; (exact HOB.out); (exact HRO.out); (exact hbs); intro v5 w5 h5 hg5 hat5; obtain ⟨a5, c5, rfl⟩ := OwnB.slice h5; have hfn := FIN.out _ w5 h5 hg5 hat5; rw [show (dd ++ data).length = dd.length + data.length from List.length_append] at hfn ⊢; have z2 := hfn.2.2.1; have zf := hfn.2.2.2; have HFN := hide hfn; clear hfn h5 hg5 hat5))
    go_ret
    rw [HR.out]
    exact ⟨b1, b2, m, _, v3, v4, _, rfl, HFN.out.1, HK3.out.trans HFN.out.2.1, by omega⟩
end Go.Proofs.YtpbpidfjecejcaaGreatDoor
namespace Go.Proofs.YtpbpidfjecejcaaGreatDoor
open Go.RowKit
set_option linter.unusedVariables false
/-- A node's Safe is put. -/
theorem drv_safe {base : Nat} {W : World} {o b1 b2 m g n cap i : Nat} {v3 v4 : Value} {z : Int} {vs : List (Value × Value)} {D : MDisk} (h : Drv base W o b1 b2 m (.slice (some ⟨g, 0, none⟩) n cap) v3 v4 vs D) (hi : i < D.nodes.length) (hb : base ≤ W.heap.size) :
    ∃ vs', Drv base (W.setCell ⟨g, i * 2 + 1, none⟩ (.int .i64 z)) o b1 b2 m (.slice (some ⟨g, 0, none⟩) n cap) v3 v4 vs' ⟨D.nodes.set i (D.nodes[i].1, z), D.names, D.kept, D.pend, D.quota⟩ ∧ KepI base W (W.setCell ⟨g, i * 2 + 1, none⟩ (.int .i64 z)) := by
  obtain ⟨vs', _, hn, hg⟩ := h.n.safe (z := z) hi
  have f : Fr (fun k => k = g) W (W.setCell ⟨g, i * 2 + 1, none⟩ (.int .i64 z)) := (Fr.refl _ _).set rfl
  have Kg : KindAt W g 99 := own_kind h.n.row rfl
  have nk : ∀ {k t : Nat}, KindAt W k t → t ≠ 99 → ¬ k = g := fun hk hN e => by subst e; exact hN (hk.ne Kg)
  have bx := (f.block _ h.box.lt (nk h.box.kind (by decide))).trans h.box
  have k5 : OwnE (W.setCell ⟨g, i * 2 + 1, none⟩ (.int .i64 z)) base v3 D.kept := owns_fr h.k f (fun k hk e => nk (own_kind h.k hk) (by decide) e)
  have p5 : OwnO (W.setCell ⟨g, i * 2 + 1, none⟩ (.int .i64 z)) base v4 D.pend := owns_fr h.p f (fun k hk e => nk (own_kind h.p hk) (by decide) e)
  have l5 : LstAt (W.setCell ⟨g, i * 2 + 1, none⟩ (.int .i64 z)) b1 b2 m D.names := by
    obtain ⟨D1, D2, hLL, hRR⟩ := h.l
    obtain ⟨es1, ck1, k1, k2⟩ := hLL.o1
    obtain ⟨es2, ck2, j1, j2⟩ := hLL.o2
    have nm : ∀ {b : Nat} {es : Array MapEntry} {ck : Nat}, W.heap[b]? = some (.map es ck) → ¬ b = g := fun hm e => by
      subst e
      obtain ⟨_, _, e2⟩ := Kg
      rw [hm] at e2; cases e2
    exact ⟨D1, D2, ⟨⟨es1, ck1, (f.block b1 hLL.o1.lt (nm k1)).trans k1, k2⟩, ⟨es2, ck2, (f.block b2 hLL.o2.lt (nm j1)).trans j1, j2⟩, hLL.ne⟩, hRR⟩
  refine ⟨vs', ⟨bx, hn, l5, k5, p5, h.lb, h.lo⟩, KepI.fr f (fun k e => ⟨?_, fun t ht => ?_⟩) hb⟩
  · subst e; exact (own_ge h.n.row rfl).1
  · subst e; exact .inl (ht.ne Kg)
end Go.Proofs.YtpbpidfjecejcaaGreatDoor
namespace Go.Proofs.YtpbpidfjecejcaaGreatDoor
open Go.RowKit
set_option linter.unusedVariables false
/-- An entry's number is put. -/
theorem OwnE.putNode {w : World} {base g n cap i : Nat} {z : Int} {es : List EN} (h : OwnE w base (.slice (some ⟨g, 0, none⟩) n cap) es) (hi : i < es.length) :
    OwnE (w.setCell ⟨g, i * 2 + 1, none⟩ (.int .i64 z)) base (.slice (some ⟨g, 0, none⟩) n cap) (es.set i (es[i].1, z)) ∧ w.grownBy (w.setCell ⟨g, i * 2 + 1, none⟩ (.int .i64 z)) (some g) := by
  have h0 : Own2 w base 102 (.slice (some ⟨g, 0, none⟩) n cap) (es.map entP) := h
  have hn := own_n h0
  subst hn
  have s1 := World.ownsRow.stored h0 (i * 2 + 1) (.int .i64 z)
  refine ⟨?_, s1.2⟩
  have hiv : i < (es.map entP).length := by simpa using hi
  unfold OwnE Own2
  have e : (es.set i (es[i].1, z)).map entP = (es.map entP).set i ((es.map entP)[i].1, .int .i64 z) := by
    rw [List.map_set]
    simp [entP]
  rw [e, List.length_set, ← two_put _ i _ hiv]
  exact s1.1
theorem OwnE.cells {w : World} {base : Nat} {a : Option Addr} {n cap : Nat} {es : List EN} (h : OwnE w base (.slice a n cap) es) (hp : 0 < es.length) :
    ∃ g, a = some ⟨g, 0, none⟩ ∧ base ≤ g ∧ (∀ o, w.frozen? ⟨g, o, none⟩ = false) ∧ KindAt w g 102 ∧ ∀ i (hi : i < es.length), w.cell? ⟨g, i * 2, none⟩ = some (.string es[i].1) ∧ w.cell? ⟨g, i * 2 + 1, none⟩ = some (.int .i64 es[i].2) := by
  have h0 : Own2 w base 102 (.slice a n cap) (es.map entP) := h
  rcases h0.2 with ⟨_, hn⟩ | ⟨g, c, cur, hv, hlo, hg, hcs⟩
  · rw [List.length_map] at hn; omega
  · obtain ⟨rfl, rfl, rfl⟩ : a = some ⟨g, 0, none⟩ ∧ n = (es.map entP).length ∧ cap = c := by simpa using hv
    refine ⟨g, rfl, hlo, fun o => Own2.frozen h0 o, ⟨_, _, hg⟩, fun i hi => ?_⟩
    obtain ⟨c0, c1⟩ := Own2.cells h0 i (by simpa using hi)
    simp [entP] at c0 c1
    exact ⟨c0, c1⟩
end Go.Proofs.YtpbpidfjecejcaaGreatDoor
namespace Go.Proofs.YtpbpidfjecejcaaGreatDoor
open Go.RowKit
set_option linter.unusedVariables false
/-- The cells of the nodes that names pick. -/
def pickV (vs : List (Value × Value)) (es : List EN) : List (Value × Value) := es.map fun e => vs.getD e.2.toNat (.slice none 0 0, .int .i64 0)
/-- A node that a name picks is put behind those that went ahead: its row is none of theirs. -/
theorem pick_away {w : World} {base : Nat} {v : Value} {vs : List (Value × Value)} {ns : List NdM} {es : List EN} (h : OwnNA w base v vs ns) (ha : Apart es) (hnd : ∀ e ∈ es, 0 ≤ e.2 ∧ e.2 < (ns.length : Int)) (j : Nat) (hj : j < es.length) :
    ∀ y ∈ (pickV vs (es.take j)).map (·.1), awayV y (vs.getD es[j].2.toNat (.slice none 0 0, .int .i64 0)).1 := by
  intro y hy
  obtain ⟨p, hp, rfl⟩ := List.mem_map.1 hy
  obtain ⟨e, he, rfl⟩ := List.mem_map.1 hp
  obtain ⟨i, hi, rfl⟩ := List.getElem_of_mem he
  have hij : i < j := by simp at hi; omega
  have hie : i < es.length := by omega
  have e1 : (es.take j)[i] = es[i] := by simp
  rw [e1]
  have hl := h.len
  have n1 := hnd _ (List.getElem_mem hie)
  have n2 := hnd _ (List.getElem_mem hj)
  have hne := (List.pairwise_iff_getElem.1 ha i j hie hj hij).2
  have k1 : es[i].2.toNat < vs.length := by omega
  have k2 : es[j].2.toNat < vs.length := by omega
  have g1 : vs.getD es[i].2.toNat (.slice none 0 0, .int .i64 0) = vs[es[i].2.toNat] := by rw [List.getD_eq_getElem?_getD, List.getElem?_eq_getElem k1]; rfl
  have g2 : vs.getD es[j].2.toNat (.slice none 0 0, .int .i64 0) = vs[es[j].2.toNat] := by rw [List.getD_eq_getElem?_getD, List.getElem?_eq_getElem k2]; rfl
  rw [g1, g2]
  exact awayP h.apart (p := es[i].2.toNat) (q := es[j].2.toNat) (by rw [List.getElem?_map, List.getElem?_eq_getElem k1]; rfl) (by rw [List.getElem?_map, List.getElem?_eq_getElem k2]; rfl) (by omega)
theorem pick_at {w : World} {base : Nat} {v : Value} {vs : List (Value × Value)} {ns : List NdM} {e : EN} (h : OwnNA w base v vs ns) (hnd : 0 ≤ e.2 ∧ e.2 < (ns.length : Int)) :
    ∃ x, vs.getD e.2.toNat (.slice none 0 0, .int .i64 0) = (x, .int .i64 (nodeOf ns e).2) ∧ OwnB w base x (nodeOf ns e).1 := by
  have hk : e.2.toNat < ns.length := by omega
  obtain ⟨x, hx, ho⟩ := h.body _ hk
  have hno : nodeOf ns e = ns[e.2.toNat] := by
    unfold nodeOf
    rw [List.getD_eq_getElem?_getD, List.getElem?_eq_getElem hk]
    rfl
  refine ⟨x, ?_, by rw [hno]; exact ho⟩
  rw [List.getD_eq_getElem?_getD, hx, hno]
  rfl
theorem pickV_succ (vs : List (Value × Value)) (es : List EN) (j : Nat) (h : j < es.length) : pickV vs (es.take (j + 1)) = pickV vs (es.take j) ++ [vs.getD es[j].2.toNat (.slice none 0 0, .int .i64 0)] := by
  unfold pickV
  rw [List.take_add_one, List.getElem?_eq_getElem h, List.map_append]
  rfl
/-- The list as it stands when its first j numbers are put anew. -/
def putE (es : List EN) (j : Nat) : List EN := outE es j ++ es.drop j
theorem putE_zero (es : List EN) : putE es 0 = es := by simp [putE, outE]
theorem putE_len (es : List EN) : putE es es.length = outE es es.length := by simp [putE]
theorem putE_length (es : List EN) (j : Nat) (h : j ≤ es.length) : (putE es j).length = es.length := by simp [putE, outE_length]; omega
theorem putE_at (es : List EN) (j : Nat) (h : j < es.length) (h' : j < (putE es j).length) : (putE es j)[j] = es[j] := by
  have e : (putE es j)[j]? = es[j]? := by
    show (outE es j ++ es.drop j)[j]? = es[j]?
    rw [List.getElem?_append_right (by rw [outE_length]; omega), outE_length, Nat.sub_self, List.getElem?_drop]
    rfl
  rw [List.getElem?_eq_getElem h', List.getElem?_eq_getElem h] at e
  exact Option.some.inj e
theorem putE_set (es : List EN) (j : Nat) (h : j < es.length) : (putE es j).set j (es[j].1, (j : Int)) = putE es (j + 1) := by
  unfold putE
  rw [List.set_append_right _ _ (by rw [outE_length]; omega), outE_length, Nat.sub_self, List.drop_eq_getElem_cons h, List.set_cons_zero, outE_succ es j h]
  simp
end Go.Proofs.YtpbpidfjecejcaaGreatDoor
