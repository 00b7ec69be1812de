import Derived.Test.YtpccongphchagaaGreatDoorPkv
import Derived.Test.YtpccongphchagaaGreatDoorPks
import Derived.Test.YtpccongphchagaaGreatDoorPko
import Derived.Test.YtpccongphchagaaGreatDoorPkw
import Derived.Test.YtpccongphchagaaGreatDoorPku
import Derived.Test.YtpccongphchagaaGreatDoorPky
import Derived.Deep.DeepCutAuto
import Derived.WalkKit
import Derived.LaidEql
import Derived.Stop.Asserts
import Derived.RowKitTokens
namespace Go.Proofs.YtpccongphchagaaGreatDoor
open Go.RowKit
set_option linter.unusedVariables false
def zv (z : Int) : Value := .int .i64 z
/-- A row of whole numbers of the call's own. -/
def OwnZ (w : World) (base : Nat) (v : Value) (l : List Int) : Prop := w.ownsRow base 3 1 v l.length (l.map zv)
theorem OwnZ.slice {w : World} {base : Nat} {v : Value} {l : List Int} (h : OwnZ w base v l) : ∃ a cap, v = .slice a l.length cap := by
  rcases h.2 with ⟨rfl, hn⟩ | ⟨g, cap, cur, rfl, _⟩
  · exact ⟨none, 0, by rw [hn]⟩
  · exact ⟨_, _, rfl⟩
theorem OwnZ.at {w : World} {base : Nat} {a : Option Addr} {n cap : Nat} {l : List Int} (h : OwnZ w base (.slice a n cap) l) : IntAt w a l := fun hp => by
  rcases h.2 with ⟨_, hn⟩ | ⟨g, cap', cur, h', _, hg, hc, _, hs, htake⟩
  · omega
  · simp only [Value.slice.injEq] at h'
    obtain ⟨rfl, _, _⟩ := h'
    refine ⟨g, 0, rfl, fun i hi => ?_⟩
    rw [Nat.zero_add, cell_of_row w g i cur 3 (0, 0) hg]
    have e : cur.toList[i]? = (l.map zv)[i]? := by rw [← htake, List.getElem?_take, if_pos (by omega)]
    rw [← Array.getElem?_toList, e]
    simp [hi, zv]
theorem Tryz.infoZ : (Tryz.prog.info? 3).map (fun i => (i.zero, i.size, i.bytes)) = some (some (.int .i64 0), 1, 8) := by kernel_rfl
theorem wpList_append_z {ops : Array Oper} {rest : List Oper} {o : Oper} {act : Act} {Q : Exit → Act → World → Prop} (w : World) (hgd : o.guard = none) (s x : Operand)
    (ho : o.op = .call { callee := .builtin .append, args := #[s, x], argTypes := #[40, 40] })
    (base : Nat) (v : Value) (l : List Int) (n : Int) (g1 c : Nat) (hs : act.eval s = v) (hx : act.eval x = .slice (some ⟨g1, 0, none⟩) 1 c) (hown : OwnZ w base v l)
    (h0 : w.cell? ⟨g1, 0, none⟩ = some (.int .i64 n)) (hlen : l.length ≤ 1048576) (hbase : base ≤ w.heap.size)
    (h : ∀ v' w', OwnZ w' base v' (l ++ [n]) → w.grownBy w' v.ownBlock → wpList Tryz.prog ops Q rest (act.put o.dst v') w') : wpList Tryz.prog ops Q (o :: rest) act w := by
  obtain ⟨i0, hi, hz0, hz1, hz2⟩ := info_parts Tryz.infoZ
  refine wpList_append_own w hgd s x 40 ho base 3 i0 (.int .i64 0) 1 8 Tryz.underlying40 hi hz0 hz1 hz2 rfl (by decide) v l.length (l.map zv) hs hown ⟨g1, 0, none⟩ 1 c [zv n] hx (by simp) ?_ ?_ (by unfold maxLen; omega) (by omega) hbase ?_
  · intro j u hj
    rw [addr_add]
    match j with
    | 0 => simp only [List.getElem?_cons_zero, Option.some.injEq] at hj; rw [← hj]; exact h0
    | j + 1 => simp at hj
  · intro u hu
    simp only [List.mem_cons, List.not_mem_nil, or_false] at hu
    subst hu; rfl
  · intro v' w' hown2 hg _
    refine h v' w' ?_ hg
    unfold OwnZ
    rw [List.length_append, List.map_append]
    exact hown2
def PkPost (w w0 : World) (p : Nat) (a : Option Addr) (cap : Nat) (code : List Nat) (e : Ending) (w' : World) : Prop := ∃ v l j, e = .returned v ∧ OwnZ w' w.heap.size v l ∧ l.length ≤ 4 ∧ RdIn w w0 w' p a cap code j
set_option maxRecDepth 20000 in
set_option maxHeartbeats 2000000 in
theorem l5Picks_in {w0 w : World} {p : Nat} {a : Option Addr} {cap : Nat} {code : List Nat} {i : Nat} (hc : CodeW w0 a code) (h : RdIn w w0 w p a cap code i) :
    Calls Tryz.prog 29 #[.pointer (some ⟨p, 0, none⟩)] w (PkPost w w0 p a cap code) := by
  have hpl := h.rd.lt
  have hw0 := h.low.size
  have hx := nx_lt hc.byte i
  have HC := hide hc
  have NX := hide (next_w hc h)
  clear h hc
  go_enter Tryz.func29, Tryz.ntmps29
  go_wp2_with fail
  refine NX.out.mono ?_
  rintro e w1 ⟨rfl, hr1⟩
  have HR1 := hide hr1
  clear hr1 NX
  generalize nx code i = c0 at hx
  have hcm : (c0 : Int) % 5 = ((c0 % 5 : Nat) : Int) := by omega
  have hm4 : c0 % 5 ≤ 4 := by have := Nat.mod_lt c0 (show 0 < 5 by decide); omega
  generalize c0 % 5 = m0 at hcm hm4
  have HCM := hide hcm
  clear hcm
  go_wp2
  go_loopw [3, 4] (fun v n wv => ∃ (m : Nat) (l : List Int) (j : Nat), n = .int .i64 (m : Int) ∧ OwnZ wv w.heap.size v l ∧ l.length + m ≤ 4 ∧ RdIn w w0 wv p a cap code j) (fun _ n _ => (intOf n).toNat)
  case atStart => exact ⟨m0, [], i + 1, by rw [← HCM.out], World.ownsRow_nil _ _ _ 1, by simp; exact hm4, HR1.out⟩
  case round =>
    obtain ⟨m, l, j, rfl, ho, hlm, hr⟩ := hrel
    have hsr := hr.kp.size
    obtain ⟨av, cv, rfl⟩ := OwnZ.slice ho
    by_cases hm : 0 < m
    · have hmi : (0 : Int) < (m : Int) := by omega
      have hxj := nx_lt HC.out.byte j
      have hm255 : m ≤ 4 := by omega
      have NX := hide (next_w HC.out hr.anew)
      have HR := hide hr
      have HO := hide ho
      clear hr ho HR1
      go_wp2_with fail
      refine NX.out.mono ?_
      rintro e w3 ⟨rfl, hr3⟩
      have ho3 := own_kp HO.out hr3.kp (own_off HO.out hpl)
      have hR3 : RdIn w w0 w3 p a cap code (j + 1) := hr3.onto HR.out.kp
      generalize nx code j = c at hxj ⊢
      have hal := (Below.refl w3.heap.size w3).alloc (Nat.le_refl _) (.cells #[.int .i64 ((c : Int) - 8)] 3)
      have HO4 := hide (show OwnZ (w3.alloc (.cells #[.int .i64 ((c : Int) - 8)] 3)) w.heap.size (.slice av l.length cv) l from own_kp (p := p) ho3 (Kp.of_below hal) (own_off ho3 hpl))
      have HR4 := hide (hR3.below hal)
      have HB4 := hide (Nat.le_trans (Nat.le_trans hsr hr3.kp.size) hal.size)
      have HROW := hide (show (w3.alloc (.cells #[.int .i64 ((c : Int) - 8)] 3)).cell? ⟨w3.heap.size, 0, none⟩ = some (.int .i64 ((c : Int) - 8)) from by
        rw [cell_of_row _ _ _ _ _ _ (heap_alloc_new w3 _)]
        rfl)
      have HHL := hide hlm
      have hl2 : l.length ≤ 4 := by omega
      clear ho3 hR3 hr3 hal HR HO NX hlm
      go_wp2_with (at_builtin; (refine wpList_append_z _ rfl (.tmp 12) (.tmp 16) rfl w.heap.size (.slice av l.length cv) l ((c : Int) - 8) w3.heap.size 1 rfl rfl ?_ ?_ ?_ ?_ ?_; (exact HO4.out); (exact HROW.out); (omega); (exact HB4.out); intro v6 w6 h6 hg6; have HO6 := hide h6; have HR6 := hide (rd_grown HR4.out hg6 (fun b e => (own_ge HO4.out e).1) hpl hw0); clear h6 hg6))
      go_roundw
      case rel => exact ⟨m - 1, l ++ [(c : Int) - 8], j + 1, by go_num, HO6.out, by have := HHL.out; simp; omega, HR6.out⟩
      case measure => simp [intOf]; omega
    · obtain rfl : m = 0 := by omega
      have HO := hide ho
      have HR := hide hr
      clear ho hr
      go_wp2
      go_ret
      exact ⟨_, l, j, rfl, HO.out, by omega, HR.out⟩
/-- What DrawPicks hands back. -/
def DpPost (w : World) (e : Ending) (w' : World) : Prop := ∃ (d : Int) (v : Value) (l : List Int), e = .returned (.tuple #[.int .i64 d, v]) ∧ 0 ≤ d ∧ d ≤ 8 ∧ OwnZ w' w.heap.size v l ∧ l.length ≤ 4 ∧ Below w.heap.size w w'
end Go.Proofs.YtpccongphchagaaGreatDoor
namespace Go.Proofs.YtpccongphchagaaGreatDoor
open Go.RowKit
set_option linter.unusedVariables false
set_option maxRecDepth 20000 in
set_option maxHeartbeats 2000000 in
theorem drawPicks_in {w : World} {a : Option Addr} {cap : Nat} {code : List Nat} (hc : CodeW w a code) :
    Calls Tryz.prog 9 #[.slice a code.length cap] w (DpPost w) := by
  have hB := (Below.refl w.heap.size w).alloc (Nat.le_refl _) (.cells #[.slice a code.length cap, .int .i64 0] 52)
  have LB := Laid.new w #[.slice a code.length cap, .int .i64 0] 52
  have hrd : RdIn (w.alloc (.cells #[.slice a code.length cap, .int .i64 0] 52)) w (w.alloc (.cells #[.slice a code.length cap, .int .i64 0] 52)) w.heap.size a cap code 0 := ⟨by
    unfold Rd
    rw [Nat.zero_min]
    exact LB, hB, Nat.le_refl _, Kp.refl _ _⟩
  have hx := nx_lt hc.byte 0
  have NX := hide (next_w hc hrd)
  have HC := hide hc
  clear hc hrd LB hB
  go_enter Tryz.func9, Tryz.ntmps9
  go_upto_region 2 with fail
  generalize w.alloc (.cells #[.slice a code.length cap, .int .i64 0] 52) = W1 at NX ⊢
  go_wp2_with fail
  refine NX.out.mono ?_
  rintro e w1 ⟨rfl, hr1⟩
  generalize nx code 0 = c at hx ⊢
  have PK := hide (l5Picks_in HC.out hr1.anew)
  have hs1 := hr1.low.size
  clear NX hr1
  go_wp2_with fail
  refine PK.out.mono ?_
  rintro e w2 ⟨v, l, j, rfl, ho, hl, hr2⟩
  have HE := hide (show DpPost w (.returned (.tuple #[.int .i64 ((c : Int) % 9), v])) w2 from ⟨_, v, l, rfl, by omega, by omega, ⟨ho.1, by
    rcases ho.2 with h | ⟨g, cp, cur, hv, hlo, hg, hrr⟩
    · exact .inl h
    · exact .inr ⟨g, cp, cur, hv, Nat.le_trans hs1 hlo, hg, hrr⟩⟩, hl, hr2.low⟩)
  clear ho hl hr2 PK
  go_wp2
  go_ret2
  exact HE.out
end Go.Proofs.YtpccongphchagaaGreatDoor
namespace Go.Proofs.YtpccongphchagaaGreatDoor
open Go.RowKit
/-- What a valid disk tells of a name. -/
def readD (D : MDisk) (nm : ByteArray) : Bool × List Nat :=
  match nodeIn D.names nm with
  | some n => (true, (D.nodes.getD n.toNat ([], 0)).1)
  | none => (false, [])
end Go.Proofs.YtpccongphchagaaGreatDoor
namespace Go.Proofs.YtpccongphchagaaGreatDoor
open Go.RowKit
set_option linter.unusedVariables false
theorem rep_wf {N : Int} {es l : List EN} {o : DO} (h : repE N es o = some l) : 0 ≤ o.2.2.2 ∧ (o.2.2.2 < N ∨ o.2.2.2 = 0) := by
  unfold repE at h
  split at h
  · split at h
    · next hc => exact ⟨hc.2.2.1, .inl hc.2.2.2.1⟩
    · cases h
  · split at h
    · split at h
      · cases h
      · split at h
        · next hc => exact ⟨by omega, .inr hc.2.2⟩
        · cases h
    · split at h
      · split at h
        · cases h
        · split at h
          · next hc => exact ⟨by omega, .inr hc.2⟩
          · cases h
      · cases h
theorem repAll_wf {N : Int} (hN : N ≤ 600) : ∀ {r : List DO} {es z : List EN}, repAll N es r = some z → ∀ o ∈ r, (Lit.int .i64 o.2.2.2).wf = true
  | [], _, _, _, o, ho => by cases ho
  | p :: r, es, z, h, o, ho => by
    obtain ⟨y, k1, k2, k3⟩ := repAll_next h
    rcases List.mem_cons.1 ho with rfl | ho
    · obtain ⟨a, b⟩ := rep_wf k1
      simp [Lit.wf, IntKind.min, IntKind.max, IntKind.signed, IntKind.bits]
      omega
    · exact repAll_wf hN k3 o ho
theorem valid_wf {D : MDisk} (h : ValidD D) : ∀ o ∈ D.pend, (Lit.int .i64 o.2.2.2).wf = true := by
  have hw := valid_wkd h
  obtain ⟨h1, h2, h3, h4, h5, h6, h7⟩ := h
  exact repAll_wf (by have := hw.nn; omega) h7
/-- Every node that a list names is synced. -/
def stepN (ns : List NdM) (e : EN) : List NdM := ns.set e.2.toNat ((nodeOf ns e).1, ((nodeOf ns e).1.length : Int))
def syncN (ns : List NdM) : List EN → List NdM
  | [] => ns
  | e :: r => syncN (stepN ns e) r
theorem getD_set_same {ns : List NdM} {k : Nat} {x : NdM} (h : k < ns.length) : (ns.set k x).getD k ([], 0) = x := by simp [List.getD, h]
theorem getD_set_ne {ns : List NdM} {k j : Nat} {x : NdM} (h : j ≠ k) : (ns.set j x).getD k ([], 0) = ns.getD k ([], 0) := by
  rw [List.getD_eq_getElem?_getD, List.getD_eq_getElem?_getD, List.getElem?_set_ne h]
theorem step_data (ns : List NdM) (e : EN) (k : Nat) : ((stepN ns e).getD k ([], 0)).1 = (ns.getD k ([], 0)).1 := by
  unfold stepN
  by_cases h : e.2.toNat = k
  · by_cases hl : k < ns.length
    · subst h
      rw [getD_set_same hl]
      rfl
    · subst h
      rw [List.set_eq_of_length_le (by omega)]
  · rw [getD_set_ne h]
theorem step_safe (ns : List NdM) (e : EN) (k : Nat) (h : (ns.getD k ([], 0)).2 = ((ns.getD k ([], 0)).1.length : Int)) : ((stepN ns e).getD k ([], 0)).2 = (((stepN ns e).getD k ([], 0)).1.length : Int) := by
  unfold stepN
  by_cases hk : e.2.toNat = k
  · by_cases hl : k < ns.length
    · subst hk
      rw [getD_set_same hl]
    · subst hk
      rw [List.set_eq_of_length_le (by omega)]
      exact h
  · rw [getD_set_ne hk]
    exact h
theorem step_this (ns : List NdM) (e : EN) (hl : e.2.toNat < ns.length) : ((stepN ns e).getD e.2.toNat ([], 0)).2 = (((stepN ns e).getD e.2.toNat ([], 0)).1.length : Int) := by
  unfold stepN
  rw [getD_set_same hl]
theorem sync_len : ∀ (es : List EN) (ns : List NdM), (syncN ns es).length = ns.length
  | [], _ => rfl
  | e :: r, ns => by rw [syncN, sync_len r]; simp [stepN]
theorem sync_data : ∀ (es : List EN) (ns : List NdM) (k : Nat), ((syncN ns es).getD k ([], 0)).1 = (ns.getD k ([], 0)).1
  | [], _, _ => rfl
  | e :: r, ns, k => by rw [syncN, sync_data r, step_data]
theorem sync_keep : ∀ (es : List EN) (ns : List NdM) (k : Nat), (ns.getD k ([], 0)).2 = ((ns.getD k ([], 0)).1.length : Int) → ((syncN ns es).getD k ([], 0)).2 = (((syncN ns es).getD k ([], 0)).1.length : Int)
  | [], _, _, h => h
  | e :: r, ns, k, h => by rw [syncN]; exact sync_keep r _ k (step_safe ns e k h)
theorem sync_safe : ∀ (es : List EN) (ns : List NdM) (x : EN), x ∈ es → x.2.toNat < ns.length → ((syncN ns es).getD x.2.toNat ([], 0)).2 = (((syncN ns es).getD x.2.toNat ([], 0)).1.length : Int)
  | e :: r, ns, x, hx, hl => by
    rw [syncN]
    rcases List.mem_cons.1 hx with rfl | hx
    · exact sync_keep r _ _ (step_this ns x hl)
    · exact sync_safe r _ x hx (by simpa [stepN] using hl)
def lastOps (es : List EN) : List OpV := es.map (fun e => ((3 : Int), e.1, noStr, ([] : List Nat))) ++ [(6, noStr, noStr, [])]
def withN (D : MDisk) (ns : List NdM) : MDisk := ⟨ns, D.names, D.kept, D.pend, D.quota⟩
/-- Syncing the names of a list. -/
theorem run_syncs : ∀ (es : List EN) (D : MDisk), ValidD D → (∀ e ∈ es, nodeIn D.names e.1 = some e.2 ∧ okName e.1 = true) → doRun D (lastOps es) = (settleD (withN D (syncN D.nodes es)), es.length + 1, 0)
  | [], D, hV, _ => by
    show doRun D [(6, noStr, noStr, [])] = _
    rw [doRun, one_dir rfl]
    simp only [doRun, if_true]
    rfl
  | e :: r, D, hV, h => by
    obtain ⟨h1, h2⟩ := h e (List.mem_cons_self ..)
    have hw := valid_wkd hV
    obtain ⟨k, hk, hk2, e2⟩ := nd_at hw h1
    have hone : doOne D (3, e.1, noStr, []) = (withN D (stepN D.nodes e), 0) := by
      rw [one_there (by simp) (by simp) ⟨h2, fun h => absurd h (by simp)⟩ h1, if_neg (by simp), if_pos rfl]
      rfl
    have hV2 : ValidD (withN D (stepN D.nodes e)) := by
      have := doOne_valid (3, e.1, noStr, []) hV
      rw [hone] at this
      exact this
    show doRun D ((3, e.1, noStr, []) :: lastOps r) = _
    rw [doRun, hone]
    simp only [if_true]
    rw [run_syncs r (withN D (stepN D.nodes e)) hV2 (fun x hx => h x (List.mem_cons_of_mem _ hx))]
    rfl
/-- The disk that a law settles. -/
def setOf (D : MDisk) : MDisk := settleD (withN D (syncN D.nodes D.names))
theorem names_in {D : MDisk} (h : ValidD D) : ∀ e ∈ D.names, nodeIn D.names e.1 = some e.2 ∧ okName e.1 = true := fun e he =>
  ⟨(nodeIn_iff (okList_apart h.2.2.2.2.1).1.good).2 he, okList_names h.2.2.2.2.1 e he⟩
theorem run_last {D : MDisk} (h : ValidD D) : doRun D (lastOps D.names) = (setOf D, D.names.length + 1, 0) := run_syncs D.names D h (names_in h)
theorem set_valid {D : MDisk} (h : ValidD D) : ValidD (setOf D) := by
  have := doRun_valid (lastOps D.names) D h
  rw [run_last h] at this
  exact this
theorem set_node {D : MDisk} (h : ValidD D) (i : Nat) (hi : i < D.names.length) : (setOf D).nodes.getD i ([], 0) = ((nodeOf D.nodes D.names[i]).1, ((nodeOf D.nodes D.names[i]).1.length : Int)) := by
  have hb := (valid_wkd h).fine.nd _ (List.getElem_mem hi)
  have hl : D.names[i].2.toNat < D.nodes.length := by omega
  have e1 : (setOf D).nodes.getD i ([], 0) = nodeOf (syncN D.nodes D.names) D.names[i] := by
    show (D.names.map (nodeOf (syncN D.nodes D.names))).getD i ([], 0) = _
    simp [List.getD, hi]
  have e2 := sync_safe D.names D.nodes D.names[i] (List.getElem_mem hi) hl
  have e3 := sync_data D.names D.nodes D.names[i].2.toNat
  rw [e1]
  unfold nodeOf
  rw [e3] at e2
  exact Prod.ext e3 e2
/-- A settled disk stands through a crash. -/
theorem set_crash {D : MDisk} (h : ValidD D) (dirs : Int) (picks : List Int) : crOf (setOf D) dirs picks = setOf D := by
  rw [crOf_yes (set_valid h)]
  have hE : crE (setOf D) dirs = outE D.names D.names.length := by
    unfold crE
    show preE _ (outE D.names D.names.length) [] dirs.toNat = _
    cases dirs.toNat <;> simp [preE]
  have hl : (outE D.names D.names.length).length = D.names.length := by simp [outE]
  unfold crashD
  rw [hE, hl]
  have hO : outE (outE D.names D.names.length) D.names.length = outE D.names D.names.length := by
    apply List.ext_getElem
    · simp [outE]
    · intro i h1 h2
      have h3 : i < D.names.length := by simpa [outE] using h2
      simp [outE, List.getD, h3]
  have hN : outN (setOf D).nodes picks (outE D.names D.names.length) D.names.length = (setOf D).nodes := by
    apply List.ext_getElem
    · simp [outN, setOf, settleD, withN]
    · intro i h1 h2
      have h3 : i < D.names.length := by simpa [outN] using h1
      have e1 : nodeOf (setOf D).nodes ((outE D.names D.names.length).getD i (ByteArray.empty, 0)) = (setOf D).nodes.getD i ([], 0) := by
        unfold nodeOf
        congr 1
        simp [outE, List.getD, h3]
      have e2 := set_node h i h3
      have e3 : (setOf D).nodes[i] = (setOf D).nodes.getD i ([], 0) := by simp [List.getD, h2]
      have ek : ∀ d : List Nat, keepOf (d, (d.length : Int)) picks i = d.length := fun d => by
        unfold keepOf
        simp
        intro _
        omega
      simp only [outN, List.getElem_map, List.getElem_range]
      rw [e1, e3, e2, ek]
      simp
  rw [hO, hN]
  rfl
/-- What is read of a settled disk. -/
theorem set_read {D : MDisk} (h : ValidD D) (i : Nat) (hi : i < D.names.length) : readD (setOf D) D.names[i].1 = (true, (nodeOf D.nodes D.names[i]).1) := by
  have hap := (okList_apart h.2.2.2.2.1).1
  have hn : nodeIn (outE D.names D.names.length) D.names[i].1 = some (i : Int) := by
    have hg := (okList_apart (set_valid h).2.2.2.2.1).1.good
    refine (nodeIn_iff hg).2 ?_
    show (D.names[i].1, (i : Int)) ∈ outE D.names D.names.length
    refine List.mem_map.2 ⟨i, List.mem_range.2 hi, ?_⟩
    simp [List.getD, hi]
  unfold readD
  show (match nodeIn (outE D.names D.names.length) D.names[i].1 with | some n => _ | none => _) = _
  rw [hn]
  simp only [Int.toNat_natCast]
  rw [set_node h i hi]
end Go.Proofs.YtpccongphchagaaGreatDoor
namespace Go.Proofs.YtpccongphchagaaGreatDoor
open Go.RowKit Go.Extern.Stop Go.Stop Go.Extern
set_option linter.unusedVariables false
set_option linter.unusedSimpArgs false
theorem as_nil (t : Value) (w : World) :
    Calls Tryz.prog 55 #[.nilIface, t] w fun e w' => e = .returned (.bool false) ∧ w' = w := by
  go_enter Tryz.func55, Tryz.ntmps55
  go_wp2
  go_ret
  exact ⟨rfl, rfl⟩
theorem ea_valueOfP (t : Addr) (w : World) : (ReflectliteValue.unpack (.iface 104 (.pointer (some t)))).run Tryz.prog w
    = .ok (.agg #[.pointer (some ⟨1, 104, none⟩), .pointer (some ⟨w.heap.size, 0, none⟩), .int .u64 150]) (w.alloc (.cells #[.pointer (some t)] 104)) := by kernel_rfl
theorem ea_typeP (a : Addr) (w : World) : (ReflectliteValue.methodAny (ReflectliteValue.valueError "reflectlite.Value.Type" 0) (fun t _ _ _ => ReflectliteType.toType t) #[.agg #[.pointer (some ⟨1, 104, none⟩), .pointer (some a), .int .u64 150]]).run Tryz.prog w
    = .ok (.iface 144 (.agg #[.pointer (some ⟨1, 104, none⟩)])) w := by kernel_rfl
theorem ea_methodKind (h : Value) (w : World) : (Go.method 292 144 (.agg #[h]) "Kind").run Tryz.prog w = .ok (109, h) w := by kernel_rfl
theorem ea_kindP (w : World) : ((ReflectliteType.abiMethod fun t => (fun a : Nat => Value.int IntKind.u8 (a : Int)) <$> Rtype.kind t) #[.pointer (some ⟨1, 104, none⟩)]).run Tryz.prog w = .ok (.int .u8 22) w := by kernel_rfl
theorem ea_kindF (w : World) : ((ReflectliteType.abiMethod fun t => (fun a : Nat => Value.int IntKind.u8 (a : Int)) <$> Rtype.kind t) #[.pointer (some ⟨1, 102, none⟩)]).run Tryz.prog w = .ok (.int .u8 25) w := by kernel_rfl
theorem ea_partsP (a : Addr) (w : World) : (ReflectliteValue.parts (.agg #[.pointer (some ⟨1, 104, none⟩), .pointer (some a), .int .u64 150])).run Tryz.prog w = .ok (some (104, a, 150)) w := by kernel_rfl
theorem ea_isNilP (a p : Addr) (W : World) (ha : W.cell? a = some (.pointer (some p))) :
    (ReflectliteValue.method (ReflectliteValue.valueError "reflectlite.Value.IsNil" 0) ReflectliteValue.isNil #[.agg #[.pointer (some ⟨1, 104, none⟩), .pointer (some a), .int .u64 150]]).run Tryz.prog W = .ok (.bool false) W := by
  show Sem.run Tryz.prog (ReflectliteValue.parts (.agg #[.pointer (some ⟨1, 104, none⟩), .pointer (some a), .int .u64 150]) >>= _) W = _
  simp only [Sem.run_bind, ea_partsP, Result.andThen]
  simp [ReflectliteValue.isNil, loadVar, isAgg, underlying, Tryz.underlying104, ha, Result.andThen]
theorem ea_methodElem (h : Value) (w : World) : (Go.method 292 144 (.agg #[h]) "Elem").run Tryz.prog w = .ok (121, .agg #[h]) w := by kernel_rfl
theorem ea_methodImplements (h : Value) (w : World) : (Go.method 292 144 (.agg #[h]) "Implements").run Tryz.prog w = .ok (122, .agg #[h]) w := by kernel_rfl
theorem ea_methodAssignableTo (h : Value) (w : World) : (Go.method 292 144 (.agg #[h]) "AssignableTo").run Tryz.prog w = .ok (119, .agg #[h]) w := by kernel_rfl
theorem ea_elemP (w : World) : (ReflectliteType.method ReflectliteType.elem #[.agg #[.pointer (some ⟨1, 104, none⟩)]]).run Tryz.prog w = .ok (.iface 144 (.agg #[.pointer (some ⟨1, 102, none⟩)])) w := by kernel_rfl
theorem ea_implements (w : World) : (ReflectliteType.relation "Implements" ReflectliteType.implements_ #[.agg #[.pointer (some ⟨1, 102, none⟩)], .iface 144 (.agg #[.pointer (some ⟨1, 62, none⟩)])]).run Tryz.prog w = .ok (.bool true) w := by kernel_rfl
theorem ea_typeOfF (v : Value) (w : World) : (ReflectliteType.typeOf #[.iface 102 v]).run Tryz.prog w = .ok (.iface 144 (.agg #[.pointer (some ⟨1, 102, none⟩)])) w := by kernel_rfl
theorem ea_assignable (w : World) : (ReflectliteType.relation "AssignableTo" ReflectliteType.assignableTo #[.agg #[.pointer (some ⟨1, 102, none⟩)], .iface 144 (.agg #[.pointer (some ⟨1, 102, none⟩)])]).run Tryz.prog w = .ok (.bool true) w := by kernel_rfl
theorem ea_valueOfF (x y : Value) (w : World) : (ReflectliteValue.unpack (.iface 102 (.agg #[x, y]))).run Tryz.prog w
    = .ok (.agg #[.pointer (some ⟨1, 102, none⟩), .pointer (some ⟨w.heap.size, 0, none⟩), .int .u64 153]) (w.alloc (.cells #[x, y] 102)) := by kernel_rfl
theorem ea_elemOf (w : World) : (Rtype.elem? 104).run Tryz.prog w = .ok (some 102) w := by kernel_rfl
theorem ea_mk (p : Addr) (w : World) : (ReflectliteValue.mk 102 p ReflectliteValue.flagAddr).run Tryz.prog w = .ok (.agg #[.pointer (some ⟨1, 102, none⟩), .pointer (some p), .int .u64 409]) w := by kernel_rfl
theorem ea_elemV (a p : Addr) (W : World) (ha : W.cell? a = some (.pointer (some p))) :
    (ReflectliteValue.method (ReflectliteValue.valueError "reflectlite.Value.Elem" 0) ReflectliteValue.elem #[.agg #[.pointer (some ⟨1, 104, none⟩), .pointer (some a), .int .u64 150]]).run Tryz.prog W
      = .ok (.agg #[.pointer (some ⟨1, 102, none⟩), .pointer (some p), .int .u64 409]) W := by
  show Sem.run Tryz.prog (ReflectliteValue.parts (.agg #[.pointer (some ⟨1, 104, none⟩), .pointer (some a), .int .u64 150]) >>= _) W = _
  simp only [Sem.run_bind, ea_partsP, Result.andThen]
  simp [ReflectliteValue.elem, loadVar, isAgg, underlying, Tryz.underlying104, ha, Result.andThen, ea_elemOf, ea_mk]
theorem ea_partsA (a : Addr) (w : World) : (ReflectliteValue.parts (.agg #[.pointer (some ⟨1, 102, none⟩), .pointer (some a), .int .u64 409])).run Tryz.prog w = .ok (some (102, a, 409)) w := by kernel_rfl
theorem ea_partsF (a : Addr) (w : World) : (ReflectliteValue.parts (.agg #[.pointer (some ⟨1, 102, none⟩), .pointer (some a), .int .u64 153])).run Tryz.prog w = .ok (some (102, a, 153)) w := by kernel_rfl
theorem ea_direct (w : World) : (Rtype.directlyAssignable 102 102).run Tryz.prog w = .ok true w := by kernel_rfl
theorem ea_size (w : World) : (sizeOf 102).run Tryz.prog w = .ok 2 w := by kernel_rfl
/-- (Value).Set: the opFault at ⟨t, 0⟩ gets what the one at ⟨b, 0⟩ holds. -/
theorem ea_set (t b : Nat) (n : Int) (tc : TypeId) (vc o0 o1 : Value) (W : World) (hb0 : W.cell? ⟨b, 0, none⟩ = some (.int .i64 n)) (hb1 : W.cell? ⟨b, 1, none⟩ = some (.iface tc vc)) (ht0 : W.cell? ⟨t, 0, none⟩ = some o0) (ht1 : W.cell? ⟨t, 1, none⟩ = some o1) (hf0 : W.frozen? ⟨t, 0, none⟩ = false) (hf1 : W.frozen? ⟨t, 1, none⟩ = false) :
    (ReflectliteValue.set #[.agg #[.pointer (some ⟨1, 102, none⟩), .pointer (some ⟨t, 0, none⟩), .int .u64 409], .agg #[.pointer (some ⟨1, 102, none⟩), .pointer (some ⟨b, 0, none⟩), .int .u64 153]]).run Tryz.prog W
      = .ok (.tuple #[]) ((W.setCell ⟨t, 0, none⟩ (.int .i64 n)).setCell ⟨t, 1, none⟩ (.iface tc vc)) := by
  have g1 : (W.setCell ⟨t, 0, none⟩ (.int .i64 n)).cell? ⟨t, 1, none⟩ = some o1 := by
    rw [World.cell?_setCell_other _ _ _ _ (by intro e; simp only [Addr.mk.injEq] at e; omega)]; exact ht1
  have g2 : (W.setCell ⟨t, 0, none⟩ (.int .i64 n)).frozen? ⟨t, 1, none⟩ = false := by simpa using hf1
  show Sem.run Tryz.prog (ReflectliteValue.parts (.agg #[.pointer (some ⟨1, 102, none⟩), .pointer (some ⟨t, 0, none⟩), .int .u64 409]) >>= fun _ => ReflectliteValue.parts (.agg #[.pointer (some ⟨1, 102, none⟩), .pointer (some ⟨b, 0, none⟩), .int .u64 153]) >>= _) W = _
  simp only [Sem.run_bind, ea_partsA, ea_partsF, Result.andThen]
  simp [ReflectliteValue.flagAddr, loadVar, isAgg, underlying, Tryz.underlying102, hb0, hb1, Result.andThen, ea_direct, ea_size, storeVar, Value.cells, storeCells, Addr.add, loadCells, loadCellsFrom]
  rw [run_store Tryz.prog W _ _ _ (by rfl)]
  simp [ht0, hf0]
  rw [run_store Tryz.prog _ _ _ _ (by rfl)]
  simp [g1, g2]
end Go.Proofs.YtpccongphchagaaGreatDoor
