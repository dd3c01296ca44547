/-
  Contracts that the formula laws stand on, part Gb.
-/
import Derived.Test.YtbnnjbfbifihaaaGreatDoorFmA
import Derived.Test.YtbnnjbfbifihaaaGreatDoorFmT
import Derived.StillTailTactics
import Derived.Deep.RegionHeld3
import Derived.Test.YtbnnjbfbifihaaaGreatDoorFsA
import Derived.Test.YtbnnjbfbifihaaaGreatDoorFmC
import Derived.Test.YtbnnjbfbifihaaaGreatDoorFmN
import Derived.Test.YtbnnjbfbifihaaaGreatDoorFmQ

/-
  Contracts of package formula's small functions: between, known, tense.
-/
namespace Go.Proofs.YtbnnjbfbifihaaaGreatDoor
open Go.RowKit

set_option maxHeartbeats 400000 in
theorem between_any (n a b : Int) (w : World) :
    Calls Tryz.prog 80 #[.int .i64 n, .int .i64 a, .int .i64 b] w fun e w' => e = .returned (.bool (btwB n a b)) ∧ w = w' := by
  by_cases h : a ≤ n
  · by_cases h2 : n ≤ b
    · have hR : Hid (btwB n a b = true) := by unfold Hid btwB; rw [decide_eq_true h, decide_eq_true h2]; rfl
      go_enter Tryz.func80, Tryz.ntmps80
      go_wp2
      go_ret
      exact ⟨ret_bool hR.out.symm, rfl⟩
    · have hR : Hid (btwB n a b = false) := by unfold Hid btwB; rw [decide_eq_true h, decide_eq_false h2]; rfl
      go_enter Tryz.func80, Tryz.ntmps80
      go_wp2
      go_ret
      exact ⟨ret_bool hR.out.symm, rfl⟩
  · have hR : Hid (btwB n a b = false) := by unfold Hid btwB; rw [decide_eq_false h]; rfl
    go_enter Tryz.func80, Tryz.ntmps80
    go_wp2
    go_ret
    exact ⟨ret_bool hR.out.symm, rfl⟩

set_option maxHeartbeats 400000 in
theorem known_any (o : Int) (w : World) :
    Calls Tryz.prog 79 #[.int .i64 o] w fun e w' => e = .returned (.bool (knownB o)) ∧ w = w' := by
  go_enter Tryz.func79, Tryz.ntmps79
  go_wp2_with (go_at_call 80; refine (between_any _ _ _ _).mono ?_; rintro e w1 ⟨rfl, rfl⟩)
  go_ret
  exact ⟨rfl, rfl⟩

/-- the tense of an operator -/
def tenseI (o : Int) : Int := if knownB o then fTense o.toNat else 0

set_option maxHeartbeats 400000 in
theorem tense_any (o : Int) (w : World) (hE : Env w) :
    Calls Tryz.prog 61 #[.int .i64 o] w fun e w' => e = .returned (.int .i64 (tenseI o)) ∧ w = w' := by
  cases hk : knownB o
  · have hR : Hid (tenseI o = 0) := by unfold Hid tenseI; rw [hk]; rfl
    go_enter Tryz.func61, Tryz.ntmps61
    go_wp2_with (go_at_call 79; refine (known_any _ _).mono ?_; rintro e w1 ⟨rfl, rfl⟩; rw [hk])
    go_ret
    exact ⟨ret_int hR.out.symm, rfl⟩
  · have hR : Hid (tenseI o = fTense o.toNat) := by unfold Hid tenseI; rw [hk]; rfl
    obtain ⟨h1, h2⟩ := (knownB_iff o).1 hk
    obtain ⟨k, rfl⟩ := Int.eq_ofNat_of_zero_le (show 0 ≤ o by omega)
    have hk2 : k < 20 := by omega
    obtain ⟨-, -, -, -, -, r5, -⟩ := hE.row k hk2
    have g1 : (0 : Int) ≤ (k : Int) := by omega
    have g2 : (k : Int) < 20 := by omega
    go_enter Tryz.func61, Tryz.ntmps61
    go_wp2_with (go_at_call 79; refine (known_any _ _).mono ?_; rintro e w1 ⟨rfl, rfl⟩; rw [hk])
    go_ret
    exact ⟨ret_int (by rw [hR.out]; rfl), rfl⟩

end Go.Proofs.YtbnnjbfbifihaaaGreatDoor

/-
  Contracts of the formula reference's Size, Depth, capped, Small.
-/
namespace Go.Proofs.YtbnnjbfbifihaaaGreatDoor
open Go.RowKit

theorem ret_nat {a b : Nat} (h : a = b) : Ending.returned (.int .i64 a) = .returned (.int .i64 b) := by rw [h]

/-- the world of a function with a formula, at its beginning -/
theorem fm_open (w : World) (a1 a2 a3 a4 a5 : Value) : ∃ W0, Hid (w.alloc (.cells #[a1, a2, a3, a4, a5] 24) = W0) ∧ Below w.heap.size w W0 ∧ Hid (Cells5 W0 w.heap.size 0 a1 a2 a3 a4 a5) ∧ w.heap.size < W0.heap.size :=
  ⟨_, rfl, below_box _ _, box5 _ _ _ _ _ _ _, box_lt _ _⟩

theorem Cells5.later {w w' : World} {b o : Nat} {a1 a2 a3 a4 a5 : Value} (h : Cells5 w b o a1 a2 a3 a4 a5) (hB : Below w.heap.size w w') (hb : b < w.heap.size) : Cells5 w' b o a1 a2 a3 a4 a5 := h.below hB hb

set_option maxRecDepth 100000 in
set_option maxHeartbeats 1000000 in
theorem refsize_any (f : Fm) : ∀ (B : Nat) (v : Value) (w : World), FAt B w v f → B ≤ w.heap.size → f.nodes ≤ 1000000 →
    Calls Tryz.prog 18 #[v] w fun e w' => e = .returned (.int .i64 f.nodes) ∧ Below w.heap.size w w' := by
  induction f using Fm.ind with
  | h f ih =>
    intro B v w hv hBw hn
    obtain ⟨o, c, rfl, hfit, hA⟩ := hv.open
    have hA' := hA.mono hBw
    have hlen := hA.len
    obtain ⟨W0, hW0, hB0, hc, hlt⟩ := fm_open w (.int .i64 f.op) (.string f.name) (.int .i64 f.val) (.int .i64 f.bound) (.slice o f.args.length c)
    have hnn := hidi f.nodes_eq
    have hnl : Fm.nodesL f.args ≤ 1000000 := by rw [f.nodes_eq] at hn; omega
    go_enter Tryz.func18, Tryz.ntmps18
    go_wp2
    rw [hW0.out]
    go_loopw [3, 4] (fun n i wr => ∃ k : Nat, k ≤ f.args.length ∧ i = .int .i64 k ∧ n = .int .i64 ((1 + Fm.nodesL (f.args.take k) : Nat) : Int) ∧ Below W0.heap.size W0 wr) (fun _ i _ => f.args.length - (intOf i).toNat)
    case atStart => exact ⟨0, Nat.zero_le _, rfl, by simp [Fm.nodesL_nil], Below.refl _ _⟩
    case round =>
      obtain ⟨k, hk, rfl, rfl, hB⟩ := hrel
      obtain ⟨d0, d1, d2, d3, d4⟩ := hc.out.later hB hlt
      rw [Nat.zero_add] at d1 d2 d3 d4
      by_cases hlt2 : k < f.args.length
      · obtain ⟨b, off, rfl, hb, hat⟩ := hA'.at (by omega)
        obtain ⟨sl, hc5, hF⟩ := hat k hlt2
        have hW := hB0.trans (hB.mono hB0.size)
        obtain ⟨e0, e1, e2, e3, e4⟩ := hc5.below hW hb
        have hS := hidi (Fm.nodesL_take hlt2)
        have hg := Fm.nodes_get hlt2
        have hg2 := Fm.nodesL_take_le f.args (k + 1)
        rw [hS.out] at hg2
        have hmem := List.getElem_mem hlt2
        generalize f.args[k] = g at *
        go_wp2_with (go_at_call 18; refine (ih g hmem w.heap.size (fval g sl) _ (hF.kept hW (Nat.le_refl _)) hW.size (by omega)).mono ?_; rintro e w1 ⟨rfl, hb1⟩; have hB := hB.trans (hb1.mono hB.size); clear hb1)
        go_roundw
        case rel => exact ⟨k + 1, by omega, by go_num, by rw [hS.out]; go_num, hB⟩
        case measure => simp [intOf]; omega
      · obtain rfl : k = f.args.length := by omega
        rw [List.take_length]
        go_wp2
        go_ret
        exact ⟨ret_nat hnn.out.symm, hB0.trans (hB.mono hB0.size)⟩

set_option maxRecDepth 100000 in
set_option maxHeartbeats 1000000 in
theorem refdepth_any (f : Fm) : ∀ (B : Nat) (v : Value) (w : World), FAt B w v f → B ≤ w.heap.size → f.depth ≤ 1000000 →
    Calls Tryz.prog 55 #[v] w fun e w' => e = .returned (.int .i64 f.depth) ∧ Below w.heap.size w w' := by
  induction f using Fm.ind with
  | h f ih =>
    intro B v w hv hBw hn
    obtain ⟨o, c, rfl, hfit, hA⟩ := hv.open
    have hA' := hA.mono hBw
    have hlen := hA.len
    obtain ⟨W0, hW0, hB0, hc, hlt⟩ := fm_open w (.int .i64 f.op) (.string f.name) (.int .i64 f.val) (.int .i64 f.bound) (.slice o f.args.length c)
    have hnn := hidi f.depth_eq
    have hnl : Fm.depthL f.args ≤ 1000000 := by rw [f.depth_eq] at hn; omega
    go_enter Tryz.func55, Tryz.ntmps55
    go_wp2
    rw [hW0.out]
    go_loopw [3, 4] (fun n i wr => ∃ k : Nat, k ≤ f.args.length ∧ i = .int .i64 k ∧ n = .int .i64 ((Fm.depthL (f.args.take k) : Nat) : Int) ∧ Below W0.heap.size W0 wr) (fun _ i _ => f.args.length - (intOf i).toNat)
    case atStart => exact ⟨0, Nat.zero_le _, rfl, by simp [Fm.depthL_nil], Below.refl _ _⟩
    case round =>
      obtain ⟨k, hk, rfl, rfl, hB⟩ := hrel
      obtain ⟨d0, d1, d2, d3, d4⟩ := hc.out.later hB hlt
      rw [Nat.zero_add] at d1 d2 d3 d4
      by_cases hlt2 : k < f.args.length
      · obtain ⟨b, off, rfl, hb, hat⟩ := hA'.at (by omega)
        obtain ⟨sl, hc5, hF⟩ := hat k hlt2
        have hW := hB0.trans (hB.mono hB0.size)
        obtain ⟨e0, e1, e2, e3, e4⟩ := hc5.below hW hb
        have hS := hidi (Fm.depthL_take hlt2)
        have hg := Fm.depth_get hlt2
        have hg2 := Fm.depthL_take_le f.args (k + 1)
        rw [hS.out] at hg2
        have hmem := List.getElem_mem hlt2
        generalize f.args[k] = g at *
        by_cases hm : Fm.depthL (f.args.take k) < g.depth
        · go_wp2_with (go_at_call 55; refine (ih g hmem w.heap.size (fval g sl) _ (hF.kept hW (Nat.le_refl _)) hW.size (by omega)).mono ?_; rintro e w1 ⟨rfl, hb1⟩; have hB := hB.trans (hb1.mono hB.size); clear hb1)
          go_roundw
          case rel => exact ⟨k + 1, by omega, by go_num, by rw [hS.out, Nat.max_eq_right (Nat.le_of_lt hm)], hB⟩
          case measure => simp [intOf]; omega
        · go_wp2_with (go_at_call 55; refine (ih g hmem w.heap.size (fval g sl) _ (hF.kept hW (Nat.le_refl _)) hW.size (by omega)).mono ?_; rintro e w1 ⟨rfl, hb1⟩; have hB := hB.trans (hb1.mono hB.size); clear hb1)
          go_roundw
          case rel => exact ⟨k + 1, by omega, by go_num, by rw [hS.out, Nat.max_eq_left (by omega)], hB⟩
          case measure => simp [intOf]; omega
      · obtain rfl : k = f.args.length := by omega
        rw [List.take_length]
        go_wp2
        go_ret
        exact ⟨ret_nat hnn.out.symm, hB0.trans (hB.mono hB0.size)⟩

set_option maxRecDepth 100000 in
set_option maxHeartbeats 1000000 in
theorem refcapped_any (f : Fm) : ∀ (B : Nat) (v : Value) (m : Nat) (w : World), FAt B w v f → B ≤ w.heap.size → m ≤ 1000000 →
    Calls Tryz.prog 52 #[v, .int .i64 m] w fun e w' => e = .returned (.int .i64 (min f.nodes (m + 1) : Nat)) ∧ Below w.heap.size w w' := by
  induction f using Fm.ind with
  | h f ih =>
    intro B v m w hv hBw hm
    obtain ⟨o, c, rfl, hfit, hA⟩ := hv.open
    have hA' := hA.mono hBw
    have hlen := hA.len
    obtain ⟨W0, hW0, hB0, hc, hlt⟩ := fm_open w (.int .i64 f.op) (.string f.name) (.int .i64 f.val) (.int .i64 f.bound) (.slice o f.args.length c)
    have hnn := hidi f.nodes_eq
    go_enter Tryz.func52, Tryz.ntmps52
    go_wp2
    rw [hW0.out]
    go_loopw [5, 6] (fun n i wr => ∃ k t : Nat, k ≤ f.args.length ∧ i = .int .i64 k ∧ n = .int .i64 t ∧ Hid (t = min (1 + Fm.nodesL (f.args.take k)) (m + 1)) ∧ t ≤ m + 1 ∧ Below W0.heap.size W0 wr) (fun _ i _ => f.args.length - (intOf i).toNat)
    case atStart => exact ⟨0, 1, Nat.zero_le _, rfl, rfl, by unfold Hid; rw [List.take_zero, Fm.nodesL_nil]; omega, by omega, Below.refl _ _⟩
    case round =>
      obtain ⟨k, t, hk, rfl, rfl, ht, htm, hB⟩ := hrel
      obtain ⟨d0, d1, d2, d3, d4⟩ := hc.out.later hB hlt
      rw [Nat.zero_add] at d1 d2 d3 d4
      by_cases hlt2 : k < f.args.length
      · by_cases htl : t ≤ m
        · obtain ⟨b, off, rfl, hb, hat⟩ := hA'.at (by omega)
          obtain ⟨sl, hc5, hF⟩ := hat k hlt2
          have hW := hB0.trans (hB.mono hB0.size)
          obtain ⟨e0, e1, e2, e3, e4⟩ := hc5.below hW hb
          have hS := hidi (Fm.nodesL_take hlt2)
          have hmem := List.getElem_mem hlt2
          generalize f.args[k] = g at *
          obtain ⟨q, hq⟩ : ∃ q : Nat, Hid (q = m - t) := ⟨_, rfl⟩
          have hq1 : IntKind.i64.wrap ((m : Int) - (t : Int)) = (q : Int) := by rw [hq.out, IntKind.wrap_i64]; omega
          have hqm : q ≤ 1000000 := by rw [hq.out]; omega
          obtain ⟨x, hx⟩ : ∃ x : Nat, Hid (min g.nodes (q + 1) = x) := ⟨_, rfl⟩
          have hx1 : x ≤ 1000001 := by rw [← hx.out]; omega
          have hT : Hid (t + x = min (1 + Fm.nodesL (f.args.take (k + 1))) (m + 1)) := by
            unfold Hid; rw [hS.out, ← hx.out, hq.out]; have := ht.out; omega
          go_wp2_with (go_at_call 52; refine (ih g hmem w.heap.size (fval g sl) q _ (hF.kept hW (Nat.le_refl _)) hW.size hqm).mono ?_; rintro e w1 ⟨rfl, hb1⟩; rw [hx.out]; have hB := hB.trans (hb1.mono hB.size); clear hb1)
          go_roundw
          case rel => exact ⟨k + 1, t + x, by omega, by go_num, by go_num, hT, by have := hT.out; omega, hB⟩
          case measure => simp [intOf]; omega
        · have hR : Hid (min f.nodes (m + 1) = t) := by
            unfold Hid; rw [hnn.out]; have := ht.out; have := Fm.nodesL_take_le f.args k; omega
          go_wp2
          go_ret
          exact ⟨ret_nat hR.out.symm, hB0.trans (hB.mono hB0.size)⟩
      · have hR : Hid (min f.nodes (m + 1) = t) := by
          unfold Hid; rw [hnn.out]; have := ht.out; rw [List.take_of_length_le (by omega)] at this; omega
        go_wp2
        go_ret
        exact ⟨ret_nat hR.out.symm, hB0.trans (hB.mono hB0.size)⟩

set_option maxHeartbeats 400000 in
theorem refsmall_any (f : Fm) (B : Nat) (v : Value) (m : Nat) (w : World) (hv : FAt B w v f) (hBw : B ≤ w.heap.size) (hm : m ≤ 1000000) :
    Calls Tryz.prog 13 #[v, .int .i64 m] w fun e w' => e = .returned (.bool (decide (f.nodes ≤ m))) ∧ Below w.heap.size w w' := by
  obtain ⟨o, c, rfl, hfit, hA⟩ := hv.open
  have hB0 := below_box w (.cells #[.int .i64 f.op, .string f.name, .int .i64 f.val, .int .i64 f.bound, .slice o f.args.length c] 24)
  obtain ⟨x, hx⟩ : ∃ x : Nat, Hid (min f.nodes (m + 1) = x) := ⟨_, rfl⟩
  by_cases h : x ≤ m
  · go_enter Tryz.func13, Tryz.ntmps13
    go_wp2_with (go_at_call 52; refine (refcapped_any f w.heap.size _ m _ ((hv.mono hBw).kept hB0 (Nat.le_refl _)) hB0.size hm).mono ?_; rintro e w1 ⟨rfl, hb1⟩; rw [hx.out]; have hB := hB0.trans (hb1.mono hB0.size); clear hb1)
    go_ret
    exact ⟨ret_bool (by have := hx.out; symm; simp; omega), hB⟩
  · go_enter Tryz.func13, Tryz.ntmps13
    go_wp2_with (go_at_call 52; refine (refcapped_any f w.heap.size _ m _ ((hv.mono hBw).kept hB0 (Nat.le_refl _)) hB0.size hm).mono ?_; rintro e w1 ⟨rfl, hb1⟩; rw [hx.out]; have hB := hB0.trans (hb1.mono hB0.size); clear hb1)
    go_ret
    exact ⟨ret_bool (by have := hx.out; symm; simp; omega), hB⟩

end Go.Proofs.YtbnnjbfbifihaaaGreatDoor

/-
  Contracts of package formula's proper, kernelNode.
-/
namespace Go.Proofs.YtbnnjbfbifihaaaGreatDoor
open Go.RowKit

set_option maxRecDepth 100000 in
set_option maxHeartbeats 4000000 in
theorem proper_any (f : Fm) (B : Nat) (v : Value) (w : World) (hv : FAt B w v f) (hE : Env w) :
    Calls Tryz.prog 54 #[v] w fun e w' => e = .returned (.bool (nodeB f)) ∧ Below w.heap.size w w' := by
  obtain ⟨o, c, rfl, hfit, hA⟩ := hv.open
  have hlen := hA.len
  obtain ⟨W0, hW0, hB0, hc, hlt⟩ := fm_open w (.int .i64 f.op) (.string f.name) (.int .i64 f.val) (.int .i64 f.bound) (.slice o f.args.length c)
  obtain ⟨d0, d1, d2, d3, d4⟩ := hc.out
  rw [Nat.zero_add] at d1 d2 d3 d4
  cases hk : knownB f.op
  · have hN : Hid (nodeB f = false) := by unfold Hid nodeB; rw [hk]; rfl
    go_enter Tryz.func54, Tryz.ntmps54
    go_wp2_with fail
    rw [hW0.out]
    go_wp2_with (first | (go_at_call 79; refine (known_any _ _).mono ?_; rintro e w1 ⟨rfl, rfl⟩; rw [hk]))
    go_ret
    exact ⟨ret_bool (by rw [hN.out]), hB0⟩
  · obtain ⟨h1, h2⟩ := (knownB_iff _).1 hk
    obtain ⟨k, hkk⟩ := Int.eq_ofNat_of_zero_le (show 0 ≤ f.op by omega)
    have hk2 : k < 20 := by omega
    have hkH := hidi hkk
    have g1 : (0 : Int) ≤ f.op := by omega
    have g2 : f.op < 20 := by omega
    have g3 : f.op.toNat = k := by omega
    obtain ⟨r0, r1, r2, r3, r4, r5, r6⟩ := (hE.below hB0).row k hk2
    have hN0 : Hid (nodeB f = (nameOkB f && btwB f.val 0 (fVal k) && btwB f.bound 0 (fBound k) && btwB f.args.length (fLeast k) (fMost k))) := by
      unfold Hid nodeB; rw [hk, hkk, Int.toNat_natCast]; rfl
    clear hkk h1 h2
    cases hn : fNamed k
    · cases hne : f.name.toList.isEmpty
      · have hN : Hid (nodeB f = false) := by unfold Hid; rw [hN0.out]; unfold nameOkB; rw [hkH.out, Int.toNat_natCast, hn, hne]; rfl
        have m0 : (!f.name.toList.isEmpty) = true := by rw [hne]; rfl
        go_enter Tryz.func54, Tryz.ntmps54
        go_wp2_with fail
        rw [hW0.out]
        go_wp2_with (first | (go_at_call 79; refine (known_any _ _).mono ?_; rintro e w1 ⟨rfl, rfl⟩; rw [hk]))
        go_ret
        exact ⟨ret_bool (by rw [hN.out]), hB0.trans ((below_box _ _).mono hB0.size)⟩
      · have n2 : f.name.toList = [] := by simpa using hne
        have hN : Hid (nodeB f = (btwB f.val 0 (fVal k) && btwB f.bound 0 (fBound k) && btwB f.args.length (fLeast k) (fMost k))) := by unfold Hid; rw [hN0.out]; unfold nameOkB; rw [hkH.out, Int.toNat_natCast, hn, hne]; rfl
        cases q1 : btwB f.val 0 (fVal k)
        · go_enter Tryz.func54, Tryz.ntmps54
          go_wp2_with fail
          rw [hW0.out]
          go_wp2_with (first | (go_at_call 79; refine (known_any _ _).mono ?_; rintro e w1 ⟨rfl, rfl⟩; rw [hk]) | (go_at_call 80; (with_reducible refine (between_any f.val 0 (fVal k) _).mono ?_); rintro e w1 ⟨rfl, rfl⟩; rw [q1]))
          go_ret
          exact ⟨ret_bool (by rw [hN.out, q1]; rfl), hB0.trans ((below_box _ _).mono hB0.size)⟩
        · cases q2 : btwB f.bound 0 (fBound k)
          · go_enter Tryz.func54, Tryz.ntmps54
            go_wp2_with fail
            rw [hW0.out]
            go_wp2_with (first | (go_at_call 79; refine (known_any _ _).mono ?_; rintro e w1 ⟨rfl, rfl⟩; rw [hk]) | (go_at_call 80; (with_reducible refine (between_any f.val 0 (fVal k) _).mono ?_); rintro e w1 ⟨rfl, rfl⟩; rw [q1]) | (go_at_call 80; (with_reducible refine (between_any f.bound 0 (fBound k) _).mono ?_); rintro e w1 ⟨rfl, rfl⟩; rw [q2]))
            go_ret
            exact ⟨ret_bool (by rw [hN.out, q1, q2]; rfl), hB0.trans ((below_box _ _).mono hB0.size)⟩
          · cases q3 : btwB f.args.length (fLeast k) (fMost k)
            · go_enter Tryz.func54, Tryz.ntmps54
              go_wp2_with fail
              rw [hW0.out]
              go_wp2_with (first | (go_at_call 79; refine (known_any _ _).mono ?_; rintro e w1 ⟨rfl, rfl⟩; rw [hk]) | (go_at_call 80; (with_reducible refine (between_any f.val 0 (fVal k) _).mono ?_); rintro e w1 ⟨rfl, rfl⟩; rw [q1]) | (go_at_call 80; (with_reducible refine (between_any f.bound 0 (fBound k) _).mono ?_); rintro e w1 ⟨rfl, rfl⟩; rw [q2]) | (go_at_call 80; (with_reducible refine (between_any (f.args.length : Int) (fLeast k) (fMost k) _).mono ?_); rintro e w1 ⟨rfl, rfl⟩; rw [q3]))
              go_ret
              exact ⟨ret_bool (by rw [hN.out, q1, q2, q3]; rfl), hB0.trans ((below_box _ _).mono hB0.size)⟩
            · go_enter Tryz.func54, Tryz.ntmps54
              go_wp2_with fail
              rw [hW0.out]
              go_wp2_with (first | (go_at_call 79; refine (known_any _ _).mono ?_; rintro e w1 ⟨rfl, rfl⟩; rw [hk]) | (go_at_call 80; (with_reducible refine (between_any f.val 0 (fVal k) _).mono ?_); rintro e w1 ⟨rfl, rfl⟩; rw [q1]) | (go_at_call 80; (with_reducible refine (between_any f.bound 0 (fBound k) _).mono ?_); rintro e w1 ⟨rfl, rfl⟩; rw [q2]) | (go_at_call 80; (with_reducible refine (between_any (f.args.length : Int) (fLeast k) (fMost k) _).mono ?_); rintro e w1 ⟨rfl, rfl⟩; rw [q3]))
              go_ret
              exact ⟨ret_bool (by rw [hN.out, q1, q2, q3]; rfl), hB0.trans ((below_box _ _).mono hB0.size)⟩
    · cases hnm : nameB f.name
      · have hN : Hid (nodeB f = false) := by unfold Hid; rw [hN0.out]; unfold nameOkB; rw [hkH.out, Int.toNat_natCast, hn, hnm]; rfl
        go_enter Tryz.func54, Tryz.ntmps54
        go_wp2_with fail
        rw [hW0.out]
        go_wp2_with (first | (go_at_call 79; refine (known_any _ _).mono ?_; rintro e w1 ⟨rfl, rfl⟩; rw [hk]) | (go_at_call 77; refine (name_any f.name hfit.2.1 _).mono ?_; rintro e w1 ⟨rfl, rfl⟩; rw [hnm]))
        go_ret
        exact ⟨ret_bool (by rw [hN.out]), hB0.trans ((below_box _ _).mono hB0.size)⟩
      · have hN : Hid (nodeB f = (btwB f.val 0 (fVal k) && btwB f.bound 0 (fBound k) && btwB f.args.length (fLeast k) (fMost k))) := by unfold Hid; rw [hN0.out]; unfold nameOkB; rw [hkH.out, Int.toNat_natCast, hn, hnm]; rfl
        cases q1 : btwB f.val 0 (fVal k)
        · go_enter Tryz.func54, Tryz.ntmps54
          go_wp2_with fail
          rw [hW0.out]
          go_wp2_with (first | (go_at_call 79; refine (known_any _ _).mono ?_; rintro e w1 ⟨rfl, rfl⟩; rw [hk]) | (go_at_call 77; refine (name_any f.name hfit.2.1 _).mono ?_; rintro e w1 ⟨rfl, rfl⟩; rw [hnm]) | (go_at_call 80; (with_reducible refine (between_any f.val 0 (fVal k) _).mono ?_); rintro e w1 ⟨rfl, rfl⟩; rw [q1]))
          go_ret
          exact ⟨ret_bool (by rw [hN.out, q1]; rfl), hB0.trans ((below_box _ _).mono hB0.size)⟩
        · cases q2 : btwB f.bound 0 (fBound k)
          · go_enter Tryz.func54, Tryz.ntmps54
            go_wp2_with fail
            rw [hW0.out]
            go_wp2_with (first | (go_at_call 79; refine (known_any _ _).mono ?_; rintro e w1 ⟨rfl, rfl⟩; rw [hk]) | (go_at_call 77; refine (name_any f.name hfit.2.1 _).mono ?_; rintro e w1 ⟨rfl, rfl⟩; rw [hnm]) | (go_at_call 80; (with_reducible refine (between_any f.val 0 (fVal k) _).mono ?_); rintro e w1 ⟨rfl, rfl⟩; rw [q1]) | (go_at_call 80; (with_reducible refine (between_any f.bound 0 (fBound k) _).mono ?_); rintro e w1 ⟨rfl, rfl⟩; rw [q2]))
            go_ret
            exact ⟨ret_bool (by rw [hN.out, q1, q2]; rfl), hB0.trans ((below_box _ _).mono hB0.size)⟩
          · cases q3 : btwB f.args.length (fLeast k) (fMost k)
            · go_enter Tryz.func54, Tryz.ntmps54
              go_wp2_with fail
              rw [hW0.out]
              go_wp2_with (first | (go_at_call 79; refine (known_any _ _).mono ?_; rintro e w1 ⟨rfl, rfl⟩; rw [hk]) | (go_at_call 77; refine (name_any f.name hfit.2.1 _).mono ?_; rintro e w1 ⟨rfl, rfl⟩; rw [hnm]) | (go_at_call 80; (with_reducible refine (between_any f.val 0 (fVal k) _).mono ?_); rintro e w1 ⟨rfl, rfl⟩; rw [q1]) | (go_at_call 80; (with_reducible refine (between_any f.bound 0 (fBound k) _).mono ?_); rintro e w1 ⟨rfl, rfl⟩; rw [q2]) | (go_at_call 80; (with_reducible refine (between_any (f.args.length : Int) (fLeast k) (fMost k) _).mono ?_); rintro e w1 ⟨rfl, rfl⟩; rw [q3]))
              go_ret
              exact ⟨ret_bool (by rw [hN.out, q1, q2, q3]; rfl), hB0.trans ((below_box _ _).mono hB0.size)⟩
            · go_enter Tryz.func54, Tryz.ntmps54
              go_wp2_with fail
              rw [hW0.out]
              go_wp2_with (first | (go_at_call 79; refine (known_any _ _).mono ?_; rintro e w1 ⟨rfl, rfl⟩; rw [hk]) | (go_at_call 77; refine (name_any f.name hfit.2.1 _).mono ?_; rintro e w1 ⟨rfl, rfl⟩; rw [hnm]) | (go_at_call 80; (with_reducible refine (between_any f.val 0 (fVal k) _).mono ?_); rintro e w1 ⟨rfl, rfl⟩; rw [q1]) | (go_at_call 80; (with_reducible refine (between_any f.bound 0 (fBound k) _).mono ?_); rintro e w1 ⟨rfl, rfl⟩; rw [q2]) | (go_at_call 80; (with_reducible refine (between_any (f.args.length : Int) (fLeast k) (fMost k) _).mono ?_); rintro e w1 ⟨rfl, rfl⟩; rw [q3]))
              go_ret
              exact ⟨ret_bool (by rw [hN.out, q1, q2, q3]; rfl), hB0.trans ((below_box _ _).mono hB0.size)⟩

end Go.Proofs.YtbnnjbfbifihaaaGreatDoor

/-
  Contracts of the formula reference's ints, Compare, Same.
-/
namespace Go.Proofs.YtbnnjbfbifihaaaGreatDoor
open Go.RowKit

set_option maxHeartbeats 400000 in
theorem refints_any (a b : Int) (w : World) :
    Calls Tryz.prog 60 #[.int .i64 a, .int .i64 b] w fun e w' => e = .returned (.int .i64 (cmpI a b)) ∧ w = w' := by
  by_cases h : a < b
  · have hR : Hid (cmpI a b = -1) := by unfold Hid cmpI; rw [if_pos h]
    go_enter Tryz.func60, Tryz.ntmps60
    go_wp2
    go_ret
    exact ⟨ret_int hR.out.symm, rfl⟩
  · by_cases h2 : b < a
    · have hR : Hid (cmpI a b = 1) := by unfold Hid cmpI; rw [if_neg h, if_pos h2]
      go_enter Tryz.func60, Tryz.ntmps60
      go_wp2
      go_ret
      exact ⟨ret_int hR.out.symm, rfl⟩
    · have hR : Hid (cmpI a b = 0) := by unfold Hid cmpI; rw [if_neg h, if_neg h2]
      go_enter Tryz.func60, Tryz.ntmps60
      go_wp2
      go_ret
      exact ⟨ret_int hR.out.symm, rfl⟩

theorem cmpI_zero (a b : Int) : cmpI a b = 0 ↔ a = b := (good_int a).eq b
theorem orI_zero {a : Int} (h : a = 0) (b : Int) : orI a b = b := by unfold orI; rw [if_pos h]
theorem orI_not {a : Int} (h : a ≠ 0) (b : Int) : orI a b = a := by unfold orI; rw [if_neg h]
theorem cmpN_eq {a b : ByteArray} (h : (a.toList == b.toList) = true) : cmpN a b = 0 := by unfold cmpN cmpB; rw [h]; rfl
theorem cmpN_lt {a b : ByteArray} (h : (a.toList == b.toList) = false) (h2 : Op.bytesLess a.toList b.toList = true) : cmpN a b = -1 := by unfold cmpN cmpB; rw [h, h2]; rfl
theorem cmpN_gt {a b : ByteArray} (h : (a.toList == b.toList) = false) (h2 : Op.bytesLess a.toList b.toList = false) : cmpN a b = 1 := by unfold cmpN cmpB; rw [h, h2]; rfl
theorem cmpL_drop {l m : List Fm} {k : Nat} (hk : k < l.length) (hm : k < m.length) : cmpL (l.drop k) (m.drop k) = orI (cmpF l[k] m[k]) (cmpL (l.drop (k + 1)) (m.drop (k + 1))) := by
  rw [List.drop_eq_getElem_cons hk, List.drop_eq_getElem_cons hm, cmpL]
theorem cmpL_end {l m : List Fm} (h : l.length = m.length) {k : Nat} (hk : l.length ≤ k) : cmpL (l.drop k) (m.drop k) = 0 := by
  rw [List.drop_of_length_le hk, List.drop_of_length_le (by omega), cmpL]

/-- the world of a function with two formulas, at its beginning -/
theorem fm2_open (w : World) (a1 a2 a3 a4 a5 b1 b2 b3 b4 b5 : Value) : ∃ W0, Hid ((w.alloc (.cells #[a1, a2, a3, a4, a5] 24)).alloc (.cells #[b1, b2, b3, b4, b5] 24) = W0) ∧ Below w.heap.size w W0 ∧
    Hid (Cells5 W0 w.heap.size 0 a1 a2 a3 a4 a5) ∧ Hid (Cells5 W0 (w.heap.size + 1) 0 b1 b2 b3 b4 b5) ∧ w.heap.size + 1 < W0.heap.size := by
  have h1 := below_box w (.cells #[a1, a2, a3, a4, a5] 24)
  have h2 := below_box (w.alloc (.cells #[a1, a2, a3, a4, a5] 24)) (.cells #[b1, b2, b3, b4, b5] 24)
  refine ⟨_, rfl, h1.trans (h2.mono h1.size), (box5 _ _ _ _ _ _ _).below h2 (box_lt _ _), ?_, by simp⟩
  have := box5 (w.alloc (.cells #[a1, a2, a3, a4, a5] 24)) b1 b2 b3 b4 b5 24
  rw [show (w.alloc (.cells #[a1, a2, a3, a4, a5] 24)).heap.size = w.heap.size + 1 by simp] at this
  exact this

theorem head_1 {f g : Fm} {x : Int} (h : Hid (cmpI f.op g.op = x)) (h0 : x ≠ 0) : cmpHead f g = x := by unfold cmpHead; rw [h.out, orI_not h0]
theorem head_2 {f g : Fm} {x : Int} (h1 : cmpI f.op g.op = 0) (h : cmpN f.name g.name = x) (h0 : x ≠ 0) : cmpHead f g = x := by unfold cmpHead; rw [orI_zero h1, h, orI_not h0]
theorem head_3 {f g : Fm} {x : Int} (h1 : cmpI f.op g.op = 0) (h2 : cmpN f.name g.name = 0) (h : Hid (cmpI f.val g.val = x)) (h0 : x ≠ 0) : cmpHead f g = x := by unfold cmpHead; rw [orI_zero h1, orI_zero h2, h.out, orI_not h0]
theorem head_4 {f g : Fm} {x : Int} (h1 : cmpI f.op g.op = 0) (h2 : cmpN f.name g.name = 0) (h3 : cmpI f.val g.val = 0) (h : Hid (cmpI f.bound g.bound = x)) (h0 : x ≠ 0) : cmpHead f g = x := by
  unfold cmpHead; rw [orI_zero h1, orI_zero h2, orI_zero h3, h.out, orI_not h0]
theorem head_5 {f g : Fm} {x : Int} (h1 : cmpI f.op g.op = 0) (h2 : cmpN f.name g.name = 0) (h3 : cmpI f.val g.val = 0) (h4 : cmpI f.bound g.bound = 0) (h : Hid (cmpI f.args.length g.args.length = x)) : cmpHead f g = x := by
  unfold cmpHead; rw [orI_zero h1, orI_zero h2, orI_zero h3, orI_zero h4, h.out]
/-- are two formulas equal -/
def sameF (f g : Fm) : Bool := cmpF f g == 0
theorem sameF_iff (f g : Fm) : sameF f g = true ↔ f = g := by
  unfold sameF; rw [beq_iff_eq]; exact (good_fm f).eq g
theorem sameF_self (f : Fm) : sameF f f = true := (sameF_iff f f).2 rfl
theorem start_of {f g : Fm} {x : Int} (h : cmpHead f g = x) : Hid (cmpF f g = orI x (cmpL (f.args.drop 0) (g.args.drop 0))) := by unfold Hid; rw [cmpF_eq, h]; rfl

set_option maxRecDepth 100000 in
set_option maxHeartbeats 4000000 in
theorem refcompare_any (f : Fm) : ∀ (g : Fm) (B : Nat) (u v : Value) (w : World), FAt B w u f → FAt B w v g → B ≤ w.heap.size →
    Calls Tryz.prog 20 #[u, v] w fun e w' => e = .returned (.int .i64 (cmpF f g)) ∧ Below w.heap.size w w' := by
  induction f using Fm.ind with
  | h f ih =>
    intro g B u v w hu hv hBw
    obtain ⟨o, c, rfl, -, hAf'⟩ := hu.open
    obtain ⟨o', c', rfl, -, hAg'⟩ := hv.open
    have hAf := hAf'.mono hBw
    have hAg := hAg'.mono hBw
    have hlf := hAf'.len
    have hlg := hAg'.len
    obtain ⟨W0, hW0, hB0, hcf, hcg, hlt⟩ := fm2_open w (.int .i64 f.op) (.string f.name) (.int .i64 f.val) (.int .i64 f.bound) (.slice o f.args.length c) (.int .i64 g.op) (.string g.name) (.int .i64 g.val) (.int .i64 g.bound) (.slice o' g.args.length c')
    obtain ⟨y1, x1⟩ : ∃ x, Hid (cmpI f.op g.op = x) := ⟨_, rfl⟩
    obtain ⟨y3, x3⟩ : ∃ x, Hid (cmpI f.val g.val = x) := ⟨_, rfl⟩
    obtain ⟨y4, x4⟩ : ∃ x, Hid (cmpI f.bound g.bound = x) := ⟨_, rfl⟩
    obtain ⟨y5, x5⟩ : ∃ x, Hid (cmpI f.args.length g.args.length = x) := ⟨_, rfl⟩
    by_cases z1 : y1 = 0
    · subst z1
      cases hn : (f.name.toList == g.name.toList)
      · cases hl : Op.bytesLess f.name.toList g.name.toList
        · have hH := start_of (head_2 x1.out (cmpN_gt hn hl) (by decide))
          go_enter Tryz.func20, Tryz.ntmps20
          go_wp2_with (first | (go_at_call 60; (with_reducible refine (refints_any f.op g.op _).mono ?_); rintro e w1 ⟨rfl, rfl⟩; rw [x1.out]))
          rw [hW0.out]
          go_loopw [5, 6] (fun cc ii wr => ∃ (k : Nat) (x : Int), k ≤ f.args.length ∧ ii = .int .i64 k ∧ cc = .int .i64 x ∧ Hid (x = 0 → f.args.length = g.args.length) ∧ Hid (cmpF f g = orI x (cmpL (f.args.drop k) (g.args.drop k))) ∧ Below W0.heap.size W0 wr) (fun _ ii _ => f.args.length - (intOf ii).toNat)
          case atStart => exact ⟨0, 1, Nat.zero_le _, rfl, rfl, hidi (fun e => by omega), hH, Below.refl _ _⟩
          case round =>
            obtain ⟨k, x, hk, rfl, rfl, hLn, hD, hB⟩ := hrel
            have hW := hB0.trans (hB.mono hB0.size)
            obtain ⟨d0, d1, d2, d3, d4⟩ := hcf.out.later hB (by omega)
            obtain ⟨c0, c1, c2, c3, c4⟩ := hcg.out.later hB hlt
            rw [Nat.zero_add] at d1 d2 d3 d4 c1 c2 c3 c4
            by_cases hlt2 : k < f.args.length
            · by_cases hx : x = 0
              · subst hx
                have hl := hLn.out rfl
                have hlt3 : k < g.args.length := by omega
                obtain ⟨b, off, rfl, hb, hat⟩ := hAf.at (by omega)
                obtain ⟨sl, hc5, hF⟩ := hat k hlt2
                obtain ⟨b', off', rfl, hb', hat'⟩ := hAg.at (by omega)
                obtain ⟨sl', hc5', hG⟩ := hat' k hlt3
                obtain ⟨e0, e1, e2, e3, e4⟩ := hc5.below hW hb
                obtain ⟨g0, g1, g2, g3, g4⟩ := hc5'.below hW hb'
                have hS := hidi (cmpL_drop hlt2 hlt3)
                have hmem := List.getElem_mem hlt2
                have hl1 := hidi hl
                clear hl
                generalize f.args[k] = p at *
                generalize g.args[k] = q at *
                obtain ⟨y, hy⟩ : ∃ y, Hid (cmpF p q = y) := ⟨_, rfl⟩
                rw [hy.out] at hS
                go_wp2_with fail
                go_still_tail 10, (by kernel_rfl)
                go_wp2_with (go_at_call 20; refine (ih p hmem q w.heap.size _ _ _ (hF.kept hW.drew (Nat.le_refl _)) (hG.kept hW.drew (Nat.le_refl _)) hW.drew.size).mono ?_; rintro e w1 ⟨rfl, hb1⟩; rw [hy.out]; have hB := hB.drew.trans (hb1.mono hB.drew.size); clear hb1)
                go_roundw
                case rel => exact ⟨k + 1, y, by omega, by go_num, rfl, hidi (fun _ => hl1.out), by unfold Hid; rw [hD.out, orI_zero rfl, hS.out], hB⟩
                case measure => simp [intOf]; omega
              · have hx1 : (x == 0) = false := by simpa using hx
                have hR : Hid (cmpF f g = x) := by unfold Hid; rw [hD.out, orI_not hx]
                clear hx
                go_wp2
                go_ret
                exact ⟨ret_int hR.out.symm, hW⟩
            · have hR : Hid (cmpF f g = x) := by
                unfold Hid
                rw [hD.out]
                by_cases hx : x = 0
                · rw [orI_zero hx, cmpL_end (hLn.out hx) (by omega), hx]
                · rw [orI_not hx]
              go_wp2
              go_ret
              exact ⟨ret_int hR.out.symm, hW⟩
        · have hH := start_of (head_2 x1.out (cmpN_lt hn hl) (by decide))
          go_enter Tryz.func20, Tryz.ntmps20
          go_wp2_with (first | (go_at_call 60; (with_reducible refine (refints_any f.op g.op _).mono ?_); rintro e w1 ⟨rfl, rfl⟩; rw [x1.out]))
          rw [hW0.out]
          go_loopw [5, 6] (fun cc ii wr => ∃ (k : Nat) (x : Int), k ≤ f.args.length ∧ ii = .int .i64 k ∧ cc = .int .i64 x ∧ Hid (x = 0 → f.args.length = g.args.length) ∧ Hid (cmpF f g = orI x (cmpL (f.args.drop k) (g.args.drop k))) ∧ Below W0.heap.size W0 wr) (fun _ ii _ => f.args.length - (intOf ii).toNat)
          case atStart => exact ⟨0, -1, Nat.zero_le _, rfl, rfl, hidi (fun e => by omega), hH, Below.refl _ _⟩
          case round =>
            obtain ⟨k, x, hk, rfl, rfl, hLn, hD, hB⟩ := hrel
            have hW := hB0.trans (hB.mono hB0.size)
            obtain ⟨d0, d1, d2, d3, d4⟩ := hcf.out.later hB (by omega)
            obtain ⟨c0, c1, c2, c3, c4⟩ := hcg.out.later hB hlt
            rw [Nat.zero_add] at d1 d2 d3 d4 c1 c2 c3 c4
            by_cases hlt2 : k < f.args.length
            · by_cases hx : x = 0
              · subst hx
                have hl := hLn.out rfl
                have hlt3 : k < g.args.length := by omega
                obtain ⟨b, off, rfl, hb, hat⟩ := hAf.at (by omega)
                obtain ⟨sl, hc5, hF⟩ := hat k hlt2
                obtain ⟨b', off', rfl, hb', hat'⟩ := hAg.at (by omega)
                obtain ⟨sl', hc5', hG⟩ := hat' k hlt3
                obtain ⟨e0, e1, e2, e3, e4⟩ := hc5.below hW hb
                obtain ⟨g0, g1, g2, g3, g4⟩ := hc5'.below hW hb'
                have hS := hidi (cmpL_drop hlt2 hlt3)
                have hmem := List.getElem_mem hlt2
                have hl1 := hidi hl
                clear hl
                generalize f.args[k] = p at *
                generalize g.args[k] = q at *
                obtain ⟨y, hy⟩ : ∃ y, Hid (cmpF p q = y) := ⟨_, rfl⟩
                rw [hy.out] at hS
                go_wp2_with fail
                go_still_tail 10, (by kernel_rfl)
                go_wp2_with (go_at_call 20; refine (ih p hmem q w.heap.size _ _ _ (hF.kept hW.drew (Nat.le_refl _)) (hG.kept hW.drew (Nat.le_refl _)) hW.drew.size).mono ?_; rintro e w1 ⟨rfl, hb1⟩; rw [hy.out]; have hB := hB.drew.trans (hb1.mono hB.drew.size); clear hb1)
                go_roundw
                case rel => exact ⟨k + 1, y, by omega, by go_num, rfl, hidi (fun _ => hl1.out), by unfold Hid; rw [hD.out, orI_zero rfl, hS.out], hB⟩
                case measure => simp [intOf]; omega
              · have hx1 : (x == 0) = false := by simpa using hx
                have hR : Hid (cmpF f g = x) := by unfold Hid; rw [hD.out, orI_not hx]
                clear hx
                go_wp2
                go_ret
                exact ⟨ret_int hR.out.symm, hW⟩
            · have hR : Hid (cmpF f g = x) := by
                unfold Hid
                rw [hD.out]
                by_cases hx : x = 0
                · rw [orI_zero hx, cmpL_end (hLn.out hx) (by omega), hx]
                · rw [orI_not hx]
              go_wp2
              go_ret
              exact ⟨ret_int hR.out.symm, hW⟩
      · have hN := hidi (cmpN_eq hn)
        by_cases z3 : y3 = 0
        · subst z3
          by_cases z4 : y4 = 0
          · subst z4
            have hH := start_of (head_5 x1.out hN.out x3.out x4.out x5)
            go_enter Tryz.func20, Tryz.ntmps20
            go_wp2_with (first | (go_at_call 60; (with_reducible refine (refints_any f.op g.op _).mono ?_); rintro e w1 ⟨rfl, rfl⟩; rw [x1.out]) | (go_at_call 60; (with_reducible refine (refints_any f.val g.val _).mono ?_); rintro e w1 ⟨rfl, rfl⟩; rw [x3.out]) | (go_at_call 60; (with_reducible refine (refints_any f.bound g.bound _).mono ?_); rintro e w1 ⟨rfl, rfl⟩; rw [x4.out]) | (go_at_call 60; (with_reducible refine (refints_any (f.args.length : Int) (g.args.length : Int) _).mono ?_); rintro e w1 ⟨rfl, rfl⟩; rw [x5.out]))
            rw [hW0.out]
            go_loopw [5, 6] (fun cc ii wr => ∃ (k : Nat) (x : Int), k ≤ f.args.length ∧ ii = .int .i64 k ∧ cc = .int .i64 x ∧ Hid (x = 0 → f.args.length = g.args.length) ∧ Hid (cmpF f g = orI x (cmpL (f.args.drop k) (g.args.drop k))) ∧ Below W0.heap.size W0 wr) (fun _ ii _ => f.args.length - (intOf ii).toNat)
            case atStart => exact ⟨0, y5, Nat.zero_le _, rfl, rfl, hidi (fun e => by have := (cmpI_zero _ _).1 (x5.out.trans e); omega), hH, Below.refl _ _⟩
            case round =>
              obtain ⟨k, x, hk, rfl, rfl, hLn, hD, hB⟩ := hrel
              have hW := hB0.trans (hB.mono hB0.size)
              obtain ⟨d0, d1, d2, d3, d4⟩ := hcf.out.later hB (by omega)
              obtain ⟨c0, c1, c2, c3, c4⟩ := hcg.out.later hB hlt
              rw [Nat.zero_add] at d1 d2 d3 d4 c1 c2 c3 c4
              by_cases hlt2 : k < f.args.length
              · by_cases hx : x = 0
                · subst hx
                  have hl := hLn.out rfl
                  have hlt3 : k < g.args.length := by omega
                  obtain ⟨b, off, rfl, hb, hat⟩ := hAf.at (by omega)
                  obtain ⟨sl, hc5, hF⟩ := hat k hlt2
                  obtain ⟨b', off', rfl, hb', hat'⟩ := hAg.at (by omega)
                  obtain ⟨sl', hc5', hG⟩ := hat' k hlt3
                  obtain ⟨e0, e1, e2, e3, e4⟩ := hc5.below hW hb
                  obtain ⟨g0, g1, g2, g3, g4⟩ := hc5'.below hW hb'
                  have hS := hidi (cmpL_drop hlt2 hlt3)
                  have hmem := List.getElem_mem hlt2
                  have hl1 := hidi hl
                  clear hl
                  generalize f.args[k] = p at *
                  generalize g.args[k] = q at *
                  obtain ⟨y, hy⟩ : ∃ y, Hid (cmpF p q = y) := ⟨_, rfl⟩
                  rw [hy.out] at hS
                  go_wp2_with fail
                  go_still_tail 10, (by kernel_rfl)
                  go_wp2_with (go_at_call 20; refine (ih p hmem q w.heap.size _ _ _ (hF.kept hW.drew (Nat.le_refl _)) (hG.kept hW.drew (Nat.le_refl _)) hW.drew.size).mono ?_; rintro e w1 ⟨rfl, hb1⟩; rw [hy.out]; have hB := hB.drew.trans (hb1.mono hB.drew.size); clear hb1)
                  go_roundw
                  case rel => exact ⟨k + 1, y, by omega, by go_num, rfl, hidi (fun _ => hl1.out), by unfold Hid; rw [hD.out, orI_zero rfl, hS.out], hB⟩
                  case measure => simp [intOf]; omega
                · have hx1 : (x == 0) = false := by simpa using hx
                  have hR : Hid (cmpF f g = x) := by unfold Hid; rw [hD.out, orI_not hx]
                  clear hx
                  go_wp2
                  go_ret
                  exact ⟨ret_int hR.out.symm, hW⟩
              · have hR : Hid (cmpF f g = x) := by
                  unfold Hid
                  rw [hD.out]
                  by_cases hx : x = 0
                  · rw [orI_zero hx, cmpL_end (hLn.out hx) (by omega), hx]
                  · rw [orI_not hx]
                go_wp2
                go_ret
                exact ⟨ret_int hR.out.symm, hW⟩
          · have hz : (y4 == 0) = false := by simpa using z4
            have hH := start_of (head_4 x1.out hN.out x3.out x4 z4)
            have hz4 := hidi z4
            clear z4
            go_enter Tryz.func20, Tryz.ntmps20
            go_wp2_with (first | (go_at_call 60; (with_reducible refine (refints_any f.op g.op _).mono ?_); rintro e w1 ⟨rfl, rfl⟩; rw [x1.out]) | (go_at_call 60; (with_reducible refine (refints_any f.val g.val _).mono ?_); rintro e w1 ⟨rfl, rfl⟩; rw [x3.out]) | (go_at_call 60; (with_reducible refine (refints_any f.bound g.bound _).mono ?_); rintro e w1 ⟨rfl, rfl⟩; rw [x4.out]))
            rw [hW0.out]
            go_loopw [5, 6] (fun cc ii wr => ∃ (k : Nat) (x : Int), k ≤ f.args.length ∧ ii = .int .i64 k ∧ cc = .int .i64 x ∧ Hid (x = 0 → f.args.length = g.args.length) ∧ Hid (cmpF f g = orI x (cmpL (f.args.drop k) (g.args.drop k))) ∧ Below W0.heap.size W0 wr) (fun _ ii _ => f.args.length - (intOf ii).toNat)
            case atStart => exact ⟨0, y4, Nat.zero_le _, rfl, rfl, hidi (fun e => absurd e hz4.out), hH, Below.refl _ _⟩
            case round =>
              obtain ⟨k, x, hk, rfl, rfl, hLn, hD, hB⟩ := hrel
              have hW := hB0.trans (hB.mono hB0.size)
              obtain ⟨d0, d1, d2, d3, d4⟩ := hcf.out.later hB (by omega)
              obtain ⟨c0, c1, c2, c3, c4⟩ := hcg.out.later hB hlt
              rw [Nat.zero_add] at d1 d2 d3 d4 c1 c2 c3 c4
              by_cases hlt2 : k < f.args.length
              · by_cases hx : x = 0
                · subst hx
                  have hl := hLn.out rfl
                  have hlt3 : k < g.args.length := by omega
                  obtain ⟨b, off, rfl, hb, hat⟩ := hAf.at (by omega)
                  obtain ⟨sl, hc5, hF⟩ := hat k hlt2
                  obtain ⟨b', off', rfl, hb', hat'⟩ := hAg.at (by omega)
                  obtain ⟨sl', hc5', hG⟩ := hat' k hlt3
                  obtain ⟨e0, e1, e2, e3, e4⟩ := hc5.below hW hb
                  obtain ⟨g0, g1, g2, g3, g4⟩ := hc5'.below hW hb'
                  have hS := hidi (cmpL_drop hlt2 hlt3)
                  have hmem := List.getElem_mem hlt2
                  have hl1 := hidi hl
                  clear hl
                  generalize f.args[k] = p at *
                  generalize g.args[k] = q at *
                  obtain ⟨y, hy⟩ : ∃ y, Hid (cmpF p q = y) := ⟨_, rfl⟩
                  rw [hy.out] at hS
                  go_wp2_with fail
                  go_still_tail 10, (by kernel_rfl)
                  go_wp2_with (go_at_call 20; refine (ih p hmem q w.heap.size _ _ _ (hF.kept hW.drew (Nat.le_refl _)) (hG.kept hW.drew (Nat.le_refl _)) hW.drew.size).mono ?_; rintro e w1 ⟨rfl, hb1⟩; rw [hy.out]; have hB := hB.drew.trans (hb1.mono hB.drew.size); clear hb1)
                  go_roundw
                  case rel => exact ⟨k + 1, y, by omega, by go_num, rfl, hidi (fun _ => hl1.out), by unfold Hid; rw [hD.out, orI_zero rfl, hS.out], hB⟩
                  case measure => simp [intOf]; omega
                · have hx1 : (x == 0) = false := by simpa using hx
                  have hR : Hid (cmpF f g = x) := by unfold Hid; rw [hD.out, orI_not hx]
                  clear hx
                  go_wp2
                  go_ret
                  exact ⟨ret_int hR.out.symm, hW⟩
              · have hR : Hid (cmpF f g = x) := by
                  unfold Hid
                  rw [hD.out]
                  by_cases hx : x = 0
                  · rw [orI_zero hx, cmpL_end (hLn.out hx) (by omega), hx]
                  · rw [orI_not hx]
                go_wp2
                go_ret
                exact ⟨ret_int hR.out.symm, hW⟩
        · have hz : (y3 == 0) = false := by simpa using z3
          have hH := start_of (head_3 x1.out hN.out x3 z3)
          have hz3 := hidi z3
          clear z3
          go_enter Tryz.func20, Tryz.ntmps20
          go_wp2_with (first | (go_at_call 60; (with_reducible refine (refints_any f.op g.op _).mono ?_); rintro e w1 ⟨rfl, rfl⟩; rw [x1.out]) | (go_at_call 60; (with_reducible refine (refints_any f.val g.val _).mono ?_); rintro e w1 ⟨rfl, rfl⟩; rw [x3.out]))
          rw [hW0.out]
          go_loopw [5, 6] (fun cc ii wr => ∃ (k : Nat) (x : Int), k ≤ f.args.length ∧ ii = .int .i64 k ∧ cc = .int .i64 x ∧ Hid (x = 0 → f.args.length = g.args.length) ∧ Hid (cmpF f g = orI x (cmpL (f.args.drop k) (g.args.drop k))) ∧ Below W0.heap.size W0 wr) (fun _ ii _ => f.args.length - (intOf ii).toNat)
          case atStart => exact ⟨0, y3, Nat.zero_le _, rfl, rfl, hidi (fun e => absurd e hz3.out), hH, Below.refl _ _⟩
          case round =>
            obtain ⟨k, x, hk, rfl, rfl, hLn, hD, hB⟩ := hrel
            have hW := hB0.trans (hB.mono hB0.size)
            obtain ⟨d0, d1, d2, d3, d4⟩ := hcf.out.later hB (by omega)
            obtain ⟨c0, c1, c2, c3, c4⟩ := hcg.out.later hB hlt
            rw [Nat.zero_add] at d1 d2 d3 d4 c1 c2 c3 c4
            by_cases hlt2 : k < f.args.length
            · by_cases hx : x = 0
              · subst hx
                have hl := hLn.out rfl
                have hlt3 : k < g.args.length := by omega
                obtain ⟨b, off, rfl, hb, hat⟩ := hAf.at (by omega)
                obtain ⟨sl, hc5, hF⟩ := hat k hlt2
                obtain ⟨b', off', rfl, hb', hat'⟩ := hAg.at (by omega)
                obtain ⟨sl', hc5', hG⟩ := hat' k hlt3
                obtain ⟨e0, e1, e2, e3, e4⟩ := hc5.below hW hb
                obtain ⟨g0, g1, g2, g3, g4⟩ := hc5'.below hW hb'
                have hS := hidi (cmpL_drop hlt2 hlt3)
                have hmem := List.getElem_mem hlt2
                have hl1 := hidi hl
                clear hl
                generalize f.args[k] = p at *
                generalize g.args[k] = q at *
                obtain ⟨y, hy⟩ : ∃ y, Hid (cmpF p q = y) := ⟨_, rfl⟩
                rw [hy.out] at hS
                go_wp2_with fail
                go_still_tail 10, (by kernel_rfl)
                go_wp2_with (go_at_call 20; refine (ih p hmem q w.heap.size _ _ _ (hF.kept hW.drew (Nat.le_refl _)) (hG.kept hW.drew (Nat.le_refl _)) hW.drew.size).mono ?_; rintro e w1 ⟨rfl, hb1⟩; rw [hy.out]; have hB := hB.drew.trans (hb1.mono hB.drew.size); clear hb1)
                go_roundw
                case rel => exact ⟨k + 1, y, by omega, by go_num, rfl, hidi (fun _ => hl1.out), by unfold Hid; rw [hD.out, orI_zero rfl, hS.out], hB⟩
                case measure => simp [intOf]; omega
              · have hx1 : (x == 0) = false := by simpa using hx
                have hR : Hid (cmpF f g = x) := by unfold Hid; rw [hD.out, orI_not hx]
                clear hx
                go_wp2
                go_ret
                exact ⟨ret_int hR.out.symm, hW⟩
            · have hR : Hid (cmpF f g = x) := by
                unfold Hid
                rw [hD.out]
                by_cases hx : x = 0
                · rw [orI_zero hx, cmpL_end (hLn.out hx) (by omega), hx]
                · rw [orI_not hx]
              go_wp2
              go_ret
              exact ⟨ret_int hR.out.symm, hW⟩
    · have hz : (y1 == 0) = false := by simpa using z1
      have hH := start_of (head_1 x1 z1)
      have hz1 := hidi z1
      clear z1
      go_enter Tryz.func20, Tryz.ntmps20
      go_wp2_with (first | (go_at_call 60; (with_reducible refine (refints_any f.op g.op _).mono ?_); rintro e w1 ⟨rfl, rfl⟩; rw [x1.out]))
      rw [hW0.out]
      go_loopw [5, 6] (fun cc ii wr => ∃ (k : Nat) (x : Int), k ≤ f.args.length ∧ ii = .int .i64 k ∧ cc = .int .i64 x ∧ Hid (x = 0 → f.args.length = g.args.length) ∧ Hid (cmpF f g = orI x (cmpL (f.args.drop k) (g.args.drop k))) ∧ Below W0.heap.size W0 wr) (fun _ ii _ => f.args.length - (intOf ii).toNat)
      case atStart => exact ⟨0, y1, Nat.zero_le _, rfl, rfl, hidi (fun e => absurd e hz1.out), hH, Below.refl _ _⟩
      case round =>
        obtain ⟨k, x, hk, rfl, rfl, hLn, hD, hB⟩ := hrel
        have hW := hB0.trans (hB.mono hB0.size)
        obtain ⟨d0, d1, d2, d3, d4⟩ := hcf.out.later hB (by omega)
        obtain ⟨c0, c1, c2, c3, c4⟩ := hcg.out.later hB hlt
        rw [Nat.zero_add] at d1 d2 d3 d4 c1 c2 c3 c4
        by_cases hlt2 : k < f.args.length
        · by_cases hx : x = 0
          · subst hx
            have hl := hLn.out rfl
            have hlt3 : k < g.args.length := by omega
            obtain ⟨b, off, rfl, hb, hat⟩ := hAf.at (by omega)
            obtain ⟨sl, hc5, hF⟩ := hat k hlt2
            obtain ⟨b', off', rfl, hb', hat'⟩ := hAg.at (by omega)
            obtain ⟨sl', hc5', hG⟩ := hat' k hlt3
            obtain ⟨e0, e1, e2, e3, e4⟩ := hc5.below hW hb
            obtain ⟨g0, g1, g2, g3, g4⟩ := hc5'.below hW hb'
            have hS := hidi (cmpL_drop hlt2 hlt3)
            have hmem := List.getElem_mem hlt2
            have hl1 := hidi hl
            clear hl
            generalize f.args[k] = p at *
            generalize g.args[k] = q at *
            obtain ⟨y, hy⟩ : ∃ y, Hid (cmpF p q = y) := ⟨_, rfl⟩
            rw [hy.out] at hS
            go_wp2_with fail
            go_still_tail 10, (by kernel_rfl)
            go_wp2_with (go_at_call 20; refine (ih p hmem q w.heap.size _ _ _ (hF.kept hW.drew (Nat.le_refl _)) (hG.kept hW.drew (Nat.le_refl _)) hW.drew.size).mono ?_; rintro e w1 ⟨rfl, hb1⟩; rw [hy.out]; have hB := hB.drew.trans (hb1.mono hB.drew.size); clear hb1)
            go_roundw
            case rel => exact ⟨k + 1, y, by omega, by go_num, rfl, hidi (fun _ => hl1.out), by unfold Hid; rw [hD.out, orI_zero rfl, hS.out], hB⟩
            case measure => simp [intOf]; omega
          · have hx1 : (x == 0) = false := by simpa using hx
            have hR : Hid (cmpF f g = x) := by unfold Hid; rw [hD.out, orI_not hx]
            clear hx
            go_wp2
            go_ret
            exact ⟨ret_int hR.out.symm, hW⟩
        · have hR : Hid (cmpF f g = x) := by
            unfold Hid
            rw [hD.out]
            by_cases hx : x = 0
            · rw [orI_zero hx, cmpL_end (hLn.out hx) (by omega), hx]
            · rw [orI_not hx]
          go_wp2
          go_ret
          exact ⟨ret_int hR.out.symm, hW⟩

set_option maxRecDepth 100000 in
set_option maxHeartbeats 1000000 in
theorem refsame_any (f g : Fm) (B : Nat) (u v : Value) (w : World) (hu : FAt B w u f) (hv : FAt B w v g) (hBw : B ≤ w.heap.size) :
    Calls Tryz.prog 32 #[u, v] w fun e w' => e = .returned (.bool (sameF f g)) ∧ Below w.heap.size w w' := by
  have hu' := hu.mono hBw
  have hv' := hv.mono hBw
  obtain ⟨o, c, rfl, -, -⟩ := hu.open
  obtain ⟨o', c', rfl, -, -⟩ := hv.open
  obtain ⟨W0, hW0, hB0, hcf, hcg, hlt⟩ := fm2_open w (.int .i64 f.op) (.string f.name) (.int .i64 f.val) (.int .i64 f.bound) (.slice o f.args.length c) (.int .i64 g.op) (.string g.name) (.int .i64 g.val) (.int .i64 g.bound) (.slice o' g.args.length c')
  obtain ⟨d0, d1, d2, d3, d4⟩ := hcf.out
  obtain ⟨c0, c1, c2, c3, c4⟩ := hcg.out
  rw [Nat.zero_add] at d1 d2 d3 d4 c1 c2 c3 c4
  obtain ⟨x, hx⟩ : ∃ x, Hid (cmpF f g = x) := ⟨_, rfl⟩
  have hE : Hid (sameF f g = (x == 0)) := by unfold Hid sameF; rw [hx.out]
  cases h0 : (x == 0)
  all_goals go_enter Tryz.func32, Tryz.ntmps32
  all_goals go_wp2_with fail
  all_goals rw [hW0.out]
  all_goals go_wp2_with (go_at_call 20; refine (refcompare_any f g w.heap.size _ _ _ (hu'.kept hB0 (Nat.le_refl _)) (hv'.kept hB0 (Nat.le_refl _)) hB0.size).mono ?_; rintro e w1 ⟨rfl, hb1⟩; rw [hx.out]; have hB := hB0.trans (hb1.mono hB0.size); clear hb1)
  all_goals go_ret
  · exact ⟨ret_bool (by rw [hE.out, h0]), hB⟩
  · exact ⟨ret_bool (by rw [hE.out, h0]), hB⟩

end Go.Proofs.YtbnnjbfbifihaaaGreatDoor

/-
  Contracts of the formula reference's builders: Op, One, Two, True, False, Is, Late.
-/
namespace Go.Proofs.YtbnnjbfbifihaaaGreatDoor
open Go.RowKit

theorem fmSize : (Tryz.prog.info? 24).map (·.size) = some 5 := by kernel_rfl

theorem FAtP.mk {P : Nat → Prop} {w : World} {op val bound : Int} {name : ByteArray} {sl : Value} {l : List Fm} (h1 : I64 op) (h2 : name.size ≤ 9223372036854775807) (h3 : I64 val) (h4 : I64 bound) (h : FArgsP P w sl l) :
    FAtP P w (.agg #[.int .i64 op, .string name, .int .i64 val, .int .i64 bound, sl]) (.mk op name val bound l) := ⟨sl, rfl, ⟨h1, h2, h3, h4⟩, h⟩
theorem i64_0 : I64 0 := ⟨by decide, by decide⟩
theorem i64_of {z : Int} (h1 : -1000 ≤ z) (h2 : z ≤ 1000) : I64 z := ⟨by omega, by omega⟩
theorem size_0 : (⟨#[]⟩ : ByteArray).size ≤ 9223372036854775807 := by decide

/-- what lies in P's blocks as it lay reads as it read -/
theorem FArgsP.same {P : Nat → Prop} {w w' : World} {v : Value} {l : List Fm} (h : FArgsP P w v l) (hs : ∀ b, P b → w'.heap[b]? = w.heap[b]?) : FArgsP P w' v l := by
  induction h with
  | nil o c => exact .nil o c
  | cons b off cap l sl h0 hbb hl hc hf hk hr ih =>
    refine .cons b off cap l sl h0 hbb hl hc hf (fun k h => ?_) ih
    obtain ⟨h1, h2, h3, h4, h5⟩ := hk k h
    exact ⟨(World.cell?_of_block (hs b hbb)).trans h1, (World.cell?_of_block (hs b hbb)).trans h2, (World.cell?_of_block (hs b hbb)).trans h3, (World.cell?_of_block (hs b hbb)).trans h4, (World.cell?_of_block (hs b hbb)).trans h5⟩
theorem FAtP.same {P : Nat → Prop} {w w' : World} {v : Value} {f : Fm} (h : FAtP P w v f) (hs : ∀ b, P b → w'.heap[b]? = w.heap[b]?) : FAtP P w' v f := by
  obtain ⟨sl, e, h1, h2⟩ := h
  exact ⟨sl, e, h1, h2.same hs⟩

/-- the block of a formula that is handed back, whatever it holds -/
def Res5 (w : World) (R : Nat) : Prop := ∃ a1 a2 a3 a4 a5, w.heap[R]? = some (.cells #[a1, a2, a3, a4, a5] 24 (0, 0))
theorem Res5.below {w w' : World} {R : Nat} (h : Res5 w R) (hB : Below w.heap.size w w') : Res5 w' R := by
  obtain ⟨a1, a2, a3, a4, a5, h⟩ := h
  exact ⟨a1, a2, a3, a4, a5, (hB.block R (Array.getElem?_eq_some_iff.1 h).1).trans h⟩
theorem Res5.lt {w : World} {R : Nat} (h : Res5 w R) : R < w.heap.size := by
  obtain ⟨a1, a2, a3, a4, a5, h⟩ := h
  exact (Array.getElem?_eq_some_iff.1 h).1
theorem Res5.cells {w : World} {R : Nat} (h : Res5 w R) : ∃ a1 a2 a3 a4 a5, (w.cell? ⟨R, 0, none⟩ = some a1 ∧ w.cell? ⟨R, 1, none⟩ = some a2 ∧ w.cell? ⟨R, 2, none⟩ = some a3 ∧ w.cell? ⟨R, 3, none⟩ = some a4 ∧ w.cell? ⟨R, 4, none⟩ = some a5) ∧
    w.frozen? ⟨R, 0, none⟩ = false ∧ w.frozen? ⟨R, 1, none⟩ = false ∧ w.frozen? ⟨R, 2, none⟩ = false ∧ w.frozen? ⟨R, 3, none⟩ = false ∧ w.frozen? ⟨R, 4, none⟩ = false := by
  obtain ⟨a1, a2, a3, a4, a5, h⟩ := h
  exact ⟨a1, a2, a3, a4, a5, ⟨cell_of_row w R 0 _ _ _ h, cell_of_row w R 1 _ _ _ h, cell_of_row w R 2 _ _ _ h, cell_of_row w R 3 _ _ _ h, cell_of_row w R 4 _ _ _ h⟩, by simp [World.frozen?, h], by simp [World.frozen?, h], by simp [World.frozen?, h], by simp [World.frozen?, h], by simp [World.frozen?, h]⟩
theorem Res5.set {w : World} {R : Nat} (h : Res5 w R) (u1 u2 u3 u4 u5 : Value) :
    (((((w.setCell ⟨R, 0, none⟩ u1).setCell ⟨R, 1, none⟩ u2).setCell ⟨R, 2, none⟩ u3).setCell ⟨R, 3, none⟩ u4).setCell ⟨R, 4, none⟩ u5).heap[R]? = some (.cells #[u1, u2, u3, u4, u5] 24 (0, 0)) := by
  obtain ⟨a1, a2, a3, a4, a5, h⟩ := h
  simp only [World.setCell, Array.getElem?_modify]
  simp [h]
theorem set5_other (w : World) (R b : Nat) (h : b ≠ R) (u1 u2 u3 u4 u5 : Value) :
    (((((w.setCell ⟨R, 0, none⟩ u1).setCell ⟨R, 1, none⟩ u2).setCell ⟨R, 2, none⟩ u3).setCell ⟨R, 3, none⟩ u4).setCell ⟨R, 4, none⟩ u5).heap[b]? = w.heap[b]? := by
  rw [Below.heap_setCell _ _ _ _ h, Below.heap_setCell _ _ _ _ h, Below.heap_setCell _ _ _ _ h, Below.heap_setCell _ _ _ _ h, Below.heap_setCell _ _ _ _ h]
theorem set5_size (w : World) (R : Nat) (u1 u2 u3 u4 u5 : Value) :
    (((((w.setCell ⟨R, 0, none⟩ u1).setCell ⟨R, 1, none⟩ u2).setCell ⟨R, 2, none⟩ u3).setCell ⟨R, 3, none⟩ u4).setCell ⟨R, 4, none⟩ u5).heap.size = w.heap.size := by
  simp only [World.setCell, Array.size_modify]
theorem set5_below {w wr : World} {W R : Nat} (h : Below W w wr) (hR : W ≤ R) (u1 u2 u3 u4 u5 : Value) :
    Below W w (((((wr.setCell ⟨R, 0, none⟩ u1).setCell ⟨R, 1, none⟩ u2).setCell ⟨R, 2, none⟩ u3).setCell ⟨R, 3, none⟩ u4).setCell ⟨R, 4, none⟩ u5) :=
  ((((h.setCell (p := ⟨R, 0, none⟩) hR _).setCell (p := ⟨R, 1, none⟩) hR _).setCell (p := ⟨R, 2, none⟩) hR _).setCell (p := ⟨R, 3, none⟩) hR _).setCell (p := ⟨R, 4, none⟩) hR _

/-- a formula is written into a result's block: what was made reads as it read -/
theorem fm_put {P Q : Nat → Prop} {w wr : World} {R : Nat} (hR : w.heap.size ≤ R) (hAB : Below w.heap.size w wr) {v : Value} {f : Fm} (h : FAtP Q wr v f) (hQ : ∀ b, Q b → b ≠ R) (hN : ∀ b, Q b → NewP P w wr b) (u1 u2 u3 u4 u5 : Value) :
    FAtP (NewP P w (((((wr.setCell ⟨R, 0, none⟩ u1).setCell ⟨R, 1, none⟩ u2).setCell ⟨R, 2, none⟩ u3).setCell ⟨R, 3, none⟩ u4).setCell ⟨R, 4, none⟩ u5)) (((((wr.setCell ⟨R, 0, none⟩ u1).setCell ⟨R, 1, none⟩ u2).setCell ⟨R, 2, none⟩ u3).setCell ⟨R, 3, none⟩ u4).setCell ⟨R, 4, none⟩ u5) v f ∧
      Below w.heap.size w (((((wr.setCell ⟨R, 0, none⟩ u1).setCell ⟨R, 1, none⟩ u2).setCell ⟨R, 2, none⟩ u3).setCell ⟨R, 3, none⟩ u4).setCell ⟨R, 4, none⟩ u5) := by
  refine ⟨(h.same fun b hb => set5_other wr R b (hQ b hb) _ _ _ _ _).mono fun b hb => ?_, set5_below hAB hR _ _ _ _ _⟩
  unfold NewP
  rw [set5_size]
  exact hN b hb

theorem res5_new (w : World) : Res5 (w.alloc (.cells #[.int .i64 0, .string ⟨#[]⟩, .int .i64 0, .int .i64 0, .slice none 0 0] 24)) w.heap.size := ⟨_, _, _, _, _, heap_alloc_new w _⟩

theorem args_one {P : Nat → Prop} {w : World} {b : Nat} {f : Fm} {sl : Value} (hb : P b) (h : w.heap[b]? = some (.cells #[.int .i64 f.op, .string f.name, .int .i64 f.val, .int .i64 f.bound, sl] 24 (0, 0))) (hf : Fits f) (ha : FArgsP P w sl f.args) :
    FArgsP P w (.slice (some ⟨b, 0, none⟩) 1 1) [f] := by
  refine FArgsP.cons b 0 1 [f] (fun _ => sl) (by simp) hb (by simp) (by decide) (fun k hk => ?_) (fun k hk => ?_) (fun k hk => ?_)
  all_goals obtain rfl : k = 0 := by simpa using hk
  · exact hf
  · exact ⟨cell_of_row w b 0 _ _ _ h, cell_of_row w b 1 _ _ _ h, cell_of_row w b 2 _ _ _ h, cell_of_row w b 3 _ _ _ h, cell_of_row w b 4 _ _ _ h⟩
  · exact ha
theorem args_two {P : Nat → Prop} {w : World} {b : Nat} {f g : Fm} {sl sl' : Value} (hb : P b) (h : w.heap[b]? = some (.cells #[.int .i64 f.op, .string f.name, .int .i64 f.val, .int .i64 f.bound, sl, .int .i64 g.op, .string g.name, .int .i64 g.val, .int .i64 g.bound, sl'] 24 (0, 0)))
    (hf : Fits f) (hg : Fits g) (ha : FArgsP P w sl f.args) (hga : FArgsP P w sl' g.args) : FArgsP P w (.slice (some ⟨b, 0, none⟩) 2 2) [f, g] := by
  refine FArgsP.cons b 0 2 [f, g] (fun k => if k = 0 then sl else sl') (by simp) hb (by simp) (by decide) (fun k hk => ?_) (fun k hk => ?_) (fun k hk => ?_)
  all_goals (have h2 : k = 0 ∨ k = 1 := by simp at hk; omega)
  all_goals rcases h2 with rfl | rfl
  · exact hf
  · exact hg
  · exact ⟨cell_of_row w b 0 _ _ _ h, cell_of_row w b 1 _ _ _ h, cell_of_row w b 2 _ _ _ h, cell_of_row w b 3 _ _ _ h, cell_of_row w b 4 _ _ _ h⟩
  · exact ⟨cell_of_row w b 5 _ _ _ h, cell_of_row w b 6 _ _ _ h, cell_of_row w b 7 _ _ _ h, cell_of_row w b 8 _ _ _ h, cell_of_row w b 9 _ _ _ h⟩
  · exact ha
  · exact hga

set_option maxHeartbeats 1000000 in
theorem refop_any (P : Nat → Prop) (op : Int) (v : Value) (l : List Fm) (w : World) (hv : FArgsP P w v l) (hP : ∀ b, P b → b < w.heap.size) (ho : I64 op) :
    Calls Tryz.prog 76 #[.int .i64 op, v] w fun e w' => ∃ r, e = .returned r ∧ FAtP (NewP P w w') w' r (.mk op ⟨#[]⟩ 0 0 l) ∧ Below w.heap.size w w' := by
  obtain ⟨o, c, rfl⟩ := hv.shape
  go_enter Tryz.func76, Tryz.ntmps76
  go_wp2
  refine bodyPost_ret (results_cell_row rfl _ _ (w.heap.size) 24 _ (0, 0) _ rfl (heap_alloc_new w _) Tryz.underlying24 rfl fmSize) rfl ?_
  exact ⟨_, rfl, .mk ho size_0 i64_0 i64_0 ((hv.kept (below_box _ _) hP).mono fun _ h => .inl h), below_box _ _⟩

set_option maxHeartbeats 1000000 in
theorem reflate_any (P : Nat → Prop) (op val : Int) (v : Value) (l : List Fm) (w : World) (hv : FArgsP P w v l) (hP : ∀ b, P b → b < w.heap.size) (ho : I64 op) (hval : I64 val) :
    Calls Tryz.prog 46 #[.int .i64 op, .int .i64 val, v] w fun e w' => ∃ r, e = .returned r ∧ FAtP (NewP P w w') w' r (.mk op ⟨#[]⟩ val 0 l) ∧ Below w.heap.size w w' := by
  obtain ⟨o, c, rfl⟩ := hv.shape
  go_enter Tryz.func46, Tryz.ntmps46
  go_wp2
  refine bodyPost_ret (results_cell_row rfl _ _ (w.heap.size) 24 _ (0, 0) _ rfl (heap_alloc_new w _) Tryz.underlying24 rfl fmSize) rfl ?_
  exact ⟨_, rfl, .mk ho size_0 hval i64_0 ((hv.kept (below_box _ _) hP).mono fun _ h => .inl h), below_box _ _⟩

/-- the formulas true and false -/
def fTrue : Fm := .mk 1 ⟨#[]⟩ 0 0 []
def fFalse : Fm := .mk 2 ⟨#[]⟩ 0 0 []

set_option maxHeartbeats 1000000 in
theorem reftrue_any (P : Nat → Prop)  (w : World)  :
    Calls Tryz.prog 45 #[] w fun e w' => ∃ r, e = .returned r ∧ FAtP (NewP P w w') w' r (fTrue) ∧ Below w.heap.size w w' := by
  go_enter Tryz.func45, Tryz.ntmps45
  go_wp2
  refine bodyPost_ret (results_cell_row rfl _ _ (w.heap.size) 24 _ (0, 0) _ rfl (heap_alloc_new w _) Tryz.underlying24 rfl fmSize) rfl ?_
  exact ⟨_, rfl, .mk (i64_of (by decide) (by decide)) size_0 i64_0 i64_0 (.nil _ _), below_box _ _⟩

set_option maxHeartbeats 1000000 in
theorem reffalse_any (P : Nat → Prop)  (w : World)  :
    Calls Tryz.prog 49 #[] w fun e w' => ∃ r, e = .returned r ∧ FAtP (NewP P w w') w' r (fFalse) ∧ Below w.heap.size w w' := by
  go_enter Tryz.func49, Tryz.ntmps49
  go_wp2
  refine bodyPost_ret (results_cell_row rfl _ _ (w.heap.size) 24 _ (0, 0) _ rfl (heap_alloc_new w _) Tryz.underlying24 rfl fmSize) rfl ?_
  exact ⟨_, rfl, .mk (i64_of (by decide) (by decide)) size_0 i64_0 i64_0 (.nil _ _), below_box _ _⟩

set_option maxHeartbeats 1000000 in
theorem refis_any (P : Nat → Prop) (s : ByteArray) (val : Int) (w : World) (hs : s.size ≤ 9223372036854775807) (hval : I64 val) :
    Calls Tryz.prog 50 #[.string s, .int .i64 val] w fun e w' => ∃ r, e = .returned r ∧ FAtP (NewP P w w') w' r (.mk 3 s val 0 []) ∧ Below w.heap.size w w' := by
  go_enter Tryz.func50, Tryz.ntmps50
  go_wp2
  refine bodyPost_ret (results_cell_row rfl _ _ (w.heap.size) 24 _ (0, 0) _ rfl (heap_alloc_new w _) Tryz.underlying24 rfl fmSize) rfl ?_
  exact ⟨_, rfl, .mk (i64_of (by decide) (by decide)) hs hval i64_0 (.nil _ _), below_box _ _⟩

theorem one_open (w : World) (a z x : Obj) : ∃ W0, Hid (((w.alloc a).alloc z).alloc x = W0) ∧ Below w.heap.size w W0 ∧ W0.heap.size = w.heap.size + 3 ∧ Hid (W0.heap[w.heap.size + 1]? = some z) ∧ Hid (W0.heap[w.heap.size + 1 + 1]? = some x) := by
  have q1 : (w.alloc a).heap.size = w.heap.size + 1 := by simp
  have q2 : ((w.alloc a).alloc z).heap.size = w.heap.size + 1 + 1 := by simp
  have h2 := heap_alloc_new (w.alloc a) z
  have h3 := heap_alloc_new ((w.alloc a).alloc z) x
  rw [q1] at h2
  rw [q2] at h3
  have hB := below_box ((w.alloc a).alloc z) x
  refine ⟨_, rfl, ((below_box w a).trans ((below_box (w.alloc a) z).mono (by simp))).trans (hB.mono (by simp; omega)), by simp, ?_, h3⟩
  exact (hB.block _ (by rw [q2]; omega)).trans h2

theorem two_open (w : World) (a b z x : Obj) : ∃ W0, Hid ((((w.alloc a).alloc b).alloc z).alloc x = W0) ∧ Below w.heap.size w W0 ∧ W0.heap.size = w.heap.size + 4 ∧ Hid (W0.heap[w.heap.size + 1 + 1]? = some z) ∧ Hid (W0.heap[w.heap.size + 1 + 1 + 1]? = some x) := by
  obtain ⟨W0, h0, hB, hs, hz, hx⟩ := one_open (w.alloc a) b z x
  have q1 : (w.alloc a).heap.size = w.heap.size + 1 := by simp
  rw [q1] at hs hz hx
  exact ⟨W0, h0, (below_box w a).trans (hB.mono (by simp)), by omega, hz, hx⟩

set_option maxRecDepth 100000 in
set_option maxHeartbeats 2000000 in
theorem refone_any (P : Nat → Prop) (op : Int) (v : Value) (f : Fm) (w : World) (hv : FAtP P w v f) (hP : ∀ b, P b → b < w.heap.size) (ho : I64 op) :
    Calls Tryz.prog 42 #[.int .i64 op, v] w fun e w' => ∃ r, e = .returned r ∧ FAtP (NewP P w w') w' r (.mk op ⟨#[]⟩ 0 0 [f]) ∧ Below w.heap.size w w' := by
  obtain ⟨o, c, rfl, hfit, hA⟩ := hv.open
  obtain ⟨W0, hW0, hB0, hs, hz, hx⟩ := one_open w (.cells #[.int .i64 f.op, .string f.name, .int .i64 f.val, .int .i64 f.bound, .slice o f.args.length c] 24) (.cells #[.int .i64 0, .string ⟨#[]⟩, .int .i64 0, .int .i64 0, .slice none 0 0] 24) (.cells #[.int .i64 f.op, .string f.name, .int .i64 f.val, .int .i64 f.bound, .slice o f.args.length c] 24)
  have hres : Hid (Res5 W0 (w.heap.size + 1)) := ⟨_, _, _, _, _, hz.out⟩
  have hargs : FArgsP (fun b => P b ∨ b = w.heap.size + 1 + 1) W0 (.slice (some ⟨w.heap.size + 1 + 1, 0, none⟩) 1 1) [f] :=
    args_one (.inr rfl) hx.out hfit ((hA.kept hB0 hP).mono fun _ h => .inl h)
  have hP2 : ∀ b, (P b ∨ b = w.heap.size + 1 + 1) → b < W0.heap.size := by rintro b (h | rfl); · have := hP b h; omega
                                                                           · omega
  have hPR : ∀ b, P b → b ≠ w.heap.size + 1 := fun b h => by have := hP b h; omega
  go_enter Tryz.func42, Tryz.ntmps42
  go_wp2_with (go_at_call 76; rw [hW0.out]; refine (refop_any _ op _ [f] _ hargs hP2 ho).mono ?_; rintro e w1 ⟨r1, rfl, hN, hb1⟩; obtain ⟨o1, c1, rfl, -, -⟩ := hN.open; have hr1 := hidi (hres.out.below hb1); obtain ⟨a1, a2, a3, a4, a5, ⟨z0, z1, z2, z3, z4⟩, y0, y1, y2, y3, y4⟩ := hr1.out.cells)
  (try simp only [Exit.inBlock, Exit.then])
  refine bodyPost_ret (results_cell_row rfl _ _ (w.heap.size + 1) 24 _ (0, 0) _ rfl (hr1.out.set _ _ _ _ _) Tryz.underlying24 rfl fmSize) rfl ?_
  refine ⟨_, rfl, fm_put (Nat.le_succ _) (hB0.trans (hb1.mono hB0.size)) hN (fun b h => ?c1) (fun b h => ?c2) _ _ _ _ _⟩
  case c1 =>
    rcases h with (h | rfl) | ⟨h1, -⟩
    · exact hPR b h
    · omega
    · omega
  case c2 =>
    rcases h with (h | rfl) | ⟨h1, h2⟩
    · exact .inl h
    · exact .inr ⟨by omega, by have := hb1.size; omega⟩
    · exact .inr ⟨by omega, h2⟩

set_option maxRecDepth 100000 in
set_option maxHeartbeats 2000000 in
theorem reftwo_any (P : Nat → Prop) (op : Int) (u v : Value) (f g : Fm) (w : World) (hu : FAtP P w u f) (hv : FAtP P w v g) (hP : ∀ b, P b → b < w.heap.size) (ho : I64 op) :
    Calls Tryz.prog 44 #[.int .i64 op, u, v] w fun e w' => ∃ r, e = .returned r ∧ FAtP (NewP P w w') w' r (.mk op ⟨#[]⟩ 0 0 [f, g]) ∧ Below w.heap.size w w' := by
  obtain ⟨o, c, rfl, hfit, hA⟩ := hu.open
  obtain ⟨o', c', rfl, hfit', hA'⟩ := hv.open
  obtain ⟨W0, hW0, hB0, hs, hz, hx⟩ := two_open w (.cells #[.int .i64 f.op, .string f.name, .int .i64 f.val, .int .i64 f.bound, .slice o f.args.length c] 24) (.cells #[.int .i64 g.op, .string g.name, .int .i64 g.val, .int .i64 g.bound, .slice o' g.args.length c'] 24) (.cells #[.int .i64 0, .string ⟨#[]⟩, .int .i64 0, .int .i64 0, .slice none 0 0] 24) (.cells #[.int .i64 f.op, .string f.name, .int .i64 f.val, .int .i64 f.bound, .slice o f.args.length c, .int .i64 g.op, .string g.name, .int .i64 g.val, .int .i64 g.bound, .slice o' g.args.length c'] 24)
  have hres : Hid (Res5 W0 (w.heap.size + 1 + 1)) := ⟨_, _, _, _, _, hz.out⟩
  have hargs : FArgsP (fun b => P b ∨ b = w.heap.size + 1 + 1 + 1) W0 (.slice (some ⟨w.heap.size + 1 + 1 + 1, 0, none⟩) 2 2) [f, g] :=
    args_two (.inr rfl) hx.out hfit hfit' ((hA.kept hB0 hP).mono fun _ h => .inl h) ((hA'.kept hB0 hP).mono fun _ h => .inl h)
  have hP2 : ∀ b, (P b ∨ b = w.heap.size + 1 + 1 + 1) → b < W0.heap.size := by rintro b (h | rfl); · have := hP b h; omega
                                                                               · omega
  have hPR : ∀ b, P b → b ≠ w.heap.size + 1 + 1 := fun b h => by have := hP b h; omega
  go_enter Tryz.func44, Tryz.ntmps44
  go_wp2_with (go_at_call 76; rw [hW0.out]; refine (refop_any _ op _ [f, g] _ hargs hP2 ho).mono ?_; rintro e w1 ⟨r1, rfl, hN, hb1⟩; obtain ⟨o1, c1, rfl, -, -⟩ := hN.open; have hr1 := hidi (hres.out.below hb1); obtain ⟨a1, a2, a3, a4, a5, ⟨z0, z1, z2, z3, z4⟩, y0, y1, y2, y3, y4⟩ := hr1.out.cells)
  (try simp only [Exit.inBlock, Exit.then])
  refine bodyPost_ret (results_cell_row rfl _ _ (w.heap.size + 1 + 1) 24 _ (0, 0) _ rfl (hr1.out.set _ _ _ _ _) Tryz.underlying24 rfl fmSize) rfl ?_
  refine ⟨_, rfl, fm_put (by omega) (hB0.trans (hb1.mono hB0.size)) hN (fun b h => ?c1) (fun b h => ?c2) _ _ _ _ _⟩
  case c1 =>
    rcases h with (h | rfl) | ⟨h1, -⟩
    · exact hPR b h
    · omega
    · omega
  case c2 =>
    rcases h with (h | rfl) | ⟨h1, h2⟩
    · exact .inl h
    · exact .inr ⟨by omega, by have := hb1.size; omega⟩
    · exact .inr ⟨by omega, h2⟩

end Go.Proofs.YtbnnjbfbifihaaaGreatDoor

/-
  Contracts of the library's comparisons, and of package formula's compareHeads.
-/
namespace Go.Proofs.YtbnnjbfbifihaaaGreatDoor
open Go.RowKit

set_option maxHeartbeats 400000 in
theorem nan_int (a : Int) (w : World) : Calls Tryz.prog 105 #[.int .i64 a] w fun e w' => e = .returned (.bool false) ∧ w = w' := by
  go_enter Tryz.func105, Tryz.ntmps105
  go_wp2
  go_ret
  exact ⟨ret_bool (by simp), rfl⟩
set_option maxHeartbeats 400000 in
theorem nan_str (a : ByteArray) (w : World) : Calls Tryz.prog 106 #[.string a] w fun e w' => e = .returned (.bool false) ∧ w = w' := by
  go_enter Tryz.func106, Tryz.ntmps106
  go_wp2
  go_ret
  exact ⟨ret_bool (by simp), rfl⟩

set_option maxHeartbeats 1000000 in
theorem cmp_int (a b : Int) (w : World) :
    Calls Tryz.prog 85 #[.int .i64 a, .int .i64 b] w fun e w' => e = .returned (.int .i64 (cmpI a b)) ∧ w = w' := by
  by_cases h : a < b
  · have hR : Hid (cmpI a b = -1) := by unfold Hid cmpI; rw [if_pos h]
    go_enter Tryz.func85, Tryz.ntmps85
    go_wp2_with ((go_at_call 105; refine (nan_int _ _).mono ?_; rintro e w1 ⟨rfl, rfl⟩))
    go_ret
    exact ⟨ret_int hR.out.symm, rfl⟩
  · by_cases h2 : b < a
    · have hR : Hid (cmpI a b = 1) := by unfold Hid cmpI; rw [if_neg h, if_pos h2]
      go_enter Tryz.func85, Tryz.ntmps85
      go_wp2_with ((go_at_call 105; refine (nan_int _ _).mono ?_; rintro e w1 ⟨rfl, rfl⟩))
      go_ret
      exact ⟨ret_int hR.out.symm, rfl⟩
    · have hR : Hid (cmpI a b = 0) := by unfold Hid cmpI; rw [if_neg h, if_neg h2]
      go_enter Tryz.func85, Tryz.ntmps85
      go_wp2_with ((go_at_call 105; refine (nan_int _ _).mono ?_; rintro e w1 ⟨rfl, rfl⟩))
      go_ret
      exact ⟨ret_int hR.out.symm, rfl⟩

set_option maxHeartbeats 1000000 in
theorem cmp_str (a b : ByteArray) (w : World) :
    Calls Tryz.prog 86 #[.string a, .string b] w fun e w' => e = .returned (.int .i64 (cmpN a b)) ∧ w = w' := by
  cases hl : Op.bytesLess a.toList b.toList
  · cases hn : (a.toList == b.toList)
    · have hR : Hid (cmpN a b = 1) := cmpN_gt hn hl
      go_enter Tryz.func86, Tryz.ntmps86
      go_wp2_with ((go_at_call 106; refine (nan_str _ _).mono ?_; rintro e w1 ⟨rfl, rfl⟩))
      go_ret
      exact ⟨ret_int hR.out.symm, rfl⟩
    · have hR : Hid (cmpN a b = 0) := cmpN_eq hn
      go_enter Tryz.func86, Tryz.ntmps86
      go_wp2_with ((go_at_call 106; refine (nan_str _ _).mono ?_; rintro e w1 ⟨rfl, rfl⟩))
      go_ret
      exact ⟨ret_int hR.out.symm, rfl⟩
  · have hn : (a.toList == b.toList) = false := by
      cases hn : (a.toList == b.toList)
      · rfl
      · have e : a.toList = b.toList := by simpa using hn
        rw [e] at hl
        have h1 := (good_bytes b.toList).refl
        have : ∀ l : List UInt8, Op.bytesLess l l = false := by
          intro l
          induction l with
          | nil => rfl
          | cons x r ih => simp [Op.bytesLess, ih]
        rw [this] at hl; cases hl
    have hR : Hid (cmpN a b = -1) := cmpN_lt hn hl
    go_enter Tryz.func86, Tryz.ntmps86
    go_wp2_with ((go_at_call 106; refine (nan_str _ _).mono ?_; rintro e w1 ⟨rfl, rfl⟩))
    go_ret
    exact ⟨ret_int hR.out.symm, rfl⟩

/-- the first number of a list that is not 0 -/
def orL : List Int → Int
  | [] => 0
  | x :: l => orI x (orL l)
theorem orL_drop {xs : List Int} {k : Nat} (h : k < xs.length) : orL (xs.drop k) = orI xs[k] (orL (xs.drop (k + 1))) := by
  rw [List.drop_eq_getElem_cons h, orL]
theorem orL_head (f g : Fm) : orL [cmpI f.op g.op, cmpN f.name g.name, cmpI f.val g.val, cmpI f.bound g.bound, cmpI f.args.length g.args.length] = cmpHead f g := by
  have h : ∀ a : Int, orI a 0 = a := fun a => by unfold orI; split <;> simp [*]
  simp only [orL, cmpHead, h]

set_option maxRecDepth 100000 in
set_option maxHeartbeats 1000000 in
theorem cmp_or (b : Nat) (cap : Nat) (xs : List Int) (w : World) (hl : xs.length ≤ 1000) (hc : ∀ k (h : k < xs.length), w.cell? ⟨b, k, none⟩ = some (.int .i64 xs[k])) :
    Calls Tryz.prog 84 #[.slice (some ⟨b, 0, none⟩) xs.length cap] w fun e w' => e = .returned (.int .i64 (orL xs)) ∧ w = w' := by
  have hC := hidi hc
  clear hc
  go_enter Tryz.func84, Tryz.ntmps84
  go_wp2
  go_loop [8] (fun i => ∃ k : Nat, k ≤ xs.length ∧ i = .int .i64 k ∧ Hid (orL xs = orL (xs.drop k))) (fun i => xs.length - (intOf i).toNat)
  case atStart => exact ⟨0, Nat.zero_le _, rfl, rfl⟩
  case round =>
    obtain ⟨k, hk, rfl, hD⟩ := hrel
    by_cases hlt : k < xs.length
    · have c0 := hC.out k hlt
      have hS := hidi (orL_drop hlt)
      generalize xs[k] = x at *
      cases hx : (x == 0)
      · have hx2 : (x != 0) = true := by simp [bne, hx]
        have hR : Hid (orL xs = x) := by unfold Hid; rw [hD.out, hS.out, orI_not (by simpa using hx)]
        go_wp2
        go_ret
        exact ⟨ret_int hR.out.symm, rfl⟩
      · have hx2 : (x != 0) = false := by simp [bne, hx]
        go_wp2
        go_round
        case rel => exact ⟨k + 1, by omega, by go_num, by unfold Hid; rw [hD.out, hS.out, orI_zero (by simpa using hx)]⟩
        case measure => simp [intOf]; omega
    · have hR : Hid (orL xs = 0) := by unfold Hid; rw [hD.out, List.drop_of_length_le (by omega)]; rfl
      go_wp2
      go_ret
      exact ⟨ret_int hR.out.symm, rfl⟩

theorem five_cells (W : World) (a b c d e : Int) : ∀ k (h : k < [a, b, c, d, e].length), (W.alloc (.cells #[.int .i64 a, .int .i64 b, .int .i64 c, .int .i64 d, .int .i64 e] 3)).drew.cell? ⟨W.heap.size, k, none⟩ = some (.int .i64 [a, b, c, d, e][k]) := by
  intro k h
  have hk : k < 5 := h
  match k, hk with
  | 0, _ => exact cell_of_row (W.alloc _) _ 0 _ _ _ (heap_alloc_new W _)
  | 1, _ => exact cell_of_row (W.alloc _) _ 1 _ _ _ (heap_alloc_new W _)
  | 2, _ => exact cell_of_row (W.alloc _) _ 2 _ _ _ (heap_alloc_new W _)
  | 3, _ => exact cell_of_row (W.alloc _) _ 3 _ _ _ (heap_alloc_new W _)
  | 4, _ => exact cell_of_row (W.alloc _) _ 4 _ _ _ (heap_alloc_new W _)

set_option maxRecDepth 100000 in
set_option maxHeartbeats 4000000 in
theorem heads_any (f g : Fm) (B : Nat) (u v : Value) (w : World) (hu : FAt B w u f) (hv : FAt B w v g) :
    Calls Tryz.prog 58 #[u, v] w fun e w' => e = .returned (.int .i64 (cmpHead f g)) ∧ Below w.heap.size w w' := by
  obtain ⟨o, c, rfl, -, hAf⟩ := hu.open
  obtain ⟨o', c', rfl, -, hAg⟩ := hv.open
  have hlf := hAf.len
  have hlg := hAg.len
  obtain ⟨W0, hW0, hB0, hcf, hcg, hlt⟩ := fm2_open w (.int .i64 f.op) (.string f.name) (.int .i64 f.val) (.int .i64 f.bound) (.slice o f.args.length c) (.int .i64 g.op) (.string g.name) (.int .i64 g.val) (.int .i64 g.bound) (.slice o' g.args.length c')
  have keep : ∀ {X : World}, Below W0.heap.size W0 X → X.cell? ⟨w.heap.size, 0, none⟩ = some (.int .i64 f.op) ∧ X.cell? ⟨w.heap.size, 1, none⟩ = some (.string f.name) ∧ X.cell? ⟨w.heap.size, 2, none⟩ = some (.int .i64 f.val) ∧ X.cell? ⟨w.heap.size, 3, none⟩ = some (.int .i64 f.bound) ∧ X.cell? ⟨w.heap.size, 4, none⟩ = some (.slice o f.args.length c) ∧ X.cell? ⟨w.heap.size + 1, 0, none⟩ = some (.int .i64 g.op) ∧ X.cell? ⟨w.heap.size + 1, 1, none⟩ = some (.string g.name) ∧ X.cell? ⟨w.heap.size + 1, 2, none⟩ = some (.int .i64 g.val) ∧ X.cell? ⟨w.heap.size + 1, 3, none⟩ = some (.int .i64 g.bound) ∧ X.cell? ⟨w.heap.size + 1, 4, none⟩ = some (.slice o' g.args.length c') ∧ Below W0.heap.size W0 X := fun h => by
    obtain ⟨d0, d1, d2, d3, d4⟩ := hcf.out.later h (by omega)
    obtain ⟨c0, c1, c2, c3, c4⟩ := hcg.out.later h hlt
    rw [Nat.zero_add] at d1 d2 d3 d4 c1 c2 c3 c4
    exact ⟨d0, d1, d2, d3, d4, c0, c1, c2, c3, c4, h⟩
  have hh := hidi (orL_head f g)
  obtain ⟨y1, x1⟩ : ∃ x, Hid (cmpI f.op g.op = x) := ⟨_, rfl⟩
  obtain ⟨y2, x2⟩ : ∃ x, Hid (cmpN f.name g.name = x) := ⟨_, rfl⟩
  obtain ⟨y3, x3⟩ : ∃ x, Hid (cmpI f.val g.val = x) := ⟨_, rfl⟩
  obtain ⟨y4, x4⟩ : ∃ x, Hid (cmpI f.bound g.bound = x) := ⟨_, rfl⟩
  obtain ⟨y5, x5⟩ : ∃ x, Hid (cmpI f.args.length g.args.length = x) := ⟨_, rfl⟩
  rw [x1.out, x2.out, x3.out, x4.out, x5.out] at hh
  go_enter Tryz.func58, Tryz.ntmps58
  go_wp2_with fail
  rw [hW0.out]
  have hst := keep (Below.refl _ W0).drew
  go_region_held3 (fun X => X.cell? ⟨w.heap.size, 0, none⟩ = some (.int .i64 f.op) ∧ X.cell? ⟨w.heap.size, 1, none⟩ = some (.string f.name) ∧ X.cell? ⟨w.heap.size, 2, none⟩ = some (.int .i64 f.val) ∧ X.cell? ⟨w.heap.size, 3, none⟩ = some (.int .i64 f.bound) ∧ X.cell? ⟨w.heap.size, 4, none⟩ = some (.slice o f.args.length c) ∧ X.cell? ⟨w.heap.size + 1, 0, none⟩ = some (.int .i64 g.op) ∧ X.cell? ⟨w.heap.size + 1, 1, none⟩ = some (.string g.name) ∧ X.cell? ⟨w.heap.size + 1, 2, none⟩ = some (.int .i64 g.val) ∧ X.cell? ⟨w.heap.size + 1, 3, none⟩ = some (.int .i64 g.bound) ∧ X.cell? ⟨w.heap.size + 1, 4, none⟩ = some (.slice o' g.args.length c') ∧ Below W0.heap.size W0 X) (first | exact hst | assumption | exact keep q6 | exact keep (((Below.refl _ W0).alloc (Nat.le_refl _) _).drew)) (first
    | (obtain ⟨-, -, -, -, -, -, -, -, -, -, q9⟩ : _ ∧ _ ∧ _ ∧ _ ∧ _ ∧ _ ∧ _ ∧ _ ∧ _ ∧ _ ∧ Below W0.heap.size W0 _ := (by assumption); go_at_call 86; refine (cmp_str _ _ _).mono ?_; rintro e w1 ⟨rfl, rfl⟩; rw [x2.out]; have q6 := q9)
    | (obtain ⟨-, -, -, -, -, -, -, -, -, -, q9⟩ : _ ∧ _ ∧ _ ∧ _ ∧ _ ∧ _ ∧ _ ∧ _ ∧ _ ∧ _ ∧ Below W0.heap.size W0 _ := (by assumption); go_at_call 85; (with_reducible refine (cmp_int f.op g.op _).mono ?_); rintro e w1 ⟨rfl, rfl⟩; rw [x1.out]; have q6 := q9)
    | (obtain ⟨-, -, -, -, -, -, -, -, -, -, q9⟩ : _ ∧ _ ∧ _ ∧ _ ∧ _ ∧ _ ∧ _ ∧ _ ∧ _ ∧ _ ∧ Below W0.heap.size W0 _ := (by assumption); go_at_call 85; (with_reducible refine (cmp_int f.val g.val _).mono ?_); rintro e w1 ⟨rfl, rfl⟩; rw [x3.out]; have q6 := q9)
    | (obtain ⟨-, -, -, -, -, -, -, -, -, -, q9⟩ : _ ∧ _ ∧ _ ∧ _ ∧ _ ∧ _ ∧ _ ∧ _ ∧ _ ∧ _ ∧ Below W0.heap.size W0 _ := (by assumption); go_at_call 85; (with_reducible refine (cmp_int f.bound g.bound _).mono ?_); rintro e w1 ⟨rfl, rfl⟩; rw [x4.out]; have q6 := q9)
    | (obtain ⟨-, -, -, -, -, -, -, -, -, -, q9⟩ : _ ∧ _ ∧ _ ∧ _ ∧ _ ∧ _ ∧ _ ∧ _ ∧ _ ∧ _ ∧ Below W0.heap.size W0 _ := (by assumption); go_at_call 85; (with_reducible refine (cmp_int (f.args.length : Int) (g.args.length : Int) _).mono ?_); rintro e w1 ⟨rfl, rfl⟩; rw [x5.out]; have q6 := q9)
    | (obtain ⟨-, -, -, -, -, -, -, -, -, -, q9⟩ : _ ∧ _ ∧ _ ∧ _ ∧ _ ∧ _ ∧ _ ∧ _ ∧ _ ∧ _ ∧ Below W0.heap.size W0 _ := (by assumption); go_at_call 84; refine (cmp_or _ 5 [y1, y2, y3, y4, y5] _ (by simp) (five_cells _ _ _ _ _ _)).mono ?_; rintro e w1 ⟨rfl, rfl⟩; rw [hh.out]; have q6 := q9))
  all_goals go_wp2
  all_goals go_ret
  exact ⟨rfl, hB0.trans (q6.mono hB0.size)⟩

end Go.Proofs.YtbnnjbfbifihaaaGreatDoor

/-
  Contracts of slices.CompareFunc at formulas and of package formula's Compare.
-/
namespace Go.Proofs.YtbnnjbfbifihaaaGreatDoor
open Go.RowKit

theorem two_allocs (w : World) (a b : Obj) : ∃ W0, Hid ((w.alloc a).alloc b = W0) ∧ Below w.heap.size w W0 :=
  ⟨_, rfl, (below_box w a).trans ((below_box (w.alloc a) b).mono (by simp))⟩

theorem FAt.slot {B : Nat} {w : World} {sl : Value} {f : Fm} (h : FAt B w (fval f sl) f) : ∃ o c, sl = .slice o f.args.length c := by
  obtain ⟨sl', e, -, h2⟩ := h
  have : sl = sl' := by simpa [fval] using e
  subst this
  exact h2.shape

set_option maxRecDepth 100000 in
set_option maxHeartbeats 2000000 in
theorem cmpfunc_any (l : List Fm) (H : ∀ x ∈ l, ∀ (y : Fm) (B : Nat) (u v : Value) (w : World), FAt B w u x → FAt B w v y → B ≤ w.heap.size →
      Calls Tryz.prog 19 #[u, v] w fun e w' => e = .returned (.int .i64 (cmpF x y)) ∧ Below w.heap.size w w')
    (m : List Fm) (B : Nat) (u v : Value) (w : World) (hu : FArgs B w u l) (hv : FArgs B w v m) (hBw : B ≤ w.heap.size) :
    Calls Tryz.prog 59 #[u, v, .func (.func 19) #[] #[]] w fun e w' => e = .returned (.int .i64 (cmpL l m)) ∧ Below w.heap.size w w' := by
  have hu' := hu.mono hBw
  have hv' := hv.mono hBw
  obtain ⟨o, c, rfl⟩ := hu.shape
  obtain ⟨o', c', rfl⟩ := hv.shape
  have hl1 := hu.len
  have hl2 := hv.len
  go_enter Tryz.func59, Tryz.ntmps59
  go_wp2
  go_loopw [13] (fun i wr => ∃ k : Nat, k ≤ l.length ∧ k ≤ m.length ∧ i = .int .i64 k ∧ Hid (cmpL l m = cmpL (l.drop k) (m.drop k)) ∧ Below w.heap.size w wr) (fun i _ => l.length - (intOf i).toNat)
  case atStart => exact ⟨0, Nat.zero_le _, Nat.zero_le _, rfl, rfl, Below.refl _ _⟩
  case round =>
    obtain ⟨k, hk, hk2, rfl, hD, hB⟩ := hrel
    by_cases hlt : k < l.length
    · obtain ⟨b, off, rfl, hb, hat⟩ := hu'.at (by omega)
      obtain ⟨sl, hc5, hF⟩ := hat k hlt
      obtain ⟨o1, c1, rfl⟩ := hF.slot
      obtain ⟨e0, e1, e2, e3, e4⟩ := hc5.below hB hb
      by_cases hlt2 : k < m.length
      · obtain ⟨b', off', rfl, hb', hat'⟩ := hv'.at (by omega)
        obtain ⟨sl', hc5', hG⟩ := hat' k hlt2
        obtain ⟨o2, c2, rfl⟩ := hG.slot
        obtain ⟨g0, g1, g2, g3, g4⟩ := hc5'.below hB hb'
        have hS := hidi (cmpL_drop hlt hlt2)
        obtain ⟨j0, j1, j2, j3, j4⟩ := hc5'.below (hB.alloc hB.size (.cells #[.int .i64 l[k].op, .string l[k].name, .int .i64 l[k].val, .int .i64 l[k].bound, .slice o1 l[k].args.length c1] 24)) hb'
        have hmem := List.getElem_mem hlt
        generalize l[k] = x at *
        generalize m[k] = y at *
        obtain ⟨z, hz⟩ : ∃ z, Hid (cmpF x y = z) := ⟨_, rfl⟩
        rw [hz.out] at hS
        obtain ⟨W1, hW1, hB1⟩ := two_allocs wr (.cells #[.int .i64 x.op, .string x.name, .int .i64 x.val, .int .i64 x.bound, .slice o1 x.args.length c1] 24) (.cells #[.int .i64 y.op, .string y.name, .int .i64 y.val, .int .i64 y.bound, .slice o2 y.args.length c2] 24)
        have hB2 := hB.trans (hB1.mono hB.size)
        by_cases h0 : z = 0
        · subst h0
          go_wp2_with (go_at_call 19; rw [hW1.out]; refine (H x hmem y w.heap.size _ _ _ (hF.kept hB2 (Nat.le_refl _)) (hG.kept hB2 (Nat.le_refl _)) hB2.size).mono ?_; rintro e w1 ⟨rfl, hb1⟩; rw [hz.out]; have hB3 := hB2.trans (hb1.mono hB2.size); clear hb1)
          go_roundw
          case rel => exact ⟨k + 1, by omega, by omega, by go_num, by unfold Hid; rw [hD.out, hS.out, orI_zero rfl], hB3⟩
          case measure => simp [intOf]; omega
        · have h1 : (z == 0) = false := by simpa using h0
          have h2 : (z != 0) = true := by simp [bne, h1]
          have hR : Hid (cmpL l m = z) := by unfold Hid; rw [hD.out, hS.out, orI_not h0]
          clear h0
          go_wp2_with (go_at_call 19; rw [hW1.out]; refine (H x hmem y w.heap.size _ _ _ (hF.kept hB2 (Nat.le_refl _)) (hG.kept hB2 (Nat.le_refl _)) hB2.size).mono ?_; rintro e w1 ⟨rfl, hb1⟩; rw [hz.out]; have hB3 := hB2.trans (hb1.mono hB2.size); clear hb1)
          go_ret
          exact ⟨ret_int hR.out.symm, hB3⟩
      · have hR : Hid (cmpL l m = 1) := by
          unfold Hid; rw [hD.out, List.drop_eq_getElem_cons hlt, List.drop_of_length_le (show m.length ≤ k by omega), cmpL]
        go_wp2
        go_ret
        exact ⟨ret_int hR.out.symm, hB.alloc hB.size _⟩
    · obtain rfl : k = l.length := by omega
      by_cases hlt2 : l.length < m.length
      · have hR : Hid (cmpL l m = -1) := by
          unfold Hid; rw [hD.out, List.drop_of_length_le (Nat.le_refl l.length), List.drop_eq_getElem_cons hlt2, cmpL]
        go_wp2
        go_ret
        exact ⟨ret_int hR.out.symm, hB⟩
      · have hR : Hid (cmpL l m = 0) := by
          unfold Hid; rw [hD.out, List.drop_of_length_le (Nat.le_refl l.length), List.drop_of_length_le (show m.length ≤ l.length by omega), cmpL]
        go_wp2
        go_ret
        exact ⟨ret_int hR.out.symm, hB⟩

set_option maxRecDepth 100000 in
set_option maxHeartbeats 2000000 in
theorem compare_any (f : Fm) : ∀ (g : Fm) (B : Nat) (u v : Value) (w : World), FAt B w u f → FAt B w v g → B ≤ w.heap.size →
    Calls Tryz.prog 19 #[u, v] w fun e w' => e = .returned (.int .i64 (cmpF f g)) ∧ Below w.heap.size w w' := by
  induction f using Fm.ind with
  | h f ih =>
    intro g B u v w hu hv hBw
    have hu' := hu.mono hBw
    have hv' := hv.mono hBw
    obtain ⟨o, c, rfl, -, hAf⟩ := hu'.open
    obtain ⟨o', c', rfl, -, hAg⟩ := hv'.open
    obtain ⟨W0, hW0, hB0, hcf, hcg, hlt⟩ := fm2_open w (.int .i64 f.op) (.string f.name) (.int .i64 f.val) (.int .i64 f.bound) (.slice o f.args.length c) (.int .i64 g.op) (.string g.name) (.int .i64 g.val) (.int .i64 g.bound) (.slice o' g.args.length c')
    obtain ⟨d0, d1, d2, d3, d4⟩ := hcf.out
    obtain ⟨c0, c1, c2, c3, c4⟩ := hcg.out
    rw [Nat.zero_add] at d1 d2 d3 d4 c1 c2 c3 c4
    have hE := hidi (cmpF_eq f g)
    obtain ⟨z, hz⟩ : ∃ z, Hid (cmpHead f g = z) := ⟨_, rfl⟩
    rw [hz.out] at hE
    by_cases h0 : z = 0
    · subst h0
      go_enter Tryz.func19, Tryz.ntmps19
      go_wp2_with fail
      rw [hW0.out]
      go_wp2_with (first
        | (go_at_call 58; refine (heads_any f g w.heap.size _ _ _ (hu'.kept hB0 (Nat.le_refl _)) (hv'.kept hB0 (Nat.le_refl _))).mono ?_; rintro e w1 ⟨rfl, hb1⟩; rw [hz.out]; have hB := hB0.trans (hb1.mono hB0.size); clear d0 d1 d2 d3 d4 c0 c1 c2 c3 c4; obtain ⟨d0, d1, d2, d3, d4⟩ := hcf.out.later hb1 (by omega); obtain ⟨c0, c1, c2, c3, c4⟩ := hcg.out.later hb1 hlt; rw [Nat.zero_add] at d1 d2 d3 d4 c1 c2 c3 c4; clear hb1)
        | (go_at_call 59; refine (cmpfunc_any f.args ih g.args w.heap.size _ _ _ (hAf.kept hB (Nat.le_refl _)) (hAg.kept hB (Nat.le_refl _)) hB.size).mono ?_; rintro e w2 ⟨rfl, hb1⟩; have hB3 := hB.trans (hb1.mono hB.size); clear hb1))
      go_ret
      exact ⟨ret_int (by rw [hE.out, orI_zero rfl]), hB3⟩
    · have h1 : (z == 0) = false := by simpa using h0
      have h2 : (z != 0) = true := by simp [bne, h1]
      have hR : Hid (cmpF f g = z) := by unfold Hid; rw [hE.out, orI_not h0]
      clear h0
      go_enter Tryz.func19, Tryz.ntmps19
      go_wp2_with fail
      rw [hW0.out]
      go_wp2_with (go_at_call 58; refine (heads_any f g w.heap.size _ _ _ (hu'.kept hB0 (Nat.le_refl _)) (hv'.kept hB0 (Nat.le_refl _))).mono ?_; rintro e w1 ⟨rfl, hb1⟩; rw [hz.out]; have hB := hB0.trans (hb1.mono hB0.size); clear hb1)
      go_ret
      exact ⟨ret_int hR.out.symm, hB⟩

end Go.Proofs.YtbnnjbfbifihaaaGreatDoor
