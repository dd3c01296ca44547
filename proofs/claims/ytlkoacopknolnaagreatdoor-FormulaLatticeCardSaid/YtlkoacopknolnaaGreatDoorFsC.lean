/-
  Contracts of the law's low and of the formula reference's SmallList.
-/
import Derived.Test.YtlkoacopknolnaaGreatDoorGe
import Derived.Test.YtlkoacopknolnaaGreatDoorGd
import Derived.Test.YtlkoacopknolnaaGreatDoorGb
namespace Go.Proofs.YtlkoacopknolnaaGreatDoor
open Go.RowKit

/-- a loose kernel that is small -/
def lowB (f : Fm) : Bool := decide (f.nodes ≤ 100) && decide (f.depth ≤ 50) && looseB f

set_option maxRecDepth 100000 in
set_option maxHeartbeats 2000000 in
theorem low_any (f : Fm) (B : Nat) (v : Value) (w : World) (hv : FAt B w v f) (hBw : B ≤ w.heap.size) :
    Calls Tryz.prog 48 #[v] w fun e w' => e = .returned (.bool (lowB f)) ∧ Below w.heap.size w w' := by
  obtain ⟨o, c, rfl, hfit, hA⟩ := hv.open
  have hv' := hv.mono hBw
  obtain ⟨W0, hW0, hB0, hc, hlt⟩ := fm_open w (.int .i64 f.op) (.string f.name) (.int .i64 f.val) (.int .i64 f.bound) (.slice o f.args.length c)
  have hB : Below W0.heap.size W0 W0 := Below.refl _ _
  obtain ⟨d0, d1, d2, d3, d4⟩ := hc.out
  rw [Nat.zero_add] at d1 d2 d3 d4
  cases q1 : decide (f.nodes ≤ 100)
  · go_enter Tryz.func48, Tryz.ntmps48
    go_wp2_with fail
    rw [hW0.out]
    go_wp2_with (first | (go_at_call 13; refine (refsmall_any f w.heap.size _ 100 _ (hv'.kept (hB0.trans (hB.mono hB0.size)) (Nat.le_refl _)) (Nat.le_trans hB0.size hB.size) (by omega)).mono ?_; rintro e w1 ⟨rfl, hb1⟩; rw [q1]; have hB := hB.trans (hb1.mono hB.size); clear hb1; clear d0 d1 d2 d3 d4; obtain ⟨d0, d1, d2, d3, d4⟩ := hc.out.later hB hlt; rw [Nat.zero_add] at d1 d2 d3 d4))
    go_ret
    exact ⟨ret_bool (by unfold lowB; rw [q1]; rfl), hB0.trans (hB.mono hB0.size)⟩
  · have hn1 : f.nodes ≤ 100 := of_decide_eq_true q1
    have hn2 := f.depth_le_nodes
    by_cases q2 : 50 < f.depth
    · go_enter Tryz.func48, Tryz.ntmps48
      go_wp2_with fail
      rw [hW0.out]
      go_wp2_with (first | (go_at_call 13; refine (refsmall_any f w.heap.size _ 100 _ (hv'.kept (hB0.trans (hB.mono hB0.size)) (Nat.le_refl _)) (Nat.le_trans hB0.size hB.size) (by omega)).mono ?_; rintro e w1 ⟨rfl, hb1⟩; rw [q1]; have hB := hB.trans (hb1.mono hB.size); clear hb1; clear d0 d1 d2 d3 d4; obtain ⟨d0, d1, d2, d3, d4⟩ := hc.out.later hB hlt; rw [Nat.zero_add] at d1 d2 d3 d4) | (go_at_call 55; refine (refdepth_any f w.heap.size _ _ (hv'.kept (hB0.trans (hB.mono hB0.size)) (Nat.le_refl _)) (Nat.le_trans hB0.size hB.size) (by omega)).mono ?_; rintro e w1 ⟨rfl, hb1⟩; have hB := hB.trans (hb1.mono hB.size); clear hb1; clear d0 d1 d2 d3 d4; obtain ⟨d0, d1, d2, d3, d4⟩ := hc.out.later hB hlt; rw [Nat.zero_add] at d1 d2 d3 d4))
      go_ret
      exact ⟨ret_bool (by unfold lowB; rw [q1, decide_eq_false (show ¬ f.depth ≤ 50 by omega)]; rfl), hB0.trans (hB.mono hB0.size)⟩
    · have q3 : f.depth ≤ 50 := by omega
      cases q4 : looseB f
      · go_enter Tryz.func48, Tryz.ntmps48
        go_wp2_with fail
        rw [hW0.out]
        go_wp2_with (first | (go_at_call 13; refine (refsmall_any f w.heap.size _ 100 _ (hv'.kept (hB0.trans (hB.mono hB0.size)) (Nat.le_refl _)) (Nat.le_trans hB0.size hB.size) (by omega)).mono ?_; rintro e w1 ⟨rfl, hb1⟩; rw [q1]; have hB := hB.trans (hb1.mono hB.size); clear hb1; clear d0 d1 d2 d3 d4; obtain ⟨d0, d1, d2, d3, d4⟩ := hc.out.later hB hlt; rw [Nat.zero_add] at d1 d2 d3 d4) | (go_at_call 55; refine (refdepth_any f w.heap.size _ _ (hv'.kept (hB0.trans (hB.mono hB0.size)) (Nat.le_refl _)) (Nat.le_trans hB0.size hB.size) (by omega)).mono ?_; rintro e w1 ⟨rfl, hb1⟩; have hB := hB.trans (hb1.mono hB.size); clear hb1; clear d0 d1 d2 d3 d4; obtain ⟨d0, d1, d2, d3, d4⟩ := hc.out.later hB hlt; rw [Nat.zero_add] at d1 d2 d3 d4) | (go_at_call 41; refine (refloose_any f w.heap.size _ _ (hv'.kept (hB0.trans (hB.mono hB0.size)) (Nat.le_refl _)) (Nat.le_trans hB0.size hB.size)).mono ?_; rintro e w1 ⟨rfl, hb1⟩; rw [q4]; have hB := hB.trans (hb1.mono hB.size); clear hb1; clear d0 d1 d2 d3 d4; obtain ⟨d0, d1, d2, d3, d4⟩ := hc.out.later hB hlt; rw [Nat.zero_add] at d1 d2 d3 d4))
        go_ret
        exact ⟨ret_bool (by unfold lowB; rw [q1, decide_eq_true q3, q4]; rfl), hB0.trans (hB.mono hB0.size)⟩
      · go_enter Tryz.func48, Tryz.ntmps48
        go_wp2_with fail
        rw [hW0.out]
        go_wp2_with (first | (go_at_call 13; refine (refsmall_any f w.heap.size _ 100 _ (hv'.kept (hB0.trans (hB.mono hB0.size)) (Nat.le_refl _)) (Nat.le_trans hB0.size hB.size) (by omega)).mono ?_; rintro e w1 ⟨rfl, hb1⟩; rw [q1]; have hB := hB.trans (hb1.mono hB.size); clear hb1; clear d0 d1 d2 d3 d4; obtain ⟨d0, d1, d2, d3, d4⟩ := hc.out.later hB hlt; rw [Nat.zero_add] at d1 d2 d3 d4) | (go_at_call 55; refine (refdepth_any f w.heap.size _ _ (hv'.kept (hB0.trans (hB.mono hB0.size)) (Nat.le_refl _)) (Nat.le_trans hB0.size hB.size) (by omega)).mono ?_; rintro e w1 ⟨rfl, hb1⟩; have hB := hB.trans (hb1.mono hB.size); clear hb1; clear d0 d1 d2 d3 d4; obtain ⟨d0, d1, d2, d3, d4⟩ := hc.out.later hB hlt; rw [Nat.zero_add] at d1 d2 d3 d4) | (go_at_call 41; refine (refloose_any f w.heap.size _ _ (hv'.kept (hB0.trans (hB.mono hB0.size)) (Nat.le_refl _)) (Nat.le_trans hB0.size hB.size)).mono ?_; rintro e w1 ⟨rfl, hb1⟩; rw [q4]; have hB := hB.trans (hb1.mono hB.size); clear hb1; clear d0 d1 d2 d3 d4; obtain ⟨d0, d1, d2, d3, d4⟩ := hc.out.later hB hlt; rw [Nat.zero_add] at d1 d2 d3 d4))
        go_ret
        exact ⟨ret_bool (by unfold lowB; rw [q1, decide_eq_true q3, q4]; rfl), hB0.trans (hB.mono hB0.size)⟩

/-- few formulas of few nodes -/
def smallsB (l : List Fm) (m : Nat) : Bool := decide (l.length ≤ 12) && l.all fun f => decide (f.nodes ≤ m)

set_option maxRecDepth 100000 in
set_option maxHeartbeats 2000000 in
theorem refsmalls_any (l : List Fm) (m B : Nat) (v : Value) (w : World) (hv : FArgs B w v l) (hBw : B ≤ w.heap.size) (hm : m ≤ 1000000) :
    Calls Tryz.prog 14 #[v, .int .i64 m] w fun e w' => e = .returned (.bool (smallsB l m)) ∧ Below w.heap.size w w' := by
  have hv' := hv.mono hBw
  obtain ⟨o, c, rfl⟩ := hv.shape
  have hl1 := hv.len
  by_cases hlen : 12 < l.length
  · have hR : Hid (smallsB l m = false) := by unfold Hid smallsB; rw [decide_eq_false (by omega)]; rfl
    go_enter Tryz.func14, Tryz.ntmps14
    go_wp2
    go_ret
    exact ⟨ret_bool hR.out.symm, Below.refl _ _⟩
  · have hR : Hid (smallsB l m = l.all fun f => decide (f.nodes ≤ m)) := by unfold Hid smallsB; rw [decide_eq_true (by omega)]; rfl
    go_enter Tryz.func14, Tryz.ntmps14
    go_wp2
    go_loopw [5] (fun i wr => ∃ k : Nat, k ≤ l.length ∧ i = .int .i64 k ∧ Hid (smallsB l m = (l.drop k).all fun f => decide (f.nodes ≤ m)) ∧ Below w.heap.size w wr) (fun i _ => l.length - (intOf i).toNat)
    case atStart => exact ⟨0, Nat.zero_le _, rfl, hR, Below.refl _ _⟩
    case round =>
      obtain ⟨k, hk, rfl, hD, hB⟩ := hrel
      by_cases hlt : k < l.length
      · obtain ⟨b, off, rfl, hb, hat⟩ := hv'.at (by omega)
        obtain ⟨sl, hc5, hF⟩ := hat k hlt
        obtain ⟨o1, c1, rfl⟩ := hF.slot
        obtain ⟨e0, e1, e2, e3, e4⟩ := hc5.below hB hb
        have hS : Hid (((l.drop k).all fun f => decide (f.nodes ≤ m)) = (decide (l[k].nodes ≤ m) && (l.drop (k + 1)).all fun f => decide (f.nodes ≤ m))) := by
          unfold Hid; rw [List.drop_eq_getElem_cons hlt]; rfl
        generalize l[k] = x at *
        cases q : decide (x.nodes ≤ m)
        · go_wp2_with (go_at_call 13; refine (refsmall_any x w.heap.size _ m _ (hF.kept hB (Nat.le_refl _)) hB.size hm).mono ?_; rintro e w1 ⟨rfl, hb1⟩; rw [q]; have hB := hB.trans (hb1.mono hB.size); clear hb1)
          go_ret
          exact ⟨ret_bool (by rw [hD.out, hS.out, q]; rfl), hB⟩
        · go_wp2_with (go_at_call 13; refine (refsmall_any x w.heap.size _ m _ (hF.kept hB (Nat.le_refl _)) hB.size hm).mono ?_; rintro e w1 ⟨rfl, hb1⟩; rw [q]; have hB := hB.trans (hb1.mono hB.size); clear hb1)
          go_roundw
          case rel => exact ⟨k + 1, by omega, by go_num, by unfold Hid; rw [hD.out, hS.out, q]; rfl, hB⟩
          case measure => simp [intOf]; omega
      · go_wp2
        go_ret
        exact ⟨ret_bool (by rw [hD.out, List.drop_of_length_le (by omega)]; rfl), hB⟩

end Go.Proofs.YtlkoacopknolnaaGreatDoor
