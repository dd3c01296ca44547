/-
  The walk of the law FormulaParts, given the contract of the law's head.
-/
import Derived.Test.YtlkoacopknolnaaGreatDoorFjC
import Derived.Test.YtlkoacopknolnaaGreatDoorFjV
import Derived.Test.YtlkoacopknolnaaGreatDoorFjY
namespace Go.Proofs.YtlkoacopknolnaaGreatDoor
open Go.RowKit

set_option maxRecDepth 100000 in
set_option maxHeartbeats 8000000 in
theorem parts_big (hd : HeadOk) (f : Fm) (v1 : Value) (a : Int) (w : World) (hE : Env w) (h1 : FAt w.heap.size w v1 f) (s1 : Hid (¬ f.nodes ≤ 420)) :
    Calls Tryz.prog 5 #[v1, .int .u8 a] w fun e w' => e = .returned (.bool true) ∧ Below w.heap.size w w' := by
  obtain ⟨o1, c1, rfl, W0, hW0, HB, B2⟩ := bx1_open h1
  have hEc : Env W0 := hE.below HB
  go_enter Tryz.func5, Tryz.ntmps5
  go_wp2_with fail
  unfold boxO at hW0
  rw [hW0.out]
  refine (hd _ hEc).mono ?_
  rintro e V1 ⟨rfl, hs⟩
  replace B2 := hidi (B2.out.below hs)
  replace HB := HB.trans (hs.mono HB.size)
  replace hEc := hEc.below hs
  obtain ⟨o2, c2, ⟨d20, d21, d22, d23, d24⟩, q2⟩ := B2.out.cells
  go_wp2_with fail
  clear d20 d21 d22 d23 d24
  refine (small420_no f V1.heap.size _ V1 (fm_at q2) (Nat.le_refl _) s1).mono ?_
  rintro e V2 ⟨rfl, hs⟩
  replace B2 := hidi (B2.out.below hs)
  replace HB := HB.trans (hs.mono HB.size)
  replace hEc := hEc.below hs
  go_wp2_with fail
  go_ret
  exact ⟨rfl, HB⟩

set_option maxRecDepth 100000 in
set_option maxHeartbeats 8000000 in
theorem parts_none (hd : HeadOk) (f : Fm) (v1 : Value) (a : Int) (_ : 0 ≤ a) (_ : a ≤ 255) (w : World) (hE : Env w) (h1 : FAt w.heap.size w v1 f) (s1 : Hid (f.nodes ≤ 420)) (h0 : Hid (f.args.length = 0)) :
    Calls Tryz.prog 5 #[v1, .int .u8 a] w fun e w' => e = .returned (.bool true) ∧ Below w.heap.size w w' := by
  have n1 : f.nodes ≤ 1000 := by have := s1.out; omega
  have n2 : f.depth ≤ 1000 := by have := s1.out; have := Fm.depth_le_nodes f; omega
  obtain ⟨R4, hR4⟩ : ∃ R, Code.region 4 (opsAt Tryz.f5 4) false = R := ⟨_, rfl⟩
  unfold opsAt Tryz.f5 at hR4
  simp only [findRegion, Nat.reduceBEq, if_true, if_false, Bool.false_eq_true, Option.getD_some] at hR4
  replace hR4 := hidi hR4
  obtain ⟨R13, hR13⟩ : ∃ R, Code.region 13 (opsAt Tryz.f5 13) false = R := ⟨_, rfl⟩
  unfold opsAt Tryz.f5 at hR13
  simp only [findRegion, Nat.reduceBEq, if_true, if_false, Bool.false_eq_true, Option.getD_some] at hR13
  replace hR13 := hidi hR13
  obtain ⟨o1, c1, rfl, W0, hW0, HB, B2⟩ := bx1_open h1
  have hEc : Env W0 := hE.below HB
  go_enter Tryz.func5, Tryz.ntmps5
  rw [hR4.out, hR13.out]
  go_wp2_with fail
  unfold boxO at hW0
  rw [hW0.out]
  refine (hd _ hEc).mono ?_
  rintro e V1 ⟨rfl, hs⟩
  replace B2 := hidi (B2.out.below hs)
  replace HB := HB.trans (hs.mono HB.size)
  replace hEc := hEc.below hs
  obtain ⟨o2, c2, ⟨d20, d21, d22, d23, d24⟩, q2⟩ := B2.out.cells
  go_wp2_with fail
  clear d20 d21 d22 d23 d24
  refine (small420 f V1.heap.size _ V1 (fm_at q2) (Nat.le_refl _) s1).mono ?_
  rintro e V2 ⟨rfl, hs⟩
  replace B2 := hidi (B2.out.below hs)
  replace HB := HB.trans (hs.mono HB.size)
  replace hEc := hEc.below hs
  go_wp2_with fail
  rw [← hR4.out]
  refine par_r4 _ V2 _ hEc (by rfl) (by rfl) B2 n1 n2 ?_
  intro x3 V3 hs
  simp only [Act.put, List.setIfInBounds_toArray, List.set_cons_zero, List.set_cons_succ]
  replace B2 := hidi (B2.out.below hs)
  replace HB := HB.trans (hs.mono HB.size)
  replace hEc := hEc.below hs
  go_wp2_with fail
  have hnn : Fm.nodesL f.args ≤ 419 := by have := s1.out; rw [f.nodes_eq] at this; omega
  have hmm := namesN_nodes f.args
  go_loopw [6, 7, 8] (fun n m i wr => ∃ k : Nat, k ≤ f.args.length ∧ n = .int .i64 ((1 + Fm.nodesL (f.args.take k) : Nat) : Int) ∧ m = .int .i64 ((namesN (f.args.take k) : Nat) : Int) ∧ i = .int .i64 (k : Int) ∧ Below V3.heap.size V3 wr) (fun _ _ i _ => f.args.length - (intOf i).toNat)
  case atStart => exact ⟨0, Nat.zero_le _, by simp [Fm.nodesL_nil], by simp [namesN], rfl, Below.refl _ _⟩
  case round =>
    obtain ⟨k, hk, rfl, rfl, rfl, hBr⟩ := hrel
    obtain ⟨hlt, o, c, ⟨d0, d1, d2, d3, d4⟩, hfit, hA⟩ := (B2.out.below hBr)
    rw [Nat.zero_add] at d1 d2 d3 d4
    have hEr := hEc.below hBr
    by_cases hlt2 : k < f.args.length
    · obtain ⟨b, off, rfl, hb, hat⟩ := hA.at (by omega)
      obtain ⟨sl, ⟨e0, e1, e2, e3, e4⟩, hF⟩ := hat k hlt2
      have hS := hidi (Fm.nodesL_take hlt2)
      have hT := hidi (namesN_take hlt2)
      have hg2 := Fm.nodesL_take_le f.args (k + 1)
      have hg3 := namesN_nodes (f.args.take (k + 1))
      rw [hS.out] at hg2
      rw [hT.out, hS.out] at hg3
      have hg1 := names_nodes f.args[k]
      have j1 : (0 : Int) ≤ k := by omega
      have j2 : (k : Int) < f.args.length := by omega
      have hlen := hA.len
      generalize f.args[k] = g at *
      go_wp2_with fail
      refine (size_any g _ _ _ hF (Nat.le_refl _) hEr (by omega)).mono ?_
      rintro e W5 ⟨rfl, hs5⟩
      replace hBr := hBr.trans (hs5.mono hBr.size)
      replace hEr := hEr.below hs5
      have hF5 := (hF.kept hs5 (Nat.le_refl _)).mono hs5.size
      obtain ⟨y0, y1, y2, y3, y4⟩ := Cells5.below (B := _) ⟨d0, (by rw [Nat.zero_add]; exact d1), (by rw [Nat.zero_add]; exact d2), (by rw [Nat.zero_add]; exact d3), (by rw [Nat.zero_add]; exact d4)⟩ hs5 hlt
      obtain ⟨x0, x1, x2, x3, x4⟩ := Cells5.below (B := _) ⟨e0, e1, e2, e3, e4⟩ hs5 hb
      rw [Nat.zero_add] at y1 y2 y3 y4
      clear d0 d1 d2 d3 d4 e0 e1 e2 e3 e4
      go_wp2_with fail
      refine (names_any g _ _ _ hF5 (Nat.le_refl _) hEr (by omega)).mono ?_
      rintro e W6 ⟨r6, rfl, hN, hs6⟩
      obtain ⟨o6, c6, rfl⟩ := hN.shape
      replace hBr := hBr.trans (hs6.mono hBr.size)
      clear y0 y1 y2 y3 y4 x0 x1 x2 x3 x4
      go_wp2_with fail
      go_roundw
      case rel => exact ⟨k + 1, by omega, by rw [hS.out]; go_num, by rw [hT.out]; go_num, by go_num, hBr⟩
      case measure => simp [intOf]; omega
    obtain rfl : k = f.args.length := by omega
    rw [List.take_length]
    go_wp2_with fail
    clear d0 d1 d2 d3 d4
    replace B2 := hidi (B2.out.below hBr)
    replace HB := HB.trans (hBr.mono HB.size)
    replace hEc := hEc.below hBr
    have hn : Hid ((f.nodes : Int) = ((1 + Fm.nodesL f.args : Nat) : Int)) := hidi (by rw [f.nodes_eq])
    have hm : Hid (f.op ≠ 3 → ((namesF f).length : Int) ≤ ((namesN f.args : Nat) : Int)) := hidi fun h => by have := parts_names h; omega
    rw [← hR13.out]
    refine par_r13 _ _ _ hEc (by rfl) (by rfl) (by rfl) (by rfl) B2 hn hm n1 ?_
    intro x4 V4 hs
    simp only [Act.put, List.setIfInBounds_toArray, List.set_cons_zero, List.set_cons_succ]
    replace B2 := hidi (B2.out.below hs)
    replace HB := HB.trans (hs.mono HB.size)
    replace hEc := hEc.below hs
    have hl0 : ((f.args.length : Int) == 0) = true := by rw [h0.out]; rfl
    obtain ⟨o2, c2, ⟨d20, d21, d22, d23, d24⟩, q2⟩ := B2.out.cells
    go_wp2_with fail
    clear d20 d21 d22 d23 d24
    go_ret
    exact ⟨rfl, HB⟩

set_option maxRecDepth 100000 in
set_option maxHeartbeats 8000000 in
theorem parts_one (hd : HeadOk) (f : Fm) (v1 : Value) (a : Int) (ha0 : 0 ≤ a) (ha1 : a ≤ 255) (w : World) (hE : Env w) (h1 : FAt w.heap.size w v1 f) (s1 : Hid (f.nodes ≤ 420)) (h0 : Hid (0 < f.args.length)) :
    Calls Tryz.prog 5 #[v1, .int .u8 a] w fun e w' => e = .returned (.bool true) ∧ Below w.heap.size w w' := by
  have n1 : f.nodes ≤ 1000 := by have := s1.out; omega
  have n2 : f.depth ≤ 1000 := by have := s1.out; have := Fm.depth_le_nodes f; omega
  obtain ⟨R4, hR4⟩ : ∃ R, Code.region 4 (opsAt Tryz.f5 4) false = R := ⟨_, rfl⟩
  unfold opsAt Tryz.f5 at hR4
  simp only [findRegion, Nat.reduceBEq, if_true, if_false, Bool.false_eq_true, Option.getD_some] at hR4
  replace hR4 := hidi hR4
  obtain ⟨R13, hR13⟩ : ∃ R, Code.region 13 (opsAt Tryz.f5 13) false = R := ⟨_, rfl⟩
  unfold opsAt Tryz.f5 at hR13
  simp only [findRegion, Nat.reduceBEq, if_true, if_false, Bool.false_eq_true, Option.getD_some] at hR13
  replace hR13 := hidi hR13
  obtain ⟨o1, c1, rfl, W0, hW0, HB, B2⟩ := bx1_open h1
  have hEc : Env W0 := hE.below HB
  go_enter Tryz.func5, Tryz.ntmps5
  rw [hR4.out, hR13.out]
  go_wp2_with fail
  unfold boxO at hW0
  rw [hW0.out]
  refine (hd _ hEc).mono ?_
  rintro e V1 ⟨rfl, hs⟩
  replace B2 := hidi (B2.out.below hs)
  replace HB := HB.trans (hs.mono HB.size)
  replace hEc := hEc.below hs
  obtain ⟨o2, c2, ⟨d20, d21, d22, d23, d24⟩, q2⟩ := B2.out.cells
  go_wp2_with fail
  clear d20 d21 d22 d23 d24
  refine (small420 f V1.heap.size _ V1 (fm_at q2) (Nat.le_refl _) s1).mono ?_
  rintro e V2 ⟨rfl, hs⟩
  replace B2 := hidi (B2.out.below hs)
  replace HB := HB.trans (hs.mono HB.size)
  replace hEc := hEc.below hs
  go_wp2_with fail
  rw [← hR4.out]
  refine par_r4 _ V2 _ hEc (by rfl) (by rfl) B2 n1 n2 ?_
  intro x3 V3 hs
  simp only [Act.put, List.setIfInBounds_toArray, List.set_cons_zero, List.set_cons_succ]
  replace B2 := hidi (B2.out.below hs)
  replace HB := HB.trans (hs.mono HB.size)
  replace hEc := hEc.below hs
  go_wp2_with fail
  have hnn : Fm.nodesL f.args ≤ 419 := by have := s1.out; rw [f.nodes_eq] at this; omega
  have hmm := namesN_nodes f.args
  go_loopw [6, 7, 8] (fun n m i wr => ∃ k : Nat, k ≤ f.args.length ∧ n = .int .i64 ((1 + Fm.nodesL (f.args.take k) : Nat) : Int) ∧ m = .int .i64 ((namesN (f.args.take k) : Nat) : Int) ∧ i = .int .i64 (k : Int) ∧ Below V3.heap.size V3 wr) (fun _ _ i _ => f.args.length - (intOf i).toNat)
  case atStart => exact ⟨0, Nat.zero_le _, by simp [Fm.nodesL_nil], by simp [namesN], rfl, Below.refl _ _⟩
  case round =>
    obtain ⟨k, hk, rfl, rfl, rfl, hBr⟩ := hrel
    obtain ⟨hlt, o, c, ⟨d0, d1, d2, d3, d4⟩, hfit, hA⟩ := (B2.out.below hBr)
    rw [Nat.zero_add] at d1 d2 d3 d4
    have hEr := hEc.below hBr
    by_cases hlt2 : k < f.args.length
    · obtain ⟨b, off, rfl, hb, hat⟩ := hA.at (by omega)
      obtain ⟨sl, ⟨e0, e1, e2, e3, e4⟩, hF⟩ := hat k hlt2
      have hS := hidi (Fm.nodesL_take hlt2)
      have hT := hidi (namesN_take hlt2)
      have hg2 := Fm.nodesL_take_le f.args (k + 1)
      have hg3 := namesN_nodes (f.args.take (k + 1))
      rw [hS.out] at hg2
      rw [hT.out, hS.out] at hg3
      have hg1 := names_nodes f.args[k]
      have j1 : (0 : Int) ≤ k := by omega
      have j2 : (k : Int) < f.args.length := by omega
      have hlen := hA.len
      generalize f.args[k] = g at *
      go_wp2_with fail
      refine (size_any g _ _ _ hF (Nat.le_refl _) hEr (by omega)).mono ?_
      rintro e W5 ⟨rfl, hs5⟩
      replace hBr := hBr.trans (hs5.mono hBr.size)
      replace hEr := hEr.below hs5
      have hF5 := (hF.kept hs5 (Nat.le_refl _)).mono hs5.size
      obtain ⟨y0, y1, y2, y3, y4⟩ := Cells5.below (B := _) ⟨d0, (by rw [Nat.zero_add]; exact d1), (by rw [Nat.zero_add]; exact d2), (by rw [Nat.zero_add]; exact d3), (by rw [Nat.zero_add]; exact d4)⟩ hs5 hlt
      obtain ⟨x0, x1, x2, x3, x4⟩ := Cells5.below (B := _) ⟨e0, e1, e2, e3, e4⟩ hs5 hb
      rw [Nat.zero_add] at y1 y2 y3 y4
      clear d0 d1 d2 d3 d4 e0 e1 e2 e3 e4
      go_wp2_with fail
      refine (names_any g _ _ _ hF5 (Nat.le_refl _) hEr (by omega)).mono ?_
      rintro e W6 ⟨r6, rfl, hN, hs6⟩
      obtain ⟨o6, c6, rfl⟩ := hN.shape
      replace hBr := hBr.trans (hs6.mono hBr.size)
      clear y0 y1 y2 y3 y4 x0 x1 x2 x3 x4
      go_wp2_with fail
      go_roundw
      case rel => exact ⟨k + 1, by omega, by rw [hS.out]; go_num, by rw [hT.out]; go_num, by go_num, hBr⟩
      case measure => simp [intOf]; omega
    obtain rfl : k = f.args.length := by omega
    rw [List.take_length]
    go_wp2_with fail
    clear d0 d1 d2 d3 d4
    replace B2 := hidi (B2.out.below hBr)
    replace HB := HB.trans (hBr.mono HB.size)
    replace hEc := hEc.below hBr
    have hn : Hid ((f.nodes : Int) = ((1 + Fm.nodesL f.args : Nat) : Int)) := hidi (by rw [f.nodes_eq])
    have hm : Hid (f.op ≠ 3 → ((namesF f).length : Int) ≤ ((namesN f.args : Nat) : Int)) := hidi fun h => by have := parts_names h; omega
    rw [← hR13.out]
    refine par_r13 _ _ _ hEc (by rfl) (by rfl) (by rfl) (by rfl) B2 hn hm n1 ?_
    intro x4 V4 hs
    simp only [Act.put, List.setIfInBounds_toArray, List.set_cons_zero, List.set_cons_succ]
    replace B2 := hidi (B2.out.below hs)
    replace HB := HB.trans (hs.mono HB.size)
    replace hEc := hEc.below hs
    have hl0 : ((f.args.length : Int) == 0) = false := beq_eq_false_iff_ne.2 (by have := h0.out; omega)
    obtain ⟨o2, c2, ⟨d20, d21, d22, d23, d24⟩, q2⟩ := B2.out.cells
    go_wp2_with fail
    clear d20 d21 d22 d23 d24
    obtain ⟨hlt, o, c, ⟨d0, d1, d2, d3, d4⟩, hfit, hA⟩ := B2.out
    rw [Nat.zero_add] at d1 d2 d3 d4
    obtain ⟨b, off, rfl, hb, hat⟩ := hA.at h0.out
    have hnn2 : (f.args.length : Int) ≠ 0 := by have := h0.out; omega
    have hm0 := Int.emod_nonneg a hnn2
    have hm1 := Int.emod_lt_of_pos a (show (0 : Int) < f.args.length by have := h0.out; omega)
    obtain ⟨j, hj⟩ : ∃ j : Nat, a % (f.args.length : Int) = (j : Int) := ⟨(a % (f.args.length : Int)).toNat, by omega⟩
    have htm : a.tmod (f.args.length : Int) = (j : Int) := by rw [Int.tmod_eq_emod_of_nonneg ha0, hj]
    have hne : ¬ f.args = [] := fun e => by have := h0.out; rw [e] at this; simp at this
    have hjl : j < f.args.length := by omega
    obtain ⟨sl, ⟨e0, e1, e2, e3, e4⟩, hF⟩ := hat j hjl
    have hmem := hidi (List.getElem_mem hjl)
    have j1 : (0 : Int) ≤ j := by omega
    have j2 : (j : Int) < f.args.length := by omega
    clear hat hm0 hm1
    generalize f.args[j] = g at *
    have hgn := parts_size hmem.out
    have ng : g.nodes ≤ 1000 := by omega
    have ngd : g.depth ≤ 1000 := by omega
    refine parts_r17 _ V4 _ (by rfl) (by rfl) (by rfl) hlt hb ha0 ha1 (hidi htm) hjl d4 ⟨e0, e1, e2, e3, e4⟩ hF ?_
    intro x17 V5 kg hs B9
    simp only [Act.put, List.setIfInBounds_toArray, List.set_cons_zero, List.set_cons_succ]
    replace B9 := hidi B9
    clear d0 d1 d2 d3 d4 e0 e1 e2 e3 e4
    replace B2 := hidi (B2.out.below hs)
    replace HB := HB.trans (hs.mono HB.size)
    replace hEc := hEc.below hs
    obtain ⟨o9, c9, ⟨d90, d91, d92, d93, d94⟩, q9⟩ := B9.out.cells
    go_wp2_with fail
    clear d90 d91 d92 d93 d94
    refine (names_any g V5.heap.size _ V5 (fm_at q9) (Nat.le_refl _) hEc (by omega)).mono ?_
    rintro e V6 ⟨r1, rfl, hN1, hs⟩
    replace hN1 := StrsP.mono hN1 fun b (hb : _ ∧ b < V6.heap.size) => hb.2
    obtain ⟨o1n, c1n, rfl⟩ := hN1.shape
    replace B2 := hidi (B2.out.below hs)
    replace B9 := hidi (B9.out.below hs)
    replace HB := HB.trans (hs.mono HB.size)
    replace hEc := hEc.below hs
    obtain ⟨o2, c2, ⟨d20, d21, d22, d23, d24⟩, q2⟩ := B2.out.cells
    go_wp2_with fail
    clear d20 d21 d22 d23 d24
    refine (names_any f V6.heap.size _ V6 (fm_at q2) (Nat.le_refl _) hEc (by omega)).mono ?_
    rintro e V7 ⟨r2, rfl, hN2, hs⟩
    replace hN2 := StrsP.mono hN2 fun b (hb : _ ∧ b < V7.heap.size) => hb.2
    replace hN1 := (StrsP.kept hN1 hs fun b hb => hb).mono fun b hb => Nat.lt_of_lt_of_le hb hs.size
    obtain ⟨o2n, c2n, rfl⟩ := hN2.shape
    replace B2 := hidi (B2.out.below hs)
    replace B9 := hidi (B9.out.below hs)
    replace HB := HB.trans (hs.mono HB.size)
    replace hEc := hEc.below hs
    obtain ⟨own, hown⟩ : ∃ x, Hid (namesF g = x) := ⟨_, hidi rfl⟩
    obtain ⟨all, hall⟩ : ∃ x, Hid (namesF f = x) := ⟨_, hidi rfl⟩
    have hsub : Hid (∀ x ∈ own, x ∈ all) := fun x hx => by rw [← hall.out]; exact parts_name hmem.out (by rw [hown.out]; exact hx)
    rw [hown.out] at hN1 ⊢
    rw [hall.out] at hN2 ⊢
    have hl1 := hN1.len
    have hl2 := hN2.len
    go_wp2_with fail
    go_loopw [12] (fun i wr => ∃ k : Nat, k ≤ own.length ∧ i = .int .i64 (k : Int) ∧ Below V7.heap.size V7 wr) (fun i _ => own.length - (intOf i).toNat)
    case atStart => exact ⟨0, Nat.zero_le _, rfl, Below.refl _ _⟩
    case round =>
      obtain ⟨k, hk, rfl, hBr⟩ := hrel
      by_cases hlt3 : k < own.length
      · obtain ⟨b1, f1, rfl, hb1, -, -, hc1⟩ := hN1.at (by omega)
        have z1 := (hBr.cell (p := ⟨b1, f1 + k, none⟩) hb1).trans (hc1 k hlt3).1
        have hy := hsub.out _ (List.getElem_mem hlt3)
        have k1 : (0 : Int) ≤ k := by omega
        have k2 : (k : Int) < own.length := by omega
        have hcy := hidi (hc1 k hlt3).1
        generalize own[k] = y at *
        have hyh := hidi hy
        clear hy hc1
        go_wp2_with fail
        go_loopw [13, 14] (fun u i2 wq => ∃ m : Nat, m ≤ all.length ∧ i2 = .int .i64 (m : Int) ∧ u = .bool ((all.take m).any fun x => x.toList == y.toList) ∧ Below V7.heap.size V7 wq) (fun _ i2 _ => all.length - (intOf i2).toNat)
        case atStart => exact ⟨0, Nat.zero_le _, rfl, by simp, hBr⟩
        case round =>
          clear z1 hBr
          obtain ⟨m, hm2, rfl, rfl, hBq⟩ := hrel
          by_cases hlt4 : m < all.length
          · obtain ⟨b2, f2, rfl, hb2, -, -, hc2⟩ := hN2.at (by omega)
            have m1 : (0 : Int) ≤ m := by omega
            have m2 : (m : Int) < all.length := by omega
            have hT : Hid ((all.take (m + 1)).any (fun x => x.toList == y.toList) = ((all.take m).any (fun x => x.toList == y.toList) || (all[m].toList == y.toList))) := by unfold Hid; rw [List.take_succ_eq_append_getElem hlt4, List.any_append]; simp
            have z2 := (hBq.cell (p := ⟨b2, f2 + m, none⟩) hb2).trans (hc2 m hlt4).1
            have z1 := (hBq.cell (p := ⟨b1, f1 + k, none⟩) hb1).trans hcy.out
            generalize all[m] = x at *
            cases hin : (all.take m).any fun x => x.toList == y.toList
            · cases heq : (x.toList == y.toList)
              · go_wp2_with fail
                go_quiet (fail)
                go_wp2_with fail
                go_roundw
                case rel => exact ⟨m + 1, by omega, by go_num, by rw [hT.out, hin, heq]; rfl, below_drewN hBq _⟩
                case measure => simp [intOf]; omega
              · go_wp2_with fail
                go_quiet (fail)
                go_wp2_with fail
                go_roundw
                case rel => exact ⟨m + 1, by omega, by go_num, by rw [hT.out, hin, heq]; rfl, below_drewN hBq _⟩
                case measure => simp [intOf]; omega
            · go_wp2_with fail
              go_quiet (fail)
              go_wp2_with fail
              go_roundw
              case rel => exact ⟨m + 1, by omega, by go_num, by rw [hT.out, hin]; rfl, below_drewN hBq _⟩
              case measure => simp [intOf]; omega
          · obtain rfl : m = all.length := by omega
            have hin : ((all.take all.length).any fun x => x.toList == y.toList) = true := by rw [List.take_length, List.any_eq_true]; exact ⟨y, hyh.out, by simp⟩
            rw [hin]
            go_wp2_with fail
            go_roundw
            case rel => exact ⟨k + 1, by omega, by go_num, hBq⟩
            case measure => simp [intOf]; omega
      obtain rfl : k = own.length := by omega
      replace B2 := hidi (B2.out.below hBr)
      replace B9 := hidi (B9.out.below hBr)
      replace HB := HB.trans (hBr.mono HB.size)
      replace hEc := hEc.below hBr
      have p0 : fvalidB f = false ∨ (fvalidB f = true ∧ fvalidB g = true) := by
        cases h : fvalidB f
        · exact .inl rfl
        · exact .inr ⟨rfl, parts_valid h hmem.out⟩
      have p1 : pastB f = false ∨ (pastB f = true ∧ pastB g = true) := by
        cases h : pastB f
        · exact .inl rfl
        · exact .inr ⟨rfl, parts_past h hmem.out⟩
      have p2 : layB f = false ∨ (layB f = true ∧ layB g = true) := by
        cases h : layB f
        · exact .inl rfl
        · exact .inr ⟨rfl, parts_lay h hmem.out⟩
      have p3 : kernelB f = false ∨ (kernelB f = true ∧ kernelB g = true) := by
        cases h : kernelB f
        · exact .inl rfl
        · exact .inr ⟨rfl, parts_kernel h hmem.out⟩
      obtain ⟨o2, c2, ⟨d20, d21, d22, d23, d24⟩, q2⟩ := B2.out.cells
      go_wp2_with fail
      clear d20 d21 d22 d23 d24
      refine (fvalid_any f _ _ _ (fm_at q2) (Nat.le_refl _) hEc (by omega)).mono ?_
      rintro e V8 ⟨rfl, hs⟩
      replace B2 := hidi (B2.out.below hs)
      replace B9 := hidi (B9.out.below hs)
      replace HB := HB.trans (hs.mono HB.size)
      replace hEc := hEc.below hs
      rcases p0 with h | ⟨h, h'⟩
      · rw [h]
        obtain ⟨o2, c2, ⟨d20, d21, d22, d23, d24⟩, q2⟩ := B2.out.cells
        go_wp2_with fail
        clear d20 d21 d22 d23 d24
        refine (past_any f _ _ _ (fm_at q2) (Nat.le_refl _) hEc (by omega)).mono ?_
        rintro e V9 ⟨rfl, hs⟩
        replace B2 := hidi (B2.out.below hs)
        replace B9 := hidi (B9.out.below hs)
        replace HB := HB.trans (hs.mono HB.size)
        replace hEc := hEc.below hs
        rcases p1 with h | ⟨h, h'⟩
        · rw [h]
          obtain ⟨o2, c2, ⟨d20, d21, d22, d23, d24⟩, q2⟩ := B2.out.cells
          go_wp2_with fail
          clear d20 d21 d22 d23 d24
          refine (layered_any f _ _ _ (fm_at q2) (Nat.le_refl _) hEc (by omega)).mono ?_
          rintro e V10 ⟨rfl, hs⟩
          replace B2 := hidi (B2.out.below hs)
          replace B9 := hidi (B9.out.below hs)
          replace HB := HB.trans (hs.mono HB.size)
          replace hEc := hEc.below hs
          rcases p2 with h | ⟨h, h'⟩
          · rw [h]
            obtain ⟨o2, c2, ⟨d20, d21, d22, d23, d24⟩, q2⟩ := B2.out.cells
            go_wp2_with fail
            clear d20 d21 d22 d23 d24
            refine (iskernel_any f _ _ _ (fm_at q2) (Nat.le_refl _) hEc (by omega)).mono ?_
            rintro e V11 ⟨rfl, hs⟩
            replace B2 := hidi (B2.out.below hs)
            replace B9 := hidi (B9.out.below hs)
            replace HB := HB.trans (hs.mono HB.size)
            replace hEc := hEc.below hs
            rcases p3 with h | ⟨h, h'⟩
            · rw [h]
              go_wp2_with fail
              go_ret
              exact ⟨rfl, HB⟩
            · rw [h]
              obtain ⟨o9, c9, ⟨d90, d91, d92, d93, d94⟩, q9⟩ := B9.out.cells
              go_wp2_with fail
              clear d90 d91 d92 d93 d94
              refine (iskernel_any g _ _ _ (fm_at q9) (Nat.le_refl _) hEc (by omega)).mono ?_
              rintro e V12 ⟨rfl, hs⟩
              rw [h']
              replace B2 := hidi (B2.out.below hs)
              replace B9 := hidi (B9.out.below hs)
              replace HB := HB.trans (hs.mono HB.size)
              replace hEc := hEc.below hs
              go_wp2_with fail
              go_ret
              exact ⟨rfl, HB⟩
          · rw [h]
            obtain ⟨o9, c9, ⟨d90, d91, d92, d93, d94⟩, q9⟩ := B9.out.cells
            go_wp2_with fail
            clear d90 d91 d92 d93 d94
            refine (layered_any g _ _ _ (fm_at q9) (Nat.le_refl _) hEc (by omega)).mono ?_
            rintro e V13 ⟨rfl, hs⟩
            rw [h']
            replace B2 := hidi (B2.out.below hs)
            replace B9 := hidi (B9.out.below hs)
            replace HB := HB.trans (hs.mono HB.size)
            replace hEc := hEc.below hs
            obtain ⟨o2, c2, ⟨d20, d21, d22, d23, d24⟩, q2⟩ := B2.out.cells
            go_wp2_with fail
            clear d20 d21 d22 d23 d24
            refine (iskernel_any f _ _ _ (fm_at q2) (Nat.le_refl _) hEc (by omega)).mono ?_
            rintro e V14 ⟨rfl, hs⟩
            replace B2 := hidi (B2.out.below hs)
            replace B9 := hidi (B9.out.below hs)
            replace HB := HB.trans (hs.mono HB.size)
            replace hEc := hEc.below hs
            rcases p3 with h | ⟨h, h'⟩
            · rw [h]
              go_wp2_with fail
              go_ret
              exact ⟨rfl, HB⟩
            · rw [h]
              obtain ⟨o9, c9, ⟨d90, d91, d92, d93, d94⟩, q9⟩ := B9.out.cells
              go_wp2_with fail
              clear d90 d91 d92 d93 d94
              refine (iskernel_any g _ _ _ (fm_at q9) (Nat.le_refl _) hEc (by omega)).mono ?_
              rintro e V15 ⟨rfl, hs⟩
              rw [h']
              replace B2 := hidi (B2.out.below hs)
              replace B9 := hidi (B9.out.below hs)
              replace HB := HB.trans (hs.mono HB.size)
              replace hEc := hEc.below hs
              go_wp2_with fail
              go_ret
              exact ⟨rfl, HB⟩
        · rw [h]
          obtain ⟨o9, c9, ⟨d90, d91, d92, d93, d94⟩, q9⟩ := B9.out.cells
          go_wp2_with fail
          clear d90 d91 d92 d93 d94
          refine (past_any g _ _ _ (fm_at q9) (Nat.le_refl _) hEc (by omega)).mono ?_
          rintro e V16 ⟨rfl, hs⟩
          rw [h']
          replace B2 := hidi (B2.out.below hs)
          replace B9 := hidi (B9.out.below hs)
          replace HB := HB.trans (hs.mono HB.size)
          replace hEc := hEc.below hs
          obtain ⟨o2, c2, ⟨d20, d21, d22, d23, d24⟩, q2⟩ := B2.out.cells
          go_wp2_with fail
          clear d20 d21 d22 d23 d24
          refine (layered_any f _ _ _ (fm_at q2) (Nat.le_refl _) hEc (by omega)).mono ?_
          rintro e V17 ⟨rfl, hs⟩
          replace B2 := hidi (B2.out.below hs)
          replace B9 := hidi (B9.out.below hs)
          replace HB := HB.trans (hs.mono HB.size)
          replace hEc := hEc.below hs
          rcases p2 with h | ⟨h, h'⟩
          · rw [h]
            obtain ⟨o2, c2, ⟨d20, d21, d22, d23, d24⟩, q2⟩ := B2.out.cells
            go_wp2_with fail
            clear d20 d21 d22 d23 d24
            refine (iskernel_any f _ _ _ (fm_at q2) (Nat.le_refl _) hEc (by omega)).mono ?_
            rintro e V18 ⟨rfl, hs⟩
            replace B2 := hidi (B2.out.below hs)
            replace B9 := hidi (B9.out.below hs)
            replace HB := HB.trans (hs.mono HB.size)
            replace hEc := hEc.below hs
            rcases p3 with h | ⟨h, h'⟩
            · rw [h]
              go_wp2_with fail
              go_ret
              exact ⟨rfl, HB⟩
            · rw [h]
              obtain ⟨o9, c9, ⟨d90, d91, d92, d93, d94⟩, q9⟩ := B9.out.cells
              go_wp2_with fail
              clear d90 d91 d92 d93 d94
              refine (iskernel_any g _ _ _ (fm_at q9) (Nat.le_refl _) hEc (by omega)).mono ?_
              rintro e V19 ⟨rfl, hs⟩
              rw [h']
              replace B2 := hidi (B2.out.below hs)
              replace B9 := hidi (B9.out.below hs)
              replace HB := HB.trans (hs.mono HB.size)
              replace hEc := hEc.below hs
              go_wp2_with fail
              go_ret
              exact ⟨rfl, HB⟩
          · rw [h]
            obtain ⟨o9, c9, ⟨d90, d91, d92, d93, d94⟩, q9⟩ := B9.out.cells
            go_wp2_with fail
            clear d90 d91 d92 d93 d94
            refine (layered_any g _ _ _ (fm_at q9) (Nat.le_refl _) hEc (by omega)).mono ?_
            rintro e V20 ⟨rfl, hs⟩
            rw [h']
            replace B2 := hidi (B2.out.below hs)
            replace B9 := hidi (B9.out.below hs)
            replace HB := HB.trans (hs.mono HB.size)
            replace hEc := hEc.below hs
            obtain ⟨o2, c2, ⟨d20, d21, d22, d23, d24⟩, q2⟩ := B2.out.cells
            go_wp2_with fail
            clear d20 d21 d22 d23 d24
            refine (iskernel_any f _ _ _ (fm_at q2) (Nat.le_refl _) hEc (by omega)).mono ?_
            rintro e V21 ⟨rfl, hs⟩
            replace B2 := hidi (B2.out.below hs)
            replace B9 := hidi (B9.out.below hs)
            replace HB := HB.trans (hs.mono HB.size)
            replace hEc := hEc.below hs
            rcases p3 with h | ⟨h, h'⟩
            · rw [h]
              go_wp2_with fail
              go_ret
              exact ⟨rfl, HB⟩
            · rw [h]
              obtain ⟨o9, c9, ⟨d90, d91, d92, d93, d94⟩, q9⟩ := B9.out.cells
              go_wp2_with fail
              clear d90 d91 d92 d93 d94
              refine (iskernel_any g _ _ _ (fm_at q9) (Nat.le_refl _) hEc (by omega)).mono ?_
              rintro e V22 ⟨rfl, hs⟩
              rw [h']
              replace B2 := hidi (B2.out.below hs)
              replace B9 := hidi (B9.out.below hs)
              replace HB := HB.trans (hs.mono HB.size)
              replace hEc := hEc.below hs
              go_wp2_with fail
              go_ret
              exact ⟨rfl, HB⟩
      · rw [h]
        obtain ⟨o9, c9, ⟨d90, d91, d92, d93, d94⟩, q9⟩ := B9.out.cells
        go_wp2_with fail
        clear d90 d91 d92 d93 d94
        refine (fvalid_any g _ _ _ (fm_at q9) (Nat.le_refl _) hEc (by omega)).mono ?_
        rintro e V23 ⟨rfl, hs⟩
        rw [h']
        replace B2 := hidi (B2.out.below hs)
        replace B9 := hidi (B9.out.below hs)
        replace HB := HB.trans (hs.mono HB.size)
        replace hEc := hEc.below hs
        obtain ⟨o2, c2, ⟨d20, d21, d22, d23, d24⟩, q2⟩ := B2.out.cells
        go_wp2_with fail
        clear d20 d21 d22 d23 d24
        refine (past_any f _ _ _ (fm_at q2) (Nat.le_refl _) hEc (by omega)).mono ?_
        rintro e V24 ⟨rfl, hs⟩
        replace B2 := hidi (B2.out.below hs)
        replace B9 := hidi (B9.out.below hs)
        replace HB := HB.trans (hs.mono HB.size)
        replace hEc := hEc.below hs
        rcases p1 with h | ⟨h, h'⟩
        · rw [h]
          obtain ⟨o2, c2, ⟨d20, d21, d22, d23, d24⟩, q2⟩ := B2.out.cells
          go_wp2_with fail
          clear d20 d21 d22 d23 d24
          refine (layered_any f _ _ _ (fm_at q2) (Nat.le_refl _) hEc (by omega)).mono ?_
          rintro e V25 ⟨rfl, hs⟩
          replace B2 := hidi (B2.out.below hs)
          replace B9 := hidi (B9.out.below hs)
          replace HB := HB.trans (hs.mono HB.size)
          replace hEc := hEc.below hs
          rcases p2 with h | ⟨h, h'⟩
          · rw [h]
            obtain ⟨o2, c2, ⟨d20, d21, d22, d23, d24⟩, q2⟩ := B2.out.cells
            go_wp2_with fail
            clear d20 d21 d22 d23 d24
            refine (iskernel_any f _ _ _ (fm_at q2) (Nat.le_refl _) hEc (by omega)).mono ?_
            rintro e V26 ⟨rfl, hs⟩
            replace B2 := hidi (B2.out.below hs)
            replace B9 := hidi (B9.out.below hs)
            replace HB := HB.trans (hs.mono HB.size)
            replace hEc := hEc.below hs
            rcases p3 with h | ⟨h, h'⟩
            · rw [h]
              go_wp2_with fail
              go_ret
              exact ⟨rfl, HB⟩
            · rw [h]
              obtain ⟨o9, c9, ⟨d90, d91, d92, d93, d94⟩, q9⟩ := B9.out.cells
              go_wp2_with fail
              clear d90 d91 d92 d93 d94
              refine (iskernel_any g _ _ _ (fm_at q9) (Nat.le_refl _) hEc (by omega)).mono ?_
              rintro e V27 ⟨rfl, hs⟩
              rw [h']
              replace B2 := hidi (B2.out.below hs)
              replace B9 := hidi (B9.out.below hs)
              replace HB := HB.trans (hs.mono HB.size)
              replace hEc := hEc.below hs
              go_wp2_with fail
              go_ret
              exact ⟨rfl, HB⟩
          · rw [h]
            obtain ⟨o9, c9, ⟨d90, d91, d92, d93, d94⟩, q9⟩ := B9.out.cells
            go_wp2_with fail
            clear d90 d91 d92 d93 d94
            refine (layered_any g _ _ _ (fm_at q9) (Nat.le_refl _) hEc (by omega)).mono ?_
            rintro e V28 ⟨rfl, hs⟩
            rw [h']
            replace B2 := hidi (B2.out.below hs)
            replace B9 := hidi (B9.out.below hs)
            replace HB := HB.trans (hs.mono HB.size)
            replace hEc := hEc.below hs
            obtain ⟨o2, c2, ⟨d20, d21, d22, d23, d24⟩, q2⟩ := B2.out.cells
            go_wp2_with fail
            clear d20 d21 d22 d23 d24
            refine (iskernel_any f _ _ _ (fm_at q2) (Nat.le_refl _) hEc (by omega)).mono ?_
            rintro e V29 ⟨rfl, hs⟩
            replace B2 := hidi (B2.out.below hs)
            replace B9 := hidi (B9.out.below hs)
            replace HB := HB.trans (hs.mono HB.size)
            replace hEc := hEc.below hs
            rcases p3 with h | ⟨h, h'⟩
            · rw [h]
              go_wp2_with fail
              go_ret
              exact ⟨rfl, HB⟩
            · rw [h]
              obtain ⟨o9, c9, ⟨d90, d91, d92, d93, d94⟩, q9⟩ := B9.out.cells
              go_wp2_with fail
              clear d90 d91 d92 d93 d94
              refine (iskernel_any g _ _ _ (fm_at q9) (Nat.le_refl _) hEc (by omega)).mono ?_
              rintro e V30 ⟨rfl, hs⟩
              rw [h']
              replace B2 := hidi (B2.out.below hs)
              replace B9 := hidi (B9.out.below hs)
              replace HB := HB.trans (hs.mono HB.size)
              replace hEc := hEc.below hs
              go_wp2_with fail
              go_ret
              exact ⟨rfl, HB⟩
        · rw [h]
          obtain ⟨o9, c9, ⟨d90, d91, d92, d93, d94⟩, q9⟩ := B9.out.cells
          go_wp2_with fail
          clear d90 d91 d92 d93 d94
          refine (past_any g _ _ _ (fm_at q9) (Nat.le_refl _) hEc (by omega)).mono ?_
          rintro e V31 ⟨rfl, hs⟩
          rw [h']
          replace B2 := hidi (B2.out.below hs)
          replace B9 := hidi (B9.out.below hs)
          replace HB := HB.trans (hs.mono HB.size)
          replace hEc := hEc.below hs
          obtain ⟨o2, c2, ⟨d20, d21, d22, d23, d24⟩, q2⟩ := B2.out.cells
          go_wp2_with fail
          clear d20 d21 d22 d23 d24
          refine (layered_any f _ _ _ (fm_at q2) (Nat.le_refl _) hEc (by omega)).mono ?_
          rintro e V32 ⟨rfl, hs⟩
          replace B2 := hidi (B2.out.below hs)
          replace B9 := hidi (B9.out.below hs)
          replace HB := HB.trans (hs.mono HB.size)
          replace hEc := hEc.below hs
          rcases p2 with h | ⟨h, h'⟩
          · rw [h]
            obtain ⟨o2, c2, ⟨d20, d21, d22, d23, d24⟩, q2⟩ := B2.out.cells
            go_wp2_with fail
            clear d20 d21 d22 d23 d24
            refine (iskernel_any f _ _ _ (fm_at q2) (Nat.le_refl _) hEc (by omega)).mono ?_
            rintro e V33 ⟨rfl, hs⟩
            replace B2 := hidi (B2.out.below hs)
            replace B9 := hidi (B9.out.below hs)
            replace HB := HB.trans (hs.mono HB.size)
            replace hEc := hEc.below hs
            rcases p3 with h | ⟨h, h'⟩
            · rw [h]
              go_wp2_with fail
              go_ret
              exact ⟨rfl, HB⟩
            · rw [h]
              obtain ⟨o9, c9, ⟨d90, d91, d92, d93, d94⟩, q9⟩ := B9.out.cells
              go_wp2_with fail
              clear d90 d91 d92 d93 d94
              refine (iskernel_any g _ _ _ (fm_at q9) (Nat.le_refl _) hEc (by omega)).mono ?_
              rintro e V34 ⟨rfl, hs⟩
              rw [h']
              replace B2 := hidi (B2.out.below hs)
              replace B9 := hidi (B9.out.below hs)
              replace HB := HB.trans (hs.mono HB.size)
              replace hEc := hEc.below hs
              go_wp2_with fail
              go_ret
              exact ⟨rfl, HB⟩
          · rw [h]
            obtain ⟨o9, c9, ⟨d90, d91, d92, d93, d94⟩, q9⟩ := B9.out.cells
            go_wp2_with fail
            clear d90 d91 d92 d93 d94
            refine (layered_any g _ _ _ (fm_at q9) (Nat.le_refl _) hEc (by omega)).mono ?_
            rintro e V35 ⟨rfl, hs⟩
            rw [h']
            replace B2 := hidi (B2.out.below hs)
            replace B9 := hidi (B9.out.below hs)
            replace HB := HB.trans (hs.mono HB.size)
            replace hEc := hEc.below hs
            obtain ⟨o2, c2, ⟨d20, d21, d22, d23, d24⟩, q2⟩ := B2.out.cells
            go_wp2_with fail
            clear d20 d21 d22 d23 d24
            refine (iskernel_any f _ _ _ (fm_at q2) (Nat.le_refl _) hEc (by omega)).mono ?_
            rintro e V36 ⟨rfl, hs⟩
            replace B2 := hidi (B2.out.below hs)
            replace B9 := hidi (B9.out.below hs)
            replace HB := HB.trans (hs.mono HB.size)
            replace hEc := hEc.below hs
            rcases p3 with h | ⟨h, h'⟩
            · rw [h]
              go_wp2_with fail
              go_ret
              exact ⟨rfl, HB⟩
            · rw [h]
              obtain ⟨o9, c9, ⟨d90, d91, d92, d93, d94⟩, q9⟩ := B9.out.cells
              go_wp2_with fail
              clear d90 d91 d92 d93 d94
              refine (iskernel_any g _ _ _ (fm_at q9) (Nat.le_refl _) hEc (by omega)).mono ?_
              rintro e V37 ⟨rfl, hs⟩
              rw [h']
              replace B2 := hidi (B2.out.below hs)
              replace B9 := hidi (B9.out.below hs)
              replace HB := HB.trans (hs.mono HB.size)
              replace hEc := hEc.below hs
              go_wp2_with fail
              go_ret
              exact ⟨rfl, HB⟩

theorem parts_any (hd : HeadOk) (f : Fm) (v1 : Value) (a : Int) (w : World) (hE : Env w) (h1 : FAt w.heap.size w v1 f) (ha0 : 0 ≤ a) (ha1 : a ≤ 255) :
    Calls Tryz.prog 5 #[v1, .int .u8 a] w fun e w' => e = .returned (.bool true) ∧ Below w.heap.size w w' := by
  by_cases s1 : f.nodes ≤ 420
  · by_cases h0 : f.args.length = 0
    · exact parts_none hd f v1 a ha0 ha1 w hE h1 (hidi s1) (hidi h0)
    · exact parts_one hd f v1 a ha0 ha1 w hE h1 (hidi s1) (hidi (by omega))
  · exact parts_big hd f v1 a w hE h1 (hidi s1)

end Go.Proofs.YtlkoacopknolnaaGreatDoor
