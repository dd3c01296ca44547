/-
  The walk of the law FormulaExpansion, given the contract of the law's head.
-/
import Derived.Test.YtlkoacopknolnaaGreatDoorFjC
import Derived.Test.YtlkoacopknolnaaGreatDoorFjE
import Derived.Test.YtlkoacopknolnaaGreatDoorFjF
import Derived.Test.YtlkoacopknolnaaGreatDoorFjG
import Derived.Test.YtlkoacopknolnaaGreatDoorFiE
namespace Go.Proofs.YtlkoacopknolnaaGreatDoor
open Go.RowKit

theorem small60 (f : Fm) (B : Nat) (v : Value) (w : World) (hv : FAt B w v f) (hBw : B ≤ w.heap.size) (hn : Hid (f.nodes ≤ 60)) :
    Calls Tryz.prog 13 #[v, .int .i64 60] w fun e w' => e = .returned (.bool true) ∧ Below w.heap.size w w' := by
  have := refsmall_any f B v 60 w hv hBw (by omega)
  rw [decide_eq_true hn.out] at this
  exact this
theorem small60_no (f : Fm) (B : Nat) (v : Value) (w : World) (hv : FAt B w v f) (hBw : B ≤ w.heap.size) (hn : Hid (¬ f.nodes ≤ 60)) :
    Calls Tryz.prog 13 #[v, .int .i64 60] w fun e w' => e = .returned (.bool false) ∧ Below w.heap.size w w' := by
  have := refsmall_any f B v 60 w hv hBw (by omega)
  rw [decide_eq_false hn.out] at this
  exact this
/-- a formula in a row, and a formula of it in a box -/
theorem bx_row1 {w : World} {f : Fm} {o : Option Addr} {c : Nat} (op n : Int) (hop : I64 op) (hn : I64 n) (h : (Fq.fmF f).holds (fun _ => True) (.agg #[.int .i64 f.op, .string f.name, .int .i64 f.val, .int .i64 f.bound, .slice o f.args.length c]) w) (k : Nat) (hk : w.heap.size = k) :
    ∃ W, Hid ((w.alloc (.cells #[.int .i64 f.op, .string f.name, .int .i64 f.val, .int .i64 f.bound, .slice o f.args.length c] 24)).alloc (.cells #[.int .i64 op, .string ⟨#[]⟩, .int .i64 0, .int .i64 n, .slice (some ⟨k, 0, none⟩) 1 1] 24) = W) ∧ Below w.heap.size w W ∧ Hid (Bx W (k + 1) (.mk op ⟨#[]⟩ 0 n [f])) ∧ Hid (W.heap.size = k + 1 + 1) := by
  subst hk
  obtain ⟨o1, c1, e1, q1, a1⟩ := fq_open h
  cases e1
  have hr := fms_new1 q1 a1
  have hz : (w.alloc (.cells #[.int .i64 f.op, .string f.name, .int .i64 f.val, .int .i64 f.bound, .slice o f.args.length c] 24)).heap.size = w.heap.size + 1 := by simp
  have hB := below_box w (.cells #[.int .i64 f.op, .string f.name, .int .i64 f.val, .int .i64 f.bound, .slice o f.args.length c] 24)
  generalize w.alloc (.cells #[.int .i64 f.op, .string f.name, .int .i64 f.val, .int .i64 f.bound, .slice o f.args.length c] 24) = W1 at hr hz hB
  obtain ⟨b, x⟩ := bx_alloc (w := W1) (f := .mk op ⟨#[]⟩ 0 n [f]) (o := some ⟨w.heap.size, 0, none⟩) (c := 1) ⟨hop, size_0, i64_0, hn⟩ hr
  rw [hz] at x
  exact ⟨_, hidi rfl, hB.trans (b.mono hB.size), hidi x, hidi (by simp [hz])⟩

set_option maxRecDepth 100000 in
set_option maxHeartbeats 8000000 in
theorem exp_big0 (hd : HeadOk) (f g : Fm) (v1 v2 : Value) (a : Int) (w : World) (hE : Env w) (h1 : FAt w.heap.size w v1 f) (h2 : FAt w.heap.size w v2 g) (s1 : Hid (¬ f.nodes ≤ 60)) :
    Calls Tryz.prog 8 #[v1, v2, .int .u8 a] w fun e w' => e = .returned (.bool true) ∧ Below w.heap.size w w' := by
  obtain ⟨o1, c1, o2, c2, rfl, rfl, W0, hW0, HB, B3, B4⟩ := bx2_open h1 h2
  have hEc : Env W0 := hE.below HB
  go_enter Tryz.func8, Tryz.ntmps8
  go_wp2_with fail
  unfold boxO at hW0
  rw [hW0.out]
  refine (hd _ hEc).mono ?_
  rintro e V1 ⟨rfl, hs⟩
  replace B3 := hidi (B3.out.below hs)
  replace B4 := hidi (B4.out.below hs)
  replace HB := HB.trans (hs.mono HB.size)
  replace hEc := hEc.below hs
  obtain ⟨o3, c3, ⟨d30, d31, d32, d33, d34⟩, q3⟩ := B3.out.cells
  go_wp2_with fail
  clear d30 d31 d32 d33 d34
  refine (small60_no f V1.heap.size _ V1 (fm_at q3) (Nat.le_refl _) s1).mono ?_
  rintro e V2 ⟨rfl, hs⟩
  replace B3 := hidi (B3.out.below hs)
  replace B4 := hidi (B4.out.below hs)
  replace HB := HB.trans (hs.mono HB.size)
  replace hEc := hEc.below hs
  go_wp2_with fail
  go_ret
  exact ⟨rfl, HB⟩

set_option maxRecDepth 100000 in
set_option maxHeartbeats 8000000 in
theorem exp_big1 (hd : HeadOk) (f g : Fm) (v1 v2 : Value) (a : Int) (w : World) (hE : Env w) (h1 : FAt w.heap.size w v1 f) (h2 : FAt w.heap.size w v2 g) (s1 : Hid (f.nodes ≤ 60)) (s2 : Hid (¬ g.nodes ≤ 60)) :
    Calls Tryz.prog 8 #[v1, v2, .int .u8 a] w fun e w' => e = .returned (.bool true) ∧ Below w.heap.size w w' := by
  obtain ⟨o1, c1, o2, c2, rfl, rfl, W0, hW0, HB, B3, B4⟩ := bx2_open h1 h2
  have hEc : Env W0 := hE.below HB
  go_enter Tryz.func8, Tryz.ntmps8
  go_wp2_with fail
  unfold boxO at hW0
  rw [hW0.out]
  refine (hd _ hEc).mono ?_
  rintro e V1 ⟨rfl, hs⟩
  replace B3 := hidi (B3.out.below hs)
  replace B4 := hidi (B4.out.below hs)
  replace HB := HB.trans (hs.mono HB.size)
  replace hEc := hEc.below hs
  obtain ⟨o3, c3, ⟨d30, d31, d32, d33, d34⟩, q3⟩ := B3.out.cells
  go_wp2_with fail
  clear d30 d31 d32 d33 d34
  refine (small60 f V1.heap.size _ V1 (fm_at q3) (Nat.le_refl _) s1).mono ?_
  rintro e V2 ⟨rfl, hs⟩
  replace B3 := hidi (B3.out.below hs)
  replace B4 := hidi (B4.out.below hs)
  replace HB := HB.trans (hs.mono HB.size)
  replace hEc := hEc.below hs
  obtain ⟨o4, c4, ⟨d40, d41, d42, d43, d44⟩, q4⟩ := B4.out.cells
  go_wp2_with fail
  clear d40 d41 d42 d43 d44
  refine (small60_no g V2.heap.size _ V2 (fm_at q4) (Nat.le_refl _) s2).mono ?_
  rintro e V3 ⟨rfl, hs⟩
  replace B3 := hidi (B3.out.below hs)
  replace B4 := hidi (B4.out.below hs)
  replace HB := HB.trans (hs.mono HB.size)
  replace hEc := hEc.below hs
  go_wp2_with fail
  go_ret
  exact ⟨rfl, HB⟩

set_option maxRecDepth 100000 in
set_option maxHeartbeats 8000000 in
theorem exp_low0 (hd : HeadOk) (f g : Fm) (v1 v2 : Value) (a : Int) (ha0 : 0 ≤ a) (ha1 : a ≤ 255) (w : World) (hE : Env w) (h1 : FAt w.heap.size w v1 f) (h2 : FAt w.heap.size w v2 g) (s1 : Hid (f.nodes ≤ 60)) (s2 : Hid (g.nodes ≤ 60)) (hv : Hid (a % 2 = 0)) :
    Calls Tryz.prog 8 #[v1, v2, .int .u8 a] w fun e w' => e = .returned (.bool true) ∧ Below w.heap.size w w' := by
  have n_f : f.nodes ≤ 1000 := by have := s1.out; omega
  have n_g : g.nodes ≤ 1000 := by have := s2.out; omega
  have n_t : fTrue.nodes ≤ 1000 := by decide
  have hz0 : (0 : Int) ≤ a % 9 := by omega
  have hz1 : a % 9 ≤ 8 := by omega
  have n_wi : (Fm.mk 13 ⟨#[]⟩ 0 (a % 9) [f]).nodes ≤ 1000 := by simp only [nodes_mk1, Fm.nodesL_cons, Fm.nodesL_nil]; have := s1.out; have := s2.out; omega
  have n_du : (Fm.mk 14 ⟨#[]⟩ 0 (a % 9) [f]).nodes ≤ 1000 := by simp only [nodes_mk1, Fm.nodesL_cons, Fm.nodesL_nil]; have := s1.out; have := s2.out; omega
  have n_mo : (Fm.mk 13 ⟨#[]⟩ 0 (a % 9 + 1) [f]).nodes ≤ 1000 := by simp only [nodes_mk1, Fm.nodesL_cons, Fm.nodesL_nil]; have := s1.out; have := s2.out; omega
  have n_lo : (Fm.mk 14 ⟨#[]⟩ 0 (a % 9 + 1) [f]).nodes ≤ 1000 := by simp only [nodes_mk1, Fm.nodesL_cons, Fm.nodesL_nil]; have := s1.out; have := s2.out; omega
  have n_no : (Fm.mk 4 ⟨#[]⟩ 0 0 [f]).nodes ≤ 1000 := by simp only [nodes_mk1, Fm.nodesL_cons, Fm.nodesL_nil]; have := s1.out; have := s2.out; omega
  have n_ot : (Fm.mk 4 ⟨#[]⟩ 0 0 [g]).nodes ≤ 1000 := by simp only [nodes_mk1, Fm.nodesL_cons, Fm.nodesL_nil]; have := s1.out; have := s2.out; omega
  obtain ⟨o1, c1, o2, c2, rfl, rfl, W0, hW0, HB, B3, B4⟩ := bx2_open h1 h2
  have hEc : Env W0 := hE.below HB
  go_enter Tryz.func8, Tryz.ntmps8
  go_wp2_with fail
  unfold boxO at hW0
  rw [hW0.out]
  refine (hd _ hEc).mono ?_
  rintro e V1 ⟨rfl, hs⟩
  replace B3 := hidi (B3.out.below hs)
  replace B4 := hidi (B4.out.below hs)
  replace HB := HB.trans (hs.mono HB.size)
  replace hEc := hEc.below hs
  obtain ⟨o3, c3, ⟨d30, d31, d32, d33, d34⟩, q3⟩ := B3.out.cells
  go_wp2_with fail
  clear d30 d31 d32 d33 d34
  refine (small60 f V1.heap.size _ V1 (fm_at q3) (Nat.le_refl _) s1).mono ?_
  rintro e V2 ⟨rfl, hs⟩
  replace B3 := hidi (B3.out.below hs)
  replace B4 := hidi (B4.out.below hs)
  replace HB := HB.trans (hs.mono HB.size)
  replace hEc := hEc.below hs
  obtain ⟨o4, c4, ⟨d40, d41, d42, d43, d44⟩, q4⟩ := B4.out.cells
  go_wp2_with fail
  clear d40 d41 d42 d43 d44
  refine (small60 g V2.heap.size _ V2 (fm_at q4) (Nat.le_refl _) s2).mono ?_
  rintro e V3 ⟨rfl, hs⟩
  replace B3 := hidi (B3.out.below hs)
  replace B4 := hidi (B4.out.below hs)
  replace HB := HB.trans (hs.mono HB.size)
  replace hEc := hEc.below hs
  obtain ⟨oa, ca, ⟨da0, da1, da2, da3, da4⟩, qa⟩ := B3.out.cells
  obtain ⟨Wa, hWa, hsa, B9, za⟩ := bx_row1 13 (a % 9) ⟨by decide, by decide⟩ ⟨by omega, by omega⟩ qa (V3.heap.size) rfl
  have B3a := hidi (B3.out.below hsa)
  obtain ⟨ob, cb, ⟨db0, db1, db2, db3, db4⟩, qb⟩ := B3a.out.cells
  obtain ⟨Wb, hWb, hsb, B10, zb⟩ := bx_row1 14 (a % 9) ⟨by decide, by decide⟩ ⟨by omega, by omega⟩ qb (V3.heap.size + 1 + 1) za.out
  have B3b := hidi (B3a.out.below hsb)
  obtain ⟨oc, cc, ⟨dc0, dc1, dc2, dc3, dc4⟩, qc⟩ := B3b.out.cells
  obtain ⟨Wc, hWc, hsc, B11, zc⟩ := bx_row1 13 (a % 9 + 1) ⟨by decide, by decide⟩ ⟨by omega, by omega⟩ qc (V3.heap.size + 1 + 1 + 1 + 1) zb.out
  have B3c := hidi (B3b.out.below hsc)
  obtain ⟨od, cd, ⟨dd0, dd1, dd2, dd3, dd4⟩, qd⟩ := B3c.out.cells
  obtain ⟨Wd, hWd, hsd, B12, zd⟩ := bx_row1 14 (a % 9 + 1) ⟨by decide, by decide⟩ ⟨by omega, by omega⟩ qd (V3.heap.size + 1 + 1 + 1 + 1 + 1 + 1) zc.out
  have B3d := hidi (B3c.out.below hsd)
  rw [← hWa.out] at db0 db1 db2 db3 db4
  rw [← hWb.out, ← hWa.out] at dc0 dc1 dc2 dc3 dc4
  rw [← hWc.out, ← hWb.out, ← hWa.out] at dd0 dd1 dd2 dd3 dd4
  go_wp2_with fail
  rw [hWa.out, hWb.out, hWc.out, hWd.out]
  clear da0 da1 da2 da3 da4 db0 db1 db2 db3 db4 dc0 dc1 dc2 dc3 dc4 dd0 dd1 dd2 dd3 dd4
  have ta := hsb.trans ((hsc.trans (hsd.mono hsc.size)).mono hsb.size)
  have tb := hsc.trans (hsd.mono hsc.size)
  have hs := hsa.trans (ta.mono hsa.size)
  replace B9 := hidi (B9.out.below ta); replace B10 := hidi (B10.out.below tb); replace B11 := hidi (B11.out.below hsd)
  replace B3 := hidi (B3.out.below hs)
  replace B4 := hidi (B4.out.below hs)
  replace HB := HB.trans (hs.mono HB.size)
  replace hEc := hEc.below hs
  refine exa_r9 _ Wd _ hEc (by rfl) (by rfl) (by rfl) (by rfl) (by rfl) (by rfl) B3 B9 B10 B11 B12 (hidi (pair_of_form (exp_within f hz0))) (hidi (pair_of_form (exp_during f hz0))) n_f n_wi n_du n_mo n_lo ?_
  intro x4 V4 hs
  simp only [Act.put, List.setIfInBounds_toArray, List.set_cons_zero, List.set_cons_succ]
  replace B3 := hidi (B3.out.below hs)
  replace B4 := hidi (B4.out.below hs)
  replace B9 := hidi (B9.out.below hs)
  replace B10 := hidi (B10.out.below hs)
  replace B11 := hidi (B11.out.below hs)
  replace B12 := hidi (B12.out.below hs)
  replace HB := HB.trans (hs.mono HB.size)
  replace hEc := hEc.below hs
  obtain ⟨o3, c3, ⟨d30, d31, d32, d33, d34⟩, q3⟩ := B3.out.cells
  go_wp2_with fail
  clear d30 d31 d32 d33 d34
  refine (refone_any (fun b => b < V4.heap.size ∧ True) 4 _ f V4 q3 (fun b hb => hb.1) ⟨by decide, by decide⟩).mono ?_
  rintro e V5 ⟨r, rfl, hN, hs⟩
  have hq := fm_got (Ok := fun _ => True) hN hs (fun _ _ => trivial)
  replace B3 := hidi (B3.out.below hs)
  replace B4 := hidi (B4.out.below hs)
  replace B9 := hidi (B9.out.below hs)
  replace B10 := hidi (B10.out.below hs)
  replace B11 := hidi (B11.out.below hs)
  replace B12 := hidi (B12.out.below hs)
  replace HB := HB.trans (hs.mono HB.size)
  replace hEc := hEc.below hs
  obtain ⟨oo, cc, rfl, V6, hV, hs, B14, hz⟩ := bx_new hq
  unfold boxO at hV
  replace B3 := hidi (B3.out.below hs)
  replace B4 := hidi (B4.out.below hs)
  replace B9 := hidi (B9.out.below hs)
  replace B10 := hidi (B10.out.below hs)
  replace B11 := hidi (B11.out.below hs)
  replace B12 := hidi (B12.out.below hs)
  replace HB := HB.trans (hs.mono HB.size)
  replace hEc := hEc.below hs
  clear hN hq
  obtain ⟨o4, c4, ⟨d40, d41, d42, d43, d44⟩, q4⟩ := B4.out.cells
  rw [← hV.out] at d40 d41 d42 d43 d44
  go_wp2_with fail
  rw [hV.out]
  clear d40 d41 d42 d43 d44
  refine (refone_any (fun b => b < V6.heap.size ∧ True) 4 _ g V6 q4 (fun b hb => hb.1) ⟨by decide, by decide⟩).mono ?_
  rintro e V7 ⟨r, rfl, hN, hs⟩
  have hq := fm_got (Ok := fun _ => True) hN hs (fun _ _ => trivial)
  replace B3 := hidi (B3.out.below hs)
  replace B4 := hidi (B4.out.below hs)
  replace B9 := hidi (B9.out.below hs)
  replace B10 := hidi (B10.out.below hs)
  replace B11 := hidi (B11.out.below hs)
  replace B12 := hidi (B12.out.below hs)
  replace B14 := hidi (B14.out.below hs)
  replace HB := HB.trans (hs.mono HB.size)
  replace hEc := hEc.below hs
  obtain ⟨oo, cc, rfl, V8, hV, hs, B15, hz⟩ := bx_new hq
  unfold boxO at hV
  replace B3 := hidi (B3.out.below hs)
  replace B4 := hidi (B4.out.below hs)
  replace B9 := hidi (B9.out.below hs)
  replace B10 := hidi (B10.out.below hs)
  replace B11 := hidi (B11.out.below hs)
  replace B12 := hidi (B12.out.below hs)
  replace B14 := hidi (B14.out.below hs)
  replace HB := HB.trans (hs.mono HB.size)
  replace hEc := hEc.below hs
  clear hN hq
  go_wp2_with fail
  rw [hV.out]
  refine exb_r12 _ V8 _ hEc (by rfl) (by rfl) (by rfl) (by rfl) B3 B4 B14 (hidi (pair_of_form (exp_imp f g))) (hidi (pair_of_form (exp_globally f))) (hidi (pair_of_form (exp_hist f))) n_f n_g n_no ?_
  intro x9 V9 hs
  simp only [Act.put, List.setIfInBounds_toArray, List.set_cons_zero, List.set_cons_succ]
  replace B3 := hidi (B3.out.below hs)
  replace B4 := hidi (B4.out.below hs)
  replace B9 := hidi (B9.out.below hs)
  replace B10 := hidi (B10.out.below hs)
  replace B11 := hidi (B11.out.below hs)
  replace B12 := hidi (B12.out.below hs)
  replace B14 := hidi (B14.out.below hs)
  replace B15 := hidi (B15.out.below hs)
  replace HB := HB.trans (hs.mono HB.size)
  replace hEc := hEc.below hs
  go_wp2_with fail
  refine exc_r13 _ V9 _ hEc (by rfl) (by rfl) (by rfl) (by rfl) (by rfl) B3 B4 B14 B15 (hidi (pair_of_form (exp_until f g))) (hidi (pair_of_form (exp_finally f))) n_f n_g n_no n_ot n_t ?_
  intro x10 V10 hs
  simp only [Act.put, List.setIfInBounds_toArray, List.set_cons_zero, List.set_cons_succ]
  replace B3 := hidi (B3.out.below hs)
  replace B4 := hidi (B4.out.below hs)
  replace B9 := hidi (B9.out.below hs)
  replace B10 := hidi (B10.out.below hs)
  replace B11 := hidi (B11.out.below hs)
  replace B12 := hidi (B12.out.below hs)
  replace B14 := hidi (B14.out.below hs)
  replace B15 := hidi (B15.out.below hs)
  replace HB := HB.trans (hs.mono HB.size)
  replace hEc := hEc.below hs
  go_wp2_with fail
  rw [hv.out]
  refine exd_r15 _ V10 _ hEc (by rfl) (by rfl) (by rfl) (by rfl) (by rfl) (by rfl) B3 B4 B14 B15 (hidi (pair_of_form (exp_since f g 0))) (hidi (pair_of_form (exp_once f))) n_f n_g n_no n_ot n_t ?_
  intro x11 V11 hs
  simp only [Act.put, List.setIfInBounds_toArray, List.set_cons_zero, List.set_cons_succ]
  replace B3 := hidi (B3.out.below hs)
  replace B4 := hidi (B4.out.below hs)
  replace B9 := hidi (B9.out.below hs)
  replace B10 := hidi (B10.out.below hs)
  replace B11 := hidi (B11.out.below hs)
  replace B12 := hidi (B12.out.below hs)
  replace B14 := hidi (B14.out.below hs)
  replace B15 := hidi (B15.out.below hs)
  replace HB := HB.trans (hs.mono HB.size)
  replace hEc := hEc.below hs
  go_wp2_with fail
  go_ret
  exact ⟨rfl, HB⟩

set_option maxRecDepth 100000 in
set_option maxHeartbeats 8000000 in
theorem exp_low1 (hd : HeadOk) (f g : Fm) (v1 v2 : Value) (a : Int) (ha0 : 0 ≤ a) (ha1 : a ≤ 255) (w : World) (hE : Env w) (h1 : FAt w.heap.size w v1 f) (h2 : FAt w.heap.size w v2 g) (s1 : Hid (f.nodes ≤ 60)) (s2 : Hid (g.nodes ≤ 60)) (hv : Hid (a % 2 = 1)) :
    Calls Tryz.prog 8 #[v1, v2, .int .u8 a] w fun e w' => e = .returned (.bool true) ∧ Below w.heap.size w w' := by
  have n_f : f.nodes ≤ 1000 := by have := s1.out; omega
  have n_g : g.nodes ≤ 1000 := by have := s2.out; omega
  have n_t : fTrue.nodes ≤ 1000 := by decide
  have hz0 : (0 : Int) ≤ a % 9 := by omega
  have hz1 : a % 9 ≤ 8 := by omega
  have n_wi : (Fm.mk 13 ⟨#[]⟩ 0 (a % 9) [f]).nodes ≤ 1000 := by simp only [nodes_mk1, Fm.nodesL_cons, Fm.nodesL_nil]; have := s1.out; have := s2.out; omega
  have n_du : (Fm.mk 14 ⟨#[]⟩ 0 (a % 9) [f]).nodes ≤ 1000 := by simp only [nodes_mk1, Fm.nodesL_cons, Fm.nodesL_nil]; have := s1.out; have := s2.out; omega
  have n_mo : (Fm.mk 13 ⟨#[]⟩ 0 (a % 9 + 1) [f]).nodes ≤ 1000 := by simp only [nodes_mk1, Fm.nodesL_cons, Fm.nodesL_nil]; have := s1.out; have := s2.out; omega
  have n_lo : (Fm.mk 14 ⟨#[]⟩ 0 (a % 9 + 1) [f]).nodes ≤ 1000 := by simp only [nodes_mk1, Fm.nodesL_cons, Fm.nodesL_nil]; have := s1.out; have := s2.out; omega
  have n_no : (Fm.mk 4 ⟨#[]⟩ 0 0 [f]).nodes ≤ 1000 := by simp only [nodes_mk1, Fm.nodesL_cons, Fm.nodesL_nil]; have := s1.out; have := s2.out; omega
  have n_ot : (Fm.mk 4 ⟨#[]⟩ 0 0 [g]).nodes ≤ 1000 := by simp only [nodes_mk1, Fm.nodesL_cons, Fm.nodesL_nil]; have := s1.out; have := s2.out; omega
  obtain ⟨o1, c1, o2, c2, rfl, rfl, W0, hW0, HB, B3, B4⟩ := bx2_open h1 h2
  have hEc : Env W0 := hE.below HB
  go_enter Tryz.func8, Tryz.ntmps8
  go_wp2_with fail
  unfold boxO at hW0
  rw [hW0.out]
  refine (hd _ hEc).mono ?_
  rintro e V1 ⟨rfl, hs⟩
  replace B3 := hidi (B3.out.below hs)
  replace B4 := hidi (B4.out.below hs)
  replace HB := HB.trans (hs.mono HB.size)
  replace hEc := hEc.below hs
  obtain ⟨o3, c3, ⟨d30, d31, d32, d33, d34⟩, q3⟩ := B3.out.cells
  go_wp2_with fail
  clear d30 d31 d32 d33 d34
  refine (small60 f V1.heap.size _ V1 (fm_at q3) (Nat.le_refl _) s1).mono ?_
  rintro e V2 ⟨rfl, hs⟩
  replace B3 := hidi (B3.out.below hs)
  replace B4 := hidi (B4.out.below hs)
  replace HB := HB.trans (hs.mono HB.size)
  replace hEc := hEc.below hs
  obtain ⟨o4, c4, ⟨d40, d41, d42, d43, d44⟩, q4⟩ := B4.out.cells
  go_wp2_with fail
  clear d40 d41 d42 d43 d44
  refine (small60 g V2.heap.size _ V2 (fm_at q4) (Nat.le_refl _) s2).mono ?_
  rintro e V3 ⟨rfl, hs⟩
  replace B3 := hidi (B3.out.below hs)
  replace B4 := hidi (B4.out.below hs)
  replace HB := HB.trans (hs.mono HB.size)
  replace hEc := hEc.below hs
  obtain ⟨oa, ca, ⟨da0, da1, da2, da3, da4⟩, qa⟩ := B3.out.cells
  obtain ⟨Wa, hWa, hsa, B9, za⟩ := bx_row1 13 (a % 9) ⟨by decide, by decide⟩ ⟨by omega, by omega⟩ qa (V3.heap.size) rfl
  have B3a := hidi (B3.out.below hsa)
  obtain ⟨ob, cb, ⟨db0, db1, db2, db3, db4⟩, qb⟩ := B3a.out.cells
  obtain ⟨Wb, hWb, hsb, B10, zb⟩ := bx_row1 14 (a % 9) ⟨by decide, by decide⟩ ⟨by omega, by omega⟩ qb (V3.heap.size + 1 + 1) za.out
  have B3b := hidi (B3a.out.below hsb)
  obtain ⟨oc, cc, ⟨dc0, dc1, dc2, dc3, dc4⟩, qc⟩ := B3b.out.cells
  obtain ⟨Wc, hWc, hsc, B11, zc⟩ := bx_row1 13 (a % 9 + 1) ⟨by decide, by decide⟩ ⟨by omega, by omega⟩ qc (V3.heap.size + 1 + 1 + 1 + 1) zb.out
  have B3c := hidi (B3b.out.below hsc)
  obtain ⟨od, cd, ⟨dd0, dd1, dd2, dd3, dd4⟩, qd⟩ := B3c.out.cells
  obtain ⟨Wd, hWd, hsd, B12, zd⟩ := bx_row1 14 (a % 9 + 1) ⟨by decide, by decide⟩ ⟨by omega, by omega⟩ qd (V3.heap.size + 1 + 1 + 1 + 1 + 1 + 1) zc.out
  have B3d := hidi (B3c.out.below hsd)
  rw [← hWa.out] at db0 db1 db2 db3 db4
  rw [← hWb.out, ← hWa.out] at dc0 dc1 dc2 dc3 dc4
  rw [← hWc.out, ← hWb.out, ← hWa.out] at dd0 dd1 dd2 dd3 dd4
  go_wp2_with fail
  rw [hWa.out, hWb.out, hWc.out, hWd.out]
  clear da0 da1 da2 da3 da4 db0 db1 db2 db3 db4 dc0 dc1 dc2 dc3 dc4 dd0 dd1 dd2 dd3 dd4
  have ta := hsb.trans ((hsc.trans (hsd.mono hsc.size)).mono hsb.size)
  have tb := hsc.trans (hsd.mono hsc.size)
  have hs := hsa.trans (ta.mono hsa.size)
  replace B9 := hidi (B9.out.below ta); replace B10 := hidi (B10.out.below tb); replace B11 := hidi (B11.out.below hsd)
  replace B3 := hidi (B3.out.below hs)
  replace B4 := hidi (B4.out.below hs)
  replace HB := HB.trans (hs.mono HB.size)
  replace hEc := hEc.below hs
  refine exa_r9 _ Wd _ hEc (by rfl) (by rfl) (by rfl) (by rfl) (by rfl) (by rfl) B3 B9 B10 B11 B12 (hidi (pair_of_form (exp_within f hz0))) (hidi (pair_of_form (exp_during f hz0))) n_f n_wi n_du n_mo n_lo ?_
  intro x4 V4 hs
  simp only [Act.put, List.setIfInBounds_toArray, List.set_cons_zero, List.set_cons_succ]
  replace B3 := hidi (B3.out.below hs)
  replace B4 := hidi (B4.out.below hs)
  replace B9 := hidi (B9.out.below hs)
  replace B10 := hidi (B10.out.below hs)
  replace B11 := hidi (B11.out.below hs)
  replace B12 := hidi (B12.out.below hs)
  replace HB := HB.trans (hs.mono HB.size)
  replace hEc := hEc.below hs
  obtain ⟨o3, c3, ⟨d30, d31, d32, d33, d34⟩, q3⟩ := B3.out.cells
  go_wp2_with fail
  clear d30 d31 d32 d33 d34
  refine (refone_any (fun b => b < V4.heap.size ∧ True) 4 _ f V4 q3 (fun b hb => hb.1) ⟨by decide, by decide⟩).mono ?_
  rintro e V5 ⟨r, rfl, hN, hs⟩
  have hq := fm_got (Ok := fun _ => True) hN hs (fun _ _ => trivial)
  replace B3 := hidi (B3.out.below hs)
  replace B4 := hidi (B4.out.below hs)
  replace B9 := hidi (B9.out.below hs)
  replace B10 := hidi (B10.out.below hs)
  replace B11 := hidi (B11.out.below hs)
  replace B12 := hidi (B12.out.below hs)
  replace HB := HB.trans (hs.mono HB.size)
  replace hEc := hEc.below hs
  obtain ⟨oo, cc, rfl, V6, hV, hs, B14, hz⟩ := bx_new hq
  unfold boxO at hV
  replace B3 := hidi (B3.out.below hs)
  replace B4 := hidi (B4.out.below hs)
  replace B9 := hidi (B9.out.below hs)
  replace B10 := hidi (B10.out.below hs)
  replace B11 := hidi (B11.out.below hs)
  replace B12 := hidi (B12.out.below hs)
  replace HB := HB.trans (hs.mono HB.size)
  replace hEc := hEc.below hs
  clear hN hq
  obtain ⟨o4, c4, ⟨d40, d41, d42, d43, d44⟩, q4⟩ := B4.out.cells
  rw [← hV.out] at d40 d41 d42 d43 d44
  go_wp2_with fail
  rw [hV.out]
  clear d40 d41 d42 d43 d44
  refine (refone_any (fun b => b < V6.heap.size ∧ True) 4 _ g V6 q4 (fun b hb => hb.1) ⟨by decide, by decide⟩).mono ?_
  rintro e V7 ⟨r, rfl, hN, hs⟩
  have hq := fm_got (Ok := fun _ => True) hN hs (fun _ _ => trivial)
  replace B3 := hidi (B3.out.below hs)
  replace B4 := hidi (B4.out.below hs)
  replace B9 := hidi (B9.out.below hs)
  replace B10 := hidi (B10.out.below hs)
  replace B11 := hidi (B11.out.below hs)
  replace B12 := hidi (B12.out.below hs)
  replace B14 := hidi (B14.out.below hs)
  replace HB := HB.trans (hs.mono HB.size)
  replace hEc := hEc.below hs
  obtain ⟨oo, cc, rfl, V8, hV, hs, B15, hz⟩ := bx_new hq
  unfold boxO at hV
  replace B3 := hidi (B3.out.below hs)
  replace B4 := hidi (B4.out.below hs)
  replace B9 := hidi (B9.out.below hs)
  replace B10 := hidi (B10.out.below hs)
  replace B11 := hidi (B11.out.below hs)
  replace B12 := hidi (B12.out.below hs)
  replace B14 := hidi (B14.out.below hs)
  replace HB := HB.trans (hs.mono HB.size)
  replace hEc := hEc.below hs
  clear hN hq
  go_wp2_with fail
  rw [hV.out]
  refine exb_r12 _ V8 _ hEc (by rfl) (by rfl) (by rfl) (by rfl) B3 B4 B14 (hidi (pair_of_form (exp_imp f g))) (hidi (pair_of_form (exp_globally f))) (hidi (pair_of_form (exp_hist f))) n_f n_g n_no ?_
  intro x9 V9 hs
  simp only [Act.put, List.setIfInBounds_toArray, List.set_cons_zero, List.set_cons_succ]
  replace B3 := hidi (B3.out.below hs)
  replace B4 := hidi (B4.out.below hs)
  replace B9 := hidi (B9.out.below hs)
  replace B10 := hidi (B10.out.below hs)
  replace B11 := hidi (B11.out.below hs)
  replace B12 := hidi (B12.out.below hs)
  replace B14 := hidi (B14.out.below hs)
  replace B15 := hidi (B15.out.below hs)
  replace HB := HB.trans (hs.mono HB.size)
  replace hEc := hEc.below hs
  go_wp2_with fail
  refine exc_r13 _ V9 _ hEc (by rfl) (by rfl) (by rfl) (by rfl) (by rfl) B3 B4 B14 B15 (hidi (pair_of_form (exp_until f g))) (hidi (pair_of_form (exp_finally f))) n_f n_g n_no n_ot n_t ?_
  intro x10 V10 hs
  simp only [Act.put, List.setIfInBounds_toArray, List.set_cons_zero, List.set_cons_succ]
  replace B3 := hidi (B3.out.below hs)
  replace B4 := hidi (B4.out.below hs)
  replace B9 := hidi (B9.out.below hs)
  replace B10 := hidi (B10.out.below hs)
  replace B11 := hidi (B11.out.below hs)
  replace B12 := hidi (B12.out.below hs)
  replace B14 := hidi (B14.out.below hs)
  replace B15 := hidi (B15.out.below hs)
  replace HB := HB.trans (hs.mono HB.size)
  replace hEc := hEc.below hs
  go_wp2_with fail
  rw [hv.out]
  refine exe_r15 _ V10 _ hEc (by rfl) (by rfl) (by rfl) (by rfl) (by rfl) (by rfl) B3 B4 B14 B15 (hidi (pair_of_form (exp_since f g 1))) (hidi (pair_of_form (exp_once f))) n_f n_g n_no n_ot n_t ?_
  intro x11 V11 hs
  simp only [Act.put, List.setIfInBounds_toArray, List.set_cons_zero, List.set_cons_succ]
  replace B3 := hidi (B3.out.below hs)
  replace B4 := hidi (B4.out.below hs)
  replace B9 := hidi (B9.out.below hs)
  replace B10 := hidi (B10.out.below hs)
  replace B11 := hidi (B11.out.below hs)
  replace B12 := hidi (B12.out.below hs)
  replace B14 := hidi (B14.out.below hs)
  replace B15 := hidi (B15.out.below hs)
  replace HB := HB.trans (hs.mono HB.size)
  replace hEc := hEc.below hs
  go_wp2_with fail
  go_ret
  exact ⟨rfl, HB⟩

theorem exp_any (hd : HeadOk) (f g : Fm) (v1 v2 : Value) (a : Int) (w : World) (hE : Env w) (h1 : FAt w.heap.size w v1 f) (h2 : FAt w.heap.size w v2 g) (ha0 : 0 ≤ a) (ha1 : a ≤ 255) :
    Calls Tryz.prog 8 #[v1, v2, .int .u8 a] w fun e w' => e = .returned (.bool true) ∧ Below w.heap.size w w' := by
  by_cases s1 : f.nodes ≤ 60
  · by_cases s2 : g.nodes ≤ 60
    · rcases (show a % 2 = 0 ∨ a % 2 = 1 by omega) with hv | hv
      · exact exp_low0 hd f g v1 v2 a ha0 ha1 w hE h1 h2 (hidi s1) (hidi s2) (hidi hv)
      · exact exp_low1 hd f g v1 v2 a ha0 ha1 w hE h1 h2 (hidi s1) (hidi s2) (hidi hv)
    · exact exp_big1 hd f g v1 v2 a w hE h1 h2 (hidi s1) (hidi s2)
  · exact exp_big0 hd f g v1 v2 a w hE h1 h2 (hidi s1)

end Go.Proofs.YtlkoacopknolnaaGreatDoor
