/-
  FormulaParts: the region that puts one of the arguments into a box.
-/
import Derived.Test.YtlkoacopknolnaaGreatDoorFjX
import Derived.Test.YtlkoacopknolnaaGreatDoorFjC
namespace Go.Proofs.YtlkoacopknolnaaGreatDoor
open Go.RowKit

theorem put_none (a : Act) (v : Value) : a.put none v = a := rfl

set_option maxRecDepth 100000 in
set_option maxHeartbeats 2000000 in
theorem parts_r17 {g : Fm} {k2 b off n c j : Nat} {r : Int} {sl : Value} (a0 : Act) (W0 : World) (Q : Exit → Act → World → Prop) (hz : a0.tmps.size = 163) (p1 : a0.tmps[(1 : Nat)]? = some (.int .u8 r)) (p2 : a0.tmps[(2 : Nat)]? = some (.pointer (some ⟨k2, 0, none⟩)))
    (hk : k2 < W0.heap.size) (hb : b < W0.heap.size) (hr0 : 0 ≤ r) (hr1 : r ≤ 255) (hj : Hid (r.tmod (n : Int) = (j : Int))) (hjn : j < n)
    (c4 : W0.cell? ⟨k2, 4, none⟩ = some (.slice (some ⟨b, off, none⟩) n c)) (e : Cells5 W0 b (off + j * 5) (.int .i64 g.op) (.string g.name) (.int .i64 g.val) (.int .i64 g.bound) sl) (hF : FAt W0.heap.size W0 (.agg #[.int .i64 g.op, .string g.name, .int .i64 g.val, .int .i64 g.bound, sl]) g)
    (hend : ∀ (x : Nat → Value) (W : World) (k : Nat), Below W0.heap.size W0 W → Bx W k g → Q .normal (((((((((((a0.put (some 86) (x 0)).put (some 87) (x 1)).put (some 88) (x 2)).put (some 89) (x 3)).put (some 90) (x 4)).put (some 91) (x 5)).put (some 92) (x 6)).put (some 93) (x 7)).put (some 94) (x 8)).put (some 95) (x 9)).put (some 9) (.pointer (some ⟨k, 0, none⟩))) W) :
    (Code.region 17 (opsAt Tryz.f5 17) true).wp Tryz.prog Q a0 W0 := by
  have d0 : dstOf (opsAt Tryz.f5 17) 0 = some 86 := by kernel_rfl
  have d1 : dstOf (opsAt Tryz.f5 17) 1 = some 87 := by kernel_rfl
  have d2 : dstOf (opsAt Tryz.f5 17) 2 = some 88 := by kernel_rfl
  have d3 : dstOf (opsAt Tryz.f5 17) 3 = some 89 := by kernel_rfl
  have d4 : dstOf (opsAt Tryz.f5 17) 4 = some 90 := by kernel_rfl
  have d5 : dstOf (opsAt Tryz.f5 17) 5 = some 91 := by kernel_rfl
  have d6 : dstOf (opsAt Tryz.f5 17) 6 = some 92 := by kernel_rfl
  have d7 : dstOf (opsAt Tryz.f5 17) 7 = some 93 := by kernel_rfl
  have d8 : dstOf (opsAt Tryz.f5 17) 8 = some 94 := by kernel_rfl
  have d9 : dstOf (opsAt Tryz.f5 17) 9 = some 95 := by kernel_rfl
  have d10 : dstOf (opsAt Tryz.f5 17) 10 = some 9 := by kernel_rfl
  have d11 : dstOf (opsAt Tryz.f5 17) 11 = none := by kernel_rfl
  have hsz : (opsAt Tryz.f5 17).size = 12 := by kernel_rfl
  obtain ⟨L, hL⟩ : ∃ L, Hid ((opsAt Tryz.f5 17) = L) := ⟨_, hidi rfl⟩
  have hL2 := hL.out
  unfold opsAt Tryz.f5 at hL2
  simp only [findRegion, Nat.reduceBEq, if_true, if_false, Bool.false_eq_true, Option.getD_some] at hL2
  replace hL2 := hidi hL2
  obtain ⟨fs, hfs⟩ : ∃ fs : Nat → Fq, fs = (fun i => match i with
      | 0 => .valF (.pointer (some ⟨k2, 4, none⟩))
      | 1 => .valF (.slice (some ⟨b, off, none⟩) n c)
      | 2 => .valF (.int .u8 r)
      | 3 => .valF (.int .i64 r)
      | 4 => .valF (.pointer (some ⟨k2, 4, none⟩))
      | 5 => .valF (.slice (some ⟨b, off, none⟩) n c)
      | 6 => .valF (.int .i64 (n : Int))
      | 7 => .valF (.int .i64 (j : Int))
      | 8 => .valF (.pointer (some ⟨b, off + j * 5, none⟩))
      | 9 => .valF (.agg #[.int .i64 g.op, .string g.name, .int .i64 g.val, .int .i64 g.bound, sl])
      | _ => .free) := ⟨_, rfl⟩
  have hstill : ∀ j, (fs j).still = true := by
    intro j
    rw [hfs]
    match j with
    | 0 => rfl
    | 1 => rfl
    | 2 => rfl
    | 3 => rfl
    | 4 => rfl
    | 5 => rfl
    | 6 => rfl
    | 7 => rfl
    | 8 => rfl
    | 9 => rfl
    | n + 10 => rfl
  have step : ∀ i a W (K : Act → World → Prop), i < 10 → Below W0.heap.size W0 W → (∀ e, (∀ j, j < (opsAt Tryz.f5 17).size → dstOf (opsAt Tryz.f5 17) j ≠ some e) → a.tmps[e]? = a0.tmps[e]?) → (∀ j d, j ≠ 10 → (depsOf (opsAt Tryz.f5 17) i).contains j = true → dstOf (opsAt Tryz.f5 17) j = some d → ∃ v, a.tmps[d]? = some v ∧ (fs j).holds (fun _ => True) v W) →
      (∀ v, (fs i).holds (fun _ => True) v W → K (a.put (dstOf (opsAt Tryz.f5 17) i) v) W) → wpOp Tryz.prog (opsAt Tryz.f5 17) Q i K a W := by
    intro i a W K hi hB hold hdep hK
    rw [hfs] at hdep hK
    match i, hi, hdep, hK with
    | 0, _, hdep, hK =>
      rw [d0] at hK
      have h2 := old_slot hold (e := 2) (by kernel_rfl) p2
      have e2 := at_eval h2
      rw [hL.out, ← hL2.out]; refine wpOp_of_list' rfl ?_
      go_wp2_with fail
      exact rfl
    | 1, _, hdep, hK =>
      rw [d1] at hK
      obtain ⟨v86, h86, f86⟩ := hdep 0 86 (by decide) (by kernel_rfl) d0
      obtain rfl : v86 = .pointer (some ⟨k2, 4, none⟩) := f86
      have e86 := at_eval h86
      have b4 := (hB.cell (p := ⟨k2, 4, none⟩) hk).trans c4
      rw [hL.out, ← hL2.out]; refine wpOp_of_list' rfl ?_
      go_wp2_with fail
      exact rfl
    | 2, _, hdep, hK =>
      rw [d2] at hK
      have h1 := old_slot hold (e := 1) (by kernel_rfl) p1
      have e1 := at_eval h1
      rw [hL.out, ← hL2.out]; refine wpOp_of_list' rfl ?_
      go_wp2_with fail
      exact rfl
    | 3, _, hdep, hK =>
      rw [d3] at hK
      obtain ⟨v88, h88, f88⟩ := hdep 2 88 (by decide) (by kernel_rfl) d2
      obtain rfl : v88 = .int .u8 r := f88
      have e88 := at_eval h88
      rw [hL.out, ← hL2.out]; refine wpOp_of_list' rfl ?_
      go_wp2_with fail
      exact rfl
    | 4, _, hdep, hK =>
      rw [d4] at hK
      have h2 := old_slot hold (e := 2) (by kernel_rfl) p2
      have e2 := at_eval h2
      rw [hL.out, ← hL2.out]; refine wpOp_of_list' rfl ?_
      go_wp2_with fail
      exact rfl
    | 5, _, hdep, hK =>
      rw [d5] at hK
      obtain ⟨v90, h90, f90⟩ := hdep 4 90 (by decide) (by kernel_rfl) d4
      obtain rfl : v90 = .pointer (some ⟨k2, 4, none⟩) := f90
      have e90 := at_eval h90
      have b4 := (hB.cell (p := ⟨k2, 4, none⟩) hk).trans c4
      rw [hL.out, ← hL2.out]; refine wpOp_of_list' rfl ?_
      go_wp2_with fail
      exact rfl
    | 6, _, hdep, hK =>
      rw [d6] at hK
      obtain ⟨v91, h91, f91⟩ := hdep 5 91 (by decide) (by kernel_rfl) d5
      obtain rfl : v91 = .slice (some ⟨b, off, none⟩) n c := f91
      have e91 := at_eval h91
      rw [hL.out, ← hL2.out]; refine wpOp_of_list' rfl ?_
      go_wp2_with fail
      exact rfl
    | 7, _, hdep, hK =>
      rw [d7] at hK
      obtain ⟨v89, h89, f89⟩ := hdep 3 89 (by decide) (by kernel_rfl) d3
      obtain rfl : v89 = .int .i64 r := f89
      have e89 := at_eval h89
      obtain ⟨v92, h92, f92⟩ := hdep 6 92 (by decide) (by kernel_rfl) d6
      obtain rfl : v92 = .int .i64 (n : Int) := f92
      have e92 := at_eval h92
      have hj2 := hj.out
      have hnz : (n : Int) ≠ 0 := by omega
      have hnz2 : ¬ n = 0 := by omega
      rw [hL.out, ← hL2.out]; refine wpOp_of_list' rfl ?_
      go_wp2_with fail
      exact rfl
    | 8, _, hdep, hK =>
      rw [d8] at hK
      obtain ⟨v87, h87, f87⟩ := hdep 1 87 (by decide) (by kernel_rfl) d1
      obtain rfl : v87 = .slice (some ⟨b, off, none⟩) n c := f87
      have e87 := at_eval h87
      obtain ⟨v93, h93, f93⟩ := hdep 7 93 (by decide) (by kernel_rfl) d7
      obtain rfl : v93 = .int .i64 (j : Int) := f93
      have e93 := at_eval h93
      have j1 : (0 : Int) ≤ j := by omega
      have j2 : (j : Int) < n := by omega
      rw [hL.out, ← hL2.out]; refine wpOp_of_list' rfl ?_
      go_wp2_with fail
      exact rfl
    | 9, _, hdep, hK =>
      rw [d9] at hK
      obtain ⟨v94, h94, f94⟩ := hdep 8 94 (by decide) (by kernel_rfl) d8
      obtain rfl : v94 = .pointer (some ⟨b, off + j * 5, none⟩) := f94
      have e94 := at_eval h94
      obtain ⟨b0, b1, b2, b3, b4⟩ := e.below hB hb
      rw [hL.out, ← hL2.out]; refine wpOp_of_list' rfl ?_
      go_wp2_with fail
      exact rfl
    | n + 10, hi, _, _ => exact absurd hi (by omega)
  refine wp_region_tail (by kernel_rfl) (by kernel_rfl) (by kernel_rfl) (by rw [hz]; kernel_rfl) (by kernel_rfl) fs (fun _ => True) 10 11 9 (by rw [hsz]; omega) (by rw [hsz]; omega) (by omega) d10 ?_ (by kernel_rfl)
    (fun v W => ∃ k, v = .pointer (some ⟨k, 0, none⟩) ∧ W0.heap.size ≤ k ∧ Below W0.heap.size W0 W ∧ Res5 W k) (fun v W => ∃ k, v = .pointer (some ⟨k, 0, none⟩) ∧ Below W0.heap.size W0 W ∧ Bx W k g) ?_ ?_ ?_ ?_ ?_ d11
  · unfold tailB
    rw [List.all_eq_true]
    intro i _
    simp [hstill i]
  · intro i a W K hi h1 h2 hS hK
    rw [hsz] at hi
    exact step i a W K (by omega) hS.below hS.old (fun j d _ => hS.new j d) fun v hv => hK v W hv (Below.refl _ _)
  · rintro i a W K hi h1 h2 - - hold hdep - ⟨v, k, -, -, hB, -⟩ hK
    rw [hsz] at hi
    exact step i a W K (by omega) hB hold (fun j d hj hc hd => hdep j d hc hd (hstill j) hj) hK
  · intro a W K hS hK
    rw [hL.out, ← hL2.out]; refine wpOp_of_list' rfl ?_
    have hz' := hS.below.size
    go_wp2_with fail
    exact ⟨hS.below.alloc hz' _, res5_new W⟩
  · rintro a W K v - hold hdep hda ⟨k, rfl, hk0, hB, hres⟩ hK
    obtain ⟨v95, h95, f95⟩ := hdep 9 95 (by rw [hsz]; omega) (by omega) (hstill 9) d9
    rw [hfs] at f95
    obtain rfl : v95 = .agg #[.int .i64 g.op, .string g.name, .int .i64 g.val, .int .i64 g.bound, sl] := f95
    have e95 := at_eval h95
    have e9 := at_eval hda
    obtain ⟨a1, a2, a3, a4, a5, ⟨z0, z1, z2, z3, z4⟩, y0, y1, y2, y3, y4⟩ := hres.cells
    have hklt := hres.lt
    rw [hL.out, ← hL2.out]; refine wpOp_of_list' rfl ?_
    obtain ⟨o', c', eq, hf, ha⟩ := (hF.kept hB (Nat.le_refl _)).open
    obtain rfl : sl = .slice o' g.args.length c' := by injection eq with eq; injection eq with eq; simpa using eq
    rw [d11] at hK
    go_wp2_with fail
    have hrow := hres.set (.int .i64 g.op) (.string g.name) (.int .i64 g.val) (.int .i64 g.bound) (.slice o' g.args.length c')
    have hB5 := set5_below hB hk0 (.int .i64 g.op) (.string g.name) (.int .i64 g.val) (.int .i64 g.bound) (.slice o' g.args.length c')
    have hz5 := set5_size W k (.int .i64 g.op) (.string g.name) (.int .i64 g.val) (.int .i64 g.bound) (.slice o' g.args.length c')
    refine ⟨hB5, by rw [hz5]; exact hklt, o', c', ⟨cell_of_row _ k 0 _ _ _ hrow, cell_of_row _ k 1 _ _ _ hrow, cell_of_row _ k 2 _ _ _ hrow, cell_of_row _ k 3 _ _ _ hrow, cell_of_row _ k 4 _ _ _ hrow⟩, hf, ?_⟩
    have hFW := hF.kept hB5 (Nat.le_refl _)
    obtain ⟨o2, c2, eq2, hf2, ha2⟩ := hFW.open
    obtain ⟨rfl, rfl⟩ : o' = o2 ∧ c' = c2 := by injection eq2 with eq2; injection eq2 with eq2; simpa using eq2
    exact ha2.mono hB5.size
  · rintro x W ⟨k, hxk, hB, hbx⟩
    have hl := hend x W k hB hbx
    have hr : List.range (opsAt Tryz.f5 17).size = [0, 1, 2, 3, 4, 5, 6, 7, 8, 9, 10, 11] := by rw [hsz]; rfl
    rw [hr]
    simp only [putL, d0, d1, d2, d3, d4, d5, d6, d7, d8, d9, d10, d11, put_none]
    rw [hxk]
    exact hl

end Go.Proofs.YtlkoacopknolnaaGreatDoor
