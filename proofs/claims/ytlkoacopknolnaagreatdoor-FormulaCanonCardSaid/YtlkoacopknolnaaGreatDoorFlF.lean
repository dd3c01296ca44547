/-
  The walk of the law FormulaCanon, given the contract of the law's head.
-/
import Derived.Test.YtlkoacopknolnaaGreatDoorFjC
import Derived.Test.YtlkoacopknolnaaGreatDoorFlD
import Derived.Test.YtlkoacopknolnaaGreatDoorFlE
import Derived.Test.YtlkoacopknolnaaGreatDoorFiU
namespace Go.Proofs.YtlkoacopknolnaaGreatDoor
open Go.RowKit

set_option maxRecDepth 100000 in
set_option maxHeartbeats 8000000 in
theorem canon_big (hd : HeadOk) (f : Fm) (v1 : Value) (w : World) (hE : Env w) (h1 : FAt w.heap.size w v1 f) (s1 : Hid (¬ f.nodes ≤ 420)) :
    Calls Tryz.prog 9 #[v1] w fun e w' => e = .returned (.bool true) ∧ Below w.heap.size w w' := by
  obtain ⟨o1, c1, rfl, W0, hW0, HB, B1⟩ := bx1_open h1
  have hEc : Env W0 := hE.below HB
  go_enter Tryz.func9, Tryz.ntmps9
  go_wp2_with fail
  unfold boxO at hW0
  rw [hW0.out]
  refine (hd _ hEc).mono ?_
  rintro e V1 ⟨rfl, hs⟩
  replace B1 := hidi (B1.out.below hs)
  replace HB := HB.trans (hs.mono HB.size)
  replace hEc := hEc.below hs
  obtain ⟨o1, c1, ⟨d10, d11, d12, d13, d14⟩, q1⟩ := B1.out.cells
  go_wp2_with fail
  clear d10 d11 d12 d13 d14
  refine (small420_no f V1.heap.size _ V1 (fm_at q1) (Nat.le_refl _) s1).mono ?_
  rintro e V2 ⟨rfl, hs⟩
  replace B1 := hidi (B1.out.below hs)
  replace HB := HB.trans (hs.mono HB.size)
  replace hEc := hEc.below hs
  go_wp2_with fail
  go_ret
  exact ⟨rfl, HB⟩

set_option maxRecDepth 100000 in
set_option maxHeartbeats 8000000 in
theorem canon_tight (hd : HeadOk) (f : Fm) (v1 : Value) (w : World) (hE : Env w) (h1 : FAt w.heap.size w v1 f) (s1 : Hid (f.nodes ≤ 420)) (s2 : Hid (looseB f = false)) :
    Calls Tryz.prog 9 #[v1] w fun e w' => e = .returned (.bool true) ∧ Below w.heap.size w w' := by
  obtain ⟨o1, c1, rfl, W0, hW0, HB, B1⟩ := bx1_open h1
  have hEc : Env W0 := hE.below HB
  go_enter Tryz.func9, Tryz.ntmps9
  go_wp2_with fail
  unfold boxO at hW0
  rw [hW0.out]
  refine (hd _ hEc).mono ?_
  rintro e V1 ⟨rfl, hs⟩
  replace B1 := hidi (B1.out.below hs)
  replace HB := HB.trans (hs.mono HB.size)
  replace hEc := hEc.below hs
  obtain ⟨o1, c1, ⟨d10, d11, d12, d13, d14⟩, q1⟩ := B1.out.cells
  go_wp2_with fail
  clear d10 d11 d12 d13 d14
  refine (small420 f V1.heap.size _ V1 (fm_at q1) (Nat.le_refl _) s1).mono ?_
  rintro e V2 ⟨rfl, hs⟩
  replace B1 := hidi (B1.out.below hs)
  replace HB := HB.trans (hs.mono HB.size)
  replace hEc := hEc.below hs
  obtain ⟨o1, c1, ⟨d10, d11, d12, d13, d14⟩, q1⟩ := B1.out.cells
  go_wp2_with fail
  clear d10 d11 d12 d13 d14
  refine (refloose_any f V2.heap.size _ V2 (fm_at q1) (Nat.le_refl _)).mono ?_
  rintro e V3 ⟨rfl, hs⟩
  rw [s2.out]
  replace B1 := hidi (B1.out.below hs)
  replace HB := HB.trans (hs.mono HB.size)
  replace hEc := hEc.below hs
  go_wp2_with fail
  go_ret
  exact ⟨rfl, HB⟩

set_option maxRecDepth 100000 in
set_option maxHeartbeats 8000000 in
theorem canon_loose (hd : HeadOk) (f : Fm) (v1 : Value) (w : World) (hE : Env w) (h1 : FAt w.heap.size w v1 f) (s1 : Hid (f.nodes ≤ 420)) (s2 : Hid (looseB f = true)) :
    Calls Tryz.prog 9 #[v1] w fun e w' => e = .returned (.bool true) ∧ Below w.heap.size w w' := by
  have n1 : f.nodes ≤ 1000 := by have := s1.out; omega
  obtain ⟨c, ec⟩ : ∃ x, Hid (canonTop f = x) := ⟨_, hidi rfl⟩
  have ecf : canonF f = c := by rw [← ec.out, canonTop_loose s2.out]
  have hNK := loose_parts.1 s2.out
  have hlc : Hid (looseB c = true) := hidi (by rw [← ecf]; exact loose_canonF s2.out)
  have hs2 : Hid (c.nodes ≤ f.nodes) := hidi (by rw [← ecf]; exact nodes_canonF f hNK.2.2.1)
  have hcc : Hid (canonTop c = c) := hidi (by rw [canonTop_loose hlc.out, ← ecf, canon_twice s2.out])
  have hkk : Hid (kernelB f = true → kernelB c = true) := hidi fun h => by rw [← ecf]; exact kernel_canonF h
  have n2 : c.nodes ≤ 1000 := by have := hs2.out; omega
  obtain ⟨g, eg⟩ : ∃ x, Hid (revF f = x) := ⟨_, hidi rfl⟩
  have hg : Hid (looseB g = true → canonTop g = c ∧ g.nodes ≤ 1000) := hidi fun h => ⟨by rw [canonTop_loose h, ← eg.out, canon_rev f hNK.2.2.1 hNK.2.2.2.1, ecf], by have := (loose_parts.1 h).1; omega⟩
  have hrev := hidi (reversed_any f hNK.2.2.1 (by have := s1.out; omega))
  clear hNK ecf
  obtain ⟨o1, c1, rfl, W0, hW0, HB, B1⟩ := bx1_open h1
  have hEc : Env W0 := hE.below HB
  go_enter Tryz.func9, Tryz.ntmps9
  go_wp2_with fail
  unfold boxO at hW0
  rw [hW0.out]
  refine (hd _ hEc).mono ?_
  rintro e V1 ⟨rfl, hs⟩
  replace B1 := hidi (B1.out.below hs)
  replace HB := HB.trans (hs.mono HB.size)
  replace hEc := hEc.below hs
  obtain ⟨o1, c1, ⟨d10, d11, d12, d13, d14⟩, q1⟩ := B1.out.cells
  go_wp2_with fail
  clear d10 d11 d12 d13 d14
  refine (small420 f V1.heap.size _ V1 (fm_at q1) (Nat.le_refl _) s1).mono ?_
  rintro e V2 ⟨rfl, hs⟩
  replace B1 := hidi (B1.out.below hs)
  replace HB := HB.trans (hs.mono HB.size)
  replace hEc := hEc.below hs
  obtain ⟨o1, c1, ⟨d10, d11, d12, d13, d14⟩, q1⟩ := B1.out.cells
  go_wp2_with fail
  clear d10 d11 d12 d13 d14
  refine (refloose_any f V2.heap.size _ V2 (fm_at q1) (Nat.le_refl _)).mono ?_
  rintro e V3 ⟨rfl, hs⟩
  rw [s2.out]
  replace B1 := hidi (B1.out.below hs)
  replace HB := HB.trans (hs.mono HB.size)
  replace hEc := hEc.below hs
  obtain ⟨o1, c1, ⟨d10, d11, d12, d13, d14⟩, q1⟩ := B1.out.cells
  go_wp2_with fail
  clear d10 d11 d12 d13 d14
  refine (canontop_any (fun b => b < V3.heap.size ∧ True) f _ V3 hEc q1 (fun b hb => hb.1) (by omega)).mono ?_
  rintro e V4 ⟨r, rfl, hN, hs⟩
  rw [ec.out] at hN
  have hq := fm_got (Ok := fun _ => True) hN hs (fun _ _ => trivial)
  replace B1 := hidi (B1.out.below hs)
  replace HB := HB.trans (hs.mono HB.size)
  replace hEc := hEc.below hs
  obtain ⟨oo, cc, rfl, V5, hV, hs, B4, hz⟩ := bx_new hq
  unfold boxO at hV
  replace B1 := hidi (B1.out.below hs)
  replace HB := HB.trans (hs.mono HB.size)
  replace hEc := hEc.below hs
  clear hN hq
  go_wp2_with fail
  rw [hV.out]
  refine can_r5 _ V5 _ hEc (by rfl) (by rfl) (by rfl) B1 B4 hlc hs2 hcc hkk n1 n2 ?_
  intro x6 V6 hs
  simp only [Act.put, List.setIfInBounds_toArray, List.set_cons_zero, List.set_cons_succ]
  replace B1 := hidi (B1.out.below hs)
  replace B4 := hidi (B4.out.below hs)
  replace HB := HB.trans (hs.mono HB.size)
  replace hEc := hEc.below hs
  obtain ⟨o1, c1, ⟨d10, d11, d12, d13, d14⟩, q1⟩ := B1.out.cells
  go_wp2_with fail
  clear d10 d11 d12 d13 d14
  refine (hrev.out (fun b => b < V6.heap.size ∧ True) _ V6 q1 (fun b hb => hb.1)).mono ?_
  rintro e V7 ⟨r, rfl, hN, hs⟩
  rw [eg.out] at hN
  have hq := fm_got (Ok := fun _ => True) hN hs (fun _ _ => trivial)
  replace B1 := hidi (B1.out.below hs)
  replace B4 := hidi (B4.out.below hs)
  replace HB := HB.trans (hs.mono HB.size)
  replace hEc := hEc.below hs
  obtain ⟨oo, cc, rfl, V8, hV, hs, B5, hz⟩ := bx_new hq
  unfold boxO at hV
  replace B1 := hidi (B1.out.below hs)
  replace B4 := hidi (B4.out.below hs)
  replace HB := HB.trans (hs.mono HB.size)
  replace hEc := hEc.below hs
  clear hN hq
  go_wp2_with fail
  rw [hV.out]
  refine can_r8 _ V8 _ hEc (by rfl) (by rfl) (by rfl) (by rfl) B4 B5 hg ?_
  intro x9 V9 hs
  simp only [Act.put, List.setIfInBounds_toArray, List.set_cons_zero, List.set_cons_succ]
  replace B1 := hidi (B1.out.below hs)
  replace B4 := hidi (B4.out.below hs)
  replace B5 := hidi (B5.out.below hs)
  replace HB := HB.trans (hs.mono HB.size)
  replace hEc := hEc.below hs
  go_wp2_with fail
  go_ret
  exact ⟨rfl, HB⟩

theorem canon_any2 (hd : HeadOk) (f : Fm) (v1 : Value) (w : World) (hE : Env w) (h1 : FAt w.heap.size w v1 f) :
    Calls Tryz.prog 9 #[v1] w fun e w' => e = .returned (.bool true) ∧ Below w.heap.size w w' := by
  by_cases s1 : f.nodes ≤ 420
  · cases s2 : looseB f
    · exact canon_tight hd f v1 w hE h1 (hidi s1) (hidi s2)
    · exact canon_loose hd f v1 w hE h1 (hidi s1) (hidi s2)
  · exact canon_big hd f v1 w hE h1 (hidi s1)

end Go.Proofs.YtlkoacopknolnaaGreatDoor
