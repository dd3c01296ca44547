/-
  The contract of package word's Same.
-/
import Derived.Test.YtcbddplgleeiiaaWdE
namespace Go.Proofs.Ytcbddplgleeiiaa
open Go.RowKit

/-- the boxes of two lassos, one behind the other -/
def Two (w : World) (R : Nat) (u t x y : Value) : Prop := w.heap[R]? = some (.cells #[u, t] 24 (0, 0)) ∧ w.heap[R + 1]? = some (.cells #[x, y] 24 (0, 0))

theorem Two.below {w w' : World} {R : Nat} {u t x y : Value} (h : Two w R u t x y) (hB : Below w.heap.size w w') : Two w' R u t x y :=
  ⟨(hB.block R (Array.getElem?_eq_some_iff.1 h.1).1).trans h.1, (hB.block (R + 1) (Array.getElem?_eq_some_iff.1 h.2).1).trans h.2⟩
theorem Two.cells {w : World} {R : Nat} {u t x y : Value} (h : Two w R u t x y) : w.cell? ⟨R, 0, none⟩ = some u ∧ w.cell? ⟨R, 1, none⟩ = some t ∧ w.cell? ⟨R + 1, 0, none⟩ = some x ∧ w.cell? ⟨R + 1, 1, none⟩ = some y ∧
    w.frozen? ⟨R, 0, none⟩ = false ∧ w.frozen? ⟨R, 1, none⟩ = false ∧ w.frozen? ⟨R + 1, 0, none⟩ = false ∧ w.frozen? ⟨R + 1, 1, none⟩ = false :=
  ⟨cell_of_row w R 0 _ _ _ h.1, cell_of_row w R 1 _ _ _ h.1, cell_of_row w (R + 1) 0 _ _ _ h.2, cell_of_row w (R + 1) 1 _ _ _ h.2, by simp [World.frozen?, h.1], by simp [World.frozen?, h.1], by simp [World.frozen?, h.2], by simp [World.frozen?, h.2]⟩
theorem Two.set {w : World} {R : Nat} {u t x y : Value} (h : Two w R u t x y) (a b c d : Value) : Two ((((w.setCell ⟨R, 0, none⟩ a).setCell ⟨R, 1, none⟩ b).setCell ⟨R + 1, 0, none⟩ c).setCell ⟨R + 1, 1, none⟩ d) R a b c d := by
  constructor
  · have h1 := set2 w R u t a b _ h.1
    rw [← h1]
    exact (Below.heap_setCell _ _ _ _ (by simp)).trans (Below.heap_setCell _ _ _ _ (by simp))
  · refine set2 _ (R + 1) x y c d _ ?_
    rw [← h.2]
    exact (Below.heap_setCell _ _ _ _ (by simp)).trans (Below.heap_setCell _ _ _ _ (by simp))
theorem Two.setB {w : World} {R : Nat} {u t x y : Value} (h : Two w R u t x y) (a b c d : Value) : Two ((((w.setCell ⟨R + 1, 0, none⟩ c).setCell ⟨R + 1, 1, none⟩ d).setCell ⟨R, 0, none⟩ a).setCell ⟨R, 1, none⟩ b) R a b c d := by
  constructor
  · refine set2 _ R u t a b _ ?_
    rw [← h.1]
    exact (Below.heap_setCell _ _ _ _ (by simp)).trans (Below.heap_setCell _ _ _ _ (by simp))
  · have h1 := set2 w (R + 1) x y c d _ h.2
    rw [← h1]
    exact (Below.heap_setCell _ _ _ _ (by simp)).trans (Below.heap_setCell _ _ _ _ (by simp))

theorem two_open (w : World) (u t x y : Value) : ∃ W0, Hid ((w.alloc (.cells #[u, t] 24)).alloc (.cells #[x, y] 24) = W0) ∧ Below w.heap.size w W0 ∧ Hid (Two W0 w.heap.size u t x y) := by
  have hX : Below w.heap.size w (w.alloc (.cells #[u, t] 24)) := (Below.refl _ _).alloc (Nat.le_refl _) _
  have hY := ((Below.refl _ (w.alloc (.cells #[u, t] 24))).alloc (Nat.le_refl _) (.cells #[x, y] 24))
  refine ⟨_, rfl, hX.alloc hX.size _, ?_, ?_⟩
  · rw [← show (w.alloc (.cells #[u, t] 24)).heap[w.heap.size]? = some (.cells #[u, t] 24 (0, 0)) from heap_alloc_new w _]
    exact hY.block _ (by simp)
  · have := heap_alloc_new (w.alloc (.cells #[u, t] 24)) (.cells #[x, y] 24)
    rw [show (w.alloc (.cells #[u, t] 24)).heap.size = w.heap.size + 1 by simp] at this
    exact this

theorem Two.lt {w : World} {R : Nat} {u t x y : Value} (h : Two w R u t x y) : R + 1 < w.heap.size := (Array.getElem?_eq_some_iff.1 h.2).1
theorem size_set4 (w : World) (R : Nat) (a b c d : Value) : ((((w.setCell ⟨R, 0, none⟩ a).setCell ⟨R, 1, none⟩ b).setCell ⟨R + 1, 0, none⟩ c).setCell ⟨R + 1, 1, none⟩ d).heap.size = w.heap.size := by
  simp only [World.setCell, Array.size_modify]
theorem IntsAt.set4 {w : World} {R : Nat} {v : Value} {xs : List Int} (h : IntsAt w.heap.size w v xs) (far : ∀ g, v.ownBlock = some g → R + 1 < g) (a b c d : Value) :
    IntsAt ((((w.setCell ⟨R, 0, none⟩ a).setCell ⟨R, 1, none⟩ b).setCell ⟨R + 1, 0, none⟩ c).setCell ⟨R + 1, 1, none⟩ d).heap.size ((((w.setCell ⟨R, 0, none⟩ a).setCell ⟨R, 1, none⟩ b).setCell ⟨R + 1, 0, none⟩ c).setCell ⟨R + 1, 1, none⟩ d) v xs := by
  have f : ∀ g, v.ownBlock = some g → g ≠ R ∧ g ≠ R + 1 := fun g e => by have := far g e; omega
  rw [size_set4]
  exact (((h.setCell _ (fun g e => (f g e).1) _).setCell _ (fun g e => (f g e).1) _).setCell _ (fun g e => (f g e).2) _).setCell _ (fun g e => (f g e).2) _
theorem below_set4 {w W : World} {R : Nat} (h : Below w.heap.size w W) (hR : w.heap.size ≤ R) (a b c d : Value) : Below w.heap.size w ((((W.setCell ⟨R, 0, none⟩ a).setCell ⟨R, 1, none⟩ b).setCell ⟨R + 1, 0, none⟩ c).setCell ⟨R + 1, 1, none⟩ d) :=
  (((h.setCell (p := ⟨R, 0, none⟩) hR _).setCell (p := ⟨R, 1, none⟩) hR _).setCell (p := ⟨R + 1, 0, none⟩) (Nat.le_succ_of_le hR) _).setCell (p := ⟨R + 1, 1, none⟩) (Nat.le_succ_of_le hR) _

theorem normI_formed {s l : List Int} (h : formedB s l = true) : normI s l = normL s l := by unfold normI; rw [h]; rfl

set_option maxRecDepth 100000 in
set_option maxHeartbeats 2000000 in
theorem same_any (B : Nat) (u v : Value) (s l t k : List Int) (w : World) (hu : LasAt B w u s l) (hv : LasAt B w v t k) (hBw : B ≤ w.heap.size) :
    Calls Try.prog 22 #[u, v] w fun e w' => e = .returned (.bool (sameB s l t k)) ∧ Below w.heap.size w w' := by
  have hu' := hu.mono hBw
  have hv' := hv.mono hBw
  obtain ⟨o1, c1, o2, c2, rfl, -, -⟩ := hu.open
  obtain ⟨o3, c3, o4, c4, rfl, -, -⟩ := hv.open
  obtain ⟨W0, hW0, hB, hT⟩ := two_open w (.slice o1 s.length c1) (.slice o2 l.length c2) (.slice o3 t.length c3) (.slice o4 k.length c4)
  obtain ⟨d0, d1, d2, d3, y0, y1, y2, y3⟩ := hT.out.cells
  cases hf : formedB s l
  · go_enter Try.func22, Try.ntmps22
    go_wp2_with fail
    rw [hW0.out]
    go_wp2_with (go_at_call 34; refine (formed_any w.heap.size _ s l _ (hu'.below hB (Nat.le_refl _)) hB.size).mono ?_; rintro e w' ⟨rfl, hb⟩; rw [hf])
    go_ret
    exact ⟨ret_bool (by unfold sameB; rw [hf]; rfl), hB.trans (hb.mono hB.size)⟩
  · cases hg : formedB t k
    · go_enter Try.func22, Try.ntmps22
      go_wp2_with fail
      rw [hW0.out]
      go_wp2_with (first
        | (go_at_call 34; with_reducible refine (formed_any w.heap.size (.agg #[.slice o1 s.length c1, .slice o2 l.length c2]) s l _ (hu'.below hB (Nat.le_refl _)) hB.size).mono ?_; rintro e w1 ⟨rfl, hb⟩; rw [hf]; have hT1 := hidi (hT.out.below (hb.mono (Nat.le_refl _))); obtain ⟨d0, d1, d2, d3, y0, y1, y2, y3⟩ := hT1.out.cells; have hB := hB.trans (hb.mono hB.size); clear hb)
        | (go_at_call 34; refine (formed_any w.heap.size _ t k _ (hv'.below hB (Nat.le_refl _)) hB.size).mono ?_; rintro e w1 ⟨rfl, hb⟩; rw [hg]; have hB := hB.trans (hb.mono hB.size); clear hb))
      go_ret
      exact ⟨ret_bool (by unfold sameB; rw [hf, hg]; rfl), hB⟩
    · have n1 := hidi (normI_formed hf)
      have n2 := hidi (normI_formed hg)
      go_enter Try.func22, Try.ntmps22
      go_wp2_with fail
      rw [hW0.out]
      go_wp2_with (first
        | (go_at_call 34; with_reducible refine (formed_any w.heap.size (.agg #[.slice o1 s.length c1, .slice o2 l.length c2]) s l _ (hu'.below hB (Nat.le_refl _)) hB.size).mono ?_; rintro e w1 ⟨rfl, hb⟩; rw [hf]; have hT1 := hidi (hT.out.below (hb.mono (Nat.le_refl _))); obtain ⟨d0, d1, d2, d3, y0, y1, y2, y3⟩ := hT1.out.cells; have hB := hB.trans (hb.mono hB.size); clear hb)
        | (go_at_call 34; refine (formed_any w.heap.size _ t k _ (hv'.below hB (Nat.le_refl _)) hB.size).mono ?_; rintro e w2 ⟨rfl, hb⟩; rw [hg]; have hT2 := hidi (hT1.out.below (hb.mono (Nat.le_refl _))); obtain ⟨d0, d1, d2, d3, y0, y1, y2, y3⟩ := hT2.out.cells; have hB := hB.trans (hb.mono hB.size); clear hb))
      go_region_with (first
        | (go_at_call 20; with_reducible refine (wnormal_any w.heap.size (.agg #[.slice o1 s.length c1, .slice o2 l.length c2]) s l _ (hu'.below hB.drew (Nat.le_refl _)) hB.drew.size).mono ?_; rintro e w3 ⟨r3, rfl, hN3, hb3⟩; rw [n1.out] at hN3; obtain ⟨u5, u4, rfl, J5, J4, F5, F4⟩ := hN3.ex; have hq3 := hT2.out.lt; obtain ⟨x5, k5, rfl⟩ := J5.shape; obtain ⟨x4, k4, rfl⟩ := J4.shape; have hT3 := hidi (hT2.out.below ((Below.refl _ _).drew.trans (hb3.mono (Nat.le_refl _)))); obtain ⟨d0, d1, d2, d3, y0, y1, y2, y3⟩ := hT3.out.cells; have hB3 := hB.drew.trans (hb3.mono hB.drew.size))
        | (go_at_call 20; refine (wnormal_any w.heap.size _ t k _ (hv'.below hB3 (Nat.le_refl _)) hB3.size).mono ?_; rintro e w4 ⟨r4, rfl, hN4, hb4⟩; rw [n2.out] at hN4; obtain ⟨v5, v4, rfl, L5, L4, G5, G4⟩ := hN4.ex; have hq4 := hT3.out.lt; obtain ⟨z5, m5, rfl⟩ := L5.shape; obtain ⟨z4, m4, rfl⟩ := L4.shape; have hT4 := hidi (hT3.out.below hb4); obtain ⟨d0, d1, d2, d3, y0, y1, y2, y3⟩ := hT4.out.cells; have hB4 := hB3.trans (hb4.mono hB3.size)))
      all_goals
        have hT5 := hidi (hT4.out.set (.slice x5 (normL s l).fst.length k5) (.slice x4 (normL s l).snd.length k4) (.slice z5 (normL t k).fst.length m5) (.slice z4 (normL t k).snd.length m4))
        have P5 := ((J5.below hb4 (Nat.le_refl _)).mono hb4.size).set4 (fun g e => Nat.lt_of_lt_of_le hq3 (F5 g e)) (.slice x5 (normL s l).fst.length k5) (.slice x4 (normL s l).snd.length k4) (.slice z5 (normL t k).fst.length m5) (.slice z4 (normL t k).snd.length m4)
        have P4 := ((J4.below hb4 (Nat.le_refl _)).mono hb4.size).set4 (fun g e => Nat.lt_of_lt_of_le hq3 (F4 g e)) (.slice x5 (normL s l).fst.length k5) (.slice x4 (normL s l).snd.length k4) (.slice z5 (normL t k).fst.length m5) (.slice z4 (normL t k).snd.length m4)
        have M5 := L5.set4 (fun g e => Nat.lt_of_lt_of_le hq4 (G5 g e)) (.slice x5 (normL s l).fst.length k5) (.slice x4 (normL s l).snd.length k4) (.slice z5 (normL t k).fst.length m5) (.slice z4 (normL t k).snd.length m4)
        have M4 := L4.set4 (fun g e => Nat.lt_of_lt_of_le hq4 (G4 g e)) (.slice x5 (normL s l).fst.length k5) (.slice x4 (normL s l).snd.length k4) (.slice z5 (normL t k).fst.length m5) (.slice z4 (normL t k).snd.length m4)
        have hB5 := below_set4 hB4 (Nat.le_refl _) (.slice x5 (normL s l).fst.length k5) (.slice x4 (normL s l).snd.length k4) (.slice z5 (normL t k).fst.length m5) (.slice z4 (normL t k).snd.length m4)
        revert hT5 P5 P4 M5 M4 hB5
        generalize (((w4.setCell ⟨w.heap.size, 0, none⟩ (.slice x5 (normL s l).fst.length k5)).setCell ⟨w.heap.size, 1, none⟩ (.slice x4 (normL s l).snd.length k4)).setCell ⟨w.heap.size + 1, 0, none⟩ (.slice z5 (normL t k).fst.length m5)).setCell ⟨w.heap.size + 1, 1, none⟩ (.slice z4 (normL t k).snd.length m4) = W5
        intro hT5 P5 P4 M5 M4 hB5
        clear d0 d1 d2 d3 y0 y1 y2 y3
        obtain ⟨d0, d1, d2, d3, -, -, -, -⟩ := hT5.out.cells
        cases hq : decide ((normL s l).1 = (normL t k).1)
      all_goals go_wp2_with (first
        | (go_at_call 41; with_reducible refine (equal_any _ (.slice x5 (normL s l).fst.length k5) (.slice z5 (normL t k).fst.length m5) _ _ _ P5 M5 (Nat.le_refl _)).mono ?_; rintro e w6 ⟨rfl, hb6⟩; rw [hq]; have hT6 := hidi (hT5.out.below hb6); obtain ⟨d0, d1, d2, d3, -, -, -, -⟩ := hT6.out.cells; have hB6 := hB5.trans (hb6.mono hB5.size))
        | (go_at_call 41; refine (equal_any _ _ _ _ _ _ ((P4.below hb6 (Nat.le_refl _)).mono hb6.size) ((M4.below hb6 (Nat.le_refl _)).mono hb6.size) (Nat.le_refl _)).mono ?_; rintro e w7 ⟨rfl, hb7⟩; have hB6 := hB6.trans (hb7.mono hB6.size)))
      all_goals go_ret
      all_goals exact ⟨ret_bool (by unfold sameB lasEqB; rw [hf, hg, hq]; rfl), hB6⟩

end Go.Proofs.Ytcbddplgleeiiaa
