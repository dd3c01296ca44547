/-
  The contract of package word's normal.
-/
import Derived.Test.YtcbddplgleeiiaaWdC
namespace Go.Proofs.Ytcbddplgleeiiaa
open Go.RowKit

/-- a lasso is written into a result's block -/
theorem las_put {w wr : World} (W R : Nat) (hR : W ≤ R) (hAB : Below W w wr) {st lp : List Int} {v5 v4 : Value} (J5 : IntsAt wr.heap.size wr v5 st) (J4 : IntsAt wr.heap.size wr v4 lp)
    (far5 : ∀ g, v5.ownBlock = some g → R < g) (far4 : ∀ g, v4.ownBlock = some g → R < g) (u t : Value) :
    NewLas W ((wr.setCell ⟨R, 0, none⟩ u).setCell ⟨R, 1, none⟩ t) (.agg #[v5, v4]) st lp ∧
      Below W w ((wr.setCell ⟨R, 0, none⟩ u).setCell ⟨R, 1, none⟩ t) := by
  have hs : ((wr.setCell ⟨R, 0, none⟩ u).setCell ⟨R, 1, none⟩ t).heap.size = wr.heap.size := by
    simp only [World.setCell, Array.size_modify]
  have f5 : ∀ g, v5.ownBlock = some g → g ≠ R := fun g e => by have := far5 g e; omega
  have f4 : ∀ g, v4.ownBlock = some g → g ≠ R := fun g e => by have := far4 g e; omega
  refine ⟨⟨⟨v5, v4, rfl, ?_, ?_, fun g e => by have := far5 g e; omega, fun g e => by have := far4 g e; omega⟩⟩, ?_⟩
  · rw [hs]; exact (J5.setCell _ f5 _).setCell _ f5 _
  · rw [hs]; exact (J4.setCell _ f4 _).setCell _ f4 _
  · exact (hAB.setCell (p := ⟨R, 0, none⟩) hR _).setCell (p := ⟨R, 1, none⟩) hR _

/-- the block of a result: an empty lasso -/
def ResAt (w : World) (R : Nat) : Prop := w.heap[R]? = some (.cells #[.slice none 0 0, .slice none 0 0] 24 (0, 0))

theorem ResAt.c0 {w : World} {R : Nat} (h : ResAt w R) : w.cell? ⟨R, 0, none⟩ = some (.slice none 0 0) := cell_of_row w R 0 _ _ _ h
theorem ResAt.c1 {w : World} {R : Nat} (h : ResAt w R) : w.cell? ⟨R, 1, none⟩ = some (.slice none 0 0) := cell_of_row w R 1 _ _ _ h
theorem ResAt.y0 {w : World} {R : Nat} (h : ResAt w R) : w.frozen? ⟨R, 0, none⟩ = false := by unfold ResAt at h; simp [World.frozen?, h]
theorem ResAt.y1 {w : World} {R : Nat} (h : ResAt w R) : w.frozen? ⟨R, 1, none⟩ = false := by unfold ResAt at h; simp [World.frozen?, h]
theorem ResAt.below {w w' : World} {R B : Nat} (h : ResAt w R) (hB : Below B w w') (hR : R < B) : ResAt w' R := (hB.block R hR).trans h
/-- the block of a result, whatever it holds -/
def ResB (w : World) (R : Nat) : Prop := ∃ u t, w.heap[R]? = some (.cells #[u, t] 24 (0, 0))

theorem ResAt.resB {w : World} {R : Nat} (h : ResAt w R) : ResB w R := ⟨_, _, h⟩
theorem ResB.below {w w' : World} {R : Nat} (h : ResB w R) (hB : Below w.heap.size w w') : ResB w' R := by
  obtain ⟨u, t, h⟩ := h
  exact ⟨u, t, (hB.block R (Array.getElem?_eq_some_iff.1 h).1).trans h⟩
theorem ResB.cells {w : World} {R : Nat} (h : ResB w R) : ∃ u t, w.cell? ⟨R, 0, none⟩ = some u ∧ w.cell? ⟨R, 1, none⟩ = some t ∧ w.frozen? ⟨R, 0, none⟩ = false ∧ w.frozen? ⟨R, 1, none⟩ = false := by
  obtain ⟨u, t, h⟩ := h
  exact ⟨u, t, cell_of_row w R 0 _ _ _ h, cell_of_row w R 1 _ _ _ h, by simp [World.frozen?, h], by simp [World.frozen?, h]⟩
theorem ResB.lt {w : World} {R : Nat} (h : ResB w R) : R < w.heap.size := by
  obtain ⟨u, t, h⟩ := h
  exact (Array.getElem?_eq_some_iff.1 h).1
theorem ResB.set {w : World} {R : Nat} (h : ResB w R) (u t : Value) : ((w.setCell ⟨R, 0, none⟩ u).setCell ⟨R, 1, none⟩ t).heap[R]? = some (.cells #[u, t] 24 (0, 0)) := by
  obtain ⟨a, b, h⟩ := h
  exact set2 _ _ _ _ _ _ _ h

/-- what stands while a result is made: its block, and what came in -/
theorem res_call {w X Y : World} {R : Nat} (q8 : Hid (ResB X R)) (q9 : Below w.heap.size w X) (hb : Below X.heap.size X Y) : Hid (ResB Y R) ∧ Below w.heap.size w Y :=
  ⟨hidi (q8.out.below hb), q9.trans (hb.mono q9.size)⟩
theorem res_store {w X : World} {R : Nat} (hR : w.heap.size ≤ R) (q8 : Hid (ResB X R)) (q9 : Below w.heap.size w X) (u t : Value) : Hid (ResB ((X.setCell ⟨R, 0, none⟩ u).setCell ⟨R, 1, none⟩ t) R) ∧ Below w.heap.size w ((X.setCell ⟨R, 0, none⟩ u).setCell ⟨R, 1, none⟩ t) :=
  ⟨hidi ⟨_, _, q8.out.set u t⟩, (q9.setCell (p := ⟨R, 0, none⟩) hR _).setCell (p := ⟨R, 1, none⟩) hR _⟩

theorem ResAt.new (w : World) : ResAt (w.alloc (.cells #[.slice none 0 0, .slice none 0 0] 24)) w.heap.size := heap_alloc_new w _

theorem IntsAt.cap {B : Nat} {w : World} {o : Option Addr} {c : Nat} {xs : List Int} (h : IntsAt B w (.slice o xs.length c) xs) : xs.length ≤ c := by
  rcases h with ⟨o', c', _, rfl⟩ | ⟨b, off, cap, hv, _, h2, _⟩
  · simp
  · cases hv; exact h2

set_option maxRecDepth 100000 in
set_option maxHeartbeats 2000000 in
theorem normal_any (B : Nat) (u v : Value) (s l : List Int) (w : World) (hu : IntsAt B w u s) (hv : IntsAt B w v l) (hBw : B ≤ w.heap.size) (hl : 0 < l.length) (hsl : s.length + l.length ≤ 400000) :
    Calls Try.prog 39 #[u, v] w fun e w' => ∃ r, e = .returned r ∧ NewLas w.heap.size w' r (normL s l).1 (normL s l).2 ∧ Below w.heap.size w w' := by
  have hu' := hu.mono hBw
  have hv' := hv.mono hBw
  obtain ⟨a1, a2, a3, a4⟩ := leastRep_spec hl
  obtain ⟨o1, c1, rfl⟩ := hu'.shape
  obtain ⟨o2, c2, rfl⟩ := hv'.shape
  obtain ⟨b, off, rfl, hb, hlc, hcm, hc⟩ := hv'.at hl
  have hsc := hu'.cap
  obtain ⟨p, hp⟩ : ∃ p, Hid (p = leastRep l) := ⟨_, rfl⟩
  have p0 : 0 < p := by rw [hp.out]; exact a2
  have p1 : p ≤ l.length := by rw [hp.out]; exact a3
  have hPl : Hid ((l.take p).length = p) := by unfold Hid; rw [List.length_take, Nat.min_eq_left p1]
  have hN : Hid (normL s l = strip s.reverse (l.take p)) := by unfold Hid normL; rw [hp.out]
  have hT := hidi (hv'.take p p1)
  clear a1 a2 a3 a4
  obtain ⟨W0, hW0, hA, hR, hq⟩ : ∃ W0, Hid (w.alloc (.cells #[.slice none 0 0, .slice none 0 0] 24) = W0) ∧ Below w.heap.size w W0 ∧ Hid (ResAt W0 w.heap.size) ∧ Hid (W0.heap.size = w.heap.size + 1) :=
    ⟨_, rfl, (Below.refl _ _).alloc (Nat.le_refl _) _, ResAt.new w, by unfold Hid; simp⟩
  have q0 : w.heap.size < W0.heap.size := by have := hq.out; omega
  have hpz : ¬ (p : Int) = 0 := by omega
  have hpz' : ¬ p = 0 := by omega
  have hpc : (p : Int) ≤ (c2 : Int) := by omega
  have hp0 : (0 : Int) ≤ (p : Int) := by omega
  go_enter Try.func39, Try.ntmps39
  go_wp2_with (go_at_call 51; rw [hW0.out]; refine (period_any w.heap.size _ l _ (hv'.below hA (Nat.le_refl _)) hA.size hl).mono ?_; rintro e w1 ⟨rfl, hb1⟩; rw [← hp.out])
  go_loopw [6, 7] (fun a b wr => ∃ k f : Nat, k ≤ s.length ∧ f < p ∧ a = .int .i64 k ∧ b = .int .i64 f ∧ Below W0.heap.size W0 wr ∧ Hid (normL s l = strip (s.take k).reverse (rotL (l.take p) f))) (fun a _ _ => (intOf a).toNat)
  case atStart => exact ⟨s.length, 0, Nat.le_refl _, p0, rfl, rfl, hb1, by unfold Hid; rw [hN.out, rotL_zero, List.take_length]⟩
  case round =>
    obtain ⟨k, f, hk, hf, rfl, rfl, hB, hF⟩ := hrel
    have hkc : (k : Int) ≤ (c1 : Int) := by omega
    have hk0 : (0 : Int) ≤ (k : Int) := by omega
    have hf0 : (0 : Int) ≤ (f : Int) := by omega
    rcases Nat.eq_zero_or_pos k with rfl | hk1
    · have hend : Hid (normL s l = (s.take 0, rotL (l.take p) f)) := by unfold Hid; rw [hF.out]; simp [strip]
      go_wp2_with fail
      go_quiet (fail)
      go_wp2_with fail
      have hR1 := hR.out.below hB q0
      have I1 := hu'.take 0 (by omega)
      obtain ⟨S1, hS1⟩ : ∃ S1, S1 = s.take 0 := ⟨_, rfl⟩
      obtain ⟨R1, hRr⟩ : ∃ R1, Hid (R1 = rotL (l.take p) f) := ⟨_, rfl⟩
      rw [← hS1] at I1
      have I2 := hT.out
      have L1 : S1.length ≤ 500000 := by rw [hS1, List.length_take]; omega
      have L2 : (l.take p).length ≤ 500000 := by rw [List.length_take]; omega
      have L3 : f < (l.take p).length := by rw [hPl.out]; exact hf
      have hS1' := hidi hS1
      clear hS1
      have hst : Hid (ResB wr w.heap.size) := hidi hR1.resB
      have hWr := hA.trans (hB.mono hA.size)
      go_region_held3 (fun W => Hid (ResB W w.heap.size) ∧ Below w.heap.size w W) (first | exact ⟨hst, (below_drewN hWr _).drew⟩ | exact ⟨q7, q6⟩ | exact res_store (Nat.le_refl _) q7 q6 _ _) (first | (obtain ⟨q8, q9⟩ : Hid (ResB _ w.heap.size) ∧ Below w.heap.size w _ := (by assumption); go_at_call 52; refine (clone_any w.heap.size _ S1 _ (I1.below q9 (Nat.le_refl _)) q9.size L1).mono ?_; rintro e w2 ⟨r2, rfl, hN2, hb2⟩; obtain ⟨x2, k2, rfl⟩ := hN2.1.shape; obtain ⟨q7, q6⟩ := res_call q8 q9 hb2; have hs2 := q8.out.lt; obtain ⟨a0, a1, z0, z1, y0, y1⟩ := q7.out.cells) | (obtain ⟨q8, q9⟩ : Hid (ResB _ w.heap.size) ∧ Below w.heap.size w _ := (by assumption); go_at_call 42; refine (turned_any w.heap.size _ (l.take p) f _ (I2.below q9 (Nat.le_refl _)) q9.size L3 L2).mono ?_; rintro e w3 ⟨r3, rfl, hN3, hb3⟩; rw [← hRr.out] at hN3; obtain ⟨x3, k3, rfl⟩ := hN3.1.shape; obtain ⟨q7, q6⟩ := res_call q8 q9 hb3; have hs3 := q8.out.lt; obtain ⟨a0, a1, z0, z1, y0, y1⟩ := q7.out.cells))
      all_goals go_wp2
      all_goals (try simp only [Exit.inBlock, Exit.then])
      all_goals refine bodyPost_ret (results_cell_row rfl _ _ w.heap.size 24 _ (0, 0) _ rfl (q7.out.set _ _) Try.underlying24 rfl lasSize) rfl ?_
      all_goals exact ⟨_, rfl, by rw [hend.out, ← hS1'.out, ← hRr.out]; exact las_put _ _ (Nat.le_refl _) q6 ((hN2.1.below hb3 (Nat.le_refl _)).mono hb3.size) hN3.1 (fun g e => Nat.lt_of_lt_of_le hs2 (hN2.2 g e)) (fun g e => Nat.lt_of_lt_of_le hs3 (hN3.2 g e)) _ _⟩
    · obtain ⟨m, rfl⟩ : ∃ m, k = m + 1 := ⟨k - 1, by omega⟩
      obtain ⟨e, he⟩ : ∃ e : Nat, Hid (e = (f + p - 1) % p) := ⟨_, rfl⟩
      have he1 : e < p := by rw [he.out]; exact Nat.mod_lt _ p0
      have hel : e < l.length := by omega
      have hms : m < s.length := by omega
      obtain ⟨b1, f1, rfl, hb1', -, -, hc1⟩ := hu'.at (by omega)
      have hWB := hA.trans (hB.mono hA.size)
      have dx := (hWB.cell (p := ⟨b1, f1 + m, none⟩) hb1').trans (hc1 m hms).1
      have dy := (hWB.cell (p := ⟨b, off + e, none⟩) hb).trans (hc e hel).1
      have r0 : IntKind.i64.wrap ((m : Int) + 1 - 1) = (m : Int) := by rw [IntKind.wrap_i64]; omega
      have r1 : IntKind.i64.wrap ((f : Int) + (p : Int)) = (f : Int) + (p : Int) := by rw [IntKind.wrap_i64]; omega
      have r2 : IntKind.i64.wrap ((f : Int) + (p : Int) - 1) = (f : Int) + (p : Int) - 1 := by rw [IntKind.wrap_i64]; omega
      have r3 : ((f : Int) + (p : Int) - 1).tmod (p : Int) = (e : Int) := by
        rw [Int.tmod_eq_emod_of_nonneg (by omega), he.out, Int.natCast_emod, show ((f + p - 1 : Nat) : Int) = (f : Int) + p - 1 by omega]
      have x0 : (0 : Int) ≤ (m : Int) := by omega
      have x1 : (m : Int) < (s.length : Int) := by omega
      have x2 : (0 : Int) ≤ (e : Int) := by omega
      have x3 : (e : Int) < (l.length : Int) := by omega
      have x4 : (0 : Int) < (m : Int) + 1 := by omega
      have x5 : (0 : Int) ≤ (m : Int) + 1 := by omega
      have x6 : (m : Int) + 1 ≤ (c1 : Int) := by omega
      have x7 : ((m : Int) + 1).toNat = m + 1 := by omega
      cases hq2 : (s[m] == l[e])
      · have hend : Hid (normL s l = (s.take (m + 1), rotL (l.take p) f)) := by
          unfold Hid
          have hPn : (l.take p).length = (p - 1) + 1 := by rw [hPl.out]; omega
          rw [hF.out, strip_rot_stop hPn (by rw [hPl.out]; exact hf) hms (by
            rw [hPl.out, ← he.out]
            have : s[m] ≠ l[e] := by simpa using hq2
            simp only [List.getD_eq_getElem?_getD, List.getElem?_take]
            rw [if_pos he1, List.getElem?_eq_getElem hms, List.getElem?_eq_getElem hel]
            simpa using this)]
        go_wp2_with fail
        go_quiet (fail)
        go_wp2_with fail
        have hR1 := hR.out.below hB q0
        have I1 := hu'.take (m + 1) (by omega)
        obtain ⟨S1, hS1⟩ : ∃ S1, S1 = s.take (m + 1) := ⟨_, rfl⟩
        obtain ⟨R1, hRr⟩ : ∃ R1, Hid (R1 = rotL (l.take p) f) := ⟨_, rfl⟩
        rw [← hS1] at I1
        have I2 := hT.out
        have L1 : S1.length ≤ 500000 := by rw [hS1, List.length_take]; omega
        have L2 : (l.take p).length ≤ 500000 := by rw [List.length_take]; omega
        have L3 : f < (l.take p).length := by rw [hPl.out]; exact hf
        have hS1' := hidi hS1
        clear hS1
        have hst : Hid (ResB wr w.heap.size) := hidi hR1.resB
        have hWr := hA.trans (hB.mono hA.size)
        go_region_held3 (fun W => Hid (ResB W w.heap.size) ∧ Below w.heap.size w W) (first | exact ⟨hst, (below_drewN hWr _).drew⟩ | exact ⟨q7, q6⟩ | exact res_store (Nat.le_refl _) q7 q6 _ _) (first | (obtain ⟨q8, q9⟩ : Hid (ResB _ w.heap.size) ∧ Below w.heap.size w _ := (by assumption); go_at_call 52; refine (clone_any w.heap.size _ S1 _ (I1.below q9 (Nat.le_refl _)) q9.size L1).mono ?_; rintro e w2 ⟨r2, rfl, hN2, hb2⟩; obtain ⟨x2, k2, rfl⟩ := hN2.1.shape; obtain ⟨q7, q6⟩ := res_call q8 q9 hb2; have hs2 := q8.out.lt; obtain ⟨a0, a1, z0, z1, y0, y1⟩ := q7.out.cells) | (obtain ⟨q8, q9⟩ : Hid (ResB _ w.heap.size) ∧ Below w.heap.size w _ := (by assumption); go_at_call 42; refine (turned_any w.heap.size _ (l.take p) f _ (I2.below q9 (Nat.le_refl _)) q9.size L3 L2).mono ?_; rintro e w3 ⟨r3, rfl, hN3, hb3⟩; rw [← hRr.out] at hN3; obtain ⟨x3, k3, rfl⟩ := hN3.1.shape; obtain ⟨q7, q6⟩ := res_call q8 q9 hb3; have hs3 := q8.out.lt; obtain ⟨a0, a1, z0, z1, y0, y1⟩ := q7.out.cells))
        all_goals go_wp2
        all_goals (try simp only [Exit.inBlock, Exit.then])
        all_goals refine bodyPost_ret (results_cell_row rfl _ _ w.heap.size 24 _ (0, 0) _ rfl (q7.out.set _ _) Try.underlying24 rfl lasSize) rfl ?_
        all_goals exact ⟨_, rfl, by rw [hend.out, ← hS1'.out, ← hRr.out]; exact las_put _ _ (Nat.le_refl _) q6 ((hN2.1.below hb3 (Nat.le_refl _)).mono hb3.size) hN3.1 (fun g e => Nat.lt_of_lt_of_le hs2 (hN2.2 g e)) (fun g e => Nat.lt_of_lt_of_le hs3 (hN3.2 g e)) _ _⟩
      · have hgo : Hid (normL s l = strip (s.take m).reverse (rotL (l.take p) e)) := by
          unfold Hid
          have hPn : (l.take p).length = (p - 1) + 1 := by rw [hPl.out]; omega
          rw [hF.out, strip_rot hPn (by rw [hPl.out]; exact hf) hms (by
            rw [hPl.out, ← he.out]
            have : s[m] = l[e] := by simpa using hq2
            simp only [List.getD_eq_getElem?_getD, List.getElem?_take]
            rw [if_pos he1, List.getElem?_eq_getElem hms, List.getElem?_eq_getElem hel, this]), hPl.out, ← he.out]
        go_wp2_with fail
        go_quiet (fail)
        go_wp2
        go_roundw
        case rel => exact ⟨m, e, by omega, he1, by go_num, by go_num, below_drewN hB _, hgo⟩
        case measure => simp [intOf]

end Go.Proofs.Ytcbddplgleeiiaa
