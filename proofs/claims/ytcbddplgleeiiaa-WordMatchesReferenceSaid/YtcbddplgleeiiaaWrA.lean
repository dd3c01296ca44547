/-
  The contract of the word reference's Suffix.
-/
import Derived.Test.YtcbddplgleeiiaaWlJ
namespace Go.Proofs.Ytcbddplgleeiiaa
open Go.RowKit

/-- a token: which arm of a region's walk has its turn -/
inductive Tk : Nat → Prop
  | mk (n : Nat) : Tk n

theorem own_none (W : World) (base : Nat) (hb : base ≤ W.heap.size) : (W.alloc (.cells #[] 3)).ownsRow base 3 1 (.slice (some ⟨W.heap.size, 0, none⟩) 0 0) 0 [] :=
  ⟨rfl, .inr ⟨W.heap.size, 0, #[], rfl, hb, heap_alloc_new W _, Nat.le_refl _, by decide, rfl, rfl⟩⟩

theorem resB_grown' {X Y : World} {g : Nat} {row : Option Nat} (h : ResB X g) (hg : X.grownBy Y row) (hr : row ≠ some g) : ResB Y g := by
  obtain ⟨u, t, h⟩ := h
  exact ⟨u, t, (hg.block g (Array.getElem?_eq_some_iff.1 h).1 (fun e => hr e.symm)).trans h⟩

theorem frm_grow {w X Y : World} {u t : Value} {row : Option Nat} (h : X.cell? ⟨w.heap.size, 0, none⟩ = some u ∧ X.cell? ⟨w.heap.size, 1, none⟩ = some t ∧ Hid (ResB X (w.heap.size + 1)) ∧ Below w.heap.size w X) (hg : X.grownBy Y row) (hr : ∀ g, row = some g → w.heap.size + 1 < g) :
    Y.cell? ⟨w.heap.size, 0, none⟩ = some u ∧ Y.cell? ⟨w.heap.size, 1, none⟩ = some t ∧ Hid (ResB Y (w.heap.size + 1)) ∧ Below w.heap.size w Y := by
  obtain ⟨h1, h2, h3, h4⟩ := h
  have hlt := h3.out.lt
  have e := hg.block w.heap.size (by omega) (fun e => by have := hr _ e.symm; omega)
  exact ⟨(World.cell?_of_block e).trans h1, (World.cell?_of_block e).trans h2, hidi (resB_grown' h3.out hg (fun e => by have := hr _ e; omega)), h4.grown hg h4.size (fun g e => by have := hr g e; omega)⟩

set_option maxRecDepth 100000 in
set_option maxHeartbeats 4000000 in
theorem refsuffix_neg (B : Nat) (v : Value) (s l : List Int) (n : Int) (w : World) (hv : LasAt B w v s l) (hBw : B ≤ w.heap.size) (hn0 : ¬ 0 ≤ n) :
    Calls Try.prog 25 #[v, .int .i64 n] w fun e w' => ∃ r, e = .returned r ∧ NewLas w.heap.size w' r (sufL s l n).1 (sufL s l n).2 ∧ Below w.heap.size w w' := by
  have hv' := hv.mono hBw
  obtain ⟨o1, c1, o2, c2, rfl, h1, h2⟩ := hv'.open
  obtain ⟨W0, hW0, e0, e1, hR, hB⟩ := frm_open w (.slice o1 s.length c1) (.slice o2 l.length c2)
  have hE : Hid (sufL s l n = ([], [])) := by unfold Hid sufL; rw [decide_eq_false hn0, Bool.and_false]; rfl
  have i0 : n < 0 := by omega
  obtain ⟨W1, hW1, hB1, -, -, -, hz⟩ := las_open w (.slice o1 s.length c1) (.slice o2 l.length c2)
  go_enter Try.func25, Try.ntmps25
  go_wp2_with fail
  (try simp only [Exit.inBlock, Exit.then])
  rw [hW1.out]
  refine bodyPost_ret (results_cell_row rfl _ _ (w.heap.size + 1) 24 _ (0, 0) _ rfl hz.out Try.underlying24 rfl lasSize) rfl ?_
  exact ⟨_, rfl, by rw [hE.out]; exact ⟨⟨_, _, rfl, .inl ⟨_, _, rfl, rfl⟩, .inl ⟨_, _, rfl, rfl⟩, fun g e => by simp [Value.ownBlock] at e, fun g e => by simp [Value.ownBlock] at e⟩⟩, hB1⟩

set_option maxRecDepth 100000 in
set_option maxHeartbeats 4000000 in
theorem refsuffix_bad (B : Nat) (v : Value) (s l : List Int) (n : Int) (w : World) (hv : LasAt B w v s l) (hBw : B ≤ w.heap.size) (hn : n ≤ 9223372036854775807) (hn0 : 0 ≤ n) (hf : formedB s l = false) :
    Calls Try.prog 25 #[v, .int .i64 n] w fun e w' => ∃ r, e = .returned r ∧ NewLas w.heap.size w' r (sufL s l n).1 (sufL s l n).2 ∧ Below w.heap.size w w' := by
  have hv' := hv.mono hBw
  obtain ⟨o1, c1, o2, c2, rfl, h1, h2⟩ := hv'.open
  obtain ⟨W0, hW0, e0, e1, hR, hB⟩ := frm_open w (.slice o1 s.length c1) (.slice o2 l.length c2)
  have i0 : ¬ n < 0 := by omega
  have hE : Hid (sufL s l n = ([], [])) := by unfold Hid sufL; rw [hf]; rfl
  go_enter Try.func25, Try.ntmps25
  go_wp2_with (go_at_call 30; rw [hW0.out]; refine (refformed_any w.heap.size _ s l _ (hv'.below hB (Nat.le_refl _)) hB.size).mono ?_; rintro e w1 ⟨rfl, hb⟩; rw [hf]; obtain ⟨q0, q1, q8, q9⟩ := frm_call e0.out e1.out hR hB hb; obtain ⟨a0, a1, z0, z1, y0, y1⟩ := q8.out.cells)
  (try simp only [Exit.inBlock, Exit.then])
  refine bodyPost_ret (results_cell_row rfl _ _ (w.heap.size + 1) 24 _ (0, 0) _ rfl (q8.out.set _ _) Try.underlying24 rfl lasSize) rfl ?_
  exact ⟨_, rfl, by rw [hE.out]; exact las_put _ _ (Nat.le_succ _) q9 (.inl ⟨_, _, rfl, rfl⟩) (.inl ⟨_, _, rfl, rfl⟩) (fun g e => by simp [Value.ownBlock] at e) (fun g e => by simp [Value.ownBlock] at e) _ _⟩

set_option maxRecDepth 100000 in
set_option maxHeartbeats 4000000 in
theorem refsuffix_low (B : Nat) (v : Value) (s l : List Int) (k : Nat) (w : World) (hv : LasAt B w v s l) (hBw : B ≤ w.heap.size) (hk : (k : Int) ≤ 9223372036854775807) (hf : formedB s l = true) (hks : k ≤ s.length) :
    Calls Try.prog 25 #[v, .int .i64 k] w fun e w' => ∃ r, e = .returned r ∧ NewLas w.heap.size w' r (sufL s l k).1 (sufL s l k).2 ∧ Below w.heap.size w w' := by
  have hv' := hv.mono hBw
  obtain ⟨o1, c1, o2, c2, rfl, h1, h2⟩ := hv'.open
  obtain ⟨W0, hW0, e0, e1, hR, hB⟩ := frm_open w (.slice o1 s.length c1) (.slice o2 l.length c2)
  have hn0 : (0 : Int) ≤ (k : Int) := by omega
  have i0 : ¬ (k : Int) < 0 := by omega
  obtain ⟨p1, p2, p3, -, -⟩ := formed_pos hf
  obtain ⟨S1, hS1⟩ : ∃ S1, Hid (S1 = s.drop k) := ⟨_, rfl⟩
  obtain ⟨R1, hRr⟩ : ∃ R1, Hid (R1 = l) := ⟨_, rfl⟩
  have hE : Hid (sufL s l k = normL S1 R1) := by
    unfold Hid
    rw [sufL_eq hf, hS1.out, hRr.out]
    unfold dropW
    rw [if_pos hks]
  have hR0 : 0 < R1.length := by rw [hRr.out]; exact p1
  have hRl : R1.length ≤ 40 := by rw [hRr.out]; omega
  have hS2 : S1.length ≤ s.length := by rw [hS1.out]; simp
  obtain ⟨O2, hO2⟩ : ∃ O2, (if c1 = k then o1 else o1.map (fun a => a.add k)) = O2 := ⟨_, rfl⟩
  have I1 : IntsAt w.heap.size w (.slice O2 (s.length - k) (c1 - k)) S1 := by rw [hS1.out, ← hO2]; exact slice_drop h1 k hks
  have I2 : IntsAt w.heap.size w (.slice o2 l.length c2) R1 := by rw [hRr.out]; exact h2
  have v3 : (0 : Int) ≤ (k : Int) := by omega
  have v4 : (k : Int) ≤ (s.length : Int) := by omega
  go_enter Try.func25, Try.ntmps25
  go_wp2_with (go_at_call 30; rw [hW0.out]; refine (refformed_any w.heap.size _ s l _ (hv'.below hB (Nat.le_refl _)) hB.size).mono ?_; rintro e w1 ⟨rfl, hb⟩; rw [hf]; obtain ⟨q0, q1, q8, q9⟩ := frm_call e0.out e1.out hR hB hb)
  have hst := And.intro q0 (And.intro q1 (And.intro q8 q9.drew))
  go_region_held3 (fun W => W.cell? ⟨w.heap.size, 0, none⟩ = some (.slice o1 s.length c1) ∧ W.cell? ⟨w.heap.size, 1, none⟩ = some (.slice o2 l.length c2) ∧ Hid (ResB W (w.heap.size + 1)) ∧ Below w.heap.size w W) (first | exact hst | exact ⟨f0, f1, f8, f9⟩ | exact frm_store f0 f1 f8 f9 _ _ | exact frm_alloc (by assumption) _) (first | (obtain ⟨g0, g1, g8, g9⟩ : _ ∧ _ ∧ Hid (ResB _ (w.heap.size + 1)) ∧ Below w.heap.size w _ := (by assumption); go_at_call 40; refine (refshort_any _ _ S1 R1 _ ⟨_, _, rfl, (I1.below g9 (Nat.le_refl _)).mono g9.size, (I2.below g9 (Nat.le_refl _)).mono g9.size⟩ (Nat.le_refl _) hR0 (by omega)).mono ?_; rintro e w4 ⟨r4, rfl, hN4, hb4⟩; obtain ⟨u5, u4, rfl, J5, J4, F5, F4⟩ := hN4.ex; obtain ⟨x5, k5, rfl⟩ := J5.shape; obtain ⟨x4, k4, rfl⟩ := J4.shape; have hs4 := g8.out.lt; obtain ⟨f0, f1, f8, f9⟩ := frm_call g0 g1 g8 g9 hb4; obtain ⟨a0, a1, z0, z1, y0, y1⟩ := f8.out.cells))
  all_goals go_wp2
  all_goals (try simp only [Exit.inBlock, Exit.then])
  all_goals refine bodyPost_ret (results_cell_row rfl _ _ (w.heap.size + 1) 24 _ (0, 0) _ rfl (f8.out.set _ _) Try.underlying24 rfl lasSize) rfl ?_
  all_goals exact ⟨_, rfl, by rw [hE.out]; exact las_put _ _ (Nat.le_succ _) f9 J5 J4 (fun g e => Nat.lt_of_lt_of_le hs4 (F5 g e)) (fun g e => Nat.lt_of_lt_of_le hs4 (F4 g e)) _ _⟩

end Go.Proofs.Ytcbddplgleeiiaa
