/-
  The contract of package word's Suffix.
-/
import Derived.Test.YtcbddplgleeiiaaWdF
namespace Go.Proofs.Ytcbddplgleeiiaa
open Go.RowKit

/-- how many letters of the stem a suffix leaves out -/
def leftN (s : List Int) (n : Int) : Nat := Nat.min n.toNat s.length
/-- what Suffix returns -/
def sufL (s l : List Int) (n : Int) : List Int × List Int :=
  if formedB s l && decide (0 ≤ n) then normL (s.drop (leftN s n)) (rotL l ((n.toNat - leftN s n) % l.length)) else ([], [])

/-- what stands while a function with one lasso makes its result: the lasso's box, the result's block, and what came in -/
theorem frm_call {w X Y : World} {u t : Value} (q0 : X.cell? ⟨w.heap.size, 0, none⟩ = some u) (q1 : X.cell? ⟨w.heap.size, 1, none⟩ = some t) (q8 : Hid (ResB X (w.heap.size + 1))) (q9 : Below w.heap.size w X) (hb : Below X.heap.size X Y) :
    Y.cell? ⟨w.heap.size, 0, none⟩ = some u ∧ Y.cell? ⟨w.heap.size, 1, none⟩ = some t ∧ Hid (ResB Y (w.heap.size + 1)) ∧ Below w.heap.size w Y := by
  have h := Nat.lt_of_succ_lt q8.out.lt
  exact ⟨(hb.cell (p := ⟨w.heap.size, 0, none⟩) h).trans q0, (hb.cell (p := ⟨w.heap.size, 1, none⟩) h).trans q1, hidi (q8.out.below hb), q9.trans (hb.mono q9.size)⟩
theorem cell_set_other {X : World} {R g i j : Nat} (h : g ≠ R) (v : Value) : (X.setCell ⟨R, i, none⟩ v).cell? ⟨g, j, none⟩ = X.cell? ⟨g, j, none⟩ :=
  World.cell?_of_block (Below.heap_setCell _ _ _ _ (by simpa using h))
theorem frm_store {w X : World} {u t : Value} (q0 : X.cell? ⟨w.heap.size, 0, none⟩ = some u) (q1 : X.cell? ⟨w.heap.size, 1, none⟩ = some t) (q8 : Hid (ResB X (w.heap.size + 1))) (q9 : Below w.heap.size w X) (a b : Value) :
    ((X.setCell ⟨w.heap.size + 1, 0, none⟩ a).setCell ⟨w.heap.size + 1, 1, none⟩ b).cell? ⟨w.heap.size, 0, none⟩ = some u ∧ ((X.setCell ⟨w.heap.size + 1, 0, none⟩ a).setCell ⟨w.heap.size + 1, 1, none⟩ b).cell? ⟨w.heap.size, 1, none⟩ = some t ∧
      Hid (ResB ((X.setCell ⟨w.heap.size + 1, 0, none⟩ a).setCell ⟨w.heap.size + 1, 1, none⟩ b) (w.heap.size + 1)) ∧ Below w.heap.size w ((X.setCell ⟨w.heap.size + 1, 0, none⟩ a).setCell ⟨w.heap.size + 1, 1, none⟩ b) :=
  ⟨(cell_set_other (by omega) _).trans ((cell_set_other (by omega) _).trans q0), (cell_set_other (by omega) _).trans ((cell_set_other (by omega) _).trans q1), (res_store (Nat.le_succ _) q8 q9 a b).1, (res_store (Nat.le_succ _) q8 q9 a b).2⟩

theorem frm_open (w : World) (u t : Value) : ∃ W0, Hid ((w.alloc (.cells #[u, t] 24)).alloc (.cells #[.slice none 0 0, .slice none 0 0] 24) = W0) ∧ Hid (W0.cell? ⟨w.heap.size, 0, none⟩ = some u) ∧ Hid (W0.cell? ⟨w.heap.size, 1, none⟩ = some t) ∧ Hid (ResB W0 (w.heap.size + 1)) ∧ Below w.heap.size w W0 := by
  obtain ⟨W0, h0, hA, -, e0, e1, hz⟩ := las_open w u t
  exact ⟨W0, h0, e0, e1, hidi (ResAt.resB (w := W0) (R := w.heap.size + 1) hz.out), hA⟩

/-- a slice cut at its front, as the model writes it -/
theorem slice_drop {B : Nat} {w : World} {o : Option Addr} {c : Nat} {xs : List Int} (h : IntsAt B w (.slice o xs.length c) xs) (k : Nat) (hk : k ≤ xs.length) : IntsAt B w (.slice (if c = k then o else o.map (fun a => a.add k)) (xs.length - k) (c - k)) (xs.drop k) := by
  rcases h with ⟨o', c', hv, rfl⟩ | ⟨b, off, cap, hv, h1, h2, h3, h4⟩
  · exact .inl ⟨_, _, by simp; exact ⟨rfl, rfl⟩, by simp⟩
  · cases hv
    by_cases hc : c = k
    · have : xs.drop k = [] := List.drop_of_length_le (by omega)
      rw [this]
      exact .inl ⟨_, _, by rw [show xs.length - k = 0 by omega], rfl⟩
    · rw [if_neg hc]
      refine .inr ⟨b, off + k, c - k, by simp [Addr.add_lit], h1, by simp; omega, by omega, fun i hi => ?_⟩
      have hi' : k + i < xs.length := by simp at hi; omega
      rw [List.getElem_drop, Nat.add_assoc]
      exact h4 (k + i) hi'

set_option maxRecDepth 100000 in
set_option maxHeartbeats 2000000 in
theorem suffix_any (B : Nat) (v : Value) (s l : List Int) (n : Int) (w : World) (hv : LasAt B w v s l) (hBw : B ≤ w.heap.size) (hn : n ≤ 9223372036854775807) :
    Calls Try.prog 24 #[v, .int .i64 n] w fun e w' => ∃ r, e = .returned r ∧ NewLas w.heap.size w' r (sufL s l n).1 (sufL s l n).2 ∧ Below w.heap.size w w' := by
  have hv' := hv.mono hBw
  obtain ⟨o1, c1, o2, c2, rfl, h1, h2⟩ := hv'.open
  obtain ⟨W0, hW0, e0, e1, hR, hB⟩ := frm_open w (.slice o1 s.length c1) (.slice o2 l.length c2)
  cases hf : formedB s l
  · have hE : Hid (sufL s l n = ([], [])) := by unfold Hid sufL; rw [hf]; rfl
    go_enter Try.func24, Try.ntmps24
    go_wp2_with (go_at_call 34; rw [hW0.out]; refine (formed_any w.heap.size _ s l _ (hv'.below hB (Nat.le_refl _)) hB.size).mono ?_; rintro e w1 ⟨rfl, hb⟩; rw [hf]; obtain ⟨q0, q1, q8, q9⟩ := frm_call e0.out e1.out hR hB hb; obtain ⟨a0, a1, z0, z1, y0, y1⟩ := q8.out.cells)
    (try simp only [Exit.inBlock, Exit.then])
    refine bodyPost_ret (results_cell_row rfl _ _ (w.heap.size + 1) 24 _ (0, 0) _ rfl (q8.out.set _ _) Try.underlying24 rfl lasSize) rfl ?_
    exact ⟨_, rfl, by rw [hE.out]; exact las_put _ _ (Nat.le_succ _) q9 (.inl ⟨_, _, rfl, rfl⟩) (.inl ⟨_, _, rfl, rfl⟩) (fun g e => by simp [Value.ownBlock] at e) (fun g e => by simp [Value.ownBlock] at e) _ _⟩
  · by_cases hn0 : 0 ≤ n
    · obtain ⟨p1, p2, p3, -, -⟩ := formed_pos hf
      obtain ⟨k, rfl⟩ := Int.eq_ofNat_of_zero_le hn0
      have hE : Hid (sufL s l k = normL (s.drop (leftN s k)) (rotL l ((k - leftN s k) % l.length))) := by unfold Hid sufL; rw [hf, decide_eq_true hn0]; rfl
      obtain ⟨m, hm⟩ : ∃ m, Hid (m = leftN s k) := ⟨_, rfl⟩
      have hmk : m ≤ k := by rw [hm.out]; exact Nat.min_le_left _ _
      have hms : m ≤ s.length := by rw [hm.out]; exact Nat.min_le_right _ _
      obtain ⟨r, hr0⟩ : ∃ r : Nat, Hid (r = (k - m) % l.length) := ⟨_, rfl⟩
      have hr : r < l.length := by rw [hr0.out]; exact Nat.mod_lt _ p1
      obtain ⟨S1, hS1⟩ : ∃ S1, Hid (S1 = s.drop m) := ⟨_, rfl⟩
      obtain ⟨R1, hRr⟩ : ∃ R1, Hid (R1 = rotL l r) := ⟨_, rfl⟩
      have hR2 : R1.length ≤ l.length ∧ 0 < R1.length := by rw [hRr.out, rotL_length _ _ (by omega)]; exact ⟨Nat.le_refl _, p1⟩
      obtain ⟨hRl, hR0⟩ := hR2
      have hS2 : S1.length ≤ s.length := by rw [hS1.out]; simp
      obtain ⟨O2, hO2⟩ : ∃ O2, (if c1 = m then o1 else o1.map (fun a => a.add m)) = O2 := ⟨_, rfl⟩
      have I1 : IntsAt w.heap.size w (.slice O2 (s.length - m) (c1 - m)) S1 := by rw [hS1.out, ← hO2]; exact slice_drop h1 m hms
      replace hE : Hid (sufL s l k = normL S1 R1) := by unfold Hid; rw [hE.out, hS1.out, hRr.out, hr0.out, hm.out]
      have hzl : ¬ (l.length : Int) = 0 := by omega
      have hzl' : ¬ l = [] := by intro e; rw [e] at p1; simp at p1
      have v1 : ((k : Int) - (m : Int)).tmod (l.length : Int) = (r : Int) := by
        rw [Int.tmod_eq_emod_of_nonneg (by omega), hr0.out, Int.natCast_emod, show ((k - m : Nat) : Int) = (k : Int) - m by omega]
      have v2 : IntKind.i64.wrap ((k : Int) - (m : Int)) = (k : Int) - (m : Int) := by rw [IntKind.wrap_i64]; omega
      have v3 : (0 : Int) ≤ (m : Int) := by omega
      have v4 : (m : Int) ≤ (s.length : Int) := by omega
      by_cases hks : s.length < k
      · have hmv : s.length = m := by rw [hm.out]; unfold leftN; rw [Int.toNat_natCast]; exact (Nat.min_eq_right (by omega)).symm
        have hmi : Hid (s.length = m) := hmv
        subst hmv
        rw [Nat.sub_self] at I1
        go_enter Try.func24, Try.ntmps24
        go_wp2_with (go_at_call 34; rw [hW0.out]; refine (formed_any w.heap.size _ s l _ (hv'.below hB (Nat.le_refl _)) hB.size).mono ?_; rintro e w1 ⟨rfl, hb⟩; rw [hf]; obtain ⟨q0, q1, q8, q9⟩ := frm_call e0.out e1.out hR hB hb)
        have hst := And.intro q0 (And.intro q1 (And.intro q8 q9.drew))
        go_region_held3 (fun W => W.cell? ⟨w.heap.size, 0, none⟩ = some (.slice o1 s.length c1) ∧ W.cell? ⟨w.heap.size, 1, none⟩ = some (.slice o2 l.length c2) ∧ Hid (ResB W (w.heap.size + 1)) ∧ Below w.heap.size w W) (first | exact hst | exact ⟨f0, f1, f8, f9⟩ | exact frm_store f0 f1 f8 f9 _ _) (first | (obtain ⟨g0, g1, g8, g9⟩ : _ ∧ _ ∧ Hid (ResB _ (w.heap.size + 1)) ∧ Below w.heap.size w _ := (by assumption); go_at_call 42; refine (turned_any w.heap.size _ l _ _ (h2.below g9 (Nat.le_refl _)) g9.size hr (by omega)).mono ?_; rintro e w3 ⟨r3, rfl, hN3, hb3⟩; rw [← hRr.out] at hN3; obtain ⟨x3, k3, rfl⟩ := hN3.1.shape; obtain ⟨f0, f1, f8, f9⟩ := frm_call g0 g1 g8 g9 hb3; obtain ⟨a0, a1, z0, z1, y0, y1⟩ := f8.out.cells) | (obtain ⟨g0, g1, g8, g9⟩ : _ ∧ _ ∧ Hid (ResB _ (w.heap.size + 1)) ∧ Below w.heap.size w _ := (by assumption); go_at_call 39; refine (normal_any _ _ _ S1 R1 _ ((I1.below g9 (Nat.le_refl _)).mono g9.size) hN3.1 (Nat.le_refl _) hR0 (by omega)).mono ?_; rintro e w4 ⟨r4, rfl, hN4, hb4⟩; obtain ⟨u5, u4, rfl, J5, J4, F5, F4⟩ := hN4.ex; obtain ⟨x5, k5, rfl⟩ := J5.shape; obtain ⟨x4, k4, rfl⟩ := J4.shape; have hs4 := g8.out.lt; obtain ⟨f0, f1, f8, f9⟩ := frm_call g0 g1 g8 g9 hb4; obtain ⟨a0, a1, z0, z1, y0, y1⟩ := f8.out.cells))
        all_goals go_wp2
        all_goals (try simp only [Exit.inBlock, Exit.then])
        all_goals refine bodyPost_ret (results_cell_row rfl _ _ (w.heap.size + 1) 24 _ (0, 0) _ rfl (f8.out.set _ _) Try.underlying24 rfl lasSize) rfl ?_
        all_goals exact ⟨_, rfl, by rw [hE.out]; exact las_put _ _ (Nat.le_succ _) f9 J5 J4 (fun g e => Nat.lt_of_lt_of_le hs4 (F5 g e)) (fun g e => Nat.lt_of_lt_of_le hs4 (F4 g e)) _ _⟩
      · obtain rfl : k = m := by rw [hm.out]; unfold leftN; rw [Int.toNat_natCast]; exact (Nat.min_eq_left (by omega)).symm
        obtain rfl : r = 0 := by rw [hr0.out, Nat.sub_self, Nat.zero_mod]
        clear v1 v2
        have v2 : IntKind.i64.wrap 0 = 0 := by rw [IntKind.wrap_i64]; rfl
        have v1 : (0 : Int).tmod (l.length : Int) = 0 := Int.zero_tmod _
        go_enter Try.func24, Try.ntmps24
        go_wp2_with (go_at_call 34; rw [hW0.out]; refine (formed_any w.heap.size _ s l _ (hv'.below hB (Nat.le_refl _)) hB.size).mono ?_; rintro e w1 ⟨rfl, hb⟩; rw [hf]; obtain ⟨q0, q1, q8, q9⟩ := frm_call e0.out e1.out hR hB hb)
        have hst := And.intro q0 (And.intro q1 (And.intro q8 q9.drew))
        go_region_held3 (fun W => W.cell? ⟨w.heap.size, 0, none⟩ = some (.slice o1 s.length c1) ∧ W.cell? ⟨w.heap.size, 1, none⟩ = some (.slice o2 l.length c2) ∧ Hid (ResB W (w.heap.size + 1)) ∧ Below w.heap.size w W) (first | exact hst | exact ⟨f0, f1, f8, f9⟩ | exact frm_store f0 f1 f8 f9 _ _) (first | (obtain ⟨g0, g1, g8, g9⟩ : _ ∧ _ ∧ Hid (ResB _ (w.heap.size + 1)) ∧ Below w.heap.size w _ := (by assumption); go_at_call 42; refine (turned_any w.heap.size _ l _ _ (h2.below g9 (Nat.le_refl _)) g9.size hr (by omega)).mono ?_; rintro e w3 ⟨r3, rfl, hN3, hb3⟩; rw [← hRr.out] at hN3; obtain ⟨x3, k3, rfl⟩ := hN3.1.shape; obtain ⟨f0, f1, f8, f9⟩ := frm_call g0 g1 g8 g9 hb3; obtain ⟨a0, a1, z0, z1, y0, y1⟩ := f8.out.cells) | (obtain ⟨g0, g1, g8, g9⟩ : _ ∧ _ ∧ Hid (ResB _ (w.heap.size + 1)) ∧ Below w.heap.size w _ := (by assumption); go_at_call 39; refine (normal_any _ _ _ S1 R1 _ ((I1.below g9 (Nat.le_refl _)).mono g9.size) hN3.1 (Nat.le_refl _) hR0 (by omega)).mono ?_; rintro e w4 ⟨r4, rfl, hN4, hb4⟩; obtain ⟨u5, u4, rfl, J5, J4, F5, F4⟩ := hN4.ex; obtain ⟨x5, k5, rfl⟩ := J5.shape; obtain ⟨x4, k4, rfl⟩ := J4.shape; have hs4 := g8.out.lt; obtain ⟨f0, f1, f8, f9⟩ := frm_call g0 g1 g8 g9 hb4; obtain ⟨a0, a1, z0, z1, y0, y1⟩ := f8.out.cells))
        all_goals go_wp2
        all_goals (try simp only [Exit.inBlock, Exit.then])
        all_goals refine bodyPost_ret (results_cell_row rfl _ _ (w.heap.size + 1) 24 _ (0, 0) _ rfl (f8.out.set _ _) Try.underlying24 rfl lasSize) rfl ?_
        all_goals exact ⟨_, rfl, by rw [hE.out]; exact las_put _ _ (Nat.le_succ _) f9 J5 J4 (fun g e => Nat.lt_of_lt_of_le hs4 (F5 g e)) (fun g e => Nat.lt_of_lt_of_le hs4 (F4 g e)) _ _⟩
    · have hE : Hid (sufL s l n = ([], [])) := by unfold Hid sufL; rw [decide_eq_false hn0, Bool.and_false]; rfl
      go_enter Try.func24, Try.ntmps24
      go_wp2_with (go_at_call 34; rw [hW0.out]; refine (formed_any w.heap.size _ s l _ (hv'.below hB (Nat.le_refl _)) hB.size).mono ?_; rintro e w1 ⟨rfl, hb⟩; rw [hf]; obtain ⟨q0, q1, q8, q9⟩ := frm_call e0.out e1.out hR hB hb; obtain ⟨a0, a1, z0, z1, y0, y1⟩ := q8.out.cells)
      (try simp only [Exit.inBlock, Exit.then])
      refine bodyPost_ret (results_cell_row rfl _ _ (w.heap.size + 1) 24 _ (0, 0) _ rfl (q8.out.set _ _) Try.underlying24 rfl lasSize) rfl ?_
      exact ⟨_, rfl, by rw [hE.out]; exact las_put _ _ (Nat.le_succ _) q9 (.inl ⟨_, _, rfl, rfl⟩) (.inl ⟨_, _, rfl, rfl⟩) (fun g e => by simp [Value.ownBlock] at e) (fun g e => by simp [Value.ownBlock] at e) _ _⟩

end Go.Proofs.Ytcbddplgleeiiaa
