/-
  The contract of the word reference's Push.
-/
import Derived.Test.YtcbddplgleeiiaaWrD
namespace Go.Proofs.Ytcbddplgleeiiaa
open Go.RowKit

set_option maxRecDepth 100000 in
set_option maxHeartbeats 4000000 in
theorem refpush_any (B : Nat) (u v : Value) (a s l : List Int) (w : World) (hu : IntsAt B w u a) (hv : LasAt B w v s l) (hBw : B ≤ w.heap.size) (hla : a.length ≤ 100000) :
    Calls Try.prog 27 #[u, v] w fun e w' => ∃ r, e = .returned r ∧ NewLas w.heap.size w' r (pushL a s l).1 (pushL a s l).2 ∧ Below w.heap.size w w' := by
  have hv' := hv.mono hBw
  have hu' := hu.mono hBw
  obtain ⟨oa, ca, rfl⟩ := hu.shape
  obtain ⟨o1, c1, o2, c2, rfl, h1, h2⟩ := hv'.open
  obtain ⟨W0, hW0, e0, e1, hR, hB⟩ := frm_open w (.slice o1 s.length c1) (.slice o2 l.length c2)
  obtain ⟨a0, a1, z0, z1, y0, y1⟩ := hR.out.cells
  have Z0 := hidi z0
  have Z1 := hidi z1
  clear z0 z1
  go_enter Try.func27, Try.ntmps27
  go_wp2_with fail
  rw [hW0.out]
  go_loop [5] (fun i => ∃ k : Nat, k ≤ a.length ∧ i = .int .i64 k ∧ Hid (a.all letB = (a.drop k).all letB)) (fun i => a.length - (intOf i).toNat)
  case atStart => exact ⟨0, Nat.zero_le _, rfl, rfl⟩
  case round =>
    obtain ⟨k, hk, rfl, hF⟩ := hrel
    by_cases hlt : k < a.length
    · obtain ⟨b, off, rfl, hb, -, -, hc⟩ := hu'.at (by omega)
      have d1 := (hB.cell (p := ⟨b, off + k, none⟩) hb).trans (hc k hlt).1
      have hS := hidi (all_drop (p := letB) hlt)
      cases hq : letB a[k]
      · have hE : Hid (pushL a s l = ([], [])) := by unfold Hid pushL; rw [hF.out, hS.out, hq]; simp
        have z0 := Z0.out
        have z1 := Z1.out
        go_wp2_with (go_at_call 45; refine (refletter_any _ _).mono ?_; rintro e w' ⟨rfl, rfl⟩)
        (try simp only [Exit.inBlock, Exit.then])
        refine bodyPost_ret (results_cell_row rfl _ _ (w.heap.size + 1) 24 _ (0, 0) _ rfl (hR.out.set _ _) Try.underlying24 rfl lasSize) rfl ?_
        exact ⟨_, rfl, by rw [hE.out]; exact las_put _ _ (Nat.le_succ _) hB (.inl ⟨_, _, rfl, rfl⟩) (.inl ⟨_, _, rfl, rfl⟩) (fun g e => by simp [Value.ownBlock] at e) (fun g e => by simp [Value.ownBlock] at e) _ _⟩
      · go_wp2_with (go_at_call 45; refine (refletter_any _ _).mono ?_; rintro e w' ⟨rfl, rfl⟩)
        go_round
        case rel => exact ⟨k + 1, by omega, by go_num, hF.out.trans (hS.out.trans (by rw [hq, Bool.true_and]))⟩
        case measure => simp [intOf]; omega
    · have hq : Hid (a.all letB = true) := by unfold Hid; rw [hF.out, List.drop_of_length_le (by omega)]; rfl
      clear hF
      have d0 := e0.out
      have d1 := e1.out
      cases hf : formedB s l
      · have hE : Hid (pushL a s l = ([], [])) := by unfold Hid pushL; rw [hf]; rfl
        go_wp2_with (go_at_call 30; refine (refformed_any w.heap.size _ s l _ (hv'.below hB (Nat.le_refl _)) hB.size).mono ?_; rintro e w1 ⟨rfl, hb⟩; rw [hf]; obtain ⟨q0, q1, q8, q9⟩ := frm_call e0.out e1.out hR hB hb; obtain ⟨a0, a1, z0, z1, y0, y1⟩ := q8.out.cells)
        (try simp only [Exit.inBlock, Exit.then])
        refine bodyPost_ret (results_cell_row rfl _ _ (w.heap.size + 1) 24 _ (0, 0) _ rfl (q8.out.set _ _) Try.underlying24 rfl lasSize) rfl ?_
        exact ⟨_, rfl, by rw [hE.out]; exact las_put _ _ (Nat.le_succ _) q9 (.inl ⟨_, _, rfl, rfl⟩) (.inl ⟨_, _, rfl, rfl⟩) (fun g e => by simp [Value.ownBlock] at e) (fun g e => by simp [Value.ownBlock] at e) _ _⟩
      · obtain ⟨p1, p2, p3, -, -⟩ := formed_pos hf
        obtain ⟨A1, hA1⟩ : ∃ A1, Hid (A1 = a ++ s) := ⟨_, rfl⟩
        have hAl : A1.length ≤ 200000 := by rw [hA1.out]; simp; omega
        obtain ⟨N1, hN1⟩ : ∃ N1, Hid (N1 = (normL A1 l).1) := ⟨_, rfl⟩
        obtain ⟨N2, hN2⟩ : ∃ N2, Hid (N2 = (normL A1 l).2) := ⟨_, rfl⟩
        have hE : Hid (pushL a s l = orZ (N1, N2)) := by unfold Hid pushL; rw [hf, hq.out, hN1.out, hN2.out, ← hA1.out]; rfl
        have hE1 : Hid (orZ (N1, N2) = if formedB N1 N2 then (N1, N2) else ([], [])) := rfl
        go_wp2_with (go_at_call 30; refine (refformed_any w.heap.size _ s l _ (hv'.below hB (Nat.le_refl _)) hB.size).mono ?_; rintro e w1 ⟨rfl, hb⟩; rw [hf]; obtain ⟨q0, q1, q8, q9⟩ := frm_call e0.out e1.out hR hB hb; clear y0 y1)
        have hw1 := q8.out.lt
        have hst := And.intro q0 (And.intro q1 (And.intro q8 q9.drew))
        clear q0 q1 hlt d0 d1
        cases hg : formedB N1 N2
        all_goals have tk1 := Tk.mk 1
        all_goals go_region_held3 (fun W => W.cell? ⟨w.heap.size, 0, none⟩ = some (.slice o1 s.length c1) ∧ W.cell? ⟨w.heap.size, 1, none⟩ = some (.slice o2 l.length c2) ∧ Hid (ResB W (w.heap.size + 1)) ∧ Below w.heap.size w W) (first | exact hst | exact ⟨f0, f1, f8, f9⟩ | exact frm_store f0 f1 f8 f9 _ _ | exact frm_alloc (by assumption) _) (first
          | (have _t : Tk 3 := (by assumption); obtain ⟨g0, g1, g8, g9⟩ : _ ∧ _ ∧ Hid (ResB _ (w.heap.size + 1)) ∧ Below w.heap.size w _ := (by assumption); go_at_call 40; refine (refshort_any _ _ A1 l _ ⟨_, _, rfl, I7, (h2.below g9 (Nat.le_refl _)).mono g9.size⟩ (Nat.le_refl _) p1 (by omega)).mono ?_; rintro e w4 ⟨r4, rfl, hN4, hb4⟩; rw [← hN1.out, ← hN2.out] at hN4; obtain ⟨u5, u4, rfl, J5, J4, F5, F4⟩ := hN4.ex; obtain ⟨x5, k5, rfl⟩ := J5.shape; obtain ⟨x4, k4, rfl⟩ := J4.shape; have hs4 := g8.out.lt; obtain ⟨f0, f1, f8, f9⟩ := frm_call g0 g1 g8 g9 hb4; clear I7 tk3 _t; have tk4 := Tk.mk 4)
          | (have _t : Tk 4 := (by assumption); obtain ⟨g0, g1, g8, g9⟩ : _ ∧ _ ∧ Hid (ResB _ (w.heap.size + 1)) ∧ Below w.heap.size w _ := (by assumption); go_at_call 46; refine (refformedL_any _ _ N1 N2 _ hN4.las (Nat.le_refl _)).mono ?_; rintro e w5 ⟨rfl, hb5⟩; rw [hg]; simp only [if_true, if_false, Bool.false_eq_true]; obtain ⟨f0, f1, f8, f9⟩ := frm_call g0 g1 g8 g9 hb5; obtain ⟨a0, a1, z0, z1, y0, y1⟩ := f8.out.cells)
          | (have _t : Tk 2 := (by assumption); obtain ⟨g0, g1, g8, g9⟩ : _ ∧ _ ∧ Hid (ResB _ (w.heap.size + 1)) ∧ Below w.heap.size w _ := (by assumption); refine step_append_ints rfl (.tmp 27) (.tmp 29) rfl w1.heap.size v6 a.length (a.map (Value.int .i64)) (by simp [Act.eval]) hown6 (by have := hgrow6.size; simp [World.drew] at this; omega) w.heap.size (.slice o1 s.length c1) s (by simp [Act.eval]) (h1.below g9 (Nat.le_refl _)) (by omega) ?_; intro v7 w7 hown7 hgrow7; obtain ⟨f0, f1, f8, f9⟩ := frm_grow ⟨g0, g1, g8, g9⟩ hgrow7 (fun g e => (by have := (hown6.lt g e).1; omega)); have I7 := ints_of_owns (xs := A1) (by rw [hA1.out, List.map_append]; exact hown7) (by rw [hA1.out, List.length_append]) (fun x hx => (by rw [hA1.out] at hx; rcases List.mem_append.1 hx with hx | hx; exact hu'.bd x hx; exact h1.bd x hx)); obtain ⟨o7, c7, rfl⟩ := I7.shape; clear tk2 _t; have tk3 := Tk.mk 3)
          | (have _t : Tk 1 := (by assumption); obtain ⟨g0, g1, g8, g9⟩ : _ ∧ _ ∧ Hid (ResB _ (w.heap.size + 1)) ∧ Below w.heap.size w _ := (by assumption); refine step_append_ints rfl (.tmp 25) (.tmp 26) rfl w1.heap.size (.slice (some ⟨w1.heap.size, 0, none⟩) 0 0) 0 [] (by simp [Act.eval]) (own_none w1 w1.heap.size (Nat.le_refl _)) (by simp [World.drew]) w.heap.size (.slice oa a.length ca) a (by simp [Act.eval]) (hu'.below g9 (Nat.le_refl _)) (by omega) ?_; intro v6 w6 hown6 hgrow6; rw [Nat.zero_add, List.nil_append] at hown6; clear tk1 _t; have tk2 := Tk.mk 2; obtain ⟨f0, f1, f8, f9⟩ := frm_grow ⟨g0, g1, g8, g9⟩ hgrow6 (fun g e => (by simp only [Value.ownBlock, Option.some.injEq] at e; omega))))
        all_goals go_wp2
        all_goals (try simp only [Exit.inBlock, Exit.then])
        all_goals refine bodyPost_ret (results_cell_row rfl _ _ (w.heap.size + 1) 24 _ (0, 0) _ rfl (f8.out.set _ _) Try.underlying24 rfl lasSize) rfl ?_
        · exact ⟨_, rfl, by rw [hE.out, hE1.out, hg]; exact las_put _ _ (Nat.le_succ _) f9 (.inl ⟨_, _, rfl, rfl⟩) (.inl ⟨_, _, rfl, rfl⟩) (fun g e => by simp [Value.ownBlock] at e) (fun g e => by simp [Value.ownBlock] at e) _ _⟩
        · exact ⟨_, rfl, by rw [hE.out, hE1.out, hg]; exact las_put _ _ (Nat.le_succ _) f9 ((J5.below hb5 (Nat.le_refl _)).mono hb5.size) ((J4.below hb5 (Nat.le_refl _)).mono hb5.size) (fun g e => Nat.lt_of_lt_of_le hs4 (F5 g e)) (fun g e => Nat.lt_of_lt_of_le hs4 (F4 g e)) _ _⟩

end Go.Proofs.Ytcbddplgleeiiaa
