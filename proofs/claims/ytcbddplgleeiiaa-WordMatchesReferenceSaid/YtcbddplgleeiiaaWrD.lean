/-
  The contract of the word reference's Suffix, behind the stem.
-/
import Derived.Test.YtcbddplgleeiiaaWrA
namespace Go.Proofs.Ytcbddplgleeiiaa
open Go.RowKit

set_option maxRecDepth 100000 in
set_option maxHeartbeats 4000000 in
theorem refsuffix_high (B : Nat) (v : Value) (s l : List Int) (k : Nat) (w : World) (hv : LasAt B w v s l) (hBw : B ≤ w.heap.size) (hk : (k : Int) ≤ 9223372036854775807) (hf : formedB s l = true) (hks : ¬ k ≤ s.length) :
    Calls Try.prog 25 #[v, .int .i64 k] w fun e w' => ∃ r, e = .returned r ∧ NewLas w.heap.size w' r (sufL s l k).1 (sufL s l k).2 ∧ Below w.heap.size w w' := by
  have hv' := hv.mono hBw
  obtain ⟨o1, c1, o2, c2, rfl, h1, h2⟩ := hv'.open
  obtain ⟨W0, hW0, e0, e1, hR, hB⟩ := frm_open w (.slice o1 s.length c1) (.slice o2 l.length c2)
  have hn0 : (0 : Int) ≤ (k : Int) := by omega
  have i0 : ¬ (k : Int) < 0 := by omega
  obtain ⟨p1, p2, p3, -, -⟩ := formed_pos hf
  obtain ⟨r, hr0⟩ : ∃ r : Nat, Hid (r = (k - s.length) % l.length) := ⟨_, rfl⟩
  have hr : r < l.length := by rw [hr0.out]; exact Nat.mod_lt _ p1
  obtain ⟨S1, hS1⟩ : ∃ S1 : List Int, Hid (S1 = []) := ⟨_, rfl⟩
  obtain ⟨R1, hRr⟩ : ∃ R1, Hid (R1 = l.drop r ++ l.take r) := ⟨_, rfl⟩
  have hE : Hid (sufL s l k = normL S1 R1) := by
    unfold Hid
    rw [sufL_eq hf, hS1.out, hRr.out, hr0.out]
    unfold dropW
    rw [if_neg hks]
  have hRl' : R1.length = l.length := by rw [hRr.out]; simp; omega
  have hR0 : 0 < R1.length := by omega
  have hRl : R1.length ≤ 40 := by omega
  have hS2 : S1.length ≤ 0 := by rw [hS1.out]; exact Nat.le_refl _
  clear hRl'
  have v1 : ((k : Int) - (s.length : Int)).tmod (l.length : Int) = (r : Int) := by
    rw [Int.tmod_eq_emod_of_nonneg (by omega), hr0.out, Int.natCast_emod, show ((k - s.length : Nat) : Int) = (k : Int) - s.length by omega]
  have v2 : IntKind.i64.wrap ((k : Int) - (s.length : Int)) = (k : Int) - (s.length : Int) := by rw [IntKind.wrap_i64]; omega
  have v5 : ¬ (k : Int) ≤ (s.length : Int) := by omega
  have hzl : ¬ (l.length : Int) = 0 := by omega
  have hzl' : ¬ l = [] := by intro e; rw [e] at p1; simp at p1
  have g3 : (0 : Int) ≤ (r : Int) := by omega
  have g4 : (r : Int) ≤ (l.length : Int) := by omega
  obtain ⟨O2, hO2⟩ : ∃ O2, (if c2 = r then o2 else o2.map (fun a => a.add r)) = O2 := ⟨_, rfl⟩
  have I1 : IntsAt w.heap.size w (.slice O2 (l.length - r) (c2 - r)) (l.drop r) := by rw [← hO2]; exact slice_drop h2 r (by omega)
  have I2 : IntsAt w.heap.size w (.slice o2 r c2) (l.take r) := h2.take r (by omega)
  have g5 : (r : Int) ≤ (c2 : Int) := by have := h2.cap; omega
  have hd1 : (l.drop r).length = l.length - r := by simp
  have ht1 : (l.take r).length = r := by rw [List.length_take]; omega
  go_enter Try.func25, Try.ntmps25
  go_wp2_with (go_at_call 30; rw [hW0.out]; refine (refformed_any w.heap.size _ s l _ (hv'.below hB (Nat.le_refl _)) hB.size).mono ?_; rintro e w1 ⟨rfl, hb⟩; rw [hf]; obtain ⟨q0, q1, q8, q9⟩ := frm_call e0.out e1.out hR hB hb)
  have hst := And.intro q0 (And.intro q1 (And.intro q8 q9.drew))
  have hw1 := q8.out.lt
  have tk1 := Tk.mk 1
  go_region_held3 (fun W => W.cell? ⟨w.heap.size, 0, none⟩ = some (.slice o1 s.length c1) ∧ W.cell? ⟨w.heap.size, 1, none⟩ = some (.slice o2 l.length c2) ∧ Hid (ResB W (w.heap.size + 1)) ∧ Below w.heap.size w W) (first | exact hst | exact ⟨f0, f1, f8, f9⟩ | exact frm_store f0 f1 f8 f9 _ _ | exact frm_alloc (by assumption) _) (first
    | (have _t : Tk 3 := (by assumption); obtain ⟨g0, g1, g8, g9⟩ : _ ∧ _ ∧ Hid (ResB _ (w.heap.size + 1)) ∧ Below w.heap.size w _ := (by assumption); go_at_call 40; refine (refshort_any _ _ S1 R1 _ ⟨_, _, rfl, .inl ⟨_, _, rfl, hS1.out⟩, I7⟩ (Nat.le_refl _) hR0 (by omega)).mono ?_; rintro e w4 ⟨r4, rfl, hN4, hb4⟩; obtain ⟨u5, u4, rfl, J5, J4, F5, F4⟩ := hN4.ex; obtain ⟨x5, k5, rfl⟩ := J5.shape; obtain ⟨x4, k4, rfl⟩ := J4.shape; have hs4 := g8.out.lt; obtain ⟨f0, f1, f8, f9⟩ := frm_call g0 g1 g8 g9 hb4; obtain ⟨a0, a1, z0, z1, y0, y1⟩ := f8.out.cells)
    | (have _t : Tk 2 := (by assumption); obtain ⟨g0, g1, g8, g9⟩ : _ ∧ _ ∧ Hid (ResB _ (w.heap.size + 1)) ∧ Below w.heap.size w _ := (by assumption); refine step_append_ints rfl (.tmp 41) (.tmp 45) rfl w1.heap.size v6 (l.drop r).length ((l.drop r).map (Value.int .i64)) (by simp [Act.eval]) hown6 (by have := hgrow6.size; simp [World.drew] at this; omega) w.heap.size (.slice o2 r c2) (l.take r) (by simp [Act.eval]) (I2.below g9 (Nat.le_refl _)) (by omega) ?_; intro v7 w7 hown7 hgrow7; obtain ⟨f0, f1, f8, f9⟩ := frm_grow ⟨g0, g1, g8, g9⟩ hgrow7 (fun g e => (by have := (hown6.lt g e).1; omega)); have I7 := ints_of_owns (xs := R1) (by rw [hRr.out, List.map_append]; exact hown7) (by rw [hRr.out, List.length_append]) (fun x hx => (by rw [hRr.out] at hx; rcases List.mem_append.1 hx with hx | hx; exact I1.bd x hx; exact I2.bd x hx)); obtain ⟨o7, c7, rfl⟩ := I7.shape; clear tk2 _t; have tk3 := Tk.mk 3)
    | (have _t : Tk 1 := (by assumption); obtain ⟨g0, g1, g8, g9⟩ : _ ∧ _ ∧ Hid (ResB _ (w.heap.size + 1)) ∧ Below w.heap.size w _ := (by assumption); refine step_append_ints rfl (.tmp 36) (.tmp 40) rfl w1.heap.size (.slice (some ⟨w1.heap.size, 0, none⟩) 0 0) 0 [] (by simp [Act.eval]) (own_none w1 w1.heap.size (Nat.le_refl _)) (by simp [World.drew]) w.heap.size (.slice O2 (l.length - r) (c2 - r)) (l.drop r) (by simp [Act.eval]) (I1.below g9 (Nat.le_refl _)) (by omega) ?_; intro v6 w6 hown6 hgrow6; rw [Nat.zero_add, List.nil_append] at hown6; clear tk1 _t; have tk2 := Tk.mk 2; obtain ⟨f0, f1, f8, f9⟩ := frm_grow ⟨g0, g1, g8, g9⟩ hgrow6 (fun g e => (by simp only [Value.ownBlock, Option.some.injEq] at e; omega))))
  all_goals go_wp2
  all_goals (try simp only [Exit.inBlock, Exit.then])
  all_goals refine bodyPost_ret (results_cell_row rfl _ _ (w.heap.size + 1) 24 _ (0, 0) _ rfl (f8.out.set _ _) Try.underlying24 rfl lasSize) rfl ?_
  all_goals exact ⟨_, rfl, by rw [hE.out]; exact las_put _ _ (Nat.le_succ _) f9 J5 J4 (fun g e => Nat.lt_of_lt_of_le hs4 (F5 g e)) (fun g e => Nat.lt_of_lt_of_le hs4 (F4 g e)) _ _⟩

theorem refsuffix_any (B : Nat) (v : Value) (s l : List Int) (n : Int) (w : World) (hv : LasAt B w v s l) (hBw : B ≤ w.heap.size) (hn : n ≤ 9223372036854775807) :
    Calls Try.prog 25 #[v, .int .i64 n] w fun e w' => ∃ r, e = .returned r ∧ NewLas w.heap.size w' r (sufL s l n).1 (sufL s l n).2 ∧ Below w.heap.size w w' := by
  by_cases hn0 : 0 ≤ n
  · cases hf : formedB s l
    · exact refsuffix_bad B v s l n w hv hBw hn hn0 hf
    · obtain ⟨k, rfl⟩ := Int.eq_ofNat_of_zero_le hn0
      by_cases hks : k ≤ s.length
      · exact refsuffix_low B v s l k w hv hBw hn hf hks
      · exact refsuffix_high B v s l k w hv hBw hn hf hks
  · exact refsuffix_neg B v s l n w hv hBw hn0

end Go.Proofs.Ytcbddplgleeiiaa
