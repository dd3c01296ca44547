/-
  The contract of package word's Zip.
-/
import Derived.Test.YtcbddplgleeiiaaWdQ
namespace Go.Proofs.Ytcbddplgleeiiaa
open Go.RowKit

/-- the number of letters ahead of a zipped word's loop, and in it -/
def zipN (sa sb : List Int) : Nat := max sa.length sb.length
/-- what Zip returns -/
def zipL (T : List (List Int)) (sa la sb lb : List Int) : List Int × List Int :=
  if formedB sa la && formedB sb lb then
    orZ (normL ((firstL (zipF T sa la sb lb) (zipN sa sb + Nat.lcm la.length lb.length)).take (zipN sa sb)) ((firstL (zipF T sa la sb lb) (zipN sa sb + Nat.lcm la.length lb.length)).drop (zipN sa sb)))
  else ([], [])

theorem elemI_bd {B : Nat} {w : World} {v : Value} {T : List (List Int)} (h : TabAt B w v T) (x y : Nat) : -9223372036854775808 ≤ elemI T x y ∧ elemI T x y ≤ 9223372036854775807 := by
  unfold elemI
  by_cases h1 : x < T.length
  · rw [show T.getD x [] = T[x] by simp [h1]]
    rcases id h with ⟨o, c, _, rfl⟩ | ⟨b, off, cap, _, _, _, _, h4⟩
    · simp at h1
    · obtain ⟨u, _, hi⟩ := h4 x h1
      by_cases h2 : y < T[x].length
      · rw [show T[x].getD y (-1) = T[x][y] by simp [h2]]
        exact hi.bd _ (List.getElem_mem h2)
      · rw [show T[x].getD y (-1) = -1 by simp [show T[x].length ≤ y by omega]]
        omega
  · rw [show T.getD x [] = [] by simp [show T.length ≤ x by omega]]
    simp

theorem IntsAt.drewMono {w : World} {v : Value} {xs : List Int} (h : IntsAt w.heap.size w v xs) : IntsAt w.drew.heap.size w.drew v xs := h

theorem le_two (n : Nat) : n ≤ n + 1 + 1 := by omega

/-- what stands while a function with two lassos makes its result -/
def Frm2 (w X : World) (u t x y : Value) : Prop := Two X w.heap.size u t x y ∧ ResB X (w.heap.size + 1 + 1) ∧ Below w.heap.size w X

theorem Frm2.call {w X Y : World} {u t x y : Value} (h : Frm2 w X u t x y) (hb : Below X.heap.size X Y) : Frm2 w Y u t x y :=
  ⟨h.1.below hb, h.2.1.below hb, h.2.2.trans (hb.mono h.2.2.size)⟩
theorem Frm2.store {w X : World} {u t x y : Value} (h : Frm2 w X u t x y) (a b : Value) : Frm2 w ((X.setCell ⟨w.heap.size + 1 + 1, 0, none⟩ a).setCell ⟨w.heap.size + 1 + 1, 1, none⟩ b) u t x y :=
  ⟨⟨(Below.heap_setCell _ _ _ _ (by show w.heap.size ≠ w.heap.size + 1 + 1; omega)).trans ((Below.heap_setCell _ _ _ _ (by show w.heap.size ≠ w.heap.size + 1 + 1; omega)).trans h.1.1), (Below.heap_setCell _ _ _ _ (by simp)).trans ((Below.heap_setCell _ _ _ _ (by simp)).trans h.1.2)⟩, (res_store (le_two _) (hidi h.2.1) h.2.2 a b).1.out, (res_store (le_two _) (hidi h.2.1) h.2.2 a b).2⟩
theorem frm2_open (w : World) (u t x y : Value) : ∃ W0, Hid (((w.alloc (.cells #[u, t] 24)).alloc (.cells #[x, y] 24)).alloc (.cells #[.slice none 0 0, .slice none 0 0] 24) = W0) ∧ Hid (Frm2 w W0 u t x y) := by
  obtain ⟨W1, h1, hB, hT⟩ := two_open w u t x y
  have hs : W1.heap.size = w.heap.size + 1 + 1 := by rw [← h1.out]; simp
  have hA : Below W1.heap.size W1 (W1.alloc (.cells #[.slice none 0 0, .slice none 0 0] 24)) := (Below.refl _ _).alloc (Nat.le_refl _) _
  refine ⟨_, rfl, ?_⟩
  unfold Hid
  rw [h1.out]
  refine ⟨hT.out.below hA, ?_, hB.trans (hA.mono hB.size)⟩
  rw [← hs]
  exact (ResAt.new W1).resB

theorem three_allocs (w : World) (x y z : Obj) : ((w.alloc x).alloc y |>.alloc z).heap.size = w.heap.size + 3 ∧ ((w.alloc x).alloc y |>.alloc z).heap[w.heap.size]? = some x ∧ ((w.alloc x).alloc y |>.alloc z).heap[w.heap.size + 1]? = some y ∧ ((w.alloc x).alloc y |>.alloc z).heap[w.heap.size + 2]? = some z ∧ Below w.heap.size w ((w.alloc x).alloc y |>.alloc z) := by
  have q1 : (w.alloc x).heap.size = w.heap.size + 1 := by simp
  have q2 : ((w.alloc x).alloc y).heap.size = w.heap.size + 2 := by simp
  have h1 : Below (w.heap.size + 1) (w.alloc x) ((w.alloc x).alloc y) := (Below.refl _ _).alloc (by omega) _
  have h2 : Below (w.heap.size + 2) ((w.alloc x).alloc y) (((w.alloc x).alloc y).alloc z) := (Below.refl _ _).alloc (by omega) _
  have e1 := heap_alloc_new w x
  have e2 := heap_alloc_new (w.alloc x) y
  have e3 := heap_alloc_new ((w.alloc x).alloc y) z
  rw [q1] at e2
  rw [q2] at e3
  refine ⟨by simp, ?_, ?_, e3, (((Below.refl _ _).alloc (Nat.le_refl _) _).alloc (by omega) _).alloc (by omega) _⟩
  · exact (h2.block _ (by omega)).trans ((h1.block _ (by omega)).trans e1)
  · exact (h2.block _ (by omega)).trans e2

theorem take_anyI (g : Nat) (lb : Array Value) (f : Nat → Int) (win B N : Nat) (z : Int) (w : World) (hz : z = N) (eg : ∀ args w, (callFunc g args).run Try.prog w = .ok (.enter g args) w) (hN : 0 < N) (hN2 : N ≤ 10000) (hB : B ≤ w.heap.size) (hseq : Feeds g lb f win B N w) (hf : ∀ i, -9223372036854775808 ≤ f i ∧ f i ≤ 9223372036854775807) :
    Calls Try.prog 37 #[.func (.func g) #[] lb, .int .i64 z] w fun e w' => ∃ r, e = .returned r ∧ NewInts w.heap.size w' r (firstL f N) ∧ Below w.heap.size w w' := by
  subst hz
  exact take_any g lb f win B N w eg hN hN2 hB hseq hf

set_option maxRecDepth 100000 in
set_option maxHeartbeats 4000000 in
theorem zip_any (B : Nat) (u v tv : Value) (sa la sb lb : List Int) (T : List (List Int)) (w : World) (hu : LasAt B w u sa la) (hv : LasAt B w v sb lb) (hT : TabAt B w tv T) (hBw : B ≤ w.heap.size) :
    Calls Try.prog 28 #[u, v, tv] w fun e w' => ∃ r, e = .returned r ∧ NewLas w.heap.size w' r (zipL T sa la sb lb).1 (zipL T sa la sb lb).2 ∧ Below w.heap.size w w' := by
  have hu' := hu.mono hBw
  have hv' := hv.mono hBw
  have hT' := hT.mono hBw
  obtain ⟨oT, cT, rfl⟩ := hT.shape
  obtain ⟨o1, c1, o2, c2, rfl, -, -⟩ := hu.open
  obtain ⟨o3, c3, o4, c4, rfl, -, -⟩ := hv.open
  obtain ⟨W0, hW0, hF⟩ := frm2_open w (.slice o1 sa.length c1) (.slice o2 la.length c2) (.slice o3 sb.length c3) (.slice o4 lb.length c4)
  obtain ⟨d0, d1, d2, d3, -, -, -, -⟩ := hF.out.1.cells
  have hB := hF.out.2.2
  cases hf : formedB sa la
  · have hE : Hid (zipL T sa la sb lb = ([], [])) := by unfold Hid zipL; rw [hf]; rfl
    go_enter Try.func28, Try.ntmps28
    go_wp2_with fail
    rw [hW0.out]
    go_wp2_with (go_at_call 34; refine (formed_any w.heap.size _ sa la _ (hu'.below hB (Nat.le_refl _)) hB.size).mono ?_; rintro e w1 ⟨rfl, hb⟩; rw [hf]; have hF1 := hidi (hF.out.call (hb.mono (Nat.le_refl _))); obtain ⟨a0, a1, z0, z1, y0, y1⟩ := hF1.out.2.1.cells)
    (try simp only [Exit.inBlock, Exit.then])
    refine bodyPost_ret (results_cell_row rfl _ _ (w.heap.size + 1 + 1) 24 _ (0, 0) _ rfl (hF1.out.2.1.set _ _) Try.underlying24 rfl lasSize) rfl ?_
    exact ⟨_, rfl, by rw [hE.out]; exact las_put _ _ (le_two _) hF1.out.2.2 (.inl ⟨_, _, rfl, rfl⟩) (.inl ⟨_, _, rfl, rfl⟩) (fun g e => by simp [Value.ownBlock] at e) (fun g e => by simp [Value.ownBlock] at e) _ _⟩
  · cases hg : formedB sb lb
    · have hE : Hid (zipL T sa la sb lb = ([], [])) := by unfold Hid zipL; rw [hg, Bool.and_false]; rfl
      go_enter Try.func28, Try.ntmps28
      go_wp2_with fail
      rw [hW0.out]
      go_wp2_with (first
        | (go_at_call 34; (with_reducible refine (formed_any w.heap.size (.agg #[.slice o1 sa.length c1, .slice o2 la.length c2]) sa la _ (hu'.below hB (Nat.le_refl _)) hB.size).mono ?_); rintro e w1 ⟨rfl, hb⟩; rw [hf]; have hF1 := hidi (hF.out.call (hb.mono (Nat.le_refl _))); obtain ⟨d0, d1, d2, d3, -, -, -, -⟩ := hF1.out.1.cells)
        | (go_at_call 34; go_loud (refine (formed_any w.heap.size _ sb lb _ (hv'.below hF1.out.2.2 (Nat.le_refl _)) hF1.out.2.2.size).mono ?_; rintro e w2 ⟨rfl, hb2⟩; rw [hg]; have hF2 := hidi (hF1.out.call (hb2.mono (Nat.le_refl _))); obtain ⟨a0, a1, z0, z1, y0, y1⟩ := hF2.out.2.1.cells)))
      (try simp only [Exit.inBlock, Exit.then])
      refine bodyPost_ret (results_cell_row rfl _ _ (w.heap.size + 1 + 1) 24 _ (0, 0) _ rfl (hF2.out.2.1.set _ _) Try.underlying24 rfl lasSize) rfl ?_
      exact ⟨_, rfl, by rw [hE.out]; exact las_put _ _ (le_two _) hF2.out.2.2 (.inl ⟨_, _, rfl, rfl⟩) (.inl ⟨_, _, rfl, rfl⟩) (fun g e => by simp [Value.ownBlock] at e) (fun g e => by simp [Value.ownBlock] at e) _ _⟩
    · obtain ⟨p1, p2, p3, -, -⟩ := formed_pos hf
      obtain ⟨s1, s2, s3, -, -⟩ := formed_pos hg
      obtain ⟨m, hm⟩ : ∃ m, Hid (m = zipN sa sb) := ⟨_, rfl⟩
      obtain ⟨p, hp⟩ : ∃ p, Hid (p = Nat.lcm la.length lb.length) := ⟨_, rfl⟩
      have hm1 : m ≤ 60 := by rw [hm.out]; unfold zipN; omega
      have hp0 : 0 < p := by rw [hp.out]; exact Nat.lcm_pos p1 s1
      have hp1 : p ≤ 1600 := by
        rw [hp.out]
        exact Nat.le_trans (Nat.le_of_dvd (Nat.mul_pos p1 s1) (Nat.lcm_dvd (Nat.dvd_mul_right _ _) (Nat.dvd_mul_left _ _))) (Nat.mul_le_mul p2 s2)
      obtain ⟨A, hA⟩ : ∃ A, Hid (A = firstL (zipF T sa la sb lb) (m + p)) := ⟨_, rfl⟩
      have hAl : Hid (A.length = m + p) := by unfold Hid; rw [hA.out]; simp [firstL]
      have hAm : m ≤ A.length := by rw [hAl.out]; omega
      have hAm2 : A.length ≤ 1660 := by rw [hAl.out]; omega
      obtain ⟨S1, hS1⟩ : ∃ S1, Hid (S1 = A.take m) := ⟨_, rfl⟩
      obtain ⟨L1, hL1⟩ : ∃ L1, Hid (L1 = A.drop m) := ⟨_, rfl⟩
      have hSl : S1.length ≤ 1660 := by rw [hS1.out]; simp; omega
      have hLl : L1.length ≤ 1660 ∧ 0 < L1.length := by rw [hL1.out, List.length_drop, hAl.out]; omega
      obtain ⟨hLl1, hLl0⟩ := hLl
      obtain ⟨N1, hN1⟩ : ∃ N1, Hid (N1 = (normL S1 L1).1) := ⟨_, rfl⟩
      obtain ⟨N2, hN2⟩ : ∃ N2, Hid (N2 = (normL S1 L1).2) := ⟨_, rfl⟩
      have hE : Hid (zipL T sa la sb lb = orZ (N1, N2)) := by unfold Hid zipL; rw [hf, hg, hN1.out, hN2.out, hS1.out, hL1.out, hA.out, hp.out, hm.out]; rfl
      have hE1 : Hid (orZ (N1, N2) = if formedB N1 N2 then (N1, N2) else ([], [])) := rfl
      have v3 : IntKind.i64.wrap ((m : Int) + (p : Int)) = (m : Int) + (p : Int) := by rw [IntKind.wrap_i64]; omega
      have v4 : (0 : Int) ≤ (m : Int) := by omega
      have v5 : (m : Int) ≤ (A.length : Int) := by omega
      by_cases hks : sa.length < sb.length
      · obtain rfl : m = sb.length := by rw [hm.out]; unfold zipN; omega
        go_enter Try.func28, Try.ntmps28
        go_wp2_with fail
        rw [hW0.out]
        go_wp2_with (first
          | (go_at_call 34; (with_reducible refine (formed_any w.heap.size (.agg #[.slice o1 sa.length c1, .slice o2 la.length c2]) sa la _ (hu'.below hB (Nat.le_refl _)) hB.size).mono ?_); rintro e w1 ⟨rfl, hb⟩; rw [hf]; have hF1 := hidi (hF.out.call (hb.mono (Nat.le_refl _))); obtain ⟨d0, d1, d2, d3, -, -, -, -⟩ := hF1.out.1.cells)
          | (go_at_call 34; refine (formed_any w.heap.size _ sb lb _ (hv'.below hF1.out.2.2 (Nat.le_refl _)) hF1.out.2.2.size).mono ?_; rintro e w2 ⟨rfl, hb2⟩; rw [hg]; have hF2 := hidi (hF1.out.call (hb2.mono (Nat.le_refl _))); obtain ⟨d0, d1, d2, d3, -, -, -, -⟩ := hF2.out.1.cells)
          | (go_at_call 47; refine (common_any la.length lb.length _ p1 s1 (by omega) (by omega)).mono ?_; rintro e w3 ⟨rfl, hb3⟩; rw [← hp.out]; have hF3 := hidi (hF2.out.call hb3); obtain ⟨d0, d1, d2, d3, -, -, -, -⟩ := hF3.out.1.cells)
          | (go_at_call 48; refine (zipped_any _ _ _ w3 _ _ _ _ _ _ _ rfl rfl rfl).mono ?_; rintro e w4 ⟨rfl, rfl⟩; obtain ⟨x0, x1, x2, x3, x4⟩ := three_allocs w3 (.cells #[.slice o1 sa.length c1, .slice o2 la.length c2] 24) (.cells #[.slice o3 sb.length c3, .slice o4 lb.length c4] 24) (.cells #[.slice oT T.length cT] 25); replace x0 := hidi x0; replace x1 := hidi x1; replace x2 := hidi x2; replace x3 := hidi x3; have hF4 := hidi (hF3.out.call x4))
          | (go_at_call 37; refine (take_anyI 55 _ (zipF T sa la sb lb) 9 (((w3.alloc (.cells #[.slice o1 sa.length c1, .slice o2 la.length c2] 24)).alloc (.cells #[.slice o3 sb.length c3, .slice o4 lb.length c4] 24)).alloc (.cells #[.slice oT T.length cT] 25)).heap.size (sb.length + p) _ _ (by omega) (enters_of Try.func55 (by kernel_rfl) rfl) (by omega) (by omega) (Nat.le_refl _) (zipped_feeds _ w3.heap.size (w3.heap.size + 1) (w3.heap.size + 2) (sb.length + p) _ _ _ _ (.slice oT T.length cT) sa la sb lb T _ (by omega) (by have := x0.out; omega) (by have := x0.out; omega) (by have := x0.out; omega) x1.out x2.out x3.out ((hu'.below hF4.out.2.2 (Nat.le_refl _)).mono hF4.out.2.2.size) ((hv'.below hF4.out.2.2 (Nat.le_refl _)).mono hF4.out.2.2.size) ((hT'.below hF4.out.2.2 (Nat.le_refl _)).mono hF4.out.2.2.size) hf hg) (fun i => elemI_bd hT _ _)).mono ?_; rintro e w5 ⟨r5, rfl, hN5, hb5⟩; rw [← hA.out] at hN5; obtain ⟨o5, c5, rfl⟩ := hN5.1.shape; have hF5 := hidi (hF4.out.call hb5)))
        have I1 : IntsAt w5.heap.size w5 (.slice o5 sb.length c5) S1 := by rw [hS1.out]; exact hN5.1.take _ hAm
        obtain ⟨O2, hO2⟩ : ∃ O2, (if c5 = sb.length then o5 else o5.map (fun a => a.add sb.length)) = O2 := ⟨_, rfl⟩
        have I2 : IntsAt w5.heap.size w5 (.slice O2 (A.length - sb.length) (c5 - sb.length)) L1 := by rw [hL1.out, ← hO2]; exact slice_drop hN5.1 _ hAm
        have hAc := hN5.1.cap
        have v6 : (sb.length : Int) ≤ (c5 : Int) := by omega
        have hst : Hid (ResB w5 (w.heap.size + 1 + 1)) := hidi hF5.out.2.1
        have hWr := hF5.out.2.2
        have hS5 := hN5.2
        clear d0 d1 d2 d3 hks
        cases hz : formedB N1 N2
        all_goals go_region_held3 (fun W => Hid (ResB W (w.heap.size + 1 + 1)) ∧ Below w.heap.size w W) (first | exact ⟨hst, hWr.drew⟩ | exact ⟨q7, q6⟩ | exact res_store (le_two _) q7 q6 _ _) (first | (obtain ⟨q8, q9⟩ : Hid (ResB _ (w.heap.size + 1 + 1)) ∧ Below w.heap.size w _ := (by assumption); go_at_call 39; refine (normal_any _ _ _ S1 L1 _ (I1.drewMono) (I2.drewMono) (Nat.le_refl _) hLl0 (by omega)).mono ?_; rintro e w6 ⟨r6, rfl, hN6, hb6⟩; rw [← hN1.out, ← hN2.out] at hN6; obtain ⟨u5, u4, rfl, J5, J4, F5, F4⟩ := hN6.ex; obtain ⟨x5, k5, rfl⟩ := J5.shape; obtain ⟨x4, k4, rfl⟩ := J4.shape; have hs6 := q8.out.lt; have q7 := hidi (q8.out.below hb6); have q6 := q9.trans (hb6.mono q9.size)) | (obtain ⟨q8, q9⟩ : Hid (ResB _ (w.heap.size + 1 + 1)) ∧ Below w.heap.size w _ := (by assumption); go_at_call 43; refine (orZero_any _ _ N1 N2 _ hN6.las (Nat.le_refl _)).mono ?_; rintro e w7 ⟨rfl, hb7⟩; rw [hz]; simp only [if_true, if_false, Bool.false_eq_true]; have q7 := hidi (q8.out.below hb7); have q6 := q9.trans (hb7.mono q9.size); obtain ⟨a0, a1, z0, z1, y0, y1⟩ := q7.out.cells))
        all_goals go_wp2
        all_goals (try simp only [Exit.inBlock, Exit.then])
        all_goals refine bodyPost_ret (results_cell_row rfl _ _ (w.heap.size + 1 + 1) 24 _ (0, 0) _ rfl (q7.out.set _ _) Try.underlying24 rfl lasSize) rfl ?_
        · exact ⟨_, rfl, by rw [hE.out, hE1.out, hz]; exact las_put _ _ (le_two _) q6 (.inl ⟨_, _, rfl, rfl⟩) (.inl ⟨_, _, rfl, rfl⟩) (fun g e => by simp [Value.ownBlock] at e) (fun g e => by simp [Value.ownBlock] at e) _ _⟩
        · exact ⟨_, rfl, by rw [hE.out, hE1.out, hz]; exact las_put _ _ (le_two _) q6 ((J5.below hb7 (Nat.le_refl _)).mono hb7.size) ((J4.below hb7 (Nat.le_refl _)).mono hb7.size) (fun g e => Nat.lt_of_lt_of_le hs6 (F5 g e)) (fun g e => Nat.lt_of_lt_of_le hs6 (F4 g e)) _ _⟩
      · obtain rfl : m = sa.length := by rw [hm.out]; unfold zipN; omega
        go_enter Try.func28, Try.ntmps28
        go_wp2_with fail
        rw [hW0.out]
        go_wp2_with (first
          | (go_at_call 34; (with_reducible refine (formed_any w.heap.size (.agg #[.slice o1 sa.length c1, .slice o2 la.length c2]) sa la _ (hu'.below hB (Nat.le_refl _)) hB.size).mono ?_); rintro e w1 ⟨rfl, hb⟩; rw [hf]; have hF1 := hidi (hF.out.call (hb.mono (Nat.le_refl _))); obtain ⟨d0, d1, d2, d3, -, -, -, -⟩ := hF1.out.1.cells)
          | (go_at_call 34; refine (formed_any w.heap.size _ sb lb _ (hv'.below hF1.out.2.2 (Nat.le_refl _)) hF1.out.2.2.size).mono ?_; rintro e w2 ⟨rfl, hb2⟩; rw [hg]; have hF2 := hidi (hF1.out.call (hb2.mono (Nat.le_refl _))); obtain ⟨d0, d1, d2, d3, -, -, -, -⟩ := hF2.out.1.cells)
          | (go_at_call 47; refine (common_any la.length lb.length _ p1 s1 (by omega) (by omega)).mono ?_; rintro e w3 ⟨rfl, hb3⟩; rw [← hp.out]; have hF3 := hidi (hF2.out.call hb3); obtain ⟨d0, d1, d2, d3, -, -, -, -⟩ := hF3.out.1.cells)
          | (go_at_call 48; refine (zipped_any _ _ _ w3 _ _ _ _ _ _ _ rfl rfl rfl).mono ?_; rintro e w4 ⟨rfl, rfl⟩; obtain ⟨x0, x1, x2, x3, x4⟩ := three_allocs w3 (.cells #[.slice o1 sa.length c1, .slice o2 la.length c2] 24) (.cells #[.slice o3 sb.length c3, .slice o4 lb.length c4] 24) (.cells #[.slice oT T.length cT] 25); replace x0 := hidi x0; replace x1 := hidi x1; replace x2 := hidi x2; replace x3 := hidi x3; have hF4 := hidi (hF3.out.call x4))
          | (go_at_call 37; refine (take_anyI 55 _ (zipF T sa la sb lb) 9 (((w3.alloc (.cells #[.slice o1 sa.length c1, .slice o2 la.length c2] 24)).alloc (.cells #[.slice o3 sb.length c3, .slice o4 lb.length c4] 24)).alloc (.cells #[.slice oT T.length cT] 25)).heap.size (sa.length + p) _ _ (by omega) (enters_of Try.func55 (by kernel_rfl) rfl) (by omega) (by omega) (Nat.le_refl _) (zipped_feeds _ w3.heap.size (w3.heap.size + 1) (w3.heap.size + 2) (sa.length + p) _ _ _ _ (.slice oT T.length cT) sa la sb lb T _ (by omega) (by have := x0.out; omega) (by have := x0.out; omega) (by have := x0.out; omega) x1.out x2.out x3.out ((hu'.below hF4.out.2.2 (Nat.le_refl _)).mono hF4.out.2.2.size) ((hv'.below hF4.out.2.2 (Nat.le_refl _)).mono hF4.out.2.2.size) ((hT'.below hF4.out.2.2 (Nat.le_refl _)).mono hF4.out.2.2.size) hf hg) (fun i => elemI_bd hT _ _)).mono ?_; rintro e w5 ⟨r5, rfl, hN5, hb5⟩; rw [← hA.out] at hN5; obtain ⟨o5, c5, rfl⟩ := hN5.1.shape; have hF5 := hidi (hF4.out.call hb5)))
        have I1 : IntsAt w5.heap.size w5 (.slice o5 sa.length c5) S1 := by rw [hS1.out]; exact hN5.1.take _ hAm
        obtain ⟨O2, hO2⟩ : ∃ O2, (if c5 = sa.length then o5 else o5.map (fun a => a.add sa.length)) = O2 := ⟨_, rfl⟩
        have I2 : IntsAt w5.heap.size w5 (.slice O2 (A.length - sa.length) (c5 - sa.length)) L1 := by rw [hL1.out, ← hO2]; exact slice_drop hN5.1 _ hAm
        have hAc := hN5.1.cap
        have v6 : (sa.length : Int) ≤ (c5 : Int) := by omega
        have hst : Hid (ResB w5 (w.heap.size + 1 + 1)) := hidi hF5.out.2.1
        have hWr := hF5.out.2.2
        have hS5 := hN5.2
        clear d0 d1 d2 d3 hks
        cases hz : formedB N1 N2
        all_goals go_region_held3 (fun W => Hid (ResB W (w.heap.size + 1 + 1)) ∧ Below w.heap.size w W) (first | exact ⟨hst, hWr.drew⟩ | exact ⟨q7, q6⟩ | exact res_store (le_two _) q7 q6 _ _) (first | (obtain ⟨q8, q9⟩ : Hid (ResB _ (w.heap.size + 1 + 1)) ∧ Below w.heap.size w _ := (by assumption); go_at_call 39; refine (normal_any _ _ _ S1 L1 _ (I1.drewMono) (I2.drewMono) (Nat.le_refl _) hLl0 (by omega)).mono ?_; rintro e w6 ⟨r6, rfl, hN6, hb6⟩; rw [← hN1.out, ← hN2.out] at hN6; obtain ⟨u5, u4, rfl, J5, J4, F5, F4⟩ := hN6.ex; obtain ⟨x5, k5, rfl⟩ := J5.shape; obtain ⟨x4, k4, rfl⟩ := J4.shape; have hs6 := q8.out.lt; have q7 := hidi (q8.out.below hb6); have q6 := q9.trans (hb6.mono q9.size)) | (obtain ⟨q8, q9⟩ : Hid (ResB _ (w.heap.size + 1 + 1)) ∧ Below w.heap.size w _ := (by assumption); go_at_call 43; refine (orZero_any _ _ N1 N2 _ hN6.las (Nat.le_refl _)).mono ?_; rintro e w7 ⟨rfl, hb7⟩; rw [hz]; simp only [if_true, if_false, Bool.false_eq_true]; have q7 := hidi (q8.out.below hb7); have q6 := q9.trans (hb7.mono q9.size); obtain ⟨a0, a1, z0, z1, y0, y1⟩ := q7.out.cells))
        all_goals go_wp2
        all_goals (try simp only [Exit.inBlock, Exit.then])
        all_goals refine bodyPost_ret (results_cell_row rfl _ _ (w.heap.size + 1 + 1) 24 _ (0, 0) _ rfl (q7.out.set _ _) Try.underlying24 rfl lasSize) rfl ?_
        · exact ⟨_, rfl, by rw [hE.out, hE1.out, hz]; exact las_put _ _ (le_two _) q6 (.inl ⟨_, _, rfl, rfl⟩) (.inl ⟨_, _, rfl, rfl⟩) (fun g e => by simp [Value.ownBlock] at e) (fun g e => by simp [Value.ownBlock] at e) _ _⟩
        · exact ⟨_, rfl, by rw [hE.out, hE1.out, hz]; exact las_put _ _ (le_two _) q6 ((J5.below hb7 (Nat.le_refl _)).mono hb7.size) ((J4.below hb7 (Nat.le_refl _)).mono hb7.size) (fun g e => Nat.lt_of_lt_of_le hs6 (F5 g e)) (fun g e => Nat.lt_of_lt_of_le hs6 (F4 g e)) _ _⟩

end Go.Proofs.Ytcbddplgleeiiaa
