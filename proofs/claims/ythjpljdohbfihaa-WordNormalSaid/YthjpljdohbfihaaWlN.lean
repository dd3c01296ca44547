/-
  The walk of the law WordNormal.
-/
import Derived.Test.YthjpljdohbfihaaWlM
namespace Go.Proofs.Ythjpljdohbfihaa
open Go.RowKit

/-- is the list, up to position i, a repetition of its first k letters -/
def rpB (L : List Int) (k i : Nat) : Bool := decide (L.length % k = 0) && ((List.range i).drop k).all fun j => decide (L.getD j 0 = L.getD (j - k) 0)

theorem refequal_refl' {s l : List Int} : lasEqB s l s l = true := by unfold lasEqB; simp

theorem rpB_start (L : List Int) (k : Nat) : rpB L k k = decide (L.length % k = 0) := by
  unfold rpB
  rw [List.drop_of_length_le (by simp)]
  simp
theorem rpB_step {L : List Int} {k i : Nat} (h : k ≤ i) : rpB L k (i + 1) = (rpB L k i && decide (L.getD i 0 = L.getD (i - k) 0)) := by
  unfold rpB
  rw [List.range_succ, List.drop_append_of_le_length (by simpa using h), List.all_append, ← Bool.and_assoc]
  simp
theorem rpB_end {L : List Int} {k : Nat} (hp : Prim L) (h0 : 0 < k) (hk : k < L.length) : rpB L k L.length = false := by
  cases hb : rpB L k L.length with
  | false => rfl
  | true =>
    refine (hp k h0 hk ?_).elim
    unfold rpB at hb
    rw [Bool.and_eq_true, decide_eq_true_eq, List.all_eq_true] at hb
    refine ⟨hb.1, fun i h1 h2 => ?_⟩
    have := hb.2 i (List.mem_iff_getElem.2 ⟨i - k, by simp; omega, by simp; omega⟩)
    simpa using this

theorem ends_ne {s l : List Int} (he : Ends s l) (hs : 0 < s.length) (hl : 0 < l.length) : s[s.length - 1]'(by omega) ≠ l[l.length - 1]'(by omega) := by
  rcases he with rfl | he
  · simp at hs
  · intro h
    refine he ?_
    rw [List.getLast?_eq_getElem?, List.getLast?_eq_getElem?, List.getElem?_eq_getElem (by omega), List.getElem?_eq_getElem (by omega), h]

set_option maxRecDepth 100000 in
set_option maxHeartbeats 4000000 in
theorem wnormlaw_any (v : Value) (s l : List Int) (w : World) (hu' : LasAt w.heap.size w v s l) :
    Calls Try.prog 4 #[v] w fun e w' => e = .returned (.bool true) ∧ Below w.heap.size w w' := by
  obtain ⟨o1, c1, o2, c2, rfl, -, -⟩ := hu'.open
  obtain ⟨W0, hW0, hA, q0, e0, e1⟩ := box_open w (.slice o1 s.length c1) (.slice o2 l.length c2)
  have hC : Below W0.heap.size W0 W0 := Below.refl _ _
  obtain ⟨N1, hN1⟩ : ∃ N1, Hid (N1 = (normI s l).1) := ⟨_, rfl⟩
  obtain ⟨N2, hN2⟩ : ∃ N2, Hid (N2 = (normI s l).2) := ⟨_, rfl⟩
  go_enter Try.func4, Try.ntmps4
  go_wp2_with fail
  rw [hW0.out]
  go_wp2_with (first | (go_at_call 10; refine (head_any _).mono ?_; rintro e w1 ⟨rfl, hb⟩; have hC := hC.trans (hb.mono hC.size); clear hb; have d0 := (hC.cell (p := ⟨w.heap.size, 0, none⟩) q0).trans e0.out; have d1 := (hC.cell (p := ⟨w.heap.size, 1, none⟩) q0).trans e1.out) | (go_at_call 20; refine (wnormal_any w.heap.size _ s l _ (hu'.below (hA.trans (hC.mono hA.size)) (Nat.le_refl _)) (Nat.le_trans hA.size hC.size)).mono ?_; rintro e w4 ⟨r, rfl, hN, hb⟩; rw [← hN1.out, ← hN2.out] at hN; obtain ⟨u5, u4, rfl, J5, J4, -, -⟩ := hN.ex; obtain ⟨x5, e5, rfl⟩ := J5.shape; obtain ⟨x4, e4, rfl⟩ := J4.shape; have hC := hC.trans (hb.mono hC.size); clear hb; have b5 := below_new w4 (.cells #[.slice x5 N1.length e5, .slice x4 N2.length e4] 24); have z0 := ((hC.trans (b5.mono hC.size)).cell (p := ⟨w.heap.size, 0, none⟩) q0).trans e0.out; have z1 := ((hC.trans (b5.mono hC.size)).cell (p := ⟨w.heap.size, 1, none⟩) q0).trans e1.out))
  have b5 := below_new w4 (.cells #[.slice x5 N1.length e5, .slice x4 N2.length e4] 24)
  have m0 := hidi (box0 w4 (.slice x5 N1.length e5) (.slice x4 N2.length e4) 24)
  have m1 := hidi (box1 w4 (.slice x5 N1.length e5) (.slice x4 N2.length e4) 24)
  have mL : Hid (LasAt (w4.alloc (.cells #[.slice x5 N1.length e5, .slice x4 N2.length e4] 24)).heap.size (w4.alloc (.cells #[.slice x5 N1.length e5, .slice x4 N2.length e4] 24)) (.agg #[.slice x5 N1.length e5, .slice x4 N2.length e4]) N1 N2) := ⟨_, _, rfl, J5.next b5, J4.next b5⟩
  have K5 := hidi (J5.next b5)
  have K4 := hidi (J4.next b5)
  have hbz := box_lt w4 (.cells #[.slice x5 N1.length e5, .slice x4 N2.length e4] 24)
  replace hC := hC.trans (b5.mono hC.size)
  clear b5 J5 J4 hN d0 d1 z0 z1
  revert m0 m1 mL hbz hC K5 K4
  generalize w4.alloc (.cells #[.slice x5 N1.length e5, .slice x4 N2.length e4] 24) = Wb
  generalize w4.heap.size = bz
  intro m0 m1 mL K5 K4 hbz hC
  have U : ∀ {X : World}, Below Wb.heap.size Wb X → LasAt X.heap.size X (.agg #[.slice o1 s.length c1, .slice o2 l.length c2]) s l := fun h => (hu'.below (hA.trans ((hC.trans (h.mono hC.size)).mono hA.size)) (Nat.le_refl _)).mono (Nat.le_trans hA.size (Nat.le_trans hC.size h.size))
  have V : ∀ {X : World}, Below Wb.heap.size Wb X → LasAt X.heap.size X (.agg #[.slice x5 N1.length e5, .slice x4 N2.length e4]) N1 N2 := fun h => mL.out.next h
  have keep : ∀ {X : World}, Below Wb.heap.size Wb X → X.cell? ⟨w.heap.size, 0, none⟩ = some (.slice o1 s.length c1) ∧ X.cell? ⟨w.heap.size, 1, none⟩ = some (.slice o2 l.length c2) ∧ X.cell? ⟨bz, 0, none⟩ = some (.slice x5 N1.length e5) ∧ X.cell? ⟨bz, 1, none⟩ = some (.slice x4 N2.length e4) ∧ Below Wb.heap.size Wb X := fun h =>
    ⟨((hC.trans (h.mono hC.size)).cell (p := ⟨w.heap.size, 0, none⟩) q0).trans e0.out, ((hC.trans (h.mono hC.size)).cell (p := ⟨w.heap.size, 1, none⟩) q0).trans e1.out, (h.cell (p := ⟨bz, 0, none⟩) hbz).trans m0.out, (h.cell (p := ⟨bz, 1, none⟩) hbz).trans m1.out, h⟩
  refine (refformed_any _ _ s l _ (U (Below.refl _ _)) (Nat.le_refl _)).mono ?_
  rintro e w5 ⟨rfl, hb⟩
  cases hf : formedB s l
  · have n1 : N1 = [] := by rw [hN1.out]; unfold normI; rw [hf]; rfl
    have n2 : N2 = [] := by rw [hN2.out]; unfold normI; rw [hf]; rfl
    subst n1 n2
    obtain ⟨-, -, z0, z1, -⟩ := keep hb
    go_wp2_with fail
    go_ret
    exact ⟨rfl, hA.trans ((hC.trans (hb.mono hC.size)).mono hA.size)⟩
  · obtain ⟨p1, p2, p3, -, -⟩ := formed_pos hf
    rw [normI_formed hf] at hN1 hN2
    obtain ⟨a1, a2, a3, a4, a5, a6⟩ := normL_spec (s := s) p1
    have hnf := norm_formed hf
    have hnn := normL_norm (s := s) p1
    simp only [← hN1.out, ← hN2.out] at a1 a2 a3 a4 a5 a6 hnf hnn
    have hag : Hid (agreeFrom s l N1 N2 200 0 = true) := by
      unfold Hid
      rw [agreeFrom_iff]
      intro i _
      rw [atI_formed hf, atI_formed hnf, a1]
    have hNN : Hid (normI N1 N2 = (N1, N2)) := by
      unfold Hid
      rw [normI_formed hnf, hnn, hN1.out, hN2.out]
    have g1 : decide (s.length < N1.length) = false := by rw [decide_eq_false_iff_not]; omega
    have g2 : decide (l.length < N2.length) = false := by rw [decide_eq_false_iff_not]; omega
    have hst := keep hb.drew
    obtain ⟨-, -, z0, z1, -⟩ := keep hb
    clear a1 hnn hN1 hN2
    go_wp2_with fail
    go_region_held3 (fun X => X.cell? ⟨w.heap.size, 0, none⟩ = some (.slice o1 s.length c1) ∧ X.cell? ⟨w.heap.size, 1, none⟩ = some (.slice o2 l.length c2) ∧ X.cell? ⟨bz, 0, none⟩ = some (.slice x5 N1.length e5) ∧ X.cell? ⟨bz, 1, none⟩ = some (.slice x4 N2.length e4) ∧ Below Wb.heap.size Wb X) (first | exact hst | exact keep q6) (first
      | (obtain ⟨-, -, -, -, q9⟩ : _ ∧ _ ∧ _ ∧ _ ∧ Below Wb.heap.size Wb _ := (by assumption); go_at_call 30; refine (refformed_any _ _ N1 N2 _ (V q9) (Nat.le_refl _)).mono ?_; rintro e w9 ⟨rfl, hb9⟩; rw [hnf]; have q6 := q9.trans (hb9.mono q9.size))
      | (obtain ⟨-, -, -, -, q9⟩ : _ ∧ _ ∧ _ ∧ _ ∧ Below Wb.heap.size Wb _ := (by assumption); go_at_call 31; refine (agree_any _ _ _ s l N1 N2 200 _ (U q9) (V q9) (Nat.le_refl _) (by decide)).mono ?_; rintro e w10 ⟨rfl, hb10⟩; rw [hag.out]; have q6 := q9.trans (hb10.mono q9.size))
      | (obtain ⟨-, -, -, -, q9⟩ : _ ∧ _ ∧ _ ∧ _ ∧ Below Wb.heap.size Wb _ := (by assumption); go_at_call 20; refine (wnormal_any _ _ N1 N2 _ (V q9) (Nat.le_refl _)).mono ?_; rintro e w11 ⟨r1, rfl, hM1, hb11⟩; rw [hNN.out] at hM1; have hL1 := hM1.las; have q6 := q9.trans (hb11.mono q9.size))
      | (obtain ⟨-, -, -, -, q9⟩ : _ ∧ _ ∧ _ ∧ _ ∧ Below Wb.heap.size Wb _ := (by assumption); go_at_call 19; refine (refequal_any _ r1 _ _ _ _ _ _ hL1 (V q9) (Nat.le_refl _)).mono ?_; rintro e w12 ⟨rfl, hb12⟩; rw [refequal_refl']; have q6 := q9.trans (hb12.mono q9.size)))
    all_goals go_wp2
    obtain ⟨-, -, -, -, q9⟩ : _ ∧ _ ∧ _ ∧ _ ∧ Below Wb.heap.size Wb _ := (by assumption)
    go_loopw [5] (fun i wr => ∃ k : Nat, 1 ≤ k ∧ k ≤ N2.length ∧ i = .int .i64 k ∧ Below Wb.heap.size Wb wr) (fun i _ => N2.length - (intOf i).toNat)
    case atStart => exact ⟨1, Nat.le_refl _, a2, rfl, q9⟩
    case round =>
      obtain ⟨k, hk1, hk, rfl, hB⟩ := hrel
      obtain ⟨-, -, z0, z1, -⟩ := keep hB
      by_cases hlt : k < N2.length
      · have hrp := hidi (rpB_end a5 hk1 hlt)
        have r1 : (N2.length : Int).tmod (k : Int) = ((N2.length % k : Nat) : Int) := by rw [Int.tmod_eq_emod_of_nonneg (by omega), Int.natCast_emod]
        obtain ⟨t0, ht0⟩ : ∃ t0, Hid (t0 = rpB N2 k k) := ⟨_, rfl⟩
        have r2 : (((N2.length % k : Nat) : Int) == 0) = t0 := by
          rw [ht0.out, rpB_start, Bool.eq_iff_iff]
          simp
          omega
        generalize N2.length % k = q at *
        have hnz : ¬ (k : Int) = 0 := by omega
        have i1 : (k : Int) < (N2.length : Int) := by omega
        go_wp2_with fail
        obtain ⟨wo, rfl⟩ : ∃ wo : World, wo = wr := ⟨_, rfl⟩
        go_loopw [6, 7] (fun b i wr => ∃ j : Nat, k ≤ j ∧ j ≤ N2.length ∧ (∃ t, b = .bool t ∧ Hid (t = rpB N2 k j)) ∧ i = .int .i64 j ∧ Below Wb.heap.size Wb wr) (fun _ i _ => N2.length - (intOf i).toNat)
        case atStart => exact ⟨k, Nat.le_refl _, hk, ⟨_, rfl, ht0⟩, rfl, hB⟩
        case round =>
          obtain ⟨j, hj1, hj, ⟨t, rfl, ht⟩, rfl, hB2⟩ := hrel
          obtain ⟨-, -, z0, z1, -⟩ := keep hB2
          by_cases hlt2 : j < N2.length
          · have i2 : (j : Int) < (N2.length : Int) := by omega
            cases t
            · go_wp2_with fail
              go_quiet (fail)
              go_wp2
              go_roundw
              case rel => exact ⟨j + 1, by omega, by omega, ⟨_, rfl, by unfold Hid; rw [rpB_step hj1, ← ht.out]; rfl⟩, by go_num, below_drewN hB2 _⟩
              case measure => simp [intOf]; omega
            · obtain ⟨b, off, rfl, hbl, -, -, hc⟩ := K4.out.at a2
              obtain ⟨m, hm⟩ : ∃ m : Nat, m = j - k := ⟨_, rfl⟩
              have hml : m < N2.length := by omega
              have d1 := (hB2.cell (p := ⟨b, off + j, none⟩) hbl).trans (hc j hlt2).1
              have d2 := (hB2.cell (p := ⟨b, off + m, none⟩) hbl).trans (hc m hml).1
              have r3 : IntKind.i64.wrap ((j : Int) - (k : Int)) = (m : Int) := by rw [IntKind.wrap_i64]; omega
              have hS : Hid (rpB N2 k (j + 1) = (N2[j] == N2[m])) := by
                unfold Hid
                rw [rpB_step hj1, ← ht.out, ← hm, Bool.eq_iff_iff]
                simp [hlt2, hml]
              have g1 : (0 : Int) ≤ j := by omega
              have g3 : (0 : Int) ≤ m := by omega
              have g4 : (m : Int) < N2.length := by omega
              clear hm hc
              go_wp2_with fail
              go_quiet (fail)
              go_wp2
              go_roundw
              case rel => exact ⟨j + 1, by omega, by omega, ⟨_, rfl, hidi hS.out.symm⟩, by go_num, below_drewN hB2 _⟩
              case measure => simp [intOf]; omega
          · have i2 : ¬ (j : Int) < (N2.length : Int) := by omega
            obtain rfl : t = false := by rw [ht.out, show j = N2.length by omega]; exact hrp.out
            go_wp2
            go_roundw
            case rel => exact ⟨k + 1, by omega, by omega, by go_num, hB2⟩
            case measure => simp [intOf]; omega
      · have i1 : ¬ (k : Int) < (N2.length : Int) := by omega
        by_cases hz : N1.length = 0
        · have i3 : ((N1.length : Int) == 0) = true := by simp [hz]
          go_wp2_with fail
          go_quiet (fail)
          go_wp2
          go_ret
          exact ⟨rfl, hA.trans ((hC.trans ((below_drewN hB _).mono hC.size)).mono hA.size)⟩
        · have i3 : ((N1.length : Int) == 0) = false := by simp [hz]
          have hne := hidi (ends_ne a6 (by omega) a2)
          obtain ⟨b, off, rfl, hbl, -, -, hc⟩ := K4.out.at a2
          obtain ⟨b', off', rfl, hbl', -, -, hc'⟩ := K5.out.at (by omega)
          obtain ⟨m, hm⟩ : ∃ m : Nat, m = N2.length - 1 := ⟨_, rfl⟩
          obtain ⟨m', hm'⟩ : ∃ m' : Nat, m' = N1.length - 1 := ⟨_, rfl⟩
          have hml : m < N2.length := by omega
          have hml' : m' < N1.length := by omega
          have d1 := (hB.cell (p := ⟨b, off + m, none⟩) hbl).trans (hc m hml).1
          have d2 := (hB.cell (p := ⟨b', off' + m', none⟩) hbl').trans (hc' m' hml').1
          have r3 : IntKind.i64.wrap ((N2.length : Int) - 1) = (m : Int) := by rw [IntKind.wrap_i64]; omega
          have r4 : IntKind.i64.wrap ((N1.length : Int) - 1) = (m' : Int) := by rw [IntKind.wrap_i64]; omega
          have hnn : (N1[m'] != N2[m]) = true := by
            subst hm hm'
            simpa using hne.out
          have g1 : (0 : Int) ≤ m := by omega
          have g2 : (m : Int) < N2.length := by omega
          have g3 : (0 : Int) ≤ m' := by omega
          have g4 : (m' : Int) < N1.length := by omega
          clear hm hm' hc hc'
          go_wp2_with fail
          go_quiet (fail)
          go_wp2
          go_ret
          exact ⟨rfl, hA.trans ((hC.trans ((below_drewN hB _).mono hC.size)).mono hA.size)⟩

end Go.Proofs.Ythjpljdohbfihaa
