/-
  The walk of the law SignalValues: it returns true, whatever the signals and the values are.
-/
import Derived.Test.YtbifbaennjglmaaInts
namespace Go.Proofs.Ytbifbaennjglmaa
open Go.RowKit

theorem ints_of_owns {w : World} {B n : Nat} {v : Value} {xs : List Int} (h : w.ownsRow B 3 1 v n (xs.map (Value.int .i64))) (hn : n = xs.length) (hb : ∀ x ∈ xs, -9223372036854775808 ≤ x ∧ x ≤ 9223372036854775807) : IntsAt w.heap.size w v xs := by
  subst hn
  have h0 := h
  rcases h.2 with ⟨rfl, h1⟩ | ⟨g, cap, cur, rfl, _, hg, hle, hcap, _⟩
  · exact .inl ⟨_, _, rfl, List.length_eq_zero_iff.1 h1⟩
  · refine .inr ⟨g, 0, cap, rfl, (Array.getElem?_eq_some_iff.1 hg).1, hle, by unfold maxLen at hcap; omega, fun k hk => ⟨?_, hb _ (List.getElem_mem hk)⟩⟩
    rw [Nat.zero_add, h0.cellAt k (by omega)]
    simp [hk]

theorem few_bd {vs : List Int} (h : Few vs) : ∀ x ∈ vs, -9223372036854775808 ≤ x ∧ x ≤ 9223372036854775807 := fun x hx => by have := h x hx; omega

theorem make_vals {l : List Sig} (hw : WF l) {a : Int} (ha : belowB a (cntI allS l) = true) : makeOk l (valsI l a) = true ∧ makeI l (valsI l a) = a := by
  have h1 : makeOk l (valsI l a) = true := by unfold makeOk; rw [(valid_iff l).2 hw, valsI_ok hw]; rfl
  refine ⟨h1, ?_⟩
  unfold makeI
  rw [h1, if_pos rfl]
  have ha' := (belowB_iff _ _).1 ha
  rw [cntI_valid hw] at ha'
  exact comp_dec hw.sized (by simp) ha'.1 ha'.2

theorem make_back {l : List Sig} (hw : WF l) {vs : List Int} (h : makeOk l vs = true) : belowB (makeI l vs) (cntI allS l) = true ∧ valsI l (makeI l vs) = vs := by
  have hok : okV l vs = true := by unfold makeOk at h; simp only [Bool.and_eq_true] at h; exact h.2
  have e : makeI l vs = comp allS l vs := by unfold makeI; rw [h, if_pos rfl]
  rw [e, cntI_valid hw]
  exact ⟨(belowB_iff _ _).2 (comp_lt hw.sized hok), valsI_comp hok⟩

theorem vals_digit {l : List Sig} (hw : WF l) (a : Int) {k : Nat} (hk : k < l.length) (hk' : k < (valsI l a).length) : 0 ≤ (valsI l a)[k] ∧ (valsI l a)[k] < l[k].size := by
  have h := valsI_ok hw a
  have aux : ∀ {l : List Sig} {vs : List Int} {k : Nat} (hk : k < l.length) (hk' : k < vs.length), okV l vs = true → 0 ≤ vs[k] ∧ vs[k] < l[k].size := by
    intro l
    induction l with
    | nil => intro vs k hk; simp at hk
    | cons s r ih =>
      intro vs k hk hk' h
      cases vs with
      | nil => simp at hk'
      | cons v vs =>
        simp only [okV, Bool.and_eq_true, belowB_iff] at h
        cases k with
        | zero => exact h.1
        | succ k => exact ih (by simpa using hk) (by simpa using hk') h.2
  exact aux hk hk' h

set_option maxRecDepth 100000 in
set_option maxHeartbeats 2000000 in
theorem values_law (v u : Value) (l : List Sig) (vs : List Int) (w : World) (hl : Sigs w.heap.size w v l) (hu : IntsAt w.heap.size w u vs) :
    Calls Try.prog 5 #[v, u] w fun e w' => e = .returned (.bool true) ∧ Below w.heap.size w w' := by
  have hB : Below w.heap.size w w := Below.refl _ _
  obtain ⟨ou, cu, rfl⟩ := hu.shape
  cases hs : smallB l
  · go_enter Try.func5, Try.ntmps5
    go_wp2_with first | (go_at_call 9; refine (head_any _).mono ?_; rintro e w1 ⟨rfl, hb⟩; have hB := hB.trans (hb.mono hB.size); clear hb) | (go_at_call 10; refine (small_any w.heap.size _ l _ (hl.below hB (Nat.le_refl _))).mono ?_; rintro e w' ⟨rfl, rfl⟩)
    go_ret
    exact ⟨rfl, hB⟩
  · cases hv : validB l
    · go_enter Try.func5, Try.ntmps5
      go_wp2_with first | (go_at_call 9; refine (head_any _).mono ?_; rintro e w1 ⟨rfl, hb⟩; have hB := hB.trans (hb.mono hB.size); clear hb) | (go_at_call 10; refine (small_any w.heap.size _ l _ (hl.below hB (Nat.le_refl _))).mono ?_; rintro e w' ⟨rfl, rfl⟩) | (go_at_call 13; refine (valid_any w.heap.size _ l _ (hl.below hB (Nat.le_refl _)) hB.size).mono ?_; rintro e w' ⟨rfl, hb⟩; have hB := hB.trans (hb.mono hB.size); clear hb)
      go_ret
      exact ⟨rfl, hB⟩
    · by_cases h20 : vs.length ≤ 20
      · have hw := (valid_iff l).1 hv
        obtain ⟨hn1, hn2⟩ := cnt_bd hw
        have hl6 := hw.len6
        have hl1 := hw.len1
        rcases id hl with ⟨ov', cv', rfl, rfl⟩ | ⟨b, off, cap, rfl, hb, hcap, hm, hc⟩
        · simp at hl1
        go_enter Try.func5, Try.ntmps5
        go_wp2_with first | (go_at_call 9; refine (head_any _).mono ?_; rintro e w1 ⟨rfl, hb⟩; have hB := hB.trans (hb.mono hB.size); clear hb) | (go_at_call 10; refine (small_any w.heap.size _ l _ (hl.below hB (Nat.le_refl _))).mono ?_; rintro e w' ⟨rfl, rfl⟩) | (go_at_call 13; refine (valid_any w.heap.size _ l _ (hl.below hB (Nat.le_refl _)) hB.size).mono ?_; rintro e w' ⟨rfl, hb⟩; have hB := hB.trans (hb.mono hB.size); clear hb) | (go_at_call 19; refine (letters_any w.heap.size _ l _ (hl.below hB (Nat.le_refl _)) hB.size).mono ?_; rintro e w' ⟨rfl, hb⟩; have hB := hB.trans (hb.mono hB.size); clear hb)
        have hB0 := hB
        clear hB
        go_loopw [7] (fun i wr => ∃ k : Nat, (k : Int) ≤ cntI allS l ∧ i = .int .i64 k ∧ Below w.heap.size w wr) (fun i _ => (cntI allS l).toNat - (intOf i).toNat)
        case atStart => exact ⟨0, by omega, rfl, hB0⟩
        case round =>
          obtain ⟨k, hk, rfl, hB⟩ := hrel
          by_cases hlt : (k : Int) < cntI allS l
          · have ha : belowB (k : Int) (cntI allS l) = true := (belowB_iff _ _).2 ⟨by omega, hlt⟩
            obtain ⟨e1, e2⟩ := make_vals hw ha
            have hfew := few_bd (valsI_few hw (k : Int))
            clear hB0
            go_wp2_with fail
            refine (lawvalues_any _ l k _ ((hl.below hB (Nat.le_refl _)).mono hB.size) (by omega)).mono ?_
            rintro e w1 ⟨u1, rfl, hown, hb1⟩
            rw [lvals_eq ha] at hown
            have hI := ints_of_owns hown (valsI_length l k).symm hfew
            have hB1 := hB.trans (hb1.mono hB.size)
            clear hown hb1 hB
            obtain ⟨o1, c1, rfl⟩ := hI.shape
            rw [valsI_length] at *
            go_wp2_with fail
            refine (make_any w1.heap.size _ _ l (valsI l k) _ ((hl.below hB1 (Nat.le_refl _)).mono hB1.size) hI (Nat.le_refl _)).mono ?_
            rintro e w2 ⟨rfl, hb2⟩
            rw [e1, e2]
            have hB2 := hB1.trans (hb2.mono hB1.size)
            have hI2 : IntsAt w2.heap.size w2 (.slice o1 (valsI l k).length c1) (valsI l k) := (IntsAt.below (by rw [valsI_length]; exact hI) hb2 (Nat.le_refl _)).mono hb2.size
            clear e1 e2 hfew hI hb2 hB1
            go_wp2
            go_loopw [11] (fun i wr => ∃ j : Nat, j ≤ l.length ∧ i = .int .i64 j ∧ Below w2.heap.size w2 wr) (fun i _ => l.length - (intOf i).toNat)
            case atStart => exact ⟨0, by omega, rfl, Below.refl _ _⟩
            case round =>
              obtain ⟨j, hj, rfl, hBj⟩ := hrel
              by_cases hlj : j < l.length
              · have hj' : j < (valsI l k).length := by rw [valsI_length]; exact hlj
                obtain ⟨g, f, rfl, hg, hgc, hgm, hcell⟩ := hI2.at (by omega)
                obtain ⟨x0, x1⟩ := vals_digit hw (k : Int) hlj hj'
                obtain ⟨c0, c1', c2, -⟩ := ((hc j hlj).below hB2 hb).below hBj (Nat.lt_of_lt_of_le hb hB2.size)
                have d0 := (hBj.cell (p := ⟨g, f + j, none⟩) hg).trans (hcell j hj').1
                have t1 : decide ((valsI l k)[j] < 0) = false := by simp; omega
                have t2 : decide (l[j].size ≤ (valsI l k)[j]) = false := by simp; omega
                have g1 : (0 : Int) ≤ j := by omega
                have g2 : (j : Int) < l.length := by omega
                rw [valsI_length] at hgc
                clear hI2 hcell
                go_wp2
                go_quiet (fail)
                go_wp2
                go_roundw
                case rel => exact ⟨j + 1, by omega, by go_num, below_drewN hBj _⟩
                case measure => simp [intOf]; omega
              · go_wp2
                go_roundw
                case rel => exact ⟨k + 1, by omega, by go_num, hB2.trans (hBj.mono hB2.size)⟩
                case measure => simp [intOf]; omega
          · clear hB0
            go_wp2_with fail
            refine (make_any w.heap.size _ _ l vs _ (hl.below hB (Nat.le_refl _)) (hu.below hB (Nat.le_refl _)) hB.size).mono ?_
            rintro e w1 ⟨rfl, hb1⟩
            have hB1 := hB.trans (hb1.mono hB.size)
            clear hB hb1
            cases hmk : makeOk l vs
            · have hz : makeI l vs = 0 := by unfold makeI; rw [hmk]; rfl
              go_wp2
              go_ret
              exact ⟨rfl, hB1⟩
            · obtain ⟨q1, q2⟩ := make_back hw hmk
              obtain ⟨q3, q4⟩ := (belowB_iff _ _).1 q1
              go_wp2_with fail
              refine (lawvalues_any _ l (makeI l vs) _ ((hl.below hB1 (Nat.le_refl _)).mono hB1.size) (by omega)).mono ?_
              rintro e w2 ⟨u1, rfl, hown, hb2⟩
              rw [lvals_eq q1] at hown
              have hI := ints_of_owns hown (valsI_length l _).symm (few_bd (valsI_few hw _))
              rw [q2] at hI
              have hB2 := hB1.trans (hb2.mono hB1.size)
              clear hown hb2
              go_wp2_with fail
              refine (ints_any w2.heap.size _ _ vs vs _ hI ((hu.below hB2 (Nat.le_refl _)).mono hB2.size) (Nat.le_refl _)).mono ?_
              rintro e w3 ⟨rfl, hb3⟩
              rw [decide_eq_true rfl]
              have hB3 := hB2.trans (hb3.mono hB2.size)
              go_wp2
              go_ret
              exact ⟨rfl, hB3⟩
      · go_enter Try.func5, Try.ntmps5
        go_wp2_with first | (go_at_call 9; refine (head_any _).mono ?_; rintro e w1 ⟨rfl, hb⟩; have hB := hB.trans (hb.mono hB.size); clear hb) | (go_at_call 10; refine (small_any w.heap.size _ l _ (hl.below hB (Nat.le_refl _))).mono ?_; rintro e w' ⟨rfl, rfl⟩) | (go_at_call 13; refine (valid_any w.heap.size _ l _ (hl.below hB (Nat.le_refl _)) hB.size).mono ?_; rintro e w' ⟨rfl, hb⟩; have hB := hB.trans (hb.mono hB.size); clear hb)
        go_ret
        exact ⟨rfl, hB⟩

end Go.Proofs.Ytbifbaennjglmaa
