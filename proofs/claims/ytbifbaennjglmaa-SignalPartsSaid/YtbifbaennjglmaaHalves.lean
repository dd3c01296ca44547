/-
  The walk of the law SignalHalves: it returns true, whatever the signals and the two numbers are.
-/
import Derived.Test.YtbifbaennjglmaaLawQ
import Derived.Test.YtbifbaennjglmaaHead
namespace Go.Proofs.Ytbifbaennjglmaa
open Go.RowKit

theorem hidi {p : Prop} (h : p) : Hid p := h

theorem rem_facts {a n : Int} (ha : 0 ≤ a) (hn : 1 ≤ n) : (¬ n = 0) ∧ a.tmod n = a % n ∧ 0 ≤ a % n ∧ a % n < n :=
  ⟨by omega, Int.tmod_eq_emod_of_nonneg ha, Int.emod_nonneg _ (by omega), Int.emod_lt_of_pos _ (by omega)⟩

set_option maxRecDepth 100000 in
set_option maxHeartbeats 2000000 in
theorem halves_any (v : Value) (l : List Sig) (ra rb : Int) (w : World) (hl : Sigs w.heap.size w v l) (ha0 : 0 ≤ ra) (ha1 : ra ≤ 255) (hb0 : 0 ≤ rb) (hb1 : rb ≤ 255) :
    Calls Try.prog 6 #[v, .int .u8 ra, .int .u8 rb] w fun e w' => e = .returned (.bool true) ∧ Below w.heap.size w w' := by
  have hB : Below w.heap.size w w := Below.refl _ _
  have hlen : ∃ o c, v = .slice o l.length c := by
    rcases id hl with ⟨ov, cv, rfl, rfl⟩ | ⟨b, off, cap, rfl, _⟩
    · exact ⟨_, _, rfl⟩
    · exact ⟨_, _, rfl⟩
  obtain ⟨ov, cv, rfl⟩ := hlen
  cases hs : smallB l
  · go_enter Try.func6, Try.ntmps6
    go_wp2_with first | (go_at_call 9; refine (head_any _).mono ?_; rintro e w1 ⟨rfl, hb⟩; have hB := hB.trans (hb.mono hB.size); clear hb) | (go_at_call 10; refine (small_any w.heap.size _ l _ (hl.below hB (Nat.le_refl _))).mono ?_; rintro e w' ⟨rfl, rfl⟩)
    go_ret
    exact ⟨rfl, hB⟩
  · cases hv : validB l
    · go_enter Try.func6, Try.ntmps6
      go_wp2_with first | (go_at_call 9; refine (head_any _).mono ?_; rintro e w1 ⟨rfl, hb⟩; have hB := hB.trans (hb.mono hB.size); clear hb) | (go_at_call 10; refine (small_any w.heap.size _ l _ (hl.below hB (Nat.le_refl _))).mono ?_; rintro e w' ⟨rfl, rfl⟩) | (go_at_call 13; refine (valid_any w.heap.size _ l _ (hl.below hB (Nat.le_refl _)) hB.size).mono ?_; rintro e w' ⟨rfl, hb⟩; have hB := hB.trans (hb.mono hB.size); clear hb)
      go_ret
      exact ⟨rfl, hB⟩
    · have hw := (valid_iff l).1 hv
      obtain ⟨hn1, hn2⟩ := cnt_bd hw
      obtain ⟨hz, qa, qa0, qa1⟩ := rem_facts ha0 hn1
      obtain ⟨-, qb, qb0, qb1⟩ := rem_facts hb0 hn1
      have hla : belowB (ra % cntI allS l) (cntI allS l) = true := (belowB_iff _ _).2 ⟨qa0, qa1⟩
      have hlb : belowB (rb % cntI allS l) (cntI allS l) = true := (belowB_iff _ _).2 ⟨qb0, qb1⟩
      have H1 := hidi (halves_iff (p := inS true) hw hla hlb)
      have H2 := hidi (halves_iff (p := inS false) hw hla hlb)
      clear hla hlb
      rcases id hl with ⟨ov', cv', h, rfl⟩ | ⟨b, off, cap, h, hb, hcap, hm, hc⟩
      · have := hw.len1; simp at this
      cases h
      go_enter Try.func6, Try.ntmps6
      go_wp2_with first | (go_at_call 9; refine (head_any _).mono ?_; rintro e w1 ⟨rfl, hb⟩; have hB := hB.trans (hb.mono hB.size); clear hb) | (go_at_call 10; refine (small_any w.heap.size _ l _ (hl.below hB (Nat.le_refl _))).mono ?_; rintro e w' ⟨rfl, rfl⟩) | (go_at_call 13; refine (valid_any w.heap.size _ l _ (hl.below hB (Nat.le_refl _)) hB.size).mono ?_; rintro e w' ⟨rfl, hb⟩; have hB := hB.trans (hb.mono hB.size); clear hb) | (go_at_call 19; refine (letters_any w.heap.size _ l _ (hl.below hB (Nat.le_refl _)) hB.size).mono ?_; rintro e w' ⟨rfl, hb⟩; have hB := hB.trans (hb.mono hB.size); clear hb)
      have hB0 := hB
      clear hB
      go_loopw [11, 12, 13] (fun x y i wr => ∃ (k : Nat) (p q : Bool), k ≤ l.length ∧ i = .int .i64 k ∧ x = .bool p ∧ y = .bool q ∧ Below w.heap.size w wr ∧
          Hid (eqFrom (inS true) l (ra % cntI allS l) (rb % cntI allS l) 0 l = (p && eqFrom (inS true) l (ra % cntI allS l) (rb % cntI allS l) k (l.drop k))) ∧
          Hid (eqFrom (inS false) l (ra % cntI allS l) (rb % cntI allS l) 0 l = (q && eqFrom (inS false) l (ra % cntI allS l) (rb % cntI allS l) k (l.drop k))))
        (fun _ _ i _ => l.length - (intOf i).toNat)
      case atStart => exact ⟨0, true, true, Nat.zero_le _, rfl, rfl, rfl, hB0, rfl, rfl⟩
      case round =>
        obtain ⟨k, p, q, hk, rfl, rfl, rfl, hB, hF1, hF2⟩ := hrel
        by_cases hlt : k < l.length
        · obtain ⟨c0, c1, c2, -⟩ := hc k hlt
          have hS1 : Hid (eqFrom (inS true) l (ra % cntI allS l) (rb % cntI allS l) k (l.drop k) = ((!(l[k].input == true) || valueI l (ra % cntI allS l) k == valueI l (rb % cntI allS l) k) && eqFrom (inS true) l (ra % cntI allS l) (rb % cntI allS l) (k + 1) (l.drop (k + 1)))) := by
            unfold Hid; rw [List.drop_eq_getElem_cons hlt]; rfl
          have hS2 : Hid (eqFrom (inS false) l (ra % cntI allS l) (rb % cntI allS l) k (l.drop k) = ((!(l[k].input == false) || valueI l (ra % cntI allS l) k == valueI l (rb % cntI allS l) k) && eqFrom (inS false) l (ra % cntI allS l) (rb % cntI allS l) (k + 1) (l.drop (k + 1)))) := by
            unfold Hid; rw [List.drop_eq_getElem_cons hlt]; rfl
          cases hi : l[k].input
          all_goals
            cases p
            all_goals
              cases q
              all_goals
                cases hsame : (valueI l (ra % cntI allS l) k == valueI l (rb % cntI allS l) k)
                all_goals
                  rw [hi] at c1
                  go_wp2_with (go_at_call 25; refine (value_any w.heap.size _ l _ _ _ (hl.below hB (Nat.le_refl _)) hB.size).mono ?_; rintro e w' ⟨rfl, hb⟩; have hB := hB.trans (hb.mono hB.size); clear hb; have d1 := (hB.cell (p := ⟨b, off + k * 3 + 1, none⟩) (by omega)).trans c1)
                  go_roundw
                  case rel => exact ⟨k + 1, _, _, by omega, by go_num, rfl, rfl, hB, by unfold Hid; rw [hF1.out, hS1.out, hi, hsame]; simp, by unfold Hid; rw [hF2.out, hS2.out, hi, hsame]; simp⟩
                  case measure => simp [intOf]; omega
        · have hE1 : Hid ((projI (inS true) l (ra % cntI allS l) == projI (inS true) l (rb % cntI allS l)) = p) := by
            unfold Hid; rw [← H1.out, hF1.out, List.drop_of_length_le (by omega)]; simp [eqFrom]
          have hE2 : Hid ((projI (inS false) l (ra % cntI allS l) == projI (inS false) l (rb % cntI allS l)) = q) := by
            unfold Hid; rw [← H2.out, hF2.out, List.drop_of_length_le (by omega)]; simp [eqFrom]
          have f1 := hE1.out
          have f2 := hE2.out
          cases p
          all_goals
            cases q
            all_goals
              go_wp2_with first | (go_at_call 27; refine (in_any w.heap.size _ l _ _ (hl.below hB (Nat.le_refl _)) hB.size).mono ?_; rintro e w' ⟨rfl, hb⟩; have hB := hB.trans (hb.mono hB.size); clear hb) | (go_at_call 29; refine (out_any w.heap.size _ l _ _ (hl.below hB (Nat.le_refl _)) hB.size).mono ?_; rintro e w' ⟨rfl, hb⟩; have hB := hB.trans (hb.mono hB.size); clear hb)
              go_ret
              exact ⟨rfl, hB⟩

end Go.Proofs.Ytbifbaennjglmaa
