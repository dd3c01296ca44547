/-
  The walk of the law SignalPairs: it returns true, whatever the signals are.
-/
import Derived.Test.YtbifbaennjglmaaLawR
import Derived.Test.YtbifbaennjglmaaHalves
namespace Go.Proofs.Ytbifbaennjglmaa
open Go.RowKit

set_option maxRecDepth 100000 in
set_option maxHeartbeats 2000000 in
theorem pairs_any (v : Value) (l : List Sig) (w : World) (hl : Sigs w.heap.size w v l) :
    Calls Try.prog 4 #[v] w fun e w' => e = .returned (.bool true) ∧ Below w.heap.size w w' := by
  have hB : Below w.heap.size w w := Below.refl _ _
  cases hs : smallB l
  · go_enter Try.func4, Try.ntmps4
    go_wp2_with first | (go_at_call 9; refine (head_any _).mono ?_; rintro e w1 ⟨rfl, hb⟩; have hB := hB.trans (hb.mono hB.size); clear hb) | (go_at_call 10; refine (small_any w.heap.size _ l _ (hl.below hB (Nat.le_refl _))).mono ?_; rintro e w' ⟨rfl, rfl⟩)
    go_ret
    exact ⟨rfl, hB⟩
  · cases hv : validB l
    · go_enter Try.func4, Try.ntmps4
      go_wp2_with first | (go_at_call 9; refine (head_any _).mono ?_; rintro e w1 ⟨rfl, hb⟩; have hB := hB.trans (hb.mono hB.size); clear hb) | (go_at_call 10; refine (small_any w.heap.size _ l _ (hl.below hB (Nat.le_refl _))).mono ?_; rintro e w' ⟨rfl, rfl⟩) | (go_at_call 13; refine (valid_any w.heap.size _ l _ (hl.below hB (Nat.le_refl _)) hB.size).mono ?_; rintro e w' ⟨rfl, hb⟩; have hB := hB.trans (hb.mono hB.size); clear hb)
      go_ret
      exact ⟨rfl, hB⟩
    · have hw := (valid_iff l).1 hv
      obtain ⟨hn1, hn2⟩ := cnt_bd hw
      obtain ⟨hmul, hn2', hi1, ho1, hi2, ho2⟩ := pair_facts hw
      have hmw : wrap64 (cntI (inS true) l * cntI (inS false) l) = cntI allS l := by rw [← hmul]; exact wrap64_small (by omega) (by omega)
      have hmi : IntKind.i64.wrap (cntI (inS true) l * cntI (inS false) l) = cntI allS l := by rw [iw64]; exact hmw
      have ho64 : cntI (inS false) l ≤ 64 := by
        have := mul_le (a := 1) (b := cntI (inS false) l) (c := cntI (inS true) l) (d := cntI (inS false) l) (by omega) (by omega) hi1 (Int.le_refl _)
        omega
      clear hmul
      go_enter Try.func4, Try.ntmps4
      go_wp2_with first | (go_at_call 9; refine (head_any _).mono ?_; rintro e w1 ⟨rfl, hb⟩; have hB := hB.trans (hb.mono hB.size); clear hb) | (go_at_call 10; refine (small_any w.heap.size _ l _ (hl.below hB (Nat.le_refl _))).mono ?_; rintro e w' ⟨rfl, rfl⟩) | (go_at_call 13; refine (valid_any w.heap.size _ l _ (hl.below hB (Nat.le_refl _)) hB.size).mono ?_; rintro e w' ⟨rfl, hb⟩; have hB := hB.trans (hb.mono hB.size); clear hb) | (go_at_call 19; refine (letters_any w.heap.size _ l _ (hl.below hB (Nat.le_refl _)) hB.size).mono ?_; rintro e w' ⟨rfl, hb⟩; have hB := hB.trans (hb.mono hB.size); clear hb) | (go_at_call 21; refine (inputs_any w.heap.size _ l _ (hl.below hB (Nat.le_refl _)) hB.size).mono ?_; rintro e w' ⟨rfl, hb⟩; have hB := hB.trans (hb.mono hB.size); clear hb) | (go_at_call 23; refine (outputs_any w.heap.size _ l _ (hl.below hB (Nat.le_refl _)) hB.size).mono ?_; rintro e w' ⟨rfl, hb⟩; have hB := hB.trans (hb.mono hB.size); clear hb)
      have hB0 := hB
      clear hB
      go_loopw [5] (fun i wr => ∃ k : Nat, (k : Int) ≤ cntI allS l ∧ i = .int .i64 k ∧ Below w.heap.size w wr) (fun i _ => (cntI allS l).toNat - (intOf i).toNat)
      case atStart => exact ⟨0, by omega, rfl, hB0⟩
      case round =>
        obtain ⟨k, hk, rfl, hB⟩ := hrel
        by_cases hlt : (k : Int) < cntI allS l
        · obtain ⟨e1, e2, e3⟩ := letter_facts hw (a := k) ((belowB_iff _ _).2 ⟨by omega, hlt⟩)
          obtain ⟨g1, g2⟩ := (belowB_iff _ _).1 e1
          obtain ⟨g3, g4⟩ := (belowB_iff _ _).1 e2
          clear e1 e2
          go_wp2_with first | (go_at_call 27; refine (in_any w.heap.size _ l _ _ (hl.below hB (Nat.le_refl _)) hB.size).mono ?_; rintro e w' ⟨rfl, hb⟩; have hB := hB.trans (hb.mono hB.size); clear hb) | (go_at_call 29; refine (out_any w.heap.size _ l _ _ (hl.below hB (Nat.le_refl _)) hB.size).mono ?_; rintro e w' ⟨rfl, hb⟩; have hB := hB.trans (hb.mono hB.size); clear hb) | (go_at_call 21; refine (inputs_any w.heap.size _ l _ (hl.below hB (Nat.le_refl _)) hB.size).mono ?_; rintro e w' ⟨rfl, hb⟩; have hB := hB.trans (hb.mono hB.size); clear hb) | (go_at_call 23; refine (outputs_any w.heap.size _ l _ (hl.below hB (Nat.le_refl _)) hB.size).mono ?_; rintro e w' ⟨rfl, hb⟩; have hB := hB.trans (hb.mono hB.size); clear hb) | (go_at_call 31; refine (join_any w.heap.size _ l _ _ _ (hl.below hB (Nat.le_refl _)) hB.size).mono ?_; rintro e w' ⟨rfl, hb⟩; have hB := hB.trans (hb.mono hB.size); clear hb)
          go_roundw
          case rel => exact ⟨k + 1, by omega, by go_num, hB⟩
          case measure => simp [intOf]; omega
        · clear hB0
          go_wp2
          have hB0 := hB
          clear hB
          go_loopw [8] (fun i wr => ∃ k : Nat, (k : Int) ≤ cntI (inS true) l ∧ i = .int .i64 k ∧ Below w.heap.size w wr) (fun i _ => (cntI (inS true) l).toNat - (intOf i).toNat)
          case atStart => exact ⟨0, by omega, rfl, hB0⟩
          case round =>
            obtain ⟨k, hk, rfl, hB⟩ := hrel
            by_cases hlt : (k : Int) < cntI (inS true) l
            · have hik : belowB (k : Int) (cntI (inS true) l) = true := (belowB_iff _ _).2 ⟨by omega, hlt⟩
              clear hB0
              go_wp2_with first | (go_at_call 21; refine (inputs_any w.heap.size _ l _ (hl.below hB (Nat.le_refl _)) hB.size).mono ?_; rintro e w' ⟨rfl, hb⟩; have hB := hB.trans (hb.mono hB.size); clear hb)
              have hB1 := hB
              clear hB
              go_loopw [9] (fun i wr => ∃ j : Nat, (j : Int) ≤ cntI (inS false) l ∧ i = .int .i64 j ∧ Below w.heap.size w wr) (fun i _ => (cntI (inS false) l).toNat - (intOf i).toNat)
              case atStart => exact ⟨0, by omega, rfl, hB1⟩
              case round =>
                obtain ⟨j, hj, rfl, hB⟩ := hrel
                by_cases hlj : (j : Int) < cntI (inS false) l
                · obtain ⟨e1, e2, e3, e4⟩ := join_facts hw hik ((belowB_iff (j : Int) _).2 ⟨by omega, hlj⟩)
                  go_wp2_with first | (go_at_call 23; refine (outputs_any w.heap.size _ l _ (hl.below hB (Nat.le_refl _)) hB.size).mono ?_; rintro e w' ⟨rfl, hb⟩; have hB := hB.trans (hb.mono hB.size); clear hb) | (go_at_call 31; refine (join_any w.heap.size _ l _ _ _ (hl.below hB (Nat.le_refl _)) hB.size).mono ?_; rintro e w' ⟨rfl, hb⟩; have hB := hB.trans (hb.mono hB.size); clear hb) | (go_at_call 27; refine (in_any w.heap.size _ l _ _ (hl.below hB (Nat.le_refl _)) hB.size).mono ?_; rintro e w' ⟨rfl, hb⟩; have hB := hB.trans (hb.mono hB.size); clear hb) | (go_at_call 29; refine (out_any w.heap.size _ l _ _ (hl.below hB (Nat.le_refl _)) hB.size).mono ?_; rintro e w' ⟨rfl, hb⟩; have hB := hB.trans (hb.mono hB.size); clear hb)
                  go_roundw
                  case rel => exact ⟨j + 1, by omega, by go_num, hB⟩
                  case measure => simp [intOf]; omega
                · go_wp2_with first | (go_at_call 23; refine (outputs_any w.heap.size _ l _ (hl.below hB (Nat.le_refl _)) hB.size).mono ?_; rintro e w' ⟨rfl, hb⟩; have hB := hB.trans (hb.mono hB.size); clear hb)
                  go_roundw
                  case rel => exact ⟨k + 1, by omega, by go_num, hB⟩
                  case measure => simp [intOf]; omega
            · go_wp2_with first | (go_at_call 21; refine (inputs_any w.heap.size _ l _ (hl.below hB (Nat.le_refl _)) hB.size).mono ?_; rintro e w' ⟨rfl, hb⟩; have hB := hB.trans (hb.mono hB.size); clear hb)
              go_ret
              exact ⟨rfl, hB⟩

end Go.Proofs.Ytbifbaennjglmaa
