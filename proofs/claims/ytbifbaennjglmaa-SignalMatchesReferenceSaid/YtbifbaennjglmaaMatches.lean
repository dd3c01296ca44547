/-
  The walk of the law SignalMatchesReference: it returns true, whatever the signals, the name and the numbers are.
-/
import Derived.Test.YtbifbaennjglmaaRefD
import Derived.Test.YtbifbaennjglmaaHalves
namespace Go.Proofs.Ytbifbaennjglmaa
open Go.RowKit

set_option maxRecDepth 100000 in
set_option maxHeartbeats 2000000 in
theorem matches_any (v u : Value) (l : List Sig) (vs : List Int) (s : ByteArray) (letter i ai ao : Int) (w : World) (hl : Sigs w.heap.size w v l) (hu : IntsAt w.heap.size w u vs) (hs : s.size ≤ 9223372036854775807) :
    Calls Try.prog 3 #[v, .string s, .int .i64 letter, .int .i64 i, u, .int .i64 ai, .int .i64 ao] w fun e w' => e = .returned (.bool true) ∧ Below w.heap.size w w' := by
  have hB : Below w.heap.size w w := Below.refl _ _
  have hlen := hu.len
  obtain ⟨ou, cu, rfl⟩ := hu.shape
  cases hsm : smallB l
  · go_enter Try.func3, Try.ntmps3
    go_wp2_with first | (go_at_call 9; refine (head_any _).mono ?_; rintro e w1 ⟨rfl, hb⟩; have hB := hB.trans (hb.mono hB.size); clear hb) | (go_at_call 10; refine (small_any w.heap.size _ l _ (hl.below hB (Nat.le_refl _))).mono ?_; rintro e w' ⟨rfl, rfl⟩)
    go_ret
    exact ⟨rfl, hB⟩
  · by_cases h20 : vs.length ≤ 20
    · by_cases h100 : s.size ≤ 100
      · go_enter Try.func3, Try.ntmps3
        go_wp2_with first | (go_at_call 9; refine (head_any _).mono ?_; rintro e w1 ⟨rfl, hb⟩; have hB := hB.trans (hb.mono hB.size); clear hb) | (go_at_call 10; refine (small_any w.heap.size _ l _ (hl.below hB (Nat.le_refl _))).mono ?_; rintro e w' ⟨rfl, rfl⟩) | (go_at_call 13; refine (valid_any w.heap.size _ l _ (hl.below hB (Nat.le_refl _)) hB.size).mono ?_; rintro e w' ⟨rfl, hb⟩; have hB := hB.trans (hb.mono hB.size); clear hb) | (go_at_call 19; refine (letters_any w.heap.size _ l _ (hl.below hB (Nat.le_refl _)) hB.size).mono ?_; rintro e w' ⟨rfl, hb⟩; have hB := hB.trans (hb.mono hB.size); clear hb) | (go_at_call 21; refine (inputs_any w.heap.size _ l _ (hl.below hB (Nat.le_refl _)) hB.size).mono ?_; rintro e w' ⟨rfl, hb⟩; have hB := hB.trans (hb.mono hB.size); clear hb) | (go_at_call 23; refine (outputs_any w.heap.size _ l _ (hl.below hB (Nat.le_refl _)) hB.size).mono ?_; rintro e w' ⟨rfl, hb⟩; have hB := hB.trans (hb.mono hB.size); clear hb) | (go_at_call 27; refine (in_any w.heap.size _ l _ _ (hl.below hB (Nat.le_refl _)) hB.size).mono ?_; rintro e w' ⟨rfl, hb⟩; have hB := hB.trans (hb.mono hB.size); clear hb) | (go_at_call 29; refine (out_any w.heap.size _ l _ _ (hl.below hB (Nat.le_refl _)) hB.size).mono ?_; rintro e w' ⟨rfl, hb⟩; have hB := hB.trans (hb.mono hB.size); clear hb) | (go_at_call 31; refine (join_any w.heap.size _ l _ _ _ (hl.below hB (Nat.le_refl _)) hB.size).mono ?_; rintro e w' ⟨rfl, hb⟩; have hB := hB.trans (hb.mono hB.size); clear hb) | (go_at_call 25; refine (value_any w.heap.size _ l _ _ _ (hl.below hB (Nat.le_refl _)) hB.size).mono ?_; rintro e w' ⟨rfl, hb⟩; have hB := hB.trans (hb.mono hB.size); clear hb) | (go_at_call 17; refine (find_any w.heap.size _ l _ _ (hl.below hB (Nat.le_refl _)) hB.size).mono ?_; rintro e w' ⟨rfl, hb⟩; have hB := hB.trans (hb.mono hB.size); clear hb) | (go_at_call 11; refine (make_any w.heap.size _ _ l vs _ (hl.below hB (Nat.le_refl _)) (hu.below hB (Nat.le_refl _)) hB.size).mono ?_; rintro e w' ⟨rfl, hb⟩; have hB := hB.trans (hb.mono hB.size); clear hb) | (go_at_call 12; refine (refmake_any w.heap.size _ _ l vs _ (hl.below hB (Nat.le_refl _)) (hu.below hB (Nat.le_refl _)) hB.size).mono ?_; rintro e w' ⟨rfl, hb⟩; have hB := hB.trans (hb.mono hB.size); clear hb) | (go_at_call 15; refine (name_any _ hs _).mono ?_; rintro e w' ⟨rfl, rfl⟩) | (go_at_call 16; refine (refname_any _ hs _).mono ?_; rintro e w' ⟨rfl, hb⟩; have hB := hB.trans (hb.mono hB.size); clear hb) | (go_at_call 18; refine (reffind_any w.heap.size _ l _ _ (hl.below hB (Nat.le_refl _))).mono ?_; rintro e w' ⟨rfl, rfl⟩) | (go_at_call 14; refine (refvalid_any w.heap.size _ l _ (hl.below hB (Nat.le_refl _)) hB.size).mono ?_; rintro e w' ⟨rfl, hb⟩; have hB := hB.trans (hb.mono hB.size); clear hb) | (go_at_call 20; refine (refletters_any w.heap.size _ l _ (hl.below hB (Nat.le_refl _)) hB.size).mono ?_; rintro e w' ⟨rfl, hb⟩; have hB := hB.trans (hb.mono hB.size); clear hb) | (go_at_call 22; refine (refinputs_any w.heap.size _ l _ (hl.below hB (Nat.le_refl _)) hB.size).mono ?_; rintro e w' ⟨rfl, hb⟩; have hB := hB.trans (hb.mono hB.size); clear hb) | (go_at_call 24; refine (refoutputs_any w.heap.size _ l _ (hl.below hB (Nat.le_refl _)) hB.size).mono ?_; rintro e w' ⟨rfl, hb⟩; have hB := hB.trans (hb.mono hB.size); clear hb) | (go_at_call 28; refine (refinput_any w.heap.size _ l _ _ (hl.below hB (Nat.le_refl _)) hB.size).mono ?_; rintro e w' ⟨rfl, hb⟩; have hB := hB.trans (hb.mono hB.size); clear hb) | (go_at_call 30; refine (refoutput_any w.heap.size _ l _ _ (hl.below hB (Nat.le_refl _)) hB.size).mono ?_; rintro e w' ⟨rfl, hb⟩; have hB := hB.trans (hb.mono hB.size); clear hb) | (go_at_call 32; refine (refjoin_any w.heap.size _ l _ _ _ (hl.below hB (Nat.le_refl _)) hB.size).mono ?_; rintro e w' ⟨rfl, hb⟩; have hB := hB.trans (hb.mono hB.size); clear hb) | (go_at_call 26; refine (refvalue_any w.heap.size _ l _ _ _ (hl.below hB (Nat.le_refl _)) hB.size).mono ?_; rintro e w' ⟨rfl, hb⟩; have hB := hB.trans (hb.mono hB.size); clear hb)
        go_ret
        exact ⟨by simp, hB⟩
      · go_enter Try.func3, Try.ntmps3
        go_wp2_with first | (go_at_call 9; refine (head_any _).mono ?_; rintro e w1 ⟨rfl, hb⟩; have hB := hB.trans (hb.mono hB.size); clear hb) | (go_at_call 10; refine (small_any w.heap.size _ l _ (hl.below hB (Nat.le_refl _))).mono ?_; rintro e w' ⟨rfl, rfl⟩)
        go_ret
        exact ⟨rfl, hB⟩
    · go_enter Try.func3, Try.ntmps3
      go_wp2_with first | (go_at_call 9; refine (head_any _).mono ?_; rintro e w1 ⟨rfl, hb⟩; have hB := hB.trans (hb.mono hB.size); clear hb) | (go_at_call 10; refine (small_any w.heap.size _ l _ (hl.below hB (Nat.le_refl _))).mono ?_; rintro e w' ⟨rfl, rfl⟩)
      go_ret
      exact ⟨rfl, hB⟩

end Go.Proofs.Ytbifbaennjglmaa
