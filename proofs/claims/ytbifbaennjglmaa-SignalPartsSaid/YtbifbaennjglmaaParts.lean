/-
  The walk of the law SignalParts: it returns true, whatever the signals and the number are.
-/
import Derived.Test.YtbifbaennjglmaaPartsP
import Derived.Test.YtbifbaennjglmaaHalves
namespace Go.Proofs.Ytbifbaennjglmaa
open Go.RowKit

set_option maxRecDepth 100000 in
set_option maxHeartbeats 2000000 in
theorem parts_any (v : Value) (l : List Sig) (ra : Int) (w : World) (hl : Sigs w.heap.size w v l) (ha0 : 0 ≤ ra) (ha1 : ra ≤ 255) :
    Calls Try.prog 8 #[v, .int .u8 ra] w fun e w' => e = .returned (.bool true) ∧ Below w.heap.size w w' := by
  have hB : Below w.heap.size w w := Below.refl _ _
  cases hsm : smallB l
  · go_enter Try.func8, Try.ntmps8
    go_wp2_with first | (go_at_call 9; refine (head_any _).mono ?_; rintro e w1 ⟨rfl, hb⟩; have hB := hB.trans (hb.mono hB.size); clear hb) | (go_at_call 10; refine (small_any w.heap.size _ l _ (hl.below hB (Nat.le_refl _))).mono ?_; rintro e w' ⟨rfl, rfl⟩)
    go_ret
    exact ⟨rfl, hB⟩
  · cases hv : validB l
    · go_enter Try.func8, Try.ntmps8
      go_wp2_with first | (go_at_call 9; refine (head_any _).mono ?_; rintro e w1 ⟨rfl, hb⟩; have hB := hB.trans (hb.mono hB.size); clear hb) | (go_at_call 10; refine (small_any w.heap.size _ l _ (hl.below hB (Nat.le_refl _))).mono ?_; rintro e w' ⟨rfl, rfl⟩) | (go_at_call 13; refine (valid_any w.heap.size _ l _ (hl.below hB (Nat.le_refl _)) hB.size).mono ?_; rintro e w' ⟨rfl, hb⟩; have hB := hB.trans (hb.mono hB.size); clear hb)
      go_ret
      exact ⟨rfl, hB⟩
    · have hw := (valid_iff l).1 hv
      have hl6 := hw.len6
      have hl1 := hw.len1
      obtain ⟨hzb, qb, qb0, qb1⟩ := rem_facts ha0 (show (1 : Int) ≤ l.length by omega)
      obtain ⟨j, hj⟩ := Int.eq_ofNat_of_zero_le qb0
      have hjl : j < l.length := by omega
      rw [hj] at qb
      clear qb0 qb1
      have hlz : ((l.length : Int) == 0) = false := by rw [beq_eq_false_iff_ne]; omega
      rcases id hl with ⟨ov', cv', rfl, rfl⟩ | ⟨b, off, cap, rfl, hb, hcap, hm, hc⟩
      · simp at hl1
      obtain ⟨i0, hi0, hz0, hz1, hz2⟩ := info_parts sig_info
      have n1 : Hid (∀ W, Below w.heap.size w W → ∀ x u, (sigCells (l.take j))[x]? = some u → W.cell? ((⟨b, off, none⟩ : Addr).add x) = some u) := by
        intro W hW
        refine sig_news fun k hk => ?_
        have hk' : k < l.length := by rw [List.length_take] at hk; omega
        rw [List.getElem_take]
        exact (hc k hk').below hW hb
      obtain ⟨A, hA, n2⟩ : ∃ A : Addr, (if cap = j + 1 then some (⟨b, off, none⟩ : Addr) else some ⟨b, off + (j + 1) * 3, none⟩) = some A ∧
          Hid (∀ W, Below w.heap.size w W → ∀ x u, (sigCells (l.drop (j + 1)))[x]? = some u → W.cell? (A.add x) = some u) := by
        by_cases h : cap = j + 1
        · refine ⟨⟨b, off, none⟩, by simp [h], fun W _ x u hu => ?_⟩
          rw [List.drop_eq_nil_of_le (by omega)] at hu
          simp [sigCells] at hu
        · refine ⟨⟨b, off + (j + 1) * 3, none⟩, by simp [h], fun W hW => ?_⟩
          refine sig_news fun k hk => ?_
          have hk' : j + 1 + k < l.length := by rw [List.length_drop] at hk; omega
          rw [List.getElem_drop, show off + (j + 1) * 3 + k * 3 = off + (j + 1 + k) * 3 by omega]
          exact (hc _ hk').below hW hb
      have s1 : Hid ((sigCells (l.take j)).length = j * 3) := by unfold Hid; rw [sigCells_length, List.length_take, Nat.min_eq_left (by omega)]
      have s2 : Hid ((sigCells (l.drop (j + 1))).length = (l.length - (j + 1)) * 3) := by unfold Hid; rw [sigCells_length, List.length_drop]
      have hjc : j ≤ cap := by omega
      have hwr : IntKind.i64.wrap ((j : Int) + 1) = (j : Int) + 1 := by rw [iw64]; exact wrap64_small (by omega) (by omega)
      have hp0 : (0 : Int) ≤ (j : Int) + 1 := by omega
      have hp1 : (j : Int) + 1 ≤ (l.length : Int) := by omega
      have hp2 : ((j : Int) + 1).toNat = j + 1 := by omega
      go_enter Try.func8, Try.ntmps8
      go_wp2_with first | (go_at_call 9; refine (head_any _).mono ?_; rintro e w1 ⟨rfl, hb⟩; have hB := hB.trans (hb.mono hB.size); clear hb) | (go_at_call 10; refine (small_any w.heap.size _ l _ (hl.below hB (Nat.le_refl _))).mono ?_; rintro e w' ⟨rfl, rfl⟩) | (go_at_call 13; refine (valid_any w.heap.size _ l _ (hl.below hB (Nat.le_refl _)) hB.size).mono ?_; rintro e w' ⟨rfl, hb⟩; have hB := hB.trans (hb.mono hB.size); clear hb)
      have hB0 := hB
      clear hB
      go_loopw [6] (fun i wr => ∃ k : Nat, k ≤ l.length ∧ i = .int .i64 k ∧ Below w.heap.size w wr) (fun i _ => l.length - (intOf i).toNat)
      case atStart => exact ⟨0, Nat.zero_le _, rfl, hB0⟩
      case round =>
        obtain ⟨k, hk, rfl, hB⟩ := hrel
        by_cases hlt : k < l.length
        · have hF := hw.find k hlt
          obtain ⟨c0, c1, c2, -⟩ := (hc k hlt).below hB hb
          go_wp2_with first | (go_at_call 17; refine (find_any w.heap.size _ l _ _ (hl.below hB (Nat.le_refl _)) hB.size).mono ?_; rintro e w' ⟨rfl, hb⟩; have hB := hB.trans (hb.mono hB.size); clear hb)
          go_roundw
          case rel => exact ⟨k + 1, by omega, by go_num, hB⟩
          case measure => simp [intOf]; omega
        · clear hB0
          go_wp2_with first | (go_at_call 17; refine (find_any w.heap.size _ l _ _ (hl.below hB (Nat.le_refl _)) hB.size).mono ?_; rintro e w' ⟨rfl, hb⟩; have hB := hB.trans (hb.mono hB.size); clear hb)
          go_region_law (first
            | (refine step_append_own rfl (.tmp 44) (.tmp 47) 22 rfl w.heap.size 36 i0 _ 3 32 Try.underlying22 hi0 hz0 hz1 hz2 rfl (by decide) (.slice (some ⟨wr.heap.size, 0, none⟩) 0 0) 0 [] (by simp [Act.eval]) (World.ownsRow_made _ #[] 0 hB.size (by decide) rfl) ⟨b, off, none⟩ j cap (sigCells (l.take j)) (by simp [Act.eval]) s1.out (n1.out _ (hB.drew.alloc hB.size _)) sigCells_one (by unfold maxLen; omega) (by omega) (Nat.le_trans hB.size (by simp)) ?_
               intro v1 w1 hown1 hgrow1
               have hB1 := (hB.drew.alloc hB.size _).grown hgrow1 (Nat.le_trans hB.size (by simp)) (by rintro k ⟨⟩; exact hB.size))
            | (refine step_append_own rfl (.tmp 48) (.tmp 52) 22 rfl w.heap.size 36 i0 _ 3 32 Try.underlying22 hi0 hz0 hz1 hz2 rfl (by decide) v1 (0 + j) ([] ++ sigCells (l.take j)) (by simp [Act.eval]) hown1 A (l.length - (j + 1)) (cap - (j + 1)) (sigCells (l.drop (j + 1))) (by simp [Act.eval]) s2.out (n2.out _ hB1) sigCells_one (by unfold maxLen; omega) (by omega) hB1.size ?_
               intro v2 w2 hown2 hgrow2
               have hB2 := hB1.grown hgrow2 hB1.size (fun k hk => (hown1.lt k hk).1)))
          have hn2 : 0 + j + (l.length - (j + 1)) = (dropAt l j).length := by rw [dropAt_length hjl]; omega
          rw [List.nil_append, ← sigCells_app] at hown2
          have hR : Sigs w2.heap.size w2 v2 (dropAt l j) := sigs_of_owns hown2 hn2 (fun s hs => by
            obtain ⟨k, hk, rfl⟩ := List.getElem_of_mem ((dropAt_sub l j).subset hs)
            exact (hc k hk).2.2.2)
          have hL : Sigs w2.heap.size w2 (.slice (some ⟨b, off, none⟩) l.length cap) l := (hl.below hB2 (Nat.le_refl _)).mono hB2.size
          have hbw : b < w2.heap.size := Nat.lt_of_lt_of_le hb hB2.size
          obtain ⟨g1, -, g2, -⟩ := (hc j hjl).below hB2 hb
          obtain ⟨ro, rc, rfl⟩ := sigs_shape hR
          clear hown1 hgrow1 hown2 hgrow2 hB1 hn2 s1 s2 n1 n2 hwr hp0 hp1 hp2 hA hc hlt hB
          have hB : Below w2.heap.size w2 w2 := Below.refl _ _
          have g3 : (0 : Int) ≤ (j : Int) := by omega
          have g4 : (j : Int) < (l.length : Int) := by omega
          by_cases h2 : 2 ≤ l.length
          · obtain ⟨f1, f2, f3, f4⟩ := parts_facts hw hjl h2
            have hr0 : (((dropAt l j).length : Int) == 0) = false := by rw [beq_eq_false_iff_ne, dropAt_length hjl]; omega
            go_wp2_with fail
            go_region_held3 (fun W => W.cell? ⟨b, off + j * 3 + 2, none⟩ = some (.int .i64 l[j].size) ∧ W.cell? ⟨b, off + j * 3, none⟩ = some (.string l[j].name) ∧ Below w2.heap.size w2 W) (first | exact ⟨g2, g1, (Below.refl _ _).drew⟩ | exact ⟨(hb.cell (p := ⟨b, off + j * 3 + 2, none⟩) (Nat.lt_of_lt_of_le hbw q3.size)).trans q1, (hb.cell (p := ⟨b, off + j * 3, none⟩) (Nat.lt_of_lt_of_le hbw q3.size)).trans q2, q3.trans (hb.mono q3.size)⟩) (first | (obtain ⟨q1, q2, q3⟩ : _ ∧ _ ∧ Below w2.heap.size w2 _ := (by assumption); go_at_call 13; refine (valid_any w2.heap.size _ (dropAt l j) _ (hR.below q3 (Nat.le_refl _)) q3.size).mono ?_; rintro e w' ⟨rfl, hb⟩) | (obtain ⟨q1, q2, q3⟩ : _ ∧ _ ∧ Below w2.heap.size w2 _ := (by assumption); go_at_call 19; refine (letters_any w2.heap.size _ (dropAt l j) _ (hR.below q3 (Nat.le_refl _)) q3.size).mono ?_; rintro e w' ⟨rfl, hb⟩) | (obtain ⟨q1, q2, q3⟩ : _ ∧ _ ∧ Below w2.heap.size w2 _ := (by assumption); go_at_call 19; refine (letters_any w2.heap.size _ l _ (hL.below q3 (Nat.le_refl _)) q3.size).mono ?_; rintro e w' ⟨rfl, hb⟩) | (obtain ⟨q1, q2, q3⟩ : _ ∧ _ ∧ Below w2.heap.size w2 _ := (by assumption); go_at_call 17; refine (find_any w2.heap.size _ (dropAt l j) _ _ (hR.below q3 (Nat.le_refl _)) q3.size).mono ?_; rintro e w' ⟨rfl, hb⟩))
            all_goals go_wp2
            all_goals go_ret
            all_goals
              obtain ⟨-, -, q3⟩ : _ ∧ _ ∧ Below w2.heap.size w2 _ := (by assumption)
              exact ⟨rfl, hB2.trans (q3.mono hB2.size)⟩
          · have hd : dropAt l j = [] := List.eq_nil_of_length_eq_zero (by rw [dropAt_length hjl]; omega)
            rw [hd] at hR ⊢
            have hvr : validB [] = false := rfl
            go_wp2_with first | (go_at_call 13; refine (valid_any w2.heap.size _ [] _ (hR.below hB (Nat.le_refl _)) hB.size).mono ?_; rintro e w' ⟨rfl, hb⟩; have hB := hB.trans (hb.mono hB.size); clear hb)
            go_ret
            exact ⟨by simp, hB2.trans (hB.mono hB2.size)⟩

end Go.Proofs.Ytbifbaennjglmaa
