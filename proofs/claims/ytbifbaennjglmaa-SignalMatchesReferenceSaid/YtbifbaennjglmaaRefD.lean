/-
  The contract of the reference's Join.
-/
import Derived.Test.YtbifbaennjglmaaRefC
namespace Go.Proofs.Ytbifbaennjglmaa
open Go.RowKit

theorem join_drop {l : List Sig} {k : Nat} {n x i o : Int} (h1 : k < l.length) :
    accW allS n x (l.drop k) (joinD (l.drop k) i o) = if l[k].input then accW allS (wrap64 (n + wrap64 (x * (i % l[k].size)))) (wrap64 (x * l[k].size)) (l.drop (k + 1)) (joinD (l.drop (k + 1)) (i / l[k].size) o)
      else accW allS (wrap64 (n + wrap64 (x * (o % l[k].size)))) (wrap64 (x * l[k].size)) (l.drop (k + 1)) (joinD (l.drop (k + 1)) i (o / l[k].size)) := by
  rw [List.drop_eq_getElem_cons h1]
  rw [show joinD (l[k] :: l.drop (k+1)) i o = if l[k].input then (i % l[k].size) :: joinD (l.drop (k+1)) (i / l[k].size) o else (o % l[k].size) :: joinD (l.drop (k+1)) i (o / l[k].size) from rfl]
  split <;> rfl

theorem div_facts {i z : Int} (h0 : 0 ≤ i) (h1 : i ≤ 1000000) (hz : 2 ≤ z) : i.tmod z = i % z ∧ i.tdiv z = i / z ∧ 0 ≤ i / z ∧ i / z ≤ 1000000 :=
  ⟨Int.tmod_eq_emod_of_nonneg h0, Int.tdiv_eq_ediv_of_nonneg h0, Int.ediv_nonneg h0 (by omega), Int.le_trans (Int.ediv_le_self _ h0) h1⟩

set_option maxRecDepth 100000 in
set_option maxHeartbeats 2000000 in
theorem refjoin_any (B : Nat) (v : Value) (l : List Sig) (i o : Int) (w : World) (hl : Sigs B w v l) (hBw : B ≤ w.heap.size) :
    Calls Try.prog 32 #[v, .int .i64 i, .int .i64 o] w fun e w' => e = .returned (.int .i64 (joinI l i o)) ∧ Below w.heap.size w w' := by
  have hl' := hl.mono hBw
  have hB : Below w.heap.size w w := Below.refl _ _
  obtain ⟨ol, cl, rfl⟩ := hl.shape
  cases hi : belowB i (cntI (inS true) l)
  · have hz : Hid (joinI l i o = 0) := by unfold Hid joinI joinOk; rw [hi]; rfl
    by_cases h0 : 0 ≤ i
    · have h1 : ¬ i < cntI (inS true) l := fun h => by rw [(belowB_iff _ _).2 ⟨h0, h⟩] at hi; cases hi
      clear hi
      go_enter Try.func32, Try.ntmps32
      go_wp2_with (go_at_call 22; refine (refinputs_any w.heap.size _ l _ (hl'.below hB (Nat.le_refl _)) hB.size).mono ?_; rintro e w' ⟨rfl, hb⟩; have hB := hB.trans (hb.mono hB.size); clear hb)
      go_ret
      exact ⟨ret_int hz.out.symm, hB⟩
    · clear hi
      go_enter Try.func32, Try.ntmps32
      go_wp2
      go_ret
      exact ⟨ret_int hz.out.symm, hB⟩
  · obtain ⟨i0, i1⟩ := (belowB_iff _ _).1 hi
    cases ho : belowB o (cntI (inS false) l)
    · have hz : Hid (joinI l i o = 0) := by unfold Hid joinI joinOk; rw [hi, ho]; rfl
      by_cases h0 : 0 ≤ o
      · have h1 : ¬ o < cntI (inS false) l := fun h => by rw [(belowB_iff _ _).2 ⟨h0, h⟩] at ho; cases ho
        clear hi ho
        go_enter Try.func32, Try.ntmps32
        go_wp2_with first | (go_at_call 22; refine (refinputs_any w.heap.size _ l _ (hl'.below hB (Nat.le_refl _)) hB.size).mono ?_; rintro e w' ⟨rfl, hb⟩; have hB := hB.trans (hb.mono hB.size); clear hb) | (go_at_call 24; refine (refoutputs_any w.heap.size _ l _ (hl'.below hB (Nat.le_refl _)) hB.size).mono ?_; rintro e w' ⟨rfl, hb⟩; have hB := hB.trans (hb.mono hB.size); clear hb)
        go_ret
        exact ⟨ret_int hz.out.symm, hB⟩
      · clear hi ho
        go_enter Try.func32, Try.ntmps32
        go_wp2_with (go_at_call 22; refine (refinputs_any w.heap.size _ l _ (hl'.below hB (Nat.le_refl _)) hB.size).mono ?_; rintro e w' ⟨rfl, hb⟩; have hB := hB.trans (hb.mono hB.size); clear hb)
        go_ret
        exact ⟨ret_int hz.out.symm, hB⟩
    · obtain ⟨o0, o1⟩ := (belowB_iff _ _).1 ho
      have hw := cntI_pos hi
      have h6 := hw.len6
      have hl1 := hw.len1
      have hi9 := cnt_le (p := inS true) hw
      have ho9 := cnt_le (p := inS false) hw
      have hz : Hid (joinI l i o = accW allS 0 1 l (joinV l i o)) := by
        unfold Hid joinI joinOk; rw [hi, ho, acc_comp hw (show Few (joinV l i o) from dec_few hw.sized (dec_few hw.sized (few_zeros _)))]; rfl
      obtain ⟨b, off, rfl, hb, hcap, -, hc⟩ := hl'.at (by omega)
      clear hi ho
      go_enter Try.func32, Try.ntmps32
      go_wp2_with first | (go_at_call 22; refine (refinputs_any w.heap.size _ l _ (hl'.below hB (Nat.le_refl _)) hB.size).mono ?_; rintro e w' ⟨rfl, hb⟩; have hB := hB.trans (hb.mono hB.size); clear hb) | (go_at_call 24; refine (refoutputs_any w.heap.size _ l _ (hl'.below hB (Nat.le_refl _)) hB.size).mono ?_; rintro e w' ⟨rfl, hb⟩; have hB := hB.trans (hb.mono hB.size); clear hb)
      go_loop [1, 2, 7, 8, 9] (fun ii oo p q j => ∃ (k : Nat) (i' o' n x : Int), k ≤ l.length ∧ j = .int .i64 k ∧ ii = .int .i64 i' ∧ oo = .int .i64 o' ∧ p = .int .i64 n ∧ q = .int .i64 x ∧ 0 ≤ i' ∧ i' ≤ 1000000 ∧ 0 ≤ o' ∧ o' ≤ 1000000 ∧
          Hid (accW allS 0 1 l (joinV l i o) = accW allS n x (l.drop k) (joinD (l.drop k) i' o'))) (fun _ _ _ _ j => l.length - (intOf j).toNat)
      case atStart => exact ⟨0, i, o, 0, 1, Nat.zero_le _, rfl, rfl, rfl, rfl, rfl, i0, by omega, o0, by omega, by unfold Hid; rw [List.drop_zero, joinD_eq]⟩
      case round =>
        obtain ⟨k, i', o', n, x, hk, rfl, rfl, rfl, rfl, rfl, a0, a1, b0, b1, hG⟩ := hrel
        by_cases hlt : k < l.length
        · obtain ⟨c0, c1, c2, -⟩ := (hc k hlt).below hB hb
          obtain ⟨s0, s1⟩ := hw.sized _ (List.getElem_mem hlt)
          have e0 : ¬ l[k].size = 0 := by omega
          have hT := hidi (join_drop (n := n) (x := x) (i := i') (o := o') hlt)
          cases hin : l[k].input
          · obtain ⟨e1, e2, e3, e4⟩ := div_facts b0 b1 s0
            rw [hin] at c1
            go_wp2
            go_round
            case rel => exact ⟨k + 1, i', _, _, _, by omega, by go_num, rfl, rfl, rfl, rfl, a0, a1, e3, e4, hG.out.trans (hT.out.trans (if_neg (by rw [hin]; simp)))⟩
            case measure => simp [intOf]; omega
          · obtain ⟨e1, e2, e3, e4⟩ := div_facts a0 a1 s0
            rw [hin] at c1
            go_wp2
            go_round
            case rel => exact ⟨k + 1, _, o', _, _, by omega, by go_num, rfl, rfl, rfl, rfl, e3, e4, b0, b1, hG.out.trans (hT.out.trans (if_pos hin))⟩
            case measure => simp [intOf]; omega
        · have hle : Hid (l.length ≤ k) := by unfold Hid; omega
          go_wp2
          go_ret
          exact ⟨ret_int (by rw [hz.out, hG.out, acc_end hle.out]), hB⟩

end Go.Proofs.Ytbifbaennjglmaa
