/-
  The contracts of the lexer reference's Blank, Gap and Gaps.
-/
import Derived.Test.YtplahgcbeanfnaaLxC
namespace Go.Proofs.Ytplahgcbeanfnaa
open Go.RowKit

set_option maxHeartbeats 400000 in
theorem blank_any (c : UInt8) (w : World) :
    Calls Try.prog 20 #[.int .u8 c.toNat] w fun e w' => e = .returned (.bool (blankB c)) ∧ w = w' := by
  go_enter Try.func20, Try.ntmps20
  go_wp2
  all_goals go_ret
  all_goals exact ⟨ret_bool (by unfold blankB; rw [Bool.eq_iff_iff]; simp at *; omega), rfl⟩

theorem gapS_hash_true {c : UInt8} {r : Bs} (h : c.toNat = 37) : gapS false (c :: r) = gapS true (c :: r) := by
  have h1 : blankB c = false := by simp [blankB, h]
  simp [gapS, h1, h]
theorem gapS_line10 {c : UInt8} {r : Bs} (h : c.toNat = 10) : gapS true (c :: r) = gapS false (c :: r) := by
  have h1 : blankB c = true := by simp [blankB, h]
  simp [gapS, h1, h]
theorem gapS_more {c : UInt8} {r : Bs} (h : c.toNat ≠ 10) : gapS true (c :: r) = gapS true r + 1 := by simp [gapS, h]

set_option maxHeartbeats 1600000 in
theorem refgap_any (s : ByteArray) (hs : s.size ≤ 9223372036854775807) (w : World) :
    Calls Try.prog 17 #[.string s] w fun e w' => e = .returned (.int .i64 (gapL s.data.toList)) ∧ w = w' := by
  go_enter Try.func17, Try.ntmps17
  go_wp2
  go_loop [3] (fun i => ∃ k : Nat, k ≤ s.size ∧ i = .int .i64 k ∧ Hid (gapL s.data.toList = k + gapS false (s.data.toList.drop k))) (fun i => s.size - (intOf i).toNat)
  case atStart => exact ⟨0, Nat.zero_le _, rfl, by unfold Hid; simp [gapL]⟩
  case round =>
    obtain ⟨k, hk, rfl, hF⟩ := hrel
    by_cases hlt : k < s.size
    · have hD := hidi (drop_cons_ba s k hlt)
      by_cases h37 : s[k].toNat = 37
      · have m1 : ((s[k].toNat : Int) == 37) = true := by simp; omega
        have hT : Hid (gapL s.data.toList = k + gapS true (s.data.toList.drop k)) := by unfold Hid; rw [hF.out, hD.out, gapS_hash_true h37]
        have h37' := hidi h37
        clear h37
        go_wp2
        go_loop [3] (fun i => ∃ q : Nat, k ≤ q ∧ q ≤ s.size ∧ i = .int .i64 q ∧ Hid (gapL s.data.toList = q + gapS true (s.data.toList.drop q))) (fun i => s.size - (intOf i).toNat)
        case atStart => exact ⟨k, Nat.le_refl _, hk, rfl, hT⟩
        case round =>
          obtain ⟨q, hkq, hq, rfl, hG⟩ := hrel
          by_cases hlq : q < s.size
          · have hE := hidi (drop_cons_ba s q hlq)
            by_cases h10 : s[q].toNat = 10
            · have m2 : ((s[q].toNat : Int) != 10) = false := by simp; omega
              have hS : Hid (gapL s.data.toList = q + gapS false (s.data.toList.drop q)) := by unfold Hid; rw [hG.out, hE.out, gapS_line10 h10]
              have hne : k < q := by
                rcases Nat.lt_or_ge k q with h | h
                · exact h
                · obtain rfl : k = q := by omega
                  have := h37'.out; omega
              clear h10 m1
              go_wp2
              go_round
              case rel => exact ⟨q, hq, rfl, hS⟩
              case measure => simp [intOf]; omega
            · have m2 : ((s[q].toNat : Int) != 10) = true := by simp; omega
              have hS : Hid (gapL s.data.toList = (q + 1 : Nat) + gapS true (s.data.toList.drop (q + 1))) := by unfold Hid; rw [hG.out, hE.out, gapS_more h10]; omega
              clear h10 m1
              go_wp2
              go_round
              case rel => exact ⟨q + 1, by omega, by omega, by go_num, hS⟩
              case measure => simp [intOf]; omega
          · have hS : Hid (gapL s.data.toList = q + gapS false (s.data.toList.drop q)) := by unfold Hid; rw [hG.out, List.drop_of_length_le (by simp; omega)]; rfl
            have hne : k < q := by omega
            clear m1
            go_wp2
            go_round
            case rel => exact ⟨q, hq, rfl, hS⟩
            case measure => simp [intOf]; omega
      · have m1 : ((s[k].toNat : Int) == 37) = false := by simp; omega
        cases hb : blankB s[k]
        · have hS : Hid (gapL s.data.toList = k) := by unfold Hid; rw [hF.out, hD.out, gapS_none hb h37]; rfl
          clear h37
          go_wp2_with (go_at_call 20; refine (blank_any _ _).mono ?_; rintro e w' ⟨rfl, rfl⟩; rw [hb])
          go_ret
          exact ⟨ret_int (by rw [hS.out]), rfl⟩
        · have hS : Hid (gapL s.data.toList = (k + 1 : Nat) + gapS false (s.data.toList.drop (k + 1))) := by unfold Hid; rw [hF.out, hD.out, gapS_blank hb]; omega
          clear h37
          go_wp2_with (go_at_call 20; refine (blank_any _ _).mono ?_; rintro e w' ⟨rfl, rfl⟩; rw [hb])
          go_round
          case rel => exact ⟨k + 1, by omega, by go_num, hS⟩
          case measure => simp [intOf]; omega
    · have hS : Hid (gapL s.data.toList = k) := by unfold Hid; rw [hF.out, List.drop_of_length_le (by simp; omega)]; rfl
      go_wp2
      go_ret
      exact ⟨ret_int (by rw [hS.out]), rfl⟩

set_option maxHeartbeats 400000 in
theorem gaps_any (s : ByteArray) (hs : s.size ≤ 9223372036854775807) (w : World) :
    Calls Try.prog 10 #[.string s] w fun e w' => e = .returned (.bool (decide (gapL s.data.toList = s.size))) ∧ w = w' := by
  obtain ⟨g, hg⟩ : ∃ g, Hid (gapL s.data.toList = g) := ⟨_, rfl⟩
  go_enter Try.func10, Try.ntmps10
  go_wp2_with (go_at_call 17; refine (refgap_any _ hs _).mono ?_; rintro e w' ⟨rfl, rfl⟩; rw [hg.out])
  go_ret
  exact ⟨ret_bool (by rw [hg.out, Bool.eq_iff_iff]; simp; try omega), rfl⟩

end Go.Proofs.Ytplahgcbeanfnaa
