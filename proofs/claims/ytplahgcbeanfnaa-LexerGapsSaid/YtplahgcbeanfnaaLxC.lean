/-
  The contract of the lexer's gap.
-/
import Derived.Test.YtplahgcbeanfnaaLxB
namespace Go.Proofs.Ytplahgcbeanfnaa
open Go.RowKit

theorem ext_toList (s : ByteArray) (k : Nat) : (s.extract k s.size).data.toList = s.data.toList.drop k := by
  rw [ByteArray.data_extract, Array.toList_extract, List.extract_eq_take_drop, List.take_of_length_le (by simp)]
theorem ext_size_le (s : ByteArray) (k m : Nat) : (s.extract k m).size ≤ s.size := by
  rw [ByteArray.size_extract]; omega

set_option maxHeartbeats 800000 in
theorem gap_any (s : ByteArray) (hs : s.size ≤ 9223372036854775807) (w : World) :
    Calls Try.prog 18 #[.string s] w fun e w' => e = .returned (.int .i64 (gapL s.data.toList)) ∧ w = w' := by
  go_enter Try.func18, Try.ntmps18
  go_wp2
  go_loop [3] (fun i => ∃ k : Nat, k ≤ s.size ∧ i = .int .i64 k ∧ Hid (gapL s.data.toList = k + gapS false (s.data.toList.drop k))) (fun i => s.size - (intOf i).toNat)
  case atStart => exact ⟨0, Nat.zero_le _, rfl, by unfold Hid; simp [gapL]⟩
  case round =>
    obtain ⟨k, hk, rfl, hF⟩ := hrel
    by_cases hlt : k < s.size
    · have hD := hidi (drop_cons_ba s k hlt)
      cases hb : blankB s[k]
      · have hn : s[k].toNat ≠ 32 ∧ s[k].toNat ≠ 9 ∧ s[k].toNat ≠ 10 ∧ s[k].toNat ≠ 13 := by simpa [blankB, and_assoc] using hb
        obtain ⟨n1, n2, n3, n4⟩ := hn
        have m1 : ((s[k].toNat : Int) == 32) = false := by simp; omega
        have m2 : ((s[k].toNat : Int) == 9) = false := by simp; omega
        have m3 : ((s[k].toNat : Int) == 10) = false := by simp; omega
        have m4 : ((s[k].toNat : Int) == 13) = false := by simp; omega
        clear n1 n2 n3 n4
        by_cases h37 : s[k].toNat = 37
        · have hL := spanL_le lineB (s.data.toList.drop k)
          rw [List.length_drop] at hL
          have hL2 : spanL lineB (s.data.toList.drop k) + k ≤ s.size := by simp at hL; omega
          have hp : 0 < spanL lineB (s.data.toList.drop k) := by rw [hD.out, spanL_cons, show lineB s[k] = true by simp [lineB, h37]]; simp
          have hS : Hid (gapL s.data.toList = (k + spanL lineB (s.data.toList.drop k) : Nat) + gapS false (s.data.toList.drop (k + spanL lineB (s.data.toList.drop k)))) := by
            unfold Hid; rw [hF.out, hD.out, gapS_hash h37, ← hD.out, List.drop_drop]; omega
          have hE : Hid ((s.extract k s.size).data.toList = s.data.toList.drop k) := ext_toList s k
          have m5 : ((s[k].toNat : Int) == 37) = true := by simp; omega
          clear hL hb h37
          have hsz := ext_size_le s k s.size
          go_wp2_with (go_at_call 21; refine (span_inLine _ (by omega) _).mono ?_; rintro e w' ⟨rfl, rfl⟩; rw [hE.out]; generalize spanL lineB (s.data.toList.drop k) = q at *)
          go_round
          case rel => exact ⟨k + q, by omega, by go_num, hS⟩
          case measure => simp [intOf]; omega
        · have hS : Hid (gapL s.data.toList = k) := by unfold Hid; rw [hF.out, hD.out, gapS_none hb h37]; rfl
          have m5 : ((s[k].toNat : Int) == 37) = false := by simp; omega
          clear h37
          go_wp2
          go_ret
          exact ⟨ret_int (by rw [hS.out]), rfl⟩
      · have hS : Hid (gapL s.data.toList = k + 1 + gapS false (s.data.toList.drop (k + 1))) := by unfold Hid; rw [hF.out, hD.out, gapS_blank hb]; omega
        have hn : s[k].toNat = 32 ∨ s[k].toNat = 9 ∨ s[k].toNat = 10 ∨ s[k].toNat = 13 := by simpa [blankB, or_assoc] using hb
        clear hb
        go_wp2
        any_goals
          go_round
          case rel => exact ⟨k + 1, by omega, by go_num, hS⟩
          case measure => simp [intOf]; omega
        all_goals (exfalso; simp only [beq_eq_false_iff_ne, ne_eq] at *; omega)
    · have hS : Hid (gapL s.data.toList = k) := by unfold Hid; rw [hF.out, List.drop_of_length_le (by simp; omega)]; rfl
      go_wp2
      go_ret
      exact ⟨ret_int (by rw [hS.out]), rfl⟩

end Go.Proofs.Ytplahgcbeanfnaa
