/-
  The contracts of the lexer's span, at each of the functions that it is given.
-/
import Derived.Test.YtplahgcbeanfnaaLxA
import Derived.LoopTactic
import Derived.Outline
namespace Go.Proofs.Ytplahgcbeanfnaa
open Go.RowKit

theorem drop_cons_ba (s : ByteArray) (k : Nat) (h : k < s.size) : s.data.toList.drop k = s[k] :: s.data.toList.drop (k + 1) := by
  rw [List.drop_eq_getElem_cons (by simpa using h)]; rfl

set_option maxHeartbeats 400000 in
theorem span_inLine (s : ByteArray) (hs : s.size ≤ 9223372036854775807) (w : World) :
    Calls Try.prog 21 #[.string s, .func (.func 22) #[] #[]] w fun e w' => e = .returned (.int .i64 (spanL lineB s.data.toList)) ∧ w = w' := by
  go_enter Try.func21, Try.ntmps21
  go_wp2
  go_loop [5] (fun i => ∃ k : Nat, k ≤ s.size ∧ i = .int .i64 k ∧ Hid (spanL lineB s.data.toList = k + spanL lineB (s.data.toList.drop k))) (fun i => s.size - (intOf i).toNat)
  case atStart => exact ⟨0, Nat.zero_le _, rfl, by unfold Hid; simp⟩
  case round =>
    obtain ⟨k, hk, rfl, hF⟩ := hrel
    by_cases hlt : k < s.size
    · have hD := hidi (drop_cons_ba s k hlt)
      cases hc : lineB s[k]
      · have hS : Hid (spanL lineB s.data.toList = k) := by unfold Hid; rw [hF.out, hD.out, spanL_cons, hc]; rfl
        go_wp2_with (go_at_call 22; refine (inLine_any _ _).mono ?_; rintro e w' ⟨rfl, rfl⟩; rw [hc])
        go_ret
        exact ⟨ret_int (by rw [hS.out]), rfl⟩
      · have hS : Hid (spanL lineB s.data.toList = k + 1 + spanL lineB (s.data.toList.drop (k + 1))) := by unfold Hid; rw [hF.out, hD.out, spanL_cons, hc]; simp; omega
        go_wp2_with (go_at_call 22; refine (inLine_any _ _).mono ?_; rintro e w' ⟨rfl, rfl⟩; rw [hc])
        go_round
        case rel => exact ⟨k + 1, by omega, by go_num, hS⟩
        case measure => simp [intOf]; omega
    · have hS : Hid (spanL lineB s.data.toList = k) := by unfold Hid; rw [hF.out, List.drop_of_length_le (by simp; omega)]; rfl
      go_wp2
      go_ret
      exact ⟨ret_int (by rw [hS.out]), rfl⟩

set_option maxHeartbeats 400000 in
theorem span_contName (s : ByteArray) (hs : s.size ≤ 9223372036854775807) (w : World) :
    Calls Try.prog 21 #[.string s, .func (.func 27) #[] #[]] w fun e w' => e = .returned (.int .i64 (spanL contB s.data.toList)) ∧ w = w' := by
  go_enter Try.func21, Try.ntmps21
  go_wp2
  go_loop [5] (fun i => ∃ k : Nat, k ≤ s.size ∧ i = .int .i64 k ∧ Hid (spanL contB s.data.toList = k + spanL contB (s.data.toList.drop k))) (fun i => s.size - (intOf i).toNat)
  case atStart => exact ⟨0, Nat.zero_le _, rfl, by unfold Hid; simp⟩
  case round =>
    obtain ⟨k, hk, rfl, hF⟩ := hrel
    by_cases hlt : k < s.size
    · have hD := hidi (drop_cons_ba s k hlt)
      cases hc : contB s[k]
      · have hS : Hid (spanL contB s.data.toList = k) := by unfold Hid; rw [hF.out, hD.out, spanL_cons, hc]; rfl
        go_wp2_with (go_at_call 27; refine (contName_any _ _).mono ?_; rintro e w' ⟨rfl, rfl⟩; rw [hc])
        go_ret
        exact ⟨ret_int (by rw [hS.out]), rfl⟩
      · have hS : Hid (spanL contB s.data.toList = k + 1 + spanL contB (s.data.toList.drop (k + 1))) := by unfold Hid; rw [hF.out, hD.out, spanL_cons, hc]; simp; omega
        go_wp2_with (go_at_call 27; refine (contName_any _ _).mono ?_; rintro e w' ⟨rfl, rfl⟩; rw [hc])
        go_round
        case rel => exact ⟨k + 1, by omega, by go_num, hS⟩
        case measure => simp [intOf]; omega
    · have hS : Hid (spanL contB s.data.toList = k) := by unfold Hid; rw [hF.out, List.drop_of_length_le (by simp; omega)]; rfl
      go_wp2
      go_ret
      exact ⟨ret_int (by rw [hS.out]), rfl⟩

set_option maxHeartbeats 400000 in
theorem span_digit (s : ByteArray) (hs : s.size ≤ 9223372036854775807) (w : World) :
    Calls Try.prog 21 #[.string s, .func (.func 28) #[] #[]] w fun e w' => e = .returned (.int .i64 (spanL digB s.data.toList)) ∧ w = w' := by
  go_enter Try.func21, Try.ntmps21
  go_wp2
  go_loop [5] (fun i => ∃ k : Nat, k ≤ s.size ∧ i = .int .i64 k ∧ Hid (spanL digB s.data.toList = k + spanL digB (s.data.toList.drop k))) (fun i => s.size - (intOf i).toNat)
  case atStart => exact ⟨0, Nat.zero_le _, rfl, by unfold Hid; simp⟩
  case round =>
    obtain ⟨k, hk, rfl, hF⟩ := hrel
    by_cases hlt : k < s.size
    · have hD := hidi (drop_cons_ba s k hlt)
      cases hc : digB s[k]
      · have hS : Hid (spanL digB s.data.toList = k) := by unfold Hid; rw [hF.out, hD.out, spanL_cons, hc]; rfl
        go_wp2_with (go_at_call 28; refine (digit_any _ _).mono ?_; rintro e w' ⟨rfl, rfl⟩; rw [hc])
        go_ret
        exact ⟨ret_int (by rw [hS.out]), rfl⟩
      · have hS : Hid (spanL digB s.data.toList = k + 1 + spanL digB (s.data.toList.drop (k + 1))) := by unfold Hid; rw [hF.out, hD.out, spanL_cons, hc]; simp; omega
        go_wp2_with (go_at_call 28; refine (digit_any _ _).mono ?_; rintro e w' ⟨rfl, rfl⟩; rw [hc])
        go_round
        case rel => exact ⟨k + 1, by omega, by go_num, hS⟩
        case measure => simp [intOf]; omega
    · have hS : Hid (spanL digB s.data.toList = k) := by unfold Hid; rw [hF.out, List.drop_of_length_le (by simp; omega)]; rfl
      go_wp2
      go_ret
      exact ⟨ret_int (by rw [hS.out]), rfl⟩

end Go.Proofs.Ytplahgcbeanfnaa
