/-
  Contracts of the lexer's functions on bytes, and of span.
-/
import Derived.Test.YtplahgcbeanfnaaProg
import Derived.Test.YtplahgcbeanfnaaLxP
import Derived.WalkKit
import Derived.WalkSpells
import Derived.WalkLawsBesides
import Derived.Lib.Hide
import Derived.Below
namespace Go.Proofs.Ytplahgcbeanfnaa
open Go.RowKit

theorem ret_int {a b : Int} (h : a = b) : Ending.returned (.int .i64 a) = .returned (.int .i64 b) := by rw [h]
theorem ret_bool {a b : Bool} (h : a = b) : Ending.returned (.bool a) = .returned (.bool b) := by rw [h]
theorem hidi {p : Prop} (h : p) : Hid p := h


theorem small_t {c : UInt8} (h : smallB c = true) : 97 ≤ c.toNat ∧ c.toNat ≤ 122 := by simpa [smallB] using h
theorem small_f {c : UInt8} (h : smallB c = false) : ¬ (97 ≤ c.toNat ∧ c.toNat ≤ 122) := by intro h2; rw [show smallB c = true by simpa [smallB] using h2] at h; cases h
theorem dig_t {c : UInt8} (h : digB c = true) : 48 ≤ c.toNat ∧ c.toNat ≤ 57 := by simpa [digB] using h
theorem dig_f {c : UInt8} (h : digB c = false) : ¬ (48 ≤ c.toNat ∧ c.toNat ≤ 57) := by intro h2; rw [show digB c = true by simpa [digB] using h2] at h; cases h
theorem big_t {c : UInt8} (h : bigB c = true) : 65 ≤ c.toNat ∧ c.toNat ≤ 90 := by simpa [bigB] using h
theorem big_f {c : UInt8} (h : bigB c = false) : ¬ (65 ≤ c.toNat ∧ c.toNat ≤ 90) := by intro h2; rw [show bigB c = true by simpa [bigB] using h2] at h; cases h

set_option maxHeartbeats 400000 in
theorem small_any (c : UInt8) (w : World) :
    Calls Try.prog 31 #[.int .u8 c.toNat] w fun e w' => e = .returned (.bool (smallB c)) ∧ w = w' := by
  go_enter Try.func31, Try.ntmps31
  go_wp2
  all_goals go_ret
  all_goals exact ⟨ret_bool (by unfold smallB; rw [Bool.eq_iff_iff]; simp only [Bool.and_eq_true, decide_eq_true_eq, Bool.false_eq_true, false_iff]; omega), rfl⟩

set_option maxHeartbeats 400000 in
theorem digit_any (c : UInt8) (w : World) :
    Calls Try.prog 28 #[.int .u8 c.toNat] w fun e w' => e = .returned (.bool (digB c)) ∧ w = w' := by
  go_enter Try.func28, Try.ntmps28
  go_wp2
  all_goals go_ret
  all_goals exact ⟨ret_bool (by unfold digB; rw [Bool.eq_iff_iff]; simp only [Bool.and_eq_true, decide_eq_true_eq, Bool.false_eq_true, false_iff]; omega), rfl⟩

set_option maxHeartbeats 400000 in
theorem inLine_any (c : UInt8) (w : World) :
    Calls Try.prog 22 #[.int .u8 c.toNat] w fun e w' => e = .returned (.bool (lineB c)) ∧ w = w' := by
  go_enter Try.func22, Try.ntmps22
  go_wp2
  all_goals go_ret
  all_goals exact ⟨ret_bool (by unfold lineB; rw [Bool.eq_iff_iff]; simp; try omega), rfl⟩

set_option maxHeartbeats 400000 in
theorem letter_any (c : UInt8) (w : World) :
    Calls Try.prog 26 #[.int .u8 c.toNat] w fun e w' => e = .returned (.bool (letB c)) ∧ w = w' := by
  cases h : smallB c
  all_goals
    go_enter Try.func26, Try.ntmps26
    go_wp2_with (go_at_call 31; refine (small_any _ _).mono ?_; rintro e w' ⟨rfl, rfl⟩; rw [h])
    all_goals go_ret
    all_goals exact ⟨ret_bool (by unfold letB bigB; rw [h, Bool.eq_iff_iff]; simp only [Bool.or_eq_true, Bool.and_eq_true, decide_eq_true_eq, Bool.false_eq_true, false_iff, false_or, true_or]; try omega), rfl⟩

set_option maxHeartbeats 400000 in
theorem contName_any (c : UInt8) (w : World) :
    Calls Try.prog 27 #[.int .u8 c.toNat] w fun e w' => e = .returned (.bool (contB c)) ∧ w = w' := by
  cases h : smallB c
  all_goals
    cases h2 : digB c
    all_goals
      go_enter Try.func27, Try.ntmps27
      go_wp2_with first | (go_at_call 31; refine (small_any _ _).mono ?_; rintro e w' ⟨rfl, rfl⟩; rw [h]) | (go_at_call 28; refine (digit_any _ _).mono ?_; rintro e w' ⟨rfl, rfl⟩; rw [h2])
      all_goals go_ret
      all_goals exact ⟨ret_bool (by unfold contB; rw [h, h2, Bool.eq_iff_iff]; simp; try omega), rfl⟩


end Go.Proofs.Ytplahgcbeanfnaa
