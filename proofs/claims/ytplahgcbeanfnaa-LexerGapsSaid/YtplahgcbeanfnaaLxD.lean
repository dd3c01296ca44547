/-
  The contracts of the lexer's name, number and symbol.
-/
import Derived.Test.YtplahgcbeanfnaaLxC
import Derived.Test.YtplahgcbeanfnaaLxS
namespace Go.Proofs.Ytplahgcbeanfnaa
open Go.RowKit

theorem cons_ba (s : ByteArray) (h : 0 < s.size) : s.data.toList = s[0] :: s.data.toList.drop 1 := by
  have := drop_cons_ba s 0 h
  simpa using this

theorem span_drop_le (p : UInt8 → Bool) (s : ByteArray) (k : Nat) (hk : k ≤ s.size) : spanL p (s.data.toList.drop k) + k ≤ s.size := by
  have hL := spanL_le p (s.data.toList.drop k)
  rw [List.length_drop] at hL
  have : s.data.toList.length = s.size := rfl
  omega

set_option maxHeartbeats 800000 in
theorem name_any (s : ByteArray) (h0 : 0 < s.size) (hs : s.size ≤ 9223372036854775807) (w : World) :
    Calls Try.prog 23 #[.string s] w fun e w' => e = .returned (.int .i64 (nameL s.data.toList)) ∧ w = w' := by
  have hD := hidi (cons_ba s h0)
  have hE : Hid ((s.extract 1 s.size).data.toList = s.data.toList.drop 1) := ext_toList s 1
  have hsz := ext_size_le s 1 s.size
  have hL2 := span_drop_le contB s 1 h0
  obtain ⟨q, hq⟩ : ∃ q, Hid (spanL contB (s.data.toList.drop 1) = q) := ⟨_, rfl⟩
  rw [hq.out] at hL2
  cases hc : letB s[0]
  · have hS : Hid (nameL s.data.toList = 0) := by unfold Hid; rw [hD.out, nameL, hc]; rfl
    go_enter Try.func23, Try.ntmps23
    go_wp2_with (go_at_call 26; refine (letter_any _ _).mono ?_; rintro e w' ⟨rfl, rfl⟩; rw [hc])
    go_ret
    exact ⟨ret_int (by rw [hS.out]; rfl), rfl⟩
  · have hS : Hid (nameL s.data.toList = if 20 < q + 1 then 0 else q + 1) := by unfold Hid; rw [hD.out, nameL, hc, hq.out]; rfl
    go_enter Try.func23, Try.ntmps23
    go_wp2_with first | (go_at_call 26; refine (letter_any _ _).mono ?_; rintro e w' ⟨rfl, rfl⟩; rw [hc]) | (go_at_call 21; refine (span_contName _ (by omega) _).mono ?_; rintro e w' ⟨rfl, rfl⟩; rw [hE.out, hq.out])
    all_goals go_ret
    · exact ⟨ret_int (by rw [hS.out, if_pos (by omega)]; rfl), rfl⟩
    · exact ⟨ret_int (by rw [hS.out, if_neg (by omega)]; omega), rfl⟩

set_option maxHeartbeats 1600000 in
theorem number_any (s : ByteArray) (h0 : 0 < s.size) (hs : s.size ≤ 9223372036854775807) (w : World) :
    Calls Try.prog 24 #[.string s] w fun e w' => e = .returned (.int .i64 (numL s.data.toList)) ∧ w = w' := by
  have hD := hidi (cons_ba s h0)
  have hL2 := span_drop_le digB s 0 (Nat.zero_le _)
  rw [List.drop_zero] at hL2
  obtain ⟨q, hq⟩ : ∃ q, Hid (spanL digB s.data.toList = q) := ⟨_, rfl⟩
  rw [hq.out] at hL2
  have hZ : Hid (headZ s.data.toList = ((s[0].toNat : Int) == 48)) := by
    unfold Hid; rw [hD.out, headZ, Bool.eq_iff_iff]; simp; omega
  have hS : Hid (numL s.data.toList = if 4 < q then 0 else if decide (1 < q) && headZ s.data.toList then 0 else if glued (s.data.toList.drop q) then 0 else q) := by unfold Hid numL; rw [hq.out]
  by_cases h4 : 4 < q
  · have hR : Hid (numL s.data.toList = 0) := by unfold Hid; rw [hS.out, if_pos h4]
    go_enter Try.func24, Try.ntmps24
    go_wp2_with (go_at_call 21; refine (span_digit _ (by omega) _).mono ?_; rintro e w' ⟨rfl, rfl⟩; rw [hq.out])
    go_ret
    exact ⟨ret_int (by rw [hR.out]; rfl), rfl⟩
  · have h4' : q ≤ 4 := by omega
    cases hz : ((s[0].toNat : Int) == 48) && decide (1 < q)
    · have hzz : (q ≤ 1) ∨ (1 < q ∧ ((s[0].toNat : Int) == 48) = false) := by
        by_cases h1 : 1 < q
        · right; refine ⟨h1, ?_⟩; rw [decide_eq_true h1, Bool.and_true] at hz; exact hz
        · left; omega
      have hR : Hid (numL s.data.toList = if glued (s.data.toList.drop q) then 0 else q) := by unfold Hid; rw [hS.out, if_neg h4, hZ.out, Bool.and_comm, hz]; rfl
      clear hz h4
      by_cases hlt : q < s.size
      · have hDq := hidi (drop_cons_ba s q hlt)
        cases hl : letB s[q]
        · cases h95 : ((s[q].toNat : Int) == 95)
          · have hR2 : Hid (numL s.data.toList = q) := by
              unfold Hid; rw [hR.out, hDq.out, glued, hl]; simp at h95; simp; omega
            rcases hzz with hzz | ⟨hzz, hzz2⟩
            all_goals
              go_enter Try.func24, Try.ntmps24
              go_wp2_with first | (go_at_call 21; refine (span_digit _ (by omega) _).mono ?_; rintro e w' ⟨rfl, rfl⟩; rw [hq.out]) | (go_at_call 26; refine (letter_any _ _).mono ?_; rintro e w' ⟨rfl, rfl⟩; rw [hl])
              go_ret
              exact ⟨ret_int (by rw [hR2.out]), rfl⟩
          · have hR2 : Hid (numL s.data.toList = 0) := by
              unfold Hid; rw [hR.out, hDq.out, glued, hl]; simp at h95; simp; omega
            rcases hzz with hzz | ⟨hzz, hzz2⟩
            all_goals
              go_enter Try.func24, Try.ntmps24
              go_wp2_with first | (go_at_call 21; refine (span_digit _ (by omega) _).mono ?_; rintro e w' ⟨rfl, rfl⟩; rw [hq.out]) | (go_at_call 26; refine (letter_any _ _).mono ?_; rintro e w' ⟨rfl, rfl⟩; rw [hl])
              go_ret
              exact ⟨ret_int (by rw [hR2.out]; rfl), rfl⟩
        · have hR2 : Hid (numL s.data.toList = 0) := by
            unfold Hid; rw [hR.out, hDq.out, glued, hl]; rfl
          rcases hzz with hzz | ⟨hzz, hzz2⟩
          all_goals
            go_enter Try.func24, Try.ntmps24
            go_wp2_with first | (go_at_call 21; refine (span_digit _ (by omega) _).mono ?_; rintro e w' ⟨rfl, rfl⟩; rw [hq.out]) | (go_at_call 26; refine (letter_any _ _).mono ?_; rintro e w' ⟨rfl, rfl⟩; rw [hl])
            go_ret
            exact ⟨ret_int (by rw [hR2.out]; rfl), rfl⟩
      · have hR2 : Hid (numL s.data.toList = q) := by
          unfold Hid; rw [hR.out, List.drop_of_length_le (by simp; omega)]; rfl
        have hqs : q = s.size := by omega
        rcases hzz with hzz | ⟨hzz, hzz2⟩
        all_goals
          go_enter Try.func24, Try.ntmps24
          go_wp2_with (go_at_call 21; refine (span_digit _ (by omega) _).mono ?_; rintro e w' ⟨rfl, rfl⟩; rw [hq.out])
          go_ret
          exact ⟨ret_int (by rw [hR2.out]; omega), rfl⟩
    · have hR : Hid (numL s.data.toList = 0) := by unfold Hid; rw [hS.out, if_neg h4, hZ.out, Bool.and_comm, hz]; rfl
      obtain ⟨hz1, hz2⟩ := Bool.and_eq_true_iff.1 hz
      clear hz
      have hz2' : 1 < q := by simpa using hz2
      clear hz2
      go_enter Try.func24, Try.ntmps24
      go_wp2_with (go_at_call 21; refine (span_digit _ (by omega) _).mono ?_; rintro e w' ⟨rfl, rfl⟩; rw [hq.out])
      go_ret
      exact ⟨ret_int (by rw [hR.out]; rfl), rfl⟩

end Go.Proofs.Ytplahgcbeanfnaa
