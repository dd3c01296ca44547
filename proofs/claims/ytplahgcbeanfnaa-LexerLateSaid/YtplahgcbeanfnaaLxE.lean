/-
  The contracts of the lexer's symbol and kinds.
-/
import Derived.Test.YtplahgcbeanfnaaLxD
namespace Go.Proofs.Ytplahgcbeanfnaa
open Go.RowKit

theorem idx_le {l : List UInt8} {c : UInt8} : decide (0 ≤ Lib.indexByte l c) = l.contains c := by
  induction l with
  | nil => rfl
  | cons b r ih =>
    have hg := Lib.indexByte_ge r c
    rw [Lib.indexByte, List.contains_cons]
    by_cases h : b = c
    · subst h; simp
    · have h1 : (b == c) = false := by simpa using h
      have h2 : (c == b) = false := by simpa using fun e => h e.symm
      rw [h1, h2, ← ih]
      by_cases hm : Lib.indexByte r c = -1
      · simp [hm]
      · have h3 : (Lib.indexByte r c == -1) = false := by simpa using hm
        rw [h3]
        simp
        omega

theorem two_pre (l : Bs) (h : 0 < l.length) : twoB l = (Lib.hasPrefix l [45, 62] || Lib.hasPrefix l [33, 61]) := by
  match l, h with
  | [c], _ => simp [twoB, Lib.hasPrefix, List.isPrefixOf]
  | c :: d :: r, _ =>
    have e (a b : UInt8) : (a == b) = (b == a) := BEq.comm
    simp only [twoB, Lib.hasPrefix, List.isPrefixOf, Bool.and_true]
    rw [e c 45, e d 62, e c 33, e d 61]

theorem ext_one (s : ByteArray) (h : 0 < s.size) : s.extract 0 1 = ⟨#[s[0]]⟩ := by
  apply ByteArray.ext
  apply Array.ext'
  rw [ByteArray.data_extract, Array.toList_extract, List.extract_eq_take_drop]
  rw [cons_ba s h]
  rfl

theorem pre_any (s p : ByteArray) (w : World) : Calls Try.prog 29 #[.string s, .string p] w fun e w' => e = .returned (.bool (Lib.hasPrefix s.data.toList p.data.toList)) ∧ w = w' :=
  (Try.strings_HasPrefix s p w).mono fun _ _ h => ⟨h.1, h.2.symm⟩
theorem has_one (c : UInt8) (w : World) : Calls Try.prog 30 #[.string ⟨#[40, 41, 123, 125, 91, 93, 44, 59, 58, 61, 33, 38, 124]⟩, .string ⟨#[c]⟩] w fun e w' => e = .returned (.bool (oneB c)) ∧ w = w' :=
  (Try.strings_Contains_one _ c w).mono fun _ _ h => ⟨h.1.trans (ret_bool idx_le), h.2.symm⟩

set_option maxHeartbeats 1600000 in
theorem symbol_any (s : ByteArray) (h0 : 0 < s.size) (hs : s.size ≤ 9223372036854775807) (w : World) :
    Calls Try.prog 25 #[.string s] w fun e w' => e = .returned (.int .i64 (symL s.data.toList)) ∧ w = w' := by
  have hD := hidi (cons_ba s h0)
  have hX := hidi (ext_one s h0)
  have hT := hidi (two_pre s.data.toList h0)
  have hS : Hid (symL s.data.toList = if twoB s.data.toList then 2 else if oneB s[0] then 1 else 0) := by unfold Hid; rw [hD.out]; rfl
  cases h1 : Lib.hasPrefix s.data.toList [45, 62]
  · have g1 : Hid (Lib.hasPrefix s.data.toList (⟨#[45, 62]⟩ : ByteArray).data.toList = false) := h1
    cases h2 : Lib.hasPrefix s.data.toList [33, 61]
    · have g2 : Hid (Lib.hasPrefix s.data.toList (⟨#[33, 61]⟩ : ByteArray).data.toList = false) := h2
      cases h3 : oneB s[0]
      · have hR : Hid (symL s.data.toList = 0) := by unfold Hid; rw [hS.out, hT.out, h1, h2, h3]; rfl
        clear h1 h2
        go_enter Try.func25, Try.ntmps25
        go_wp2_with first | (go_at_call 29; refine (pre_any _ _ _).mono ?_; rintro e w' ⟨rfl, rfl⟩; first | rw [g1.out] | rw [g2.out]) | (go_at_call 30; rw [hX.out]; refine (has_one _ _).mono ?_; rintro e w' ⟨rfl, rfl⟩; rw [h3])
        go_ret
        exact ⟨ret_int (by rw [hR.out]; rfl), rfl⟩
      · have hR : Hid (symL s.data.toList = 1) := by unfold Hid; rw [hS.out, hT.out, h1, h2, h3]; rfl
        clear h1 h2
        go_enter Try.func25, Try.ntmps25
        go_wp2_with first | (go_at_call 29; refine (pre_any _ _ _).mono ?_; rintro e w' ⟨rfl, rfl⟩; first | rw [g1.out] | rw [g2.out]) | (go_at_call 30; rw [hX.out]; refine (has_one _ _).mono ?_; rintro e w' ⟨rfl, rfl⟩; rw [h3])
        go_ret
        exact ⟨ret_int (by rw [hR.out]; rfl), rfl⟩
    · have hR : Hid (symL s.data.toList = 2) := by unfold Hid; rw [hS.out, hT.out, h1, h2]; rfl
      have g2 : Hid (Lib.hasPrefix s.data.toList (⟨#[33, 61]⟩ : ByteArray).data.toList = true) := h2
      clear h1 h2
      go_enter Try.func25, Try.ntmps25
      go_wp2_with first | (go_at_call 29; refine (pre_any _ _ _).mono ?_; rintro e w' ⟨rfl, rfl⟩; first | rw [g1.out] | rw [g2.out])
      go_ret
      exact ⟨ret_int (by rw [hR.out]; rfl), rfl⟩
  · have hR : Hid (symL s.data.toList = 2) := by unfold Hid; rw [hS.out, hT.out, h1]; rfl
    have g1 : Hid (Lib.hasPrefix s.data.toList (⟨#[45, 62]⟩ : ByteArray).data.toList = true) := h1
    clear h1
    go_enter Try.func25, Try.ntmps25
    go_wp2_with first | (go_at_call 29; refine (pre_any _ _ _).mono ?_; rintro e w' ⟨rfl, rfl⟩; rw [g1.out])
    go_ret
    exact ⟨ret_int (by rw [hR.out]; rfl), rfl⟩

end Go.Proofs.Ytplahgcbeanfnaa
