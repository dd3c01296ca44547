/-
  Lengths of tokens; the fuel of the tokens' function.
-/
import Derived.Test.YtplahgcbeanfnaaLxP
namespace Go.Proofs.Ytplahgcbeanfnaa

theorem nameL_le (l : Bs) : nameL l ≤ l.length := by
  cases l with
  | nil => simp [nameL]
  | cons c r =>
    have := spanL_le contB r
    simp only [nameL, List.length_cons]
    repeat' split
    all_goals omega
theorem numL_le (l : Bs) : numL l ≤ l.length := by
  have := spanL_le digB l
  unfold numL
  repeat' split
  all_goals omega
theorem symL_le (l : Bs) : symL l ≤ l.length := by
  match l with
  | [] => simp [symL]
  | [c] => simp only [symL, twoB, List.length_cons, List.length_nil, Bool.false_eq_true, if_false]; split <;> omega
  | c :: d :: r => simp only [symL, List.length_cons]; repeat' split
                   all_goals omega
theorem tokN_le (l : Bs) : tokN l ≤ l.length := by
  have h1 := nameL_le l
  have h2 := numL_le l
  have h3 := symL_le l
  unfold tokN
  repeat' split
  all_goals omega

theorem lexF_zero (p n : Nat) (l : Bs) : lexF 0 p n l = ([], none) := rfl
theorem lexF_nil (f p n : Nat) : lexF f p n [] = ([], none) := by cases f <;> rfl
/-- one token -/
theorem lexF_succ (f p n : Nat) {l : Bs} (h0 : l ≠ []) (ht : tokN l ≠ 0) (hn : n ≠ 2000) :
    lexF (f + 1) p n l = (⟨tokK l, l.take (tokN l), p⟩ :: (lexF f (p + tokN l + gapL (l.drop (tokN l))) (n + 1) ((l.drop (tokN l)).drop (gapL (l.drop (tokN l))))).1,
      (lexF f (p + tokN l + gapL (l.drop (tokN l))) (n + 1) ((l.drop (tokN l)).drop (gapL (l.drop (tokN l))))).2) := by
  cases l with
  | nil => exact (h0 rfl).elim
  | cons c r => rw [lexF, if_neg ht, if_neg hn]
theorem lexF_bad (f p n : Nat) {l : Bs} (h0 : l ≠ []) (ht : tokN l = 0) : lexF (f + 1) p n l = ([], some (40, p)) := by
  cases l with
  | nil => exact (h0 rfl).elim
  | cons c r => rw [lexF, if_pos ht]
theorem lexF_full (f p : Nat) {l : Bs} (h0 : l ≠ []) (ht : tokN l ≠ 0) : lexF (f + 1) p 2000 l = ([], some (2, p)) := by
  cases l with
  | nil => exact (h0 rfl).elim
  | cons c r => rw [lexF, if_neg ht, if_pos rfl]

/-- more fuel than bytes changes nothing -/
theorem lexF_fuel : ∀ (f g p n : Nat) (l : Bs), l.length ≤ f → l.length ≤ g → lexF f p n l = lexF g p n l := by
  intro f
  induction f with
  | zero => intro g p n l h1 h2; obtain rfl := List.eq_nil_of_length_eq_zero (Nat.le_zero.1 h1); rw [lexF_nil, lexF_nil]
  | succ f ih =>
    intro g p n l h1 h2
    by_cases h0 : l = []
    · subst h0; rw [lexF_nil, lexF_nil]
    · have hp := List.length_pos_iff.2 h0
      obtain ⟨g, rfl⟩ : ∃ g', g = g' + 1 := ⟨g - 1, by omega⟩
      by_cases ht : tokN l = 0
      · rw [lexF_bad _ _ _ h0 ht, lexF_bad _ _ _ h0 ht]
      · by_cases hn : n = 2000
        · subst hn; rw [lexF_full _ _ h0 ht, lexF_full _ _ h0 ht]
        · rw [lexF_succ _ _ _ h0 ht hn, lexF_succ _ _ _ h0 ht hn]
          have hl : ((l.drop (tokN l)).drop (gapL (l.drop (tokN l)))).length ≤ l.length - 1 := by
            rw [List.length_drop, List.length_drop]; omega
          rw [ih g _ _ _ (by omega) (by omega)]

end Go.Proofs.Ytplahgcbeanfnaa
