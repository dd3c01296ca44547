/-
  Texts that are cut at a token's end or at an error; texts that go on behind a line feed; moved offsets.
-/
import Derived.Test.YtplahgcbeanfnaaLxR
namespace Go.Proofs.Ytplahgcbeanfnaa

theorem gapS_take (b : Bool) (l : Bs) (c : Nat) : gapS b (l.take c) = min (gapS b l) c := by
  induction l generalizing b c with
  | nil => simp [gapS]
  | cons x r ih =>
    cases c with
    | zero => simp [gapS]
    | succ c =>
      rw [List.take_succ_cons]
      cases b
      · simp only [gapS]
        split
        · rw [ih]; omega
        · split
          · rw [ih]; omega
          · omega
      · simp only [gapS]
        split
        · rw [ih]; omega
        · rw [ih]; omega
theorem gapL_take (l : Bs) (c : Nat) : gapL (l.take c) = min (gapL l) c := gapS_take _ _ _
theorem gapS_stop (b : Bool) (l y : Bs) (h : gapS b l < l.length) : gapS b (l ++ y) = gapS b l := by
  induction l generalizing b with
  | nil => simp at h
  | cons x r ih =>
    rw [List.cons_append]
    cases b <;> simp only [gapS, List.length_cons] at h ⊢
    · split
      · rename_i hx; rw [if_pos hx] at h; rw [ih _ (by omega)]
      · rename_i hx
        rw [if_neg hx] at h
        split
        · rename_i hy; rw [if_pos hy] at h; rw [ih _ (by omega)]
        · rfl
    · split
      · rename_i hx; rw [if_pos hx] at h; rw [ih _ (by omega)]
      · rename_i hx; rw [if_neg hx] at h; rw [ih _ (by omega)]
theorem gapS_line (b : Bool) (l m : Bs) (h : gapS b l = l.length) : gapS b (l ++ 10 :: m) = l.length + 1 + gapS false m := by
  induction l generalizing b with
  | nil => cases b <;> simp [gapS, blankB] <;> omega
  | cons x r ih =>
    rw [List.cons_append]
    cases b <;> simp only [gapS, List.length_cons] at h ⊢
    · split
      · rename_i hx; rw [if_pos hx] at h; rw [ih _ (by omega)]; omega
      · rename_i hx
        rw [if_neg hx] at h
        split
        · rename_i hy; rw [if_pos hy] at h; rw [ih _ (by omega)]; omega
        · rename_i hy; rw [if_neg hy] at h; omega
    · split
      · rename_i hx; rw [if_pos hx] at h; rw [ih _ (by omega)]; omega
      · rename_i hx; rw [if_neg hx] at h; rw [ih _ (by omega)]; omega

/- a line feed behind a text -/
theorem span_line (p : UInt8 → Bool) (hp : p 10 = false) (l m : Bs) : spanL p (l ++ 10 :: m) = spanL p l := by
  induction l with
  | nil => rw [List.nil_append, spanL_cons, hp]; rfl
  | cons c r ih => rw [List.cons_append, spanL_cons, spanL_cons, ih]
theorem tok_line {l : Bs} (m : Bs) (h : l ≠ []) : tokN (l ++ 10 :: m) = tokN l ∧ tokK (l ++ 10 :: m) = tokK l := by
  cases l with
  | nil => exact (h rfl).elim
  | cons c r =>
    have h1 : nameL (c :: r ++ 10 :: m) = nameL (c :: r) := by
      rw [List.cons_append]; simp only [nameL, span_line contB (by decide)]
    have h2 : numL (c :: r ++ 10 :: m) = numL (c :: r) := by
      unfold numL
      rw [span_line digB (by decide), List.drop_append_of_le_length (spanL_le _ _)]
      have hg : glued ((c :: r).drop (spanL digB (c :: r)) ++ 10 :: m) = glued ((c :: r).drop (spanL digB (c :: r))) := by
        cases (c :: r).drop (spanL digB (c :: r)) with
        | nil => rfl
        | cons => rfl
      rw [hg]
      rfl
    have h3 : symL (c :: r ++ 10 :: m) = symL (c :: r) := by
      rw [List.cons_append]
      have ht : twoB (c :: (r ++ 10 :: m)) = twoB (c :: r) := by
        cases r with
        | nil => simp [twoB]
        | cons d r => rfl
      simp only [symL, ht]
    exact ⟨by unfold tokN; rw [h1, h2, h3], by unfold tokK; rw [h1, h2]⟩

theorem drop_line (l m : Bs) (n : Nat) (h : n ≤ l.length) : (l ++ 10 :: m).drop n = l.drop n ++ 10 :: m := List.drop_append_of_le_length h
theorem take_line (l m : Bs) (n : Nat) (h : n ≤ l.length) : (l ++ 10 :: m).take n = l.take n := List.take_append_of_le_length h

theorem line_err (m : Bs) : ∀ (f p n : Nat) (l : Bs), l.length ≤ f → ∀ k q, (lexF f p n l).2 = some (k, q) → ∀ F, (l ++ 10 :: m).length ≤ F → lexF F p n (l ++ 10 :: m) = lexF f p n l := by
  intro f
  induction f with
  | zero => intro p n l _ k q h; rw [lexF_zero] at h; cases h
  | succ f ih =>
    intro p n l hl k q h F hF
    by_cases h0 : l = []
    · subst h0; rw [lexF_nil] at h; cases h
    · obtain ⟨F, rfl⟩ : ∃ F', F = F' + 1 := ⟨F - 1, by simp at hF; omega⟩
      have hne : l ++ 10 :: m ≠ [] := by simp
      obtain ⟨t1, t2⟩ := tok_line m h0
      by_cases ht : tokN l = 0
      · rw [lexF_bad _ _ _ h0 ht, lexF_bad _ _ _ hne (by rw [t1]; exact ht)]
      · by_cases hn : n = 2000
        · subst hn; rw [lexF_full _ _ h0 ht, lexF_full _ _ hne (by rw [t1]; exact ht)]
        · have hle := tokN_le l
          rw [lexF_succ _ _ _ h0 ht hn] at h ⊢
          rw [lexF_succ _ _ _ hne (by rw [t1]; exact ht) hn, t1, t2, drop_line _ _ _ hle, take_line _ _ _ hle]
          have hg := gapL_le (l.drop (tokN l))
          rcases Nat.lt_or_ge (gapL (l.drop (tokN l))) (l.drop (tokN l)).length with hlt | hge
          · have hgs : gapL (l.drop (tokN l) ++ 10 :: m) = gapL (l.drop (tokN l)) := gapS_stop _ _ _ hlt
            rw [hgs, drop_line _ _ _ hg]
            have hd : ((l.drop (tokN l)).drop (gapL (l.drop (tokN l)))).length ≤ f := by rw [List.length_drop, List.length_drop]; omega
            have hd2 : ((l.drop (tokN l)).drop (gapL (l.drop (tokN l))) ++ 10 :: m).length ≤ F := by
              rw [List.length_append, List.length_drop, List.length_drop]; rw [List.length_append] at hF; omega
            rw [ih _ _ _ hd k q h F hd2]
          · have hall : gapL (l.drop (tokN l)) = (l.drop (tokN l)).length := by omega
            rw [List.drop_of_length_le (by omega : ((l.drop (tokN l))).length ≤ gapL (l.drop (tokN l))), lexF_nil] at h
            cases h

theorem line_ok (m : Bs) : ∀ (f p n : Nat) (l : Bs), l ≠ [] → l.length ≤ f → (lexF f p n l).2 = none → ∀ F, (l ++ 10 :: m).length ≤ F →
    lexF F p n (l ++ 10 :: m) = ((lexF f p n l).1 ++ (lexF F (p + l.length + 1 + gapL m) (n + (lexF f p n l).1.length) (m.drop (gapL m))).1, (lexF F (p + l.length + 1 + gapL m) (n + (lexF f p n l).1.length) (m.drop (gapL m))).2) := by
  intro f
  induction f with
  | zero => intro p n l h0 hl; exact (h0 (List.eq_nil_of_length_eq_zero (by omega))).elim
  | succ f ih =>
    intro p n l h0 hl h F hF
    obtain ⟨F, rfl⟩ : ∃ F', F = F' + 1 := ⟨F - 1, by simp at hF; omega⟩
    have hne : l ++ 10 :: m ≠ [] := by simp
    obtain ⟨t1, t2⟩ := tok_line m h0
    by_cases ht : tokN l = 0
    · rw [lexF_bad _ _ _ h0 ht] at h; cases h
    · by_cases hn : n = 2000
      · subst hn; rw [lexF_full _ _ h0 ht] at h; cases h
      · have hle := tokN_le l
        have hml : (m.drop (gapL m)).length ≤ F := by rw [List.length_drop]; rw [List.length_append, List.length_cons] at hF; omega
        rw [lexF_succ _ _ _ h0 ht hn] at h ⊢
        rw [lexF_succ _ _ _ hne (by rw [t1]; exact ht) hn, t1, t2, drop_line _ _ _ hle, take_line _ _ _ hle]
        have hg := gapL_le (l.drop (tokN l))
        have hdl : (l.drop (tokN l)).length = l.length - tokN l := List.length_drop
        rcases Nat.lt_or_ge (gapL (l.drop (tokN l))) (l.drop (tokN l)).length with hlt | hge
        · have hgs : gapL (l.drop (tokN l) ++ 10 :: m) = gapL (l.drop (tokN l)) := gapS_stop _ _ _ hlt
          rw [hgs, drop_line _ _ _ hg]
          have hdd : ((l.drop (tokN l)).drop (gapL (l.drop (tokN l)))).length = l.length - tokN l - gapL (l.drop (tokN l)) := by rw [List.length_drop, List.length_drop]
          have hd0 : (l.drop (tokN l)).drop (gapL (l.drop (tokN l))) ≠ [] := by
            intro e; rw [e] at hdd; simp at hdd; omega
          have hd2 : ((l.drop (tokN l)).drop (gapL (l.drop (tokN l))) ++ 10 :: m).length ≤ F := by
            rw [List.length_append, hdd]; rw [List.length_append] at hF; omega
          rw [ih _ _ _ hd0 (by omega) h F hd2]
          have e1 : p + tokN l + gapL (l.drop (tokN l)) + ((l.drop (tokN l)).drop (gapL (l.drop (tokN l)))).length + 1 + gapL m = p + l.length + 1 + gapL m := by omega
          rw [e1]
          generalize lexF f (p + tokN l + gapL (l.drop (tokN l))) (n + 1) ((l.drop (tokN l)).drop (gapL (l.drop (tokN l)))) = X
          have e2 : n + 1 + X.1.length = n + (X.1.length + 1) := by omega
          rw [e2, lexF_fuel F (F + 1) _ _ _ hml (by omega)]
          simp
        · have hall : gapL (l.drop (tokN l)) = (l.drop (tokN l)).length := by omega
          have hgl : gapL (l.drop (tokN l) ++ 10 :: m) = (l.drop (tokN l)).length + 1 + gapL m := gapS_line _ _ _ hall
          have hdr : (l.drop (tokN l) ++ 10 :: m).drop ((l.drop (tokN l)).length + 1 + gapL m) = m.drop (gapL m) := by
            rw [show (l.drop (tokN l)).length + 1 + gapL m = (l.drop (tokN l)).length + (1 + gapL m) by omega, ← List.drop_drop, List.drop_left, show 1 + gapL m = gapL m + 1 by omega, List.drop_succ_cons]
          rw [hgl, hdr, hall, List.drop_of_length_le (Nat.le_refl _), lexF_nil]
          have e1 : p + tokN l + ((l.drop (tokN l)).length + 1 + gapL m) = p + l.length + 1 + gapL m := by omega
          rw [e1, lexF_fuel F (F + 1) _ _ _ hml (by omega)]
          simp

end Go.Proofs.Ytplahgcbeanfnaa
