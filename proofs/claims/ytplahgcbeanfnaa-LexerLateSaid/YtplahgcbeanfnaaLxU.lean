/-
  The laws of the lexer over plain texts.
-/
import Derived.Test.YtplahgcbeanfnaaLxT
namespace Go.Proofs.Ytplahgcbeanfnaa

def shiftT (d : Nat) (t : Tok) : Tok := ⟨t.kind, t.text, t.pos + d⟩
theorem lexF_shift (d : Nat) : ∀ (f p n : Nat) (l : Bs), lexF f (p + d) n l = ((lexF f p n l).1.map (shiftT d), (lexF f p n l).2.map fun x => (x.1, x.2 + d)) := by
  intro f
  induction f with
  | zero => intro p n l; rfl
  | succ f ih =>
    intro p n l
    by_cases h0 : l = []
    · subst h0; simp [lexF_nil]
    · by_cases ht : tokN l = 0
      · rw [lexF_bad _ _ _ h0 ht, lexF_bad _ _ _ h0 ht]; rfl
      · by_cases hn : n = 2000
        · subst hn; rw [lexF_full _ _ h0 ht, lexF_full _ _ h0 ht]; rfl
        · rw [lexF_succ _ _ _ h0 ht hn, lexF_succ _ _ _ h0 ht hn]
          rw [show p + d + tokN l + gapL (l.drop (tokN l)) = p + tokN l + gapL (l.drop (tokN l)) + d by omega, ih]
          rfl
theorem lexF_count (n' : Nat) : ∀ (f p n : Nat) (l : Bs), (lexF f p n l).2 = none → n' + (lexF f p n l).1.length ≤ 2000 → lexF f p n' l = lexF f p n l := by
  intro f
  induction f generalizing n' with
  | zero => intro p n l _ _; rfl
  | succ f ih =>
    intro p n l h hc
    by_cases h0 : l = []
    · subst h0; simp [lexF_nil]
    · by_cases ht : tokN l = 0
      · rw [lexF_bad _ _ _ h0 ht] at h; cases h
      · by_cases hn : n = 2000
        · subst hn; rw [lexF_full _ _ h0 ht] at h; cases h
        · rw [lexF_succ _ _ _ h0 ht hn] at h hc ⊢
          rw [List.length_cons] at hc
          rw [lexF_succ _ _ _ h0 ht (by omega), ih (n' + 1) _ _ _ h (by omega)]

/-- the text goes on behind a line feed: the first error stays -/
theorem lexT_line_err (s m : Bs) (k q : Nat) (h : (lexT s).2 = some (k, q)) : lexT (s ++ 10 :: m) = lexT s := by
  unfold lexT at h ⊢
  have hg := gapL_le s
  rcases Nat.lt_or_ge (gapL s) s.length with hlt | hge
  · have hgs : gapL (s ++ 10 :: m) = gapL s := gapS_stop _ _ _ hlt
    rw [hgs, drop_line _ _ _ hg]
    exact line_err m _ _ _ _ (by rw [List.length_drop]; omega) k q h _ (by rw [List.length_append, List.length_append, List.length_drop]; omega)
  · rw [List.drop_of_length_le hge, lexF_nil] at h; cases h
theorem lexT_line_ok (s m : Bs) (h : (lexT s).2 = none) (F : Nat) (hF : m.length ≤ F) : lexT (s ++ 10 :: m) = ((lexT s).1 ++ (lexF F (s.length + 1 + gapL m) (lexT s).1.length (m.drop (gapL m))).1, (lexF F (s.length + 1 + gapL m) (lexT s).1.length (m.drop (gapL m))).2) := by
  have hg := gapL_le s
  have hml : (m.drop (gapL m)).length ≤ F := by rw [List.length_drop]; omega
  rcases Nat.lt_or_ge (gapL s) s.length with hlt | hge
  · unfold lexT at h ⊢
    have hgs : gapL (s ++ 10 :: m) = gapL s := gapS_stop _ _ _ hlt
    have hd : (s.drop (gapL s)).length = s.length - gapL s := List.length_drop
    rw [hgs, drop_line _ _ _ hg, line_ok m (s.length + 1) _ _ _ (by intro e; rw [e] at hd; simp at hd; omega) (by omega) h _ (by rw [List.length_append, List.length_append, hd]; omega)]
    rw [hd, show gapL s + (s.length - gapL s) + 1 + gapL m = s.length + 1 + gapL m by omega, Nat.zero_add,
      lexF_fuel ((s ++ 10 :: m).length + 1) F _ _ _ (by rw [List.length_drop, List.length_append, List.length_cons]; omega) hml]
  · have hall : gapL s = s.length := by omega
    have hs : lexT s = ([], none) := by unfold lexT; rw [List.drop_of_length_le hge, lexF_nil]
    have hgl : gapL (s ++ 10 :: m) = s.length + 1 + gapL m := gapS_line _ _ _ hall
    have hdr : (s ++ 10 :: m).drop (s.length + 1 + gapL m) = m.drop (gapL m) := by
      rw [show s.length + 1 + gapL m = s.length + (1 + gapL m) by omega, ← List.drop_drop, List.drop_left, show 1 + gapL m = gapL m + 1 by omega, List.drop_succ_cons]
    rw [hs]
    unfold lexT
    rw [hgl, hdr, lexF_fuel ((s ++ 10 :: m).length + 1) F _ _ _ (by rw [List.length_drop, List.length_append, List.length_cons]; omega) hml]
    rfl
/-- two texts -/
theorem lexT_concat (s t : Bs) (h1 : (lexT s).2 = none) (h2 : (lexT t).2 = none) (hn : (lexT s).1.length + (lexT t).1.length ≤ 2000) : lexT (s ++ 10 :: t) = ((lexT s).1 ++ (lexT t).1.map (shiftT (s.length + 1)), none) := by
  rw [lexT_line_ok s t h1 (t.length + 1) (by omega)]
  have e := lexF_shift (s.length + 1) (t.length + 1) (gapL t) (lexT s).1.length (t.drop (gapL t))
  have hc : lexF (t.length + 1) (gapL t) (lexT s).1.length (t.drop (gapL t)) = lexT t := lexF_count _ _ _ 0 _ h2 hn
  rw [hc] at e
  rw [show s.length + 1 + gapL t = gapL t + (s.length + 1) by omega, e, h2]
  rfl

/- cuts -/
theorem near_take (l : Bs) (c : Nat) : Near l ((l.drop (tokN l)).take c) := by
  cases c with
  | zero => exact .inl (List.take_zero ..)
  | succ c =>
    cases h : l.drop (tokN l) with
    | nil => exact .inl rfl
    | cons x r => exact .inr (.inr ⟨x, r.take c, r, rfl, h⟩)
theorem take_split (l : Bs) (n c : Nat) (h : n ≤ c) : l.take c = l.take n ++ (l.drop n).take (c - n) := by
  conv => lhs; rw [show c = n + (c - n) by omega]
  exact List.take_add

theorem cut_step (p n c F : Nat) (l : Bs) (h0 : l ≠ []) (ht : tokN l ≠ 0) (hn : n ≠ 2000) (hc : tokN l ≤ c) : 
    lexF (F + 1) p n (l.take c) = (⟨tokK l, l.take (tokN l), p⟩ :: (lexF F (p + tokN l + min (gapL (l.drop (tokN l))) (c - tokN l)) (n + 1) (((l.drop (tokN l)).drop (min (gapL (l.drop (tokN l))) (c - tokN l))).take (c - tokN l - min (gapL (l.drop (tokN l))) (c - tokN l)))).1,
      (lexF F (p + tokN l + min (gapL (l.drop (tokN l))) (c - tokN l)) (n + 1) (((l.drop (tokN l)).drop (min (gapL (l.drop (tokN l))) (c - tokN l))).take (c - tokN l - min (gapL (l.drop (tokN l))) (c - tokN l)))).2) := by
  have hs := take_split l (tokN l) c hc
  obtain ⟨t1, t2⟩ := tok_app ht (near_take l (c - tokN l))
  rw [← hs] at t1 t2
  have hne : l.take c ≠ [] := by
    intro e
    have := congrArg List.length e
    rw [List.length_take] at this
    have h3 := List.length_pos_iff.2 h0
    simp at this
    rcases this with h | h
    · omega
    · exact h0 h
  have hd : (l.take c).drop (tokN l) = (l.drop (tokN l)).take (c - tokN l) := List.drop_take
  have htk : (l.take c).take (tokN l) = l.take (tokN l) := by rw [List.take_take, Nat.min_eq_left hc]
  rw [lexF_succ _ _ _ hne (by rw [t1]; exact ht) hn, t1, t2, hd, gapL_take, htk, List.drop_take]

theorem cut_err : ∀ (f p n : Nat) (l : Bs), l.length ≤ f → ∀ k q, (lexF f p n l).2 = some (k, q) → p ≤ q ∧ q < p + l.length ∧ ∀ F, l.length ≤ F → (lexF F p n (l.take (q - p))).2 = none := by
  intro f
  induction f with
  | zero => intro p n l _ k q h; rw [lexF_zero] at h; cases h
  | succ f ih =>
    intro p n l hl k q h
    by_cases h0 : l = []
    · subst h0; rw [lexF_nil] at h; cases h
    · have hlp := List.length_pos_iff.2 h0
      by_cases ht : tokN l = 0
      · rw [lexF_bad _ _ _ h0 ht] at h; cases h
        exact ⟨Nat.le_refl _, by omega, fun F _ => by rw [Nat.sub_self, List.take_zero, lexF_nil]⟩
      · by_cases hn : n = 2000
        · subst hn; rw [lexF_full _ _ h0 ht] at h; cases h
          exact ⟨Nat.le_refl _, by omega, fun F _ => by rw [Nat.sub_self, List.take_zero, lexF_nil]⟩
        · rw [lexF_succ _ _ _ h0 ht hn] at h
          have hle := tokN_le l
          have hg := gapL_le (l.drop (tokN l))
          have hdl : (l.drop (tokN l)).length = l.length - tokN l := List.length_drop
          have hdd : ((l.drop (tokN l)).drop (gapL (l.drop (tokN l)))).length = l.length - tokN l - gapL (l.drop (tokN l)) := by rw [List.length_drop, List.length_drop]
          obtain ⟨a1, a2, a3⟩ := ih _ _ _ (by omega) k q h
          refine ⟨by omega, by omega, fun F hF => ?_⟩
          obtain ⟨F, rfl⟩ : ∃ F', F = F' + 1 := ⟨F - 1, by omega⟩
          rw [cut_step p n (q - p) F l h0 ht hn (by omega)]
          have hm : min (gapL (l.drop (tokN l))) (q - p - tokN l) = gapL (l.drop (tokN l)) := by omega
          rw [hm]
          have := a3 F (by omega)
          rwa [show q - (p + tokN l + gapL (l.drop (tokN l))) = q - p - tokN l - gapL (l.drop (tokN l)) by omega] at this

theorem cut_tok : ∀ (f p n : Nat) (l : Bs), l.length ≤ f → ∀ j (h : j < (lexF f p n l).1.length), p ≤ (lexF f p n l).1[j].pos ∧ 0 < (lexF f p n l).1[j].text.length ∧ (lexF f p n l).1[j].pos + (lexF f p n l).1[j].text.length ≤ p + l.length ∧
    ∀ F, l.length ≤ F → lexF F p n (l.take ((lexF f p n l).1[j].pos + (lexF f p n l).1[j].text.length - p)) = ((lexF f p n l).1.take (j + 1), none) := by
  intro f
  induction f with
  | zero => intro p n l _ j h; simp [lexF_zero] at h
  | succ f ih =>
    intro p n l hl j h
    by_cases h0 : l = []
    · subst h0; simp [lexF_nil] at h
    · have hlp := List.length_pos_iff.2 h0
      by_cases ht : tokN l = 0
      · simp [lexF_bad _ _ _ h0 ht] at h
      · by_cases hn : n = 2000
        · subst hn; simp [lexF_full _ _ h0 ht] at h
        · have hX := lexF_succ f p n h0 ht hn
          have hle := tokN_le l
          have hg := gapL_le (l.drop (tokN l))
          have hdl : (l.drop (tokN l)).length = l.length - tokN l := List.length_drop
          have hdd : ((l.drop (tokN l)).drop (gapL (l.drop (tokN l)))).length = l.length - tokN l - gapL (l.drop (tokN l)) := by rw [List.length_drop, List.length_drop]
          have htl : (l.take (tokN l)).length = tokN l := by rw [List.length_take]; omega
          have IH := ih (p + tokN l + gapL (l.drop (tokN l))) (n + 1) ((l.drop (tokN l)).drop (gapL (l.drop (tokN l)))) (by omega)
          generalize hY : lexF f (p + tokN l + gapL (l.drop (tokN l))) (n + 1) ((l.drop (tokN l)).drop (gapL (l.drop (tokN l)))) = Y at hX IH
          generalize lexF (f + 1) p n l = X at hX h ⊢
          subst hX
          cases j with
          | zero =>
            simp only [List.getElem_cons_zero, htl]
            refine ⟨Nat.le_refl _, by omega, by omega, fun F hF => ?_⟩
            obtain ⟨F, rfl⟩ : ∃ F', F = F' + 1 := ⟨F - 1, by omega⟩
            rw [show p + tokN l - p = tokN l by omega, cut_step p n (tokN l) F l h0 ht hn (Nat.le_refl _)]
            rw [Nat.sub_self, Nat.min_zero, Nat.sub_zero, List.take_zero, lexF_nil]
            rfl
          | succ j =>
            simp only [List.getElem_cons_succ]
            obtain ⟨a1, a2, a3, a4⟩ := IH j (by simpa using h)
            refine ⟨by omega, a2, by omega, fun F hF => ?_⟩
            obtain ⟨F, rfl⟩ : ∃ F', F = F' + 1 := ⟨F - 1, by omega⟩
            generalize Y.1[j]'(by simpa using h) = t at *
            rw [cut_step p n _ F l h0 ht hn (by omega)]
            have hm : min (gapL (l.drop (tokN l))) (t.pos + t.text.length - p - tokN l) = gapL (l.drop (tokN l)) := by omega
            rw [hm]
            have := a4 F (by omega)
            rw [show t.pos + t.text.length - (p + tokN l + gapL (l.drop (tokN l))) = t.pos + t.text.length - p - tokN l - gapL (l.drop (tokN l)) by omega] at this
            rw [this]
            rfl

end Go.Proofs.Ytplahgcbeanfnaa
