/-
  The laws of the lexer over plain texts: cuts of a whole text; coverage; tokens written with other gaps.
-/
import Derived.Test.YtplahgcbeanfnaaLxU
namespace Go.Proofs.Ytplahgcbeanfnaa

theorem lexT_cut_err (s : Bs) (k q : Nat) (h : (lexT s).2 = some (k, q)) : q < s.length ∧ (lexT (s.take q)).2 = none := by
  unfold lexT at h
  have hg := gapL_le s
  have hd : (s.drop (gapL s)).length = s.length - gapL s := List.length_drop
  obtain ⟨a1, a2, a3⟩ := cut_err _ _ _ _ (by omega) k q h
  refine ⟨by omega, ?_⟩
  unfold lexT
  rw [gapL_take, Nat.min_eq_left a1, List.drop_take, lexF_fuel ((s.take q).length + 1) (s.length + 1) _ _ _ (by rw [List.length_take, List.length_take]; omega) (by rw [List.length_take]; omega)]
  exact a3 _ (by omega)
theorem lexT_cut_tok (s : Bs) (j : Nat) (h : j < (lexT s).1.length) : 0 < (lexT s).1[j].text.length ∧ (lexT s).1[j].pos + (lexT s).1[j].text.length ≤ s.length ∧
    lexT (s.take ((lexT s).1[j].pos + (lexT s).1[j].text.length)) = ((lexT s).1.take (j + 1), none) := by
  have hg := gapL_le s
  have hd : (s.drop (gapL s)).length = s.length - gapL s := List.length_drop
  have C : ∀ j (h : j < (lexT s).1.length), gapL s ≤ (lexT s).1[j].pos ∧ 0 < (lexT s).1[j].text.length ∧ (lexT s).1[j].pos + (lexT s).1[j].text.length ≤ gapL s + (s.drop (gapL s)).length ∧
    ∀ F, (s.drop (gapL s)).length ≤ F → lexF F (gapL s) 0 ((s.drop (gapL s)).take ((lexT s).1[j].pos + (lexT s).1[j].text.length - gapL s)) = ((lexT s).1.take (j + 1), none) := cut_tok (s.length + 1) (gapL s) 0 (s.drop (gapL s)) (by omega)
  obtain ⟨a1, a2, a3, a4⟩ := C j h
  generalize lexT s = X at *
  generalize X.1[j] = t at *
  refine ⟨a2, by omega, ?_⟩
  unfold lexT
  rw [gapL_take, Nat.min_eq_left (by omega), List.drop_take, lexF_fuel ((s.take (t.pos + t.text.length)).length + 1) (s.length + 1) _ _ _ (by rw [List.length_take, List.length_take]; omega) (by rw [List.length_take]; omega), a4 _ (by omega)]

/- coverage -/
/-- what is left behind the offset en, the k-th token coming next -/
def leftF (s : Bs) (en k : Nat) : List Tok × Option (Nat × Nat) := lexF (s.length + 1) (en + gapL (s.drop en)) k (s.drop (en + gapL (s.drop en)))
theorem left_zero (s : Bs) : leftF s 0 0 = lexT s := by unfold leftF lexT; simp
theorem left_next {s : Bs} {en k : Nat} {t : Tok} {ts : List Tok} (h : (leftF s en k).1 = t :: ts) (h2 : (leftF s en k).2 = none) :
    t.pos = en + gapL (s.drop en) ∧ 0 < t.text.length ∧ t.pos + t.text.length ≤ s.length ∧ t.text = (s.drop t.pos).take t.text.length ∧ (leftF s (t.pos + t.text.length) (k + 1)).1 = ts ∧ (leftF s (t.pos + t.text.length) (k + 1)).2 = none := by
  unfold leftF at h h2
  have hg := gapL_le (s.drop en)
  rw [List.length_drop] at hg
  by_cases h0 : s.drop (en + gapL (s.drop en)) = []
  · rw [h0, lexF_nil] at h; cases h
  · by_cases ht : tokN (s.drop (en + gapL (s.drop en))) = 0
    · rw [lexF_bad _ _ _ h0 ht] at h; cases h
    · by_cases hn : k = 2000
      · subst hn; rw [lexF_full _ _ h0 ht] at h; cases h
      · rw [lexF_succ _ _ _ h0 ht hn] at h h2
        obtain ⟨rfl, hts⟩ := List.cons.inj h
        generalize hp : en + gapL (s.drop en) = p at *
        have hle := tokN_le (s.drop p)
        have hdp : (s.drop p).length = s.length - p := List.length_drop
        have hlt : ((s.drop p).take (tokN (s.drop p))).length = tokN (s.drop p) := by rw [List.length_take]; omega
        have hpp : p < s.length := by
          rcases Nat.lt_or_ge p s.length with h | h
          · exact h
          · exact (h0 (List.drop_of_length_le h)).elim
        simp only [hlt]
        refine ⟨trivial, by omega, by omega, trivial, ?_, ?_⟩
        · rw [← hts]
          unfold leftF
          rw [List.drop_drop, List.drop_drop, lexF_fuel s.length (s.length + 1) _ _ _ (by rw [List.length_drop]; omega) (by rw [List.length_drop]; omega)]
        · rw [← h2]
          unfold leftF
          rw [List.drop_drop, List.drop_drop, lexF_fuel s.length (s.length + 1) _ _ _ (by rw [List.length_drop]; omega) (by rw [List.length_drop]; omega)]
theorem left_end {s : Bs} {en k : Nat} (hen : en ≤ s.length) (h : (leftF s en k).1 = []) (h2 : (leftF s en k).2 = none) : gapL (s.drop en) = s.length - en := by
  unfold leftF at h h2
  have hg := gapL_le (s.drop en)
  rw [List.length_drop] at hg
  by_cases h0 : s.drop (en + gapL (s.drop en)) = []
  · have := congrArg List.length h0
    rw [List.length_drop] at this
    simp at this
    omega
  · by_cases ht : tokN (s.drop (en + gapL (s.drop en))) = 0
    · rw [lexF_bad _ _ _ h0 ht] at h2; cases h2
    · by_cases hn : k = 2000
      · subst hn; rw [lexF_full _ _ h0 ht] at h2; cases h2
      · rw [lexF_succ _ _ _ h0 ht hn] at h; cases h

/- tokens written with other gaps -/
/-- the gaps that the law takes -/
def gapTxt (n : Nat) : Bs := if n = 0 then [32] else if n = 1 then [9, 10] else if n = 2 then [37, 32, 120, 10] else if n = 3 then [32, 32, 13] else [10, 37, 10, 32]
def joinR : List Tok → List Nat → Bs
  | t :: ts, n :: ns => t.text ++ (gapTxt n ++ joinR ts ns)
  | _, _ => []
theorem gapTxt_len (n : Nat) : (gapTxt n).length ≤ 4 := by unfold gapTxt; repeat' split
                                                           all_goals decide
theorem gapTxt_app (n : Nat) (y : Bs) : gapL (gapTxt n ++ y) = (gapTxt n).length + gapL y := by
  unfold gapTxt gapL
  repeat' split
  all_goals simp [gapS, blankB]
  all_goals omega
theorem gapTxt_head (n : Nat) (y : Bs) : ∃ c r, gapTxt n ++ y = c :: r ∧ (blankB c = true ∨ c.toNat = 37) := by
  unfold gapTxt
  repeat' split
  · exact ⟨_, _, rfl, .inl (by decide)⟩
  · exact ⟨_, _, rfl, .inl (by decide)⟩
  · exact ⟨_, _, rfl, .inr (by decide)⟩
  · exact ⟨_, _, rfl, .inl (by decide)⟩
  · exact ⟨_, _, rfl, .inl (by decide)⟩
theorem joinR_snoc : ∀ (ts : List Tok) (ns : List Nat) (t : Tok) (n : Nat), ts.length = ns.length → joinR (ts ++ [t]) (ns ++ [n]) = joinR ts ns ++ t.text ++ gapTxt n := by
  intro ts
  induction ts with
  | nil => intro ns t n h; obtain rfl := List.eq_nil_of_length_eq_zero h.symm; simp [joinR]
  | cons x ts ih =>
    intro ns t n h
    cases ns with
    | nil => simp at h
    | cons m ns =>
      rw [List.cons_append, List.cons_append, joinR, joinR, ih ns t n (by simpa using h)]
      simp
theorem lexF_first {f p n : Nat} {l : Bs} {t : Tok} {ts : List Tok} (h : (lexF f p n l).1 = t :: ts) : ∃ c r, t.text = c :: r ∧ blankB c = false ∧ c.toNat ≠ 37 := by
  cases f with
  | zero => rw [lexF_zero] at h; cases h
  | succ f =>
    by_cases h0 : l = []
    · subst h0; rw [lexF_nil] at h; cases h
    · by_cases ht : tokN l = 0
      · rw [lexF_bad _ _ _ h0 ht] at h; cases h
      · by_cases hn : n = 2000
        · subst hn; rw [lexF_full _ _ h0 ht] at h; cases h
        · rw [lexF_succ _ _ _ h0 ht hn] at h
          obtain ⟨rfl, -⟩ := List.cons.inj h
          obtain ⟨c, r, rfl, h1, h2⟩ := tok_head ht
          obtain ⟨m, hm⟩ : ∃ m, tokN (c :: r) = m + 1 := ⟨tokN (c :: r) - 1, by omega⟩
          exact ⟨c, r.take m, by rw [hm]; rfl, h1, h2⟩
theorem join_nogap {f p n : Nat} {l : Bs} (ns : List Nat) : gapL (joinR (lexF f p n l).1 ns) = 0 := by
  cases h : (lexF f p n l).1 with
  | nil => simp [joinR, gapL, gapS]
  | cons t ts =>
    cases ns with
    | nil => simp [joinR, gapL, gapS]
    | cons m ns =>
      obtain ⟨c, r, hx, h1, h2⟩ := lexF_first h
      rw [joinR, hx]
      exact gapS_none h1 h2
theorem join_len : ∀ (f p n : Nat) (l : Bs), l.length ≤ f → ∀ k (ns : List Nat), (joinR ((lexF f p n l).1.take k) ns).length ≤ 5 * l.length := by
  intro f
  induction f with
  | zero => intro p n l _ k ns; simp [lexF_zero, joinR]
  | succ f ih =>
    intro p n l hl k ns
    by_cases h0 : l = []
    · subst h0; simp [lexF_nil, joinR]
    · have hlp := List.length_pos_iff.2 h0
      by_cases ht : tokN l = 0
      · simp [lexF_bad _ _ _ h0 ht, joinR]
      · by_cases hn : n = 2000
        · subst hn; simp [lexF_full _ _ h0 ht, joinR]
        · rw [lexF_succ _ _ _ h0 ht hn]
          cases k with
          | zero => simp [joinR]
          | succ k =>
            cases ns with
            | nil => simp [joinR]
            | cons m ns =>
              rw [List.take_succ_cons, joinR]
              have hle := tokN_le l
              have hdd : ((l.drop (tokN l)).drop (gapL (l.drop (tokN l)))).length = l.length - tokN l - gapL (l.drop (tokN l)) := by rw [List.length_drop, List.length_drop]
              have := ih (p + tokN l + gapL (l.drop (tokN l))) (n + 1) ((l.drop (tokN l)).drop (gapL (l.drop (tokN l)))) (by omega) k ns
              have h4 := gapTxt_len m
              rw [List.length_append, List.length_append, List.length_take]
              omega
def kt (t : Tok) : Nat × Bs := (t.kind, t.text)
theorem join_lex : ∀ (f p n : Nat) (l : Bs), l.length ≤ f → (lexF f p n l).2 = none → ∀ ns : List Nat, ns.length = (lexF f p n l).1.length → ∀ F q, (joinR (lexF f p n l).1 ns).length ≤ F →
    (lexF F q n (joinR (lexF f p n l).1 ns)).2 = none ∧ (lexF f p n l).1.map kt = (lexF F q n (joinR (lexF f p n l).1 ns)).1.map kt := by
  intro f
  induction f with
  | zero => intro p n l _ _ ns _ F q _; simp [lexF_zero, joinR, lexF_nil]
  | succ f ih =>
    intro p n l hl h ns hns F q hF
    by_cases h0 : l = []
    · subst h0; simp [joinR, lexF_nil]
    · have hlp := List.length_pos_iff.2 h0
      by_cases ht : tokN l = 0
      · rw [lexF_bad _ _ _ h0 ht] at h; cases h
      · by_cases hn : n = 2000
        · subst hn; rw [lexF_full _ _ h0 ht] at h; cases h
        · rw [lexF_succ _ _ _ h0 ht hn] at h hns hF ⊢
          have hle := tokN_le l
          have hdd : ((l.drop (tokN l)).drop (gapL (l.drop (tokN l)))).length = l.length - tokN l - gapL (l.drop (tokN l)) := by rw [List.length_drop, List.length_drop]
          have IH := ih (p + tokN l + gapL (l.drop (tokN l))) (n + 1) ((l.drop (tokN l)).drop (gapL (l.drop (tokN l)))) (by omega) h
          have hng := fun ns => join_nogap (f := f) (p := p + tokN l + gapL (l.drop (tokN l))) (n := n + 1) (l := (l.drop (tokN l)).drop (gapL (l.drop (tokN l)))) ns
          generalize lexF f (p + tokN l + gapL (l.drop (tokN l))) (n + 1) ((l.drop (tokN l)).drop (gapL (l.drop (tokN l)))) = X at *
          cases ns with
          | nil => simp at hns
          | cons m ns =>
            have htl : (l.take (tokN l)).length = tokN l := by rw [List.length_take]; omega
            rw [joinR] at hF ⊢
            simp only at hF ⊢
            obtain ⟨c, r, hcr, hc⟩ := gapTxt_head m (joinR X.1 ns)
            obtain ⟨t1, t2⟩ := tok_app (r' := gapTxt m ++ joinR X.1 ns) ht (.inr (.inl ⟨c, r, hcr, hc⟩))
            have hne : l.take (tokN l) ++ (gapTxt m ++ joinR X.1 ns) ≠ [] := by rw [hcr]; simp
            have hd1 : (l.take (tokN l) ++ (gapTxt m ++ joinR X.1 ns)).drop (tokN l) = gapTxt m ++ joinR X.1 ns := List.drop_left' htl
            have hk1 : (l.take (tokN l) ++ (gapTxt m ++ joinR X.1 ns)).take (tokN l) = l.take (tokN l) := List.take_left' htl
            have hg1 : gapL (gapTxt m ++ joinR X.1 ns) = (gapTxt m).length := by rw [gapTxt_app, hng]; rfl
            obtain ⟨F, rfl⟩ : ∃ F', F = F' + 1 := ⟨F - 1, by rw [List.length_append, htl] at hF; omega⟩
            rw [lexF_succ _ _ _ hne (by rw [t1]; exact ht) hn, t1, t2, hd1, hk1, hg1, List.drop_left]
            obtain ⟨b1, b2⟩ := IH ns (by simpa using hns) F (q + tokN l + (gapTxt m).length) (by rw [List.length_append, List.length_append, htl] at hF; omega)
            exact ⟨b1, by rw [List.map_cons, List.map_cons, b2]; rfl⟩
theorem lexT_join (s : Bs) (h : (lexT s).2 = none) (n0 : Nat) (ns : List Nat) (hns : ns.length = (lexT s).1.length) :
    (lexT (gapTxt n0 ++ joinR (lexT s).1 ns)).2 = none ∧ (lexT s).1.map kt = (lexT (gapTxt n0 ++ joinR (lexT s).1 ns)).1.map kt := by
  have hd : (s.drop (gapL s)).length = s.length - gapL s := List.length_drop
  have e : lexT s = lexF (s.length + 1) (gapL s) 0 (s.drop (gapL s)) := rfl
  have hng : gapL (joinR (lexT s).1 ns) = 0 := by rw [e]; exact join_nogap ns
  have hX : lexT (gapTxt n0 ++ joinR (lexT s).1 ns) = lexF ((gapTxt n0 ++ joinR (lexT s).1 ns).length + 1) (gapTxt n0).length 0 (joinR (lexT s).1 ns) := by
    show lexF ((gapTxt n0 ++ joinR (lexT s).1 ns).length + 1) (gapL (gapTxt n0 ++ joinR (lexT s).1 ns)) 0 ((gapTxt n0 ++ joinR (lexT s).1 ns).drop (gapL (gapTxt n0 ++ joinR (lexT s).1 ns))) = _
    rw [gapTxt_app, hng]
    simp only [Nat.add_zero]
    rw [List.drop_left]
  rw [hX]
  rw [e] at h hns ⊢
  exact join_lex _ _ _ _ (by omega) h ns hns _ _ (by rw [List.length_append]; omega)
theorem join_size (s : Bs) (n0 k : Nat) (ns : List Nat) : (gapTxt n0 ++ joinR ((lexT s).1.take k) ns).length ≤ 4 + 5 * s.length := by
  have hd : (s.drop (gapL s)).length = s.length - gapL s := List.length_drop
  have := join_len (s.length + 1) (gapL s) 0 (s.drop (gapL s)) (by omega) k ns
  have h4 := gapTxt_len n0
  rw [List.length_append]
  unfold lexT
  omega

/-- the errors' codes -/
theorem lexF_code : ∀ (f p n : Nat) (l : Bs) k q, (lexF f p n l).2 = some (k, q) → k = 40 ∨ k = 2 := by
  intro f
  induction f with
  | zero => intro p n l k q h; rw [lexF_zero] at h; cases h
  | succ f ih =>
    intro p n l k q h
    by_cases h0 : l = []
    · subst h0; rw [lexF_nil] at h; cases h
    · by_cases ht : tokN l = 0
      · rw [lexF_bad _ _ _ h0 ht] at h; cases h; exact .inl rfl
      · by_cases hn : n = 2000
        · subst hn; rw [lexF_full _ _ h0 ht] at h; cases h; exact .inr rfl
        · rw [lexF_succ _ _ _ h0 ht hn] at h; exact ih _ _ _ _ _ h
theorem lexT_code {s : Bs} {k q : Nat} (h : (lexT s).2 = some (k, q)) : ((k : Int) == 0) = false ∧ ((k : Int) != 0) = true := by
  rcases lexF_code _ _ _ _ _ _ h with rfl | rfl <;> decide

/-- no more tokens than bytes -/
theorem lexF_len : ∀ (f p n : Nat) (l : Bs), l.length ≤ f → (lexF f p n l).1.length ≤ l.length := by
  intro f
  induction f with
  | zero => intro p n l _; simp [lexF_zero]
  | succ f ih =>
    intro p n l hl
    by_cases h0 : l = []
    · subst h0; simp [lexF_nil]
    · have hlp := List.length_pos_iff.2 h0
      by_cases ht : tokN l = 0
      · simp [lexF_bad _ _ _ h0 ht]
      · by_cases hn : n = 2000
        · subst hn; simp [lexF_full _ _ h0 ht]
        · rw [lexF_succ _ _ _ h0 ht hn, List.length_cons]
          have hdd : ((l.drop (tokN l)).drop (gapL (l.drop (tokN l)))).length = l.length - tokN l - gapL (l.drop (tokN l)) := by rw [List.length_drop, List.length_drop]
          have := ih (p + tokN l + gapL (l.drop (tokN l))) (n + 1) ((l.drop (tokN l)).drop (gapL (l.drop (tokN l)))) (by omega)
          omega
theorem toks_count {s : Bs} {A : List Tok} {x : Option (Nat × Nat)} (h : lexT s = (A, x)) : A.length ≤ s.length := by
  have hd : (s.drop (gapL s)).length = s.length - gapL s := List.length_drop
  have := lexF_len (s.length + 1) (gapL s) 0 (s.drop (gapL s)) (by omega)
  rw [show lexF (s.length + 1) (gapL s) 0 (s.drop (gapL s)) = (A, x) from h] at this
  simp only at this
  omega

end Go.Proofs.Ytplahgcbeanfnaa
