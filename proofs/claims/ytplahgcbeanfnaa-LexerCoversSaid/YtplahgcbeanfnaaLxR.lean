/-
  Tokens depend on their bytes and the next one alone; texts that are cut; texts that go on behind a line feed.
-/
import Derived.Test.YtplahgcbeanfnaaLxQ
namespace Go.Proofs.Ytplahgcbeanfnaa

/-- nothing, or a byte that p refuses -/
def offB (p : UInt8 → Bool) : Bs → Bool
  | [] => true
  | c :: _ => !p c

theorem off_drop (p : UInt8 → Bool) (l : Bs) : offB p (l.drop (spanL p l)) = true := by
  induction l with
  | nil => rfl
  | cons c r ih =>
    rw [spanL_cons]
    cases h : p c
    · simp [offB, h]
    · simpa using ih
theorem span_app (p : UInt8 → Bool) (l r : Bs) (h : offB p r = true) : spanL p (l.take (spanL p l) ++ r) = spanL p l := by
  induction l with
  | nil =>
    cases r with
    | nil => rfl
    | cons c r => simp [offB] at h; simp [spanL_nil, spanL_cons, h]
  | cons c l ih =>
    rw [spanL_cons]
    cases hc : p c
    · cases r with
      | nil => rfl
      | cons d r => simp [offB] at h; simp [spanL_cons, h]
    · simp only [if_true, List.take_succ_cons, List.cons_append, spanL_cons, hc, ih]

/-- the byte behind a token: none, a gap's, or the one that stood there -/
def Near (l r' : Bs) : Prop := r' = [] ∨ (∃ c r, r' = c :: r ∧ (blankB c = true ∨ c.toNat = 37)) ∨ ∃ c r r0, r' = c :: r ∧ l.drop (tokN l) = c :: r0

theorem gap_off {c : UInt8} (h : blankB c = true ∨ c.toNat = 37) : contB c = false ∧ digB c = false ∧ letB c = false ∧ c.toNat ≠ 95 ∧ c ≠ 62 ∧ c ≠ 61 := by
  have h' : c.toNat = 32 ∨ c.toNat = 9 ∨ c.toNat = 10 ∨ c.toNat = 13 ∨ c.toNat = 37 := by
    rcases h with h | h
    · simp [blankB] at h; omega
    · omega
  have hx : c = 32 ∨ c = 9 ∨ c = 10 ∨ c = 13 ∨ c = 37 := by
    rcases h' with h | h | h | h | h
    · left; exact UInt8.toNat_inj.1 h
    · right; left; exact UInt8.toNat_inj.1 h
    · right; right; left; exact UInt8.toNat_inj.1 h
    · right; right; right; left; exact UInt8.toNat_inj.1 h
    · right; right; right; right; exact UInt8.toNat_inj.1 h
  rcases hx with rfl | rfl | rfl | rfl | rfl <;> decide

theorem off_near {l r' : Bs} (p : UInt8 → Bool) (hp : ∀ c, (blankB c = true ∨ c.toNat = 37) → p c = false) (hd : offB p (l.drop (tokN l)) = true) (h : Near l r') : offB p r' = true := by
  rcases h with rfl | ⟨c, r, rfl, hc⟩ | ⟨c, r, r0, rfl, hc⟩
  · rfl
  · simp [offB, hp c hc]
  · rw [hc] at hd; exact hd

theorem nameL_pos {l : Bs} (h : nameL l ≠ 0) : ∃ c r, l = c :: r ∧ letB c = true ∧ spanL contB r + 1 ≤ 20 ∧ nameL l = spanL contB r + 1 := by
  cases l with
  | nil => exact (h rfl).elim
  | cons c r =>
    simp only [nameL] at h ⊢
    cases hc : letB c
    · rw [hc] at h; simp at h
    · rw [hc] at h
      by_cases h2 : 20 < spanL contB r + 1
      · simp [h2] at h
      · exact ⟨c, r, rfl, hc, by omega, by simp [h2]⟩
theorem numL_pos {l : Bs} (h : numL l ≠ 0) : spanL digB l ≤ 4 ∧ ¬ (1 < spanL digB l ∧ headZ l = true) ∧ glued (l.drop (spanL digB l)) = false ∧ numL l = spanL digB l ∧ 0 < spanL digB l := by
  unfold numL at h ⊢
  by_cases h1 : 4 < spanL digB l
  · rw [if_pos h1] at h; exact (h rfl).elim
  · rw [if_neg h1] at h ⊢
    by_cases h2 : (decide (1 < spanL digB l) && headZ l) = true
    · rw [if_pos h2] at h; exact (h rfl).elim
    · rw [if_neg h2] at h ⊢
      cases h3 : glued (l.drop (spanL digB l))
      · rw [h3] at h
        simp only [Bool.false_eq_true, if_false] at h ⊢
        refine ⟨by omega, by simpa using h2, trivial, trivial, by omega⟩
      · rw [h3] at h; simp at h

theorem dig_head {l : Bs} (h : 0 < spanL digB l) : ∃ c r, l = c :: r ∧ digB c = true := by
  cases l with
  | nil => simp [spanL_nil] at h
  | cons c r =>
    rw [spanL_cons] at h
    cases hc : digB c
    · rw [hc] at h; simp at h
    · exact ⟨c, r, rfl, hc⟩
theorem dig_let {c : UInt8} (h : digB c = true) : letB c = false := by
  simp [digB] at h
  simp [letB, smallB, bigB]
  omega
theorem one_off {c : UInt8} (h : oneB c = true ∨ c = 45) : letB c = false ∧ digB c = false ∧ blankB c = false ∧ c.toNat ≠ 37 := by
  rcases h with h | rfl
  · have : c = 40 ∨ c = 41 ∨ c = 123 ∨ c = 125 ∨ c = 91 ∨ c = 93 ∨ c = 44 ∨ c = 59 ∨ c = 58 ∨ c = 61 ∨ c = 33 ∨ c = 38 ∨ c = 124 := by simpa [oneB] using h
    rcases this with rfl | rfl | rfl | rfl | rfl | rfl | rfl | rfl | rfl | rfl | rfl | rfl | rfl <;> decide
  · decide
theorem nameL_off {c : UInt8} {r : Bs} (h : letB c = false) : nameL (c :: r) = 0 := by simp [nameL, h]
theorem numL_off {c : UInt8} {r : Bs} (h : digB c = false) : numL (c :: r) = 0 := by
  unfold numL
  have e : spanL digB (c :: r) = 0 := by rw [spanL_cons, h]; rfl
  rw [e]
  split
  · rfl
  · split
    · rfl
    · split <;> rfl
theorem symL_pos {l : Bs} (h : symL l ≠ 0) : ∃ c r, l = c :: r ∧ (oneB c = true ∨ c = 45) := by
  cases l with
  | nil => exact (h rfl).elim
  | cons c r =>
    refine ⟨c, r, rfl, ?_⟩
    simp only [symL] at h
    cases h1 : twoB (c :: r)
    · rw [h1] at h
      cases h2 : oneB c
      · rw [h2] at h; simp at h
      · exact .inl rfl
    · cases r with
      | nil => simp [twoB] at h1
      | cons d r =>
        simp only [twoB, Bool.or_eq_true, Bool.and_eq_true, beq_iff_eq] at h1
        rcases h1 with ⟨rfl, _⟩ | ⟨rfl, _⟩
        · exact .inr rfl
        · exact .inl (by decide)

/-- a token's first byte is none of a gap -/
theorem tok_head {l : Bs} (h : tokN l ≠ 0) : ∃ c r, l = c :: r ∧ blankB c = false ∧ c.toNat ≠ 37 := by
  unfold tokN at h
  by_cases h1 : nameL l ≠ 0
  · obtain ⟨c, r, rfl, hc, -⟩ := nameL_pos h1
    refine ⟨c, r, rfl, ?_, ?_⟩
    · simp [letB, smallB, bigB] at hc; simp [blankB]; omega
    · simp [letB, smallB, bigB] at hc; omega
  · rw [if_neg h1] at h
    by_cases h2 : numL l ≠ 0
    · obtain ⟨-, -, -, -, h5⟩ := numL_pos h2
      obtain ⟨c, r, rfl, hc⟩ := dig_head h5
      refine ⟨c, r, rfl, ?_, ?_⟩
      · simp [digB] at hc; simp [blankB]; omega
      · simp [digB] at hc; omega
    · rw [if_neg h2] at h
      obtain ⟨c, r, rfl, hc⟩ := symL_pos h
      exact ⟨c, r, rfl, (one_off hc).2.2.1, (one_off hc).2.2.2⟩
theorem tok_nogap {l : Bs} (h : tokN l ≠ 0) : gapL l = 0 := by
  obtain ⟨c, r, rfl, h1, h2⟩ := tok_head h
  exact gapS_none h1 h2


theorem off_same {p : UInt8 → Bool} {l : Bs} {c : UInt8} {r r0 : Bs} (n : Nat) (h : offB p (l.drop n) = true) (e : l.drop n = c :: r0) : offB p (c :: r) = true := by rw [e] at h; exact h

/-- a token is the same before another byte that does not go on with it -/
theorem tok_app {l r' : Bs} (h0 : tokN l ≠ 0) (hr : Near l r') : tokN (l.take (tokN l) ++ r') = tokN l ∧ tokK (l.take (tokN l) ++ r') = tokK l := by
  by_cases h1 : nameL l ≠ 0
  · have hN : tokN l = nameL l := by unfold tokN; rw [if_pos h1]
    have hK : tokK l = 1 := by unfold tokK; rw [if_pos h1]
    obtain ⟨c, r, rfl, hc, hle, hn⟩ := nameL_pos h1
    have ht : (c :: r).take (tokN (c :: r)) ++ r' = c :: (r.take (spanL contB r) ++ r') := by rw [hN, hn]; rfl
    have hd : (c :: r).drop (tokN (c :: r)) = r.drop (spanL contB r) := by rw [hN, hn]; rfl
    have hoff : offB contB r' = true := off_near contB (fun c h => (gap_off h).1) (by rw [hd]; exact off_drop _ _) hr
    have hname : nameL ((c :: r).take (tokN (c :: r)) ++ r') = nameL (c :: r) := by
      rw [ht]
      simp only [nameL, hc, span_app contB r r' hoff]
    generalize (c :: r).take (tokN (c :: r)) ++ r' = X at *
    refine ⟨?_, ?_⟩
    · rw [hN]; unfold tokN; rw [if_pos (by omega)]; exact hname
    · rw [hK]; unfold tokK; rw [if_pos (by omega)]
  · have h1z : nameL l = 0 := by omega
    by_cases h2 : numL l ≠ 0
    · have hN : tokN l = numL l := by unfold tokN; rw [if_neg h1, if_pos h2]
      have hK : tokK l = 2 := by unfold tokK; rw [if_neg h1, if_pos h2]
      obtain ⟨a1, a2, a3, a4, a5⟩ := numL_pos h2
      obtain ⟨c, r, hl, hc⟩ := dig_head a5
      have hoff : offB digB r' = true := off_near digB (fun c h => (gap_off h).2.1) (by rw [hN, a4]; exact off_drop _ _) hr
      have hglu : glued r' = false := by
        rcases hr with rfl | ⟨c, r, rfl, hc⟩ | ⟨c, r, r0, rfl, hc⟩
        · rfl
        · obtain ⟨-, -, g3, g4, -⟩ := gap_off hc
          simp [glued, g3, g4]
        · rw [hN, a4] at hc; rw [hc] at a3; exact a3
      have hspan : spanL digB (l.take (tokN l) ++ r') = spanL digB l := by rw [hN, a4]; exact span_app digB l r' hoff
      have hhead : headZ (l.take (tokN l) ++ r') = headZ l := by
        obtain ⟨m, hm⟩ : ∃ m, tokN l = m + 1 := ⟨tokN l - 1, by omega⟩
        rw [hm, hl]; rfl
      have hdrop : (l.take (tokN l) ++ r').drop (spanL digB l) = r' := by
        have hlen : (l.take (tokN l)).length = spanL digB l := by rw [List.length_take, hN, a4]; have := spanL_le digB l; omega
        rw [← hlen, List.drop_left]
      have hnum : numL (l.take (tokN l) ++ r') = numL l := by
        unfold numL
        rw [hspan, hhead, hdrop, hglu, a3]
      have hname : nameL (l.take (tokN l) ++ r') = 0 := by
        obtain ⟨m, hm⟩ : ∃ m, tokN l = m + 1 := ⟨tokN l - 1, by omega⟩
        rw [hm, hl]
        exact nameL_off (dig_let hc)
      generalize l.take (tokN l) ++ r' = X at *
      refine ⟨?_, ?_⟩
      · rw [hN]; unfold tokN; rw [if_neg (by omega), if_pos (by omega)]; exact hnum
      · rw [hK]; unfold tokK; rw [if_neg (by omega), if_pos (by omega)]
    · have h2z : numL l = 0 := by omega
      have hN : tokN l = symL l := by unfold tokN; rw [if_neg h1, if_neg h2]
      have hK : tokK l = 3 := by unfold tokK; rw [if_neg h1, if_neg h2]
      obtain ⟨c, r, rfl, hc⟩ := symL_pos (by rw [← hN]; exact h0)
      obtain ⟨g1, g2, -, -⟩ := one_off hc
      obtain ⟨m, hm⟩ : ∃ m, tokN (c :: r) = m + 1 := ⟨tokN (c :: r) - 1, by omega⟩
      have hX : (c :: r).take (tokN (c :: r)) ++ r' = c :: (r.take m ++ r') := by rw [hm]; rfl
      have hname : nameL ((c :: r).take (tokN (c :: r)) ++ r') = 0 := by rw [hX]; exact nameL_off g1
      have hnum : numL ((c :: r).take (tokN (c :: r)) ++ r') = 0 := by rw [hX]; exact numL_off g2
      have hsym : symL ((c :: r).take (tokN (c :: r)) ++ r') = symL (c :: r) := by
        rw [hX]
        rw [hN] at hm
        cases ht : twoB (c :: r)
        · have ho : oneB c = true := by
            simp only [symL, ht] at hm
            cases ho : oneB c
            · rw [ho] at hm; simp at hm
            · rfl
          have hm0 : m = 0 := by simp only [symL, ht, ho, if_true, Bool.false_eq_true, if_false] at hm; omega
          subst hm0
          have ht' : twoB (c :: (r.take 0 ++ r')) = false := by
            rw [List.take_zero, List.nil_append]
            rcases hr with rfl | ⟨d, r2, rfl, hd⟩ | ⟨d, r2, r0, rfl, hd⟩
            · rfl
            · obtain ⟨-, -, -, -, k1, k2⟩ := gap_off hd
              simp [twoB, k1, k2]
            · rw [hN, hm] at hd
              simp only [Nat.zero_add, List.drop_succ_cons, List.drop_zero] at hd
              subst hd
              exact ht
          simp only [symL, ht, ht', ho]
        · have hm1 : m = 1 := by simp only [symL, ht, if_true] at hm; omega
          subst hm1
          cases r with
          | nil => simp [twoB] at ht
          | cons d r2 =>
            have ht' : twoB (c :: ((d :: r2).take 1 ++ r')) = true := ht
            simp only [symL, ht, ht']
      generalize (c :: r).take (tokN (c :: r)) ++ r' = X at *
      refine ⟨?_, ?_⟩
      · rw [hN]; unfold tokN; rw [if_neg (by omega), if_neg (by omega)]; exact hsym
      · rw [hK]; unfold tokK; rw [if_neg (by omega), if_neg (by omega)]

end Go.Proofs.Ytplahgcbeanfnaa
