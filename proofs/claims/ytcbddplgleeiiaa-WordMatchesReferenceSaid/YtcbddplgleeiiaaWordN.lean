/-
  The normal lasso on lists of numbers: how it is reckoned (the shortest loop, then the stem's end taken into it), and what it promises. Nothing of the program is imported.
-/
import Derived.Test.YtcbddplgleeiiaaWordQ
namespace Go.Proofs.Ytcbddplgleeiiaa

instance (l : List Int) (n : Nat) : Decidable (Rep l n) :=
  decidable_of_iff (l.length % n = 0 ∧ ∀ i : Fin l.length, n ≤ i.val → l.getD i.val 0 = l.getD (i.val - n) 0)
    ⟨fun h => ⟨h.1, fun i h1 h2 => h.2 ⟨i, h2⟩ h1⟩, fun h => ⟨h.1, fun i h1 => h.2 i.val h1 i.isLt⟩⟩

/-- the first n from a number on of which l is a repetition -/
def leastFrom (l : List Int) : Nat → Nat → Nat
  | 0, n => n
  | fuel + 1, n => if Rep l n then n else leastFrom l fuel (n + 1)

/-- the length of the shortest list of which l is a repetition -/
def leastRep (l : List Int) : Nat := leastFrom l l.length 1

theorem leastFrom_spec {l : List Int} : ∀ (fuel n : Nat), n ≤ l.length → l.length ≤ n + fuel → Rep l (leastFrom l fuel n) ∧ n ≤ leastFrom l fuel n ∧ leastFrom l fuel n ≤ l.length ∧ ∀ m, n ≤ m → m < leastFrom l fuel n → ¬ Rep l m
  | 0, n, h1, h2 => by
    have : n = l.length := by omega
    subst this
    exact ⟨rep_self l, Nat.le_refl _, Nat.le_refl _, fun m a b => by unfold leastFrom at b; omega⟩
  | fuel + 1, n, h1, h2 => by
    unfold leastFrom
    by_cases h : Rep l n
    · rw [if_pos h]
      exact ⟨h, Nat.le_refl _, h1, fun m a b => by omega⟩
    · rw [if_neg h]
      have hne : n ≠ l.length := by rintro rfl; exact h (rep_self l)
      obtain ⟨a1, a2, a3, a4⟩ := leastFrom_spec (l := l) fuel (n + 1) (by omega) (by omega)
      refine ⟨a1, by omega, a3, fun m b1 b2 => ?_⟩
      rcases Nat.lt_or_ge n m with hlt | hge
      · exact a4 m (by omega) b2
      · have : m = n := by omega
        subst this
        exact h

theorem leastRep_spec {l : List Int} (hl : 0 < l.length) : Rep l (leastRep l) ∧ 0 < leastRep l ∧ leastRep l ≤ l.length ∧ ∀ m, 0 < m → m < leastRep l → ¬ Rep l m := by
  obtain ⟨h1, h2, h3, h4⟩ := leastFrom_spec (l := l) l.length 1 (by omega) (by omega)
  exact ⟨h1, h2, h3, fun m a b => h4 m a b⟩

theorem leastRep_unique {l : List Int} (hl : 0 < l.length) {n : Nat} (h0 : 0 < n) (h1 : Rep l n) (h2 : ∀ m, 0 < m → m < n → ¬ Rep l m) : leastRep l = n := by
  obtain ⟨a1, a2, a3, a4⟩ := leastRep_spec hl
  rcases Nat.lt_trichotomy (leastRep l) n with h | h | h
  · exact (h2 _ a2 h a1).elim
  · exact h
  · exact (a4 _ h0 h h1).elim

theorem letAt_take {s l : List Int} {n : Nat} (h : Rep l n) (h0 : 0 < n) (hn : n ≤ l.length) : letAt s (l.take n) = letAt s l := by
  funext i
  unfold letAt
  split
  · rfl
  · have hd : n ∣ l.length := Nat.dvd_of_mod_eq_zero h.1
    have hm := Nat.mod_lt (i - s.length) h0
    rw [List.length_take, Nat.min_eq_left hn, h.get h0 _ (Nat.mod_lt _ (by omega)), Nat.mod_mod_of_dvd _ hd]
    simp [List.getD, hm]

theorem prim_take {l : List Int} (hl : 0 < l.length) : Prim (l.take (leastRep l)) := by
  obtain ⟨a1, a2, a3, a4⟩ := leastRep_spec hl
  intro m h1 h2 h3
  rw [List.length_take, Nat.min_eq_left a3] at h2
  have hp := h3.per h1 (by rw [List.length_take, Nat.min_eq_left a3]; exact a2) []
  rw [letAt_take a1 a2 a3] at hp
  have hd : m ∣ leastRep l := by have := Nat.dvd_of_mod_eq_zero h3.1; rwa [List.length_take, Nat.min_eq_left a3] at this
  exact a4 m h1 h2 (rep_of_per (Nat.dvd_trans hd (Nat.dvd_of_mod_eq_zero a1.1)) h1 hp)

/-- the loop with its last element, x, moved to the front -/
def turn (x : Int) (l : List Int) : List Int := x :: l.take (l.length - 1)

theorem turn_length {x : Int} {l : List Int} (hl : 0 < l.length) : (turn x l).length = l.length := by unfold turn; simp; omega

theorem letAt_turn {s l : List Int} {x : Int} (hl : 0 < l.length) (hx : x = l.getD (l.length - 1) 0) : letAt s (turn x l) = letAt (s ++ [x]) l := by
  funext i
  unfold letAt
  rw [turn_length hl, List.length_append, List.length_singleton]
  rcases Nat.lt_trichotomy i s.length with h | h | h
  · rw [if_pos h, if_pos (by omega)]
    simp [List.getElem?_append_left h]
  · subst h
    rw [if_neg (by omega), if_pos (by omega)]
    simp [turn]
  · rw [if_neg (by omega), if_neg (by omega)]
    obtain ⟨m, rfl⟩ : ∃ m, i = s.length + 1 + m := ⟨i - s.length - 1, by omega⟩
    rw [show s.length + 1 + m - s.length = m + 1 by omega, show s.length + 1 + m - (s.length + 1) = m by omega]
    have hm := Nat.mod_lt m hl
    rcases Nat.lt_or_ge (m % l.length + 1) l.length with hlt | hge
    · have e : (m + 1) % l.length = m % l.length + 1 := by
        rw [Nat.add_mod, Nat.add_mod_mod]
        exact Nat.mod_eq_of_lt hlt
      rw [e]
      simp [turn, List.getD, hm, show m % l.length < l.length - 1 by omega]
    · have e1 : m % l.length = l.length - 1 := by omega
      have e : (m + 1) % l.length = 0 := by
        rw [Nat.add_mod, e1, Nat.add_mod_mod, show l.length - 1 + 1 = l.length by omega, Nat.mod_self]
      rw [e, e1, ← hx]
      simp [turn]

theorem prim_turn {l : List Int} {x : Int} (hl : 0 < l.length) (hx : x = l.getD (l.length - 1) 0) (hp : Prim l) : Prim (turn x l) := by
  intro n h1 h2 h3
  rw [turn_length hl] at h2
  have h := h3.per h1 (by rw [turn_length hl]; exact hl) []
  rw [letAt_turn hl hx] at h
  have hd : n ∣ l.length := by have := Nat.dvd_of_mod_eq_zero h3.1; rwa [turn_length hl] at this
  exact hp n h1 h2 (rep_of_per (s := [] ++ [x]) hd h1 (h.up (by simp)))

/-- the stem's end taken into the loop, for as long as they end alike; the stem stands the other way round -/
def strip : List Int → List Int → List Int × List Int
  | [], l => ([], l)
  | x :: r, l => if x = l.getD (l.length - 1) 0 then strip r (turn x l) else ((x :: r).reverse, l)

theorem strip_spec : ∀ (r l : List Int), 0 < l.length → Prim l → letAt (strip r l).1 (strip r l).2 = letAt r.reverse l ∧ (strip r l).2.length = l.length ∧ (strip r l).1.length ≤ r.length ∧ Prim (strip r l).2 ∧ Ends (strip r l).1 (strip r l).2
  | [], l, hl, hp => ⟨rfl, rfl, Nat.le_refl _, hp, .inl rfl⟩
  | x :: r, l, hl, hp => by
    unfold strip
    split
    · rename_i hx
      obtain ⟨h1, h2, h3, h4, h5⟩ := strip_spec r (turn x l) (by rw [turn_length hl]; exact hl) (prim_turn hl hx hp)
      rw [turn_length hl] at h2
      exact ⟨by rw [h1, letAt_turn hl hx, List.reverse_cons], h2, by simp; omega, h4, h5⟩
    · rename_i hx
      refine ⟨rfl, rfl, by simp, hp, .inr ?_⟩
      rw [last_getD hl]
      simpa using hx

/-- the normal lasso -/
def normL (s l : List Int) : List Int × List Int := strip s.reverse (l.take (leastRep l))

theorem normL_spec {s l : List Int} (hl : 0 < l.length) : letAt (normL s l).1 (normL s l).2 = letAt s l ∧ 0 < (normL s l).2.length ∧ (normL s l).2.length ≤ l.length ∧ (normL s l).1.length ≤ s.length ∧ Prim (normL s l).2 ∧ Ends (normL s l).1 (normL s l).2 := by
  obtain ⟨a1, a2, a3, a4⟩ := leastRep_spec hl
  have ht : (l.take (leastRep l)).length = leastRep l := by rw [List.length_take, Nat.min_eq_left a3]
  obtain ⟨h1, h2, h3, h4, h5⟩ := strip_spec s.reverse (l.take (leastRep l)) (by omega) (prim_take hl)
  unfold normL
  rw [List.reverse_reverse, letAt_take a1 a2 a3] at h1
  rw [List.length_reverse] at h3
  exact ⟨h1, by omega, by omega, h3, h4, h5⟩

theorem normL_eq {s l t k : List Int} (hl : 0 < l.length) (hk : 0 < k.length) (h : letAt s l = letAt t k) : normL s l = normL t k := by
  obtain ⟨a1, a2, a3, a4, a5, a6⟩ := normL_spec (s := s) hl
  obtain ⟨b1, b2, b3, b4, b5, b6⟩ := normL_spec (s := t) hk
  obtain ⟨e1, e2⟩ := normal_unique a2 b2 a5 b5 a6 b6 (fun i => by rw [a1, b1, h])
  exact Prod.ext e1 e2

theorem normL_id {s l : List Int} (hl : 0 < l.length) (hp : Prim l) (he : Ends s l) : normL s l = (s, l) := by
  obtain ⟨a1, a2, a3, a4, a5, a6⟩ := normL_spec (s := s) hl
  obtain ⟨e1, e2⟩ := normal_unique a2 hl a5 hp a6 he (fun i => by rw [a1])
  exact Prod.ext e1 e2

theorem normL_norm {s l : List Int} (hl : 0 < l.length) : normL (normL s l).1 (normL s l).2 = normL s l := by
  obtain ⟨a1, a2, a3, a4, a5, a6⟩ := normL_spec (s := s) hl
  exact normL_id a2 a5 a6

theorem normL_inj {s l t k : List Int} (hl : 0 < l.length) (hk : 0 < k.length) (h : normL s l = normL t k) : letAt s l = letAt t k := by
  rw [← (normL_spec (s := s) hl).1, ← (normL_spec (s := t) hk).1, h]

/-- the same word, the same first 140 letters, the same normal lasso -/
theorem same_iff {s l t k : List Int} (hl : 0 < l.length) (hk : 0 < k.length) (h1 : s.length ≤ 60) (h2 : t.length ≤ 60) (h3 : l.length ≤ 40) (h4 : k.length ≤ 40) :
    normL s l = normL t k ↔ ∀ i, i < 140 → letAt s l i = letAt t k i := by
  constructor
  · intro h i _
    rw [normL_inj hl hk h]
  · intro h
    exact normL_eq hl hk (funext (agree_all (N := 60) hl hk ((letAt_per s l).up h1) ((letAt_per t k).up h2) fun i hi => h i (by omega)))

/-- the lasso that a function with the period p from n on has -/
theorem letAt_of {f : Nat → Int} {n p : Nat} (hp : 0 < p) (h : Per f n p) : letAt ((List.range n).map f) ((List.range p).map fun i => f (n + i)) = f := by
  funext i
  unfold letAt
  rw [List.length_map, List.length_range, List.length_map, List.length_range]
  split
  · rename_i hi
    simp [hi]
  · rename_i hi
    have hm := Nat.mod_lt (i - n) hp
    have e := h.mul ((i - n) / p) (n + (i - n) % p) (by omega)
    rw [show n + (i - n) % p + (i - n) / p * p = i by have := Nat.mod_add_div (i - n) p; rw [Nat.mul_comm] at this; omega] at e
    simp [hm, e]

/-- the word without its first n letters -/
def dropW (s l : List Int) (n : Nat) : List Int × List Int :=
  if n ≤ s.length then (s.drop n, l) else ([], l.drop ((n - s.length) % l.length) ++ l.take ((n - s.length) % l.length))

theorem letAt_dropW {s l : List Int} (hl : 0 < l.length) (n i : Nat) : letAt (dropW s l n).1 (dropW s l n).2 i = letAt s l (n + i) := by
  unfold dropW
  split
  · rename_i hn
    unfold letAt
    simp only [List.length_drop]
    by_cases hi : i < s.length - n
    · rw [if_pos hi, if_pos (by omega)]
      simp [List.getD]
    · rw [if_neg hi, if_neg (by omega), show i - (s.length - n) = n + i - s.length by omega]
  · rename_i hn
    have hk := Nat.mod_lt (n - s.length) hl
    unfold letAt
    simp only [List.length_nil, Nat.not_lt_zero, if_false, Nat.sub_zero, List.length_append, List.length_drop, List.length_take]
    rw [if_neg (by omega), Nat.min_eq_left (by omega), show l.length - (n - s.length) % l.length + (n - s.length) % l.length = l.length by omega]
    rw [show n + i - s.length = n - s.length + i by omega]
    generalize n - s.length = a at *
    have hi := Nat.mod_lt i hl
    rw [Nat.add_mod]
    generalize a % l.length = x at *
    generalize i % l.length = y at *
    simp only [List.getD]
    by_cases h : y < l.length - x
    · rw [List.getElem?_append_left (by simpa using h), Nat.mod_eq_of_lt (by omega)]
      simp
    · rw [List.getElem?_append_right (by simpa using h), List.length_drop, Nat.mod_eq_sub_mod (by omega), Nat.mod_eq_of_lt (by omega), List.getElem?_take]
      rw [if_pos (by omega), show y - (l.length - x) = x + y - l.length by omega]

theorem dropW_pos {s l : List Int} (hl : 0 < l.length) (n : Nat) : 0 < (dropW s l n).2.length ∧ (dropW s l n).2.length = l.length ∧ (dropW s l n).1.length = s.length - n := by
  unfold dropW
  have hk := Nat.mod_lt (n - s.length) hl
  split
  · simp [hl]
  · simp only [List.length_append, List.length_drop, List.length_take, List.length_nil]
    omega

theorem letAt_push (a s l : List Int) (i : Nat) : letAt (a ++ s) l i = if i < a.length then a.getD i 0 else letAt s l (i - a.length) := by
  unfold letAt
  rw [List.length_append]
  by_cases h : i < a.length
  · rw [if_pos h, if_pos (by omega)]
    simp [List.getElem?_append_left h]
  · rw [if_neg h]
    by_cases h2 : i < a.length + s.length
    · rw [if_pos h2, if_pos (by omega)]
      simp [List.getElem?_append_right (by omega : a.length ≤ i)]
    · rw [if_neg h2, if_neg (by omega), show i - (a.length + s.length) = i - a.length - s.length by omega]

end Go.Proofs.Ytcbddplgleeiiaa
