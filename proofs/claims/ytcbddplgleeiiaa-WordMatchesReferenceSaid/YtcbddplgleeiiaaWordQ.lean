/-
  Words as lassos, on lists of numbers: letters at positions, periods, the normal lasso and that it is the only one. Nothing of the program is imported.
-/
import Derived.WalkKit
namespace Go.Proofs.Ytcbddplgleeiiaa

/-- the letter at a position -/
def letAt (s l : List Int) (i : Nat) : Int := if i < s.length then s.getD i 0 else l.getD ((i - s.length) % l.length) 0

/-- f has the period p from N on -/
def Per (f : Nat → Int) (N p : Nat) : Prop := ∀ i, N ≤ i → f (i + p) = f i

theorem Per.mul {f : Nat → Int} {N p : Nat} (h : Per f N p) : ∀ k, Per f N (k * p)
  | 0 => fun i _ => by simp
  | k + 1 => fun i hi => by
    rw [Nat.add_mul, Nat.one_mul, ← Nat.add_assoc, h (i + k * p) (by omega)]
    exact Per.mul h k i hi

theorem Per.gcd {f : Nat → Int} {N p q : Nat} : Per f N p → Per f N q → Per f N (Nat.gcd p q) := by
  induction p, q using Nat.gcd.induction with
  | H0 n => intro _ h; simpa using h
  | H1 m n hm ih =>
    intro h1 h2
    rw [Nat.gcd_rec]
    refine ih (fun i hi => ?_) h1
    have e : i + n % m + n / m * m = i + n := by have := Nat.mod_add_div n m; rw [Nat.mul_comm] at this; omega
    rw [← h1.mul (n / m) (i + n % m) (by omega), e]
    exact h2 i hi

theorem Per.down {f : Nat → Int} {N M p d : Nat} (hp : 0 < p) (h : Per f N p) (k : Per f M d) : Per f N d := by
  intro i hi
  have hM : M ≤ M * p := Nat.le_mul_of_pos_right M hp
  rw [← h.mul M (i + d) (by omega), ← h.mul M i hi, show i + d + M * p = i + M * p + d by omega]
  exact k _ (by omega)

theorem Per.up {f : Nat → Int} {N M p : Nat} (h : Per f N p) (hM : N ≤ M) : Per f M p := fun i hi => h i (by omega)

theorem letAt_per (s : List Int) (l : List Int) : Per (letAt s l) s.length l.length := by
  intro i hi
  unfold letAt
  rw [if_neg (by omega), if_neg (by omega), show i + l.length - s.length = i - s.length + l.length by omega, Nat.add_mod_right]

theorem letAt_stem {s l : List Int} {i : Nat} (h : i < s.length) : letAt s l i = s[i] := by
  unfold letAt; rw [if_pos h]; simp [h]

theorem letAt_loop {s l : List Int} {i : Nat} (h : i < l.length) : letAt s l (s.length + i) = l[i] := by
  unfold letAt
  rw [if_neg (by omega), show s.length + i - s.length = i by omega, Nat.mod_eq_of_lt h]
  simp [h]

/-- two words that agree at their stems and for the sum of their loops' lengths agree for ever -/
theorem agree_all {f g : Nat → Int} {N p q : Nat} (hp : 0 < p) (hq : 0 < q) (h1 : Per f N p) (h2 : Per g N q) (h : ∀ i, i < N + p + q → f i = g i) : ∀ i, f i = g i := by
  intro i
  induction i using Nat.strongRecOn with
  | ind i ih =>
    by_cases hi : i < N + p + q
    · exact h i hi
    · have a1 := h1 (i - p) (by omega)
      have a2 := h2 (i - q) (by omega)
      have a3 := h1 (i - q - p) (by omega)
      have a4 := h2 (i - p - q) (by omega)
      rw [show i - p + p = i by omega] at a1
      rw [show i - q + q = i by omega] at a2
      rw [show i - q - p + p = i - q by omega] at a3
      rw [show i - p - q + q = i - p by omega] at a4
      have b1 := ih (i - p) (by omega)
      have b2 := ih (i - q) (by omega)
      have b3 := ih (i - p - q) (by omega)
      rw [show i - q - p = i - p - q by omega] at a3
      rw [a1, b1, a4, ← b3, ← a3, b2, a2]

/-- l is a repetition of its first n elements -/
def Rep (l : List Int) (n : Nat) : Prop := l.length % n = 0 ∧ ∀ i, n ≤ i → i < l.length → l.getD i 0 = l.getD (i - n) 0

theorem rep_self (l : List Int) : Rep l l.length := ⟨Nat.mod_self _, fun i h1 h2 => by omega⟩

theorem Rep.get {l : List Int} {n : Nat} (h : Rep l n) (hn : 0 < n) : ∀ i, i < l.length → l.getD i 0 = l.getD (i % n) 0 := by
  intro i
  induction i using Nat.strongRecOn with
  | ind i ih =>
    intro hi
    by_cases hni : n ≤ i
    · rw [h.2 i hni hi, ih (i - n) (by omega) (by omega), Nat.mod_eq_sub_mod hni]
    · rw [Nat.mod_eq_of_lt (by omega)]

theorem Rep.per {l : List Int} {n : Nat} (h : Rep l n) (hn : 0 < n) (hl : 0 < l.length) (s : List Int) : Per (letAt s l) s.length n := by
  intro i hi
  unfold letAt
  rw [if_neg (by omega), if_neg (by omega), h.get hn _ (Nat.mod_lt _ hl), h.get hn ((i - s.length) % l.length) (Nat.mod_lt _ hl)]
  have hd : n ∣ l.length := Nat.dvd_of_mod_eq_zero h.1
  rw [Nat.mod_mod_of_dvd _ hd, Nat.mod_mod_of_dvd _ hd, show i + n - s.length = i - s.length + n by omega, Nat.add_mod_right]

theorem rep_of_per {s l : List Int} {n : Nat} (hd : n ∣ l.length) (hn : 0 < n) (h : Per (letAt s l) s.length n) : Rep l n := by
  refine ⟨Nat.mod_eq_zero_of_dvd hd, fun i h1 h2 => ?_⟩
  have e := h (s.length + (i - n)) (by omega)
  rw [show s.length + (i - n) + n = s.length + i by omega, letAt_loop h2, letAt_loop (by omega)] at e
  simpa [h2, show i - n < l.length by omega] using e

/-- no repetition of a shorter list -/
def Prim (l : List Int) : Prop := ∀ n, 0 < n → n < l.length → ¬ Rep l n

/-- the stem ends otherwise than the loop -/
def Ends (s l : List Int) : Prop := s = [] ∨ s.getLast? ≠ l.getLast?

/-- a primitive loop has the least period -/
theorem prim_dvd {s l : List Int} (hl : 0 < l.length) (hp : Prim l) {M q : Nat} (h : Per (letAt s l) M q) : l.length ∣ q := by
  have h0 := letAt_per s l
  have h1 : Per (letAt s l) s.length q := Per.down hl h0 h
  have h2 := Per.gcd h0 h1
  have hg : 0 < Nat.gcd l.length q := Nat.gcd_pos_of_pos_left _ hl
  have h3 := rep_of_per (Nat.gcd_dvd_left _ _) hg h2
  have hle := Nat.gcd_le_left q hl
  rcases Nat.lt_or_ge (Nat.gcd l.length q) l.length with hlt | hge
  · exact (hp _ hg hlt h3).elim
  · have : Nat.gcd l.length q = l.length := by omega
    rw [← this]
    exact Nat.gcd_dvd_right _ _

theorem last_getD {l : List Int} (h : 0 < l.length) : l.getLast? = some (l.getD (l.length - 1) 0) := by
  rw [List.getLast?_eq_getElem?]
  simp [show l.length - 1 < l.length by omega]

theorem stem_le {s l t k : List Int} (hl : 0 < l.length) (hk : l.length = k.length) (he : Ends t k) (h : ∀ i, letAt s l i = letAt t k i) : t.length ≤ s.length := by
  rcases Nat.lt_or_ge s.length t.length with hlt | hge
  · exfalso
    rcases he with rfl | he
    · simp at hlt
    · apply he
      rw [last_getD (by omega), last_getD (by omega)]
      have a := letAt_per s l (t.length - 1) (by omega)
      rw [h, h] at a
      have b : letAt t k (t.length - 1) = t.getD (t.length - 1) 0 := by rw [letAt_stem (by omega)]; simp [show t.length - 1 < t.length by omega]
      have c : letAt t k (t.length - 1 + l.length) = k.getD (k.length - 1) 0 := by
        rw [show t.length - 1 + l.length = t.length + (k.length - 1) by omega, letAt_loop (by omega)]; simp [show k.length - 1 < k.length by omega]
      rw [← b, ← c, a]
  · exact hge

/-- there is only one normal lasso of a word -/
theorem normal_unique {s l t k : List Int} (hl : 0 < l.length) (hk : 0 < k.length) (p1 : Prim l) (p2 : Prim k) (e1 : Ends s l) (e2 : Ends t k) (h : ∀ i, letAt s l i = letAt t k i) : s = t ∧ l = k := by
  have hf : letAt s l = letAt t k := funext h
  have d1 : l.length ∣ k.length := prim_dvd hl p1 (hf ▸ letAt_per t k)
  have d2 : k.length ∣ l.length := prim_dvd hk p2 (hf ▸ letAt_per s l)
  have hlen : l.length = k.length := Nat.dvd_antisymm d1 d2
  have h1 := stem_le hl hlen e2 h
  have h2 := stem_le hk hlen.symm e1 (fun i => (h i).symm)
  have hst : s.length = t.length := by omega
  refine ⟨List.ext_getElem hst fun i h3 h4 => ?_, List.ext_getElem hlen fun i h3 h4 => ?_⟩
  · have := h i; rwa [letAt_stem h3, letAt_stem h4] at this
  · have := h (s.length + i)
    rw [letAt_loop h3, hst, letAt_loop h4] at this
    exact this

end Go.Proofs.Ytcbddplgleeiiaa
