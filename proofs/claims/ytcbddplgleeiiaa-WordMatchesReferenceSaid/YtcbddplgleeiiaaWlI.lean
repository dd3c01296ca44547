/-
  What Zip and Suffix promise each other, on lists.
-/
import Derived.Test.YtcbddplgleeiiaaWlM
namespace Go.Proofs.Ytcbddplgleeiiaa
open Go.RowKit

/-- the normal lasso of two words that are read together in a table -/
def zipM (T : List (List Int)) (sa la sb lb : List Int) : List Int × List Int :=
  normL ((List.range (zipN sa sb)).map (zipF T sa la sb lb)) ((List.range (Nat.lcm la.length lb.length)).map fun i => zipF T sa la sb lb (zipN sa sb + i))

theorem first_parts (f : Nat → Int) (m p : Nat) : (firstL f (m + p)).take m = (List.range m).map f ∧ (firstL f (m + p)).drop m = (List.range p).map fun i => f (m + i) := by
  unfold firstL
  rw [List.range_add, List.map_append, List.map_map]
  exact ⟨List.take_left' (by simp), List.drop_left' (by simp)⟩

theorem zip_per (T : List (List Int)) (sa la sb lb : List Int) : Per (zipF T sa la sb lb) (zipN sa sb) (Nat.lcm la.length lb.length) := by
  intro i hi
  unfold zipN at hi
  obtain ⟨c, hc⟩ := Nat.dvd_lcm_left la.length lb.length
  obtain ⟨d, hd⟩ := Nat.dvd_lcm_right la.length lb.length
  have e1 := (letAt_per sa la).mul c i (by omega)
  have e2 := (letAt_per sb lb).mul d i (by omega)
  rw [Nat.mul_comm, ← hc] at e1
  rw [Nat.mul_comm, ← hd] at e2
  unfold zipF
  rw [e1, e2]

theorem zipL_eq {T : List (List Int)} {sa la sb lb : List Int} (h1 : formedB sa la = true) (h2 : formedB sb lb = true) : zipL T sa la sb lb = orZ (zipM T sa la sb lb) := by
  unfold zipL zipM
  rw [h1, h2, (first_parts _ _ _).1, (first_parts _ _ _).2]
  rfl

theorem zip_word {T : List (List Int)} {sa la sb lb : List Int} (h1 : formedB sa la = true) (h2 : formedB sb lb = true) : letAt (zipM T sa la sb lb).1 (zipM T sa la sb lb).2 = zipF T sa la sb lb := by
  obtain ⟨p1, -, -, -, -⟩ := formed_pos h1
  obtain ⟨q1, -, -, -, -⟩ := formed_pos h2
  have hp : 0 < Nat.lcm la.length lb.length := Nat.lcm_pos p1 q1
  unfold zipM
  rw [(normL_spec (by simpa using hp)).1, letAt_of hp (zip_per T sa la sb lb)]

theorem zipM_of {T : List (List Int)} {sa la sb lb s l : List Int} (h1 : formedB sa la = true) (h2 : formedB sb lb = true) (hl : 0 < l.length) (h : ∀ i, zipF T sa la sb lb i = letAt s l i) : zipM T sa la sb lb = normL s l := by
  obtain ⟨p1, -, -, -, -⟩ := formed_pos h1
  obtain ⟨q1, -, -, -, -⟩ := formed_pos h2
  have hp : 0 < Nat.lcm la.length lb.length := Nat.lcm_pos p1 q1
  unfold zipM
  refine normL_word (by simpa using hp) hl fun i => ?_
  rw [letAt_of hp (zip_per T sa la sb lb), h]

/-- a zipped word that is there -/
theorem zip_pos {T : List (List Int)} {sa la sb lb : List Int} (h1 : formedB sa la = true) (h2 : formedB sb lb = true) (h : 0 < (zipL T sa la sb lb).2.length) : formedB (zipM T sa la sb lb).1 (zipM T sa la sb lb).2 = true ∧ zipL T sa la sb lb = zipM T sa la sb lb := by
  rw [zipL_eq h1 h2] at h ⊢
  unfold orZ at h ⊢
  cases h3 : formedB (zipM T sa la sb lb).1 (zipM T sa la sb lb).2 with
  | false => rw [h3] at h; simp at h
  | true => simp

/-- the table whose elements are their row numbers -/
def rowsT (n m : Nat) : List (List Int) := (List.range n).map fun i : Nat => List.replicate m (i : Int)
def firstT : List (List Int) := rowsT 64 64

theorem elem_rows {n m x y : Nat} (hx : x < n) (hy : y < m) : elemI (rowsT n m) x y = x := by
  unfold elemI rowsT
  simp [List.getD_eq_getElem?_getD, hx, hy]
theorem elem_first {x y : Nat} (hx : x < 64) (hy : y < 64) : elemI firstT x y = x := elem_rows hx hy

theorem zip_first {sa la sb lb : List Int} (h1 : formedB sa la = true) (h2 : formedB sb lb = true) : zipL firstT sa la sb lb = normL sa la := by
  obtain ⟨p1, -, -, -, -⟩ := formed_pos h1
  rw [zipL_eq h1 h2, zipM_of h1 h2 p1 (fun i => ?_)]
  · exact orZ_formed (norm_formed h1)
  · have a1 := letAt_bd h1 i
    have a2 := letAt_bd h2 i
    unfold zipF
    rw [elem_first (by omega) (by omega)]
    omega

/-- a letter of a zipped word stands in the table -/
theorem zip_letter {T : List (List Int)} {sa la sb lb : List Int} (h1 : formedB sa la = true) (h2 : formedB sb lb = true) (h : 0 < (zipL T sa la sb lb).2.length) (i : Nat) :
    (letAt sa la i).toNat < T.length ∧ (letAt sb lb i).toNat < (T.getD (letAt sa la i).toNat []).length ∧ letAt (zipL T sa la sb lb).1 (zipL T sa la sb lb).2 i = (T.getD (letAt sa la i).toNat []).getD (letAt sb lb i).toNat (-1) := by
  obtain ⟨h3, h4⟩ := zip_pos h1 h2 h
  have hb := letAt_bd h3 i
  rw [zip_word h1 h2] at hb
  rw [h4, zip_word h1 h2]
  unfold zipF elemI at hb ⊢
  have hy : (letAt sb lb i).toNat < (T.getD (letAt sa la i).toNat []).length := by
    rcases Nat.lt_or_ge (letAt sb lb i).toNat (T.getD (letAt sa la i).toNat []).length with h | h
    · exact h
    · rw [List.getD_eq_getElem?_getD (i := (letAt sb lb i).toNat) (a := -1), List.getElem?_eq_none h] at hb
      simp at hb
  refine ⟨?_, hy, rfl⟩
  rcases Nat.lt_or_ge (letAt sa la i).toNat T.length with h | h
  · exact h
  · rw [List.getD_eq_getElem?_getD, List.getElem?_eq_none h] at hy
    simp at hy

/-- the suffix of a zipped word is the zipped word of the suffixes -/
theorem zip_suffix {T : List (List Int)} {sa la sb lb : List Int} (h1 : formedB sa la = true) (h2 : formedB sb lb = true) (h : 0 < (zipL T sa la sb lb).2.length) (k : Nat) :
    sufL (zipL T sa la sb lb).1 (zipL T sa la sb lb).2 k = zipL T (sufL sa la k).1 (sufL sa la k).2 (sufL sb lb k).1 (sufL sb lb k).2 := by
  obtain ⟨h3, h4⟩ := zip_pos h1 h2 h
  have g1 := sufL_formed h1 k
  have g2 := sufL_formed h2 k
  rw [h4]
  have g3 := sufL_formed h3 k
  obtain ⟨p1, -, -, -, -⟩ := formed_pos g3
  have e : zipM T (sufL sa la k).1 (sufL sa la k).2 (sufL sb lb k).1 (sufL sb lb k).2 = sufL (zipM T sa la sb lb).1 (zipM T sa la sb lb).2 k := by
    have e1 : normL (sufL (zipM T sa la sb lb).1 (zipM T sa la sb lb).2 k).1 (sufL (zipM T sa la sb lb).1 (zipM T sa la sb lb).2 k).2 = sufL (zipM T sa la sb lb).1 (zipM T sa la sb lb).2 k := by
      obtain ⟨z1, -, -, -, -⟩ := formed_pos h3
      rw [sufL_eq h3]
      exact normL_norm (dropW_pos z1 k).1
    rw [← e1]
    refine zipM_of g1 g2 p1 fun i => ?_
    rw [sufL_word h3, zip_word h1 h2]
    unfold zipF
    rw [sufL_word h1, sufL_word h2]
  rw [zipL_eq g1 g2, e]
  exact (orZ_formed g3).symm

end Go.Proofs.Ytcbddplgleeiiaa
