/-
  Lists: turning a loop, and what that has to do with the normal lasso.
-/
import Derived.Test.YtcbddplgleeiiaaWordT
import Derived.Laws.CopyOwn
namespace Go.Proofs.Ytcbddplgleeiiaa

/-- a list that begins with its element f -/
def rotL (l : List Int) (f : Nat) : List Int := l.drop f ++ l.take f

theorem rotL_length (l : List Int) (f : Nat) (h : f ≤ l.length) : (rotL l f).length = l.length := by unfold rotL; simp; omega

theorem rotL_mem {l : List Int} {f : Nat} {x : Int} (h : x ∈ rotL l f) : x ∈ l := by
  unfold rotL at h
  rcases List.mem_append.1 h with h | h
  · exact List.mem_of_mem_drop h
  · exact List.mem_of_mem_take h

theorem rotL_zero (l : List Int) : rotL l 0 = l := by simp [rotL]

/-- the place of the last element -/
theorem rotL_last {l : List Int} {f n : Nat} (hn : l.length = n + 1) (hf : f < l.length) : (rotL l f).getD n 0 = l.getD ((f + l.length - 1) % l.length) 0 := by
  unfold rotL
  rcases Nat.eq_zero_or_pos f with rfl | h0
  · rw [show (0 + l.length - 1) % l.length = n by rw [Nat.mod_eq_of_lt (by omega)]; omega]; simp
  · rw [show (f + l.length - 1) % l.length = f - 1 by rw [show f + l.length - 1 = f - 1 + l.length by omega, Nat.add_mod_right, Nat.mod_eq_of_lt (by omega)]]
    simp only [List.getD_eq_getElem?_getD]
    rw [List.getElem?_append_right (by simp; omega)]
    simp only [List.length_drop]
    rw [List.getElem?_take]
    rw [if_pos (by omega)]
    congr 2
    omega

theorem rotL_back {l : List Int} {f n : Nat} (hn : l.length = n + 1) (hf : f < l.length) : rotL l ((f + l.length - 1) % l.length) = l.getD ((f + l.length - 1) % l.length) 0 :: (rotL l f).take n := by
  rcases Nat.eq_zero_or_pos f with rfl | h0
  · rw [show (0 + l.length - 1) % l.length = n by rw [Nat.mod_eq_of_lt (by omega)]; omega, rotL_zero]
    unfold rotL
    rw [List.drop_eq_getElem_cons (by omega), List.drop_of_length_le (by omega)]
    simp [show n < l.length by omega]
  · rw [show (f + l.length - 1) % l.length = f - 1 by rw [show f + l.length - 1 = f - 1 + l.length by omega, Nat.add_mod_right, Nat.mod_eq_of_lt (by omega)]]
    unfold rotL
    rw [List.drop_eq_getElem_cons (by omega), show f - 1 + 1 = f by omega]
    simp only [List.cons_append]
    rw [List.getD_eq_getElem?_getD, List.getElem?_eq_getElem (by omega)]
    simp only [Option.getD_some]
    congr 1
    have e1 : (l.drop f).take n = l.drop f := List.take_of_length_le (by simp; omega)
    rw [List.take_append, List.length_drop, e1, List.take_take]
    congr 2
    omega

/-- is a list a repetition of its first n elements: compared with itself, moved -/
theorem rep_iff_drop {l : List Int} {n : Nat} (hn : n ≤ l.length) : Rep l n ↔ l.length % n = 0 ∧ l.drop n = l.take (l.length - n) := by
  unfold Rep
  constructor
  · rintro ⟨h1, h2⟩
    refine ⟨h1, List.ext_getElem (by simp) fun i hi _ => ?_⟩
    have hi' : i < l.length - n := by simpa using hi
    have := h2 (n + i) (by omega) (by omega)
    rw [List.getElem_drop, List.getElem_take]
    rw [List.getD_eq_getElem?_getD, List.getD_eq_getElem?_getD, List.getElem?_eq_getElem (by omega), List.getElem?_eq_getElem (by omega)] at this
    simpa using this
  · rintro ⟨h1, h2⟩
    refine ⟨h1, fun i hi1 hi2 => ?_⟩
    have h3 : (l.drop n).getD (i - n) 0 = (l.take (l.length - n)).getD (i - n) 0 := by rw [h2]
    simp only [List.getD_eq_getElem?_getD, List.getElem?_drop, List.getElem?_take] at h3 ⊢
    rw [if_pos (by omega), show n + (i - n) = i by omega] at h3
    exact h3

theorem splice2 {α : Type} (Z X1 X2 : List α) (k : Nat) (hk : X1.length = k) (hZ : Z.length = k + X2.length) : splice (splice Z 0 X1) k X2 = X1 ++ X2 := by
  subst hk
  unfold splice
  simp only [List.take_zero, List.nil_append, Nat.zero_add]
  rw [List.take_append_of_le_length (Nat.le_refl _), List.take_length, List.drop_of_length_le (by simp; omega), List.append_nil]

/-- the strip's walk, place by place -/
theorem strip_rot {s P : List Int} {k f n : Nat} (hn : P.length = n + 1) (hf : f < P.length) (hk : k < s.length) (he : s.getD k 0 = P.getD ((f + P.length - 1) % P.length) 0) :
    strip (s.take (k + 1)).reverse (rotL P f) = strip (s.take k).reverse (rotL P ((f + P.length - 1) % P.length)) := by
  have hl := rotL_last hn hf
  rw [strip_go (st := s.take (k + 1)) (lp := rotL P f) (m := k) (n := n) (by simp; omega) (by rw [rotL_length _ _ (by omega), hn]) (by
    rw [hl, ← he]
    simp only [List.getD_eq_getElem?_getD, List.getElem?_take]
    rw [if_pos (by omega)]), rotL_back hn hf, hl, List.take_take, Nat.min_eq_left (by omega)]

theorem strip_rot_stop {s P : List Int} {k f n : Nat} (hn : P.length = n + 1) (hf : f < P.length) (hk : k < s.length) (he : s.getD k 0 ≠ P.getD ((f + P.length - 1) % P.length) 0) :
    strip (s.take (k + 1)).reverse (rotL P f) = (s.take (k + 1), rotL P f) := by
  refine strip_stop (m := k) (n := n) (by simp; omega) (by rw [rotL_length _ _ (by omega), hn]) ?_
  rw [rotL_last hn hf]
  intro h
  apply he
  rw [← h]
  simp only [List.getD_eq_getElem?_getD, List.getElem?_take]
  rw [if_pos (by omega)]

end Go.Proofs.Ytcbddplgleeiiaa
