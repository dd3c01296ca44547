/-
  What Suffix, Prefix and Push promise each other, on lists.
-/
import Derived.Test.YtcbddplgleeiiaaWlS
namespace Go.Proofs.Ytcbddplgleeiiaa
open Go.RowKit

theorem formed_of {s l : List Int} (h1 : s.length ≤ 60) (h2 : 0 < l.length) (h3 : l.length ≤ 40) (hb : ∀ i, 0 ≤ letAt s l i ∧ letAt s l i < 64) : formedB s l = true := by
  have hL : ∀ i, letB (letAt s l i) = true := fun i => by have := hb i; simp [letB]; omega
  unfold formedB
  simp only [Bool.and_eq_true, decide_eq_true_eq]
  refine ⟨⟨⟨⟨by omega, by omega⟩, by omega⟩, ?_⟩, ?_⟩
  · rw [List.all_eq_true]
    intro x hx
    obtain ⟨i, hi, rfl⟩ := List.getElem_of_mem hx
    rw [← letAt_stem (l := l) hi]
    exact hL i
  · rw [List.all_eq_true]
    intro x hx
    obtain ⟨i, hi, rfl⟩ := List.getElem_of_mem hx
    rw [← letAt_loop (s := s) hi]
    exact hL _

/-- the parts of a suffix are the word without its first letters -/
theorem sufW_eq (s l : List Int) (n : Nat) : (s.drop (leftN s n), rotL l ((n - leftN s n) % l.length)) = dropW s l n := by
  unfold leftN dropW
  rw [Int.toNat_natCast]
  by_cases h : n ≤ s.length
  · rw [if_pos h, show Nat.min n s.length = n from Nat.min_eq_left h, Nat.sub_self, Nat.zero_mod, rotL_zero]
  · rw [if_neg h, show Nat.min n s.length = s.length from Nat.min_eq_right (by omega), List.drop_length]
    rfl

theorem sufL_eq {s l : List Int} (h : formedB s l = true) (n : Nat) : sufL s l n = normL (dropW s l n).1 (dropW s l n).2 := by
  unfold sufL
  rw [h, decide_eq_true (Int.natCast_nonneg n), Int.toNat_natCast]
  have := sufW_eq s l n
  simp only [Bool.and_self, if_true]
  rw [← this]

theorem sufL_word {s l : List Int} (h : formedB s l = true) (n i : Nat) : letAt (sufL s l n).1 (sufL s l n).2 i = letAt s l (n + i) := by
  obtain ⟨p1, -, -, -, -⟩ := formed_pos h
  rw [sufL_eq h, (normL_spec (s := (dropW s l n).1) (dropW_pos p1 n).1).1, letAt_dropW p1]

theorem sufL_formed {s l : List Int} (h : formedB s l = true) (n : Nat) : formedB (sufL s l n).1 (sufL s l n).2 = true := by
  obtain ⟨p1, p2, p3, -, -⟩ := formed_pos h
  obtain ⟨d1, d2, d3⟩ := dropW_pos (s := s) p1 n
  obtain ⟨-, n2, n3, n4, -, -⟩ := normL_spec (s := (dropW s l n).1) d1
  refine formed_of ?_ ?_ ?_ fun i => by rw [sufL_word h]; exact letAt_bd h _
  all_goals rw [sufL_eq h]; omega

theorem normL_word {s l t k : List Int} (hl : 0 < l.length) (hk : 0 < k.length) (h : ∀ i, letAt s l i = letAt t k i) : normL s l = normL t k := normL_eq hl hk (funext h)

theorem sufL_suf {s l : List Int} (h : formedB s l = true) (n m : Nat) : sufL (sufL s l n).1 (sufL s l n).2 m = sufL s l (n + m : Nat) := by
  have hF := sufL_formed h n
  obtain ⟨p1, -, -, -, -⟩ := formed_pos h
  obtain ⟨q1, -, -, -, -⟩ := formed_pos hF
  refine (sufL_eq hF m).trans (Eq.trans ?_ (sufL_eq h (n + m)).symm)
  refine normL_word (dropW_pos q1 m).1 (dropW_pos p1 _).1 fun i => ?_
  rw [letAt_dropW q1, sufL_word h, letAt_dropW p1, Nat.add_assoc]

theorem sufL_zero {s l : List Int} (h : formedB s l = true) : sufL s l 0 = normL s l := by
  have := sufL_eq h 0
  rw [show ((0 : Nat) : Int) = 0 from rfl] at this
  rw [this]
  unfold dropW
  simp

theorem sufL_same {s l : List Int} (h : formedB s l = true) : sameB (sufL s l 0).1 (sufL s l 0).2 s l = true := by
  rw [sufL_zero h, same_symm h (norm_formed h), same_norm h]

theorem preL_eq {s l : List Int} (h : formedB s l = true) {n : Nat} (hn : n ≤ 500) : preL s l n = (List.range n).map (letAt s l) := by
  unfold preL
  rw [h, decide_eq_true (by omega)]
  simp

theorem push_word {s l : List Int} {a : List Int} (i : Nat) (hl : 0 < l.length) : letAt (normL (a ++ s) l).1 (normL (a ++ s) l).2 i = if i < a.length then a.getD i 0 else letAt s l (i - a.length) := by
  rw [(normL_spec (s := a ++ s) hl).1, letAt_push]

theorem orZ_formed {p : List Int × List Int} (h : formedB p.1 p.2 = true) : orZ p = p := by unfold orZ; rw [h]; rfl

theorem norm_formed' {s l : List Int} (h : formedB s l = true) : formedB (normL s l).1 (normL s l).2 = true := norm_formed h

/-- pushing a prefix back -/
theorem push_prefix {s l : List Int} (h : formedB s l = true) {n : Nat} (hn : n ≤ 500) : pushL (preL s l n) (sufL s l n).1 (sufL s l n).2 = normL s l := by
  obtain ⟨p1, -, -, -, -⟩ := formed_pos h
  have hF := sufL_formed h n
  obtain ⟨q1, -, -, -, -⟩ := formed_pos hF
  have hp : (preL s l n).all letB = true := by
    rw [preL_eq h hn, List.all_eq_true]
    intro x hx
    obtain ⟨i, -, rfl⟩ := List.mem_map.1 hx
    have := letAt_bd h i
    simp [letB]; omega
  have hw : normL (preL s l n ++ (sufL s l n).1) (sufL s l n).2 = normL s l := by
    refine normL_word q1 p1 fun i => ?_
    rw [letAt_push, preL_eq h hn, List.length_map, List.length_range, sufL_word h]
    split
    · rename_i hi; simp [hi]
    · rename_i hi; rw [show n + (i - n) = i by omega]
  unfold pushL
  rw [hF, hp, hw]
  simp only [Bool.and_self, if_true]
  exact orZ_formed (norm_formed h)

/-- what a push that is formed says of what it was made of -/
theorem push_pos {a s l : List Int} (h : 0 < (pushL a s l).2.length) : formedB s l = true ∧ a.all letB = true ∧ formedB (normL (a ++ s) l).1 (normL (a ++ s) l).2 = true ∧ pushL a s l = normL (a ++ s) l := by
  unfold pushL at h ⊢
  cases h1 : formedB s l with
  | false => rw [h1] at h; simp at h
  | true =>
    cases h2 : a.all letB with
    | false => rw [h1, h2] at h; simp at h
    | true =>
      rw [h1, h2] at h
      simp only [Bool.and_self, if_true] at h ⊢
      unfold orZ at h ⊢
      cases h3 : formedB (normL (a ++ s) l).1 (normL (a ++ s) l).2 with
      | false => rw [h3] at h; simp at h
      | true => simp

theorem push_of {a s l : List Int} (h1 : formedB s l = true) (h2 : a.all letB = true) (h3 : formedB (normL (a ++ s) l).1 (normL (a ++ s) l).2 = true) : pushL a s l = normL (a ++ s) l := by
  unfold pushL
  rw [h1, h2]
  simp only [Bool.and_self, if_true]
  exact orZ_formed h3

/-- what was pushed is the prefix -/
theorem push_pre {a s l : List Int} (h : 0 < (pushL a s l).2.length) (ha : a.length ≤ 500) : preL (pushL a s l).1 (pushL a s l).2 a.length = a := by
  obtain ⟨h1, h2, h3, h4⟩ := push_pos h
  obtain ⟨p1, -, -, -, -⟩ := formed_pos h1
  rw [h4, preL_eq h3 ha]
  refine List.ext_getElem (by simp) fun i hi1 hi2 => ?_
  rw [List.getElem_map, List.getElem_range, push_word _ p1, if_pos hi2]
  simp [hi2]

/-- the word is the suffix behind it -/
theorem push_suf {a s l : List Int} (h : 0 < (pushL a s l).2.length) : sameB (sufL (pushL a s l).1 (pushL a s l).2 a.length).1 (sufL (pushL a s l).1 (pushL a s l).2 a.length).2 s l = true := by
  obtain ⟨h1, h2, h3, h4⟩ := push_pos h
  obtain ⟨p1, -, -, -, -⟩ := formed_pos h1
  rw [h4]
  have hF := sufL_formed h3 a.length
  obtain ⟨q1, -, -, -, -⟩ := formed_pos hF
  rw [sameB_eq hF h1, lasEqB_iff]
  refine normL_word q1 p1 fun i => ?_
  rw [sufL_word h3, push_word _ p1, if_neg (by omega), Nat.add_sub_cancel_left]

/-- pushing two lists, one after the other -/
theorem push_push {a b s l : List Int} (h : 0 < (pushL b s l).2.length) : pushL a (pushL b s l).1 (pushL b s l).2 = pushL (a ++ b) s l := by
  obtain ⟨h1, h2, h3, h4⟩ := push_pos h
  obtain ⟨p1, -, -, -, -⟩ := formed_pos h1
  obtain ⟨q1, -, -, -, -⟩ := formed_pos h3
  rw [h4]
  unfold pushL
  rw [h3, h1, List.all_append, h2, Bool.and_true]
  have hw : normL (a ++ (normL (b ++ s) l).1) (normL (b ++ s) l).2 = normL (a ++ b ++ s) l := by
    refine normL_word q1 p1 fun i => ?_
    rw [letAt_push, List.append_assoc, letAt_push, push_word _ p1, letAt_push]
  rw [hw]

/-- where both were pushed the second could be -/
theorem push_part {a b s l : List Int} (h : 0 < (pushL (a ++ b) s l).2.length) : 0 < (pushL b s l).2.length := by
  obtain ⟨h1, h2, h3, h4⟩ := push_pos h
  obtain ⟨p1, -, -, -, -⟩ := formed_pos h1
  obtain ⟨q1, q2, q3, -, -⟩ := formed_pos h3
  rw [List.all_append, Bool.and_eq_true] at h2
  obtain ⟨d1, d2, d3⟩ := dropW_pos (s := (normL (a ++ b ++ s) l).1) q1 a.length
  have hw : normL (b ++ s) l = normL (dropW (normL (a ++ b ++ s) l).1 (normL (a ++ b ++ s) l).2 a.length).1 (dropW (normL (a ++ b ++ s) l).1 (normL (a ++ b ++ s) l).2 a.length).2 := by
    refine normL_word p1 d1 fun i => ?_
    rw [letAt_dropW q1, (normL_spec (s := a ++ b ++ s) p1).1, List.append_assoc, letAt_push a, if_neg (by omega), Nat.add_sub_cancel_left]
  obtain ⟨n1, n2, n3, n4, -, -⟩ := normL_spec (s := (dropW (normL (a ++ b ++ s) l).1 (normL (a ++ b ++ s) l).2 a.length).1) d1
  have hf : formedB (normL (b ++ s) l).1 (normL (b ++ s) l).2 = true := by
    rw [hw]
    refine formed_of (by omega) n2 (by omega) fun i => ?_
    rw [n1, letAt_dropW q1]
    exact letAt_bd h3 _
  rw [push_of h1 h2.2 hf]
  exact (formed_pos hf).1

end Go.Proofs.Ytcbddplgleeiiaa
