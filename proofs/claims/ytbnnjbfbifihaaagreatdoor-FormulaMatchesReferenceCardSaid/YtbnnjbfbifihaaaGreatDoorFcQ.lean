/-
  Leaving out repetitions beside one another, as a plain function; and that a sorted list becomes the list of its elements, each once.
-/
import Derived.Test.YtbnnjbfbifihaaaGreatDoorFcP
namespace Go.Proofs.YtbnnjbfbifihaaaGreatDoor

/-- the first j elements without those that equal the one before -/
def compT (l : List Fm) : Nat → List Fm
  | 0 => []
  | j + 1 => compT l j ++ (if j ≠ 0 ∧ cmpF (l.getD j zeroF) (l.getD (j - 1) zeroF) = 0 then [] else [l.getD j zeroF])

theorem getD_at {l : List Fm} {j : Nat} (h : j < l.length) : l.getD j zeroF = l[j] := by simp [List.getD, h]
theorem compT_dup {l : List Fm} {j : Nat} (h0 : j ≠ 0) (h : cmpF (l.getD j zeroF) (l.getD (j - 1) zeroF) = 0) : compT l (j + 1) = compT l j := by
  rw [compT, if_pos ⟨h0, h⟩, List.append_nil]
theorem compT_new {l : List Fm} {j : Nat} (h : ¬ (j ≠ 0 ∧ cmpF (l.getD j zeroF) (l.getD (j - 1) zeroF) = 0)) : compT l (j + 1) = compT l j ++ [l.getD j zeroF] := by
  rw [compT, if_neg h]
theorem compT_take {l : List Fm} : ∀ {n : Nat}, n ≤ l.length → (∀ j, j < n → j ≠ 0 → cmpF (l.getD j zeroF) (l.getD (j - 1) zeroF) ≠ 0) → compT l n = l.take n
  | 0, _, _ => by simp [compT]
  | n + 1, hn, h => by
    rw [compT_new (fun hc => h n (by omega) hc.1 hc.2), compT_take (by omega) (fun j hj => h j (by omega)), List.take_succ_eq_append_getElem (by omega), getD_at (by omega)]
theorem compT_len (l : List Fm) : ∀ n, (compT l n).length ≤ n
  | 0 => by simp [compT]
  | n + 1 => by
    have := compT_len l n
    rw [compT, List.length_append]
    split
    · simp; omega
    · simp; omega
theorem compT_sorted {l : List Fm} (hs : l.Pairwise fun a b => cmpF a b ≤ 0) : ∀ n, n ≤ l.length → Asc (compT l n) ∧ (∀ x ∈ compT l n, ∃ (i : Nat) (h : i < l.length), i < n ∧ x = l[i]) ∧ (∀ (i : Nat) (h : i < l.length), i < n → l[i] ∈ compT l n)
  | 0, _ => ⟨List.Pairwise.nil, fun x h => by simp [compT] at h, fun i _ h => absurd h (by omega)⟩
  | n + 1, hn => by
    obtain ⟨h1, h2, h3⟩ := compT_sorted hs n (by omega)
    have hle : ∀ i j (hi : i < l.length) (hj : j < l.length), i < j → cmpF l[i] l[j] ≤ 0 := fun i j hi hj h => List.pairwise_iff_getElem.1 hs i j hi hj h
    by_cases hd : n ≠ 0 ∧ cmpF (l.getD n zeroF) (l.getD (n - 1) zeroF) = 0
    · rw [compT_dup hd.1 hd.2]
      refine ⟨h1, fun x hx => ?_, fun i hi hin => ?_⟩
      · obtain ⟨i, hi, hin, e⟩ := h2 x hx
        exact ⟨i, hi, by omega, e⟩
      · rcases Nat.lt_or_ge i n with h | h
        · exact h3 i hi h
        · obtain rfl : i = n := by omega
          have e := cmpF_eq0.1 hd.2
          rw [getD_at hi, getD_at (by omega)] at e
          rw [e]
          exact h3 _ _ (by omega)
    · rw [compT_new hd]
      have hg : l.getD n zeroF = l[n] := getD_at (by omega)
      rw [hg]
      refine ⟨List.pairwise_append.2 ⟨h1, List.pairwise_singleton _ _, fun a ha b hb => ?_⟩, fun x hx => ?_, fun i hi hin => ?_⟩
      · obtain rfl : b = l[n] := by simpa using hb
        obtain ⟨i, hi, hin, rfl⟩ := h2 a ha
        have hle1 := hle i n hi (by omega) hin
        rcases Int.lt_or_eq_of_le hle1 with h | h
        · exact h
        · exfalso
          refine hd ⟨by omega, ?_⟩
          rw [hg, getD_at (show n - 1 < l.length by omega)]
          have e := cmpF_eq0.1 h
          rcases Nat.lt_or_ge i (n - 1) with hh | hh
          · have a1 := hle i (n - 1) hi (by omega) hh
            have a2 := hle (n - 1) n (by omega) (by omega) (by omega)
            rw [e] at a1
            have a3 := cmpF_anti l[n - 1] l[n]
            omega
          · have hin' : i = n - 1 := by omega
            subst hin'
            rw [← e]
            exact cmpF_self _
      · rcases List.mem_append.1 hx with hx | hx
        · obtain ⟨i, hi, hin, e⟩ := h2 x hx
          exact ⟨i, hi, by omega, e⟩
        · exact ⟨n, by omega, by omega, by simpa using hx⟩
      · rcases Nat.lt_or_ge i n with h | h
        · exact List.mem_append_left _ (h3 i hi h)
        · obtain rfl : i = n := by omega
          exact List.mem_append_right _ (by simp)
theorem compT_setF {l m : List Fm} (hs : l.Pairwise fun a b => cmpF a b ≤ 0) (hp : l.Perm m) : compT l l.length = setF m := by
  obtain ⟨h1, h2, h3⟩ := compT_sorted hs l.length (Nat.le_refl _)
  refine (setF_eq h1 fun x => ?_).symm
  constructor
  · intro hx
    obtain ⟨i, hi, -, rfl⟩ := h2 x hx
    exact hp.mem_iff.1 (List.getElem_mem hi)
  · intro hx
    obtain ⟨i, hi, rfl⟩ := List.getElem_of_mem (hp.mem_iff.2 hx)
    exact h3 i hi hi

end Go.Proofs.YtbnnjbfbifihaaaGreatDoor
