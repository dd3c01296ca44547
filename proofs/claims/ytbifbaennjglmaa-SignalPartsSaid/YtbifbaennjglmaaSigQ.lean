/-
  Plain facts on signals: what the loops over weights reckon, in Horner's form, where the sizes are small.
-/
import Derived.Test.YtbifbaennjglmaaSigP
namespace Go.Proofs.Ytbifbaennjglmaa
open Go.RowKit

def allS : Sig → Bool := fun _ => true
def inS (b : Bool) : Sig → Bool := fun s => s.input == b

/-- the product of the selected sizes -/
def prodS (p : Sig → Bool) : List Sig → Int
  | [] => 1
  | s :: r => if p s then s.size * prodS p r else prodS p r

/-- the number that is built from the selected values -/
def comp (p : Sig → Bool) : List Sig → List Int → Int
  | s :: r, v :: vs => if p s then v + s.size * comp p r vs else comp p r vs
  | _, _ => 0

/-- the selected values of a number; the others as they were -/
def dec (p : Sig → Bool) : List Sig → Int → List Int → List Int
  | s :: r, n, v :: vs => if p s then (n % s.size) :: dec p r (n / s.size) vs else v :: dec p r n vs
  | _, _, vs => vs

/-- all sizes are from 2 to 4 -/
def Sized (l : List Sig) : Prop := ∀ s ∈ l, 2 ≤ s.size ∧ s.size ≤ 4

/-- all values are from 0 to 3 -/
def Few (vs : List Int) : Prop := ∀ v ∈ vs, 0 ≤ v ∧ v ≤ 3

theorem wrap64_small {n : Int} (h0 : -1000000000 ≤ n) (h1 : n ≤ 1000000000) : wrap64 n = n := by unfold wrap64; omega

/-- 4 to the n-th -/
def pow4 : Nat → Int
  | 0 => 1
  | n + 1 => 4 * pow4 n
theorem pow4_pos : ∀ n, 1 ≤ pow4 n
  | 0 => by simp [pow4]
  | n + 1 => by have := pow4_pos n; simp only [pow4]; omega
theorem pow4_mono : ∀ {n m : Nat}, n ≤ m → pow4 n ≤ pow4 m
  | 0, m, _ => pow4_pos m
  | n + 1, 0, h => by omega
  | n + 1, m + 1, h => by have := pow4_mono (n := n) (m := m) (by omega); simp only [pow4]; omega

theorem mul_le {a b c d : Int} (ha : 0 ≤ a) (hd : 0 ≤ b) (h1 : a ≤ c) (h2 : b ≤ d) : a * b ≤ c * d :=
  Int.le_trans (Int.mul_le_mul_of_nonneg_right h1 hd) (Int.mul_le_mul_of_nonneg_left h2 (Int.le_trans ha h1))

theorem prodS_bd {p : Sig → Bool} : ∀ {l : List Sig}, Sized l → 1 ≤ prodS p l ∧ prodS p l ≤ pow4 l.length
  | [], _ => by simp [prodS, pow4]
  | s :: r, h => by
    obtain ⟨h1, h2⟩ := prodS_bd (p := p) (l := r) (fun s hs => h s (List.mem_cons_of_mem _ hs))
    obtain ⟨h3, h4⟩ := h s (List.mem_cons_self ..)
    unfold prodS
    have hp := pow4_pos r.length
    simp only [List.length_cons, pow4]
    split
    · refine ⟨?_, mul_le (by omega) (by omega) h4 h2⟩
      have := mul_le (a := 1) (b := 1) (c := s.size) (d := prodS p r) (by omega) (by omega) (by omega) h1
      omega
    · omega

theorem comp_bd {p : Sig → Bool} : ∀ {l : List Sig} {vs : List Int}, Sized l → Few vs → 0 ≤ comp p l vs ∧ comp p l vs + 1 ≤ pow4 l.length
  | [], _, _, _ => by simp [comp, pow4]
  | s :: r, [], _, _ => by have := pow4_pos (r.length + 1); simp [comp]; omega
  | s :: r, v :: vs, h, hv => by
    obtain ⟨h1, h2⟩ := comp_bd (p := p) (l := r) (vs := vs) (fun s hs => h s (List.mem_cons_of_mem _ hs)) (fun v hs => hv v (List.mem_cons_of_mem _ hs))
    obtain ⟨h3, h4⟩ := h s (List.mem_cons_self ..)
    obtain ⟨h5, h6⟩ := hv v (List.mem_cons_self ..)
    unfold comp
    simp only [List.length_cons, pow4]
    split
    · have h7 : s.size * comp p r vs ≤ 4 * comp p r vs := Int.mul_le_mul_of_nonneg_right h4 h1
      have h8 : 0 ≤ s.size * comp p r vs := Int.mul_nonneg (by omega) h1
      omega
    · omega

theorem wl_weights {p : Sig → Bool} : ∀ {l : List Sig} {k : Nat} {x : Int}, Sized l → 1 ≤ x → x * pow4 l.length ≤ 1000000 → ∀ e ∈ wl p k x l, 1 ≤ e.2 ∧ e.2 ≤ 1000000
  | [], _, _, _, _, _, e, he => by simp [wl] at he
  | s :: r, k, x, h, hx, hb, e, he => by
    obtain ⟨h3, h4⟩ := h s (List.mem_cons_self ..)
    have hr : Sized r := fun s hs => h s (List.mem_cons_of_mem _ hs)
    have hp := pow4_pos r.length
    simp only [List.length_cons, pow4] at hb
    have h5 : x * s.size ≤ x * 4 := Int.mul_le_mul_of_nonneg_left h4 (by omega)
    have h6 : x * 2 ≤ x * s.size := Int.mul_le_mul_of_nonneg_left h3 (by omega)
    have h7 : (x * 4) * pow4 r.length ≤ 1000000 := by rw [Int.mul_assoc]; exact hb
    have h8 : (x * s.size) * pow4 r.length ≤ (x * 4) * pow4 r.length := Int.mul_le_mul_of_nonneg_right h5 (by omega)
    have h9 : (x * 4) * 1 ≤ (x * 4) * pow4 r.length := Int.mul_le_mul_of_nonneg_left hp (by omega)
    have h10 : x * pow4 r.length ≤ (x * 4) * pow4 r.length := Int.mul_le_mul_of_nonneg_right (by omega) (by omega)
    unfold wl at he
    split at he
    · rcases List.mem_cons.1 he with rfl | he
      · exact ⟨hx, by omega⟩
      · rw [wrap64_small (by omega) (by omega)] at he
        exact wl_weights hr (by omega) (by omega) e he
    · exact wl_weights hr hx (by omega) e he

theorem count_go {p : Sig → Bool} {L : List Sig} : ∀ {l : List Sig} {k : Nat} {x n : Int}, L.drop k = l → Sized l → 0 ≤ n → n * pow4 l.length ≤ 1000000 →
    (wl p k x l).foldl (fun n x => wrap64 (n * (L.map (·.size)).getD x.1 0)) n = n * prodS p l
  | [], _, _, _, _, _, _, _ => by simp [wl, prodS]
  | s :: r, k, x, n, hL, h, hn, hb => by
    obtain ⟨h3, h4⟩ := h s (List.mem_cons_self ..)
    have hr : Sized r := fun s hs => h s (List.mem_cons_of_mem _ hs)
    have hk : k < L.length := by
      rcases Nat.lt_or_ge k L.length with h | h
      · exact h
      · rw [List.drop_of_length_le h] at hL; cases hL
    have hd := List.drop_eq_getElem_cons hk
    rw [hL] at hd
    injection hd with e1 e2
    have hp := pow4_pos r.length
    simp only [List.length_cons, pow4] at hb
    have h7 : (n * 4) * pow4 r.length ≤ 1000000 := by rw [Int.mul_assoc]; exact hb
    have h5 : n * s.size ≤ n * 4 := Int.mul_le_mul_of_nonneg_left h4 hn
    have h6 : 0 ≤ n * s.size := Int.mul_nonneg hn (by omega)
    have h8 : (n * s.size) * pow4 r.length ≤ (n * 4) * pow4 r.length := Int.mul_le_mul_of_nonneg_right h5 (by omega)
    have h9 : (n * 4) * 1 ≤ (n * 4) * pow4 r.length := Int.mul_le_mul_of_nonneg_left hp (by omega)
    have h10 : n * pow4 r.length ≤ (n * 4) * pow4 r.length := Int.mul_le_mul_of_nonneg_right (by omega) (by omega)
    unfold wl prodS
    split
    · rw [List.foldl_cons]
      have hg : (L.map (·.size)).getD k 0 = s.size := by simp [hk, ← e1]
      simp only [hg]
      rw [wrap64_small (by omega) (by omega), count_go e2.symm hr h6 (by omega), Int.mul_assoc]
    · exact count_go e2.symm hr hn (by omega)

theorem compose_go {p : Sig → Bool} {V : List Int} : ∀ {l : List Sig} {vs : List Int} {k : Nat} {x n : Int}, V.drop k = vs → vs.length = l.length → Sized l → Few vs → 1 ≤ x → 0 ≤ n → n ≤ 3 * x → x * pow4 l.length ≤ 100000 →
    (wl p k x l).foldl (fun n x => wrap64 (n + wrap64 (V.getD x.1 0 * x.2))) n = n + x * comp p l vs
  | [], _, _, _, _, _, _, _, _, _, _, _, _ => by simp [wl, comp]
  | s :: r, [], _, _, _, _, hlen, _, _, _, _, _, _ => by simp at hlen
  | s :: r, v :: vs, k, x, n, hV, hlen, h, hv, hx, hn, hn1, hb => by
    obtain ⟨h3, h4⟩ := h s (List.mem_cons_self ..)
    obtain ⟨v3, v4⟩ := hv v (List.mem_cons_self ..)
    have hr : Sized r := fun s hs => h s (List.mem_cons_of_mem _ hs)
    have hvr : Few vs := fun s hs => hv s (List.mem_cons_of_mem _ hs)
    have hk : k < V.length := by
      rcases Nat.lt_or_ge k V.length with h | h
      · exact h
      · rw [List.drop_of_length_le h] at hV; cases hV
    have hd := List.drop_eq_getElem_cons hk
    rw [hV] at hd
    injection hd with e1 e2
    have hp := pow4_pos r.length
    have hlen' : vs.length = r.length := by simpa using hlen
    simp only [List.length_cons, pow4] at hb
    have h7 : x * (4 * pow4 r.length) = (x * 4) * pow4 r.length := (Int.mul_assoc ..).symm
    have h5 : x * s.size ≤ x * 4 := Int.mul_le_mul_of_nonneg_left h4 (by omega)
    have h6 : x * 2 ≤ x * s.size := Int.mul_le_mul_of_nonneg_left h3 (by omega)
    have h8 : (x * s.size) * pow4 r.length ≤ (x * 4) * pow4 r.length := Int.mul_le_mul_of_nonneg_right h5 (by omega)
    have h8' : (x * 2) * pow4 r.length ≤ (x * s.size) * pow4 r.length := Int.mul_le_mul_of_nonneg_right h6 (by omega)
    have h9 : (x * 4) * 1 ≤ (x * 4) * pow4 r.length := Int.mul_le_mul_of_nonneg_left hp (by omega)
    have h10 : x * pow4 r.length ≤ (x * 4) * pow4 r.length := Int.mul_le_mul_of_nonneg_right (by omega) (by omega)
    have h11 : v * x ≤ 3 * x := Int.mul_le_mul_of_nonneg_right v4 (by omega)
    have h12 : 0 ≤ v * x := Int.mul_nonneg v3 (by omega)
    unfold wl comp
    split
    · rw [List.foldl_cons]
      have hg : V.getD k 0 = v := by simp [hk, ← e1]
      simp only [hg]
      rw [wrap64_small (n := v * x) (by omega) (by omega), wrap64_small (n := n + v * x) (by omega) (by omega), wrap64_small (n := x * s.size) (by omega) (by omega)]
      rw [compose_go (n := n + v * x) e2.symm hlen' hr hvr (by omega) (by omega) (by omega) (by omega), Int.mul_add, Int.mul_assoc, Int.mul_comm v x]
      omega
    · exact compose_go e2.symm hlen' hr hvr hx hn hn1 (by omega)

theorem dec_length {p : Sig → Bool} : ∀ {l : List Sig} {n : Int} {vs : List Int}, (dec p l n vs).length = vs.length
  | [], _, _ => by simp [dec]
  | s :: r, n, [] => by simp [dec]
  | s :: r, n, v :: vs => by unfold dec; split <;> simp [dec_length]

theorem dec_go {p : Sig → Bool} {L : List Sig} {N : Int} : ∀ {l : List Sig} {k : Nat} {x : Int} {xs : List Int}, L.drop k = l → xs.length = L.length → Sized l → 1 ≤ x → x * pow4 l.length ≤ 100000 →
    (wl p k x l).foldl (fun xs x => xs.set x.1 (N / x.2 % (L.map (·.size)).getD x.1 0)) xs = xs.take k ++ dec p l (N / x) (xs.drop k)
  | [], k, x, xs, hL, hlen, _, _, _ => by simp [wl, dec]
  | s :: r, k, x, xs, hL, hlen, h, hx, hb => by
    obtain ⟨h3, h4⟩ := h s (List.mem_cons_self ..)
    have hr : Sized r := fun s hs => h s (List.mem_cons_of_mem _ hs)
    have hk : k < L.length := by
      rcases Nat.lt_or_ge k L.length with h | h
      · exact h
      · rw [List.drop_of_length_le h] at hL; cases hL
    have hd := List.drop_eq_getElem_cons hk
    rw [hL] at hd
    injection hd with e1 e2
    have hp := pow4_pos r.length
    simp only [List.length_cons, pow4] at hb
    have h7 : x * (4 * pow4 r.length) = (x * 4) * pow4 r.length := (Int.mul_assoc ..).symm
    have h5 : x * s.size ≤ x * 4 := Int.mul_le_mul_of_nonneg_left h4 (by omega)
    have h6 : x * 2 ≤ x * s.size := Int.mul_le_mul_of_nonneg_left h3 (by omega)
    have h8 : (x * s.size) * pow4 r.length ≤ (x * 4) * pow4 r.length := Int.mul_le_mul_of_nonneg_right h5 (by omega)
    have h9 : (x * 4) * 1 ≤ (x * 4) * pow4 r.length := Int.mul_le_mul_of_nonneg_left hp (by omega)
    have h10 : x * pow4 r.length ≤ (x * 4) * pow4 r.length := Int.mul_le_mul_of_nonneg_right (by omega) (by omega)
    have hkx : k < xs.length := by omega
    have hdx := List.drop_eq_getElem_cons hkx
    have htx : xs.take (k + 1) = xs.take k ++ [xs[k]] := by simp
    rw [hdx]
    unfold wl dec
    split
    · rw [List.foldl_cons]
      have hg : (L.map (·.size)).getD k 0 = s.size := by simp [hk, ← e1]
      simp only [hg]
      rw [wrap64_small (n := x * s.size) (by omega) (by omega), dec_go (xs := xs.set k (N / x % s.size)) e2.symm (by simpa using hlen) hr (by omega) (by omega)]
      rw [List.drop_set_of_lt (by omega), ← Int.ediv_ediv_of_nonneg (show (0 : Int) ≤ x by omega)]
      have ht : (xs.set k (N / x % s.size)).take (k + 1) = xs.take k ++ [N / x % s.size] := by
        rw [List.take_succ_eq_append_getElem (by simpa using hkx), List.getElem_set_self, List.take_set, List.set_eq_of_length_le (by simp; omega)]
      rw [ht, List.append_assoc]
      rfl
    · rw [dec_go e2.symm hlen hr hx (by omega), htx, List.append_assoc]
      rfl

theorem validFrom_iff {L : List Sig} : ∀ {l : List Sig} {k : Nat} {n : Int}, L.drop k = l → 0 ≤ n → n * pow4 l.length ≤ 1000000 →
    (validFrom L k n l = true ↔ (∀ i (h : i < l.length), nameB l[i].name = true ∧ findI L l[i].name = ((k + i : Nat) : Int) ∧ 2 ≤ l[i].size ∧ l[i].size ≤ 4) ∧ n * prodS allS l ≤ 64)
  | [], k, n, _, _, _ => by simp [validFrom, prodS]
  | s :: r, k, n, hL, hn, hb => by
    have hk : k < L.length := by
      rcases Nat.lt_or_ge k L.length with h | h
      · exact h
      · rw [List.drop_of_length_le h] at hL; cases hL
    have hd := List.drop_eq_getElem_cons hk
    rw [hL] at hd
    injection hd with e1 e2
    have hp := pow4_pos r.length
    simp only [List.length_cons, pow4] at hb
    by_cases hs : 2 ≤ s.size ∧ s.size ≤ 4
    · obtain ⟨h3, h4⟩ := hs
      have h7 : (n * 4) * pow4 r.length ≤ 1000000 := by rw [Int.mul_assoc]; exact hb
      have h5 : n * s.size ≤ n * 4 := Int.mul_le_mul_of_nonneg_left h4 hn
      have h6 : 0 ≤ n * s.size := Int.mul_nonneg hn (by omega)
      have h8 : (n * s.size) * pow4 r.length ≤ (n * 4) * pow4 r.length := Int.mul_le_mul_of_nonneg_right h5 (by omega)
      have h9 : (n * 4) * 1 ≤ (n * 4) * pow4 r.length := Int.mul_le_mul_of_nonneg_left hp (by omega)
      have ih := validFrom_iff (L := L) (l := r) (k := k + 1) (n := n * s.size) e2.symm h6 (by omega)
      unfold validFrom
      rw [wrap64_small (by omega) (by omega)]
      simp only [Bool.and_eq_true, decide_eq_true_eq, beq_iff_eq, ih]
      have hpr : prodS allS (s :: r) = s.size * prodS allS r := by simp [prodS, allS]
      rw [hpr, ← Int.mul_assoc]
      constructor
      · rintro ⟨⟨⟨⟨a1, a2⟩, -⟩, -⟩, a3, a4⟩
        refine ⟨fun i hi => ?_, a4⟩
        cases i with
        | zero => exact ⟨a1, a2, h3, h4⟩
        | succ i =>
          have := a3 i (by simpa using hi)
          simpa [Nat.add_assoc, Nat.add_comm 1 i] using this
      · rintro ⟨a3, a4⟩
        have a0 := a3 0 (by simp)
        refine ⟨⟨⟨⟨a0.1, a0.2.1⟩, h3⟩, h4⟩, fun i hi => ?_, a4⟩
        have := a3 (i + 1) (by simpa using hi)
        simpa [Nat.add_assoc, Nat.add_comm 1 i] using this
    · constructor
      · intro h
        unfold validFrom at h
        simp only [Bool.and_eq_true, decide_eq_true_eq] at h
        exact (hs ⟨h.1.1.2, h.1.2⟩).elim
      · rintro ⟨a, -⟩
        exact (hs (a 0 (by simp)).2.2).elim

/-- signals are well-formed -/
structure WF (l : List Sig) : Prop where
  len1 : 1 ≤ l.length
  len6 : l.length ≤ 6
  sized : Sized l
  name : ∀ k (h : k < l.length), nameB l[k].name = true
  find : ∀ k (h : k < l.length), findI l l[k].name = (k : Int)
  prod : prodS allS l ≤ 64

theorem valid_iff (l : List Sig) : validB l = true ↔ WF l := by
  unfold validB
  simp only [Bool.and_eq_true, decide_eq_true_eq]
  constructor
  · rintro ⟨⟨h1, h2⟩, h3⟩
    rw [validFrom_iff (L := l) (l := l) (k := 0) (n := 1) List.drop_zero (by omega) (by have := pow4_mono (m := 6) h2; simp [pow4] at this; omega)] at h3
    obtain ⟨h3, h4⟩ := h3
    exact ⟨h1, h2, fun s hs => by obtain ⟨i, hi, rfl⟩ := List.getElem_of_mem hs; exact (h3 i hi).2.2, fun k h => (h3 k h).1, fun k h => by have := (h3 k h).2.1; simpa using this, by omega⟩
  · intro h
    refine ⟨⟨h.len1, h.len6⟩, ?_⟩
    rw [validFrom_iff (L := l) (l := l) (k := 0) (n := 1) List.drop_zero (by omega) (by have := pow4_mono (m := 6) h.len6; simp [pow4] at this; omega)]
    exact ⟨fun i hi => ⟨h.name i hi, by simpa using h.find i hi, h.sized _ (List.getElem_mem hi)⟩, by have := h.prod; omega⟩

theorem WF.pow {l : List Sig} (h : WF l) : pow4 l.length ≤ 4096 := by have := pow4_mono (m := 6) h.len6; simp [pow4] at this; omega

theorem countW_eq {l : List Sig} (h : WF l) (p : Sig → Bool) : countW l (wl p 0 1 l) = prodS p l := by
  unfold countW
  rw [count_go (L := l) (l := l) (k := 0) List.drop_zero h.sized (by omega) (by have := h.pow; omega)]
  omega

theorem composeW_eq {l : List Sig} (h : WF l) (p : Sig → Bool) {vs : List Int} (hl : vs.length = l.length) (hv : Few vs) : composeW vs (wl p 0 1 l) = comp p l vs := by
  unfold composeW
  rw [compose_go (V := vs) (vs := vs) (k := 0) List.drop_zero hl h.sized hv (by omega) (by omega) (by omega) (by have := h.pow; omega)]
  omega

theorem decW_eq {l : List Sig} (h : WF l) (p : Sig → Bool) (n : Int) {vs : List Int} (hl : vs.length = l.length) : decW l n vs (wl p 0 1 l) = dec p l n vs := by
  unfold decW
  rw [dec_go (L := l) (l := l) (k := 0) List.drop_zero hl h.sized (by omega) (by have := h.pow; omega)]
  simp

theorem WF.weights {l : List Sig} (h : WF l) (p : Sig → Bool) : ∀ e ∈ wl p 0 1 l, 1 ≤ e.2 ∧ e.2 ≤ 1000000 := wl_weights h.sized (by omega) (by have := h.pow; omega)

theorem dec_few {p : Sig → Bool} : ∀ {l : List Sig} {n : Int} {vs : List Int}, Sized l → Few vs → Few (dec p l n vs)
  | [], _, vs, _, hv => by unfold dec; exact hv
  | s :: r, n, [], _, hv => by unfold dec; exact hv
  | s :: r, n, v :: vs, h, hv => by
    obtain ⟨h3, h4⟩ := h s (List.mem_cons_self ..)
    have hr : Sized r := fun s hs => h s (List.mem_cons_of_mem _ hs)
    have hvr : Few vs := fun s hs => hv s (List.mem_cons_of_mem _ hs)
    have h5 := Int.emod_nonneg n (b := s.size) (by omega)
    have h6 := Int.emod_lt_of_pos n (b := s.size) (by omega)
    unfold dec
    split
    · intro u hu
      rcases List.mem_cons.1 hu with rfl | hu
      · omega
      · exact dec_few hr hvr u hu
    · intro u hu
      rcases List.mem_cons.1 hu with rfl | hu
      · exact hv _ (List.mem_cons_self ..)
      · exact dec_few hr hvr u hu

theorem few_zeros (n : Nat) : Few (List.replicate n 0) := fun v hv => by
  have := (List.mem_replicate.1 hv).2
  omega

end Go.Proofs.Ytbifbaennjglmaa
