/-
  Plain facts on the reference's loops over signals.
-/
import Derived.Test.YtbifbaennjglmaaLawR
namespace Go.Proofs.Ytbifbaennjglmaa
open Go.RowKit

def sideW (b : Bool) : Int → List Sig → Int
  | n, [] => n
  | n, s :: r => if s.input == b then sideW b (wrap64 (n * s.size)) r else sideW b n r

theorem sideW_eq {b : Bool} : ∀ {l : List Sig} {n : Int}, Sized l → 0 ≤ n → n * pow4 l.length ≤ 1000000 → sideW b n l = n * prodS (inS b) l
  | [], n, _, _, _ => by simp [sideW, prodS]
  | s :: r, n, h, hn, hb => by
    obtain ⟨h3, h4⟩ := h.head
    have hp := pow4_pos r.length
    simp only [List.length_cons, pow4] at hb
    have h7 : (n * 4) * pow4 r.length ≤ 1000000 := by rw [Int.mul_assoc]; exact hb
    have h5 : n * s.size ≤ n * 4 := Int.mul_le_mul_of_nonneg_left h4 hn
    have h6 : 0 ≤ n * s.size := Int.mul_nonneg hn (by omega)
    have h8 : (n * s.size) * pow4 r.length ≤ (n * 4) * pow4 r.length := Int.mul_le_mul_of_nonneg_right h5 (by omega)
    have h9 : (n * 4) * 1 ≤ (n * 4) * pow4 r.length := Int.mul_le_mul_of_nonneg_left hp (by omega)
    have h10 : n * pow4 r.length ≤ (n * 4) * pow4 r.length := Int.mul_le_mul_of_nonneg_right (by omega) (by omega)
    unfold sideW prodS
    cases hs : (s.input == b)
    · simp only [inS, hs, Bool.false_eq_true, if_false]
      exact sideW_eq h.tail hn (by omega)
    · simp only [inS, hs, if_true]
      rw [wrap64_small (by omega) (by omega), sideW_eq h.tail h6 (by omega), Int.mul_assoc]

/-- a number reckoned from its values, digit by digit -/
def accW (p : Sig → Bool) : Int → Int → List Sig → List Int → Int
  | n, x, s :: r, v :: vs => if p s then accW p (wrap64 (n + wrap64 (x * v))) (wrap64 (x * s.size)) r vs else accW p n x r vs
  | n, _, _, _ => n

theorem accW_eq {p : Sig → Bool} : ∀ {l : List Sig} {vs : List Int} {x n : Int}, Sized l → Few vs → 1 ≤ x → 0 ≤ n → n ≤ 3 * x → x * pow4 l.length ≤ 100000 → accW p n x l vs = n + x * comp p l vs
  | [], _, _, _, _, _, _, _, _, _ => by simp [accW, comp]
  | _ :: _, [], _, _, _, _, _, _, _, _ => by simp [accW, comp]
  | s :: r, v :: vs, x, n, h, hv, hx, hn, hn1, hb => by
    obtain ⟨h3, h4⟩ := h.head
    obtain ⟨v3, v4⟩ := hv v (List.mem_cons_self ..)
    have hvr : Few vs := fun s hs => hv s (List.mem_cons_of_mem _ hs)
    have hp := pow4_pos r.length
    simp only [List.length_cons, pow4] at hb
    have h7 : x * (4 * pow4 r.length) = (x * 4) * pow4 r.length := (Int.mul_assoc ..).symm
    have h5 : x * s.size ≤ x * 4 := Int.mul_le_mul_of_nonneg_left h4 (by omega)
    have h6 : x * 2 ≤ x * s.size := Int.mul_le_mul_of_nonneg_left h3 (by omega)
    have h8 : (x * s.size) * pow4 r.length ≤ (x * 4) * pow4 r.length := Int.mul_le_mul_of_nonneg_right h5 (by omega)
    have h9 : (x * 4) * 1 ≤ (x * 4) * pow4 r.length := Int.mul_le_mul_of_nonneg_left hp (by omega)
    have h10 : x * pow4 r.length ≤ (x * 4) * pow4 r.length := Int.mul_le_mul_of_nonneg_right (by omega) (by omega)
    have h11 : x * v ≤ x * 3 := Int.mul_le_mul_of_nonneg_left v4 (by omega)
    have h12 : 0 ≤ x * v := Int.mul_nonneg (by omega) v3
    unfold accW comp
    split
    · rw [wrap64_small (n := x * v) (by omega) (by omega), wrap64_small (n := n + x * v) (by omega) (by omega), wrap64_small (n := x * s.size) (by omega) (by omega)]
      rw [accW_eq h.tail hvr (by omega) (by omega) (by omega) (by omega), Int.mul_add, Int.mul_assoc]
      omega
    · exact accW_eq h.tail hvr hx hn hn1 (by omega)

theorem acc_comp {p : Sig → Bool} {l : List Sig} {vs : List Int} (h : WF l) (hv : Few vs) : accW p 0 1 l vs = comp p l vs := by
  rw [accW_eq h.sized hv (by omega) (by omega) (by omega) (by have := h.pow; omega)]
  omega

theorem side_cnt (b : Bool) (l : List Sig) : (if validB l then sideW b 1 l else 0) = cntI (inS b) l := by
  unfold cntI
  by_cases h : validB l = true
  · have hw := (valid_iff l).1 h
    rw [if_pos h, if_pos h, sideW_eq hw.sized (by omega) (by have := hw.pow; omega)]
    omega
  · rw [if_neg h, if_neg h]

theorem letters_mul (l : List Sig) : wrap64 (cntI (inS true) l * cntI (inS false) l) = cntI allS l := by
  by_cases h : WF l
  · obtain ⟨hmul, h2, _⟩ := pair_facts h
    have := cnt_bd h
    rw [← hmul]
    exact wrap64_small (by omega) (by omega)
  · rw [cntI_not h, cntI_not h, cntI_not h]
    exact wrap64_small (by omega) (by omega)

/-- the digits of an input and an output, signal by signal -/
def joinD : List Sig → Int → Int → List Int
  | [], _, _ => []
  | s :: r, i, o => if s.input then (i % s.size) :: joinD r (i / s.size) o else (o % s.size) :: joinD r i (o / s.size)

theorem joinD_eq : ∀ (l : List Sig) (i o : Int), joinD l i o = joinV l i o
  | [], _, _ => by simp [joinD, joinV, dec]
  | s :: r, i, o => by
    have h1 := joinD_eq r (i / s.size) o
    have h2 := joinD_eq r i (o / s.size)
    unfold joinV at h1 h2 ⊢
    cases hs : s.input
    · simp [joinD, hs, h2, List.replicate_succ, dec, inS]
    · simp [joinD, hs, h1, List.replicate_succ, dec, inS]

/-- the digits of a number, signal by signal -/
def digs : List Sig → Int → List Int
  | [], _ => []
  | s :: r, n => (n % s.size) :: digs r (n / s.size)

theorem digs_eq : ∀ (l : List Sig) (n : Int), digs l n = valsI l n
  | [], _ => by simp [digs, valsI, dec]
  | s :: r, n => by
    have h := digs_eq r (n / s.size)
    unfold valsI at h ⊢
    simp [digs, h, List.replicate_succ, dec, allS]

end Go.Proofs.Ytbifbaennjglmaa
