/-
  Plain facts for the laws on signals: pairs of inputs and outputs, values, and how a number grows with its values.
-/
import Derived.Test.YtbifbaennjglmaaLawQ
namespace Go.Proofs.Ytbifbaennjglmaa
open Go.RowKit

theorem comp_lt {p : Sig → Bool} : ∀ {l : List Sig} {vs : List Int}, Sized l → okV l vs = true → 0 ≤ comp p l vs ∧ comp p l vs < prodS p l
  | [], [], _, _ => by simp [comp, prodS]
  | [], _ :: _, _, h => by simp [okV] at h
  | _ :: _, [], _, h => by simp [okV] at h
  | s :: r, v :: vs, h, h1 => by
    simp only [okV, Bool.and_eq_true, belowB_iff] at h1
    obtain ⟨i0, i1⟩ := comp_lt (p := p) h.tail h1.2
    have hs := h.head
    unfold comp prodS
    split
    · have h8 : 0 ≤ s.size * comp p r vs := Int.mul_nonneg (by omega) i0
      have h9 : s.size * (comp p r vs + 1) ≤ s.size * prodS p r := Int.mul_le_mul_of_nonneg_left (by omega) (by omega)
      rw [Int.mul_add, Int.mul_one] at h9
      omega
    · exact ⟨i0, i1⟩

theorem prod_halves : ∀ {l : List Sig}, prodS allS l = prodS (inS true) l * prodS (inS false) l
  | [] => by simp [prodS]
  | s :: r => by
    have ih := prod_halves (l := r)
    unfold prodS
    rw [if_pos (show allS s = true from rfl), ih]
    cases hs : s.input <;> simp [inS, hs, Int.mul_assoc, Int.mul_left_comm]

theorem join_back : ∀ {l : List Sig} {vs zs : List Int}, okV l vs = true → zs.length = l.length → dec (inS false) l (comp (inS false) l vs) (dec (inS true) l (comp (inS true) l vs) zs) = vs
  | [], [], [], _, _ => by simp [dec]
  | [], [], _ :: _, _, h => by simp at h
  | [], _ :: _, _, h, _ => by simp [okV] at h
  | _ :: _, [], _, h, _ => by simp [okV] at h
  | _ :: _, _ :: _, [], _, h => by simp at h
  | s :: r, v :: vs, z :: zs, h1, hl => by
    simp only [okV, Bool.and_eq_true, belowB_iff] at h1
    have ih := join_back (l := r) (vs := vs) (zs := zs) h1.2 (by simpa using hl)
    have hsz : s.size ≠ 0 := by omega
    have e1 : ∀ x : Int, (v + s.size * x) % s.size = v := fun x => by rw [Int.add_mul_emod_self_left]; exact Int.emod_eq_of_lt h1.1.1 h1.1.2
    have e2 : ∀ x : Int, (v + s.size * x) / s.size = x := fun x => by rw [Int.add_mul_ediv_left _ _ hsz, Int.ediv_eq_zero_of_lt h1.1.1 h1.1.2, Int.zero_add]
    cases hs : s.input <;> simp [dec, comp, inS, hs, e1, e2] <;> simpa [inS] using ih

theorem joinV_ok : ∀ {l : List Sig} {i o : Int} {zs : List Int}, Sized l → zs.length = l.length → okV l (dec (inS false) l o (dec (inS true) l i zs)) = true
  | [], _, _, [], _, _ => by simp [dec, okV]
  | [], _, _, _ :: _, _, h => by simp at h
  | _ :: _, _, _, [], _, h => by simp at h
  | s :: r, i, o, z :: zs, h, hl => by
    have hs := h.head
    have h5 := fun n => Int.emod_nonneg n (b := s.size) (by omega)
    have h6 := fun n => Int.emod_lt_of_pos n (b := s.size) (by omega)
    have hb : ∀ n, belowB (n % s.size) s.size = true := fun n => (belowB_iff _ _).2 ⟨h5 n, h6 n⟩
    have i1 := joinV_ok (l := r) (i := i / s.size) (o := o) (zs := zs) h.tail (by simpa using hl)
    have i2 := joinV_ok (l := r) (i := i) (o := o / s.size) (zs := zs) h.tail (by simpa using hl)
    cases hs : s.input <;> simp [dec, inS, hs, okV, hb] <;> first | simpa [inS] using i1 | simpa [inS] using i2

theorem joinV_in : ∀ {l : List Sig} {i o : Int} {zs : List Int}, Sized l → zs.length = l.length → 0 ≤ i → i < prodS (inS true) l → comp (inS true) l (dec (inS false) l o (dec (inS true) l i zs)) = i
  | [], i, _, [], _, _, h0, h1 => by simp [prodS] at h1; simp [comp]; omega
  | [], _, _, _ :: _, _, h, _, _ => by simp at h
  | _ :: _, _, _, [], _, h, _, _ => by simp at h
  | s :: r, i, o, z :: zs, h, hl, h0, h1 => by
    have hs := h.head
    have hl' : zs.length = r.length := by simpa using hl
    cases hi : s.input
    · have h1' : i < prodS (inS true) r := by unfold prodS at h1; simpa [inS, hi] using h1
      have := joinV_in (l := r) (i := i) (o := o / s.size) (zs := zs) h.tail hl' h0 h1'
      simp [dec, comp, inS, hi]
      simpa [inS] using this
    · have h1' : i < s.size * prodS (inS true) r := by unfold prodS at h1; simpa [inS, hi] using h1
      have hq0 : 0 ≤ i / s.size := Int.ediv_nonneg h0 (by omega)
      have hq1 : i / s.size < prodS (inS true) r := by rw [Int.ediv_lt_iff_lt_mul (by omega), Int.mul_comm]; exact h1'
      have := joinV_in (l := r) (i := i / s.size) (o := o) (zs := zs) h.tail hl' hq0 hq1
      simp [dec, comp, inS, hi, this]
      exact Int.emod_add_mul_ediv _ _

theorem joinV_out : ∀ {l : List Sig} {i o : Int} {zs : List Int}, Sized l → zs.length = l.length → 0 ≤ o → o < prodS (inS false) l → comp (inS false) l (dec (inS false) l o (dec (inS true) l i zs)) = o
  | [], _, o, [], _, _, h0, h1 => by simp [prodS] at h1; simp [comp]; omega
  | [], _, _, _ :: _, _, h, _, _ => by simp at h
  | _ :: _, _, _, [], _, h, _, _ => by simp at h
  | s :: r, i, o, z :: zs, h, hl, h0, h1 => by
    have hs := h.head
    have hl' : zs.length = r.length := by simpa using hl
    cases hi : s.input
    · have h1' : o < s.size * prodS (inS false) r := by unfold prodS at h1; simpa [inS, hi] using h1
      have hq0 : 0 ≤ o / s.size := Int.ediv_nonneg h0 (by omega)
      have hq1 : o / s.size < prodS (inS false) r := by rw [Int.ediv_lt_iff_lt_mul (by omega), Int.mul_comm]; exact h1'
      have := joinV_out (l := r) (i := i) (o := o / s.size) (zs := zs) h.tail hl' hq0 hq1
      simp [dec, comp, inS, hi, this]
      exact Int.emod_add_mul_ediv _ _
    · have h1' : o < prodS (inS false) r := by unfold prodS at h1; simpa [inS, hi] using h1
      have := joinV_out (l := r) (i := i / s.size) (o := o) (zs := zs) h.tail hl' h0 h1'
      simp [dec, comp, inS, hi]
      simpa [inS] using this

theorem dec_comp : ∀ {l : List Sig} {vs zs : List Int}, okV l vs = true → zs.length = l.length → dec allS l (comp allS l vs) zs = vs
  | [], [], [], _, _ => by simp [dec]
  | [], [], _ :: _, _, h => by simp at h
  | [], _ :: _, _, h, _ => by simp [okV] at h
  | _ :: _, [], _, h, _ => by simp [okV] at h
  | _ :: _, _ :: _, [], _, h => by simp at h
  | s :: r, v :: vs, z :: zs, h1, hl => by
    simp only [okV, Bool.and_eq_true, belowB_iff] at h1
    have ih := dec_comp (l := r) (vs := vs) (zs := zs) h1.2 (by simpa using hl)
    have hsz : s.size ≠ 0 := by omega
    have e1 : ∀ x : Int, (v + s.size * x) % s.size = v := fun x => by rw [Int.add_mul_emod_self_left]; exact Int.emod_eq_of_lt h1.1.1 h1.1.2
    have e2 : ∀ x : Int, (v + s.size * x) / s.size = x := fun x => by rw [Int.add_mul_ediv_left _ _ hsz, Int.ediv_eq_zero_of_lt h1.1.1 h1.1.2, Int.zero_add]
    simp [dec, comp, allS, e1, e2]
    simpa [allS] using ih

theorem valsI_comp {l : List Sig} {vs : List Int} (h : okV l vs = true) : valsI l (comp allS l vs) = vs := dec_comp h (by simp)

theorem proj_comp {p : Sig → Bool} {l : List Sig} {vs : List Int} (hw : WF l) (h : okV l vs = true) : projI p l (comp allS l vs) = comp p l vs := by
  unfold projI
  rw [cntI_valid hw, (belowB_iff _ _).2 (comp_lt hw.sized h), if_pos rfl, valsI_comp h]

theorem proj_of {p : Sig → Bool} {l : List Sig} {a : Int} (ha : belowB a (cntI allS l) = true) : projI p l a = comp p l (valsI l a) := by unfold projI; rw [ha, if_pos rfl]

theorem pair_facts {l : List Sig} (hw : WF l) : cntI allS l = cntI (inS true) l * cntI (inS false) l ∧ 2 ≤ cntI allS l ∧ 1 ≤ cntI (inS true) l ∧ 1 ≤ cntI (inS false) l ∧ cntI (inS true) l ≤ 4096 ∧ cntI (inS false) l ≤ 4096 := by
  have h1 := prodS_bd (p := inS true) hw.sized
  have h2 := prodS_bd (p := inS false) hw.sized
  have h3 := hw.pow
  rw [cntI_valid hw, cntI_valid hw, cntI_valid hw]
  refine ⟨prod_halves, ?_, h1.1, h2.1, by omega, by omega⟩
  have hl := hw.len1
  match l, hl, hw with
  | s :: r, _, hw =>
    have hs := hw.sized.head
    have hr := (prodS_bd (p := allS) hw.sized.tail).1
    have hp : prodS allS (s :: r) = s.size * prodS allS r := by simp [prodS, allS]
    rw [hp]
    have := mul_le (a := 2) (b := 1) (c := s.size) (d := prodS allS r) (by omega) (by omega) hs.1 hr
    omega

theorem letter_facts {l : List Sig} (hw : WF l) {a : Int} (ha : belowB a (cntI allS l) = true) :
    belowB (projI (inS true) l a) (cntI (inS true) l) = true ∧ belowB (projI (inS false) l a) (cntI (inS false) l) = true ∧ joinI l (projI (inS true) l a) (projI (inS false) l a) = a := by
  have hok := valsI_ok hw a
  have h1 := comp_lt (p := inS true) hw.sized hok
  have h2 := comp_lt (p := inS false) hw.sized hok
  have b1 : belowB (projI (inS true) l a) (cntI (inS true) l) = true := by rw [proj_of ha, cntI_valid hw]; exact (belowB_iff _ _).2 h1
  have b2 : belowB (projI (inS false) l a) (cntI (inS false) l) = true := by rw [proj_of ha, cntI_valid hw]; exact (belowB_iff _ _).2 h2
  refine ⟨b1, b2, ?_⟩
  unfold joinI joinOk
  rw [b1, b2, if_pos (by rfl)]
  unfold joinV
  rw [proj_of ha, proj_of ha, join_back hok (by simp)]
  have ha' := (belowB_iff _ _).1 ha
  rw [cntI_valid hw] at ha'
  exact comp_dec hw.sized (by simp) ha'.1 ha'.2

theorem join_facts {l : List Sig} (hw : WF l) {i o : Int} (hi : belowB i (cntI (inS true) l) = true) (ho : belowB o (cntI (inS false) l) = true) :
    0 ≤ joinI l i o ∧ joinI l i o < cntI allS l ∧ projI (inS true) l (joinI l i o) = i ∧ projI (inS false) l (joinI l i o) = o := by
  have hok : okV l (joinV l i o) = true := joinV_ok hw.sized (by simp)
  have e : joinI l i o = comp allS l (joinV l i o) := by unfold joinI joinOk; rw [hi, ho]; rfl
  have hi' := (belowB_iff _ _).1 hi
  have ho' := (belowB_iff _ _).1 ho
  rw [cntI_valid hw] at hi' ho'
  have hlt := comp_lt (p := allS) hw.sized hok
  rw [e, cntI_valid hw, proj_comp hw hok, proj_comp hw hok]
  exact ⟨hlt.1, hlt.2, joinV_in hw.sized (by simp) hi'.1 hi'.2, joinV_out hw.sized (by simp) ho'.1 ho'.2⟩

end Go.Proofs.Ytbifbaennjglmaa
