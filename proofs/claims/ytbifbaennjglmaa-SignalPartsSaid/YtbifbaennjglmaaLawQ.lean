/-
  Plain facts for the laws on signals: digits, numbers and their halves.
-/
import Derived.Test.YtbifbaennjglmaaSigG
namespace Go.Proofs.Ytbifbaennjglmaa
open Go.RowKit

theorem Sized.tail {s : Sig} {r : List Sig} (h : Sized (s :: r)) : Sized r := fun x hx => h x (List.mem_cons_of_mem _ hx)
theorem Sized.head {s : Sig} {r : List Sig} (h : Sized (s :: r)) : 2 ≤ s.size ∧ s.size ≤ 4 := h s (List.mem_cons_self ..)

theorem dec_ok : ∀ {l : List Sig} {n : Int} {vs : List Int}, Sized l → vs.length = l.length → okV l (dec allS l n vs) = true
  | [], _, [], _, _ => rfl
  | [], _, _ :: _, _, h => by simp at h
  | _ :: _, _, [], _, h => by simp at h
  | s :: r, n, v :: vs, h, hl => by
    have hs := h.head
    have h5 := Int.emod_nonneg n (b := s.size) (by omega)
    have h6 := Int.emod_lt_of_pos n (b := s.size) (by omega)
    unfold dec
    rw [if_pos (show allS s = true from rfl)]
    simp only [okV, Bool.and_eq_true, belowB_iff]
    exact ⟨⟨h5, h6⟩, dec_ok h.tail (by simpa using hl)⟩

theorem comp_dec : ∀ {l : List Sig} {n : Int} {vs : List Int}, Sized l → vs.length = l.length → 0 ≤ n → n < prodS allS l → comp allS l (dec allS l n vs) = n
  | [], n, [], _, _, h0, h1 => by simp [prodS] at h1; simp [comp]; omega
  | [], _, _ :: _, _, h, _, _ => by simp at h
  | _ :: _, _, [], _, h, _, _ => by simp at h
  | s :: r, n, v :: vs, h, hl, h0, h1 => by
    have hs := h.head
    have hp : prodS allS (s :: r) = s.size * prodS allS r := by simp [prodS, allS]
    rw [hp] at h1
    unfold dec
    rw [if_pos (show allS s = true from rfl)]
    unfold comp
    rw [if_pos (show allS s = true from rfl)]
    have hq0 : 0 ≤ n / s.size := Int.ediv_nonneg h0 (by omega)
    have hq1 : n / s.size < prodS allS r := by
      rw [Int.ediv_lt_iff_lt_mul (by omega), Int.mul_comm]; exact h1
    rw [comp_dec h.tail (by simpa using hl) hq0 hq1, Int.add_comm, Int.mul_ediv_add_emod]

/-- two lists of values agree at the selected signals -/
def eqOn (p : Sig → Bool) : List Sig → List Int → List Int → Bool
  | s :: r, u :: us, v :: vs => (!p s || u == v) && eqOn p r us vs
  | _, _, _ => true

theorem digit_inj {z u v x y : Int} (hu : 0 ≤ u ∧ u < z) (hv : 0 ≤ v ∧ v < z) : u + z * x = v + z * y ↔ u = v ∧ x = y := by
  constructor
  · intro h
    have h1 : (u + z * x) % z = u := by rw [Int.add_mul_emod_self_left]; exact Int.emod_eq_of_lt hu.1 hu.2
    have h2 : (v + z * y) % z = v := by rw [Int.add_mul_emod_self_left]; exact Int.emod_eq_of_lt hv.1 hv.2
    have e : u = v := by rw [← h1, ← h2, h]
    refine ⟨e, ?_⟩
    subst e
    exact Int.eq_of_mul_eq_mul_left (a := z) (by omega) (by omega)
  · rintro ⟨rfl, rfl⟩; rfl

theorem comp_eq_iff {p : Sig → Bool} : ∀ {l : List Sig} {us vs : List Int}, okV l us = true → okV l vs = true → (comp p l us = comp p l vs ↔ eqOn p l us vs = true)
  | [], [], [], _, _ => by simp [comp, eqOn]
  | [], [], _ :: _, _, h => by simp [okV] at h
  | [], _ :: _, _, h, _ => by simp [okV] at h
  | _ :: _, [], _, h, _ => by simp [okV] at h
  | _ :: _, _ :: _, [], _, h => by simp [okV] at h
  | s :: r, u :: us, v :: vs, h1, h2 => by
    simp only [okV, Bool.and_eq_true, belowB_iff] at h1 h2
    have ih := comp_eq_iff (p := p) h1.2 h2.2
    unfold comp eqOn
    cases hp : p s
    · simp [ih]
    · simp [digit_inj h1.1 h2.1, ih]

/-- the same, asked of Value -/
def eqFrom (p : Sig → Bool) (l : List Sig) (a b : Int) : Nat → List Sig → Bool
  | _, [] => true
  | k, s :: r => (!p s || valueI l a k == valueI l b k) && eqFrom p l a b (k + 1) r

theorem valueI_eq {l : List Sig} {a : Int} {k : Nat} (ha : belowB a (cntI allS l) = true) (hk : k < l.length) : valueI l a k = (valsI l a)[k]'(by rw [valsI_length]; exact hk) := by
  unfold valueI
  rw [ha, show belowB (k : Int) l.length = true from (belowB_iff _ _).2 ⟨by omega, by omega⟩]
  have : k < (valsI l a).length := by rw [valsI_length]; exact hk
  simp [this]

theorem eqFrom_eq {p : Sig → Bool} {L : List Sig} {a b : Int} (ha : belowB a (cntI allS L) = true) (hb : belowB b (cntI allS L) = true) : ∀ {l : List Sig} {k : Nat}, L.drop k = l →
    eqFrom p L a b k l = eqOn p l ((valsI L a).drop k) ((valsI L b).drop k)
  | [], k, _ => by simp [eqFrom, eqOn]
  | s :: r, k, hL => by
    have hk : k < L.length := by
      rcases Nat.lt_or_ge k L.length with h | h
      · exact h
      · rw [List.drop_of_length_le h] at hL; cases hL
    have hd := List.drop_eq_getElem_cons hk
    rw [hL] at hd
    injection hd with e1 e2
    rw [List.drop_eq_getElem_cons (l := valsI L a) (by rw [valsI_length]; exact hk), List.drop_eq_getElem_cons (l := valsI L b) (by rw [valsI_length]; exact hk)]
    unfold eqFrom eqOn
    rw [valueI_eq ha hk, valueI_eq hb hk, eqFrom_eq ha hb e2.symm]

theorem valsI_ok {l : List Sig} (h : WF l) (a : Int) : okV l (valsI l a) = true := dec_ok h.sized (by simp)

theorem halves_iff {p : Sig → Bool} {l : List Sig} {a b : Int} (h : WF l) (ha : belowB a (cntI allS l) = true) (hb : belowB b (cntI allS l) = true) :
    eqFrom p l a b 0 l = (projI p l a == projI p l b) := by
  rw [eqFrom_eq ha hb List.drop_zero, List.drop_zero, List.drop_zero]
  unfold projI
  rw [ha, hb, if_pos rfl, if_pos rfl]
  have := comp_eq_iff (p := p) (valsI_ok h a) (valsI_ok h b)
  rw [Bool.eq_iff_iff, beq_iff_eq]
  exact this.symm

theorem cnt_bd {l : List Sig} (h : WF l) : 1 ≤ cntI allS l ∧ cntI allS l ≤ 64 := by
  rw [cntI_valid h]
  exact ⟨(prodS_bd h.sized).1, h.prod⟩

/-- what the reference's Small asks -/
def smallB (l : List Sig) : Bool := decide (l.length ≤ 10) && l.all fun s => decide (s.name.size ≤ 40)

set_option maxHeartbeats 400000 in
theorem small_any (B : Nat) (v : Value) (l : List Sig) (w : World) (hl : Sigs B w v l) :
    Calls Try.prog 10 #[v] w fun e w' => e = .returned (.bool (smallB l)) ∧ w = w' := by
  rcases hl with ⟨ov, cv, rfl, rfl⟩ | ⟨b, off, cap, rfl, hb, hcap, hm, hc⟩
  · go_enter Try.func10, Try.ntmps10
    go_wp2
    go_loop [3] (fun i => i = .int .i64 0) (fun _ => 0)
    case atStart => rfl
    case round =>
      subst hrel
      go_wp2
      go_ret
      exact ⟨rfl, rfl⟩
  · by_cases h10 : l.length ≤ 10
    · go_enter Try.func10, Try.ntmps10
      go_wp2
      go_loop [3] (fun i => ∃ k : Nat, k ≤ l.length ∧ i = .int .i64 k ∧ Hid ((l.all fun s => decide (s.name.size ≤ 40)) = ((l.drop k).all fun s => decide (s.name.size ≤ 40)))) (fun i => l.length - (intOf i).toNat)
      case atStart => exact ⟨0, Nat.zero_le _, rfl, rfl⟩
      case round =>
        obtain ⟨k, hk, rfl, hF⟩ := hrel
        by_cases hlt : k < l.length
        · obtain ⟨c0, c1, c2, c3, -⟩ := hc k hlt
          have hS : Hid (((l.drop k).all fun s => decide (s.name.size ≤ 40)) = (decide (l[k].name.size ≤ 40) && ((l.drop (k + 1)).all fun s => decide (s.name.size ≤ 40)))) := by
            unfold Hid; rw [List.drop_eq_getElem_cons hlt]; rfl
          by_cases h40 : l[k].name.size ≤ 40
          · go_wp2
            go_round
            case rel => exact ⟨k + 1, by omega, by go_num, hF.out.trans (hS.out.trans (by simp [h40]))⟩
            case measure => simp [intOf]; omega
          · go_wp2
            go_ret
            exact ⟨ret_bool (by unfold smallB; rw [hF.out, hS.out]; simp [h40]), rfl⟩
        · go_wp2
          go_ret
          exact ⟨ret_bool (by unfold smallB; rw [hF.out, List.drop_of_length_le (by omega)]; simp [h10]), rfl⟩
    · go_enter Try.func10, Try.ntmps10
      go_wp2
      go_ret
      exact ⟨ret_bool (by unfold smallB; simp [h10]), rfl⟩

end Go.Proofs.Ytbifbaennjglmaa
