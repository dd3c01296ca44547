/-
  The walk of the law SignalOrder: it returns true, whatever the signals and the two numbers are.
-/
import Derived.Test.YtbifbaennjglmaaValues
namespace Go.Proofs.Ytbifbaennjglmaa
open Go.RowKit

theorem comp_set {p : Sig → Bool} : ∀ {l : List Sig} {vs : List Int} {i : Nat} (hi : i < l.length) (hv : i < vs.length), Sized l →
    (p l[i] = true → comp p l vs < comp p l (vs.set i (vs[i] + 1))) ∧ (p l[i] = false → comp p l (vs.set i (vs[i] + 1)) = comp p l vs)
  | [], _, _, hi, _, _ => by simp at hi
  | _ :: _, [], _, _, hv, _ => by simp at hv
  | s :: r, v :: vs, 0, _, _, h => by
    have hs := h.head
    constructor
    · intro hp
      have hp' : p s = true := hp
      simp [comp, hp']
      omega
    · intro hp
      have hp' : p s = false := hp
      simp [comp, hp']
  | s :: r, v :: vs, i + 1, hi, hv, h => by
    have hs := h.head
    have ih := comp_set (p := p) (l := r) (vs := vs) (i := i) (by simpa using hi) (by simpa using hv) h.tail
    constructor
    · intro hp
      have := ih.1 (by simpa using hp)
      simp only [List.getElem_cons_succ, List.set_cons_succ, comp]
      split
      · have := Int.mul_lt_mul_of_pos_left this (show (0 : Int) < s.size by omega)
        omega
      · exact this
    · intro hp
      have := ih.2 (by simpa using hp)
      simp only [List.getElem_cons_succ, List.set_cons_succ, comp, this]

theorem okV_set : ∀ {l : List Sig} {vs : List Int} {i : Nat} (hi : i < l.length) (hv : i < vs.length), okV l vs = true → okV l (vs.set i (vs[i] + 1)) = decide (vs[i] + 1 < l[i].size)
  | [], _, _, hi, _, _ => by simp at hi
  | _ :: _, [], _, _, hv, _ => by simp at hv
  | s :: r, v :: vs, 0, _, _, h => by
    simp only [okV, Bool.and_eq_true, belowB_iff] at h
    simp only [List.set_cons_zero, okV, h.2, Bool.and_true, List.getElem_cons_zero]
    rw [Bool.eq_iff_iff, belowB_iff, decide_eq_true_eq]
    omega
  | s :: r, v :: vs, i + 1, hi, hv, h => by
    simp only [okV, Bool.and_eq_true] at h
    simp only [List.set_cons_succ, okV, h.1, Bool.true_and, List.getElem_cons_succ]
    exact okV_set (by simpa using hi) (by simpa using hv) h.2

set_option maxRecDepth 100000 in
set_option maxHeartbeats 2000000 in
theorem order_any (v : Value) (l : List Sig) (ra rb : Int) (w : World) (hl : Sigs w.heap.size w v l) (ha0 : 0 ≤ ra) (ha1 : ra ≤ 255) (hb0 : 0 ≤ rb) (hb1 : rb ≤ 255) :
    Calls Try.prog 7 #[v, .int .u8 ra, .int .u8 rb] w fun e w' => e = .returned (.bool true) ∧ Below w.heap.size w w' := by
  have hB : Below w.heap.size w w := Below.refl _ _
  cases hs : smallB l
  · go_enter Try.func7, Try.ntmps7
    go_wp2_with first | (go_at_call 9; refine (head_any _).mono ?_; rintro e w1 ⟨rfl, hb⟩; have hB := hB.trans (hb.mono hB.size); clear hb) | (go_at_call 10; refine (small_any w.heap.size _ l _ (hl.below hB (Nat.le_refl _))).mono ?_; rintro e w' ⟨rfl, rfl⟩)
    go_ret
    exact ⟨rfl, hB⟩
  · cases hv : validB l
    · go_enter Try.func7, Try.ntmps7
      go_wp2_with first | (go_at_call 9; refine (head_any _).mono ?_; rintro e w1 ⟨rfl, hb⟩; have hB := hB.trans (hb.mono hB.size); clear hb) | (go_at_call 10; refine (small_any w.heap.size _ l _ (hl.below hB (Nat.le_refl _))).mono ?_; rintro e w' ⟨rfl, rfl⟩) | (go_at_call 13; refine (valid_any w.heap.size _ l _ (hl.below hB (Nat.le_refl _)) hB.size).mono ?_; rintro e w' ⟨rfl, hb⟩; have hB := hB.trans (hb.mono hB.size); clear hb)
      go_ret
      exact ⟨rfl, hB⟩
    · have hw := (valid_iff l).1 hv
      obtain ⟨hn1, hn2⟩ := cnt_bd hw
      have hl6 := hw.len6
      have hl1 := hw.len1
      obtain ⟨hz, qa, qa0, qa1⟩ := rem_facts ha0 hn1
      have hla : belowB (ra % cntI allS l) (cntI allS l) = true := (belowB_iff _ _).2 ⟨qa0, qa1⟩
      obtain ⟨hzb, qb, qb0, qb1⟩ := rem_facts hb0 (show (1 : Int) ≤ l.length by omega)
      obtain ⟨j, hj⟩ := Int.eq_ofNat_of_zero_le qb0
      have hjl : j < l.length := by omega
      rw [hj] at qb
      clear qb0 qb1
      have hj' : j < (valsI l (ra % cntI allS l)).length := by rw [valsI_length]; exact hjl
      have hlz : ((l.length : Int) == 0) = false := by rw [beq_eq_false_iff_ne]; omega
      rcases id hl with ⟨ov', cv', rfl, rfl⟩ | ⟨b, off, cap, rfl, hb, hcap, hm, hc⟩
      · simp at hl1
      go_enter Try.func7, Try.ntmps7
      go_wp2_with first | (go_at_call 9; refine (head_any _).mono ?_; rintro e w1 ⟨rfl, hb⟩; have hB := hB.trans (hb.mono hB.size); clear hb) | (go_at_call 10; refine (small_any w.heap.size _ l _ (hl.below hB (Nat.le_refl _))).mono ?_; rintro e w' ⟨rfl, rfl⟩) | (go_at_call 13; refine (valid_any w.heap.size _ l _ (hl.below hB (Nat.le_refl _)) hB.size).mono ?_; rintro e w' ⟨rfl, hb⟩; have hB := hB.trans (hb.mono hB.size); clear hb) | (go_at_call 19; refine (letters_any w.heap.size _ l _ (hl.below hB (Nat.le_refl _)) hB.size).mono ?_; rintro e w' ⟨rfl, hb⟩; have hB := hB.trans (hb.mono hB.size); clear hb)
      refine (lawvalues_any _ l _ _ ((hl.below hB (Nat.le_refl _)).mono hB.size) (by omega)).mono ?_
      rintro e w1 ⟨u1, rfl, hown, hbv⟩
      rw [lvals_eq hla] at hown
      have hB1 := hB.trans (hbv.mono hB.size)
      obtain ⟨g, gc, rfl⟩ : ∃ g c, u1 = .slice (some ⟨g, 0, none⟩) l.length c := by
        rcases hown.2 with ⟨_, h0⟩ | ⟨g, gc, cur, rfl, _⟩
        · omega
        · exact ⟨_, _, rfl⟩
      obtain ⟨hg0, hg1⟩ := hown.lt g (by simp [Value.ownBlock])
      obtain ⟨x0, x1⟩ := vals_digit hw (ra % cntI allS l) hjl hj'
      obtain ⟨s0, s1⟩ := hw.sized _ (List.getElem_mem hjl)
      have d0 : w1.cell? ⟨g, j, none⟩ = some (.int .i64 (valsI l (ra % cntI allS l))[j]) := by rw [hown.cellAt j (by omega)]; simp [hj']
      have f0 := hown.frozenAt j
      have hst := (hown.stored j (.int .i64 ((valsI l (ra % cntI allS l))[j] + 1))).1
      rw [← List.map_set] at hst
      have hBs := hB1.setCell (p := ⟨g, j, none⟩) (by have := hB.size; show w.heap.size ≤ g; omega) (.int .i64 ((valsI l (ra % cntI allS l))[j] + 1))
      have hI := ints_of_owns hst (by rw [List.length_set, valsI_length]) (by
        intro x hx
        have hf := valsI_few hw (ra % cntI allS l)
        rcases List.mem_or_eq_of_mem_set hx with h | rfl
        · have := hf x h; omega
        · omega)
      have hd := hst.cellAt j (by omega)
      rw [List.getElem?_map, List.getElem?_set_self hj', Option.map_some] at hd
      have hset := comp_set (p := allS) hjl hj' hw.sized
      have hseti := comp_set (p := inS true) hjl hj' hw.sized
      have hseto := comp_set (p := inS false) hjl hj' hw.sized
      have hoks := okV_set hjl hj' (valsI_ok hw (ra % cntI allS l))
      clear hown hbv
      go_wp2_with fail
      generalize World.setCell w1 _ _ = w2 at *
      refine (make_any w2.heap.size _ _ l ((valsI l (ra % cntI allS l)).set j ((valsI l (ra % cntI allS l))[j] + 1)) _ ((hl.below hBs (Nat.le_refl _)).mono hBs.size) hI (Nat.le_refl _)).mono ?_
      rintro e w3 ⟨rfl, hb3⟩
      obtain ⟨o, ho, _⟩ := cells_of_cell hd
      have hd3 := (hb3.cell (p := ⟨g, j, none⟩) (Array.getElem?_eq_some_iff.1 ho).1).trans hd
      have hB3 := hBs.trans (hb3.mono hBs.size)
      obtain ⟨c0, c1, c2, -⟩ := (hc j hjl).below hB3 hb
      have e0 : comp allS l (valsI l (ra % cntI allS l)) = ra % cntI allS l := by
        rw [cntI_valid hw] at qa0 qa1 ⊢
        exact comp_dec hw.sized (by simp) qa0 qa1
      have p1 := proj_of (p := inS true) hla
      have p2 := proj_of (p := inS false) hla
      rw [e0] at hset
      rw [← p1] at hseti
      rw [← p2] at hseto
      have g1 : (0 : Int) ≤ j := by omega
      have g2 : (j : Int) < l.length := by omega
      clear hla e0 p1 p2 hst hI hd hb3 ho d0 f0
      generalize hva : (valsI l (ra % cntI allS l))[j] = x at *
      generalize hvs : (valsI l (ra % cntI allS l)).set j (x + 1) = vs at *
      clear hva hvs
      have hmo : makeOk l vs = decide (x + 1 < l[j].size) := by unfold makeOk; rw [hv, hoks]; rfl
      have hB := hB3
      clear hB3 hBs hB1
      by_cases hlt : x + 1 < l[j].size
      · rw [decide_eq_true hlt] at hmo hoks
        have hmi : makeI l vs = comp allS l vs := by unfold makeI; rw [hmo, if_pos rfl]
        have q1 := proj_comp (p := inS true) hw hoks
        have q2 := proj_comp (p := inS false) hw hoks
        rw [hmo, hmi]
        rw [← q1] at hseti
        rw [← q2] at hseto
        have m1 := hset.1 rfl
        clear hmo hmi q1 q2 hset hoks
        generalize comp allS l vs = bb at *
        cases hin : l[j].input
        · rw [hin] at c1
          have m2 := hseti.2 (by simp [inS, hin])
          have m3 := hseto.1 (by simp [inS, hin])
          have m2' := beq_iff_eq.2 m2
          have m3' : decide (projI (inS false) l (ra % cntI allS l) < projI (inS false) l bb) = true := by simp [m3]
          clear hseti hseto m2 m3
          go_wp2_with first | (go_at_call 27; refine (in_any w.heap.size _ l _ _ (hl.below hB (Nat.le_refl _)) hB.size).mono ?_; rintro e w' ⟨rfl, hb⟩; have hB := hB.trans (hb.mono hB.size); clear hb) | (go_at_call 29; refine (out_any w.heap.size _ l _ _ (hl.below hB (Nat.le_refl _)) hB.size).mono ?_; rintro e w' ⟨rfl, hb⟩; have hB := hB.trans (hb.mono hB.size); clear hb)
          go_ret
          exact ⟨rfl, hB⟩
        · rw [hin] at c1
          have m2 := hseti.1 (by simp [inS, hin])
          have m3 := hseto.2 (by simp [inS, hin])
          have m2' : decide (projI (inS true) l (ra % cntI allS l) < projI (inS true) l bb) = true := by simp [m2]
          have m3' := beq_iff_eq.2 m3
          clear hseti hseto m2 m3
          go_wp2_with first | (go_at_call 27; refine (in_any w.heap.size _ l _ _ (hl.below hB (Nat.le_refl _)) hB.size).mono ?_; rintro e w' ⟨rfl, hb⟩; have hB := hB.trans (hb.mono hB.size); clear hb) | (go_at_call 29; refine (out_any w.heap.size _ l _ _ (hl.below hB (Nat.le_refl _)) hB.size).mono ?_; rintro e w' ⟨rfl, hb⟩; have hB := hB.trans (hb.mono hB.size); clear hb)
          go_ret
          exact ⟨rfl, hB⟩
      · rw [decide_eq_false hlt] at hmo
        have hmi : makeI l vs = 0 := by unfold makeI; rw [hmo]; rfl
        rw [hmo, hmi]
        have heq : (x + 1 == l[j].size) = true := by rw [beq_iff_eq]; omega
        clear hmo hmi hset hseti hseto hoks
        go_wp2
        go_quiet (fail)
        go_wp2
        go_ret
        exact ⟨rfl, below_drewN hB _⟩

end Go.Proofs.Ytbifbaennjglmaa
