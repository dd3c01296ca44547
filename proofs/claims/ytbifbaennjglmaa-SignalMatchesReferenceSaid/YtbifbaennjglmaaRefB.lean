/-
  Contracts of the reference's Letters, Inputs, Outputs, Values, Value.
-/
import Derived.Test.YtbifbaennjglmaaRefA
import Derived.Test.YtbifbaennjglmaaRefP
import Derived.Test.YtbifbaennjglmaaValues
namespace Go.Proofs.Ytbifbaennjglmaa
open Go.RowKit

set_option maxHeartbeats 1000000 in
theorem side_any (B : Nat) (v : Value) (l : List Sig) (t : Bool) (w : World) (hl : Sigs B w v l) (hBw : B ≤ w.heap.size) :
    Calls Try.prog 44 #[v, .bool t] w fun e w' => e = .returned (.int .i64 (cntI (inS t) l)) ∧ Below w.heap.size w w' := by
  have hl' := hl.mono hBw
  obtain ⟨o, c, rfl⟩ := hl.shape
  rw [← side_cnt]
  cases hv : validB l
  · go_enter Try.func44, Try.ntmps44
    go_wp2_with (go_at_call 14; refine (refvalid_any _ _ l _ hl' (Nat.le_refl _)).mono ?_; rintro e w1 ⟨rfl, hb⟩)
    go_ret
    exact ⟨rfl, hb⟩
  · have hw := (valid_iff l).1 hv
    have h6 := hw.len6
    have h1 := hw.len1
    obtain ⟨b, off, rfl, hb, hcap, -, hc⟩ := hl'.at (by omega)
    go_enter Try.func44, Try.ntmps44
    go_wp2_with (go_at_call 14; refine (refvalid_any _ _ l _ hl' (Nat.le_refl _)).mono ?_; rintro e w1 ⟨rfl, hb1⟩)
    go_loop [5, 6] (fun p i => ∃ (k : Nat) (n : Int), k ≤ l.length ∧ i = .int .i64 k ∧ p = .int .i64 n ∧ Hid (sideW t 1 l = sideW t n (l.drop k))) (fun _ i => l.length - (intOf i).toNat)
    case atStart => exact ⟨0, 1, Nat.zero_le _, rfl, rfl, rfl⟩
    case round =>
      obtain ⟨k, n, hk, rfl, rfl, hF⟩ := hrel
      by_cases hlt : k < l.length
      · obtain ⟨c0, c1, c2, -⟩ := (hc k hlt).below hb1 hb
        have hS : Hid (sideW t n (l.drop k) = if l[k].input == t then sideW t (wrap64 (n * l[k].size)) (l.drop (k + 1)) else sideW t n (l.drop (k + 1))) := by
          unfold Hid; rw [List.drop_eq_getElem_cons hlt]; rfl
        cases hi : (l[k].input == t)
        · go_wp2
          go_round
          case rel => exact ⟨k + 1, n, by omega, by go_num, rfl, hF.out.trans (hS.out.trans (by rw [hi]; rfl))⟩
          case measure => simp [intOf]; omega
        · go_wp2
          go_round
          case rel => exact ⟨k + 1, _, by omega, by go_num, rfl, hF.out.trans (hS.out.trans (by rw [hi]; rfl))⟩
          case measure => simp [intOf]; omega
      · go_wp2
        go_ret
        exact ⟨ret_int (by rw [hF.out, List.drop_of_length_le (by omega)]; rfl), hb1⟩

set_option maxHeartbeats 400000 in
theorem refinputs_any (B : Nat) (v : Value) (l : List Sig) (w : World) (hl : Sigs B w v l) (hBw : B ≤ w.heap.size) :
    Calls Try.prog 22 #[v] w fun e w' => e = .returned (.int .i64 (cntI (inS true) l)) ∧ Below w.heap.size w w' := by
  go_enter Try.func22, Try.ntmps22
  go_wp2_with (go_at_call 44; refine (side_any B _ l true _ hl hBw).mono ?_; rintro e w1 ⟨rfl, hb⟩)
  go_ret
  exact ⟨rfl, hb⟩

set_option maxHeartbeats 400000 in
theorem refoutputs_any (B : Nat) (v : Value) (l : List Sig) (w : World) (hl : Sigs B w v l) (hBw : B ≤ w.heap.size) :
    Calls Try.prog 24 #[v] w fun e w' => e = .returned (.int .i64 (cntI (inS false) l)) ∧ Below w.heap.size w w' := by
  go_enter Try.func24, Try.ntmps24
  go_wp2_with (go_at_call 44; refine (side_any B _ l false _ hl hBw).mono ?_; rintro e w1 ⟨rfl, hb⟩)
  go_ret
  exact ⟨rfl, hb⟩

set_option maxHeartbeats 400000 in
theorem refletters_any (B : Nat) (v : Value) (l : List Sig) (w : World) (hl : Sigs B w v l) (hBw : B ≤ w.heap.size) :
    Calls Try.prog 20 #[v] w fun e w' => e = .returned (.int .i64 (cntI allS l)) ∧ Below w.heap.size w w' := by
  have hl' := hl.mono hBw
  have hmul := letters_mul l
  go_enter Try.func20, Try.ntmps20
  go_wp2_with first | (go_at_call 22; refine (refinputs_any w.heap.size _ l _ hl' (Nat.le_refl _)).mono ?_; rintro e w1 ⟨rfl, hb⟩) | (go_at_call 24; refine (refoutputs_any w.heap.size _ l _ (hl'.below hb (Nat.le_refl _)) hb.size).mono ?_; rintro e w2 ⟨rfl, hb2⟩)
  go_ret
  exact ⟨ret_int hmul, hb.trans (hb2.mono hb.size)⟩

/-- what the reference's Values returns -/
def RefVals (w : World) (l : List Sig) (a : Int) (e : Ending) (w' : World) : Prop :=
  ∃ v, e = .returned v ∧ IntsAt w'.heap.size w' v (if belowB a (cntI allS l) then valsI l a else []) ∧ Below w.heap.size w w'

theorem digs_drop {l : List Sig} {k : Nat} {n : Int} (hk : k < l.length) : digs (l.drop k) n = (n % l[k].size) :: digs (l.drop (k + 1)) (n / l[k].size) := by
  rw [List.drop_eq_getElem_cons hk]; rfl

set_option maxRecDepth 100000 in
set_option maxHeartbeats 1000000 in
theorem refvalues_any (B : Nat) (v : Value) (l : List Sig) (a : Int) (w : World) (hl : Sigs B w v l) (hBw : B ≤ w.heap.size) :
    Calls Try.prog 46 #[v, .int .i64 a] w (RefVals w l a) := by
  have hl' := hl.mono hBw
  obtain ⟨o, c, rfl⟩ := hl.shape
  by_cases h0 : 0 ≤ a
  · by_cases h1 : a < cntI allS l
    · have hla : belowB a (cntI allS l) = true := (belowB_iff _ _).2 ⟨h0, h1⟩
      have hw := cntI_pos hla
      have hl6 := hw.len6
      have hl1 := hw.len1
      obtain ⟨i0, hi, hz0, hz1, hz2⟩ := info_parts Try.infoInt
      obtain ⟨b, off, rfl, hb, hcap, -, hc⟩ := hl'.at (by omega)
      have HL := hidi hla
      clear hla
      go_enter Try.func46, Try.ntmps46
      go_wp2_with (go_at_call 20; refine (refletters_any w.heap.size _ l _ hl' (Nat.le_refl _)).mono ?_; rintro e w1 ⟨rfl, hb1⟩)
      go_loopw [1, 5, 6] (fun p o i wr => ∃ (k : Nat) (n : Int) (xs : List Int), k ≤ l.length ∧ i = .int .i64 k ∧ p = .int .i64 n ∧ 0 ≤ n ∧ n ≤ 1000000 ∧ xs.length = k ∧ wr.ownsRow w1.heap.size 3 1 o k (xs.map (Value.int .i64)) ∧ Below w1.heap.size w1 wr ∧ Hid (valsI l a = xs ++ digs (l.drop k) n)) (fun _ _ i _ => l.length - (intOf i).toNat)
      case atStart => exact ⟨0, a, [], Nat.zero_le _, rfl, rfl, h0, by have := (cnt_bd hw).2; omega, rfl, World.ownsRow_made w1 #[] 0 (Nat.le_refl _) (Nat.zero_le _) rfl, (Below.refl _ _).alloc (Nat.le_refl _) _, by unfold Hid; rw [List.drop_zero, digs_eq]; rfl⟩
      case round =>
        obtain ⟨k, n, xs, hk, rfl, rfl, hn, hn1, hxl, hown, hB, hF⟩ := hrel
        by_cases hlt : k < l.length
        · obtain ⟨c0, c1, c2, -⟩ := ((hc k hlt).below hb1 hb).below hB (Nat.lt_of_lt_of_le hb hb1.size)
          obtain ⟨s0, s1⟩ := hw.sized _ (List.getElem_mem hlt)
          have hsb := hB.size
          have e0 : ¬ l[k].size = 0 := by omega
          have e1 : n.tmod l[k].size = n % l[k].size := Int.tmod_eq_emod_of_nonneg hn
          have e2 : n.tdiv l[k].size = n / l[k].size := Int.tdiv_eq_ediv_of_nonneg hn
          have hq0 : 0 ≤ n / l[k].size := Int.ediv_nonneg hn (by omega)
          have hq1 : n / l[k].size ≤ 1000000 := Int.le_trans (Int.ediv_le_self _ hn) hn1
          have hxl' := hidi hxl
          clear hxl
          go_wp2_with (at_builtin; refine wpList_append_own _ rfl _ _ 23 rfl w1.heap.size 3 i0 (.int .i64 0) 1 8 Try.underlying23 hi hz0 hz1 hz2 rfl (by decide) _ _ _ rfl (hown.alloc _) ⟨wr.heap.size, 0, none⟩ 1 1 [.int .i64 (n % l[k].size)] rfl rfl ?c1 ?c2 ?c3 ?c4 ?c5 ?_)
          case c1 => exact cell_one_new _ _ _
          case c2 => simp [Value.oneCell']
          case c3 => unfold maxLen; omega
          case c4 => omega
          case c5 => simp; omega
          intro v' w2 hown2 hgrow _
          have hlt2 := hown.lt
          have hB2 : Below w1.heap.size w1 w2 := (hB.alloc hB.size _).grown hgrow (by simp; omega) (fun k e => (hlt2 k e).1)
          obtain ⟨d0, d1, d2, -⟩ := ((hc k hlt).below hb1 hb).below hB2 (Nat.lt_of_lt_of_le hb hb1.size)
          clear hown hgrow hlt2 hB c0 c1 c2
          go_wp2
          go_roundw
          case rel => exact ⟨k + 1, n / l[k].size, xs ++ [n % l[k].size], by omega, by go_num, rfl, hq0, hq1, by simp [hxl'.out], by rw [List.map_append]; exact hown2, hB2, by unfold Hid; rw [hF.out, digs_drop hlt]; simp⟩
          case measure => simp [intOf]; omega
        · go_wp2
          go_ret
          obtain rfl : k = l.length := by omega
          refine ⟨_, rfl, ?_, hb1.trans (hB.mono hb1.size)⟩
          have e : valsI l a = xs := by rw [hF.out, List.drop_of_length_le (by omega)]; simp [digs]
          rw [HL.out, if_pos rfl, e]
          exact ints_of_owns hown hxl.symm (by rw [← e]; exact few_bd (valsI_few hw a))
    · have hla : belowB a (cntI allS l) = false := by
        rw [Bool.eq_false_iff]; intro h; exact h1 ((belowB_iff _ _).1 h).2
      go_enter Try.func46, Try.ntmps46
      go_wp2_with (go_at_call 20; refine (refletters_any w.heap.size _ l _ hl' (Nat.le_refl _)).mono ?_; rintro e w1 ⟨rfl, hb1⟩)
      go_ret
      exact ⟨_, rfl, by rw [hla]; exact .inl ⟨_, _, rfl, rfl⟩, hb1⟩
  · have hla : belowB a (cntI allS l) = false := by
      rw [Bool.eq_false_iff]; intro h; exact h0 ((belowB_iff _ _).1 h).1
    go_enter Try.func46, Try.ntmps46
    go_wp2
    go_ret
    exact ⟨_, rfl, by rw [hla]; exact .inl ⟨_, _, rfl, rfl⟩, Below.refl _ _⟩

set_option maxHeartbeats 400000 in
theorem refvalue_any (B : Nat) (v : Value) (l : List Sig) (a i : Int) (w : World) (hl : Sigs B w v l) (hBw : B ≤ w.heap.size) :
    Calls Try.prog 26 #[v, .int .i64 a, .int .i64 i] w fun e w' => e = .returned (.int .i64 (valueI l a i)) ∧ Below w.heap.size w w' := by
  have hlen : (if belowB a (cntI allS l) then valsI l a else []).length = if belowB a (cntI allS l) then l.length else 0 := by
    split
    · exact valsI_length l a
    · rfl
  have hval : ∀ k : Nat, k < (if belowB a (cntI allS l) then valsI l a else []).length → valueI l a k = (if belowB a (cntI allS l) then valsI l a else []).getD k 0 := by
    intro k hk
    by_cases hla : belowB a (cntI allS l) = true
    · rw [if_pos hla] at hk ⊢
      rw [valueI_eq hla (by rw [valsI_length] at hk; exact hk)]
      simp [hk]
    · rw [if_neg hla] at hk
      simp at hk
  have hzero : ¬ (0 ≤ i ∧ i < (if belowB a (cntI allS l) then valsI l a else []).length) → valueI l a i = 0 := by
    intro h
    unfold valueI
    cases hla : belowB a (cntI allS l)
    · rfl
    · simp only [hla, if_true, valsI_length] at h
      rw [show belowB i l.length = false from by rw [Bool.eq_false_iff]; intro hb; exact h ((belowB_iff _ _).1 hb)]
      rfl
  go_enter Try.func26, Try.ntmps26
  go_wp2_with fail
  refine (refvalues_any B _ l a _ hl hBw).mono ?_
  rintro e w1 ⟨u, rfl, hu, hb⟩
  generalize (if belowB a (cntI allS l) then valsI l a else []) = xs at *
  obtain ⟨o1, c1, rfl⟩ := hu.shape
  clear hlen
  by_cases h0 : 0 ≤ i
  · obtain ⟨k, rfl⟩ := Int.eq_ofNat_of_zero_le h0
    by_cases h1 : (k : Int) < xs.length
    · have hk : k < xs.length := by omega
      obtain ⟨g, f, rfl, hg, hgc, hgm, hcell⟩ := hu.at (by omega)
      have d0 := (hcell k hk).1
      have hv : Hid (valueI l a k = xs[k]) := by unfold Hid; rw [hval k hk]; simp [hk]
      clear hval hzero
      go_wp2
      go_ret
      exact ⟨ret_int hv.out.symm, hb⟩
    · have hv := hidi (hzero (fun h => h1 h.2))
      clear hval hzero
      go_wp2
      go_ret
      exact ⟨ret_int hv.out.symm, hb⟩
  · have hv := hidi (hzero (fun h => h0 h.1))
    clear hval hzero
    go_wp2
    go_ret
    exact ⟨ret_int hv.out.symm, hb⟩

end Go.Proofs.Ytbifbaennjglmaa
