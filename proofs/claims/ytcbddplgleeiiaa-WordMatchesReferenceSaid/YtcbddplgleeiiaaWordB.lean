/-
  Contracts of the word reference's at, At, Valid, repeats.
-/
import Derived.Test.YtcbddplgleeiiaaWordA
namespace Go.Proofs.Ytcbddplgleeiiaa
open Go.RowKit

set_option maxRecDepth 100000 in
set_option maxHeartbeats 1000000 in
theorem refat_any (B : Nat) (v : Value) (s l : List Int) (x : Int) (w : World) (hv : LasAt B w v s l) (hBw : B ≤ w.heap.size) (hl : 0 < l.length) (hx0 : 0 ≤ x) (hx1 : x ≤ 9223372036854775807) :
    Calls Try.prog 36 #[v, .int .i64 x] w fun e w' => e = .returned (.int .i64 (letAt s l x.toNat)) ∧ Below w.heap.size w w' := by
  obtain ⟨o1, c1, o2, c2, rfl, h1, h2⟩ := hv.open
  have m1 := h1.len
  have m2 := h2.len
  have hA : Below w.heap.size w (w.alloc (.cells #[.slice o1 s.length c1, .slice o2 l.length c2] 24)) := (Below.refl _ _).alloc (Nat.le_refl _) _
  by_cases hlt : x < s.length
  · obtain ⟨k, rfl⟩ := Int.eq_ofNat_of_zero_le hx0
    have hks : k < s.length := by omega
    obtain ⟨b, off, rfl, hb, -, -, hc⟩ := h1.at (by omega)
    have d1 := (hA.cell (p := ⟨b, off + k, none⟩) (Nat.lt_of_lt_of_le hb hBw)).trans (hc k hks).1
    have hz := hidi (letAt_stem (l := l) hks)
    go_enter Try.func36, Try.ntmps36
    go_wp2
    go_ret
    exact ⟨ret_int hz.out.symm, hA⟩
  · obtain ⟨m, hm⟩ : ∃ m : Nat, m = (x.toNat - s.length) % l.length := ⟨_, rfl⟩
    have hml : m < l.length := by rw [hm]; exact Nat.mod_lt _ hl
    have r1 : IntKind.i64.wrap (x - (s.length : Int)) = x - (s.length : Int) := by rw [IntKind.wrap_i64]; omega
    have r2 : (x - (s.length : Int)).tmod (l.length : Int) = (m : Int) := by
      rw [Int.tmod_eq_emod_of_nonneg (by omega), hm, Int.natCast_emod, show ((x.toNat - s.length : Nat) : Int) = x - s.length by omega]
    have hzl : ¬ (l.length : Int) = 0 := by omega
    have q0 : (0 : Int) ≤ (m : Int) := by omega
    have q1 : (m : Int) < (l.length : Int) := by omega
    obtain ⟨b, off, rfl, hb, -, -, hc⟩ := h2.at (by omega)
    have d1 := (hA.cell (p := ⟨b, off + m, none⟩) (Nat.lt_of_lt_of_le hb hBw)).trans (hc m hml).1
    have hz : Hid (letAt s l x.toNat = l[m]) := by
      unfold Hid letAt
      rw [if_neg (by omega), ← hm]
      simp [hml]
    clear hm
    go_enter Try.func36, Try.ntmps36
    go_wp2_with fail
    go_quiet (fail)
    go_wp2
    go_ret
    exact ⟨ret_int hz.out.symm, below_drewN hA _⟩

/-- what At returns -/
def atI (s l : List Int) (x : Int) : Int := if decide (0 ≤ x) && formedB s l then letAt s l x.toNat else -1

theorem formed_pos {s l : List Int} (h : formedB s l = true) : 0 < l.length ∧ l.length ≤ 40 ∧ s.length ≤ 60 ∧ s.all letB = true ∧ l.all letB = true := by
  unfold formedB at h
  simp only [Bool.and_eq_true, decide_eq_true_eq] at h
  exact ⟨by omega, h.1.1.2, h.1.1.1.1, h.1.2, h.2⟩

set_option maxHeartbeats 400000 in
theorem refAt_any (B : Nat) (v : Value) (s l : List Int) (x : Int) (w : World) (hv : LasAt B w v s l) (hBw : B ≤ w.heap.size) (hx1 : x ≤ 9223372036854775807) :
    Calls Try.prog 15 #[v, .int .i64 x] w fun e w' => e = .returned (.int .i64 (atI s l x)) ∧ Below w.heap.size w w' := by
  have hv' := hv.mono hBw
  obtain ⟨o1, c1, o2, c2, rfl, h1, h2⟩ := hv.open
  have hB : Below w.heap.size w (w.alloc (.cells #[.slice o1 s.length c1, .slice o2 l.length c2] 24)) := (Below.refl _ _).alloc (Nat.le_refl _) _
  by_cases h0 : 0 ≤ x
  · cases hf : formedB s l
    · go_enter Try.func15, Try.ntmps15
      go_wp2_with (go_at_call 30; refine (refformed_any w.heap.size _ s l _ (hv'.below hB (Nat.le_refl _)) hB.size).mono ?_; rintro e w' ⟨rfl, hb⟩; have hB := hB.trans (hb.mono hB.size); clear hb)
      go_ret
      exact ⟨ret_int (by simp [atI, hf]), hB⟩
    · obtain ⟨p1, -, -, -, -⟩ := formed_pos hf
      go_enter Try.func15, Try.ntmps15
      go_wp2_with first | (go_at_call 30; refine (refformed_any w.heap.size _ s l _ (hv'.below hB (Nat.le_refl _)) hB.size).mono ?_; rintro e w' ⟨rfl, hb⟩; have e0 := (hb.cell (p := ⟨w.heap.size, 0, none⟩) (box_lt w _)).trans (box0 w _ _ _); have e1 := (hb.cell (p := ⟨w.heap.size, 1, none⟩) (box_lt w _)).trans (box1 w _ _ _); have hB := hB.trans (hb.mono hB.size); clear hb) | (go_at_call 36; refine (refat_any w.heap.size _ s l _ _ (hv'.below hB (Nat.le_refl _)) hB.size p1 h0 hx1).mono ?_; rintro e w' ⟨rfl, hb⟩; have hB := hB.trans (hb.mono hB.size); clear hb)
      go_ret
      exact ⟨ret_int (by simp [atI, hf, h0]), hB⟩
  · go_enter Try.func15, Try.ntmps15
    go_wp2
    go_ret
    exact ⟨ret_int (by unfold atI; rw [decide_eq_false (Int.not_le.2 h0)]; rfl), hB⟩

/-- is l a repetition of its first n elements, as a test -/
def repFrom (l : List Int) (n k : Nat) : Bool := ((List.range l.length).drop k).all fun i => l.getD i 0 == l.getD (i - n) 0

theorem repFrom_step {l : List Int} {n k : Nat} (h : k < l.length) : repFrom l n k = (l.getD k 0 == l.getD (k - n) 0 && repFrom l n (k + 1)) := by
  unfold repFrom
  rw [List.drop_eq_getElem_cons (by simpa using h), List.all_cons]
  simp

theorem repFrom_iff {l : List Int} {n : Nat} (hd : l.length % n = 0) : repFrom l n n = decide (Rep l n) := by
  rw [Bool.eq_iff_iff, decide_eq_true_eq]
  unfold repFrom Rep
  rw [List.all_eq_true]
  constructor
  · intro h
    refine ⟨hd, fun i h1 h2 => ?_⟩
    have := h i (List.mem_iff_getElem.2 ⟨i - n, by simp; omega, by simp; omega⟩)
    simpa using this
  · rintro ⟨-, h⟩ i hi
    obtain ⟨j, hj, rfl⟩ := List.mem_iff_getElem.1 hi
    have hj' : j < l.length - n := by simpa using hj
    have := h (n + j) (by omega) (by omega)
    simpa using this

set_option maxRecDepth 100000 in
set_option maxHeartbeats 1000000 in
theorem repeats_any (B : Nat) (v : Value) (l : List Int) (n : Nat) (w : World) (hv : IntsAt B w v l) (hBw : B ≤ w.heap.size) (hn : 0 < n) (hnl : n ≤ l.length) :
    Calls Try.prog 53 #[v, .int .i64 n] w fun e w' => e = .returned (.bool (decide (Rep l n))) ∧ Below w.heap.size w w' := by
  obtain ⟨o, c, rfl⟩ := hv.shape
  have hm := hv.len
  have hB : Below w.heap.size w w := Below.refl _ _
  have hnz : ¬ (n : Int) = 0 := by omega
  have r1 : (l.length : Int).tmod (n : Int) = ((l.length % n : Nat) : Int) := by rw [Int.tmod_eq_emod_of_nonneg (by omega), Int.natCast_emod]
  obtain ⟨b, off, rfl, hb, -, -, hc⟩ := hv.at (by omega)
  by_cases hd : l.length % n = 0
  · have r2 : (((l.length % n : Nat) : Int) != 0) = false := by simp [hd]
    have hz := hidi (repFrom_iff hd)
    clear hd
    generalize l.length % n = q at *
    go_enter Try.func53, Try.ntmps53
    go_wp2
    go_loopw [5] (fun i wr => ∃ k : Nat, n ≤ k ∧ k ≤ l.length ∧ i = .int .i64 k ∧ Below w.heap.size w wr ∧ Hid (repFrom l n n = repFrom l n k)) (fun i _ => l.length - (intOf i).toNat)
    case atStart => exact ⟨n, Nat.le_refl _, hnl, rfl, hB, rfl⟩
    case round =>
      obtain ⟨k, hk0, hk, rfl, hB, hF⟩ := hrel
      by_cases hlt : k < l.length
      · have d1 := (hB.cell (p := ⟨b, off + k, none⟩) (Nat.lt_of_lt_of_le hb hBw)).trans (hc k hlt).1
        have hkn : k - n < l.length := by omega
        obtain ⟨m, hmk⟩ : ∃ m : Nat, m = k - n := ⟨_, rfl⟩
        rw [← hmk] at hkn
        have d2 := (hB.cell (p := ⟨b, off + m, none⟩) (Nat.lt_of_lt_of_le hb hBw)).trans (hc m hkn).1
        have r3 : IntKind.i64.wrap ((k : Int) - (n : Int)) = (m : Int) := by rw [IntKind.wrap_i64]; omega
        have hS : Hid (repFrom l n k = (l[k] == l[m] && repFrom l n (k + 1))) := by
          unfold Hid
          rw [repFrom_step hlt, ← hmk]
          simp [hlt, hkn]
        have g1 : (0 : Int) ≤ k := by omega
        have g2 : (k : Int) < l.length := by omega
        have g3 : (0 : Int) ≤ m := by omega
        have g4 : (m : Int) < l.length := by omega
        clear hmk
        cases heq : (l[k] != l[m])
        · go_wp2_with fail
          go_quiet (fail)
          go_wp2
          go_roundw
          case rel => exact ⟨k + 1, by omega, by omega, by go_num, below_drewN hB _, hF.out.trans (hS.out.trans (by rw [show (l[k] == l[m]) = true by simpa [bne] using heq, Bool.true_and]))⟩
          case measure => simp [intOf]; omega
        · go_wp2_with fail
          go_quiet (fail)
          go_wp2
          go_ret
          exact ⟨ret_bool (by rw [← hz.out, hF.out, hS.out, show (l[k] == l[m]) = false by simpa [bne] using heq]; rfl), below_drewN hB _⟩
      · go_wp2
        go_ret
        exact ⟨ret_bool (by rw [← hz.out, hF.out]; unfold repFrom; rw [List.drop_of_length_le (by simp; omega)]; rfl), hB⟩
  · have r2 : (((l.length % n : Nat) : Int) != 0) = true := by simp; omega
    have hz : Hid (decide (Rep l n) = false) := by unfold Hid; rw [decide_eq_false_iff_not]; exact fun h => hd h.1
    clear hd
    generalize l.length % n = q at *
    go_enter Try.func53, Try.ntmps53
    go_wp2
    go_ret
    exact ⟨ret_bool hz.out.symm, hB⟩

end Go.Proofs.Ytcbddplgleeiiaa
