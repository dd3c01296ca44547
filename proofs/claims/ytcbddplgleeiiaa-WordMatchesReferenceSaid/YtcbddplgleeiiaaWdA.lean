/-
  Contracts of package word's allBelow, formed, At, Valid.
-/
import Derived.Test.YtcbddplgleeiiaaWordV
namespace Go.Proofs.Ytcbddplgleeiiaa
open Go.RowKit

/-- from 0 on and below a limit -/
def belB (n x : Int) : Bool := decide (0 ≤ x) && decide (x < n)

theorem bel_letB : belB 64 = letB := rfl

set_option maxRecDepth 100000 in
set_option maxHeartbeats 1000000 in
theorem allBelow_any (B : Nat) (v : Value) (xs : List Int) (n : Int) (w : World) (hv : IntsAt B w v xs) (hBw : B ≤ w.heap.size) :
    Calls Try.prog 35 #[v, .int .i64 n] w fun e w' => e = .returned (.bool (xs.all (belB n))) ∧ Below w.heap.size w w' := by
  obtain ⟨o, c, rfl⟩ := hv.shape
  have hm := hv.len
  have hB : Below w.heap.size w w := Below.refl _ _
  go_enter Try.func35, Try.ntmps35
  go_wp2
  go_loopw [9] (fun i wr => ∃ k : Nat, k ≤ xs.length ∧ i = .int .i64 k ∧ Below w.heap.size w wr ∧ Hid (xs.all (belB n) = (xs.drop k).all (belB n))) (fun i _ => xs.length - (intOf i).toNat)
  case atStart => exact ⟨0, Nat.zero_le _, rfl, hB, rfl⟩
  case round =>
    obtain ⟨k, hk, rfl, hB, hF⟩ := hrel
    by_cases hlt : k < xs.length
    · obtain ⟨b, off, rfl, hb, -, -, hc⟩ := hv.at (by omega)
      have d1 := (hB.cell (p := ⟨b, off + k, none⟩) (Nat.lt_of_lt_of_le hb hBw)).trans (hc k hlt).1
      have hS := hidi (all_drop (p := belB n) hlt)
      by_cases q0 : 0 ≤ xs[k]
      · by_cases q1 : xs[k] < n
        · go_wp2
          go_roundw
          case rel => exact ⟨k + 1, by omega, by go_num, hB, hF.out.trans (hS.out.trans (by simp [belB, q0, q1]))⟩
          case measure => simp [intOf]; omega
        · go_wp2
          go_ret
          exact ⟨ret_bool (by rw [hF.out, hS.out, show belB n xs[k] = false by unfold belB; rw [decide_eq_false (p := xs[k] < n) (by omega), Bool.and_false], Bool.false_and]), hB⟩
      · go_wp2
        go_ret
        exact ⟨ret_bool (by rw [hF.out, hS.out, show belB n xs[k] = false by unfold belB; rw [decide_eq_false (p := 0 ≤ xs[k]) (by omega), Bool.false_and], Bool.false_and]), hB⟩
    · go_wp2
      go_ret
      exact ⟨ret_bool (by rw [hF.out, List.drop_of_length_le (by omega)]; rfl), hB⟩

set_option maxRecDepth 100000 in
set_option maxHeartbeats 1000000 in
theorem formed_any (B : Nat) (v : Value) (s l : List Int) (w : World) (hv : LasAt B w v s l) (hBw : B ≤ w.heap.size) :
    Calls Try.prog 34 #[v] w fun e w' => e = .returned (.bool (formedB s l)) ∧ Below w.heap.size w w' := by
  obtain ⟨o1, c1, o2, c2, rfl, h1, h2⟩ := (hv.mono hBw).open
  have hB : Below w.heap.size w (w.alloc (.cells #[.slice o1 s.length c1, .slice o2 l.length c2] 24)) := (Below.refl _ _).alloc (Nat.le_refl _) _
  by_cases g1 : s.length ≤ 60
  · by_cases g2 : 1 ≤ l.length
    · by_cases g3 : l.length ≤ 40
      · have hz : Hid (formedB s l = (s.all letB && l.all letB)) := by unfold Hid formedB; simp [g1, g2, g3]
        cases hs : s.all (belB 64)
        · go_enter Try.func34, Try.ntmps34
          go_wp2_with (go_at_call 35; refine (allBelow_any w.heap.size _ s 64 _ (h1.below hB (Nat.le_refl _)) hB.size).mono ?_; rintro e w' ⟨rfl, hb⟩; have hB := hB.trans (hb.mono hB.size); clear hb)
          go_ret
          exact ⟨ret_bool (by rw [hz.out, ← bel_letB, hs]; rfl), hB⟩
        · go_enter Try.func34, Try.ntmps34
          go_wp2_with first | (go_at_call 35; with_reducible refine (allBelow_any w.heap.size (.slice o1 s.length c1) s 64 _ (h1.below hB (Nat.le_refl _)) hB.size).mono ?_; rintro e w' ⟨rfl, hb⟩; have e1 := (hb.cell (p := ⟨w.heap.size, 1, none⟩) (box_lt w _)).trans (box1 w _ _ _); have hB := hB.trans (hb.mono hB.size); clear hb) | (go_at_call 35; refine (allBelow_any w.heap.size _ l 64 _ (h2.below hB (Nat.le_refl _)) hB.size).mono ?_; rintro e w' ⟨rfl, hb⟩; have hB := hB.trans (hb.mono hB.size); clear hb)
          go_ret
          exact ⟨ret_bool (by rw [hz.out, ← bel_letB, hs]; rfl), hB⟩
      · go_enter Try.func34, Try.ntmps34
        go_wp2
        go_ret
        exact ⟨ret_bool (by simp [formedB, g3]), hB⟩
    · go_enter Try.func34, Try.ntmps34
      go_wp2
      go_ret
      exact ⟨ret_bool (by simp [formedB, g2]), hB⟩
  · go_enter Try.func34, Try.ntmps34
    go_wp2
    go_ret
    exact ⟨ret_bool (by simp [formedB, g1]), hB⟩

theorem all_let_bel {xs : List Int} {n : Int} (h : xs.all letB = true) : xs.all (belB n) = xs.all fun x => decide (x < n) := by
  rw [Bool.eq_iff_iff, List.all_eq_true, List.all_eq_true]
  rw [List.all_eq_true] at h
  constructor
  · intro g x hx; have := g x hx; simp [belB] at this; simpa using this.2
  · intro g x hx; have := g x hx; have h' := h x hx; simp [letB] at h'; simp [belB]; exact ⟨h'.1, by simpa using this⟩

set_option maxRecDepth 100000 in
set_option maxHeartbeats 1000000 in
theorem valid_any (B : Nat) (v : Value) (n : Int) (s l : List Int) (w : World) (hv : LasAt B w v s l) (hBw : B ≤ w.heap.size) :
    Calls Try.prog 12 #[.int .i64 n, v] w fun e w' => e = .returned (.bool (validL n s l)) ∧ Below w.heap.size w w' := by
  have hv' := hv.mono hBw
  obtain ⟨o1, c1, o2, c2, rfl, h1, h2⟩ := hv'.open
  have hB : Below w.heap.size w (w.alloc (.cells #[.slice o1 s.length c1, .slice o2 l.length c2] 24)) := (Below.refl _ _).alloc (Nat.le_refl _) _
  have k0 := hidi (box0 w (.slice o1 s.length c1) (.slice o2 l.length c2) 24)
  have k1 := hidi (box1 w (.slice o1 s.length c1) (.slice o2 l.length c2) 24)
  have hA := hB
  have hX := hidi hA.size
  cases hf : formedB s l
  · go_enter Try.func12, Try.ntmps12
    go_wp2_with (go_at_call 34; refine (formed_any w.heap.size _ s l _ (hv'.below hB (Nat.le_refl _)) hB.size).mono ?_; rintro e w' ⟨rfl, hb⟩; rw [hf]; have hB := hB.trans (hb.mono hB.size); clear hb)
    go_ret
    exact ⟨ret_bool (by unfold validL; rw [hf]; simp), hB⟩
  · obtain ⟨-, -, -, p4, p5⟩ := formed_pos hf
    have f4 := hidi (all_let_bel (n := n) p4)
    have f5 := hidi (all_let_bel (n := n) p5)
    cases hs : s.all (belB n)
    · go_enter Try.func12, Try.ntmps12
      go_wp2_with first | (go_at_call 34; refine (formed_any w.heap.size _ s l _ (hv'.below hB (Nat.le_refl _)) hB.size).mono ?_; rintro e w' ⟨rfl, hb⟩; rw [hf]; have e0 := (hb.cell (p := ⟨w.heap.size, 0, none⟩) (box_lt w _)).trans k0.out; have hB := hB.trans (hb.mono hB.size); clear hb) | (go_at_call 35; refine (allBelow_any w.heap.size _ s n _ (h1.below hB (Nat.le_refl _)) hB.size).mono ?_; rintro e w' ⟨rfl, hb⟩; have hB := hB.trans (hb.mono hB.size); clear hb)
      go_ret
      exact ⟨ret_bool (by unfold validL; rw [← f4.out, hs]; rfl), hB⟩
    · go_enter Try.func12, Try.ntmps12
      go_wp2_with first | (go_at_call 34; refine (formed_any w.heap.size _ s l _ (hv'.below hB (Nat.le_refl _)) hB.size).mono ?_; rintro e w' ⟨rfl, hb⟩; rw [hf]; have e0 := (hb.cell (p := ⟨w.heap.size, 0, none⟩) (box_lt w _)).trans k0.out; have e1 := hidi ((hb.cell (p := ⟨w.heap.size, 1, none⟩) (box_lt w _)).trans k1.out); have hs1 := hidi (Nat.lt_of_lt_of_le (box_lt w _) hb.size); have hB := hB.trans (hb.mono hB.size); clear hb) | (go_at_call 35; with_reducible refine (allBelow_any w.heap.size (.slice o1 s.length c1) s n _ (h1.below hB (Nat.le_refl _)) hB.size).mono ?_; rintro e w2 ⟨rfl, hb⟩; have g1 := (hb.cell (p := ⟨w.heap.size, 1, none⟩) hs1.out).trans e1.out; have hB := hB.trans (hb.mono hB.size); clear hb) | (go_at_call 35; refine (allBelow_any w.heap.size _ l n _ (h2.below hB (Nat.le_refl _)) hB.size).mono ?_; rintro e w' ⟨rfl, hb⟩; have hB := hB.trans (hb.mono hB.size); clear hb)
      go_ret
      exact ⟨ret_bool (by unfold validL; rw [← f4.out, ← f5.out, hs, hf]; simp), hB⟩

set_option maxRecDepth 100000 in
set_option maxHeartbeats 1000000 in
theorem at_any (B : Nat) (v : Value) (s l : List Int) (x : Int) (w : World) (hv : LasAt B w v s l) (hBw : B ≤ w.heap.size) (hx1 : x ≤ 9223372036854775807) :
    Calls Try.prog 14 #[v, .int .i64 x] w fun e w' => e = .returned (.int .i64 (atI s l x)) ∧ Below w.heap.size w w' := by
  have hv' := hv.mono hBw
  obtain ⟨o1, c1, o2, c2, rfl, h1, h2⟩ := hv'.open
  have hB : Below w.heap.size w (w.alloc (.cells #[.slice o1 s.length c1, .slice o2 l.length c2] 24)) := (Below.refl _ _).alloc (Nat.le_refl _) _
  have k0 := hidi (box0 w (.slice o1 s.length c1) (.slice o2 l.length c2) 24)
  have k1 := hidi (box1 w (.slice o1 s.length c1) (.slice o2 l.length c2) 24)
  cases hf : formedB s l
  · go_enter Try.func14, Try.ntmps14
    go_wp2_with (go_at_call 34; refine (formed_any w.heap.size _ s l _ (hv'.below hB (Nat.le_refl _)) hB.size).mono ?_; rintro e w' ⟨rfl, hb⟩; rw [hf]; have hB := hB.trans (hb.mono hB.size); clear hb)
    go_ret
    exact ⟨ret_int (by simp [atI, hf]), hB⟩
  · obtain ⟨p1, p2, p3, -, -⟩ := formed_pos hf
    by_cases hx0 : 0 ≤ x
    · obtain ⟨k, rfl⟩ := Int.eq_ofNat_of_zero_le hx0
      have hE : Hid (atI s l (k : Int) = letAt s l k) := by unfold Hid; simp [atI, hf]
      by_cases hlt : k < s.length
      · obtain ⟨b, off, rfl, hb, -, -, hc⟩ := h1.at (by omega)
        have hz := hidi (letAt_stem (l := l) hlt)
        have hck := hidi (hc k hlt).1
        go_enter Try.func14, Try.ntmps14
        go_wp2_with (go_at_call 34; refine (formed_any w.heap.size _ s l _ (hv'.below hB (Nat.le_refl _)) hB.size).mono ?_; rintro e w' ⟨rfl, hb1⟩; rw [hf]; have e0 := (hb1.cell (p := ⟨w.heap.size, 0, none⟩) (box_lt w _)).trans k0.out; have hB := hB.trans (hb1.mono hB.size); clear hb1; have d1 := (hB.cell (p := ⟨b, off + k, none⟩) hb).trans hck.out)
        go_ret
        exact ⟨ret_int (by rw [hE.out, hz.out]), hB⟩
      · obtain ⟨m, hm⟩ : ∃ m : Nat, m = (k - s.length) % l.length := ⟨_, rfl⟩
        have hml : m < l.length := by rw [hm]; exact Nat.mod_lt _ p1
        have r1 : IntKind.i64.wrap ((k : Int) - (s.length : Int)) = (k : Int) - (s.length : Int) := by rw [IntKind.wrap_i64]; omega
        have r2 : ((k : Int) - (s.length : Int)).tmod (l.length : Int) = (m : Int) := by
          rw [Int.tmod_eq_emod_of_nonneg (by omega), hm, Int.natCast_emod, show ((k - s.length : Nat) : Int) = k - s.length by omega]
        have hzl : ¬ (l.length : Int) = 0 := by omega
        have q0 : (0 : Int) ≤ (m : Int) := by omega
        have q1 : (m : Int) < (l.length : Int) := by omega
        obtain ⟨b, off, rfl, hb, -, -, hc⟩ := h2.at (by omega)
        have hck := hidi (hc m hml).1
        have hz : Hid (letAt s l k = l[m]) := by
          unfold Hid letAt
          rw [if_neg (by omega), ← hm]
          simp [hml]
        clear hm
        go_enter Try.func14, Try.ntmps14
        go_wp2_with (go_at_call 34; refine (formed_any w.heap.size _ s l _ (hv'.below hB (Nat.le_refl _)) hB.size).mono ?_; rintro e w' ⟨rfl, hb1⟩; rw [hf]; have e0 := (hb1.cell (p := ⟨w.heap.size, 0, none⟩) (box_lt w _)).trans k0.out; have e1 := (hb1.cell (p := ⟨w.heap.size, 1, none⟩) (box_lt w _)).trans k1.out; have hB := hB.trans (hb1.mono hB.size); clear hb1; have d1 := (hB.cell (p := ⟨b, off + m, none⟩) hb).trans hck.out)
        go_quiet (fail)
        go_wp2
        go_ret
        exact ⟨ret_int (by rw [hE.out, hz.out]), below_drewN hB _⟩
    · go_enter Try.func14, Try.ntmps14
      go_wp2_with (go_at_call 34; refine (formed_any w.heap.size _ s l _ (hv'.below hB (Nat.le_refl _)) hB.size).mono ?_; rintro e w' ⟨rfl, hb⟩; rw [hf]; have hB := hB.trans (hb.mono hB.size); clear hb)
      go_ret
      exact ⟨ret_int (by unfold atI; rw [decide_eq_false (by omega)]; rfl), hB⟩

end Go.Proofs.Ytcbddplgleeiiaa
