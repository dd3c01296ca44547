/-
  Contracts of the word reference's Ints and Equal.
-/
import Derived.Test.YtcbddplgleeiiaaWordB
namespace Go.Proofs.Ytcbddplgleeiiaa
open Go.RowKit

set_option maxRecDepth 100000 in
set_option maxHeartbeats 1000000 in
theorem ints_any (B : Nat) (u v : Value) (xs ys : List Int) (w : World) (hx : IntsAt B w u xs) (hy : IntsAt B w v ys) (hBw : B ≤ w.heap.size) :
    Calls Try.prog 16 #[u, v] w fun e w' => e = .returned (.bool (decide (xs = ys))) ∧ Below w.heap.size w w' := by
  obtain ⟨o1, c1, rfl⟩ := hx.shape
  obtain ⟨o2, c2, rfl⟩ := hy.shape
  by_cases hlen : xs.length = ys.length
  · have hne : ((xs.length : Int) != (ys.length : Int)) = false := by simp [hlen]
    have hm := hx.len
    have hlen' := hidi hlen
    clear hlen
    go_enter Try.func16, Try.ntmps16
    go_wp2
    go_loopw [5] (fun i wr => ∃ k : Nat, k ≤ xs.length ∧ i = .int .i64 k ∧ Below w.heap.size w wr ∧ Hid (decide (xs = ys) = decide (xs.drop k = ys.drop k))) (fun i _ => xs.length - (intOf i).toNat)
    case atStart => exact ⟨0, Nat.zero_le _, rfl, Below.refl _ _, rfl⟩
    case round =>
      obtain ⟨k, hk, rfl, hB, hF⟩ := hrel
      by_cases hlt : k < xs.length
      · have hlt2 : k < ys.length := by have := hlen'.out; omega
        obtain ⟨b1, f1, rfl, hb1, -, -, hc1⟩ := hx.at (by omega)
        obtain ⟨b2, f2, rfl, hb2, -, -, hc2⟩ := hy.at (by omega)
        have d1 := (hB.cell (p := ⟨b1, f1 + k, none⟩) (Nat.lt_of_lt_of_le hb1 hBw)).trans (hc1 k hlt).1
        have d2 := (hB.cell (p := ⟨b2, f2 + k, none⟩) (Nat.lt_of_lt_of_le hb2 hBw)).trans (hc2 k hlt2).1
        have hS : Hid (decide (xs.drop k = ys.drop k) = (decide (xs[k] = ys[k]) && decide (xs.drop (k + 1) = ys.drop (k + 1)))) := by
          unfold Hid; rw [List.drop_eq_getElem_cons hlt, List.drop_eq_getElem_cons hlt2]; simp only [List.cons.injEq, Bool.decide_and]
        have g1 : (0 : Int) ≤ k := by omega
        have g2 : (k : Int) < xs.length := by omega
        have g3 : (k : Int) < ys.length := by omega
        cases heq : (xs[k] != ys[k])
        · go_wp2
          go_quiet (fail)
          go_wp2
          go_roundw
          case rel => exact ⟨k + 1, by omega, by go_num, below_drewN hB _, hF.out.trans (hS.out.trans (by simp at heq; simp [heq]))⟩
          case measure => simp [intOf]; omega
        · go_wp2
          go_quiet (fail)
          go_wp2
          go_ret
          exact ⟨ret_bool (by rw [hF.out, hS.out]; simp at heq; simp [heq]), below_drewN hB _⟩
      · go_wp2
        go_ret
        exact ⟨ret_bool (by rw [hF.out, List.drop_of_length_le (by omega), List.drop_of_length_le (by have := hlen'.out; omega)]; rfl), hB⟩
  · have hne : ((xs.length : Int) != (ys.length : Int)) = true := by simp; omega
    go_enter Try.func16, Try.ntmps16
    go_wp2
    go_ret
    exact ⟨ret_bool (by symm; simp; intro h; exact hlen (by rw [h])), Below.refl _ _⟩

/-- are two lassos equal -/
def lasEqB (s l t k : List Int) : Bool := decide (s = t) && decide (l = k)

set_option maxRecDepth 100000 in
set_option maxHeartbeats 1000000 in
theorem refequal_any (B : Nat) (u v : Value) (s l t k : List Int) (w : World) (hu : LasAt B w u s l) (hv : LasAt B w v t k) (hBw : B ≤ w.heap.size) :
    Calls Try.prog 19 #[u, v] w fun e w' => e = .returned (.bool (lasEqB s l t k)) ∧ Below w.heap.size w w' := by
  obtain ⟨o1, c1, o2, c2, rfl, h1, h2⟩ := (hu.mono hBw).open
  obtain ⟨o3, c3, o4, c4, rfl, h3, h4⟩ := (hv.mono hBw).open
  have hA : Below w.heap.size w (w.alloc (.cells #[.slice o1 s.length c1, .slice o2 l.length c2] 24)) := (Below.refl _ _).alloc (Nat.le_refl _) _
  have hB := hA.alloc hA.size (.cells #[.slice o3 t.length c3, .slice o4 k.length c4] 24)
  cases hq : decide (s = t)
  · go_enter Try.func19, Try.ntmps19
    go_wp2_with (go_at_call 16; refine (ints_any w.heap.size _ _ s t _ (h1.below hB (Nat.le_refl _)) (h3.below hB (Nat.le_refl _)) hB.size).mono ?_; rintro e w' ⟨rfl, hb⟩; have hB := hB.trans (hb.mono hB.size); clear hb)
    go_ret
    exact ⟨ret_bool (by unfold lasEqB; rw [hq]; rfl), hB⟩
  · have q : (w.alloc (.cells #[.slice o1 s.length c1, .slice o2 l.length c2] 24)).heap.size = w.heap.size + 1 := by simp
    have e1 := box1 (w.alloc (.cells #[.slice o1 s.length c1, .slice o2 l.length c2] 24)) (.slice o3 t.length c3) (.slice o4 k.length c4) 24
    have q2 := box_lt (w.alloc (.cells #[.slice o1 s.length c1, .slice o2 l.length c2] 24)) (.cells #[.slice o3 t.length c3, .slice o4 k.length c4] 24)
    rw [q] at e1 q2
    have e0 := (((Below.refl _ (w.alloc (.cells #[.slice o1 s.length c1, .slice o2 l.length c2] 24))).alloc (Nat.le_refl _) (.cells #[.slice o3 t.length c3, .slice o4 k.length c4] 24)).cell (p := ⟨w.heap.size, 1, none⟩) (box_lt w _)).trans (box1 w (.slice o1 s.length c1) (.slice o2 l.length c2) 24)
    have e0' := hidi e0
    have e1' := hidi e1
    clear e0 e1
    go_enter Try.func19, Try.ntmps19
    go_wp2_with first | (go_at_call 16; with_reducible refine (ints_any w.heap.size (.slice o1 s.length c1) (.slice o3 t.length c3) s t _ (h1.below hB (Nat.le_refl _)) (h3.below hB (Nat.le_refl _)) hB.size).mono ?_; rintro e w' ⟨rfl, hb⟩; have f0 := (hb.cell (p := ⟨w.heap.size, 1, none⟩) (Nat.lt_of_succ_lt q2)).trans e0'.out; have f1 := (hb.cell (p := ⟨w.heap.size + 1, 1, none⟩) q2).trans e1'.out; have hB := hB.trans (hb.mono hB.size); clear hb) | (go_at_call 16; refine (ints_any w.heap.size _ _ l k _ (h2.below hB (Nat.le_refl _)) (h4.below hB (Nat.le_refl _)) hB.size).mono ?_; rintro e w' ⟨rfl, hb⟩; have hB := hB.trans (hb.mono hB.size); clear hb)
    go_ret
    exact ⟨ret_bool (by unfold lasEqB; rw [hq]; rfl), hB⟩

end Go.Proofs.Ytcbddplgleeiiaa
