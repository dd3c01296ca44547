/-
  The contract of the word reference's Valid.
-/
import Derived.Test.YtcbddplgleeiiaaWordC
namespace Go.Proofs.Ytcbddplgleeiiaa
open Go.RowKit

/-- what Valid returns -/
def validL (n : Int) (s l : List Int) : Bool := (s.all fun x => decide (x < n)) && (l.all fun x => decide (x < n)) && formedB s l

set_option maxRecDepth 100000 in
set_option maxHeartbeats 1000000 in
theorem refvalid_any (B : Nat) (v : Value) (n : Int) (s l : List Int) (w : World) (hv : LasAt B w v s l) (hBw : B ≤ w.heap.size) :
    Calls Try.prog 13 #[.int .i64 n, v] w fun e w' => e = .returned (.bool (validL n s l)) ∧ Below w.heap.size w w' := by
  have hv' := hv.mono hBw
  obtain ⟨o1, c1, o2, c2, rfl, h1, h2⟩ := hv.open
  have m1 := h1.len
  have m2 := h2.len
  have hA : Below w.heap.size w (w.alloc (.cells #[.slice o1 s.length c1, .slice o2 l.length c2] 24)) := (Below.refl _ _).alloc (Nat.le_refl _) _
  go_enter Try.func13, Try.ntmps13
  go_wp2
  go_loop [5] (fun i => ∃ k : Nat, k ≤ s.length ∧ i = .int .i64 k ∧ Hid ((s.all fun x => decide (x < n)) = (s.drop k).all fun x => decide (x < n))) (fun i => s.length - (intOf i).toNat)
  case atStart => exact ⟨0, Nat.zero_le _, rfl, rfl⟩
  case round =>
    obtain ⟨k, hk, rfl, hF⟩ := hrel
    by_cases hlt : k < s.length
    · obtain ⟨b, off, rfl, hb, -, -, hc⟩ := h1.at (by omega)
      have d1 := (hA.cell (p := ⟨b, off + k, none⟩) (Nat.lt_of_lt_of_le hb hBw)).trans (hc k hlt).1
      have hS := hidi (all_drop (p := fun x => decide (x < n)) hlt)
      by_cases hq : s[k] < n
      · go_wp2
        go_round
        case rel => exact ⟨k + 1, by omega, by go_num, hF.out.trans (hS.out.trans (by rw [decide_eq_true hq, Bool.true_and]))⟩
        case measure => simp [intOf]; omega
      · go_wp2
        go_ret
        exact ⟨ret_bool (by unfold validL; rw [hF.out, hS.out, decide_eq_false (by omega)]; rfl), hA⟩
    · have hs : Hid ((s.all fun x => decide (x < n)) = true) := by unfold Hid; rw [hF.out, List.drop_of_length_le (by omega)]; rfl
      clear hF
      go_wp2
      go_loop [6] (fun i => ∃ k : Nat, k ≤ l.length ∧ i = .int .i64 k ∧ Hid ((l.all fun x => decide (x < n)) = (l.drop k).all fun x => decide (x < n))) (fun i => l.length - (intOf i).toNat)
      case atStart => exact ⟨0, Nat.zero_le _, rfl, rfl⟩
      case round =>
        obtain ⟨k, hk, rfl, hF⟩ := hrel
        by_cases hlt : k < l.length
        · obtain ⟨b, off, rfl, hb, -, -, hc⟩ := h2.at (by omega)
          have d1 := (hA.cell (p := ⟨b, off + k, none⟩) (Nat.lt_of_lt_of_le hb hBw)).trans (hc k hlt).1
          have hS := hidi (all_drop (p := fun x => decide (x < n)) hlt)
          by_cases hq : l[k] < n
          · go_wp2
            go_round
            case rel => exact ⟨k + 1, by omega, by go_num, hF.out.trans (hS.out.trans (by rw [decide_eq_true hq, Bool.true_and]))⟩
            case measure => simp [intOf]; omega
          · go_wp2
            go_ret
            exact ⟨ret_bool (by unfold validL; rw [hs.out, hF.out, hS.out, decide_eq_false (by omega)]; rfl), hA⟩
        · have hs2 : Hid ((l.all fun x => decide (x < n)) = true) := by unfold Hid; rw [hF.out, List.drop_of_length_le (by omega)]; rfl
          clear hF
          go_wp2_with (go_at_call 30; refine (refformed_any w.heap.size _ s l _ (hv'.below hA (Nat.le_refl _)) hA.size).mono ?_; rintro e w' ⟨rfl, hb⟩)
          go_ret
          exact ⟨ret_bool (by unfold validL; rw [hs.out, hs2.out]; rfl), hA.trans (hb.mono hA.size)⟩

end Go.Proofs.Ytcbddplgleeiiaa
