/-
  Contracts of the word reference's small functions: Letter, Formed.
-/
import Derived.Test.YtcbddplgleeiiaaWordK
namespace Go.Proofs.Ytcbddplgleeiiaa
open Go.RowKit

set_option maxHeartbeats 400000 in
theorem refletter_any (n : Int) (w : World) :
    Calls Try.prog 45 #[.int .i64 n] w fun e w' => e = .returned (.bool (letB n)) ∧ w = w' := by
  by_cases h0 : 0 ≤ n
  · go_enter Try.func45, Try.ntmps45
    go_wp2
    go_ret
    exact ⟨ret_bool (by simp [letB, h0]), rfl⟩
  · go_enter Try.func45, Try.ntmps45
    go_wp2
    go_ret
    exact ⟨ret_bool (by simp [letB]; omega), rfl⟩

set_option maxRecDepth 100000 in
set_option maxHeartbeats 1000000 in
theorem refformed_any (B : Nat) (v : Value) (s l : List Int) (w : World) (hv : LasAt B w v s l) (hBw : B ≤ w.heap.size) :
    Calls Try.prog 30 #[v] w fun e w' => e = .returned (.bool (formedB s l)) ∧ Below w.heap.size w w' := by
  obtain ⟨o1, c1, o2, c2, rfl, h1, h2⟩ := hv.open
  have m1 := h1.len
  have m2 := h2.len
  have hA : Below w.heap.size w (w.alloc (.cells #[.slice o1 s.length c1, .slice o2 l.length c2] 24)) := (Below.refl _ _).alloc (Nat.le_refl _) _
  by_cases g1 : s.length ≤ 60
  · by_cases g2 : 1 ≤ l.length
    · by_cases g3 : l.length ≤ 40
      · have hz : Hid (formedB s l = (s.all letB && l.all letB)) := by unfold Hid formedB; simp [g1, g2, g3]
        go_enter Try.func30, Try.ntmps30
        go_wp2
        go_loop [3] (fun i => ∃ k : Nat, k ≤ s.length ∧ i = .int .i64 k ∧ Hid (s.all letB = (s.drop k).all letB)) (fun i => s.length - (intOf i).toNat)
        case atStart => exact ⟨0, Nat.zero_le _, rfl, rfl⟩
        case round =>
          obtain ⟨k, hk, rfl, hF⟩ := hrel
          by_cases hlt : k < s.length
          · obtain ⟨b, off, rfl, hb, -, -, hc⟩ := h1.at (by omega)
            have d1 := (hA.cell (p := ⟨b, off + k, none⟩) (Nat.lt_of_lt_of_le hb hBw)).trans (hc k hlt).1
            have hS := hidi (all_drop (p := letB) hlt)
            cases hq : letB s[k]
            · go_wp2_with (go_at_call 45; refine (refletter_any _ _).mono ?_; rintro e w' ⟨rfl, rfl⟩)
              go_ret
              exact ⟨ret_bool (by rw [hz.out, hF.out, hS.out, hq]; rfl), hA⟩
            · go_wp2_with (go_at_call 45; refine (refletter_any _ _).mono ?_; rintro e w' ⟨rfl, rfl⟩)
              go_round
              case rel => exact ⟨k + 1, by omega, by go_num, hF.out.trans (hS.out.trans (by rw [hq, Bool.true_and]))⟩
              case measure => simp [intOf]; omega
          · have hs : Hid (s.all letB = true) := by unfold Hid; rw [hF.out, List.drop_of_length_le (by omega)]; rfl
            clear hF
            go_wp2
            go_loop [5] (fun i => ∃ k : Nat, k ≤ l.length ∧ i = .int .i64 k ∧ Hid (l.all letB = (l.drop k).all letB)) (fun i => l.length - (intOf i).toNat)
            case atStart => exact ⟨0, Nat.zero_le _, rfl, rfl⟩
            case round =>
              obtain ⟨k, hk, rfl, hF⟩ := hrel
              by_cases hlt : k < l.length
              · obtain ⟨b, off, rfl, hb, -, -, hc⟩ := h2.at (by omega)
                have d1 := (hA.cell (p := ⟨b, off + k, none⟩) (Nat.lt_of_lt_of_le hb hBw)).trans (hc k hlt).1
                have hS := hidi (all_drop (p := letB) hlt)
                cases hq : letB l[k]
                · go_wp2_with (go_at_call 45; refine (refletter_any _ _).mono ?_; rintro e w' ⟨rfl, rfl⟩)
                  go_ret
                  exact ⟨ret_bool (by rw [hz.out, hs.out, hF.out, hS.out, hq]; rfl), hA⟩
                · go_wp2_with (go_at_call 45; refine (refletter_any _ _).mono ?_; rintro e w' ⟨rfl, rfl⟩)
                  go_round
                  case rel => exact ⟨k + 1, by omega, by go_num, hF.out.trans (hS.out.trans (by rw [hq, Bool.true_and]))⟩
                  case measure => simp [intOf]; omega
              · have hs2 : Hid (l.all letB = true) := by unfold Hid; rw [hF.out, List.drop_of_length_le (by omega)]; rfl
                clear hF
                go_wp2
                go_ret
                exact ⟨ret_bool (by rw [hz.out, hs.out, hs2.out]; rfl), hA⟩
      · go_enter Try.func30, Try.ntmps30
        go_wp2
        go_ret
        exact ⟨ret_bool (by simp [formedB, g3]), hA⟩
    · go_enter Try.func30, Try.ntmps30
      go_wp2
      go_ret
      exact ⟨ret_bool (by simp [formedB, g2]), hA⟩
  · go_enter Try.func30, Try.ntmps30
    go_wp2
    go_ret
    exact ⟨ret_bool (by simp [formedB, g1]), hA⟩

end Go.Proofs.Ytcbddplgleeiiaa
