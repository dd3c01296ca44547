/-
  The contract of the word reference's Prefix.
-/
import Derived.Test.YtcbddplgleeiiaaWordU
namespace Go.Proofs.Ytcbddplgleeiiaa
open Go.RowKit

/-- what Prefix returns -/
def preL (s l : List Int) (n : Int) : List Int := if formedB s l && decide (n ≤ 500) then (List.range n.toNat).map (letAt s l) else []

theorem grownBy_of_below {w w' : World} (h : Below w.heap.size w w') : w.grownBy w' none := ⟨h.os, h.tape, h.output, h.size, fun k hk _ => h.block k hk⟩

theorem letAt_mem {s l : List Int} (hl : 0 < l.length) (i : Nat) : letAt s l i ∈ s ∨ letAt s l i ∈ l := by
  unfold letAt
  split
  · rename_i h
    left; simp [h]
  · right
    have := Nat.mod_lt (i - s.length) hl
    simp [this]

theorem letAt_bd {s l : List Int} (hf : formedB s l = true) (i : Nat) : 0 ≤ letAt s l i ∧ letAt s l i < 64 := by
  obtain ⟨p1, -, -, p4, p5⟩ := formed_pos hf
  have h : letB (letAt s l i) = true := by
    rcases letAt_mem (s := s) p1 i with h | h
    · exact List.all_eq_true.1 p4 _ h
    · exact List.all_eq_true.1 p5 _ h
  simpa [letB] using h

theorem box_open (w : World) (u t : Value) : ∃ W0, Hid (w.alloc (.cells #[u, t] 24) = W0) ∧ Below w.heap.size w W0 ∧ w.heap.size < W0.heap.size ∧ Hid (W0.cell? ⟨w.heap.size, 0, none⟩ = some u) ∧ Hid (W0.cell? ⟨w.heap.size, 1, none⟩ = some t) :=
  ⟨_, rfl, (Below.refl _ _).alloc (Nat.le_refl _) _, box_lt w _, box0 w _ _ _, box1 w _ _ _⟩

set_option maxRecDepth 100000 in
set_option maxHeartbeats 1000000 in
theorem refprefix_any (B : Nat) (v : Value) (s l : List Int) (n : Int) (w : World) (hv : LasAt B w v s l) (hBw : B ≤ w.heap.size) :
    Calls Try.prog 18 #[v, .int .i64 n] w fun e w' => ∃ r, e = .returned r ∧ IntsAt w'.heap.size w' r (preL s l n) ∧ (∀ g, r.ownBlock = some g → w.heap.size ≤ g) ∧ Below w.heap.size w w' := by
  have hv' := hv.mono hBw
  obtain ⟨o1, c1, o2, c2, rfl, h1, h2⟩ := hv'.open
  obtain ⟨W1, hW1, hA, q0, e0, e1⟩ := box_open w (.slice o1 s.length c1) (.slice o2 l.length c2)
  have d0 := e0.out
  have d1 := e1.out
  by_cases hn0 : 0 < n
  · by_cases h500 : n ≤ 500
    · cases hf : formedB s l
      · go_enter Try.func18, Try.ntmps18
        go_wp2
        rw [hW1.out]
        go_loopw [5, 6] (fun out i wr => out = .slice none 0 0 ∧ i = .int .i64 0 ∧ wr = W1) (fun _ _ _ => 0)
        case atStart => exact ⟨rfl, rfl, rfl⟩
        case round =>
          obtain ⟨rfl, rfl, rfl⟩ := hrel
          go_wp2_with (go_at_call 30; refine (refformed_any w.heap.size _ s l _ (hv'.below hA (Nat.le_refl _)) hA.size).mono ?_; rintro e w' ⟨rfl, hb⟩)
          go_ret
          exact ⟨_, rfl, .inl ⟨_, _, rfl, by unfold preL; rw [hf]; rfl⟩, fun g e => by simp [Value.ownBlock] at e, hA.trans (hb.mono hA.size)⟩
      · obtain ⟨N, rfl⟩ := Int.eq_ofNat_of_zero_le (Int.le_of_lt hn0)
        obtain ⟨p1, -, -, -, -⟩ := formed_pos hf
        have hE : Hid (preL s l N = (List.range N).map (letAt s l)) := by unfold Hid preL; rw [hf, decide_eq_true h500]; rfl
        go_enter Try.func18, Try.ntmps18
        go_wp2
        rw [hW1.out]
        go_loopw [5, 6] (fun out i wr => ∃ k : Nat, k ≤ N ∧ i = .int .i64 k ∧ Below W1.heap.size W1 wr ∧ wr.ownsRow W1.heap.size 3 1 out k (((List.range k).map (letAt s l)).map (Value.int .i64))) (fun _ i _ => N - (intOf i).toNat)
        case atStart => exact ⟨0, Nat.zero_le _, rfl, Below.refl _ _, World.ownsRow_nil _ _ _ _⟩
        case round =>
          obtain ⟨k, hk, rfl, hB, hown⟩ := hrel
          clear d0 d1
          have d0 := (hB.cell (p := ⟨w.heap.size, 0, none⟩) q0).trans e0.out
          have d1 := (hB.cell (p := ⟨w.heap.size, 1, none⟩) q0).trans e1.out
          by_cases hlt : (k : Int) < (N : Int)
          · have hk5 : k ≤ 500 := by omega
            go_wp2_with first
            | (go_at_call 30; refine (refformed_any w.heap.size _ s l _ (hv'.below (hA.trans (hB.mono hA.size)) (Nat.le_refl _)) (Nat.le_trans hA.size hB.size)).mono ?_; rintro e w2 ⟨rfl, hb⟩; have hown := hown.kept (grownBy_of_below hb) (by cases hx : u5.ownBlock <;> simp); have hB := hB.trans (hb.mono hB.size); clear d0 d1 hb; have d0 := (hB.cell (p := ⟨w.heap.size, 0, none⟩) q0).trans e0.out; have d1 := (hB.cell (p := ⟨w.heap.size, 1, none⟩) q0).trans e1.out)
            | (go_at_call 36; refine (refat_any w.heap.size _ s l _ _ (hv'.below (hA.trans (hB.mono hA.size)) (Nat.le_refl _)) (Nat.le_trans hA.size hB.size) p1 (by omega) (by omega)).mono ?_; rintro e w3 ⟨rfl, hb⟩; have hown := hown.kept (grownBy_of_below hb) (by cases hx : u5.ownBlock <;> simp); have hB := hB.trans (hb.mono hB.size); clear d0 d1 hb)
            | (at_builtin; refine wpList_append_ints rfl (.tmp 20) (.tmp 24) rfl W1.heap.size u5 k _ rfl (hown.alloc _) (Nat.le_trans hB.size (by simp)) _ (.slice (some ⟨w3.heap.size, 0, none⟩) 1 1) [letAt s l k] rfl (ints_of_owns (own_one w3 0 (Nat.zero_le _) _) rfl (fun x hx => by have := letAt_bd hf k; rw [List.mem_singleton] at hx; omega)) (by simp; omega) ?_
               intro v4 w4 hown4 hgrow4
               have hB4 := (hB.alloc hB.size (.cells #[.int .i64 (letAt s l k)] 3)).grown hgrow4 (Nat.le_trans hB.size (by simp)) (fun g e => (hown.lt g e).1))
            go_roundw
            case rel => exact ⟨k + 1, by omega, by go_num, hB4, by simpa [List.range_succ] using hown4⟩
            case measure => simp [intOf]; omega
          · go_wp2
            go_ret
            obtain rfl : k = N := by omega
            exact ⟨_, rfl, by rw [hE.out]; exact ints_of_owns hown (by simp) (fun x hx => by
              obtain ⟨i, _, rfl⟩ := List.mem_map.1 hx
              have := letAt_bd hf i
              omega), fun g e => by have := (hown.lt g e).1; omega, hA.trans (hB.mono hA.size)⟩
    · go_enter Try.func18, Try.ntmps18
      go_wp2
      rw [hW1.out]
      go_loopw [5, 6] (fun out i wr => out = .slice none 0 0 ∧ i = .int .i64 0 ∧ wr = W1) (fun _ _ _ => 0)
      case atStart => exact ⟨rfl, rfl, rfl⟩
      case round =>
        obtain ⟨rfl, rfl, rfl⟩ := hrel
        go_wp2
        go_ret
        exact ⟨_, rfl, .inl ⟨_, _, rfl, by unfold preL; rw [decide_eq_false (Int.not_le.2 h500), Bool.and_false]; rfl⟩, fun g e => by simp [Value.ownBlock] at e, hA⟩
  · go_enter Try.func18, Try.ntmps18
    go_wp2
    rw [hW1.out]
    go_loopw [5, 6] (fun out i wr => out = .slice none 0 0 ∧ i = .int .i64 0 ∧ wr = W1) (fun _ _ _ => 0)
    case atStart => exact ⟨rfl, rfl, rfl⟩
    case round =>
      obtain ⟨rfl, rfl, rfl⟩ := hrel
      go_wp2
      go_ret
      exact ⟨_, rfl, .inl ⟨_, _, rfl, by unfold preL; split; (· rw [show n.toNat = 0 by omega]; rfl); (· rfl)⟩, fun g e => by simp [Value.ownBlock] at e, hA⟩

end Go.Proofs.Ytcbddplgleeiiaa
