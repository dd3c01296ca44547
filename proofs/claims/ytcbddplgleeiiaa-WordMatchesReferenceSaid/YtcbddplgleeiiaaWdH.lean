/-
  Contracts of slices.Grow of nil and slices.Concat of two lists of numbers.
-/
import Derived.Test.YtcbddplgleeiiaaWdG
import Derived.Lib.AppendZeros
namespace Go.Proofs.Ytcbddplgleeiiaa
open Go.RowKit

theorem grow_own (w : World) (n : Nat) (h0 : 0 < n) (hn : n ≤ 1000000) : ∃ c w1, (Builtin.append_ #[22, 3] 22 #[.slice none 0 0, .int .i64 n]).run Try.prog w = .ok (.slice (some ⟨w.heap.size, 0, none⟩) n c) w1 ∧
    w1.ownsRow w.heap.size 3 1 (.slice (some ⟨w.heap.size, 0, none⟩) 0 c) 0 [] ∧ Below w.heap.size w w1 := by
  obtain ⟨i0, hi, hz0, hz1, hz2⟩ := info_parts Try.intInfo
  have hr := Lib.run_append_nil_zeros (P := Try.prog) w 22 3 22 3 i0 (.int .i64 0) .i64 .i64 Try.underlying22 (by kernel_rfl) hi hz0 n h0 (by rw [hz1]; decide) (by omega) (by rw [hz2]; omega)
  have hge := grownCap_ge w n 0 3
  have hle := grownCap_le_maxLen w n 0 3 (by unfold maxLen; omega)
  refine ⟨_, _, hr, World.ownsRow_made w.drew _ _ (Nat.le_refl _) hle ?_, (Below.refl _ _).drew.alloc (Nat.le_refl _) _⟩
  rw [Array.size_append, size_zeroCells, size_zeroCells]
  simp [Value.cells]
  omega

set_option maxRecDepth 100000 in
set_option maxHeartbeats 1000000 in
theorem grow_any (n : Nat) (w : World) (hn : n ≤ 1000000) :
    Calls Try.prog 54 #[.slice none 0 0, .int .i64 n] w fun e w' => ∃ r, e = .returned r ∧ w'.ownsRow w.heap.size 3 1 r 0 [] ∧ Below w.heap.size w w' := by
  have v2 : IntKind.i64.wrap 0 = 0 := by rw [IntKind.wrap_i64]; rfl
  have v3 : IntKind.i64.wrap (n : Int) = (n : Int) := by rw [IntKind.wrap_i64]; omega
  rcases Nat.eq_zero_or_pos n with h0 | h0
  · subst h0
    go_enter Try.func54, Try.ntmps54
    go_wp2
    go_ret
    exact ⟨_, rfl, World.ownsRow_nil _ _ _ _, Below.refl _ _⟩
  · obtain ⟨c, w1, hr, hown, hB⟩ := grow_own w n h0 hn
    have hr' := hidi hr
    clear hr
    have h1 : (0 : Int) < (n : Int) := by omega
    go_enter Try.func54, Try.ntmps54
    go_wp2_with (at_builtin; refine Lib.wpList_append_run _ rfl (.tmp 20) (.tmp 21) 22 3 rfl _ _ rfl rfl _ _ hr'.out ?_)
    go_ret
    exact ⟨_, rfl, hown, hB⟩

set_option maxRecDepth 100000 in
set_option maxHeartbeats 1000000 in
theorem concat_any (u v : Value) (xs ys : List Int) (g : Nat) (w : World) (hu : IntsAt w.heap.size w u xs) (hv : IntsAt w.heap.size w v ys) (hg : w.heap[g]? = some (.cells #[u, v] 22 (0, 0))) (hx : xs.length ≤ 100000) (hy : ys.length ≤ 100000) :
    Calls Try.prog 44 #[.slice (some ⟨g, 0, none⟩) 2 2] w fun e w' => ∃ r, e = .returned r ∧ NewInts w.heap.size w' r (xs ++ ys) ∧ Below w.heap.size w w' := by
  obtain ⟨o1, c1, rfl⟩ := hu.shape
  obtain ⟨o2, c2, rfl⟩ := hv.shape
  have hgl : g < w.heap.size := (Array.getElem?_eq_some_iff.1 hg).1
  have d0 : w.cell? ⟨g, 0, none⟩ = some (.slice o1 xs.length c1) := cell_of_row w g 0 _ _ _ hg
  have d1 : w.cell? ⟨g, 1, none⟩ = some (.slice o2 ys.length c2) := cell_of_row w g 1 _ _ _ hg
  have e0 := hidi d0
  have e1 := hidi d1
  clear hg
  have v2 : IntKind.i64.wrap 0 = 0 := by rw [IntKind.wrap_i64]; rfl
  have v3 : IntKind.i64.wrap (xs.length : Int) = (xs.length : Int) := by rw [IntKind.wrap_i64]; omega
  have v4 : IntKind.i64.wrap ((xs.length : Int) + (ys.length : Int)) = (xs.length : Int) + (ys.length : Int) := by rw [IntKind.wrap_i64]; omega
  have v5 : IntKind.i64.wrap 1 = 1 := by rw [IntKind.wrap_i64]; rfl
  have v6 : IntKind.i64.wrap 2 = 2 := by rw [IntKind.wrap_i64]; rfl
  have n1 : ¬ ((xs.length : Int) < 0) := by omega
  have n2 : ¬ ((xs.length : Int) + (ys.length : Int) < 0) := by omega
  go_enter Try.func44, Try.ntmps44
  go_wp2
  go_loopw [3, 11] (fun a i wr => w = wr ∧ ((i = .int .i64 0 ∧ a = .int .i64 0) ∨ (i = .int .i64 1 ∧ a = .int .i64 xs.length) ∨ (i = .int .i64 2 ∧ a = .int .i64 ((xs.length : Int) + (ys.length : Int))))) (fun _ i _ => 2 - (intOf i).toNat)
  case atStart => exact ⟨rfl, .inl ⟨rfl, rfl⟩⟩
  case round =>
    obtain ⟨rfl, h⟩ := hrel
    rcases h with ⟨rfl, rfl⟩ | ⟨rfl, rfl⟩ | ⟨rfl, rfl⟩
    · go_wp2
      go_roundw
      case rel => exact ⟨trivial, .inr (.inl ⟨rfl, rfl⟩)⟩
      case measure => simp [intOf]
    · go_wp2
      go_roundw
      case rel => exact ⟨trivial, .inr (.inr ⟨rfl, rfl⟩)⟩
      case measure => simp [intOf]
    · go_wp2_with (go_at_call 54; refine (grow_any (xs.length + ys.length) _ (by omega)).mono ?_; rintro e w1 ⟨r1, rfl, hown1, hB1⟩)
      go_loopw [6, 27] (fun a i W => Below w.heap.size w W ∧ ((i = .int .i64 0 ∧ W.ownsRow w.heap.size 3 1 a 0 []) ∨ (i = .int .i64 1 ∧ W.ownsRow w.heap.size 3 1 a xs.length (xs.map (Value.int .i64))) ∨ (i = .int .i64 2 ∧ W.ownsRow w.heap.size 3 1 a (xs.length + ys.length) ((xs ++ ys).map (Value.int .i64))))) (fun _ i _ => 2 - (intOf i).toNat)
      case atStart => exact ⟨hB1, .inl ⟨rfl, hown1⟩⟩
      case round =>
        clear d0 d1 hB1 hown1
        obtain ⟨hB, h⟩ := hrel
        have d0 := (hB.cell (p := ⟨g, 0, none⟩) hgl).trans e0.out
        have d1 := (hB.cell (p := ⟨g, 1, none⟩) hgl).trans e1.out
        rcases h with ⟨rfl, hown⟩ | ⟨rfl, hown⟩ | ⟨rfl, hown⟩
        · go_wp2_with (at_builtin; refine wpList_append_ints rfl (.tmp 31) (.tmp 32) rfl w.heap.size _ 0 [] rfl hown hB.size w.heap.size _ xs rfl (hu.below hB (Nat.le_refl _)) (by omega) ?_; intro v4 w4 hown4 hgrow4; have hB4 := hB.grown hgrow4 hB.size (fun k e => (hown.lt k e).1))
          rw [Nat.zero_add, List.nil_append] at hown4
          go_roundw
          case rel => exact ⟨hB4, .inr (.inl ⟨rfl, hown4⟩)⟩
          case measure => simp [intOf]
        · go_wp2_with (at_builtin; refine wpList_append_ints rfl (.tmp 31) (.tmp 32) rfl w.heap.size _ xs.length _ rfl hown hB.size w.heap.size _ ys rfl (hv.below hB (Nat.le_refl _)) (by omega) ?_; intro v4 w4 hown4 hgrow4; have hB4 := hB.grown hgrow4 hB.size (fun k e => (hown.lt k e).1))
          rw [← List.map_append] at hown4
          go_roundw
          case rel => exact ⟨hB4, .inr (.inr ⟨rfl, hown4⟩)⟩
          case measure => simp [intOf]
        · go_wp2
          go_ret
          exact ⟨_, rfl, ⟨ints_of_owns hown (by simp) (fun x hx => (List.mem_append.1 hx).elim (hu.bd x) (hv.bd x)), fun k e => (hown.lt k e).1⟩, hB⟩

end Go.Proofs.Ytcbddplgleeiiaa
