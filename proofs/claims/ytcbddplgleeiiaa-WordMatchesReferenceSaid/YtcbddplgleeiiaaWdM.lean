/-
  The contract of package word's take.
-/
import Derived.Test.YtcbddplgleeiiaaWdL
namespace Go.Proofs.Ytcbddplgleeiiaa
open Go.RowKit
attribute [local go_sem] Oper.semAt_some

theorem make_room (n : Nat) (hn : n ≤ 1000000) : ∃ Z : Array Value, Z.size = n * 1 ∧ ∀ W : World, (Instr.makeSlice 22 (.int .i64 0) (.int .i64 n)).run Try.prog W = .ok (.slice (some ⟨W.heap.size, 0, none⟩) 0 n) (W.alloc (.cells Z 3)) := by
  obtain ⟨i0, hi, hz0, hz1, hz2⟩ := info_parts Try.intInfo
  refine ⟨madeCells (Value.int .i64 0).cells (n * i0.size), by rw [size_madeCells, hz1], fun W => ?_⟩
  have := run_makeSlice (P := Try.prog) W 22 3 i0 (.int .i64 0) Try.underlying22 hi hz0 .i64 .i64 0 n (Int.le_refl _) (by omega) (by rw [hz1]; omega) (by rw [hz2]; omega) (by omega)
  rw [this]
  simp

/-- the first elements that a function hands out -/
def firstL (f : Nat → Int) (n : Nat) : List Int := (List.range n).map f

set_option maxRecDepth 100000 in
set_option maxHeartbeats 2000000 in
theorem take_any (g : Nat) (lb : Array Value) (f : Nat → Int) (win B N : Nat) (w : World) (eg : ∀ args w, (callFunc g args).run Try.prog w = .ok (.enter g args) w) (hN : 0 < N) (hN2 : N ≤ 10000) (hB : B ≤ w.heap.size) (hseq : Feeds g lb f win B N w) (hf : ∀ i, -9223372036854775808 ≤ f i ∧ f i ≤ 9223372036854775807) :
    Calls Try.prog 37 #[.func (.func g) #[] lb, .int .i64 N] w fun e w' => ∃ r, e = .returned r ∧ NewInts w.heap.size w' r (firstL f N) ∧ Below w.heap.size w w' := by
  obtain ⟨Z, hZ, hmk⟩ := make_room N (by omega)
  have hNz : ((N : Int) == 0) = false := beq_eq_false_iff_ne.2 (by omega)
  have hNz' : ¬ N = 0 := by omega
  refine (callsIn_wide (n := 6)).1 ?_
  refine callsIn_of_wp_marks Try.func37 rfl trivial ?_ rfl
  simp only [Try.ntmps37, List.size_toArray, List.length_cons, List.length_nil, Nat.reduceAdd, Nat.reduceSub, Array.replicate_succ, Array.replicate_zero, List.push_toArray, List.append_toArray, List.nil_append, List.cons_append]
  have x1 := Boxed.new w 3 (.int .i64 N)
  have x2 := World.ownsRow_made (w.alloc (.cells #[.int .i64 N] 3)) (base := w.heap.size) (e := 3) (size := 1) Z N (by simp) (by unfold maxLen; omega) hZ
  have x3 := Boxed.new ((w.alloc (.cells #[.int .i64 N] 3)).alloc (.cells Z 3)) 22 (.slice (some ⟨w.heap.size + 1, 0, none⟩) 0 N)
  rw [World.size_alloc] at x2
  rw [World.size_alloc, World.size_alloc] at x3
  have y1 := (x1.alloc (.cells Z 3)).alloc (.cells #[.slice (some ⟨w.heap.size + 1, 0, none⟩) 0 N] 22)
  have y2 := x2.alloc (.cells #[.slice (some ⟨w.heap.size + 1, 0, none⟩) 0 N] 22)
  have hB0 : Below w.heap.size w (((w.alloc (.cells #[.int .i64 N] 3)).alloc (.cells Z 3)).alloc (.cells #[.slice (some ⟨w.heap.size + 1, 0, none⟩) 0 N] 22)) := (((Below.refl _ _).alloc (Nat.le_refl _) _).alloc (by simp) _).alloc (by simp; omega) _
  have hsz0 : (((w.alloc (.cells #[.int .i64 N] 3)).alloc (.cells Z 3)).alloc (.cells #[.slice (some ⟨w.heap.size + 1, 0, none⟩) 0 N] 22)).heap.size = w.heap.size + 3 := by simp
  clear x1 x2
  gi_wp2_with fail
  revert y1 y2 x3 hB0 hsz0
  generalize ((w.alloc (.cells #[.int .i64 N] 3)).alloc (.cells Z 3)).alloc (.cells #[.slice (some ⟨w.heap.size + 1, 0, none⟩) 0 N] 22) = W0
  intro x3 y1 y2 hB0 hsz0
  refine rangeFunc_feeds (n := 6) (gf := g) (lb := lb) rfl eg hseq hB0 hB rfl
    (fun k W => Boxed W w.heap.size 3 (.int .i64 N) ∧ Boxed W (w.heap.size + 1 + 1) 22 (.slice (some ⟨w.heap.size + 1, 0, none⟩) k N) ∧ W.ownsRow w.heap.size 3 1 (.slice (some ⟨w.heap.size + 1, 0, none⟩) k N) k ((firstL f k).map (Value.int .i64)) ∧ Below w.heap.size w W)
    (fun c k W => c = .exit 0 ∧ k = N ∧ Boxed W w.heap.size 3 (.int .i64 N) ∧ Boxed W (w.heap.size + 1 + 1) 22 (.slice (some ⟨w.heap.size + 1, 0, none⟩) N N) ∧ W.ownsRow w.heap.size 3 1 (.slice (some ⟨w.heap.size + 1, 0, none⟩) N N) N ((firstL f N).map (Value.int .i64)) ∧ Below w.heap.size w W)
    ?_ ?_ ⟨y1, x3, y2, hB0⟩
    (fun x => { tmps := #[.func (.func g) #[] lb, .int .i64 N, undef, .pointer (some ⟨w.heap.size, 0, none⟩), .slice none 0 0, .pointer (some ⟨w.heap.size + 1 + 1, 0, none⟩), .int .i64 x, .int .i64 N, .slice (some ⟨w.heap.size + 1, 0, none⟩) 0 N, .int .i64 N, .bool false, undef, .func (.func g) #[] lb, .int .i64 x, undef, undef, undef, undef, undef, undef, undef, undef, undef], defers := [] }) ?assign ?body ?stop
  · rintro k W W' row ⟨h1, h2, h3, h4⟩ hg hr
    have e1 := h1.lt
    have e2 := h2.lt
    refine ⟨h1.kept hg (fun e => by have := hr _ e.symm; omega), h2.kept hg (fun e => by have := hr _ e.symm; omega), h3.kept hg (.inr (fun e => by have := hr (w.heap.size + 1) (by rw [← e]; rfl); omega)), h4.grown hg (by omega) (fun r e => by have := hr r e; omega)⟩
  · rintro c k W W' row ⟨h0, h00, h1, h2, h3, h4⟩ hg hr
    have e1 := h1.lt
    have e2 := h2.lt
    refine ⟨h0, h00, h1.kept hg (fun e => by have := hr _ e.symm; omega), h2.kept hg (fun e => by have := hr _ e.symm; omega), h3.kept hg (.inr (fun e => by have := hr (w.heap.size + 1) (by rw [← e]; rfl); omega)), h4.grown hg (by omega) (fun r e => by have := hr r e; omega)⟩
  case assign =>
    intro lp x W K hK
    gi_wp2
    exact hK
  case body =>
    rintro lp k W hk hsz hB1 ⟨h1, h2, h3, h4⟩
    have c1 := h1.cell
    have c2 := h2.cell
    obtain ⟨i0, hi, hz0, hz1, hz2⟩ := info_parts Try.intInfo
    by_cases hkN : k + 1 = N
    · have hq : ((k : Int) + 1 == (N : Int)) = true := by simp; omega
      have hkN' := hidi hkN
      clear hkN
      gi_wp2_with (gi_at_builtin; refine wpListIn_append_fits _ rfl (.tmp 14) (.tmp 16) 22 rfl w.heap.size 3 i0 1 Try.underlying22 hi hz1 (w.heap.size + 1) k N _ rfl (h3.alloc _) ⟨W.heap.size, 0, none⟩ 1 1 [.int .i64 (f k)] rfl rfl (cell_one_new _ _ _) (by simp [Value.oneCell']) (by omega) ?_; intro w4 hown4 hg4; have k1 := (h1.alloc (.cells #[.int .i64 (f k)] 3)).kept hg4 (by simp); have k2 := (h2.alloc (.cells #[.int .i64 (f k)] 3)).kept hg4 (by simp); have c3 := k2.cell; have y3 := k2.frozen; have k3 := k2.set (.slice (some ⟨w.heap.size + 1, 0, none⟩) (k + 1) N); have c4 := k3.cell; have k4 := k1.other (show w.heap.size ≠ w.heap.size + 1 + 1 by omega) (.slice (some ⟨w.heap.size + 1, 0, none⟩) (k + 1) N); have c5 := k4.cell)
      have hs4 := hg4.size
      simp only [World.size_alloc] at hs4
      have hB4 := (((Below.refl B W).alloc (by omega) (.cells #[.int .i64 (f k)] 3)).grown hg4 (by simp; omega) (fun r e => by cases e; omega)).setCell (p := ⟨w.heap.size + 1 + 1, 0, none⟩) (by show B ≤ w.heap.size + 1 + 1; omega) (.slice (some ⟨w.heap.size + 1, 0, none⟩) (k + 1) N)
      have hD4 := ((h4.alloc h4.size (.cells #[.int .i64 (f k)] 3)).grown hg4 (by have := h4.size; simp; omega) (fun r e => by cases e; omega)).setCell (p := ⟨w.heap.size + 1 + 1, 0, none⟩) (by show w.heap.size ≤ w.heap.size + 1 + 1; omega) (.slice (some ⟨w.heap.size + 1, 0, none⟩) (k + 1) N)
      have hW4 : InWin W0.heap.size (W0.heap.size + 2 + win) W (w4.setCell ⟨w.heap.size + 1 + 1, 0, none⟩ (.slice (some ⟨w.heap.size + 1, 0, none⟩) (k + 1) N)) :=
        ((InWin.of_grownBy (World.grownBy_alloc W (.cells #[.int .i64 (f k)] 3) none) hsz (fun r e => by cases e)).trans (InWin.of_grownBy hg4 (by simp; omega) (fun r e => by cases e; omega))).trans (InWin.of_grownBy (grownBy_setCell' w4 (w.heap.size + 1 + 1) _) (by omega) (fun r e => by cases e; omega))
      have hown5 := hown4.kept (grownBy_setCell' w4 (w.heap.size + 1 + 1) (.slice (some ⟨w.heap.size + 1, 0, none⟩) (k + 1) N)) (.inr (by simp [Value.ownBlock]))
      have hL : firstL f (k + 1) = firstL f k ++ [f k] := by unfold firstL; rw [List.range_succ, List.map_append]; rfl
      have hkN := hkN'.out
      refine ⟨hW4, rfl, hkN, k4, ?_, ?_, hD4⟩
      · rw [show (Value.slice (some ⟨w.heap.size + 1, 0, none⟩) N N) = .slice (some ⟨w.heap.size + 1, 0, none⟩) (k + 1) N by rw [hkN]]; exact k3
      · rw [show firstL f N = firstL f k ++ [f k] by rw [← hL, hkN], List.map_append, show (Value.slice (some ⟨w.heap.size + 1, 0, none⟩) N N) = .slice (some ⟨w.heap.size + 1, 0, none⟩) (k + 1) N by rw [hkN]]
        have hown6 := hown5
        rw [hkN] at hown6 ⊢
        exact hown6
    · have hq : ((k : Int) + 1 == (N : Int)) = false := beq_eq_false_iff_ne.2 (by omega)
      gi_wp2_with (gi_at_builtin; refine wpListIn_append_fits _ rfl (.tmp 14) (.tmp 16) 22 rfl w.heap.size 3 i0 1 Try.underlying22 hi hz1 (w.heap.size + 1) k N _ rfl (h3.alloc _) ⟨W.heap.size, 0, none⟩ 1 1 [.int .i64 (f k)] rfl rfl (cell_one_new _ _ _) (by simp [Value.oneCell']) (by omega) ?_; intro w4 hown4 hg4; have k1 := (h1.alloc (.cells #[.int .i64 (f k)] 3)).kept hg4 (by simp); have k2 := (h2.alloc (.cells #[.int .i64 (f k)] 3)).kept hg4 (by simp); have c3 := k2.cell; have y3 := k2.frozen; have k3 := k2.set (.slice (some ⟨w.heap.size + 1, 0, none⟩) (k + 1) N); have c4 := k3.cell; have k4 := k1.other (show w.heap.size ≠ w.heap.size + 1 + 1 by omega) (.slice (some ⟨w.heap.size + 1, 0, none⟩) (k + 1) N); have c5 := k4.cell)
      have hs4 := hg4.size
      simp only [World.size_alloc] at hs4
      have hB4 := (((Below.refl B W).alloc (by omega) (.cells #[.int .i64 (f k)] 3)).grown hg4 (by simp; omega) (fun r e => by cases e; omega)).setCell (p := ⟨w.heap.size + 1 + 1, 0, none⟩) (by show B ≤ w.heap.size + 1 + 1; omega) (.slice (some ⟨w.heap.size + 1, 0, none⟩) (k + 1) N)
      have hD4 := ((h4.alloc h4.size (.cells #[.int .i64 (f k)] 3)).grown hg4 (by have := h4.size; simp; omega) (fun r e => by cases e; omega)).setCell (p := ⟨w.heap.size + 1 + 1, 0, none⟩) (by show w.heap.size ≤ w.heap.size + 1 + 1; omega) (.slice (some ⟨w.heap.size + 1, 0, none⟩) (k + 1) N)
      have hW4 : InWin W0.heap.size (W0.heap.size + 2 + win) W (w4.setCell ⟨w.heap.size + 1 + 1, 0, none⟩ (.slice (some ⟨w.heap.size + 1, 0, none⟩) (k + 1) N)) :=
        ((InWin.of_grownBy (World.grownBy_alloc W (.cells #[.int .i64 (f k)] 3) none) hsz (fun r e => by cases e)).trans (InWin.of_grownBy hg4 (by simp; omega) (fun r e => by cases e; omega))).trans (InWin.of_grownBy (grownBy_setCell' w4 (w.heap.size + 1 + 1) _) (by omega) (fun r e => by cases e; omega))
      have hown5 := hown4.kept (grownBy_setCell' w4 (w.heap.size + 1 + 1) (.slice (some ⟨w.heap.size + 1, 0, none⟩) (k + 1) N)) (.inr (by simp [Value.ownBlock]))
      have hL : firstL f (k + 1) = firstL f k ++ [f k] := by unfold firstL; rw [List.range_succ, List.map_append]; rfl
      exact ⟨hW4, hB4, by omega, k4, k3, by rw [hL, List.map_append]; exact hown5, hD4⟩
  case stop =>
    rintro c k W ⟨rfl, hkN, h1, h2, h3, h4⟩ hK
    have c2 := h2.cell
    gi_wp2
    refine ⟨by simp, .inl ⟨_, _, rfl, run_takeDeferred hK, ?_⟩⟩
    have hgr := grownBy_putObj' W W0.heap.size (.deferred none)
    have hown := h3.kept hgr (.inr (by simp [Value.ownBlock]; omega))
    refine ⟨_, results_tmp rfl _ _ _, _, rfl, ⟨ints_of_owns hown (by simp [firstL]) (fun x hx => ?_), fun g e => by simp [Value.ownBlock] at e; omega⟩, h4.grown hgr h4.size (fun r e => by cases e; omega)⟩
    obtain ⟨i, _, rfl⟩ := List.mem_map.1 hx
    exact hf i

end Go.Proofs.Ytcbddplgleeiiaa
