/-
  A lasso stored cell by cell, and read as a result.
-/
import Derived.Test.YtcbddplgleeiiaaWordM
namespace Go.Proofs.Ytcbddplgleeiiaa
open Go.RowKit

theorem set2 (W : World) (g : Nat) (a b u t : Value) (ty : TypeId) (h : W.heap[g]? = some (.cells #[a, b] ty)) : ((W.setCell ⟨g, 0, none⟩ u).setCell ⟨g, 1, none⟩ t).heap[g]? = some (.cells #[u, t] ty) := by
  simp only [World.setCell, Array.getElem?_modify]
  simp [h]

theorem IntsAt.setCell {B : Nat} {w : World} {v : Value} {xs : List Int} (h : IntsAt B w v xs) (p : Addr) (hp : ∀ g, v.ownBlock = some g → g ≠ p.block) (u : Value) : IntsAt B (w.setCell p u) v xs := by
  rcases h with h | ⟨b, off, cap, rfl, h1, h2, h3, h4⟩
  · exact .inl h
  · refine .inr ⟨b, off, cap, rfl, h1, h2, h3, fun k hk => ⟨?_, (h4 k hk).2⟩⟩
    have := hp b rfl
    rw [← (h4 k hk).1]
    exact World.cell?_of_block (Below.heap_setCell _ _ _ _ (by simpa using this))

/-- the world of a function that takes a lasso and hands one back, at its beginning -/
theorem las_open (w : World) (u t : Value) : ∃ W0, Hid ((w.alloc (.cells #[u, t] 24)).alloc (.cells #[.slice none 0 0, .slice none 0 0] 24) = W0) ∧ Below w.heap.size w W0 ∧ Hid (W0.heap.size = w.heap.size + 2) ∧
    Hid (W0.cell? ⟨w.heap.size, 0, none⟩ = some u) ∧ Hid (W0.cell? ⟨w.heap.size, 1, none⟩ = some t) ∧ Hid (W0.heap[w.heap.size + 1]? = some (.cells #[.slice none 0 0, .slice none 0 0] 24)) := by
  have hX : Below w.heap.size w (w.alloc (.cells #[u, t] 24)) := (Below.refl _ _).alloc (Nat.le_refl _) _
  have hY := ((Below.refl _ (w.alloc (.cells #[u, t] 24))).alloc (Nat.le_refl _) (.cells #[.slice none 0 0, .slice none 0 0] 24))
  refine ⟨_, rfl, hX.alloc hX.size _, by unfold Hid; simp, ?_, ?_, ?_⟩
  · exact (hY.cell (p := ⟨w.heap.size, 0, none⟩) (box_lt w _)).trans (box0 w _ _ _)
  · exact (hY.cell (p := ⟨w.heap.size, 1, none⟩) (box_lt w _)).trans (box1 w _ _ _)
  · have := heap_alloc_new (w.alloc (.cells #[u, t] 24)) (.cells #[.slice none 0 0, .slice none 0 0] 24)
    rw [show (w.alloc (.cells #[u, t] 24)).heap.size = w.heap.size + 1 by simp] at this
    exact this

/-- a lasso whose slices lie in blocks from W on -/
structure NewLas (W : Nat) (w : World) (r : Value) (s l : List Int) : Prop where
  ex : ∃ u t, r = .agg #[u, t] ∧ IntsAt w.heap.size w u s ∧ IntsAt w.heap.size w t l ∧ (∀ g, u.ownBlock = some g → W ≤ g) ∧ (∀ g, t.ownBlock = some g → W ≤ g)

theorem NewLas.las {W : Nat} {w : World} {r : Value} {s l : List Int} (h : NewLas W w r s l) : LasAt w.heap.size w r s l := by
  obtain ⟨u, t, e, h1, h2, _⟩ := h.ex
  exact ⟨u, t, e, h1, h2⟩

/-- the result's cells are written: what was read is read, and the result is new -/
theorem las_end {w wr : World} (hAB : Below w.heap.size w wr) {st lp : List Int} {v5 v4 : Value} (J5 : IntsAt wr.heap.size wr v5 st) (J4 : IntsAt wr.heap.size wr v4 lp)
    (far5 : ∀ g, v5.ownBlock = some g → w.heap.size + 2 ≤ g) (far4 : ∀ g, v4.ownBlock = some g → w.heap.size + 2 ≤ g) (u t : Value) :
    NewLas w.heap.size ((wr.setCell ⟨w.heap.size + 1, 0, none⟩ u).setCell ⟨w.heap.size + 1, 1, none⟩ t) (.agg #[v5, v4]) st lp ∧
      Below w.heap.size w ((wr.setCell ⟨w.heap.size + 1, 0, none⟩ u).setCell ⟨w.heap.size + 1, 1, none⟩ t) := by
  have hs : ((wr.setCell ⟨w.heap.size + 1, 0, none⟩ u).setCell ⟨w.heap.size + 1, 1, none⟩ t).heap.size = wr.heap.size := by
    simp only [World.setCell, Array.size_modify]
  have f5 : ∀ g, v5.ownBlock = some g → g ≠ w.heap.size + 1 := fun g e => by have := far5 g e; omega
  have f4 : ∀ g, v4.ownBlock = some g → g ≠ w.heap.size + 1 := fun g e => by have := far4 g e; omega
  refine ⟨⟨⟨v5, v4, rfl, ?_, ?_, fun g e => by have := far5 g e; omega, fun g e => by have := far4 g e; omega⟩⟩, ?_⟩
  · rw [hs]; exact (J5.setCell _ f5 _).setCell _ f5 _
  · rw [hs]; exact (J4.setCell _ f4 _).setCell _ f4 _
  · exact (hAB.setCell (p := ⟨w.heap.size + 1, 0, none⟩) (Nat.le_succ _) _).setCell (p := ⟨w.heap.size + 1, 1, none⟩) (Nat.le_succ _) _

theorem short_end {w wr : World} (hAB : Below w.heap.size w wr) (q : Nat) {st lp : List Int} {v5 v4 : Value} (J5 : IntsAt wr.heap.size wr v5 st) (J4 : IntsAt wr.heap.size wr v4 lp)
    (far5 : ∀ g, v5.ownBlock = some g → w.heap.size + 2 ≤ g) (far4 : ∀ g, v4.ownBlock = some g → w.heap.size + 2 ≤ g) (u t : Value) :
    NewLas w.heap.size (((wr.drewN q).setCell ⟨w.heap.size + 1, 0, none⟩ u).setCell ⟨w.heap.size + 1, 1, none⟩ t) (.agg #[v5, v4]) st lp ∧
      Below w.heap.size w (((wr.drewN q).setCell ⟨w.heap.size + 1, 0, none⟩ u).setCell ⟨w.heap.size + 1, 1, none⟩ t) := by
  have hD : Below wr.heap.size wr (wr.drewN q) := below_drewN (Below.refl _ _) q
  exact las_end (below_drewN hAB q) ((J5.below hD (Nat.le_refl _)).mono hD.size) ((J4.below hD (Nat.le_refl _)).mono hD.size) far5 far4 u t

theorem strip_stop {st lp : List Int} {m n : Nat} (hm : st.length = m + 1) (hn : lp.length = n + 1) (hne : st.getD m 0 ≠ lp.getD n 0) : strip st.reverse lp = (st, lp) := by
  obtain ⟨r, x, rfl⟩ : ∃ r x, st = r ++ [x] := ⟨st.dropLast, st.getLast (by intro h; simp [h] at hm), (List.dropLast_concat_getLast _).symm⟩
  have hr : r.length = m := by simpa using hm
  subst hr
  rw [List.reverse_append, List.reverse_singleton, List.singleton_append]
  unfold strip
  rw [if_neg]
  · simp
  · rw [show lp.length - 1 = n by omega]
    simpa using hne

theorem strip_go {st lp : List Int} {m n : Nat} (hm : st.length = m + 1) (hn : lp.length = n + 1) (he : st.getD m 0 = lp.getD n 0) : strip st.reverse lp = strip (st.take m).reverse (lp.getD n 0 :: lp.take n) := by
  obtain ⟨r, x, rfl⟩ : ∃ r x, st = r ++ [x] := ⟨st.dropLast, st.getLast (by intro h; simp [h] at hm), (List.dropLast_concat_getLast _).symm⟩
  have hr : r.length = m := by simpa using hm
  subst hr
  have hx : x = lp.getD n 0 := by simpa using he
  rw [List.reverse_append, List.reverse_singleton, List.singleton_append]
  conv => lhs; unfold strip
  rw [if_pos (by rw [show lp.length - 1 = n by omega]; exact hx)]
  unfold turn
  rw [show lp.length - 1 = n by omega, ← hx]
  simp

/-- a row of one number that was made just now -/
theorem own_one (W : World) (base : Nat) (hb : base ≤ W.heap.size) (x : Int) : (W.alloc (.cells #[.int .i64 x] 3)).ownsRow base 3 1 (.slice (some ⟨W.heap.size, 0, none⟩) 1 1) 1 [.int .i64 x] :=
  ⟨rfl, .inr ⟨W.heap.size, 1, #[.int .i64 x], rfl, hb, heap_alloc_new W _, Nat.le_refl _, by decide, rfl, rfl⟩⟩

end Go.Proofs.Ytcbddplgleeiiaa
