/-
  The contract of Lex: the tokens of a text, or its first error.
-/
import Derived.Test.YtplahgcbeanfnaaLxI
namespace Go.Proofs.Ytplahgcbeanfnaa
open Go.RowKit

/-- a slice value reads, in blocks below B, as a list of tokens -/
def Toks (B : Nat) (w : World) (v : Value) (l : List Tok) : Prop :=
  (∃ o c, v = .slice o 0 c ∧ l = []) ∨ ∃ b cap, v = .slice (some ⟨b, 0, none⟩) l.length cap ∧ b < B ∧ l.length ≤ cap ∧ cap ≤ 9223372036854775807 ∧
    ∀ k (h : k < l.length), w.cell? ⟨b, k * 3, none⟩ = some (.int .i64 l[k].kind) ∧ w.cell? ⟨b, k * 3 + 1, none⟩ = some (.string ⟨l[k].text.toArray⟩) ∧ w.cell? ⟨b, k * 3 + 2, none⟩ = some (.int .i64 l[k].pos)

theorem Toks.below {B B' : Nat} {w w' : World} {v : Value} {l : List Tok} (h : Toks B w v l) (hB : Below B' w w') (hb : B ≤ B') : Toks B w' v l := by
  rcases h with h | ⟨b, cap, hv, h1, h2, h3, h4⟩
  · exact .inl h
  · refine .inr ⟨b, cap, hv, h1, h2, h3, fun k hk => ?_⟩
    obtain ⟨q1, q2, q3⟩ := h4 k hk
    exact ⟨(hB.cell (p := ⟨b, k * 3, none⟩) (by show b < _; omega)).trans q1, (hB.cell (p := ⟨b, k * 3 + 1, none⟩) (by show b < _; omega)).trans q2, (hB.cell (p := ⟨b, k * 3 + 2, none⟩) (by show b < _; omega)).trans q3⟩
theorem Toks.mono {B B' : Nat} {w : World} {v : Value} {l : List Tok} (h : Toks B w v l) (hb : B ≤ B') : Toks B' w v l := by
  rcases h with h | ⟨b, cap, hv, h1, h2, h3, h4⟩
  · exact .inl h
  · exact .inr ⟨b, cap, hv, by omega, h2, h3, h4⟩
theorem Toks.shape {B : Nat} {w : World} {v : Value} {l : List Tok} (h : Toks B w v l) : ∃ o c, v = .slice o l.length c := by
  rcases h with ⟨o, c, rfl, rfl⟩ | ⟨b, cap, hv, _⟩
  · exact ⟨_, _, rfl⟩
  · exact ⟨_, _, hv⟩
theorem tokCells_at (l : List Tok) (k : Nat) (h : k < l.length) : (tokCells l)[k * 3]? = some (.int .i64 l[k].kind) ∧ (tokCells l)[k * 3 + 1]? = some (.string ⟨l[k].text.toArray⟩) ∧ (tokCells l)[k * 3 + 2]? = some (.int .i64 l[k].pos) := by
  induction l generalizing k with
  | nil => simp at h
  | cons t r ih =>
    have e : tokCells (t :: r) = .int .i64 t.kind :: .string ⟨t.text.toArray⟩ :: .int .i64 t.pos :: tokCells r := rfl
    rw [e]
    cases k with
    | zero => exact ⟨rfl, rfl, rfl⟩
    | succ k =>
      have := ih k (by simpa using h)
      rw [show (k + 1) * 3 = k * 3 + 1 + 1 + 1 by omega]
      exact this
theorem toks_of_owns {w : World} {base : Nat} {v : Value} {l : List Tok} (h : w.ownsRow base 28 3 v l.length (tokCells l)) : Toks w.heap.size w v l := by
  have h0 := h
  rcases h.2 with ⟨rfl, h1⟩ | ⟨g, cap, cur, rfl, hbg, hg, hle, hcap, _⟩
  · exact .inl ⟨_, _, rfl, List.length_eq_zero_iff.1 h1⟩
  · refine .inr ⟨g, cap, rfl, (Array.getElem?_eq_some_iff.1 hg).1, hle, by unfold maxLen at hcap; omega, fun k hk => ?_⟩
    obtain ⟨q1, q2, q3⟩ := tokCells_at l k hk
    have a1 := h0.cells rfl _ _ q1
    have a2 := h0.cells rfl _ _ q2
    have a3 := h0.cells rfl _ _ q3
    rw [Addr.add_lit, Nat.zero_add] at a1 a2 a3
    exact ⟨a1, a2, a3⟩

/-- what Lex hands back -/
def LexPost (s : ByteArray) (w : World) (e : Ending) (w' : World) : Prop :=
  Below w.heap.size w w' ∧ (((lexL s.data.toList).2 = none ∧ ∃ r, e = .returned (.tuple #[r, .int .i64 0, .int .i64 (-1)]) ∧ Toks w'.heap.size w' r (lexL s.data.toList).1) ∨
  (∃ k p, (lexL s.data.toList).2 = some (k, p) ∧ e = .returned (.tuple #[.slice none 0 0, .int .i64 k, .int .i64 p])))

theorem lex_open (w : World) (v2 v3 v4 : Value) (t2 t3 t4 : TypeId) : ∃ W0, Hid (((w.alloc (.cells #[v2] t2)).alloc (.cells #[v3] t3)).alloc (.cells #[v4] t4) = W0) ∧ Below w.heap.size w W0 ∧ W0.heap.size = w.heap.size + 3 ∧
    (W0.cell? ⟨w.heap.size, 0, none⟩ = some v2 ∧ W0.cell? ⟨w.heap.size + 1, 0, none⟩ = some v3 ∧ W0.cell? ⟨w.heap.size + 2, 0, none⟩ = some v4) ∧
    W0.frozen? ⟨w.heap.size, 0, none⟩ = false ∧ W0.frozen? ⟨w.heap.size + 1, 0, none⟩ = false ∧ W0.frozen? ⟨w.heap.size + 2, 0, none⟩ = false := by
  have q1 : (w.alloc (.cells #[v2] t2)).heap.size = w.heap.size + 1 := by simp
  have q2 : ((w.alloc (.cells #[v2] t2)).alloc (.cells #[v3] t3)).heap.size = w.heap.size + 2 := by simp
  have b2 := (Below.refl (w.alloc (.cells #[v2] t2)).heap.size (w.alloc (.cells #[v2] t2))).alloc (Nat.le_refl _) (.cells #[v3] t3)
  have b3 := b2.alloc b2.size (.cells #[v4] t4)
  have c3 := (Below.refl ((w.alloc (.cells #[v2] t2)).alloc (.cells #[v3] t3)).heap.size ((w.alloc (.cells #[v2] t2)).alloc (.cells #[v3] t3))).alloc (Nat.le_refl _) (.cells #[v4] t4)
  have h2 := (b3.block _ (by rw [q1]; omega)).trans (heap_alloc_new w (.cells #[v2] t2))
  have h3 := (c3.block _ (by rw [q2, q1]; omega)).trans (heap_alloc_new (w.alloc (.cells #[v2] t2)) (.cells #[v3] t3))
  have h4 := heap_alloc_new ((w.alloc (.cells #[v2] t2)).alloc (.cells #[v3] t3)) (.cells #[v4] t4)
  rw [q1] at h3
  rw [q2] at h4
  exact ⟨_, rfl, (((Below.refl _ _).alloc (Nat.le_refl _) _).alloc (by simp) _).alloc (by simp; omega) _, by simp,
    ⟨cell_of_row _ _ 0 _ _ _ h2, cell_of_row _ _ 0 _ _ _ h3, cell_of_row _ _ 0 _ _ _ h4⟩, by simp only [World.frozen?, h2]; rfl, by simp only [World.frozen?, h3]; rfl, by simp only [World.frozen?, h4]; rfl⟩

set_option maxRecDepth 100000 in
set_option maxHeartbeats 1600000 in
theorem lex_any (s : ByteArray) (hs : s.size ≤ 6000) (w : World) :
    Calls Try.prog 9 #[.string s] w (LexPost s w) := by
  have hmf : ∀ (fn : Fn) (first cap : Array Value) (w : World), (Instr.makeFunc fn first cap).run Try.prog w = .ok (.func fn first cap) w := fun _ _ _ _ => rfl
  have hL : Hid (lexL s.data.toList = lexT s.data.toList) := by
    unfold Hid lexL
    rw [if_neg (by have : s.data.toList.length = s.size := rfl; omega)]
  obtain ⟨W0, hW0, hB0, hz0, ⟨c2, c3, c4⟩, f2, f3, f4⟩ := lex_open w (.slice none 0 0) (.int .i64 0) (.int .i64 0) 23 24 3
  have hz0' := hidi hz0
  clear hz0
  go_enter_defers Try.func9, Try.ntmps9
  go_wp2_with fail
  rw [hW0.out]
  refine (scan_any s hs _).mono ?_
  rintro e w1 hP
  have hb : Below W0.heap.size W0 w1 := by rcases hP with ⟨_, _, h⟩ | ⟨_, _, _, _, h⟩ <;> exact h
  have hz := hz0'.out
  have hz1 := hb.size
  have d2 := (hb.cell (p := ⟨w.heap.size, 0, none⟩) (by show w.heap.size < _; omega)).trans c2
  have d3 := (hb.cell (p := ⟨w.heap.size + 1, 0, none⟩) (by show w.heap.size + 1 < _; omega)).trans c3
  have d4 := (hb.cell (p := ⟨w.heap.size + 1 + 1, 0, none⟩) (by show w.heap.size + 1 + 1 < _; omega)).trans c4
  have g2 := (hb.frozen (p := ⟨w.heap.size, 0, none⟩) (by show w.heap.size < _; omega)).trans f2
  have g3 := (hb.frozen (p := ⟨w.heap.size + 1, 0, none⟩) (by show w.heap.size + 1 < _; omega)).trans f3
  have g4 := (hb.frozen (p := ⟨w.heap.size + 1 + 1, 0, none⟩) (by show w.heap.size + 1 + 1 < _; omega)).trans f4
  have hz2 : w.heap.size + 3 ≤ w1.heap.size := by omega
  clear hz hz1 c2 c3 c4 f2 f3 f4
  rcases hP with ⟨h0, ⟨r, rfl, hown⟩, -⟩ | ⟨k, p, h0, rfl, -⟩
  · obtain ⟨u0, uc, rfl⟩ := tok_shape hown
    have h0' := hidi h0
    clear h0
    go_wp2_with fail
    have o1 := ownsRow_setCell_below (a := ⟨w.heap.size, 0, none⟩) hown (by show w.heap.size < _; have := hz0'.out; omega) (.slice u0 (lexT s.data.toList).1.length uc)
    have o2 := ownsRow_setCell_below (a := ⟨w.heap.size + 1, 0, none⟩) o1 (by show w.heap.size + 1 < _; have := hz0'.out; omega) (.int .i64 0)
    have o3 := ownsRow_setCell_below (a := ⟨w.heap.size + 1 + 1, 0, none⟩) o2 (by show w.heap.size + 1 + 1 < _; have := hz0'.out; omega) (.int .i64 (-1))
    have x2 := (cso (o := 0) (o' := 0) (u := .int .i64 (-1)) (show w.heap.size ≠ w.heap.size + 1 + 1 by omega)).trans ((cso (o := 0) (o' := 0) (u := .int .i64 0) (show w.heap.size ≠ w.heap.size + 1 by omega)).trans (World.cell?_setCell_same w1 ⟨w.heap.size, 0, none⟩ (.slice u0 (lexT s.data.toList).1.length uc) d2))
    have x3 := (cso (o := 0) (o' := 0) (u := .int .i64 (-1)) (show w.heap.size + 1 ≠ w.heap.size + 1 + 1 by omega)).trans (World.cell?_setCell_same (w1.setCell ⟨w.heap.size, 0, none⟩ (.slice u0 (lexT s.data.toList).1.length uc)) ⟨w.heap.size + 1, 0, none⟩ (.int .i64 0) ((cso (by omega)).trans d3))
    have x4 := World.cell?_setCell_same ((w1.setCell ⟨w.heap.size, 0, none⟩ (.slice u0 (lexT s.data.toList).1.length uc)).setCell ⟨w.heap.size + 1, 0, none⟩ (.int .i64 0)) ⟨w.heap.size + 1 + 1, 0, none⟩ (.int .i64 (-1)) ((cso (by omega)).trans ((cso (by omega)).trans d4))
    have hBX := (((hB0.trans (hb.mono hB0.size)).setCell (p := ⟨w.heap.size, 0, none⟩) (Nat.le_refl _) (.slice u0 (lexT s.data.toList).1.length uc)).setCell (p := ⟨w.heap.size + 1, 0, none⟩) (Nat.le_succ _) (.int .i64 0)).setCell (p := ⟨w.heap.size + 1 + 1, 0, none⟩) (Nat.le_add_right _ 2) (.int .i64 (-1))
    have hzX : w.heap.size + 3 ≤ (((w1.setCell ⟨w.heap.size, 0, none⟩ (.slice u0 (lexT s.data.toList).1.length uc)).setCell ⟨w.heap.size + 1, 0, none⟩ (.int .i64 0)).setCell ⟨w.heap.size + 1 + 1, 0, none⟩ (.int .i64 (-1))).heap.size := by
      simp only [World.setCell, Array.size_modify]; exact hz2
    generalize ((w1.setCell ⟨w.heap.size, 0, none⟩ (.slice u0 (lexT s.data.toList).1.length uc)).setCell ⟨w.heap.size + 1, 0, none⟩ (.int .i64 0)).setCell ⟨w.heap.size + 1 + 1, 0, none⟩ (.int .i64 (-1)) = X at *
    refine leaves_cons (f := 15) (args := #[.pointer (some ⟨w.heap.size, 0, none⟩), .pointer (some ⟨w.heap.size + 1, 0, none⟩), .pointer (some ⟨w.heap.size + 2, 0, none⟩)]) (by simp) (by simp [go_sem]) ?_
    refine (catch_idle w.heap.size _).mono ?_
    rintro e u' w2 ⟨rfl, rfl, hb2⟩
    have y2 := (hb2.cell (p := ⟨w.heap.size, 0, none⟩) (by show w.heap.size < _; omega)).trans x2
    have y3 := (hb2.cell (p := ⟨w.heap.size + 1, 0, none⟩) (by show w.heap.size + 1 < _; omega)).trans x3
    have y4 := (hb2.cell (p := ⟨w.heap.size + 1 + 1, 0, none⟩) (by show w.heap.size + 1 + 1 < _; omega)).trans x4
    refine ⟨.tuple #[.slice u0 (lexT s.data.toList).1.length uc, .int .i64 0, .int .i64 (-1)], by simp [results, Try.results9, go_sem, y2, y3, y4], hBX.trans (hb2.mono hBX.size), ?_⟩
    rw [hL.out]
    exact .inl ⟨h0'.out, _, rfl, toks_of_owns (own_below o3 hb2)⟩
  · have h0' := hidi h0
    clear h0
    go_wp2_with fail
    refine leaves_cons (f := 15) (args := #[.pointer (some ⟨w.heap.size, 0, none⟩), .pointer (some ⟨w.heap.size + 1, 0, none⟩), .pointer (some ⟨w.heap.size + 2, 0, none⟩)]) (by simp) (by simp [go_sem]) ?_
    refine (catch_panicking w.heap.size k p _ _ _ _ hz2 d2 d3 d4 g2 g3 g4).mono ?_
    rintro e u' w2 ⟨rfl, rfl, y2, y3, y4, hb2⟩
    refine ⟨.tuple #[.slice none 0 0, .int .i64 k, .int .i64 p], by simp [results, Try.results9, go_sem, y2, y3, y4], (hB0.trans (hb.mono hB0.size)).trans hb2, ?_⟩
    rw [hL.out]
    exact .inr ⟨k, p, h0'.out, rfl⟩

end Go.Proofs.Ytplahgcbeanfnaa
