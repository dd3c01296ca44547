/-
  Contracts of package word's reader, of the function that it hands back, and of letters.
-/
import Derived.Test.YtcbddplgleeiiaaWdJ
namespace Go.Proofs.Ytcbddplgleeiiaa
open Go.RowKit

theorem letAt_drop1 {xs l : List Int} (h : 0 < xs.length) (i : Nat) : letAt (xs.drop 1) l i = letAt xs l (i + 1) := by
  unfold letAt
  by_cases h1 : i + 1 < xs.length
  · rw [if_pos (by simp; omega), if_pos h1]
    simp [List.getD_eq_getElem?_getD]
  · rw [if_neg (by simp; omega), if_neg h1, List.length_drop, show i - (xs.length - 1) = i + 1 - xs.length by omega]

theorem letAt_self (l : List Int) (i : Nat) : letAt l l i = letAt [] l i := by
  unfold letAt
  by_cases h : i < l.length
  · simp [h, Nat.mod_eq_of_lt h]
  · rw [if_neg h]
    simp only [List.length_nil, Nat.not_lt_zero, if_false, Nat.sub_zero]
    rw [← Nat.mod_eq_sub_mod (show i ≥ l.length by omega)]

/-- a reader's two blocks: the lasso's box, and the cell of the rest; f: the letters that are to come -/
def RdAt (B : Nat) (W : World) (H : Nat) (l : List Int) (f : Nat → Int) : Prop :=
  ∃ u t rv rest, W.heap[H]? = some (.cells #[u, t] 24 (0, 0)) ∧ IntsAt B W t l ∧ Boxed W (H + 1) 22 rv ∧ IntsAt B W rv rest ∧ ∀ i, letAt rest l i = f i

theorem RdAt.keep {B H : Nat} {W W' : World} {l : List Int} {f : Nat → Int} (h : RdAt B W H l f) (hB : Below B W W') (h0 : W'.heap[H]? = W.heap[H]?) (h1 : W'.heap[H + 1]? = W.heap[H + 1]?) : RdAt B W' H l f := by
  obtain ⟨u, t, rv, rest, a, b, c, d, e⟩ := h
  exact ⟨u, t, rv, rest, h0.trans a, b.below hB (Nat.le_refl _), h1.trans c, d.below hB (Nat.le_refl _), e⟩
theorem RdAt.lt {B H : Nat} {W : World} {l : List Int} {f : Nat → Int} (h : RdAt B W H l f) : H + 1 < W.heap.size := by
  obtain ⟨u, t, rv, rest, a, b, c, d, e⟩ := h
  exact c.lt
theorem RdAt.win {B H lo hi : Nat} {W W' : World} {l : List Int} {f : Nat → Int} (h : RdAt B W H l f) (hB : Below B W W') (hw : InWin lo hi W W') (h1 : lo ≤ H) (h2 : H + 1 < hi) : RdAt B W' H l f :=
  h.keep hB (hw.same _ h1 (by omega)) (hw.same _ (by omega) h2)
theorem RdAt.grown {B H : Nat} {W W' : World} {row : Option Nat} {l : List Int} {f : Nat → Int} (h : RdAt B W H l f) (hg : W.grownBy W' row) (hB : B ≤ H) (hr : ∀ r, row = some r → B ≤ r ∧ r ≠ H ∧ r ≠ H + 1) : RdAt B W' H l f := by
  have hl := h.lt
  refine h.keep ((Below.refl B W).grown hg (by omega) (fun r e => (hr r e).1)) (hg.block _ (by omega) (fun e => (hr _ e.symm).2.1 rfl)) (hg.block _ hl (fun e => (hr _ e.symm).2.2 rfl))

theorem IntsAt.far {B : Nat} {w : World} {v : Value} {xs : List Int} (h : IntsAt B w v xs) : ∀ g, v.ownBlock = some g → g < B ∨ xs = [] := by
  intro g e
  rcases h with ⟨o, c, rfl, rfl⟩ | ⟨b, off, cap, rfl, h1, _⟩
  · exact .inr rfl
  · simp [Value.ownBlock] at e; exact .inl (by omega)
theorem IntsAt.setAt {B : Nat} {w : World} {v : Value} {xs : List Int} (h : IntsAt B w v xs) (H : Nat) (hB : B ≤ H) (u : Value) : IntsAt B (w.setCell ⟨H, 0, none⟩ u) v xs := by
  rcases id h with ⟨o, c, rfl, rfl⟩ | ⟨b, off, cap, rfl, h1, _⟩
  · exact .inl ⟨o, c, rfl, rfl⟩
  · exact h.setCell _ (fun g e => by simp [Value.ownBlock] at e; show g ≠ H; omega) u

theorem first_cut (b off c : Nat) : (if c = 1 then some (⟨b, off, none⟩ : Addr) else (some ⟨b, off, none⟩ : Option Addr).map fun a => a.add 1) = if c = 1 then some ⟨b, off, none⟩ else some ⟨b, off + 1, none⟩ := by
  simp [Addr.add_lit]

set_option maxRecDepth 100000 in
set_option maxHeartbeats 1000000 in
theorem next_any (B H : Nat) (l : List Int) (f : Nat → Int) (w : World) (h : RdAt B w H l f) (hl : 0 < l.length) (hB : B ≤ H) :
    Calls Try.prog 57 #[.pointer (some ⟨H + 1, 0, none⟩), .pointer (some ⟨H, 0, none⟩)] w fun e w' => e = .returned (.int .i64 (f 0)) ∧ RdAt B w' H l (fun i => f (i + 1)) ∧ w.grownBy w' (some (H + 1)) ∧ w'.heap.size = w.heap.size := by
  obtain ⟨u, t, rv, rest, a, ht, hr, hI, he⟩ := h
  obtain ⟨o, c, rfl⟩ := hI.shape
  have c0 := hr.cell
  have y0 := hr.frozen
  by_cases h0 : 0 < rest.length
  · obtain ⟨b, off, rfl, hb, hlc, hcm, hc⟩ := hI.at h0
    have d := (hc 0 h0).1
    rw [Nat.add_zero] at d
    have g0 : (0 : Int) < (rest.length : Int) := by omega
    have g1 : (1 : Int) ≤ (rest.length : Int) := by omega
    have g2 : ¬ rest = [] := by rintro rfl; simp at h0
    have g3 : ¬ rest.length = 0 := by omega
    have hf0 : Hid (f 0 = rest[0]) := by unfold Hid; rw [← he 0]; unfold letAt; rw [if_pos h0]; simp [h0]
    obtain ⟨O2, hO2⟩ : ∃ O2, (if c = 1 then some (⟨b, off, none⟩ : Addr) else some ⟨b, off + 1, none⟩) = O2 := ⟨_, rfl⟩
    have I1 := slice_drop hI 1 h0
    rw [first_cut, hO2] at I1
    have I1' := hidi I1
    have hc' := hidi hc
    clear I1 hc
    go_enter Try.func57, Try.ntmps57
    go_wp2
    go_ret
    refine ⟨ret_int hf0.out.symm, ⟨u, t, _, rest.drop 1, ?_, ht.setAt _ (by omega) _, hr.set _, I1'.out.setAt _ (by omega) _, fun i => ?_⟩, grownBy_setCell' _ _ _, by simp only [World.setCell, Array.size_modify]⟩
    · exact (Below.heap_setCell _ _ _ _ (by simp)).trans a
    · rw [letAt_drop1 h0, he]
  · have hnil : rest = [] := List.eq_nil_of_length_eq_zero (by omega)
    subst hnil
    obtain ⟨o2, c2, rfl⟩ := ht.shape
    obtain ⟨b, off, rfl, hb, hlc, hcm, hc⟩ := ht.at hl
    have a1 : w.cell? ⟨H, 1, none⟩ = some (.slice (some ⟨b, off, none⟩) l.length c2) := cell_of_row w H 1 _ _ _ a
    have d : (w.setCell ⟨H + 1, 0, none⟩ (.slice (some ⟨b, off, none⟩) l.length c2)).cell? ⟨b, off, none⟩ = some (.int .i64 l[0]) := by
      have := (hc 0 hl).1
      rw [Nat.add_zero] at this
      rw [← this]
      exact cell_set_other (by omega) _
    have hr2 := hr.set (.slice (some ⟨b, off, none⟩) l.length c2)
    have c1 := hr2.cell
    have y1 := hr2.frozen
    have g0 : (0 : Int) < (l.length : Int) := by omega
    have g1 : (1 : Int) ≤ (l.length : Int) := by omega
    have g2 : ¬ l = [] := by rintro rfl; simp at hl
    have g3 : ¬ l.length = 0 := by omega
    have hf0 : Hid (f 0 = l[0]) := by unfold Hid; rw [← he 0, ← letAt_self]; unfold letAt; rw [if_pos hl]; simp [hl]
    obtain ⟨O2, hO2⟩ : ∃ O2, (if c2 = 1 then some (⟨b, off, none⟩ : Addr) else some ⟨b, off + 1, none⟩) = O2 := ⟨_, rfl⟩
    have I1 := slice_drop ht 1 hl
    rw [first_cut, hO2] at I1
    have I1' := hidi I1
    have hc' := hidi hc
    have hr2' := hidi hr2
    clear I1 hc hr2
    simp only [List.length_nil] at c0
    go_enter Try.func57, Try.ntmps57
    go_wp2
    go_ret
    refine ⟨ret_int hf0.out.symm, ⟨u, _, _, l.drop 1, ?_, (ht.setAt _ (by omega) _).setAt _ (by omega) _, hr2'.out.set _, (I1'.out.setAt _ (by omega) _).setAt _ (by omega) _, fun i => ?_⟩, ?_, by simp only [World.setCell, Array.size_modify]⟩
    · exact (Below.heap_setCell _ _ _ _ (by simp)).trans ((Below.heap_setCell _ _ _ _ (by simp)).trans a)
    · rw [letAt_drop1 hl, letAt_self, he]
    · have k1 := grownBy_setCell' w (H + 1) (.slice (some ⟨b, off, none⟩) l.length c2)
      have k2 := grownBy_setCell' (w.setCell ⟨H + 1, 0, none⟩ (.slice (some ⟨b, off, none⟩) l.length c2)) (H + 1) (.slice O2 (l.length - 1) (c2 - 1))
      exact ⟨k2.os.trans k1.os, k2.tape.trans k1.tape, k2.output.trans k1.output, Nat.le_trans k1.size k2.size, fun k hk hr => (k2.block k (Nat.lt_of_lt_of_le hk k1.size) hr).trans (k1.block k hk hr)⟩

set_option maxRecDepth 100000 in
set_option maxHeartbeats 1000000 in
theorem reader_any (B : Nat) (v : Value) (s l : List Int) (w : World) (hv : LasAt B w v s l) (hBw : B ≤ w.heap.size) :
    Calls Try.prog 50 #[v] w fun e w' => e = .returned (.func (.func 57) #[] #[.pointer (some ⟨w.heap.size + 1, 0, none⟩), .pointer (some ⟨w.heap.size, 0, none⟩)]) ∧ RdAt B w' w.heap.size l (letAt s l) ∧ Below w.heap.size w w' ∧ w'.heap.size = w.heap.size + 2 := by
  obtain ⟨o1, c1, o2, c2, rfl, h1, h2⟩ := hv.open
  have hA : Below w.heap.size w (w.alloc (.cells #[.slice o1 s.length c1, .slice o2 l.length c2] 24)) := (Below.refl _ _).alloc (Nat.le_refl _) _
  have hb : (w.alloc (.cells #[.slice o1 s.length c1, .slice o2 l.length c2] 24)).heap[w.heap.size]? = some (.cells #[.slice o1 s.length c1, .slice o2 l.length c2] 24 (0, 0)) := heap_alloc_new w _
  have q : (w.alloc (.cells #[.slice o1 s.length c1, .slice o2 l.length c2] 24)).heap.size = w.heap.size + 1 := by simp
  have hY : Below (w.heap.size + 1) (w.alloc (.cells #[.slice o1 s.length c1, .slice o2 l.length c2] 24)) ((w.alloc (.cells #[.slice o1 s.length c1, .slice o2 l.length c2] 24)).alloc (.cells #[.slice o1 s.length c1] 22)) := (Below.refl _ _).alloc (Nat.le_of_eq q.symm) _
  have hx := Boxed.new (w.alloc (.cells #[.slice o1 s.length c1, .slice o2 l.length c2] 24)) 22 (.slice o1 s.length c1)
  rw [q] at hx
  have hx' := hidi hx
  have hb' := hidi hb
  have hB2 := hA.alloc hA.size (.cells #[.slice o1 s.length c1] 22)
  clear hb hx q
  go_enter Try.func50, Try.ntmps50
  go_wp2
  go_ret
  exact ⟨rfl, ⟨_, _, _, s, (hY.block _ (Nat.lt_succ_self _)).trans hb'.out, h2.below hB2 hBw, hx'.out, h1.below hB2 hBw, fun i => rfl⟩, hB2, by simp⟩

set_option maxHeartbeats 1000000 in
theorem letters_any (v : Value) (w : World) (u t : Value) (hv : v = .agg #[u, t]) :
    Calls Try.prog 38 #[v] w fun e w' => e = .returned (.func (.func 49) #[] #[.pointer (some ⟨w.heap.size, 0, none⟩)]) ∧ w' = w.alloc (.cells #[u, t] 24) := by
  subst hv
  go_enter Try.func38, Try.ntmps38
  go_wp2
  go_ret
  exact ⟨rfl, rfl⟩

set_option maxHeartbeats 1000000 in
theorem zipped_any (v v' tv : Value) (w : World) (u t u' t' : Value) (o : Option Addr) (n c : Nat) (hv : v = .agg #[u, t]) (hv' : v' = .agg #[u', t']) (ht : tv = .slice o n c) :
    Calls Try.prog 48 #[v, v', tv] w fun e w' => e = .returned (.func (.func 55) #[] #[.pointer (some ⟨w.heap.size + 1, 0, none⟩), .pointer (some ⟨w.heap.size, 0, none⟩), .pointer (some ⟨w.heap.size + 2, 0, none⟩)]) ∧
      w' = ((w.alloc (.cells #[u, t] 24)).alloc (.cells #[u', t'] 24)).alloc (.cells #[tv] 25) := by
  subst hv hv' ht
  go_enter Try.func48, Try.ntmps48
  go_wp2
  go_ret
  exact ⟨rfl, rfl⟩

end Go.Proofs.Ytcbddplgleeiiaa
