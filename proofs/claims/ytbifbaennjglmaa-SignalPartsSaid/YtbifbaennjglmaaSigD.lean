/-
  Contract of decompose: the values of a number, written into a slice that came in.
-/
import Derived.Test.YtbifbaennjglmaaSigC
import Derived.Test.YtbifbaennjglmaaKit
namespace Go.Proofs.Ytbifbaennjglmaa
open Go.RowKit Go.Shelf

attribute [local go_sem] Oper.semAt_some

/-- what lay below B lies as it lay, but for block x -/
structure BelowX (B x : Nat) (w w' : World) : Prop where
  os : w'.os = w.os
  tape : w'.tape = w.tape
  output : w'.output = w.output
  size : w.heap.size ≤ w'.heap.size
  block : ∀ k, k < B → k ≠ x → w'.heap[k]? = w.heap[k]?

theorem BelowX.of_below {B x : Nat} {w w' : World} (h : Below B w w') : BelowX B x w w' := ⟨h.os, h.tape, h.output, h.size, fun k hk _ => h.block k hk⟩
theorem BelowX.trans {B x : Nat} {a b c : World} (h : BelowX B x a b) (k : BelowX B x b c) : BelowX B x a c :=
  ⟨k.os.trans h.os, k.tape.trans h.tape, k.output.trans h.output, Nat.le_trans h.size k.size, fun i hi hx => (k.block i hi hx).trans (h.block i hi hx)⟩
theorem BelowX.setCell {B x : Nat} {w w' : World} (h : BelowX B x w w') {p : Addr} (hp : p.block = x ∨ B ≤ p.block) (v : Value) : BelowX B x w (w'.setCell p v) :=
  ⟨h.os, h.tape, h.output, by simpa [World.setCell] using h.size, fun k hk hx => (Below.heap_setCell _ _ _ _ (by rintro rfl; rcases hp with e | e; exact hx e; omega)).trans (h.block k hk hx)⟩
theorem BelowX.drew {B x : Nat} {w w' : World} (h : BelowX B x w w') : BelowX B x w w'.drew := ⟨h.os, h.tape, h.output, h.size, h.block⟩
theorem BelowX.grown {B x : Nat} {a w w' : World} {row : Option Nat} (h : BelowX B x a w) (hg : w.grownBy w' row) (hB : B ≤ w.heap.size) (hr : ∀ k, row = some k → B ≤ k) : BelowX B x a w' :=
  h.trans ⟨hg.os, hg.tape, hg.output, hg.size, fun k hk _ => hg.block k (by omega) (fun e => by have := hr k e.symm; omega)⟩
theorem BelowX.cell {B x : Nat} {w w' : World} (h : BelowX B x w w') {p : Addr} (hp : p.block < B) (hx : p.block ≠ x) : w'.cell? p = w.cell? p :=
  World.cell?_of_block (w := w) (h.block p.block hp hx)
theorem BelowX.below {B x : Nat} {w w' : World} (h : BelowX B x w w') {B' : Nat} (hB : B' ≤ B) (hx : B' ≤ x) : Below B' w w' :=
  ⟨h.os, h.tape, h.output, h.size, fun k hk => h.block k (by omega) (by omega)⟩
theorem ownFrom_belowX {β : Type} {n₀ x B : Nat} {w₀ : World} (hn : n₀ ≤ w₀.heap.size) (hB : n₀ ≤ B) : OwnFrom B (fun (_ : β) W => BelowX n₀ x w₀ W) :=
  fun _ _ _ _ hs hg hr => hs.grown hg (Nat.le_trans hn hs.size) (fun k e => Nat.le_trans hB (hr k e).1)
theorem SigAt.belowX {B x : Nat} {w w' : World} {b o : Nat} {s : Sig} (h : SigAt w b o s) (hB : BelowX B x w w') (hb : b < B) (hx : b ≠ x) : SigAt w' b o s :=
  ⟨(hB.cell (p := ⟨b, o, none⟩) hb hx).trans h.1, (hB.cell (p := ⟨b, o + 1, none⟩) hb hx).trans h.2.1, (hB.cell (p := ⟨b, o + 2, none⟩) hb hx).trans h.2.2.1, h.2.2.2⟩

/-- a block of the call's own holds just these ints -/
def Row (w : World) (b : Nat) (xs : List Int) : Prop := w.heap[b]? = some (.cells (xs.map (Value.int .i64)).toArray 3 (0, 0))

theorem Row.lt {w : World} {b : Nat} {xs : List Int} (h : Row w b xs) : b < w.heap.size := (Array.getElem?_eq_some_iff.1 h).1
theorem Row.cell {w : World} {b : Nat} {xs : List Int} (h : Row w b xs) {k : Nat} (hk : k < xs.length) : w.cell? ⟨b, k, none⟩ = some (.int .i64 xs[k]) := by
  simp [World.cell?, show w.heap[b]? = _ from h, hk]
theorem Row.frozen {w : World} {b : Nat} {xs : List Int} (h : Row w b xs) (k : Nat) : w.frozen? ⟨b, k, none⟩ = false := by
  simp [World.frozen?, show w.heap[b]? = _ from h]
theorem Row.set {w : World} {b : Nat} {xs : List Int} (h : Row w b xs) (k : Nat) (z : Int) : Row (w.setCell ⟨b, k, none⟩ (.int .i64 z)) b (xs.set k z) := by
  obtain ⟨hlt, hk⟩ := Array.getElem?_eq_some_iff.1 h
  show (w.heap.modify b _)[b]? = _
  rw [Array.getElem?_eq_getElem (by rw [Array.size_modify]; exact hlt), Array.getElem_modify_self, hk]
  simp [List.map_set]
theorem Row.drew {w : World} {b : Nat} {xs : List Int} (h : Row w b xs) : Row w.drew b xs := h
theorem Row.kept {w w' : World} {b : Nat} {xs : List Int} (h : Row w b xs) (hB : Below w.heap.size w w') : Row w' b xs := (hB.block b h.lt).trans h
theorem Row.own {β : Type} (b : Nat) (f : β → List Int) : Own (fun s W => Row W b (f s)) := by
  intro s A B row hs hg hr
  exact (hg.block b hs.lt (fun e => by
    obtain ⟨o, ho, hc⟩ := hr b e.symm
    rw [show A.heap[b]? = _ from hs] at ho; cases ho; cases hc)).trans hs

theorem quo_facts {n x z : Int} (h0 : 0 ≤ n) (h1 : n ≤ 1000000) (hx1 : 1 ≤ x) (hx2 : x ≤ 1000000) (hz1 : 2 ≤ z) (hz2 : z ≤ 4) :
    (¬ x = 0) ∧ (¬ z = 0) ∧ IntKind.i64.wrap (n.tdiv x) = n / x ∧ (n / x).tmod z = n / x % z := by
  have hq0 : 0 ≤ n / x := Int.ediv_nonneg h0 (by omega)
  have hq1 : n / x ≤ n := Int.ediv_le_self x h0
  have hr0 : 0 ≤ n / x % z := Int.emod_nonneg _ (by omega)
  have hr1 : n / x % z < z := Int.emod_lt_of_pos _ (by omega)
  refine ⟨by omega, by omega, ?_, ?_⟩
  · rw [Int.tdiv_eq_ediv_of_nonneg h0, iw64, IntWalk.wrap64_in _ (by omega)]
  · rw [Int.tmod_eq_emod_of_nonneg hq0]

set_option maxRecDepth 100000 in
set_option maxHeartbeats 2000000 in
theorem decompose_any (b off cap vb : Nat) (sv : Value) (p : Sig → Bool) (l : List Sig) (n : Int) (vs : List Int) (w : World) (hl : Sigs vb w (.slice (some ⟨b, off, none⟩) l.length cap) l) (hsel : SelIs (fun c => c ≠ vb ∧ c < w.heap.size) w sv p)
    (hl1 : 1 ≤ l.length) (hlen : vs.length = l.length) (hvs : Row w vb vs) (hn0 : 0 ≤ n) (hn1 : n ≤ 1000000) (hsz : ∀ k (h : k < l.length), 2 ≤ l[k].size ∧ l[k].size ≤ 4) (hwt : ∀ e ∈ wl p 0 1 l, 1 ≤ e.2 ∧ e.2 ≤ 1000000) :
    Calls Try.prog 49 #[.slice (some ⟨b, off, none⟩) l.length cap, sv, .int .i64 n, .slice (some ⟨vb, 0, none⟩) l.length l.length] w fun e w' =>
      e = .returned (.tuple #[]) ∧ BelowX w.heap.size vb w w' ∧ Row w' vb (decW l n vs (wl p 0 1 l)) := by
  obtain ⟨f, y, rfl⟩ := hsel.shape
  have hvb := hvs.lt
  refine (callsIn_wide (n := 6)).1 ?_
  refine callsIn_of_wp_marks Try.func49 rfl trivial ?_ rfl
  simp only [Try.ntmps49, List.size_toArray, List.length_cons, List.length_nil, Nat.reduceAdd, Nat.reduceSub, Array.replicate_succ, Array.replicate_zero, List.push_toArray, List.append_toArray, List.nil_append, List.cons_append]
  have hmx : Try.prog.follows .mixedOrders = true := by kernel_rfl
  have bL := ((((Boxed.new w 22 (.slice (some ⟨b, off, none⟩) l.length cap)).alloc (.cells #[.int .i64 n] 3)).alloc (.cells #[.slice (some ⟨vb, 0, none⟩) l.length l.length] 23)).alloc (.cells #[.slice (some ⟨b, off, none⟩) l.length cap] 22)).alloc (.cells #[.func f #[] y] 45)
  have bN := (((Boxed.new (w.alloc (.cells #[.slice (some ⟨b, off, none⟩) l.length cap] 22)) 3 (.int .i64 n)).alloc (.cells #[.slice (some ⟨vb, 0, none⟩) l.length l.length] 23)).alloc (.cells #[.slice (some ⟨b, off, none⟩) l.length cap] 22)).alloc (.cells #[.func f #[] y] 45)
  have bV := ((Boxed.new ((w.alloc (.cells #[.slice (some ⟨b, off, none⟩) l.length cap] 22)).alloc (.cells #[.int .i64 n] 3)) 23 (.slice (some ⟨vb, 0, none⟩) l.length l.length)).alloc (.cells #[.slice (some ⟨b, off, none⟩) l.length cap] 22)).alloc (.cells #[.func f #[] y] 45)
  have bL2 := (Boxed.new (((w.alloc (.cells #[.slice (some ⟨b, off, none⟩) l.length cap] 22)).alloc (.cells #[.int .i64 n] 3)).alloc (.cells #[.slice (some ⟨vb, 0, none⟩) l.length l.length] 23)) 22 (.slice (some ⟨b, off, none⟩) l.length cap)).alloc (.cells #[.func f #[] y] 45)
  have bS := Boxed.new ((((w.alloc (.cells #[.slice (some ⟨b, off, none⟩) l.length cap] 22)).alloc (.cells #[.int .i64 n] 3)).alloc (.cells #[.slice (some ⟨vb, 0, none⟩) l.length l.length] 23)).alloc (.cells #[.slice (some ⟨b, off, none⟩) l.length cap] 22)) 45 (.func f #[] y)
  rw [World.size_alloc] at bN
  rw [World.size_alloc, World.size_alloc] at bV
  rw [World.size_alloc, World.size_alloc, World.size_alloc] at bL2
  rw [World.size_alloc, World.size_alloc, World.size_alloc, World.size_alloc] at bS
  have hB3 : Below w.heap.size w (((((w.alloc (.cells #[.slice (some ⟨b, off, none⟩) l.length cap] 22)).alloc (.cells #[.int .i64 n] 3)).alloc (.cells #[.slice (some ⟨vb, 0, none⟩) l.length l.length] 23)).alloc (.cells #[.slice (some ⟨b, off, none⟩) l.length cap] 22)).alloc (.cells #[.func f #[] y] 45)) :=
      (((((Below.refl _ _).alloc (Nat.le_refl _) _).alloc (by simp) _).alloc (by simp; omega) _).alloc (by simp; omega) _).alloc (by simp; omega) _
  have sz : (((((w.alloc (.cells #[.slice (some ⟨b, off, none⟩) l.length cap] 22)).alloc (.cells #[.int .i64 n] 3)).alloc (.cells #[.slice (some ⟨vb, 0, none⟩) l.length l.length] 23)).alloc (.cells #[.slice (some ⟨b, off, none⟩) l.length cap] 22)).alloc (.cells #[.func f #[] y] 45)).heap.size = w.heap.size + 5 := by simp
  gi_wp2_with fail
  refine ⟨trivial, ?_⟩
  refine (callsIn_wide.2 (weights_any _ _ _ _ _ _ _)).mono ?_
  rintro e w2 ⟨rfl, rfl⟩
  gi_wp2_with fail
  generalize World.alloc (World.alloc (World.alloc (World.alloc (World.alloc w _) _) _) _) _ = W0 at *
  obtain ⟨-, ob, ocap, om, oc⟩ := hl.open hl1
  have hsel0 : SelIs (fun c => c ≠ vb ∧ c < W0.heap.size) W0 (.func f #[] y) p := (hsel.below hB3 (fun c h => h.2)).mono (fun c h => ⟨h.1, by omega⟩)
  refine wpIn_rangeFunc_ownG rfl (by omega) (gf := 53) (lb := #[.pointer (some ⟨w.heap.size + 1 + 1 + 1, 0, none⟩), .pointer (some ⟨w.heap.size + 1 + 1 + 1 + 1, 0, none⟩)]) rfl trivial (enters_of Try.func53 (by kernel_rfl) rfl)
      (weights_stops 5 (by omega) (w.heap.size + 1 + 1 + 1) (w.heap.size + 1 + 1 + 1 + 1) vb b off cap _ p l (by omega) (by omega) ocap om W0 (by omega) bL2.cell bS.cell hsel0 (by omega) (by omega) (by omega) (fun k hk => (oc k hk).below hB3 (by omega)))
      keepC_t keepC_b (Below.refl _ _) (fun _ => rfl)
      (fun pre W => (Row W vb (decW l n vs (pre.map (·.1))) ∧ (W.cell? ⟨w.heap.size, 0, none⟩ = some (.slice (some ⟨b, off, none⟩) l.length cap) ∧ W.cell? ⟨w.heap.size + 1, 0, none⟩ = some (.int .i64 n) ∧ W.cell? ⟨w.heap.size + 1 + 1, 0, none⟩ = some (.slice (some ⟨vb, 0, none⟩) l.length l.length))) ∧ BelowX w.heap.size vb w W)
      (fun _ _ _ => False)
      (OwnFrom.and (Own.from (fun s A B row hs hg hr => ⟨Row.own vb (fun pre => decW l n vs (List.map (fun x => x.1) pre)) s A B row hs.1 hg hr, cell_kept hs.2.1 hg hr, cell_kept hs.2.2.1 hg hr, cell_kept hs.2.2.2 hg hr⟩) _) (ownFrom_belowX (Nat.le_refl _) (by omega)))
      (fun _ _ _ _ _ hs _ _ => hs)
      ⟨⟨hvs.kept hB3, bL.cell, bN.cell, bV.cell⟩, BelowX.of_below hB3⟩
      (fun x => { tmps := #[.slice (some ⟨b, off, none⟩) l.length cap, .func f #[] y, .int .i64 n, .slice (some ⟨vb, 0, none⟩) l.length l.length, .pointer (some ⟨w.heap.size, 0, none⟩), undef, .pointer (some ⟨w.heap.size + 1, 0, none⟩), .pointer (some ⟨w.heap.size + 1 + 1, 0, none⟩), .int .i64 (x.1.1 : Int), .int .i64 x.1.2, .slice (some ⟨b, off, none⟩) l.length cap, .func f #[] y, .func (.func 53) #[] #[.pointer (some ⟨w.heap.size + 1 + 1 + 1, 0, none⟩), .pointer (some ⟨w.heap.size + 1 + 1 + 1 + 1, 0, none⟩)], .int .i64 (x.1.1 : Int), .int .i64 x.1.2, undef, undef, undef, undef, undef, undef, undef, undef, undef, undef, undef, undef], defers := [] }) ?assign ?body ?done ?stop
  case assign =>
    intro lp x W K hK
    gi_wp2
    exact hK
  case body =>
    rintro lp pre x W ⟨⟨hr, hv1, hv2, hv3⟩, hB⟩ _
    have hi := mem_wl0 x.2
    obtain ⟨hw1, hw2⟩ := hwt x.1 x.2
    obtain ⟨hs1, hs2⟩ := hsz x.1.1 hi
    have hi' : x.1.1 < (decW l n vs (List.map (fun x => x.1) pre)).length := by rw [decW_length]; omega
    have c0 := hr.cell hi'
    have c1 := hr.frozen x.1.1
    obtain ⟨d0, d1, d2, -⟩ := (oc x.1.1 hi).belowX hB (by omega) (by omega)
    obtain ⟨hz1, hz2, hq, hm⟩ := quo_facts hn0 hn1 hw1 hw2 hs1 hs2
    gi_wp2
    refine wpIn_round_still_tail 12 hmx (by kernel_rfl) (by kernel_rfl) (fun _ _ h => h) ?_
    simp only [List.take_succ_cons, List.take_zero, List.drop_succ_cons, List.drop_zero]
    repeat still_step
    try refine wpStill_nil ?_
    go_wp2
    refine ⟨((KeepsOthers.setCell _ _ _).trans (KeepsOthers.drew _)).from _, (KeepC.setCell ⟨vb, x.1.1, none⟩ rfl _).drew, ⟨?_, ?_, ?_, ?_⟩, (hB.setCell (p := ⟨vb, x.1.1, none⟩) (.inl rfl) _).drew⟩
    · rw [List.map_append, List.map_cons, List.map_nil, decW_snoc _ _ _ _ _ hi]
      exact (hr.set _ _).drew
    · exact (KeepC.setCell ⟨vb, x.1.1, none⟩ rfl _).drew.cell (p := ⟨w.heap.size, 0, none⟩) (by show w.heap.size ≠ vb; omega) hv1
    · exact (KeepC.setCell ⟨vb, x.1.1, none⟩ rfl _).drew.cell (p := ⟨w.heap.size + 1, 0, none⟩) (by show w.heap.size + 1 ≠ vb; omega) hv2
    · exact (KeepC.setCell ⟨vb, x.1.1, none⟩ rfl _).drew.cell (p := ⟨w.heap.size + 1 + 1, 0, none⟩) (by show w.heap.size + 1 + 1 ≠ vb; omega) hv3
  case done =>
    rintro D ys W hD hys ⟨⟨hr, hv1, hv2, hv3⟩, hB⟩ hK
    gi_wp2
    refine ⟨by simp, .inl ⟨_, _, rfl, run_takeDeferred hK, ?_⟩⟩
    refine ⟨_, results_none rfl _ _ _, rfl, hB.trans (BelowX.of_below (belowK_b (w := w) (Nat.le_refl _) W D _ _ (by omega) hK rfl rfl)), ?_⟩
    rw [← hys]
    exact (Row.own vb (fun pre => decW l n vs (List.map (fun x => x.1) pre))) ys W _ (some D) hr (grownBy_putObj' _ _ _) (fun r e => by cases e; exact ⟨_, hK, rfl⟩)
  case stop =>
    rintro D c pre W _ _ h _
    exact h.elim

end Go.Proofs.Ytbifbaennjglmaa
