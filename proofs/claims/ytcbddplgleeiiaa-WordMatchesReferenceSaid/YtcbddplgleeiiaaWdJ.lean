/-
  A range over a function that goes on for ever and keeps a state of its own in cells: what such an iterator promises ('Feeds': it hands the elements f 0, f 1, .. to the loop's body until that says 'no more', and writes no block but those of its own, a window of the heap), and the rule for the statement that ranges over it.
-/
import Derived.Test.YtcbddplgleeiiaaWdI
import Derived.RangeFuncNested
import Derived.RangeFuncBound
import Derived.RangeFuncCalls
import Derived.RangeFuncLeaves
import Derived.Shelf.Abstract
import Derived.OwnWalkIn
import Derived.TacticsInMore
import Derived.LoopNIn
import Derived.LoopIn
namespace Go.Proofs.Ytcbddplgleeiiaa
open Go.RowKit

/-- the blocks from lo on and below hi lie as they lay -/
structure InWin (lo hi : Nat) (W W' : World) : Prop where
  size : W.heap.size ≤ W'.heap.size
  same : ∀ r, lo ≤ r → r < hi → W'.heap[r]? = W.heap[r]?

theorem InWin.refl (lo hi : Nat) (W : World) : InWin lo hi W W := ⟨Nat.le_refl _, fun _ _ _ => rfl⟩
theorem InWin.trans {lo hi : Nat} {X Y Z : World} (h : InWin lo hi X Y) (k : InWin lo hi Y Z) : InWin lo hi X Z :=
  ⟨Nat.le_trans h.size k.size, fun r h1 h2 => (k.same r h1 h2).trans (h.same r h1 h2)⟩
theorem InWin.sub {lo hi lo' hi' : Nat} {X Y : World} (h : InWin lo hi X Y) (h1 : lo ≤ lo') (h2 : hi' ≤ hi) : InWin lo' hi' X Y :=
  ⟨h.size, fun r a b => h.same r (by omega) (by omega)⟩
theorem InWin.of_grownBy {lo hi : Nat} {X Y : World} {row : Option Nat} (hg : X.grownBy Y row) (hh : hi ≤ X.heap.size) (hr : ∀ r, row = some r → r < lo ∨ hi ≤ r) : InWin lo hi X Y :=
  ⟨hg.size, fun r a b => hg.block r (by omega) (fun e => by have := hr r e.symm; omega)⟩

/-- J does not mind a turn of one block of the window, nor new blocks -/
def Abides2 (lo hi : Nat) (J : Nat → World → Prop) : Prop :=
  ∀ k W W' row, J k W → W.grownBy W' row → (∀ r, row = some r → lo ≤ r ∧ r < hi) → J k W'

theorem Abides2.alloc {lo hi : Nat} {J : Nat → World → Prop} (h : Abides2 lo hi J) {k : Nat} {W : World} (hs : J k W) (o : Obj) : J k (W.alloc o) :=
  h k W _ none hs (World.grownBy_alloc W o none) (fun r e => by cases e)
theorem Abides2.put {lo hi : Nat} {J : Nat → World → Prop} (h : Abides2 lo hi J) {k : Nat} {W : World} (hs : J k W) (r : Nat) (o : Obj) (h1 : lo ≤ r) (h2 : r < hi) : J k (W.putObj r o) :=
  h k W _ (some r) hs (grownBy_putObj' W r o) (fun r' e => by cases e; exact ⟨h1, h2⟩)
theorem Abides2.set {lo hi : Nat} {J : Nat → World → Prop} (h : Abides2 lo hi J) {k : Nat} {W : World} (hs : J k W) (r : Nat) (v : Value) (h1 : lo ≤ r) (h2 : r < hi) : J k (W.setCell ⟨r, 0, none⟩ v) :=
  h k W _ (some r) hs (grownBy_setCell' W r v) (fun r' e => by cases e; exact ⟨h1, h2⟩)
theorem Abides2.sub {lo hi lo' hi' : Nat} {J : Nat → World → Prop} (h : Abides2 lo hi J) (h1 : lo ≤ lo') (h2 : hi' ≤ hi) : Abides2 lo' hi' J :=
  fun k W W' row hs hg hr => h k W W' row hs hg (fun r e => by have := hr r e; omega)

/-- what an iterator without an end promises: g with what it has captured; the element f k in round k; win: how many blocks it lays for itself ahead of its first round; what it reads besides lies below B; no more than N rounds are asked for -/
def Feeds (g : Nat) (lb : Array Value) (f : Nat → Int) (win B N : Nat) (w0 : World) : Prop :=
  ∀ (n l : Nat) (J Jx : Nat → World → Prop) (W : World), Below w0.heap.size w0 W → B ≤ w0.heap.size → Abides2 W.heap.size (W.heap.size + win) J → Abides2 W.heap.size (W.heap.size + win) Jx →
    (∀ k W1, k < N → J k W1 → W.heap.size + win ≤ W1.heap.size → Below B w0 W1 → YieldAt Fence.wide n Try.prog l #[.int .i64 (f k)] W1 fun e W' =>
      (e = .returned (.bool true) ∧ k + 1 < N ∧ J (k + 1) W' ∧ Below B W1 W' ∧ InWin W.heap.size (W.heap.size + win) W1 W') ∨ (e = .returned (.bool false) ∧ Jx (k + 1) W' ∧ InWin W.heap.size (W.heap.size + win) W1 W')) →
    J 0 W →
    CallsIn Fence.wide n Try.prog g (#[.func (.yield l) #[] #[]] ++ lb) W fun e W' => (∃ v, e = .returned v) ∧ ∃ k, Jx (k + 1) W'

theorem YieldAt.any {m m' : Nat} {P : Program} {l : Nat} {args : Array Value} {W : World} {R : Ending → World → Prop} (h : YieldAt Fence.wide m P l args W R) : YieldAt Fence.wide m' P l args W R := by
  obtain ⟨fn, tmps, assign, body, hy, hR⟩ := h
  exact ⟨fn, tmps, assign, body, hy, hR.1, fun c cs _ => hR.2 c cs (room_wide _)⟩

/-- how the body of a round may be left -/
def feedPost (lo hi B N : Nat) (I : Nat → World → Prop) (Ix : Code → Nat → World → Prop) (k : Nat) (W : World) : Exit → Act → World → Prop
  | .normal, _, W' => InWin lo hi W W' ∧ Below B W W' ∧ k + 1 < N ∧ I (k + 1) W'
  | .ret, _, W' => InWin lo hi W W' ∧ Ix .ret (k + 1) W'
  | .exit id, _, W' => InWin lo hi W W' ∧ Ix (.exit id) (k + 1) W'
  | .goto _, _, _ => False
  | .panic _, _, _ => False
  | .outgrown, _, _ => False

theorem rangeFunc_feeds {n : Nat} {g : Operand} {ps : Array Tmp} {assign body : Code} {Q : Exit → Act → World → Prop} {a : Act} {w : World}
    {gf : Nat} {lb : Array Value} (hg : a.eval g = .func (.func gf) #[] lb) (eg : ∀ args w, (callFunc gf args).run Try.prog w = .ok (.enter gf args) w)
    {f : Nat → Int} {win B N : Nat} {w0 : World} (hseq : Feeds gf lb f win B N w0) (hb0' : Below w0.heap.size w0 w) (hB' : B ≤ w0.heap.size) (hps : ps.size = 1)
    (I : Nat → World → Prop) (Ix : Code → Nat → World → Prop) (hI : Abides2 w.heap.size (w.heap.size + 2 + win) I) (hIx : ∀ c, Abides2 w.heap.size (w.heap.size + 2 + win) (Ix c)) (h0 : I 0 w) (a₁ : Int → Act)
    (hassign : ∀ (l : Nat) (x : Int) (W : World) (K : Act → World → Prop), K (a₁ x) W →
      assign.wpIn (Fence.wide.inRound l) (n - 1) Try.prog (Exit.then K (fun _ _ _ => False)) { tmps := (ps.zip #[.int .i64 x]).foldl (fun t (p, v) => t.setIfInBounds p v) a.tmps, defers := [] } W)
    (hbody : ∀ (l k : Nat) (W : World), k < N → w.heap.size + 2 + win ≤ W.heap.size → Below B w0 W → I k W → body.wpIn (Fence.wide.inRound l) (n - 1) Try.prog (feedPost w.heap.size (w.heap.size + 2 + win) B N I Ix k W) (a₁ (f k)) W)
    (hstop : ∀ (c : Code) (k : Nat) (W : World), Ix c (k + 1) W → W.heap[w.heap.size]? = some (.deferred (some [])) → c.wpIn Fence.wide n Try.prog Q { a with defers := { target := .collected w.heap.size, args := #[] } :: a.defers } W) :
    (Code.rangeFunc g ps assign body).wpIn Fence.wide n Try.prog Q a w := by
  have hb0 : Below B w0 w := hb0'.mono hB'
  have hB : B ≤ w.heap.size := Nat.le_trans hB' hb0'.size
  refine wpIn_rangeFunc fun fn hfn => ?_
  obtain ⟨S, hS⟩ : ∃ S, S = w.heap.size := ⟨_, rfl⟩
  obtain ⟨rec, hrec⟩ : ∃ rec : LoopState → Option Code → Loop, rec = fun st pe => { state := st, pending := pe, fn := fn, tmps := a.tmps, params := ps, assign := assign, body := body, defers := S } := ⟨_, rfl⟩
  obtain ⟨W1, hW1⟩ : ∃ W1, (w.alloc (.deferred (some []))).alloc (.loop (rec .ready none)) = W1 := ⟨_, rfl⟩
  have z1 : W1.heap.size = S + 2 := by rw [← hW1, hS]; simp
  have hgr : w.grownBy W1 none := by
    rw [← hW1]
    have h1 := World.grownBy_alloc w (.deferred (some [])) none
    have h2 := World.grownBy_alloc (w.alloc (.deferred (some []))) (.loop (rec .ready none)) none
    exact ⟨h2.os.trans h1.os, h2.tape.trans h1.tape, h2.output.trans h1.output, Nat.le_trans h1.size h2.size, fun k hk hr => (h2.block k (by have := h1.size; omega) hr).trans (h1.block k hk hr)⟩
  have hL : W1.heap[S + 1]? = some (.loop (rec .ready none)) := by
    rw [← hW1, hS]; have := World.alloc_heap_new (w.alloc (.deferred (some []))) (.loop (rec .ready none)); rwa [World.size_alloc] at this
  have hK : W1.heap[S]? = some (.deferred (some [])) := by
    rw [← hW1, hS]; exact (Below.heap_alloc _ _ _ (by simp)).trans (World.alloc_heap_new w _)
  have hSW : Below w0.heap.size w W1 := by
    rw [← hW1]; exact ((Below.refl _ w).alloc hb0'.size _).alloc (by have := hb0'.size; simp; omega) _
  have hBW : Below B w W1 := by
    rw [← hW1]; exact ((Below.refl B w).alloc hB _).alloc (by simp; omega) _
  refine ⟨S + 1, [{ target := .collected S, args := #[] }], W1, { target := .fn (.func gf) lb, args := #[.func (.yield (S + 1)) #[] #[]] }, W1, gf,
    #[.func (.yield (S + 1)) #[] #[]] ++ lb, W1, ?_, ?_, ?_, ?_, fun h => (by cases h), ?_⟩
  · rw [← hW1, hrec, hS]; exact run_enterLoop_outer _ _ _ _ _
  · simp only [resolve, hg]
    simp [go_sem]
  · intro f' hf'; simp [Target.leads] at hf'; subst hf'; exact hfn
  · simp [invoke, go_sem, eg]
  rw [← hS] at hI hIx hbody hstop
  refine (hseq (n - 1) (S + 1)
    (fun k W => I k W ∧ W.heap[S + 1]? = some (.loop (rec .ready none)) ∧ W.heap[S]? = some (.deferred (some [])))
    (fun k W => ∃ c, Ix c k W ∧ W.heap[S + 1]? = some (.loop (rec .done (some c))) ∧ W.heap[S]? = some (.deferred (some [])))
    W1 (hb0'.trans hSW) hB' ?_ ?_ ?_ ⟨hI 0 w W1 none h0 hgr (fun r e => by cases e), hL, hK⟩).mono ?_
  · rintro k X Y row ⟨h1, h2, h3⟩ hg' hr
    rw [z1] at hr
    have k2 := (Array.getElem?_eq_some_iff.1 h2).1
    refine ⟨hI k X Y row h1 hg' (fun r e => by have := hr r e; omega), (hg'.block _ k2 (fun e => by have := hr _ e.symm; omega)).trans h2, (hg'.block _ (by omega) (fun e => by have := hr _ e.symm; omega)).trans h3⟩
  · rintro k X Y row ⟨c, h1, h2, h3⟩ hg' hr
    rw [z1] at hr
    have k2 := (Array.getElem?_eq_some_iff.1 h2).1
    refine ⟨c, hIx c k X Y row h1 hg' (fun r e => by have := hr r e; omega), (hg'.block _ k2 (fun e => by have := hr _ e.symm; omega)).trans h2, (hg'.block _ (by omega) (fun e => by have := hr _ e.symm; omega)).trans h3⟩
  · rintro k W hk ⟨hi, hl, hd⟩ hsz hBW1
    rw [z1] at hsz
    have hy := run_yield (P := Try.prog) (args := #[.int .i64 (f k)]) hl (by rw [hrec]; exact hps.symm)
    rw [hrec] at hy
    refine ⟨fn, _, assign, body, hy, roundIn_of_wpIn hfn (hassign _ _ W _ ⟨_, run_beginRound hl (by rw [hrec]), ?_⟩)⟩
    obtain ⟨X, hX⟩ : ∃ X, W.putObj (S + 1) (.loop { rec .ready none with state := .busy }) = X := ⟨_, rfl⟩
    have hlt : S + 1 < W.heap.size := by omega
    have l2 : X.heap[S + 1]? = some (.loop { rec .ready none with state := .busy }) := by rw [← hX]; exact World.putObj_heap_same hlt
    have d2 : X.heap[S]? = some (.deferred (some [])) := by rw [← hX]; exact (World.putObj_heap_other (by omega)).trans hd
    have i2 : I k X := by rw [← hX]; exact hI.put hi _ _ (by omega) (by omega)
    have b2 : Below B W X := by rw [← hX]; exact (Below.refl B W).grown (grownBy_putObj' W _ _) (by omega) (fun r e => by cases e; omega)
    have w2 : InWin (S + 2) (S + 2 + win) W X := by rw [← hX]; exact InWin.of_grownBy (grownBy_putObj' W _ _) hsz (fun r e => by cases e; omega)
    rw [hX]
    have s2 : S + 2 + win ≤ X.heap.size := Nat.le_trans hsz w2.size
    refine wpIn_mono (hbody _ k X hk s2 (hBW1.trans b2) i2) ?_
    have fin : ∀ (jump : Option Code) (Y : World), InWin S (S + 2 + win) X Y →
        (Instr.endRound (S + 1) jump).run Try.prog Y = .ok (.bool jump.isNone) (Y.putObj (S + 1) (.loop (rec (if jump.isNone then .ready else .done) jump))) ∧
        (Y.putObj (S + 1) (.loop (rec (if jump.isNone then .ready else .done) jump))).heap[S + 1]? = some (.loop (rec (if jump.isNone then .ready else .done) jump)) ∧
        (Y.putObj (S + 1) (.loop (rec (if jump.isNone then .ready else .done) jump))).heap[S]? = some (.deferred (some [])) := fun jump Y hw => by
      have l3 := (hw.same (S + 1) (by omega) (by omega)).trans l2
      have d3 := (hw.same S (by omega) (by omega)).trans d2
      have := run_endRound (P := Try.prog) jump l3
      rw [hrec] at this ⊢
      exact ⟨this, World.putObj_heap_same (Array.getElem?_eq_some_iff.1 l3).1, (World.putObj_heap_other (by omega)).trans d3⟩
    rintro e a3 Y hp
    cases e with
    | normal =>
      obtain ⟨hw, hb, hn, hi3⟩ := hp
      obtain ⟨hr, l4, d4⟩ := fin none Y hw
      have s3 : S + 2 + win ≤ Y.heap.size := Nat.le_trans s2 hw.size
      refine ⟨_, _, hr, .inl ⟨rfl, hn, ⟨hI.put hi3 _ _ (by omega) (by omega), l4, d4⟩, ?_, ?_⟩⟩
      · exact (b2.trans hb).trans ((Below.refl B Y).grown (grownBy_putObj' Y _ _) (by omega) (fun r e => by cases e; omega))
      · rw [z1]
        exact (w2.trans (hw.sub (by omega) (Nat.le_refl _))).trans (InWin.of_grownBy (grownBy_putObj' Y _ _) s3 (fun r e => by cases e; omega))
    | ret =>
      obtain ⟨hw, hi3⟩ := hp
      obtain ⟨hr, l4, d4⟩ := fin (some .ret) Y hw
      have s3 : S + 2 + win ≤ Y.heap.size := Nat.le_trans s2 hw.size
      exact ⟨_, _, hr, .inr ⟨rfl, ⟨.ret, (hIx _).put hi3 _ _ (by omega) (by omega), l4, d4⟩, by rw [z1]; exact (w2.trans (hw.sub (by omega) (Nat.le_refl _))).trans (InWin.of_grownBy (grownBy_putObj' Y _ _) s3 (fun r e => by cases e; omega))⟩⟩
    | exit id =>
      obtain ⟨hw, hi3⟩ := hp
      obtain ⟨hr, l4, d4⟩ := fin (some (.exit id)) Y hw
      have s3 : S + 2 + win ≤ Y.heap.size := Nat.le_trans s2 hw.size
      exact ⟨_, _, hr, .inr ⟨rfl, ⟨.exit id, (hIx _).put hi3 _ _ (by omega) (by omega), l4, d4⟩, by rw [z1]; exact (w2.trans (hw.sub (by omega) (Nat.le_refl _))).trans (InWin.of_grownBy (grownBy_putObj' Y _ _) s3 (fun r e => by cases e; omega))⟩⟩
    | goto t => exact hp.elim
    | panic ch => exact hp.elim
    | outgrown => exact hp.elim
  · rintro e W2 ⟨⟨v, rfl⟩, k, c, hi, hl, hd⟩
    exact ⟨some c, _, by have := run_endLoop (P := Try.prog) hl (by rw [hrec]; simp); rw [hrec] at this; exact this, hstop c k _ ((hIx c).put hi _ _ (by omega) (by omega)) ((World.putObj_heap_other (by omega)).trans hd)⟩

end Go.Proofs.Ytcbddplgleeiiaa
