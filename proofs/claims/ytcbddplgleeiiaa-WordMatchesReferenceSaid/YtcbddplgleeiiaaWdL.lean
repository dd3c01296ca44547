/-
  The contract of the iterator that package word's letters hands back.
-/
import Derived.Test.YtcbddplgleeiiaaWdK
namespace Go.Proofs.Ytcbddplgleeiiaa
open Go.RowKit

/-- a loop whose rounds are counted by a number that no variable bears -/
theorem wpIn_loop_ghost {F : Fence} {n : Nat} {P : Program} {c : Code} {Q : Exit → Act → World → Prop} {a : Act} {w : World} (R : Nat → Act → World → Prop) (N : Nat) (hN : 0 < N) (h0 : R 0 a w)
    (round : ∀ k a w, k < N → R k a w → c.wpIn F n P (Exit.then (fun a' w' => k + 1 < N ∧ R (k + 1) a' w') Q) a w) : (Code.loop c).wpIn F n P Q a w := by
  refine wpIn_loop_rounds N ?_
  have key : ∀ m k a w, k + m = N → 0 < m → R k a w → Code.roundsIn F n P c Q m a w := by
    intro m
    induction m with
    | zero => intro k a w _ h; omega
    | succ m ih =>
      intro k a w hk _ hr
      rw [roundsIn_succ]
      refine wpIn_mono (round k a w (by omega) hr) fun e a' w' h => ?_
      cases e with
      | normal => exact ih (k + 1) a' w' (by omega) (by have := h.1; omega) h.2
      | _ => exact h
  exact key N 0 a w (Nat.zero_add N) hN h0

set_option maxRecDepth 100000 in
set_option maxHeartbeats 2000000 in
theorem letters_feeds (B H N : Nat) (u t : Value) (s l : List Int) (w0 : World) (hN : 0 < N) (hH : H < w0.heap.size) (hb : w0.heap[H]? = some (.cells #[u, t] 24 (0, 0))) (hv : LasAt B w0 (.agg #[u, t]) s l) (hl : 0 < l.length) :
    Feeds 49 #[.pointer (some ⟨H, 0, none⟩)] (letAt s l) 2 B N w0 := by
  intro n lp J Jx W hW' hBW' hJ hJx hY h0
  have hW : Below B w0 W := hW'.mono hBW'
  have hBW : B ≤ W.heap.size := Nat.le_trans hBW' hW'.size
  have hb1 : W.heap[H]? = some (.cells #[u, t] 24 (0, 0)) := (hW'.block H hH).trans hb
  have c0 : W.cell? ⟨H, 0, none⟩ = some u := cell_of_row W H 0 _ _ _ hb1
  have c1 : W.cell? ⟨H, 1, none⟩ = some t := cell_of_row W H 1 _ _ _ hb1
  have hv1 := hv.below hW (Nat.le_refl _)
  obtain ⟨o1, k1, o2, k2, huv, -, -⟩ := hv1.open
  simp only [Value.agg.injEq, Array.mk.injEq, List.cons.injEq, and_true] at huv
  obtain ⟨rfl, rfl⟩ := huv
  clear hb1
  refine callsIn_of_wp Try.func49 rfl trivial ?_ rfl
  simp only [Try.ntmps49, List.size_toArray, List.length_cons, List.length_nil, Nat.reduceAdd, Nat.reduceSub, Array.replicate_succ, Array.replicate_zero, List.push_toArray, List.append_toArray, List.nil_append, List.cons_append]
  gi_wp2_with fail
  refine ⟨trivial, (fun h => by cases h), ?_⟩
  refine (callsIn_wide.2 (reader_any B _ s l _ hv1 hBW)).mono ?_
  rintro e w1 ⟨rfl, hRd, hB1, hz1⟩
  gi_wp2_with fail
  have hBW1 : Below B W w1 := hB1.mono hBW
  refine wpIn_loop_ghost (fun k a' wr => (∃ u6 u7 u8 u9, a' = { tmps := #[.func (.yield lp) #[] #[], .pointer (some ⟨H, 0, none⟩), undef, .func (.func 57) #[] #[.pointer (some ⟨W.heap.size + 1, 0, none⟩), .pointer (some ⟨W.heap.size, 0, none⟩)],
      .agg #[.slice o1 s.length k1, .slice o2 l.length k2], .func (.func 57) #[] #[.pointer (some ⟨W.heap.size + 1, 0, none⟩), .pointer (some ⟨W.heap.size, 0, none⟩)], u6, u7, u8, u9], defers := [] }) ∧ J k wr ∧ RdAt B wr W.heap.size l (fun i => letAt s l (k + i)) ∧ W.heap.size + 2 ≤ wr.heap.size ∧ Below B w0 wr) N hN ?_ ?_
  · refine ⟨⟨_, _, _, _, rfl⟩, hJ 0 W w1 none h0 (grownBy_of_below hB1) (fun r e => by cases e), by simpa using hRd, Nat.le_of_eq hz1.symm, hW.trans hBW1⟩
  · rintro k a' wr hk ⟨⟨u6, u7, u8, u9, rfl⟩, hj, hrd, hsz, hB⟩
    gi_wp2_with fail
    refine ⟨trivial, (fun h => by cases h), ?_⟩
    refine (callsIn_wide.2 (next_any B W.heap.size l _ wr hrd hl hBW)).mono ?_
    rintro e w2 ⟨rfl, hrd2, hg2, hz2⟩
    have hj2 := hJ k wr w2 _ hj hg2 (fun r e => by cases e; omega)
    have hB2 : Below B wr w2 := (Below.refl B wr).grown hg2 (by omega) (fun r e => by cases e; omega)
    obtain ⟨fn, tmps, assign, body, hy, hR⟩ := YieldAt.any (m' := n - 1) (hY k w2 hk hj2 (by omega) (hB.trans hB2))
    simp only [Nat.add_zero]
    gi_wp2_with fail
    refine ⟨(fun h => by cases h), hR.mono ?_⟩
    rintro e W3 (⟨rfl, hk1, hj3, hb3, hw3⟩ | ⟨rfl, hjx, -⟩)
    · gi_wp2
      have hs3 := hw3.size
      refine ⟨hk1, ⟨_, _, _, _, rfl⟩, hj3, ?_, by omega, (hB.trans hB2).trans hb3⟩
      have := hrd2.win hb3 hw3 (Nat.le_refl _) (by omega)
      simpa only [Nat.add_assoc, Nat.add_comm 1] using this
    · gi_wp2
      go_end0
      exact ⟨⟨_, rfl⟩, k, hjx⟩

end Go.Proofs.Ytcbddplgleeiiaa
