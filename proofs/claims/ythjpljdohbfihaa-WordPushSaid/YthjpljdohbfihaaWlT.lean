/-
  The region of the law WordPush that appends both lists and pushes them.
-/
import Derived.Test.YthjpljdohbfihaaWlR
namespace Go.Proofs.Ythjpljdohbfihaa
open Go.RowKit

def puFr (bw : Nat) (a b : List Int) (oa : Option Addr) (ca : Nat) (ob : Option Addr) (cb : Nat) (y2 y3 y4 y6 y7 y8 y9 y11 y12 y13 y14 y15 y16 y17 y18 y19 y20 y21 y22 y23 y24 y25 y26 y27 y28 y29 y30 y31 y32 y33 y34 y35 y36 y37 y38 y39 y40 y41 y42 y43 y44 y45 y46 y47 y48 y49 y50 y51 y52 y53 : Value) (x : Nat → Value) : Act := { tmps := #[.slice oa a.length ca, .slice ob b.length cb, y2, y3, y4, .pointer (some ⟨bw, 0, none⟩), y6, y7, y8, y9, x 7, y11, y12, y13, y14, y15, y16, y17, y18, y19, y20, y21, y22, y23, y24, y25, y26, y27, y28, y29, y30, y31, y32, y33, y34, y35, y36, y37, y38, y39, y40, y41, y42, y43, y44, y45, y46, y47, y48, y49, y50, y51, y52, y53, x 0, x 1, x 2, x 3, x 4, x 5, x 6, undef, undef, undef, undef, undef, undef, undef, undef, undef, undef, undef, undef, undef, undef, undef, undef, undef, undef, undef, undef, undef, undef, undef, undef, undef, undef], defers := [] }

theorem resAt_grown {X Y : World} {g : Nat} {row : Option Nat} (h : ResAt X g) (hg : X.grownBy Y row) (hr : row ≠ some g) : ResAt Y g :=
  (hg.block g (Array.getElem?_eq_some_iff.1 h).1 (fun e => hr e.symm)).trans h

/-- what stands in another row stands when a block of slices is written -/
theorem ints_set {w : World} {v : Value} {xs : List Int} {g : Nat} (h : IntsAt w.heap.size w v xs) (hz : ResAt w g) (u t : Value) :
    IntsAt ((w.setCell ⟨g, 0, none⟩ u).setCell ⟨g, 1, none⟩ t).heap.size ((w.setCell ⟨g, 0, none⟩ u).setCell ⟨g, 1, none⟩ t) v xs := by
  have hs : ((w.setCell ⟨g, 0, none⟩ u).setCell ⟨g, 1, none⟩ t).heap.size = w.heap.size := by simp only [World.setCell, Array.size_modify]
  rw [hs]
  rcases h with h | ⟨b, off, cap, rfl, h1, h2, h3, h4⟩
  · exact .inl h
  · refine .inr ⟨b, off, cap, rfl, h1, h2, h3, fun k hk => ⟨?_, (h4 k hk).2⟩⟩
    by_cases hb : b = g
    · subst hb
      exfalso
      have h5 := (h4 k hk).1
      unfold ResAt at hz
      simp only [World.cell?, hz] at h5
      match hm : off + k, h5 with
      | 0, h5 => simp at h5
      | 1, h5 => simp at h5
      | n + 2, h5 => simp at h5
    · rw [← (h4 k hk).1]
      exact (World.cell?_of_block (Below.heap_setCell _ _ _ _ (by simpa using hb))).trans (World.cell?_of_block (Below.heap_setCell _ _ _ _ (by simpa using hb)))

/-- what is known while the region runs -/
structure P8 (Wd : World) (a b s l : List Int) (oa : Option Addr) (ca : Nat) (ob : Option Addr) (cb : Nat) (o1 : Option Addr) (c1 : Nat) (o2 : Option Addr) (c2 : Nat) (L : Nat → Bool) (x : Nat → Value) (w : World) : Prop where
  below : Below Wd.heap.size Wd w
  c42 : L 4 = true → L 2 = true
  c64 : L 6 = true → L 4 = true
  c86 : L 8 = true → L 6 = true
  c87 : L 8 = true → L 7 = true
  f0 : L 0 = true → L 2 = false → w.ownsRow Wd.heap.size 3 1 (x 0) 0 []
  f1 : L 1 = true → x 1 = .slice oa a.length ca
  f2 : L 2 = true → L 4 = false → w.ownsRow Wd.heap.size 3 1 (x 2) a.length (a.map (Value.int .i64))
  f3 : L 3 = true → x 3 = .slice ob b.length cb
  f4 : L 4 = true → IntsAt w.heap.size w (x 4) (a ++ b)
  f5 : L 5 = true → x 5 = .agg #[.slice o1 s.length c1, .slice o2 l.length c2]
  f6 : L 6 = true → L 8 = false → LasAt w.heap.size w (x 6) (pushL (a ++ b) s l).1 (pushL (a ++ b) s l).2
  f7 : L 7 = true → L 8 = false → ∃ g, x 7 = .pointer (some ⟨g, 0, none⟩) ∧ ResAt w g ∧ Wd.heap.size ≤ g
  f8 : L 8 = true → ∃ g x5 e5 x4 e4, x 7 = .pointer (some ⟨g, 0, none⟩) ∧ g < w.heap.size ∧ w.cell? ⟨g, 0, none⟩ = some (.slice x5 (pushL (a ++ b) s l).1.length e5) ∧ w.cell? ⟨g, 1, none⟩ = some (.slice x4 (pushL (a ++ b) s l).2.length e4) ∧
    LasAt w.heap.size w (.agg #[.slice x5 (pushL (a ++ b) s l).1.length e5, .slice x4 (pushL (a ++ b) s l).2.length e4]) (pushL (a ++ b) s l).1 (pushL (a ++ b) s l).2

theorem own_next {w w' : World} {B n : Nat} {v : Value} {ys : List Value} (h : w.ownsRow B 3 1 v n ys) (hB : Below w.heap.size w w') : w'.ownsRow B 3 1 v n ys :=
  h.kept (row := none) ⟨hB.os, hB.tape, hB.output, hB.size, fun k hk _ => hB.block k hk⟩ (by cases v.ownBlock <;> simp)

theorem P8.next {Wd : World} {a b s l : List Int} {oa : Option Addr} {ca : Nat} {ob : Option Addr} {cb : Nat} {o1 : Option Addr} {c1 : Nat} {o2 : Option Addr} {c2 : Nat} {L : Nat → Bool} {x : Nat → Value} {w w' : World} (h : P8 Wd a b s l oa ca ob cb o1 c1 o2 c2 L x w) (hB : Below w.heap.size w w') : P8 Wd a b s l oa ca ob cb o1 c1 o2 c2 L x w' where
  below := h.below.trans (hB.mono h.below.size)
  c42 := h.c42
  c64 := h.c64
  c86 := h.c86
  c87 := h.c87
  f0 := fun p q => own_next (h.f0 p q) hB
  f1 := h.f1
  f2 := fun p q => own_next (h.f2 p q) hB
  f3 := h.f3
  f4 := fun p => (h.f4 p).next hB
  f5 := h.f5
  f6 := fun p q => (h.f6 p q).next hB
  f7 := fun p q => by
    obtain ⟨g, h1, h2, h3⟩ := h.f7 p q
    exact ⟨g, h1, (hB.block g (Array.getElem?_eq_some_iff.1 h2).1).trans h2, h3⟩
  f8 := fun p => by
    obtain ⟨g, x5, e5, x4, e4, h1, h2, h3, h4, h5⟩ := h.f8 p
    exact ⟨g, x5, e5, x4, e4, h1, Nat.lt_of_lt_of_le h2 hB.size, (hB.cell (p := ⟨g, 0, none⟩) h2).trans h3, (hB.cell (p := ⟨g, 1, none⟩) h2).trans h4, h5.next hB⟩

set_option maxRecDepth 100000 in
set_option maxHeartbeats 4000000 in
theorem push_r8 (Wd : World) (bw : Nat) (a b s l : List Int) (oa : Option Addr) (ca : Nat) (ob : Option Addr) (cb : Nat) (o1 : Option Addr) (c1 : Nat) (o2 : Option Addr) (c2 : Nat) (y2 y3 y4 y6 y7 y8 y9 y11 y12 y13 y14 y15 y16 y17 y18 y19 y20 y21 y22 y23 y24 y25 y26 y27 y28 y29 y30 y31 y32 y33 y34 y35 y36 y37 y38 y39 y40 y41 y42 y43 y44 y45 y46 y47 y48 y49 y50 y51 y52 y53 : Value) (Q : Exit → Act → World → Prop)
    (hbw : bw < Wd.heap.size) (k0 : Hid (Wd.cell? ⟨bw, 0, none⟩ = some (.slice o1 s.length c1))) (k1 : Hid (Wd.cell? ⟨bw, 1, none⟩ = some (.slice o2 l.length c2)))
    (kL : Hid (LasAt Wd.heap.size Wd (.agg #[.slice o1 s.length c1, .slice o2 l.length c2]) s l)) (kA : Hid (IntsAt Wd.heap.size Wd (.slice oa a.length ca) a)) (kB : Hid (IntsAt Wd.heap.size Wd (.slice ob b.length cb) b)) (ha : a.length ≤ 80) (hb : b.length ≤ 80)
    (hend : ∀ (X : World) (g : Nat) (x5 : Option Addr) (e5 : Nat) (x4 : Option Addr) (e4 : Nat) (x : Nat → Value), Below Wd.heap.size Wd X → g < X.heap.size →
      X.cell? ⟨g, 0, none⟩ = some (.slice x5 (pushL (a ++ b) s l).1.length e5) → X.cell? ⟨g, 1, none⟩ = some (.slice x4 (pushL (a ++ b) s l).2.length e4) →
      LasAt X.heap.size X (.agg #[.slice x5 (pushL (a ++ b) s l).1.length e5, .slice x4 (pushL (a ++ b) s l).2.length e4]) (pushL (a ++ b) s l).1 (pushL (a ++ b) s l).2 →
      x 7 = .pointer (some ⟨g, 0, none⟩) → Q .normal (puFr bw a b oa ca ob cb y2 y3 y4 y6 y7 y8 y9 y11 y12 y13 y14 y15 y16 y17 y18 y19 y20 y21 y22 y23 y24 y25 y26 y27 y28 y29 y30 y31 y32 y33 y34 y35 y36 y37 y38 y39 y40 y41 y42 y43 y44 y45 y46 y47 y48 y49 y50 y51 y52 y53 x) X) :
    (Code.region 8 (opsAt Try.f8 8) true).wp Try.prog Q (puFr bw a b oa ca ob cb y2 y3 y4 y6 y7 y8 y9 y11 y12 y13 y14 y15 y16 y17 y18 y19 y20 y21 y22 y23 y24 y25 y26 y27 y28 y29 y30 y31 y32 y33 y34 y35 y36 y37 y38 y39 y40 y41 y42 y43 y44 y45 y46 y47 y48 y49 y50 y51 y52 y53 fun _ => undef) Wd := by
  have hsz : (opsAt Try.f8 8).size = 9 := by kernel_rfl
  refine wp_region_inv (by kernel_rfl) (by kernel_rfl) (P8 Wd a b s l oa ca ob cb o1 c1 o2 c2) (puFr bw a b oa ca ob cb y2 y3 y4 y6 y7 y8 y9 y11 y12 y13 y14 y15 y16 y17 y18 y19 y20 y21 y22 y23 y24 y25 y26 y27 y28 y29 y30 y31 y32 y33 y34 y35 y36 y37 y38 y39 y40 y41 y42 y43 y44 y45 y46 y47 y48 y49 y50 y51 y52 y53) (fun _ => undef) ?_ ?_ ?_
  · constructor
    · exact (Below.refl _ _).drew
    all_goals (intro h; cases h)
  · intro L i x W K hi hL hd hI hK
    have kA' := kA.out.next hI.below
    have kB' := kB.out.next hI.below
    have kL' := kL.out.next hI.below
    have d0 := (hI.below.cell (p := ⟨bw, 0, none⟩) hbw).trans k0.out
    have d1 := (hI.below.cell (p := ⟨bw, 1, none⟩) hbw).trans k1.out
    match i, hi, hL, hd, hK with
    | 0, _, hL, hd, hK =>
      refine p8_0 W Wd.heap.size bw a b s l oa ca ob cb o1 c1 o2 c2 y2 y3 y4 y6 y7 y8 y9 y11 y12 y13 y14 y15 y16 y17 y18 y19 y20 y21 y22 y23 y24 y25 y26 y27 y28 y29 y30 y31 y32 y33 y34 y35 y36 y37 y38 y39 y40 y41 y42 y43 y44 y45 y46 y47 y48 y49 y50 y51 y52 y53 (x 0) (x 1) (x 2) (x 3) (x 4) (x 5) (x 6) (x 7) K Q hI.below.size fun v w' h hB => hK v w' ?_
      have n := hI.next hB
      exact ⟨n.below, n.c42, n.c64, n.c86, n.c87, fun _ _ => h, n.f1, n.f2, n.f3, n.f4, n.f5, n.f6, n.f7, n.f8⟩
    | 1, _, hL, hd, hK =>
      refine p8_1 W Wd.heap.size bw a b s l oa ca ob cb o1 c1 o2 c2 y2 y3 y4 y6 y7 y8 y9 y11 y12 y13 y14 y15 y16 y17 y18 y19 y20 y21 y22 y23 y24 y25 y26 y27 y28 y29 y30 y31 y32 y33 y34 y35 y36 y37 y38 y39 y40 y41 y42 y43 y44 y45 y46 y47 y48 y49 y50 y51 y52 y53 (x 0) (x 1) (x 2) (x 3) (x 4) (x 5) (x 6) (x 7) K Q hI.below.size (hK (.slice oa a.length ca) W ?_)
      exact ⟨hI.below, hI.c42, hI.c64, hI.c86, hI.c87, hI.f0, fun _ => rfl, hI.f2, hI.f3, hI.f4, hI.f5, hI.f6, hI.f7, hI.f8⟩
    | 2, _, hL, hd, hK =>
      have n4 : L 4 = false := by cases h : L 4 with | false => rfl | true => exact (by rw [hI.c42 h] at hL; cases hL)
      have n6 : L 6 = false := by cases h : L 6 with | false => rfl | true => exact (by rw [hI.c64 h] at n4; cases n4)
      have n8 : L 8 = false := by cases h : L 8 with | false => rfl | true => exact (by rw [hI.c86 h] at n6; cases n6)
      have g0 := hI.f0 (hd 0 (by kernel_rfl)) hL
      refine p8_2 W Wd.heap.size bw a b s l oa ca ob cb o1 c1 o2 c2 y2 y3 y4 y6 y7 y8 y9 y11 y12 y13 y14 y15 y16 y17 y18 y19 y20 y21 y22 y23 y24 y25 y26 y27 y28 y29 y30 y31 y32 y33 y34 y35 y36 y37 y38 y39 y40 y41 y42 y43 y44 y45 y46 y47 y48 y49 y50 y51 y52 y53 (x 0) (x 1) (x 2) (x 3) (x 4) (x 5) (x 6) (x 7) K Q hI.below.size g0 (hI.f1 (hd 1 (by kernel_rfl))) kA' ha fun v w' hown hgr => hK v w' ?_
      refine ⟨hI.below.grown hgr hI.below.size (fun g e => (g0.lt g e).1), fun _ => rfl, hI.c64, hI.c86, hI.c87, fun _ h => (by cases h), hI.f1, fun _ _ => hown, hI.f3, fun h => ?_, hI.f5, fun h => ?_, fun p q => ?_, fun h => ?_⟩
      · rw [show L 4 = true from h] at n4; cases n4
      · rw [show L 6 = true from h] at n6; cases n6
      · obtain ⟨g, h1, h2, h3⟩ := hI.f7 p q
        exact ⟨g, h1, resAt_grown h2 hgr (own_ne g0 h2.resB), h3⟩
      · rw [show L 8 = true from h] at n8; cases n8
    | 3, _, hL, hd, hK =>
      refine p8_3 W Wd.heap.size bw a b s l oa ca ob cb o1 c1 o2 c2 y2 y3 y4 y6 y7 y8 y9 y11 y12 y13 y14 y15 y16 y17 y18 y19 y20 y21 y22 y23 y24 y25 y26 y27 y28 y29 y30 y31 y32 y33 y34 y35 y36 y37 y38 y39 y40 y41 y42 y43 y44 y45 y46 y47 y48 y49 y50 y51 y52 y53 (x 0) (x 1) (x 2) (x 3) (x 4) (x 5) (x 6) (x 7) K Q hI.below.size (hK (.slice ob b.length cb) W ?_)
      exact ⟨hI.below, hI.c42, hI.c64, hI.c86, hI.c87, hI.f0, hI.f1, hI.f2, fun _ => rfl, hI.f4, hI.f5, hI.f6, hI.f7, hI.f8⟩
    | 4, _, hL, hd, hK =>
      have n6 : L 6 = false := by cases h : L 6 with | false => rfl | true => exact (by rw [hI.c64 h] at hL; cases hL)
      have n8 : L 8 = false := by cases h : L 8 with | false => rfl | true => exact (by rw [hI.c86 h] at n6; cases n6)
      have p2 := hd 2 (by kernel_rfl)
      have g2 := hI.f2 p2 hL
      refine p8_4 W Wd.heap.size bw a b s l oa ca ob cb o1 c1 o2 c2 y2 y3 y4 y6 y7 y8 y9 y11 y12 y13 y14 y15 y16 y17 y18 y19 y20 y21 y22 y23 y24 y25 y26 y27 y28 y29 y30 y31 y32 y33 y34 y35 y36 y37 y38 y39 y40 y41 y42 y43 y44 y45 y46 y47 y48 y49 y50 y51 y52 y53 (x 0) (x 1) (x 2) (x 3) (x 4) (x 5) (x 6) (x 7) K Q hI.below.size g2 (hI.f3 (hd 3 (by kernel_rfl))) kB' ha hb fun v w' hown hgr => hK v w' ?_
      refine ⟨hI.below.grown hgr hI.below.size (fun g e => (g2.lt g e).1), fun _ => p2, fun _ => rfl, hI.c86, hI.c87, fun _ h => ?_, hI.f1, fun _ h => (by cases h), hI.f3, fun _ => ?_, hI.f5, fun h => ?_, fun p q => ?_, fun h => ?_⟩
      · rw [show L 2 = false from h] at p2; cases p2
      · exact ints_of_owns hown (by rw [List.length_append]) (fun x hx => by
          rcases List.mem_append.1 hx with hx | hx
          · exact kA'.bd x hx
          · exact kB'.bd x hx)
      · rw [show L 6 = true from h] at n6; cases n6
      · obtain ⟨g, h1, h2, h3⟩ := hI.f7 p q
        exact ⟨g, h1, resAt_grown h2 hgr (own_ne g2 h2.resB), h3⟩
      · rw [show L 8 = true from h] at n8; cases n8
    | 5, _, hL, hd, hK =>
      refine p8_5 W Wd.heap.size bw a b s l oa ca ob cb o1 c1 o2 c2 y2 y3 y4 y6 y7 y8 y9 y11 y12 y13 y14 y15 y16 y17 y18 y19 y20 y21 y22 y23 y24 y25 y26 y27 y28 y29 y30 y31 y32 y33 y34 y35 y36 y37 y38 y39 y40 y41 y42 y43 y44 y45 y46 y47 y48 y49 y50 y51 y52 y53 (x 0) (x 1) (x 2) (x 3) (x 4) (x 5) (x 6) (x 7) K Q hI.below.size d0 d1 (hK (.agg #[.slice o1 s.length c1, .slice o2 l.length c2]) W ?_)
      exact ⟨hI.below, hI.c42, hI.c64, hI.c86, hI.c87, hI.f0, hI.f1, hI.f2, hI.f3, hI.f4, fun _ => rfl, hI.f6, hI.f7, hI.f8⟩
    | 6, _, hL, hd, hK =>
      have p4 := hd 4 (by kernel_rfl)
      refine p8_6 W Wd.heap.size bw a b s l oa ca ob cb o1 c1 o2 c2 y2 y3 y4 y6 y7 y8 y9 y11 y12 y13 y14 y15 y16 y17 y18 y19 y20 y21 y22 y23 y24 y25 y26 y27 y28 y29 y30 y31 y32 y33 y34 y35 y36 y37 y38 y39 y40 y41 y42 y43 y44 y45 y46 y47 y48 y49 y50 y51 y52 y53 (x 0) (x 1) (x 2) (x 3) (x 4) (x 5) (x 6) (x 7) K Q hI.below.size (hI.f4 p4) (hI.f5 (hd 5 (by kernel_rfl))) kL' ha hb fun v w' hN hB => hK v w' ?_
      have n := hI.next hB
      exact ⟨n.below, n.c42, fun _ => p4, fun _ => rfl, n.c87, n.f0, n.f1, n.f2, n.f3, n.f4, n.f5, fun _ _ => hN.las, n.f7, n.f8⟩
    | 7, _, hL, hd, hK =>
      have n8 : L 8 = false := by cases h : L 8 with | false => rfl | true => exact (by rw [hI.c87 h] at hL; cases hL)
      refine p8_7 W Wd.heap.size bw a b s l oa ca ob cb o1 c1 o2 c2 y2 y3 y4 y6 y7 y8 y9 y11 y12 y13 y14 y15 y16 y17 y18 y19 y20 y21 y22 y23 y24 y25 y26 y27 y28 y29 y30 y31 y32 y33 y34 y35 y36 y37 y38 y39 y40 y41 y42 y43 y44 y45 y46 y47 y48 y49 y50 y51 y52 y53 (x 0) (x 1) (x 2) (x 3) (x 4) (x 5) (x 6) (x 7) K Q hI.below.size (hK (.pointer (some ⟨W.heap.size, 0, none⟩)) _ ?_)
      have n := hI.next (below_new W (.cells #[.slice none 0 0, .slice none 0 0] 24))
      refine ⟨n.below, n.c42, n.c64, n.c86, fun _ => rfl, n.f0, n.f1, n.f2, n.f3, n.f4, n.f5, n.f6, fun _ _ => ⟨W.heap.size, rfl, ResAt.new W, hI.below.size⟩, fun h => ?_⟩
      rw [show L 8 = true from h] at n8
      cases n8
    | 8, _, hL, hd, hK =>
      have p6 := hd 6 (by kernel_rfl)
      have p7 := hd 7 (by kernel_rfl)
      have p4 := hI.c64 p6
      have p2 := hI.c42 p4
      obtain ⟨u, t, hx6, J5, J4⟩ := hI.f6 p6 hL
      obtain ⟨x5, e5, rfl⟩ := J5.shape
      obtain ⟨x4, e4, rfl⟩ := J4.shape
      obtain ⟨g, hx7, hz, hg⟩ := hI.f7 p7 hL
      refine p8_8 W Wd.heap.size bw a b s l oa ca ob cb o1 c1 o2 c2 y2 y3 y4 y6 y7 y8 y9 y11 y12 y13 y14 y15 y16 y17 y18 y19 y20 y21 y22 y23 y24 y25 y26 y27 y28 y29 y30 y31 y32 y33 y34 y35 y36 y37 y38 y39 y40 y41 y42 y43 y44 y45 y46 y47 y48 y49 y50 y51 y52 y53 (x 0) (x 1) (x 2) (x 3) (x 4) (x 5) (x 6) (x 7) K Q hI.below.size (.slice x5 _ e5) (.slice x4 _ e4) hx6 g hx7 hz.resB ⟨_, _, _, rfl⟩ ⟨_, _, _, rfl⟩ (hK undef _ ?_)
      have hh := set2 W g _ _ (.slice x5 (pushL (a ++ b) s l).1.length e5) (.slice x4 (pushL (a ++ b) s l).2.length e4) _ hz
      refine ⟨(hI.below.setCell (p := ⟨g, 0, none⟩) hg _).setCell (p := ⟨g, 1, none⟩) hg _, hI.c42, hI.c64, fun _ => p6, fun _ => p7, fun _ h => ?_, hI.f1, fun _ h => ?_, hI.f3, fun p => ints_set (hI.f4 p) hz _ _, hI.f5, fun _ h => (by cases h), fun _ h => (by cases h), fun _ => ⟨g, x5, e5, x4, e4, hx7, (Array.getElem?_eq_some_iff.1 hh).1, cell_of_row _ g 0 _ _ _ hh, cell_of_row _ g 1 _ _ _ hh, _, _, rfl, ints_set J5 hz _ _, ints_set J4 hz _ _⟩⟩
      · rw [show L 2 = false from h] at p2; cases p2
      · rw [show L 4 = false from h] at p4; cases p4
    | n + 9, hi, _, _, _ => exact absurd hi (by rw [hsz]; omega)
  · intro L x W hall hI
    obtain ⟨g, x5, e5, x4, e4, h1, h2, h3, h4, h5⟩ := hI.f8 (hall 8 (by omega))
    exact hend W g x5 e5 x4 e4 x hI.below h2 h3 h4 h5 h1

end Go.Proofs.Ythjpljdohbfihaa
