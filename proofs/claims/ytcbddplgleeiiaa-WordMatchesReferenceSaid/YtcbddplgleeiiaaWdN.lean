/-
  The contracts of package word's element and of the iterator that zipped hands back.
-/
import Derived.Test.YtcbddplgleeiiaaWdO
namespace Go.Proofs.Ytcbddplgleeiiaa
open Go.RowKit
attribute [local go_sem] Oper.semAt_some

/-- a slice of lists of numbers -/
def TabAt (B : Nat) (w : World) (v : Value) (T : List (List Int)) : Prop :=
  (∃ o c, v = .slice o 0 c ∧ T = []) ∨ ∃ b off cap, v = .slice (some ⟨b, off, none⟩) T.length cap ∧ b < B ∧ T.length ≤ cap ∧ cap ≤ 9223372036854775807 ∧
    ∀ k (h : k < T.length), ∃ u, w.cell? ⟨b, off + k, none⟩ = some u ∧ IntsAt B w u T[k]

theorem TabAt.below {B B' : Nat} {w w' : World} {v : Value} {T : List (List Int)} (h : TabAt B w v T) (hB : Below B' w w') (hb : B ≤ B') : TabAt B w' v T := by
  rcases h with h | ⟨b, off, cap, hv, h1, h2, h3, h4⟩
  · exact .inl h
  · refine .inr ⟨b, off, cap, hv, h1, h2, h3, fun k hk => ?_⟩
    obtain ⟨u, hu, hi⟩ := h4 k hk
    exact ⟨u, (hB.cell (p := ⟨b, off + k, none⟩) (Nat.lt_of_lt_of_le h1 hb)).trans hu, hi.below hB hb⟩
theorem TabAt.mono {B B' : Nat} {w : World} {v : Value} {T : List (List Int)} (h : TabAt B w v T) (hb : B ≤ B') : TabAt B' w v T := by
  rcases h with h | ⟨b, off, cap, hv, h1, h2, h3, h4⟩
  · exact .inl h
  · refine .inr ⟨b, off, cap, hv, Nat.lt_of_lt_of_le h1 hb, h2, h3, fun k hk => ?_⟩
    obtain ⟨u, hu, hi⟩ := h4 k hk
    exact ⟨u, hu, hi.mono hb⟩
theorem TabAt.shape {B : Nat} {w : World} {v : Value} {T : List (List Int)} (h : TabAt B w v T) : ∃ o c, v = .slice o T.length c := by
  rcases h with ⟨o, c, rfl, rfl⟩ | ⟨b, off, cap, rfl, _⟩
  · exact ⟨_, _, rfl⟩
  · exact ⟨_, _, rfl⟩
theorem TabAt.len {B : Nat} {w : World} {v : Value} {T : List (List Int)} (h : TabAt B w v T) : T.length ≤ 9223372036854775807 := by
  rcases h with ⟨o, c, rfl, rfl⟩ | ⟨b, off, cap, rfl, _, h2, h3, _⟩
  · simp
  · omega
theorem TabAt.at {B : Nat} {w : World} {o : Option Addr} {c : Nat} {T : List (List Int)} (h : TabAt B w (.slice o T.length c) T) {k : Nat} (hk : k < T.length) : ∃ b off u, o = some ⟨b, off, none⟩ ∧ b < B ∧ w.cell? ⟨b, off + k, none⟩ = some u ∧ IntsAt B w u T[k] := by
  rcases h with ⟨o', c', _, rfl⟩ | ⟨b, off, cap, hv, h1, h2, h3, h4⟩
  · simp at hk
  · cases hv
    obtain ⟨u, hu, hi⟩ := h4 k hk
    exact ⟨b, off, u, rfl, h1, hu, hi⟩

/-- an element of a table, or -1 -/
def elemI (T : List (List Int)) (x y : Nat) : Int := (T.getD x []).getD y (-1)

set_option maxRecDepth 100000 in
set_option maxHeartbeats 1000000 in
theorem element_any (B : Nat) (v : Value) (T : List (List Int)) (x y : Nat) (w : World) (hv : TabAt B w v T) (hx : x ≤ 1000) (hy : y ≤ 1000) :
    Calls Try.prog 56 #[v, .int .i64 x, .int .i64 y] w fun e w' => e = .returned (.int .i64 (elemI T x y)) ∧ w' = w := by
  obtain ⟨o, c, rfl⟩ := hv.shape
  have hT := hv.len
  by_cases h1 : x < T.length
  · obtain ⟨b, off, u, rfl, hb, hu, hi⟩ := hv.at h1
    obtain ⟨o1, c1, rfl⟩ := hi.shape
    have hE : Hid (elemI T x y = T[x].getD y (-1)) := by unfold Hid elemI; simp [h1]
    generalize T[x] = row at *
    have hR := hi.len
    by_cases h2 : y < row.length
    · obtain ⟨b1, f1, rfl, hb1, -, -, hc⟩ := hi.at (by omega)
      have d := (hc y h2).1
      have hE2 : Hid (row.getD y (-1) = row[y]) := by unfold Hid; simp [h2]
      have g1 : (0 : Int) ≤ (x : Int) := by omega
      have g2 : (x : Int) < (T.length : Int) := by omega
      have g3 : (0 : Int) ≤ (y : Int) := by omega
      have g4 : (y : Int) < (row.length : Int) := by omega
      go_enter Try.func56, Try.ntmps56
      go_wp2
      go_ret
      exact ⟨ret_int (by rw [hE.out, hE2.out]), rfl⟩
    · have hE2 : Hid (row.getD y (-1) = -1) := by unfold Hid; simp [show row.length ≤ y by omega]
      have g1 : (0 : Int) ≤ (x : Int) := by omega
      have g2 : (x : Int) < (T.length : Int) := by omega
      go_enter Try.func56, Try.ntmps56
      go_wp2
      go_ret
      exact ⟨ret_int (by rw [hE.out, hE2.out]), rfl⟩
  · have hE : Hid (elemI T x y = -1) := by unfold Hid elemI; simp [show T.length ≤ x by omega]
    go_enter Try.func56, Try.ntmps56
    go_wp2
    go_ret
    exact ⟨ret_int hE.out.symm, rfl⟩

/-- the letters of a zipped word -/
def zipF (T : List (List Int)) (sa la sb lb : List Int) (i : Nat) : Int := elemI T (letAt sa la i).toNat (letAt sb lb i).toNat

set_option maxRecDepth 100000 in
set_option maxHeartbeats 4000000 in
theorem zipped_feeds (B Ha Hb Ht N : Nat) (ua ta ub tb tv : Value) (sa la sb lb : List Int) (T : List (List Int)) (w0 : World) (hN : 0 < N) (hHa : Ha < B) (hHb : Hb < B) (hHt : Ht < B)
    (ba : w0.heap[Ha]? = some (.cells #[ua, ta] 24 (0, 0))) (bb : w0.heap[Hb]? = some (.cells #[ub, tb] 24 (0, 0))) (bt : Boxed w0 Ht 25 tv)
    (hva : LasAt B w0 (.agg #[ua, ta]) sa la) (hvb : LasAt B w0 (.agg #[ub, tb]) sb lb) (hT : TabAt B w0 tv T) (fa : formedB sa la = true) (fb : formedB sb lb = true) :
    Feeds 55 #[.pointer (some ⟨Hb, 0, none⟩), .pointer (some ⟨Ha, 0, none⟩), .pointer (some ⟨Ht, 0, none⟩)] (zipF T sa la sb lb) 9 B N w0 := by
  intro n lp J Jx W hW' hBW' hJ hJx hY h0
  have hW : Below B w0 W := hW'.mono hBW'
  have hBW : B ≤ W.heap.size := Nat.le_trans hBW' hW'.size
  have bb1 : W.heap[Hb]? = some (.cells #[ub, tb] 24 (0, 0)) := (hW.block Hb hHb).trans bb
  have hvb1 := hvb.below hW (Nat.le_refl _)
  have hva1 := hva.below hW (Nat.le_refl _)
  obtain ⟨o1, k1, o2, k2, huv, -, -⟩ := hvb1.open
  simp only [Value.agg.injEq, Array.mk.injEq, List.cons.injEq, and_true] at huv
  obtain ⟨rfl, rfl⟩ := huv
  obtain ⟨p1, p2, p3, p4, huv, -, -⟩ := hva1.open
  simp only [Value.agg.injEq, Array.mk.injEq, List.cons.injEq, and_true] at huv
  obtain ⟨rfl, rfl⟩ := huv
  have xY := Boxed.new W 53 (.func (.yield lp) #[] #[])
  obtain ⟨Wa, hWa⟩ : ∃ Wa, Hid (W.alloc (.cells #[.func (.yield lp) #[] #[]] 53) = Wa) := ⟨_, rfl⟩
  have hga := World.grownBy_alloc W (.cells #[.func (.yield lp) #[] #[]] 53) none
  have hBa : Below B W (W.alloc (.cells #[.func (.yield lp) #[] #[]] 53)) := (Below.refl _ _).alloc hBW _
  have hsa : (W.alloc (.cells #[.func (.yield lp) #[] #[]] 53)).heap.size = W.heap.size + 1 := by simp
  rw [hWa.out] at hga hBa hsa xY
  have bb2 := (hBa.block Hb hHb).trans bb1
  have c0 : Wa.cell? ⟨Hb, 0, none⟩ = some (.slice o1 sb.length k1) := cell_of_row Wa Hb 0 _ _ _ bb2
  have c1 : Wa.cell? ⟨Hb, 1, none⟩ = some (.slice o2 lb.length k2) := cell_of_row Wa Hb 1 _ _ _ bb2
  refine callsIn_of_wp_marks Try.func55 rfl trivial ?_ rfl
  simp only [Try.ntmps55, List.size_toArray, List.length_cons, List.length_nil, Nat.reduceAdd, Nat.reduceSub, Array.replicate_succ, Array.replicate_zero, List.push_toArray, List.append_toArray, List.nil_append, List.cons_append]
  rw [← hWa.out] at c0 c1
  gi_wp2_with fail
  rw [hWa.out]
  refine ⟨trivial, (fun h => by cases h), ?_⟩
  refine (callsIn_wide.2 (reader_any B _ sb lb Wa (hvb1.below hBa (Nat.le_refl _)) (by omega))).mono ?_
  rintro e w1 ⟨rfl, hRd, hB1, hz1⟩
  rw [hsa] at hRd hz1 ⊢
  have hz1' := hidi hz1
  have hz2 : B ≤ w1.heap.size := by omega
  clear hz1
  have x0 := Boxed.new w1 56 Value.nilFunc
  have x1 := x0.cell
  have x2 := x0.frozen
  have xN := hidi (Boxed.new w1 56 (.func (.func 57) #[] #[.pointer (some ⟨W.heap.size + 1 + 1, 0, none⟩), .pointer (some ⟨W.heap.size + 1, 0, none⟩)]))
  have hB2 := hidi ((Below.refl B w1).alloc hz2 (.cells #[(.func (.func 57) #[] #[.pointer (some ⟨W.heap.size + 1 + 1, 0, none⟩), .pointer (some ⟨W.heap.size + 1, 0, none⟩)])] 56))
  have ba1 : w1.heap[Ha]? = some (.cells #[.slice p1 sa.length p2, .slice p3 la.length p4] 24 (0, 0)) := ((hB1.mono (show B ≤ Wa.heap.size by omega)).block Ha hHa).trans ((hBa.block Ha hHa).trans ((hW.block Ha hHa).trans ba))
  have ba2 := (hB2.out.block Ha hHa).trans ba1
  have e0 := cell_of_row _ Ha 0 _ _ _ ba2
  have e1 := cell_of_row _ Ha 1 _ _ _ ba2
  simp only [List.getElem?_toArray, List.getElem?_cons_zero, List.getElem?_cons_succ] at e0 e1
  have hst : (store ⟨w1.heap.size, 0, none⟩ (.func (.func 57) #[] #[.pointer (some ⟨W.heap.size + 1 + 1, 0, none⟩), .pointer (some ⟨W.heap.size + 1, 0, none⟩)])).run Try.prog (w1.alloc (.cells #[.nilFunc] 56)) = .ok () ((w1.alloc (.cells #[.nilFunc] 56)).setCell ⟨w1.heap.size, 0, none⟩ (.func (.func 57) #[] #[.pointer (some ⟨W.heap.size + 1 + 1, 0, none⟩), .pointer (some ⟨W.heap.size + 1, 0, none⟩)])) := by
    rw [run_store _ _ _ _ _ rfl, x1]
    simp [x2]
  clear x0 ba2 ba1
  gi_wp2_with fail
  refine ⟨trivial, (fun h => by cases h), ?_⟩
  refine (callsIn_wide.2 (letters_any _ _ _ _ rfl)).mono ?_
  rintro e w2 ⟨rfl, rfl⟩
  gi_wp2_with fail
  have hz := hz1'.out
  have g1 : Wa.grownBy w1 none := grownBy_of_below (hB1.mono (Nat.le_refl _))
  have L1 := hJ.alloc (hJ.alloc (hJ 0 Wa w1 none (hJ 0 W Wa none h0 hga (fun r e => by cases e)) g1 (fun r e => by cases e)) (.cells #[(.func (.func 57) #[] #[.pointer (some ⟨W.heap.size + 1 + 1, 0, none⟩), .pointer (some ⟨W.heap.size + 1, 0, none⟩)])] 56)) (.cells #[.slice p1 sa.length p2, .slice p3 la.length p4] 24)
  have L2 := ((xY.kept g1 (by simp)).alloc (.cells #[(.func (.func 57) #[] #[.pointer (some ⟨W.heap.size + 1 + 1, 0, none⟩), .pointer (some ⟨W.heap.size + 1, 0, none⟩)])] 56)).alloc (.cells #[.slice p1 sa.length p2, .slice p3 la.length p4] 24)
  have L3 := xN.out.alloc (.cells #[.slice p1 sa.length p2, .slice p3 la.length p4] 24)
  have L4 := (hRd.grown (World.grownBy_alloc w1 (.cells #[(.func (.func 57) #[] #[.pointer (some ⟨W.heap.size + 1 + 1, 0, none⟩), .pointer (some ⟨W.heap.size + 1, 0, none⟩)])] 56) none) (by omega) (fun r e => by cases e)).grown (World.grownBy_alloc _ (.cells #[.slice p1 sa.length p2, .slice p3 la.length p4] 24) none) (by omega) (fun r e => by cases e)
  have L5 := (((hW.trans hBa).trans (hB1.mono (show B ≤ Wa.heap.size by omega))).trans hB2.out).alloc (by rw [World.size_alloc]; omega) (.cells #[.slice p1 sa.length p2, .slice p3 la.length p4] 24)
  have L6 : ((w1.alloc (.cells #[(.func (.func 57) #[] #[.pointer (some ⟨W.heap.size + 1 + 1, 0, none⟩), .pointer (some ⟨W.heap.size + 1, 0, none⟩)])] 56)).alloc (.cells #[.slice p1 sa.length p2, .slice p3 la.length p4] 24)).heap.size = W.heap.size + 5 := by simp; omega
  have L7 : ((w1.alloc (.cells #[(.func (.func 57) #[] #[.pointer (some ⟨W.heap.size + 1 + 1, 0, none⟩), .pointer (some ⟨W.heap.size + 1, 0, none⟩)])] 56)).alloc (.cells #[.slice p1 sa.length p2, .slice p3 la.length p4] 24)).heap[w1.heap.size + 1]? = some (.cells #[.slice p1 sa.length p2, .slice p3 la.length p4] 24 (0, 0)) := by
    have := heap_alloc_new (w1.alloc (.cells #[(.func (.func 57) #[] #[.pointer (some ⟨W.heap.size + 1 + 1, 0, none⟩), .pointer (some ⟨W.heap.size + 1, 0, none⟩)])] 56)) (.cells #[.slice p1 sa.length p2, .slice p3 la.length p4] 24)
    rwa [World.size_alloc] at this
  clear e0 e1 c0 c1 x1 x2 hst bb2 bb1
  revert L1 L2 L3 L4 L5 L6 L7
  generalize (w1.alloc (.cells #[(.func (.func 57) #[] #[.pointer (some ⟨W.heap.size + 1 + 1, 0, none⟩), .pointer (some ⟨W.heap.size + 1, 0, none⟩)])] 56)).alloc (.cells #[.slice p1 sa.length p2, .slice p3 la.length p4] 24) = W5
  rw [hz]
  intro L1 L2 L3 L4 L5 L6 L7
  clear hz xN hB2 hz1' g1 hRd hB1
  have hla := (formed_pos fa).1
  have hlb := (formed_pos fb).1
  refine rangeFunc_feeds (n := n) (gf := 49) (lb := #[.pointer (some ⟨W.heap.size + 1 + 2 + 1, 0, none⟩)]) rfl (enters_of Try.func49 (by kernel_rfl) rfl)
    (letters_feeds B (W.heap.size + 1 + 2 + 1) N _ _ sa la W5 hN (by omega) L7 (hva.below L5 (Nat.le_refl _)) hla) (Below.refl _ _) (by omega) rfl
    (fun k X => J k X ∧ Boxed X W.heap.size 53 (.func (.yield lp) #[] #[]) ∧ Boxed X (W.heap.size + 1 + 2) 56 (.func (.func 57) #[] #[.pointer (some ⟨W.heap.size + 1 + 1, 0, none⟩), .pointer (some ⟨W.heap.size + 1, 0, none⟩)]) ∧ RdAt B X (W.heap.size + 1) lb (fun i => letAt sb lb (k + i)) ∧ Below B w0 X)
    (fun c k X => c = .ret ∧ Jx k X) ?_ ?_ ⟨L1, L2, L3, by simpa using L4, L5⟩
    (fun x => { tmps := #[.func (.yield lp) #[] #[], .pointer (some ⟨Hb, 0, none⟩), .pointer (some ⟨Ha, 0, none⟩), .pointer (some ⟨Ht, 0, none⟩), .pointer (some ⟨W.heap.size, 0, none⟩), .pointer (some ⟨W.heap.size + 1 + 2, 0, none⟩), .int .i64 x, .agg #[.slice o1 sb.length k1, .slice o2 lb.length k2], (.func (.func 57) #[] #[.pointer (some ⟨W.heap.size + 1 + 1, 0, none⟩), .pointer (some ⟨W.heap.size + 1, 0, none⟩)]), .agg #[.slice p1 sa.length p2, .slice p3 la.length p4], .func (.func 49) #[] #[.pointer (some ⟨W.heap.size + 1 + 2 + 1, 0, none⟩)], .int .i64 x, undef, undef, undef, undef, undef, undef, undef, undef], defers := [] }) ?assign ?body ?stop
  · rw [L6]
    rintro k X Y row ⟨h1, h2, h3, h4, h5⟩ hg hr
    exact ⟨hJ k X Y row h1 hg (fun r e => by have := hr r e; omega), h2.kept hg (fun e => by have := hr _ e.symm; omega), h3.kept hg (fun e => by have := hr _ e.symm; omega), h4.grown hg (by omega) (fun r e => by have := hr r e; omega), h5.grown hg (Nat.le_trans hBW' h5.size |> fun h => by have := h4.lt; omega) (fun r e => by have := hr r e; omega)⟩
  · rw [L6]
    rintro c k X Y row ⟨h1, h2⟩ hg hr
    exact ⟨h1, hJx k X Y row h2 hg (fun r e => by have := hr r e; omega)⟩
  case assign =>
    intro lp2 x X K hK
    gi_wp2
    exact hK
  case body =>
    rw [L6]
    rintro l2 k X hk hsz hBX ⟨h1, h2, h3, h4, h5⟩
    obtain ⟨X0, hX0⟩ : ∃ X0 : World, X0 = { X with drawn := X.drawn + 1 } := ⟨_, rfl⟩
    have hXh : Hid (X0.heap = X.heap) := by unfold Hid; rw [hX0]
    have hD : X.grownBy X0 none := by rw [hX0]; exact ⟨rfl, rfl, rfl, Nat.le_refl _, fun _ _ _ => rfl⟩
    replace hX0 := hidi hX0
    have d1 := hJ k X X0 none h1 hD (fun r e => by cases e)
    have d2 := h2.kept hD (by simp)
    have d3 := h3.kept hD (by simp)
    have d4 := h4.grown hD (by omega) (fun r e => by cases e)
    have d5 := h5.grown hD (by have := h4.lt; omega) (fun r e => by cases e)
    have dz : W.heap.size + 9 ≤ X0.heap.size := by rw [hXh.out]; omega
    have dB : Below B X X0 := (Below.refl B X).grown hD (by omega) (fun r e => by cases e)
    have dW : InWin (W.heap.size + 5) (W.heap.size + 5 + 2 + 2) X X0 := InWin.of_grownBy hD hsz (fun r e => by cases e)
    have dT := hT.below d5 (Nat.le_refl _)
    have c2 := d2.cell
    have c3 := d3.cell
    have c4 := (show Boxed X0 Ht 25 tv from (d5.block Ht hHt).trans bt).cell
    have hla0 := letAt_bd fa k
    have hlb0 := letAt_bd fb k
    obtain ⟨x, hx⟩ : ∃ x : Nat, letAt sa la k = (x : Int) := ⟨(letAt sa la k).toNat, by omega⟩
    obtain ⟨y, hy⟩ : ∃ y : Nat, letAt sb lb k = (y : Int) := ⟨(letAt sb lb k).toNat, by omega⟩
    have hz : elemI T x y = zipF T sa la sb lb k := by unfold zipF; rw [hx, hy]; simp
    rw [hx]
    obtain ⟨oT, kT, hTv⟩ := dT.shape
    replace hTv := hidi hTv
    gi_wp2_with fail
    obtain ⟨Inv, hInv⟩ : ∃ Inv : Array Bool → Act → World → Prop, Hid (∀ listed a' w', Inv listed a' w' ↔ ∃ (b0 b1 b2 b3 b4 b5 b6 b7 : Bool) (v12 v13 v14 v15 v16 v17 v18 v19 : Value), listed = #[b0, b1, b2, b3, b4, b5, b6, b7] ∧
      a' = { tmps := #[.func (.yield lp) #[] #[], .pointer (some ⟨Hb, 0, none⟩), .pointer (some ⟨Ha, 0, none⟩), .pointer (some ⟨Ht, 0, none⟩), .pointer (some ⟨W.heap.size, 0, none⟩), .pointer (some ⟨W.heap.size + 1 + 2, 0, none⟩), .int .i64 x, .agg #[.slice o1 sb.length k1, .slice o2 lb.length k2], (.func (.func 57) #[] #[.pointer (some ⟨W.heap.size + 1 + 1, 0, none⟩), .pointer (some ⟨W.heap.size + 1, 0, none⟩)]), .agg #[.slice p1 sa.length p2, .slice p3 la.length p4], .func (.func 49) #[] #[.pointer (some ⟨W.heap.size + 1 + 2 + 1, 0, none⟩)], .int .i64 x, v12, v13, v14, v15, v16, v17, v18, v19], defers := [] } ∧
      ∃ (_ : PLift (b0 = true → v12 = .func (.yield lp) #[] #[])), ∃ (_ : PLift (b1 = true → v13 = tv)), ∃ (_ : PLift (b2 = true → v14 = .int .i64 x)), ∃ (_ : PLift (b3 = true → v15 = (.func (.func 57) #[] #[.pointer (some ⟨W.heap.size + 1 + 1, 0, none⟩), .pointer (some ⟨W.heap.size + 1, 0, none⟩)]))), ∃ (_ : PLift (b4 = true → v16 = .int .i64 y)), ∃ (_ : PLift (b5 = true → v17 = .int .i64 (zipF T sa la sb lb k))), ∃ (_ : PLift (b4 = true → b3 = true)), ∃ (_ : PLift (b5 = true → b1 = true ∧ b2 = true ∧ b4 = true)), ∃ (_ : PLift (b6 = true → b0 = true ∧ b5 = true)), ∃ (_ : PLift (b7 = true → b6 = true)),
      ∃ (_ : PLift (b4 = false → b6 = false ∧ X0 = w')),
      ∃ (_ : PLift (b4 = true → b6 = false → J k w' ∧ Boxed w' W.heap.size 53 (.func (.yield lp) #[] #[]) ∧ Boxed w' (W.heap.size + 1 + 2) 56 (.func (.func 57) #[] #[.pointer (some ⟨W.heap.size + 1 + 1, 0, none⟩), .pointer (some ⟨W.heap.size + 1, 0, none⟩)]) ∧ RdAt B w' (W.heap.size + 1) lb (fun i => letAt sb lb (k + 1 + i)) ∧ Below B X w' ∧ InWin (W.heap.size + 5) (W.heap.size + 5 + 2 + 2) X w')),
      ∃ (_ : PLift (b6 = true → ∃ r, v18 = .bool r ∧ (b7 = true → v19 = .bool (!r)) ∧ ((r = true ∧ k + 1 < N ∧ J (k + 1) w' ∧ Boxed w' W.heap.size 53 (.func (.yield lp) #[] #[]) ∧ Boxed w' (W.heap.size + 1 + 2) 56 (.func (.func 57) #[] #[.pointer (some ⟨W.heap.size + 1 + 1, 0, none⟩), .pointer (some ⟨W.heap.size + 1, 0, none⟩)]) ∧ RdAt B w' (W.heap.size + 1) lb (fun i => letAt sb lb (k + 1 + i)) ∧ Below B X w' ∧ InWin (W.heap.size + 5) (W.heap.size + 5 + 2 + 2) X w') ∨
        (r = false ∧ Jx (k + 1) w' ∧ InWin (W.heap.size + 5) (W.heap.size + 5 + 2 + 2) X w')))), True) := ⟨_, fun _ _ _ => Iff.rfl⟩
    refine wpIn_region_inv (by kernel_rfl) Inv ?_ ?_ ?_ ?_
    · intro listed a' w' hI
      obtain ⟨b0, b1, b2, b3, b4, b5, b6, b7, v12, v13, v14, v15, v16, v17, v18, v19, rfl, -, -⟩ := (hInv.out _ _ _).1 hI
      intro i hi
      exact zip_less _ _ _ _ _ _ _ _ i ((zip_ready_at b0 b1 b2 b3 b4 b5 b6 b7).1 i hi)
    · intro listed a' w' hI
      obtain ⟨b0, b1, b2, b3, b4, b5, b6, b7, v12, v13, v14, v15, v16, v17, v18, v19, rfl, rfl, e0, e1, e2, e3, e4, e5, q4, q5, q6, q7, s0, s1, s2, -⟩ := (hInv.out _ _ _).1 hI
      clear hI
      intro i hi
      have hc := (zip_ready_at b0 b1 b2 b3 b4 b5 b6 b7).1 i hi
      clear hi
      match i, hc with
      | 0, hc =>
        simp only [zipOk, Bool.not_eq_true'] at hc
        obtain rfl := hc
        obtain rfl : b6 = false := by cases b6; rfl; exact absurd (q6.down rfl).1 (by simp)
        have hcell : w'.cell? ⟨W.heap.size, 0, none⟩ = some (.func (.yield lp) #[] #[]) := by
          cases hb4 : b4
          · exact ((s0.down hb4).2 ▸ c2)
          · exact (s1.down hb4 rfl).2.1.cell
        refine wpOpIn_of_list rfl ?_
        gi_wp2_with fail
        exact (hInv.out _ _ _).2 ⟨true, b1, b2, b3, b4, b5, false, b7, _, _, _, _, _, _, _, _, rfl, rfl, ⟨fun _ => rfl⟩, e1, e2, e3, e4, e5, q4, q5, ⟨fun h => by cases h⟩, q7, s0, s1, s2, trivial⟩
      | 1, hc =>
        simp only [zipOk, Bool.not_eq_true'] at hc
        obtain rfl := hc
        obtain rfl : b5 = false := by cases b5; rfl; exact absurd (q5.down rfl).1 (by simp)
        obtain rfl : b6 = false := by cases b6; rfl; exact absurd (q6.down rfl).2 (by simp)
        have hcell : w'.cell? ⟨Ht, 0, none⟩ = some tv := by
          cases hb4 : b4
          · exact ((s0.down hb4).2 ▸ c4)
          · exact (show Boxed w' Ht 25 tv from (((h5.trans (s1.down hb4 rfl).2.2.2.2.1)).block Ht hHt).trans bt).cell
        have hTv' := hTv
        rw [hTv.out] at hcell
        refine wpOpIn_of_list rfl ?_
        gi_wp2_with fail
        exact (hInv.out _ _ _).2 ⟨b0, true, b2, b3, b4, false, false, b7, _, _, _, _, _, _, _, _, rfl, rfl, e0, ⟨fun _ => hTv'.out.symm⟩, e2, e3, e4, ⟨fun h => by cases h⟩, q4, ⟨fun h => by cases h⟩, ⟨fun h => by cases h⟩, q7, s0, s1, s2, trivial⟩
      | 2, hc =>
        simp only [zipOk, Bool.not_eq_true'] at hc
        obtain rfl := hc
        obtain rfl : b5 = false := by cases b5; rfl; exact absurd (q5.down rfl).2.1 (by simp)
        obtain rfl : b6 = false := by cases b6; rfl; exact absurd (q6.down rfl).2 (by simp)
        refine wpOpIn_of_list rfl ?_
        gi_wp2_with fail
        exact (hInv.out _ _ _).2 ⟨b0, b1, true, b3, b4, false, false, b7, _, _, _, _, _, _, _, _, rfl, rfl, e0, e1, ⟨fun _ => rfl⟩, e3, e4, ⟨fun h => by cases h⟩, q4, ⟨fun h => by cases h⟩, ⟨fun h => by cases h⟩, q7, s0, s1, s2, trivial⟩
      | 3, hc =>
        simp only [zipOk, Bool.not_eq_true'] at hc
        obtain rfl := hc
        obtain rfl : b4 = false := by cases b4; rfl; exact absurd (q4.down rfl) (by simp)
        obtain rfl : b5 = false := by cases b5; rfl; exact absurd (q5.down rfl).2.2 (by simp)
        obtain ⟨rfl, rfl⟩ := s0.down rfl
        refine wpOpIn_of_list rfl ?_
        gi_wp2_with fail
        exact (hInv.out _ _ _).2 ⟨b0, b1, b2, true, false, false, false, b7, _, _, _, _, _, _, _, _, rfl, rfl, e0, e1, e2, ⟨fun _ => rfl⟩, e4, e5, ⟨fun _ => rfl⟩, ⟨fun h => by cases h⟩, ⟨fun h => by cases h⟩, q7, ⟨fun _ => ⟨rfl, rfl⟩⟩, ⟨fun h => by cases h⟩, ⟨fun h => by cases h⟩, trivial⟩
      | 4, hc =>
        simp only [zipOk, Bool.and_eq_true, Bool.not_eq_true'] at hc
        obtain ⟨rfl, rfl⟩ := hc
        obtain rfl := e3.down rfl
        obtain ⟨rfl, rfl⟩ := s0.down rfl
        obtain rfl : b5 = false := by cases b5; rfl; exact absurd (q5.down rfl).2.2 (by simp)
        refine wpOpIn_of_list rfl ?_
        gi_wp2_with fail
        refine ⟨trivial, (fun h => by cases h), ?_⟩
        refine (CallsIn.inRound l2 (callsIn_wide.2 (next_any B (W.heap.size + 1) lb _ _ d4 hlb (by omega)))).mono ?_
        rintro e w2 ⟨rfl, hrd2, hg2, hz2⟩
        simp only [Nat.add_zero, hy]
        gi_wp2_with fail
        refine (hInv.out _ _ _).2 ⟨b0, b1, b2, true, true, false, false, b7, _, _, _, _, _, _, _, _, rfl, rfl, e0, e1, e2, ⟨fun _ => rfl⟩, ⟨fun _ => rfl⟩, e5, ⟨fun _ => rfl⟩, ⟨fun h => by cases h⟩, ⟨fun h => by cases h⟩, q7, ⟨fun h => by cases h⟩, ⟨fun _ _ => ⟨hJ k _ w2 _ d1 hg2 (fun r e => by cases e; omega), d2.kept hg2 (by simp; omega), d3.kept hg2 (by simp), ?_, dB.trans ((Below.refl B _).grown hg2 (by omega) (fun r e => by cases e; omega)), dW.trans (InWin.of_grownBy hg2 (by omega) (fun r e => by cases e; omega))⟩⟩, ⟨fun h => by cases h⟩, trivial⟩
        have : (fun i => letAt sb lb (k + (i + 1))) = (fun i => letAt sb lb (k + 1 + i)) := funext fun i => by rw [Nat.add_assoc, Nat.add_comm 1 i]
        rw [← this]
        exact hrd2
      | 5, hc =>
        simp only [zipOk, Bool.and_eq_true, Bool.not_eq_true'] at hc
        obtain ⟨⟨⟨rfl, rfl⟩, rfl⟩, rfl⟩ := hc
        obtain rfl := e1.down rfl
        obtain rfl := e2.down rfl
        obtain rfl := e4.down rfl
        obtain rfl : b6 = false := by cases b6; rfl; exact absurd (q6.down rfl).2 (by simp)
        obtain ⟨t1, t2, t3, t4, t5, t6⟩ := s1.down rfl rfl
        have dT2 := hT.below (h5.trans t5) (Nat.le_refl _)
        refine wpOpIn_of_list rfl ?_
        gi_wp2_with fail
        refine ⟨trivial, (fun h => by cases h), ?_⟩
        refine (CallsIn.inRound l2 (callsIn_wide.2 (element_any B _ T x y _ dT2 (by omega) (by omega)))).mono ?_
        rintro e w2 ⟨rfl, rfl⟩
        rw [hz]
        gi_wp2_with fail
        exact (hInv.out _ _ _).2 ⟨b0, true, true, b3, true, true, false, b7, _, _, _, _, _, _, _, _, rfl, rfl, e0, ⟨fun _ => rfl⟩, ⟨fun _ => rfl⟩, e3, ⟨fun _ => rfl⟩, ⟨fun _ => rfl⟩, q4, ⟨fun _ => ⟨rfl, rfl, rfl⟩⟩, ⟨fun h => by cases h⟩, q7, ⟨fun h => by cases h⟩, s1, ⟨fun h => by cases h⟩, trivial⟩
      | 6, hc =>
        simp only [zipOk, Bool.and_eq_true, Bool.not_eq_true'] at hc
        obtain ⟨⟨rfl, rfl⟩, rfl⟩ := hc
        obtain rfl := e0.down rfl
        obtain rfl := e5.down rfl
        obtain ⟨rfl, rfl, rfl⟩ := q5.down rfl
        obtain rfl : b7 = false := by cases b7; rfl; exact absurd (q7.down rfl) (by simp)
        obtain ⟨t1, t2, t3, t4, t5, t6⟩ := s1.down rfl rfl
        have hs6 := t6.size
        have hs7 : W.heap.size + 9 ≤ w'.heap.size := by omega
        obtain ⟨fn, tmps, assign, body, hyy, hR⟩ := YieldAt.any (m' := n - 1 - 1) (hY k w' hk t1 hs7 (h5.trans t5))
        refine wpOpIn_of_list rfl ?_
        gi_wp2_with fail
        refine ⟨(fun h => by cases h), (show RoundIn (Fence.wide.inRound l2) _ _ _ _ _ _ _ _ _ from hR).mono ?_⟩
        rintro e W3 (⟨rfl, hk1, hj3, hb3, hw3⟩ | ⟨rfl, hjx, hw3⟩)
        · gi_wp2_with fail
          refine (hInv.out _ _ _).2 ⟨true, true, true, b3, true, true, true, false, _, _, _, _, _, _, _, _, rfl, rfl, ⟨fun _ => rfl⟩, e1, e2, e3, e4, ⟨fun _ => rfl⟩, q4, q5, ⟨fun _ => ⟨rfl, rfl⟩⟩, ⟨fun h => by cases h⟩, ⟨fun h => by cases h⟩, ⟨fun _ h => by cases h⟩, ⟨fun _ => ⟨true, rfl, (fun h => by cases h), .inl ⟨rfl, hk1, hj3, ?_, ?_, t4.win hb3 hw3 (by omega) (by omega), t5.trans hb3, t6.trans (hw3.sub (by omega) (by omega))⟩⟩⟩, trivial⟩
          · exact (hw3.same _ (Nat.le_refl _) (by omega)).trans t2
          · exact (hw3.same _ (by omega) (by omega)).trans t3
        · gi_wp2_with fail
          exact (hInv.out _ _ _).2 ⟨true, true, true, b3, true, true, true, false, _, _, _, _, _, _, _, _, rfl, rfl, ⟨fun _ => rfl⟩, e1, e2, e3, e4, ⟨fun _ => rfl⟩, q4, q5, ⟨fun _ => ⟨rfl, rfl⟩⟩, ⟨fun h => by cases h⟩, ⟨fun h => by cases h⟩, ⟨fun _ h => by cases h⟩, ⟨fun _ => ⟨false, rfl, (fun h => by cases h), .inr ⟨rfl, hjx, t6.trans (hw3.sub (by omega) (by omega))⟩⟩⟩, trivial⟩
      | 7, hc =>
        simp only [zipOk, Bool.and_eq_true, Bool.not_eq_true'] at hc
        obtain ⟨rfl, rfl⟩ := hc
        obtain ⟨r, rfl, -, hs⟩ := s2.down rfl
        have hs' : PLift _ := ⟨hs⟩
        clear hs
        refine wpOpIn_of_list rfl ?_
        gi_wp2_with fail
        exact (hInv.out _ _ _).2 ⟨b0, b1, b2, b3, b4, b5, true, true, _, _, _, _, _, _, _, _, rfl, rfl, e0, e1, e2, e3, e4, e5, q4, q5, q6, ⟨fun _ => rfl⟩, s0, s1, ⟨fun _ => ⟨r, rfl, fun _ => rfl, hs'.down⟩⟩, trivial⟩
      | n + 8, hc => exact absurd hc (by simp [zipOk])
    · intro listed a' w' hI
      obtain ⟨b0, b1, b2, b3, b4, b5, b6, b7, v12, v13, v14, v15, v16, v17, v18, v19, rfl, rfl, e0, e1, e2, e3, e4, e5, q4, q5, q6, q7, s0, s1, s2, -⟩ := (hInv.out _ _ _).1 hI
      clear hI
      intro hr
      obtain ⟨x6, x7⟩ := (zip_ready_at b0 b1 b2 b3 b4 b5 b6 b7).2 hr
      obtain ⟨r, -, hr7, hs⟩ := s2.down x6
      obtain rfl := hr7 x7
      clear hr hr7 x6 x7 e0 e1 e2 e3 e4 e5 q4 q5 q6 q7 s0 s1 s2
      rcases hs with ⟨rfl, t1, t2, t3, t4, t5, t6, t7⟩ | ⟨rfl, t1, t2⟩
      · gi_wp2
        exact ⟨t7, t6, t1, t2, t3, t4, t5, h5.trans t6⟩
      · gi_wp2
        exact ⟨t2, rfl, t1⟩
    · exact (hInv.out _ _ _).2 ⟨false, false, false, false, false, false, false, false, _, _, _, _, _, _, _, _, rfl, rfl, ⟨fun h => by cases h⟩, ⟨fun h => by cases h⟩, ⟨fun h => by cases h⟩, ⟨fun h => by cases h⟩, ⟨fun h => by cases h⟩, ⟨fun h => by cases h⟩, ⟨fun h => by cases h⟩, ⟨fun h => by cases h⟩, ⟨fun h => by cases h⟩, ⟨fun h => by cases h⟩, ⟨fun _ => ⟨rfl, hX0.out⟩⟩, ⟨fun h => by cases h⟩, ⟨fun h => by cases h⟩, trivial⟩
  case stop =>
    rintro c k X ⟨rfl, h1⟩ hK
    gi_wp2
    refine ⟨by simp, .inl ⟨_, _, rfl, run_takeDeferred hK, ?_⟩⟩
    rw [L6]
    exact ⟨_, results_none rfl _ _ _, ⟨_, rfl⟩, k, hJx.put h1 _ _ (by omega) (by omega)⟩

end Go.Proofs.Ytcbddplgleeiiaa
