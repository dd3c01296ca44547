/-
  Contracts of count, compose, decompose: loops over the iterator of weights.
-/
import Derived.Test.YtbifbaennjglmaaSigB
import Derived.Maps.AppendAt
import Derived.Test.YtbifbaennjglmaaKit
namespace Go.Proofs.Ytbifbaennjglmaa
open Go.RowKit Go.Shelf

attribute [local go_sem] Oper.semAt_some

theorem valid_len {l : List Sig} (h : validB l = true) : 1 ≤ l.length := by
  unfold validB at h
  simp only [Bool.and_eq_true, decide_eq_true_eq] at h
  exact h.1.1

theorem iw64 (n : Int) : IntKind.i64.wrap n = wrap64 n := IntWalk.i64_left n

theorem SelIs.shape {Q : Nat → Prop} {w : World} {v : Value} {p : Sig → Bool} (h : SelIs Q w v p) : ∃ f y, v = .func f #[] y := by
  rcases h with ⟨hv, _⟩ | ⟨c, b, hv, _⟩
  · exact ⟨_, _, hv⟩
  · exact ⟨_, _, hv⟩

theorem Sigs.open {B : Nat} {w : World} {b off len cap : Nat} {l : List Sig} (h : Sigs B w (.slice (some ⟨b, off, none⟩) len cap) l) (hl : 1 ≤ l.length) :
    len = l.length ∧ b < B ∧ l.length ≤ cap ∧ cap ≤ 9223372036854775807 ∧ ∀ k (h : k < l.length), SigAt w b (off + k * 3) l[k] := by
  rcases h with ⟨_, _, _, rfl⟩ | ⟨b', off', cap', hv, h1, h2, h3, h4⟩
  · simp at hl
  · cases hv
    exact ⟨rfl, h1, h2, h3, h4⟩

theorem weights_stops (n : Nat) (hn : 2 ≤ n) (Bl Bs x b off cap : Nat) (sv : Value) (p : Sig → Bool) (l : List Sig) (hbx : b ≠ x) (hsx : Bs ≠ x) (hcap : l.length ≤ cap) (hm : cap ≤ 9223372036854775807)
    (w : World) (hxW : x < w.heap.size) (hBl : w.cell? ⟨Bl, 0, none⟩ = some (.slice (some ⟨b, off, none⟩) l.length cap)) (hBs : w.cell? ⟨Bs, 0, none⟩ = some sv) (hsel : SelIs (fun c => c ≠ x ∧ c < w.heap.size) w sv p)
    (hBl' : Bl < w.heap.size) (hBs' : Bs < w.heap.size) (hb' : b < w.heap.size)
    (hc : ∀ k (h : k < l.length), SigAt w b (off + k * 3) l[k]) :
    SeqStopsK Fence.wide n Try.prog 53 #[.pointer (some ⟨Bl, 0, none⟩), .pointer (some ⟨Bs, 0, none⟩)] (wenc (p := p) (l := l)) (KeepC x) (fun ys => ys.map (·.1) = wl p 0 1 l) (fun _ => True) l.length w :=
  fun lp J Jx W hW hJ _ hY h0 =>
    weights1_in n hn lp Bl Bs x b off cap sv p l hbx hsx hcap hm J Jx W (Nat.lt_of_lt_of_le hxW hW.size) hJ hY ((hW.cell (p := ⟨Bl, 0, none⟩) hBl').trans hBl) ((hW.cell (p := ⟨Bs, 0, none⟩) hBs').trans hBs)
      ((hsel.below hW (fun _ h => h.2)).mono (fun _ h => h.1)) (fun k hk => (hc k hk).below hW hb') h0

set_option maxRecDepth 100000 in
set_option maxHeartbeats 2000000 in
theorem count_any (b off cap : Nat) (sv : Value) (p : Sig → Bool) (l : List Sig) (w : World) (hl : Sigs w.heap.size w (.slice (some ⟨b, off, none⟩) l.length cap) l) (hsel : SelIs (· < w.heap.size) w sv p) :
    Calls Try.prog 42 #[.slice (some ⟨b, off, none⟩) l.length cap, sv] w fun e w' => e = .returned (.int .i64 (if validB l then countW l (wl p 0 1 l) else 0)) ∧ Below w.heap.size w w' := by
  obtain ⟨f, y, rfl⟩ := hsel.shape
  refine (callsIn_wide (n := 6)).1 ?_
  refine callsIn_of_wp_marks Try.func42 rfl trivial ?_ rfl
  simp only [Try.ntmps42, List.size_toArray, List.length_cons, List.length_nil, Nat.reduceAdd, Nat.reduceSub, Array.replicate_succ, Array.replicate_zero, List.push_toArray, List.append_toArray, List.nil_append, List.cons_append]
  gi_wp2_with fail
  refine ⟨trivial, ?_⟩
  have hB0 : Below w.heap.size w (w.alloc (.cells #[.slice (some ⟨b, off, none⟩) l.length cap] 22)) := (Below.refl _ _).alloc (Nat.le_refl _) _
  refine (callsIn_wide.2 (valid_any w.heap.size _ l _ (hl.below hB0 (Nat.le_refl _)) hB0.size)).mono ?_
  rintro e w1 ⟨rfl, hb1⟩
  cases hv : validB l
  · have d1 : w1.cell? ⟨w.heap.size, 0, none⟩ = some (.slice (some ⟨b, off, none⟩) l.length cap) := (hb1.cell (p := ⟨w.heap.size, 0, none⟩) (by simp)).trans (by go_simp)
    gi_wp2
    all_goals exact ⟨_, results_tmp rfl _ _ _, rfl, hB0.trans (hb1.mono (by simp))⟩
  · have d1 : w1.cell? ⟨w.heap.size, 0, none⟩ = some (.slice (some ⟨b, off, none⟩) l.length cap) := (hb1.cell (p := ⟨w.heap.size, 0, none⟩) (by simp)).trans (by go_simp)
    have s1 : w.heap.size < w1.heap.size := by have := hb1.size; simp at this; omega
    have hB1 : Below w.heap.size w w1 := hB0.trans (hb1.mono (by simp))
    gi_wp2_with fail
    refine ⟨trivial, ?_⟩
    refine (callsIn_wide.2 (weights_any _ _ _ _ _ _ _)).mono ?_
    rintro e w2 ⟨rfl, rfl⟩
    gi_wp2_with fail
    have bN := Boxed.new w1 3 (.int .i64 1)
    have bL := Boxed.new (w1.alloc (.cells #[.int .i64 1] 3)) 22 (.slice (some ⟨b, off, none⟩) l.length cap)
    have bS := Boxed.new ((w1.alloc (.cells #[.int .i64 1] 3)).alloc (.cells #[.slice (some ⟨b, off, none⟩) l.length cap] 22)) 45 (.func f #[] y)
    have hB3 : Below w1.heap.size w1 (((w1.alloc (.cells #[.int .i64 1] 3)).alloc (.cells #[.slice (some ⟨b, off, none⟩) l.length cap] 22)).alloc (.cells #[.func f #[] y] 45)) :=
      (((Below.refl _ _).alloc (Nat.le_refl _) _).alloc (by simp) _).alloc (by simp; omega) _
    have sz : (((w1.alloc (.cells #[.int .i64 1] 3)).alloc (.cells #[.slice (some ⟨b, off, none⟩) l.length cap] 22)).alloc (.cells #[.func f #[] y] 45)).heap.size = w1.heap.size + 3 := by simp
    rw [World.size_alloc] at bL
    rw [World.size_alloc, World.size_alloc] at bS
    have bN' := (bN.alloc (.cells #[.slice (some ⟨b, off, none⟩) l.length cap] 22)).alloc (.cells #[.func f #[] y] 45)
    have bL' := bL.alloc (.cells #[.func f #[] y] 45)
    clear bN bL
    generalize World.alloc (World.alloc (World.alloc w1 _) _) _ = W0 at *
    obtain ⟨-, ob, ocap, om, oc⟩ := hl.open (valid_len hv)
    have hsel0 : SelIs (fun c => c ≠ w1.heap.size ∧ c < W0.heap.size) W0 (.func f #[] y) p := ((hsel.below hB1 (fun c h => h)).below hB3 (fun c h => by omega)).mono (fun c h => ⟨by omega, by omega⟩)
    refine wpIn_rangeFunc_ownG rfl (by omega) (gf := 53) (lb := #[.pointer (some ⟨w1.heap.size + 1, 0, none⟩), .pointer (some ⟨w1.heap.size + 1 + 1, 0, none⟩)]) rfl trivial (enters_of Try.func53 (by kernel_rfl) rfl)
      (weights_stops 5 (by omega) (w1.heap.size + 1) (w1.heap.size + 1 + 1) w1.heap.size b off cap _ p l (by omega) (by omega) ocap om W0 (by omega) bL'.cell bS.cell hsel0 (by omega) (by omega) (by omega) (fun k hk => ((oc k hk).below hB1 ob).below hB3 (by omega)))
      keepC_t keepC_b (Below.refl _ _) (fun _ => rfl)
      (fun pre W => (W.cell? ⟨w1.heap.size, 0, none⟩ = some (.int .i64 (countW l (pre.map (·.1)))) ∧ W.frozen? ⟨w1.heap.size, 0, none⟩ = false) ∧ Below w1.heap.size w1 W)
      (fun _ _ _ => False)
      (OwnFrom.and (Own.from (fun s A B row hs hg hr => ⟨cell_kept hs.1 hg hr, (frozen_kept hs.1 hg hr).trans hs.2⟩) _) (ownFrom_below (Nat.le_refl _) (by omega)))
      (fun _ _ _ _ _ hs _ _ => hs)
      ⟨⟨bN'.cell, bN'.frozen⟩, hB3⟩
      (fun x => { tmps := #[.slice (some ⟨b, off, none⟩) l.length cap, .func f #[] y, .pointer (some ⟨w.heap.size, 0, none⟩), undef, .int .i64 0, .pointer (some ⟨w1.heap.size, 0, none⟩), .int .i64 (x.1.1 : Int), .slice (some ⟨b, off, none⟩) l.length cap, .bool true, .bool false, .slice (some ⟨b, off, none⟩) l.length cap, .func f #[] y, .func (.func 53) #[] #[.pointer (some ⟨w1.heap.size + 1, 0, none⟩), .pointer (some ⟨w1.heap.size + 1 + 1, 0, none⟩)], .int .i64 (x.1.1 : Int), .int .i64 x.1.2, undef, undef, undef, undef, undef, undef, undef, undef], defers := [] }) ?assign ?body ?done ?stop
    case assign =>
      intro l x W K hK
      gi_wp2
      exact hK
    case body =>
      rintro lp pre x W ⟨⟨hn, hf⟩, hB⟩ _
      have hi := mem_wl0 x.2
      obtain ⟨c0, c1, c2, -⟩ := ((oc x.1.1 hi).below hB1 ob).below hB (by omega)
      have d2 : W.cell? ⟨w.heap.size, 0, none⟩ = some (.slice (some ⟨b, off, none⟩) l.length cap) := (hB.cell (p := ⟨w.heap.size, 0, none⟩) s1).trans d1
      have hmx : Try.prog.follows .mixedOrders = true := by kernel_rfl
      gi_wp2
      refine wpIn_round_still_tail 7 hmx (by kernel_rfl) (by kernel_rfl) (fun _ _ h => h) ?_
      simp only [List.take_succ_cons, List.take_zero, List.drop_succ_cons, List.drop_zero]
      repeat still_step
      try refine wpStill_nil ?_
      go_wp2
      exact ⟨((KeepsOthers.setCell _ _ _).trans (KeepsOthers.drew _)).from _, (KeepC.setCell ⟨w1.heap.size, 0, none⟩ rfl _).drew, ⟨by rw [List.map_append, List.map_cons, List.map_nil, countW_snoc l _ _ hi, ← iw64]; exact World.cell?_setCell_same' _ _ _ (by rw [hn]; rfl), by rw [frozen_drew_own, World.frozen?_setCell]; exact hf⟩, (hB.setCell (p := ⟨w1.heap.size, 0, none⟩) (Nat.le_refl _) _).drew⟩
    case done =>
      rintro D ys W hD hys ⟨⟨hn, hf⟩, hB⟩ hK
      gi_wp2
      refine ⟨by simp, .inl ⟨_, _, rfl, run_takeDeferred hK, ?_⟩⟩
      exact ⟨_, results_tmp rfl _ _ _, by rfl, hB1.trans ((hB.mono (by omega)).trans (belowK_b (w := w) (Nat.le_refl _) W D _ _ (by omega) hK rfl rfl))⟩
    case stop =>
      rintro D c pre W _ _ h _
      exact h.elim

/-- a slice value reads, in blocks below B, as a list of ints -/
def IntsAt (B : Nat) (w : World) (v : Value) (xs : List Int) : Prop :=
  (∃ o c, v = .slice o 0 c ∧ xs = []) ∨ ∃ b off cap, v = .slice (some ⟨b, off, none⟩) xs.length cap ∧ b < B ∧ xs.length ≤ cap ∧ cap ≤ 9223372036854775807 ∧
    ∀ k (h : k < xs.length), w.cell? ⟨b, off + k, none⟩ = some (.int .i64 xs[k]) ∧ -9223372036854775808 ≤ xs[k] ∧ xs[k] ≤ 9223372036854775807

theorem IntsAt.below {B B' : Nat} {w w' : World} {v : Value} {xs : List Int} (h : IntsAt B w v xs) (hB : Below B' w w') (hb : B ≤ B') : IntsAt B w' v xs := by
  rcases h with h | ⟨b, off, cap, hv, h1, h2, h3, h4⟩
  · exact .inl h
  · exact .inr ⟨b, off, cap, hv, h1, h2, h3, fun k hk => ⟨(hB.cell (p := ⟨b, off + k, none⟩) (Nat.lt_of_lt_of_le h1 hb)).trans (h4 k hk).1, (h4 k hk).2⟩⟩
theorem IntsAt.mono {B B' : Nat} {w : World} {v : Value} {xs : List Int} (h : IntsAt B w v xs) (hb : B ≤ B') : IntsAt B' w v xs := by
  rcases h with h | ⟨b, off, cap, hv, h1, h2, h3, h4⟩
  · exact .inl h
  · exact .inr ⟨b, off, cap, hv, Nat.lt_of_lt_of_le h1 hb, h2, h3, h4⟩

set_option maxRecDepth 100000 in
set_option maxHeartbeats 2000000 in
theorem compose_any (b off cap vb voff vcap : Nat) (sv : Value) (p : Sig → Bool) (l : List Sig) (vs : List Int) (w : World) (hl : Sigs w.heap.size w (.slice (some ⟨b, off, none⟩) l.length cap) l) (hsel : SelIs (· < w.heap.size) w sv p)
    (hl1 : 1 ≤ l.length) (hlen : vs.length = l.length) (hvb : vb < w.heap.size) (hvs : ∀ k (h : k < vs.length), w.cell? ⟨vb, voff + k, none⟩ = some (.int .i64 vs[k])) :
    Calls Try.prog 37 #[.slice (some ⟨b, off, none⟩) l.length cap, sv, .slice (some ⟨vb, voff, none⟩) l.length vcap] w fun e w' => e = .returned (.int .i64 (composeW vs (wl p 0 1 l))) ∧ Below w.heap.size w w' := by
  obtain ⟨f, y, rfl⟩ := hsel.shape
  refine (callsIn_wide (n := 6)).1 ?_
  refine callsIn_of_wp_marks Try.func37 rfl trivial ?_ rfl
  simp only [Try.ntmps37, List.size_toArray, List.length_cons, List.length_nil, Nat.reduceAdd, Nat.reduceSub, Array.replicate_succ, Array.replicate_zero, List.push_toArray, List.append_toArray, List.nil_append, List.cons_append]
  have hmx : Try.prog.follows .mixedOrders = true := by kernel_rfl
  have bV := (((Boxed.new w 23 (.slice (some ⟨vb, voff, none⟩) l.length vcap)).alloc (.cells #[.int .i64 0] 3)).alloc (.cells #[.slice (some ⟨b, off, none⟩) l.length cap] 22)).alloc (.cells #[.func f #[] y] 45)
  have bN := ((Boxed.new (w.alloc (.cells #[.slice (some ⟨vb, voff, none⟩) l.length vcap] 23)) 3 (.int .i64 0)).alloc (.cells #[.slice (some ⟨b, off, none⟩) l.length cap] 22)).alloc (.cells #[.func f #[] y] 45)
  have bL := (Boxed.new ((w.alloc (.cells #[.slice (some ⟨vb, voff, none⟩) l.length vcap] 23)).alloc (.cells #[.int .i64 0] 3)) 22 (.slice (some ⟨b, off, none⟩) l.length cap)).alloc (.cells #[.func f #[] y] 45)
  have bS := Boxed.new (((w.alloc (.cells #[.slice (some ⟨vb, voff, none⟩) l.length vcap] 23)).alloc (.cells #[.int .i64 0] 3)).alloc (.cells #[.slice (some ⟨b, off, none⟩) l.length cap] 22)) 45 (.func f #[] y)
  rw [World.size_alloc] at bN
  rw [World.size_alloc, World.size_alloc] at bL
  rw [World.size_alloc, World.size_alloc, World.size_alloc] at bS
  have hB3 : Below w.heap.size w ((((w.alloc (.cells #[.slice (some ⟨vb, voff, none⟩) l.length vcap] 23)).alloc (.cells #[.int .i64 0] 3)).alloc (.cells #[.slice (some ⟨b, off, none⟩) l.length cap] 22)).alloc (.cells #[.func f #[] y] 45)) :=
      ((((Below.refl _ _).alloc (Nat.le_refl _) _).alloc (by simp) _).alloc (by simp; omega) _).alloc (by simp; omega) _
  have sz : ((((w.alloc (.cells #[.slice (some ⟨vb, voff, none⟩) l.length vcap] 23)).alloc (.cells #[.int .i64 0] 3)).alloc (.cells #[.slice (some ⟨b, off, none⟩) l.length cap] 22)).alloc (.cells #[.func f #[] y] 45)).heap.size = w.heap.size + 4 := by simp
  gi_wp2_with fail
  refine ⟨trivial, ?_⟩
  refine (callsIn_wide.2 (weights_any _ _ _ _ _ _ _)).mono ?_
  rintro e w2 ⟨rfl, rfl⟩
  gi_wp2_with fail
  generalize World.alloc (World.alloc (World.alloc (World.alloc w _) _) _) _ = W0 at *
  obtain ⟨-, ob, ocap, om, oc⟩ := hl.open hl1
  have hsel0 : SelIs (fun c => c ≠ w.heap.size + 1 ∧ c < W0.heap.size) W0 (.func f #[] y) p := (hsel.below hB3 (fun c h => h)).mono (fun c h => ⟨by omega, by omega⟩)
  refine wpIn_rangeFunc_ownG rfl (by omega) (gf := 53) (lb := #[.pointer (some ⟨w.heap.size + 1 + 1, 0, none⟩), .pointer (some ⟨w.heap.size + 1 + 1 + 1, 0, none⟩)]) rfl trivial (enters_of Try.func53 (by kernel_rfl) rfl)
      (weights_stops 5 (by omega) (w.heap.size + 1 + 1) (w.heap.size + 1 + 1 + 1) (w.heap.size + 1) b off cap _ p l (by omega) (by omega) ocap om W0 (by omega) bL.cell bS.cell hsel0 (by omega) (by omega) (by omega) (fun k hk => (oc k hk).below hB3 ob))
      keepC_t keepC_b (Below.refl _ _) (fun _ => rfl)
      (fun pre W => (W.cell? ⟨w.heap.size + 1, 0, none⟩ = some (.int .i64 (composeW vs (pre.map (·.1)))) ∧ W.frozen? ⟨w.heap.size + 1, 0, none⟩ = false ∧ W.cell? ⟨w.heap.size, 0, none⟩ = some (.slice (some ⟨vb, voff, none⟩) l.length vcap)) ∧ Below w.heap.size w W)
      (fun _ _ _ => False)
      (OwnFrom.and (Own.from (fun s A B row hs hg hr => ⟨cell_kept hs.1 hg hr, (frozen_kept hs.1 hg hr).trans hs.2.1, cell_kept hs.2.2 hg hr⟩) _) (ownFrom_below (Nat.le_refl _) (by omega)))
      (fun _ _ _ _ _ hs _ _ => hs)
      ⟨⟨bN.cell, bN.frozen, bV.cell⟩, hB3⟩
      (fun x => { tmps := #[.slice (some ⟨b, off, none⟩) l.length cap, .func f #[] y, .slice (some ⟨vb, voff, none⟩) l.length vcap, undef, undef, .pointer (some ⟨w.heap.size, 0, none⟩), .int .i64 0, .pointer (some ⟨w.heap.size + 1, 0, none⟩), .int .i64 (x.1.1 : Int), .int .i64 x.1.2, .slice (some ⟨b, off, none⟩) l.length cap, .func f #[] y, .func (.func 53) #[] #[.pointer (some ⟨w.heap.size + 1 + 1, 0, none⟩), .pointer (some ⟨w.heap.size + 1 + 1 + 1, 0, none⟩)], .int .i64 (x.1.1 : Int), .int .i64 x.1.2, undef, undef, undef, undef, undef, undef, undef, undef, undef], defers := [] }) ?assign ?body ?done ?stop
  case assign =>
    intro lp x W K hK
    gi_wp2
    exact hK
  case body =>
    rintro lp pre x W ⟨⟨hn, hf, hv⟩, hB⟩ _
    have hi := mem_wl0 x.2
    have hi' : x.1.1 < vs.length := by omega
    have c0 := (hB.cell (p := ⟨vb, voff + x.1.1, none⟩) hvb).trans (hvs x.1.1 hi')
    gi_wp2
    refine wpIn_round_still_tail 8 hmx (by kernel_rfl) (by kernel_rfl) (fun _ _ h => h) ?_
    simp only [List.take_succ_cons, List.take_zero, List.drop_succ_cons, List.drop_zero]
    repeat still_step
    try refine wpStill_nil ?_
    go_wp2
    exact ⟨((KeepsOthers.setCell _ _ _).trans (KeepsOthers.drew _)).from _, (KeepC.setCell ⟨w.heap.size + 1, 0, none⟩ rfl _).drew, ⟨by rw [List.map_append, List.map_cons, List.map_nil, composeW_snoc vs _ _ hi', ← iw64, ← iw64]; exact World.cell?_setCell_same' _ _ _ (by rw [hn]; rfl), by rw [frozen_drew_own, World.frozen?_setCell]; exact hf, (KeepC.setCell ⟨w.heap.size + 1, 0, none⟩ rfl _).drew.cell (p := ⟨w.heap.size, 0, none⟩) (by simp) hv⟩, (hB.setCell (p := ⟨w.heap.size + 1, 0, none⟩) (by simp) _).drew⟩
  case done =>
    rintro D ys W hD hys ⟨⟨hn, hf, hv⟩, hB⟩ hK
    gi_wp2
    refine ⟨by simp, .inl ⟨_, _, rfl, run_takeDeferred hK, ?_⟩⟩
    exact ⟨_, results_tmp rfl _ _ _, rfl, hB.trans (belowK_b (w := w) (Nat.le_refl _) W D _ _ (by omega) hK rfl rfl)⟩
  case stop =>
    rintro D c pre W _ _ h _
    exact h.elim

end Go.Proofs.Ytbifbaennjglmaa
