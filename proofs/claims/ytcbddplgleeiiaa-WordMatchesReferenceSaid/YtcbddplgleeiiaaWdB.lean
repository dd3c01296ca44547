/-
  Contracts of slices.Equal, slices.Clone, and of package word's period and turned.
-/
import Derived.Test.YtcbddplgleeiiaaWdA
import Derived.Test.YtcbddplgleeiiaaWordS
import Derived.Test.YtcbddplgleeiiaaWdP
import Derived.Deep.RegionHeld3
namespace Go.Proofs.Ytcbddplgleeiiaa
open Go.RowKit

set_option maxRecDepth 100000 in
set_option maxHeartbeats 1000000 in
theorem equal_any (B : Nat) (u v : Value) (xs ys : List Int) (w : World) (hx : IntsAt B w u xs) (hy : IntsAt B w v ys) (hBw : B ≤ w.heap.size) :
    Calls Try.prog 41 #[u, v] w fun e w' => e = .returned (.bool (decide (xs = ys))) ∧ Below w.heap.size w w' := by
  obtain ⟨o1, c1, rfl⟩ := hx.shape
  obtain ⟨o2, c2, rfl⟩ := hy.shape
  by_cases hlen : xs.length = ys.length
  · have hne : ((xs.length : Int) != (ys.length : Int)) = false := by simp [hlen]
    have hm := hx.len
    have hlen' := hidi hlen
    clear hlen
    go_enter Try.func41, Try.ntmps41
    go_wp2
    go_loopw [13] (fun i wr => ∃ k : Nat, k ≤ xs.length ∧ i = .int .i64 k ∧ Below w.heap.size w wr ∧ Hid (decide (xs = ys) = decide (xs.drop k = ys.drop k))) (fun i _ => xs.length - (intOf i).toNat)
    case atStart => exact ⟨0, Nat.zero_le _, rfl, Below.refl _ _, rfl⟩
    case round =>
      obtain ⟨k, hk, rfl, hB, hF⟩ := hrel
      by_cases hlt : k < xs.length
      · have hlt2 : k < ys.length := by have := hlen'.out; omega
        obtain ⟨b1, f1, rfl, hb1, -, -, hc1⟩ := hx.at (by omega)
        obtain ⟨b2, f2, rfl, hb2, -, -, hc2⟩ := hy.at (by omega)
        have d1 := (hB.cell (p := ⟨b1, f1 + k, none⟩) (Nat.lt_of_lt_of_le hb1 hBw)).trans (hc1 k hlt).1
        have d2 := (hB.cell (p := ⟨b2, f2 + k, none⟩) (Nat.lt_of_lt_of_le hb2 hBw)).trans (hc2 k hlt2).1
        have hS : Hid (decide (xs.drop k = ys.drop k) = (decide (xs[k] = ys[k]) && decide (xs.drop (k + 1) = ys.drop (k + 1)))) := by
          unfold Hid; rw [List.drop_eq_getElem_cons hlt, List.drop_eq_getElem_cons hlt2]; simp only [List.cons.injEq, Bool.decide_and]
        have g1 : (0 : Int) ≤ k := by omega
        have g2 : (k : Int) < xs.length := by omega
        have g3 : (k : Int) < ys.length := by omega
        cases heq : (xs[k] != ys[k])
        · go_wp2
          go_quiet (fail)
          go_wp2
          go_roundw
          case rel => exact ⟨k + 1, by omega, by go_num, below_drewN hB _, hF.out.trans (hS.out.trans (by simp at heq; simp [heq]))⟩
          case measure => simp [intOf]; omega
        · go_wp2
          go_quiet (fail)
          go_wp2
          go_ret
          exact ⟨ret_bool (by rw [hF.out, hS.out]; simp at heq; simp [heq]), below_drewN hB _⟩
      · go_wp2
        go_ret
        exact ⟨ret_bool (by rw [hF.out, List.drop_of_length_le (by omega), List.drop_of_length_le (by have := hlen'.out; omega)]; rfl), hB⟩
  · have hne : ((xs.length : Int) != (ys.length : Int)) = true := by simp; omega
    go_enter Try.func41, Try.ntmps41
    go_wp2
    go_ret
    exact ⟨ret_bool (by symm; simp; intro h; exact hlen (by rw [h])), Below.refl _ _⟩

/-- a list in a row that lies in blocks from W on -/
def NewInts (W : Nat) (w : World) (r : Value) (xs : List Int) : Prop := IntsAt w.heap.size w r xs ∧ ∀ g, r.ownBlock = some g → W ≤ g

set_option maxRecDepth 100000 in
set_option maxHeartbeats 1000000 in
theorem clone_any (B : Nat) (v : Value) (xs : List Int) (w : World) (hv : IntsAt B w v xs) (hBw : B ≤ w.heap.size) (hlen : xs.length ≤ 500000) :
    Calls Try.prog 52 #[v] w fun e w' => ∃ r, e = .returned r ∧ NewInts w.heap.size w' r xs ∧ Below w.heap.size w w' := by
  have hv' := hv.mono hBw
  obtain ⟨o, c, rfl⟩ := hv.shape
  cases o with
  | none =>
    have h0 : xs = [] := by
      rcases hv with ⟨_, _, _, rfl⟩ | ⟨_, _, _, h, _⟩
      · rfl
      · cases h
    subst h0
    have hE : ∀ W, (binOp .eql 22 (.slice none 0 c) (.slice none 0 0)).run Try.prog W = .ok (.bool true) W := fun _ => by kernel_rfl
    simp only [List.length_nil] at *
    go_enter Try.func52, Try.ntmps52
    go_wp2
    go_ret
    exact ⟨_, rfl, ⟨.inl ⟨_, _, rfl, rfl⟩, fun g e => by simp [Value.ownBlock] at e⟩, Below.refl _ _⟩
  | some ad =>
    have hE : ∀ W, (binOp .eql 22 (.slice (some ad) xs.length c) (.slice none 0 0)).run Try.prog W = .ok (.bool false) W := fun _ => by kernel_rfl
    have hB' : Below w.heap.size w (w.alloc (.cells #[] 3)) := (Below.refl _ _).alloc (Nat.le_refl _) _
    go_enter Try.func52, Try.ntmps52
    go_wp2_with (at_builtin; refine wpList_append_ints rfl (.tmp 5) (.tmp 6) rfl w.heap.size (.slice (some ⟨w.heap.size, 0, none⟩) 0 0) 0 [] rfl (World.ownsRow_made _ #[] 0 (Nat.le_refl _) (by decide) rfl) hB'.size w.heap.size (.slice (some ad) xs.length c) xs rfl (hv'.below hB' (Nat.le_refl _)) (by omega) ?_; intro v4 w4 hown4 hgrow4; have hB4 := hB'.grown hgrow4 hB'.size (by rintro g ⟨⟩; exact Nat.le_refl _))
    go_ret
    rw [Nat.zero_add, List.nil_append] at hown4
    exact ⟨_, rfl, ⟨ints_of_owns hown4 rfl hv.bd, fun g e => (hown4.lt g e).1⟩, hB4⟩

set_option maxRecDepth 100000 in
set_option maxHeartbeats 1000000 in
theorem period_any (B : Nat) (v : Value) (l : List Int) (w : World) (hv : IntsAt B w v l) (hBw : B ≤ w.heap.size) (hl : 0 < l.length) :
    Calls Try.prog 51 #[v] w fun e w' => e = .returned (.int .i64 (leastRep l)) ∧ Below w.heap.size w w' := by
  have hv' := hv.mono hBw
  obtain ⟨a1, a2, a3, a4⟩ := leastRep_spec hl
  obtain ⟨o, c, rfl⟩ := hv.shape
  have hm := hv.len
  obtain ⟨b, off, rfl, hb, hlc, hcm, hc⟩ := hv'.at hl
  go_enter Try.func51, Try.ntmps51
  go_wp2
  go_loopw [3] (fun n wr => ∃ k : Nat, 1 ≤ k ∧ k ≤ leastRep l ∧ n = .int .i64 k ∧ Below w.heap.size w wr) (fun n _ => leastRep l - (intOf n).toNat)
  case atStart => exact ⟨1, Nat.le_refl _, by omega, rfl, Below.refl _ _⟩
  case round =>
    obtain ⟨k, k1, k2, rfl, hB⟩ := hrel
    by_cases hlt : k < l.length
    · have hnz : ¬ (k : Int) = 0 := by omega
      have hnz' : ¬ k = 0 := by omega
      have hq := hidi (rep_iff_drop (l := l) (n := k) (by omega))
      have r1 : (l.length : Int).tmod (k : Int) = ((l.length % k : Nat) : Int) := by rw [Int.tmod_eq_emod_of_nonneg (by omega), Int.natCast_emod]
      by_cases hd : l.length % k = 0
      · have r2 : (((l.length % k : Nat) : Int) == 0) = true := by simp [hd]
        have hd' := hidi hd
        clear hd
        obtain ⟨j, hj⟩ : ∃ j : Nat, j = l.length - k := ⟨_, rfl⟩
        have r3 : IntKind.i64.wrap ((l.length : Int) - (k : Int)) = (j : Int) := by rw [IntKind.wrap_i64]; omega
        have g1 : (0 : Int) ≤ (k : Int) := by omega
        have g2 : (k : Int) ≤ (l.length : Int) := by omega
        have g3 : (0 : Int) ≤ (j : Int) := by omega
        have g4 : (j : Int) ≤ (c : Int) := by omega
        have g5 : ¬ c = k := by omega
        have I1 : IntsAt w.heap.size w (.slice (some ⟨b, off + k, none⟩) (l.length - k) (c - k)) (l.drop k) := .inr ⟨b, off + k, c - k, by simp, hb, by simp; omega, by omega, fun i hi => by
          have hi' : k + i < l.length := by simp at hi; omega
          rw [List.getElem_drop, Nat.add_assoc]
          exact hc (k + i) hi'⟩
        have I2 : IntsAt w.heap.size w (.slice (some ⟨b, off, none⟩) j c) (l.take j) := hv'.take j (by omega)
        have hj' := hidi hj
        clear hj
        generalize l.length % k = q at *
        cases he : decide (l.drop k = l.take j)
        · have hklt : k < leastRep l := by
            rcases Nat.lt_or_ge k (leastRep l) with h | h
            · exact h
            · exfalso
              obtain rfl : k = leastRep l := by omega
              have := (hq.out.1 a1).2
              rw [← hj'.out] at this
              simp [this] at he
          go_wp2_with fail
          go_region_held3 (fun W => Hid True ∧ Below w.heap.size w W) (first | exact ⟨trivial, hB.drew⟩ | exact ⟨trivial, q9.trans (hb.mono q9.size)⟩) (first | (obtain ⟨-, q9⟩ : Hid True ∧ Below w.heap.size w _ := (by assumption); go_at_call 41; with_reducible refine (equal_any w.heap.size (.slice (some ⟨b, off + k, none⟩) (l.length - k) (c - k)) (.slice (some ⟨b, off, none⟩) j c) (l.drop k) (l.take j) _ (I1.below q9 (Nat.le_refl _)) (I2.below q9 (Nat.le_refl _)) q9.size).mono ?_; rintro e w' ⟨rfl, hb⟩))
          all_goals go_wp2
          all_goals go_roundw
          case rel =>
            obtain ⟨-, q9⟩ : Hid True ∧ Below w.heap.size w _ := (by assumption)
            exact ⟨k + 1, by omega, by omega, by go_num, q9⟩
          case measure => simp [intOf]; omega
        · have hkl : Hid (k = leastRep l) := by
            unfold Hid
            rcases Nat.lt_or_ge k (leastRep l) with h | h
            · exact (a4 k k1 h (hq.out.2 ⟨hd'.out, by rw [← hj'.out]; simpa using he⟩)).elim
            · omega
          go_wp2_with fail
          go_region_held3 (fun W => Hid True ∧ Below w.heap.size w W) (first | exact ⟨trivial, hB.drew⟩ | exact ⟨trivial, q9.trans (hb.mono q9.size)⟩) (first | (obtain ⟨-, q9⟩ : Hid True ∧ Below w.heap.size w _ := (by assumption); go_at_call 41; with_reducible refine (equal_any w.heap.size (.slice (some ⟨b, off + k, none⟩) (l.length - k) (c - k)) (.slice (some ⟨b, off, none⟩) j c) (l.drop k) (l.take j) _ (I1.below q9 (Nat.le_refl _)) (I2.below q9 (Nat.le_refl _)) q9.size).mono ?_; rintro e w' ⟨rfl, hb⟩))
          all_goals go_wp2
          all_goals go_ret
          all_goals
            obtain ⟨-, q9⟩ : Hid True ∧ Below w.heap.size w _ := (by assumption)
            exact ⟨ret_int (by rw [hkl.out]), q9⟩
      · have r2 : (((l.length % k : Nat) : Int) == 0) = false := beq_eq_false_iff_ne.2 (by omega)
        have hklt : k < leastRep l := by
          rcases Nat.lt_or_ge k (leastRep l) with h | h
          · exact h
          · exfalso
            obtain rfl : k = leastRep l := by omega
            exact hd (hq.out.1 a1).1
        clear hd
        generalize l.length % k = q at *
        go_wp2_with fail
        go_quiet (fail)
        go_wp2
        go_roundw
        case rel => exact ⟨k + 1, by omega, by omega, by go_num, below_drewN hB _⟩
        case measure => simp [intOf]; omega
    · go_wp2
      go_ret
      exact ⟨ret_int (by omega), hB⟩

/-- a row known whole, as a list -/
theorem row_ints {w : World} {g n : Nat} {xs : List Int} (h : w.heap[g]? = some (.cells (xs.map (Value.int .i64)).toArray 3 (0, 0))) (hn : n = xs.length) (hx : ∀ x ∈ xs, -9223372036854775808 ≤ x ∧ x ≤ 9223372036854775807) (hs : xs.length ≤ 500000) :
    IntsAt w.heap.size w (.slice (some ⟨g, 0, none⟩) n n) xs := by
  subst hn
  refine .inr ⟨g, 0, xs.length, rfl, (Array.getElem?_eq_some_iff.1 h).1, Nat.le_refl _, by omega, fun k hk => ⟨?_, hx _ (List.getElem_mem hk)⟩⟩
  rw [Nat.zero_add, cell_of_row w g k _ _ _ h]
  simp [hk]

/-- a make of numbers -/
theorem make_ints (n : Nat) (hn : n ≤ 1000000) : ∃ Z : List Value, Z.length = n ∧ ∀ W : World, (Instr.makeSlice 22 (.int .i64 n) (.int .i64 n)).run Try.prog W = .ok (.slice (some ⟨W.heap.size, 0, none⟩) n n) (W.alloc (.cells Z.toArray 3)) := by
  obtain ⟨i0, hi, hz0, hz1, hz2⟩ := info_parts Try.intInfo
  refine ⟨(madeCells (Value.int .i64 0).cells (n * i0.size)).toList, by rw [Array.length_toList, size_madeCells, hz1, Nat.mul_one], fun W => ?_⟩
  have := run_makeSlice (P := Try.prog) W 22 3 i0 (.int .i64 0) Try.underlying22 hi hz0 .i64 .i64 n n (by omega) (Int.le_refl _) (by rw [hz1]; omega) (by rw [hz2]; omega) (by omega)
  rw [this]
  simp

set_option maxRecDepth 100000 in
set_option maxHeartbeats 1000000 in
theorem turned_pos (B : Nat) (v : Value) (l : List Int) (f : Nat) (w : World) (hv : IntsAt B w v l) (hBw : B ≤ w.heap.size) (hf : f < l.length) (h0 : 0 < f) (hl : l.length ≤ 500000) :
    Calls Try.prog 42 #[v, .int .i64 f] w fun e w' => ∃ r, e = .returned r ∧ NewInts w.heap.size w' r (rotL l f) ∧ Below w.heap.size w w' := by
  have hv' := hv.mono hBw
  obtain ⟨o, c, rfl⟩ := hv.shape
  obtain ⟨b, off, rfl, hb, hlc, hcm, hc⟩ := hv'.at (by omega)
  obtain ⟨Z, hZ, hmk⟩ := make_ints l.length (by omega)
  obtain ⟨X1, hX1⟩ : ∃ X1, Hid (X1 = (l.drop f).map (Value.int .i64)) := ⟨_, rfl⟩
  obtain ⟨X2, hX2⟩ : ∃ X2, Hid (X2 = (l.take f).map (Value.int .i64)) := ⟨_, rfl⟩
  have n1 : X1.length = l.length - f := by rw [hX1.out]; simp
  have n2 : X2.length = f := by rw [hX2.out]; simp; omega
  have g1 : (0 : Int) ≤ (f : Int) := by omega
  have g2 : (f : Int) ≤ (l.length : Int) := by omega
  have g3 : ¬ c = f := by omega
  have g4 : (f : Int) ≤ (c : Int) := by omega
  have hA : Below w.heap.size w (w.alloc (.cells Z.toArray 3)) := (Below.refl _ _).alloc (Nat.le_refl _) _
  have hlt : f ≤ l.length := by omega
  have s1 : ∀ (W : World), Below w.heap.size w W → ∀ j u, X1[j]? = some u → W.cell? ((⟨b, off + f, none⟩ : Addr).add j) = some u := by
    intro W hW j u hu
    rw [hX1.out, List.getElem?_map] at hu
    obtain ⟨x, hx, rfl⟩ := Option.map_eq_some_iff.1 hu
    obtain ⟨hj, rfl⟩ := List.getElem?_eq_some_iff.1 hx
    rw [Addr.add_lit, List.getElem_drop, Nat.add_assoc]
    exact (hW.cell (p := ⟨b, off + (f + j), none⟩) hb).trans (hc (f + j) (by simp at hj; omega)).1
  have s2 : ∀ (W : World), Below w.heap.size w W → ∀ j u, X2[j]? = some u → W.cell? ((⟨b, off, none⟩ : Addr).add j) = some u := by
    intro W hW j u hu
    rw [hX2.out, List.getElem?_map] at hu
    obtain ⟨x, hx, rfl⟩ := Option.map_eq_some_iff.1 hu
    obtain ⟨hj, rfl⟩ := List.getElem?_eq_some_iff.1 hx
    rw [Addr.add_lit, List.getElem_take]
    exact (hW.cell (p := ⟨b, off + j, none⟩) hb).trans (hc j (by simp at hj; omega)).1
  have o1 : ∀ u ∈ X1, u.oneCell' = true := by rw [hX1.out]; exact ints_one
  have o2 : ∀ u ∈ X2, u.oneCell' = true := by rw [hX2.out]; exact ints_one
  have hsz : (Try.prog.info? 3).map (·.size) = some 1 := by kernel_rfl
  have hgw : (w.alloc (.cells Z.toArray 3)).heap[w.heap.size]? = some (.cells Z.toArray 3 (0, 0)) := heap_alloc_new w _
  have hgw' := hidi hgw
  have hres : Hid (X1 ++ X2 = (rotL l f).map (Value.int .i64)) := by unfold Hid; rw [hX1.out, hX2.out]; simp [rotL]
  clear hgw
  go_enter Try.func42, Try.ntmps42
  go_wp2_with (with_reducible refine wpList_copy_splice rfl (.tmp 10) (.tmp 13) 22 22 rfl 3 Try.underlying22 hsz (some ⟨w.heap.size, 0, none⟩) (some ⟨b, off + f, none⟩) l.length l.length (l.length - f) (c - f) rfl rfl w.heap.size 0 Z 3 hgw'.out X1 (by rw [n1]; exact (Nat.min_eq_left (Nat.sub_le _ _)).symm) (fun _ => ⟨rfl, _, rfl, s1 _ hA⟩) (by omega) o1 w.heap.size w hA (Nat.le_refl _) ?_; intro w2 hG2 hB2)
  have m1 : (0 : Int) ≤ ((l.length - f : Nat) : Int) := by omega
  have m2 : ((l.length - f : Nat) : Int) ≤ (l.length : Int) := by omega
  have m3 : ¬ l.length = l.length - f := by omega
  have hG2' : Hid (w2.drew.heap[w.heap.size]? = some (.cells (splice Z 0 X1).toArray 3 (0, 0))) := hG2.out
  have n3 : X2.length = Nat.min f (l.length - (l.length - f)) := by rw [n2]; exact (Nat.min_eq_left (by omega)).symm
  have n4 : l.length - f + X2.length ≤ (splice Z 0 X1).length := by rw [length_splice] <;> omega
  go_region_law (with_reducible refine step_copy_splice rfl (.tmp 17) (.tmp 20) 22 22 rfl 3 Try.underlying22 hsz (some ⟨w.heap.size, l.length - f, none⟩) (some ⟨b, off, none⟩) (l.length - (l.length - f)) (l.length - (l.length - f)) f c rfl rfl w.heap.size (l.length - f) (splice Z 0 X1) 3 hG2'.out X2 n3 (fun _ => ⟨rfl, _, rfl, s2 _ hB2.drew⟩) n4 o2 w.heap.size w hB2.drew (Nat.le_refl _) ?_; intro w3 hG3 hB3)
  go_wp2
  go_ret
  refine ⟨_, rfl, ⟨?_, fun g e => by simp [Value.ownBlock] at e; omega⟩, hB3⟩
  exact row_ints (by rw [← hres.out, ← splice2 Z X1 X2 _ n1 (by omega)]; exact hG3.out) (by rw [rotL_length _ _ hlt]) (fun x hx => hv.bd x (rotL_mem hx)) (by rw [rotL_length _ _ hlt]; omega)

end Go.Proofs.Ytcbddplgleeiiaa
