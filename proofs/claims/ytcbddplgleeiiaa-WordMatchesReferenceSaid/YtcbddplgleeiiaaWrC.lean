/-
  The contract of the word reference's Zip.
-/
import Derived.Test.YtcbddplgleeiiaaWrD
namespace Go.Proofs.Ytcbddplgleeiiaa
open Go.RowKit

/-- a zipped word of which an element is no letter is none -/
theorem zip_bad {T : List (List Int)} {sa la sb lb : List Int} (h1 : formedB sa la = true) (h2 : formedB sb lb = true) (i : Nat) (h : letB (zipF T sa la sb lb i) = false) : Hid (zipL T sa la sb lb = ([], [])) := by
  unfold Hid
  rw [zipL_eq h1 h2]
  unfold orZ
  cases h3 : formedB (zipM T sa la sb lb).1 (zipM T sa la sb lb).2
  · simp
  · exfalso
    have h4 := letAt_bd h3 i
    rw [zip_word h1 h2] at h4
    simp [letB, h4] at h

/-- the product of the loops' lengths serves as well as their least common multiple -/
theorem zip_prod {T : List (List Int)} {sa la sb lb : List Int} (h1 : formedB sa la = true) (h2 : formedB sb lb = true) :
    zipL T sa la sb lb = orZ (normL ((firstL (zipF T sa la sb lb) (zipN sa sb + la.length * lb.length)).take (zipN sa sb)) ((firstL (zipF T sa la sb lb) (zipN sa sb + la.length * lb.length)).drop (zipN sa sb))) := by
  obtain ⟨p1, -, -, -, -⟩ := formed_pos h1
  obtain ⟨q1, -, -, -, -⟩ := formed_pos h2
  have hp : 0 < la.length * lb.length := Nat.mul_pos p1 q1
  have hP : Per (zipF T sa la sb lb) (zipN sa sb) (la.length * lb.length) := by
    have := (zip_per T sa la sb lb).mul (Nat.gcd la.length lb.length)
    rwa [Nat.gcd_mul_lcm] at this
  rw [zipL_eq h1 h2, (first_parts _ _ _).1, (first_parts _ _ _).2]
  congr 1
  exact zipM_of h1 h2 (by simpa using hp) fun i => by rw [letAt_of hp hP]

theorem Frm2.grown {w X Y : World} {u t x y : Value} {row : Option Nat} (h : Frm2 w X u t x y) (hg : X.grownBy Y row) (hr : ∀ g, row = some g → w.heap.size + 1 + 1 < g) : Frm2 w Y u t x y := by
  have hlt := h.2.1.lt
  exact ⟨⟨(hg.block w.heap.size (by omega) (fun e => by have := hr _ e.symm; omega)).trans h.1.1, (hg.block (w.heap.size + 1) (by omega) (fun e => by have := hr _ e.symm; omega)).trans h.1.2⟩, resB_grown' h.2.1 hg (fun e => by have := hr _ e; omega), h.2.2.grown hg h.2.2.size (fun g e => by have := hr g e; omega)⟩

set_option maxRecDepth 100000 in
set_option maxHeartbeats 8000000 in
theorem refzip_any (B : Nat) (u v tv : Value) (sa la sb lb : List Int) (T : List (List Int)) (w : World) (hu : LasAt B w u sa la) (hv : LasAt B w v sb lb) (hT : TabAt B w tv T) (hBw : B ≤ w.heap.size) :
    Calls Try.prog 29 #[u, v, tv] w fun e w' => ∃ r, e = .returned r ∧ NewLas w.heap.size w' r (zipL T sa la sb lb).1 (zipL T sa la sb lb).2 ∧ Below w.heap.size w w' := by
  have hu' := hu.mono hBw
  have hv' := hv.mono hBw
  have hT' := hT.mono hBw
  have hTl := hT.len
  obtain ⟨oT, cT, rfl⟩ := hT.shape
  obtain ⟨o1, c1, o2, c2, rfl, -, -⟩ := hu.open
  obtain ⟨o3, c3, o4, c4, rfl, -, -⟩ := hv.open
  obtain ⟨W0, hW0, hF⟩ := frm2_open w (.slice o1 sa.length c1) (.slice o2 la.length c2) (.slice o3 sb.length c3) (.slice o4 lb.length c4)
  obtain ⟨d0, d1, d2, d3, -, -, -, -⟩ := hF.out.1.cells
  cases hf : formedB sa la
  · have hE : Hid (zipL T sa la sb lb = ([], [])) := by unfold Hid zipL; rw [hf]; rfl
    go_enter Try.func29, Try.ntmps29
    go_wp2_with fail
    rw [hW0.out]
    go_wp2_with (go_at_call 30; have hBx := hF.out.2.2; (with_reducible refine (refformed_any w.heap.size (.agg #[.slice o1 sa.length c1, .slice o2 la.length c2]) sa la _ (hu'.below hBx (Nat.le_refl _)) hBx.size).mono ?_); clear hBx; rintro e w1 ⟨rfl, hb⟩; rw [hf]; have hF1 := hidi (hF.out.call (hb.mono (Nat.le_refl _))); obtain ⟨a0, a1, z0, z1, y0, y1⟩ := hF1.out.2.1.cells; obtain ⟨d0, d1, d2, d3, -, -, -, -⟩ := hF1.out.1.cells)
    (try simp only [Exit.inBlock, Exit.then])
    refine bodyPost_ret (results_cell_row rfl _ _ (w.heap.size + 1 + 1) 24 _ (0, 0) _ rfl (hF1.out.2.1.set _ _) Try.underlying24 rfl lasSize) rfl ?_
    exact ⟨_, rfl, by rw [hE.out]; exact las_put _ _ (le_two _) hF1.out.2.2 (.inl ⟨_, _, rfl, rfl⟩) (.inl ⟨_, _, rfl, rfl⟩) (fun g e => by simp [Value.ownBlock] at e) (fun g e => by simp [Value.ownBlock] at e) _ _⟩
  · cases hg : formedB sb lb
    · have hE : Hid (zipL T sa la sb lb = ([], [])) := by unfold Hid zipL; rw [hg, Bool.and_false]; rfl
      go_enter Try.func29, Try.ntmps29
      go_wp2_with fail
      rw [hW0.out]
      go_wp2_with (first
        | (go_at_call 30; have hBx := hF.out.2.2; (with_reducible refine (refformed_any w.heap.size (.agg #[.slice o1 sa.length c1, .slice o2 la.length c2]) sa la _ (hu'.below hBx (Nat.le_refl _)) hBx.size).mono ?_); clear hBx; rintro e w1 ⟨rfl, hb⟩; rw [hf]; have hF1 := hidi (hF.out.call (hb.mono (Nat.le_refl _))); obtain ⟨d0, d1, d2, d3, -, -, -, -⟩ := hF1.out.1.cells)
        | (go_at_call 30; have hBx := hF1.out.2.2; (refine (refformed_any w.heap.size (.agg #[.slice o3 sb.length c3, .slice o4 lb.length c4]) sb lb _ (hv'.below hBx (Nat.le_refl _)) hBx.size).mono ?_); clear hBx; rintro e w2 ⟨rfl, hb2⟩; rw [hg]; have hF2 := hidi (hF1.out.call (hb2.mono (Nat.le_refl _))); clear d0 d1 d2 d3; obtain ⟨a0, a1, z0, z1, y0, y1⟩ := hF2.out.2.1.cells; obtain ⟨d0, d1, d2, d3, -, -, -, -⟩ := hF2.out.1.cells))
      (try simp only [Exit.inBlock, Exit.then])
      refine bodyPost_ret (results_cell_row rfl _ _ (w.heap.size + 1 + 1) 24 _ (0, 0) _ rfl (hF2.out.2.1.set _ _) Try.underlying24 rfl lasSize) rfl ?_
      exact ⟨_, rfl, by rw [hE.out]; exact las_put _ _ (le_two _) hF2.out.2.2 (.inl ⟨_, _, rfl, rfl⟩) (.inl ⟨_, _, rfl, rfl⟩) (fun g e => by simp [Value.ownBlock] at e) (fun g e => by simp [Value.ownBlock] at e) _ _⟩
    · obtain ⟨p1, p2, p3, -, -⟩ := formed_pos hf
      obtain ⟨s1, s2, s3, -, -⟩ := formed_pos hg
      obtain ⟨m, hm⟩ : ∃ m, Hid (m = zipN sa sb) := ⟨_, rfl⟩
      obtain ⟨p, hp⟩ : ∃ p, Hid (p = la.length * lb.length) := ⟨_, rfl⟩
      have hm1 : m ≤ 60 := by rw [hm.out]; unfold zipN; omega
      have hp0 : 0 < p := by rw [hp.out]; exact Nat.mul_pos p1 s1
      have hp1 : p ≤ 1600 := by rw [hp.out]; exact Nat.mul_le_mul p2 s2
      obtain ⟨A, hA⟩ : ∃ A, Hid (A = (List.range (m + p)).map (zipF T sa la sb lb)) := ⟨_, rfl⟩
      have hAl : Hid (A.length = m + p) := by unfold Hid; rw [hA.out]; simp
      have hAm : m ≤ A.length := by rw [hAl.out]; omega
      have hAm2 : A.length ≤ 1660 := by rw [hAl.out]; omega
      obtain ⟨S1, hS1⟩ : ∃ S1, Hid (S1 = A.take m) := ⟨_, rfl⟩
      obtain ⟨L1, hL1⟩ : ∃ L1, Hid (L1 = A.drop m) := ⟨_, rfl⟩
      have hSl : S1.length ≤ 1660 := by rw [hS1.out]; simp; omega
      have hLl : L1.length ≤ 1660 ∧ 0 < L1.length := by rw [hL1.out, List.length_drop, hAl.out]; omega
      obtain ⟨hLl1, hLl0⟩ := hLl
      obtain ⟨N1, hN1⟩ : ∃ N1, Hid (N1 = (normL S1 L1).1) := ⟨_, rfl⟩
      obtain ⟨N2, hN2⟩ : ∃ N2, Hid (N2 = (normL S1 L1).2) := ⟨_, rfl⟩
      have hE : Hid (zipL T sa la sb lb = orZ (N1, N2)) := by unfold Hid; rw [zip_prod hf hg, hN1.out, hN2.out, hS1.out, hL1.out, hA.out, hp.out, hm.out]; rfl
      have hE1 : Hid (orZ (N1, N2) = if formedB N1 N2 then (N1, N2) else ([], [])) := rfl
      have v2 : IntKind.i64.wrap ((la.length : Int) * (lb.length : Int)) = (p : Int) := by rw [show (la.length : Int) * (lb.length : Int) = (p : Int) by rw [hp.out]; simp, IntKind.wrap_i64]; omega
      have v3 : IntKind.i64.wrap ((m : Int) + (p : Int)) = (m : Int) + (p : Int) := by rw [IntKind.wrap_i64]; omega
      have v4 : (0 : Int) ≤ (m : Int) := by omega
      have v5 : (m : Int) ≤ (A.length : Int) := by omega
      by_cases hks : sa.length < sb.length
      · obtain rfl : m = sb.length := by rw [hm.out]; unfold zipN; omega
        go_enter Try.func29, Try.ntmps29
        go_wp2_with fail
        rw [hW0.out]
        go_wp2_with (first
          | (go_at_call 30; have hBx := hF.out.2.2; (with_reducible refine (refformed_any w.heap.size (.agg #[.slice o1 sa.length c1, .slice o2 la.length c2]) sa la _ (hu'.below hBx (Nat.le_refl _)) hBx.size).mono ?_); clear hBx; rintro e w1 ⟨rfl, hb⟩; rw [hf]; have hF1 := hidi (hF.out.call (hb.mono (Nat.le_refl _))); obtain ⟨d0, d1, d2, d3, -, -, -, -⟩ := hF1.out.1.cells)
          | (go_at_call 30; have hBx := hF1.out.2.2; (refine (refformed_any w.heap.size (.agg #[.slice o3 sb.length c3, .slice o4 lb.length c4]) sb lb _ (hv'.below hBx (Nat.le_refl _)) hBx.size).mono ?_); clear hBx; rintro e w2 ⟨rfl, hb2⟩; rw [hg]; have hF2 := hidi (hF1.out.call (hb2.mono (Nat.le_refl _))); clear d0 d1 d2 d3; obtain ⟨d0, d1, d2, d3, -, -, -, -⟩ := hF2.out.1.cells))
        clear d0 d1 d2 d3
        go_loopw [9, 10] (fun v i wr => ∃ k : Nat, k ≤ sb.length + p ∧ i = .int .i64 k ∧ Hid (Frm2 w wr (.slice o1 sa.length c1) (.slice o2 la.length c2) (.slice o3 sb.length c3) (.slice o4 lb.length c4)) ∧ w2.heap.size ≤ wr.heap.size ∧ wr.ownsRow w2.heap.size 3 1 v k (((List.range k).map (zipF T sa la sb lb)).map (Value.int .i64))) (fun _ i _ => sb.length + p - (intOf i).toNat)
        case atStart => exact ⟨0, Nat.zero_le _, rfl, hF2, Nat.le_refl _, World.ownsRow_nil _ _ _ _⟩
        case round =>
          obtain ⟨k, hk, rfl, hX, hsz, hown⟩ := hrel
          obtain ⟨d0, d1, d2, d3, -, -, -, -⟩ := hX.out.1.cells
          by_cases hlt : (k : Int) < (sb.length : Int) + (p : Int)
          · have hk0 : (0 : Int) ≤ (k : Int) := by omega
            have hk1 : (k : Int) ≤ 9223372036854775807 := by omega
            obtain ⟨x, hx⟩ : ∃ x : Nat, Hid (x = (letAt sa la k).toNat) := ⟨_, rfl⟩
            obtain ⟨y, hy⟩ : ∃ y : Nat, Hid (y = (letAt sb lb k).toNat) := ⟨_, rfl⟩
            have hxv : Hid (letAt sa la ((k : Int).toNat) = (x : Int)) := by unfold Hid; rw [Int.toNat_natCast, hx.out]; have := letAt_bd hf k; omega
            have hyv : Hid (letAt sb lb ((k : Int).toNat) = (y : Int)) := by unfold Hid; rw [Int.toNat_natCast, hy.out]; have := letAt_bd hg k; omega
            have hQ : Hid (zipF T sa la sb lb k = elemI T x y) := by unfold Hid zipF; rw [hx.out, hy.out]
            by_cases h1 : x < T.length
            · obtain ⟨bT, offT, u, rfl, hbT, hu1, hi⟩ := hT'.at h1
              obtain ⟨oR, cR, rfl⟩ := hi.shape
              have hE1 : Hid (elemI T x y = T[x].getD y (-1)) := by unfold Hid elemI; simp [h1]
              generalize T[x] = row at *
              have hR := hi.len
              have g1 : (0 : Int) ≤ (x : Int) := by omega
              have g2 : (x : Int) < (T.length : Int) := by omega
              by_cases h2 : y < row.length
              · obtain ⟨bR, fR, rfl, hbR, -, -, hc⟩ := hi.at (by omega)
                have hc1 := (hc y h2).1
                have hc2 := (hc y h2).2
                obtain ⟨q, hq⟩ : ∃ q : Int, Hid (q = row[y]) := ⟨row[y], hidi rfl⟩
                rw [← hq.out] at hc1 hc2
                have hE2 : Hid (zipF T sa la sb lb k = q) := by unfold Hid; rw [hQ.out, hE1.out, hq.out]; simp [h2]
                have g3 : (0 : Int) ≤ (y : Int) := by omega
                have g4 : (y : Int) < (row.length : Int) := by omega
                clear hc hq hQ hE1
                cases hql : letB q
                · have hE : Hid (zipL T sa la sb lb = ([], [])) := zip_bad hf hg k (by rw [hE2.out]; exact hql)
                  go_wp2_with (first
                    | (go_at_call 36; have hBx := hX.out.2.2; (with_reducible refine (refat_any w.heap.size (.agg #[.slice o1 sa.length c1, .slice o2 la.length c2]) sa la (k : Int) _ (hu'.below hBx (Nat.le_refl _)) hBx.size p1 hk0 hk1).mono ?_); clear hBx; rintro e w3 ⟨rfl, hb3⟩; rw [hxv.out]; have hX3 := hidi (hX.out.call hb3); obtain ⟨d0, d1, d2, d3, -, -, -, -⟩ := hX3.out.1.cells)
                    | (go_at_call 36; have hBx := hX3.out.2.2; (refine (refat_any w.heap.size (.agg #[.slice o3 sb.length c3, .slice o4 lb.length c4]) sb lb (k : Int) _ (hv'.below hBx (Nat.le_refl _)) hBx.size s1 hk0 hk1).mono ?_); clear hBx; rintro e w4 ⟨rfl, hb4⟩; rw [hyv.out]; have hX4 := hidi (hX3.out.call hb4); clear d0 d1 d2 d3; have t0 := (hX4.out.2.2.cell (p := ⟨bT, offT + x, none⟩) hbT).trans hu1; have t1 := (hX4.out.2.2.cell (p := ⟨bR, fR + y, none⟩) hbR).trans hc1; obtain ⟨a0, a1, z0, z1, y0, y1⟩ := hX4.out.2.1.cells; obtain ⟨d0, d1, d2, d3, -, -, -, -⟩ := hX4.out.1.cells)
                    | (go_at_call 45; refine (refletter_any _ _).mono ?_; rintro e w5 ⟨rfl, rfl⟩; rw [hql]))
                  (try simp only [Exit.inBlock, Exit.then])
                  refine bodyPost_ret (results_cell_row rfl _ _ (w.heap.size + 1 + 1) 24 _ (0, 0) _ rfl (hX4.out.2.1.set _ _) Try.underlying24 rfl lasSize) rfl ?_
                  exact ⟨_, rfl, by rw [hE.out]; exact las_put _ _ (le_two _) hX4.out.2.2 (.inl ⟨_, _, rfl, rfl⟩) (.inl ⟨_, _, rfl, rfl⟩) (fun g e => by simp [Value.ownBlock] at e) (fun g e => by simp [Value.ownBlock] at e) _ _⟩
                · have hq0 : 0 ≤ q ∧ q < 64 := by simpa [letB] using hql
                  go_wp2_with (first
                    | (go_at_call 36; have hBx := hX.out.2.2; (with_reducible refine (refat_any w.heap.size (.agg #[.slice o1 sa.length c1, .slice o2 la.length c2]) sa la (k : Int) _ (hu'.below hBx (Nat.le_refl _)) hBx.size p1 hk0 hk1).mono ?_); clear hBx; rintro e w3 ⟨rfl, hb3⟩; rw [hxv.out]; have hX3 := hidi (hX.out.call hb3); have hown3 := hown.kept (grownBy_of_below hb3) (by cases hx : u9.ownBlock <;> simp); have hsz3 := Nat.le_trans hsz hb3.size; obtain ⟨d0, d1, d2, d3, -, -, -, -⟩ := hX3.out.1.cells)
                    | (go_at_call 36; have hBx := hX3.out.2.2; (refine (refat_any w.heap.size (.agg #[.slice o3 sb.length c3, .slice o4 lb.length c4]) sb lb (k : Int) _ (hv'.below hBx (Nat.le_refl _)) hBx.size s1 hk0 hk1).mono ?_); clear hBx; rintro e w4 ⟨rfl, hb4⟩; rw [hyv.out]; have hX4 := hidi (hX3.out.call hb4); clear d0 d1 d2 d3; have t0 := (hX4.out.2.2.cell (p := ⟨bT, offT + x, none⟩) hbT).trans hu1; have t1 := (hX4.out.2.2.cell (p := ⟨bR, fR + y, none⟩) hbR).trans hc1; have hown4 := hown3.kept (grownBy_of_below hb4) (by cases hx : u9.ownBlock <;> simp); have hsz4 := Nat.le_trans hsz3 hb4.size; obtain ⟨d0, d1, d2, d3, -, -, -, -⟩ := hX4.out.1.cells)
                    | (go_at_call 45; refine (refletter_any _ _).mono ?_; rintro e w5 ⟨rfl, rfl⟩; rw [hql])
                    | (at_builtin; refine wpList_append_ints rfl (.tmp 74) (.tmp 82) rfl w2.heap.size u9 k _ rfl (hown4.alloc _) (Nat.le_trans hsz4 (by simp)) _ (.slice (some ⟨w4.heap.size, 0, none⟩) 1 1) [q] rfl (ints_of_owns (own_one w4 0 (Nat.zero_le _) _) rfl (fun x hx => by rw [List.mem_singleton] at hx; omega)) (by simp; omega) ?_
                       intro v6 w6 hown6 hgrow6
                       have hX6 := hidi (Frm2.grown (hX4.out.call ((Below.refl _ _).alloc (Nat.le_refl _) (.cells #[.int .i64 q] 3))) hgrow6 (fun g e => Nat.lt_of_lt_of_le hF2.out.2.1.lt (hown4.lt g e).1))
                       have hsz6 : w2.heap.size ≤ w6.heap.size := Nat.le_trans hsz4 (Nat.le_trans (by simp) hgrow6.size)))
                  go_roundw
                  case rel => exact ⟨k + 1, by omega, by go_num, hX6, hsz6, by rw [List.range_succ, List.map_append, List.map_append]; simpa [hE2.out] using hown6⟩
                  case measure => simp [intOf]; omega
              · have hE : Hid (zipL T sa la sb lb = ([], [])) := zip_bad hf hg k (by rw [hQ.out, hE1.out]; simp [show row.length ≤ y by omega, letB])
                go_wp2_with (first
                    | (go_at_call 36; have hBx := hX.out.2.2; (with_reducible refine (refat_any w.heap.size (.agg #[.slice o1 sa.length c1, .slice o2 la.length c2]) sa la (k : Int) _ (hu'.below hBx (Nat.le_refl _)) hBx.size p1 hk0 hk1).mono ?_); clear hBx; rintro e w3 ⟨rfl, hb3⟩; rw [hxv.out]; have hX3 := hidi (hX.out.call hb3); obtain ⟨d0, d1, d2, d3, -, -, -, -⟩ := hX3.out.1.cells)
                    | (go_at_call 36; have hBx := hX3.out.2.2; (refine (refat_any w.heap.size (.agg #[.slice o3 sb.length c3, .slice o4 lb.length c4]) sb lb (k : Int) _ (hv'.below hBx (Nat.le_refl _)) hBx.size s1 hk0 hk1).mono ?_); clear hBx; rintro e w4 ⟨rfl, hb4⟩; rw [hyv.out]; have hX4 := hidi (hX3.out.call hb4); clear d0 d1 d2 d3; have t0 := (hX4.out.2.2.cell (p := ⟨bT, offT + x, none⟩) hbT).trans hu1; obtain ⟨a0, a1, z0, z1, y0, y1⟩ := hX4.out.2.1.cells; obtain ⟨d0, d1, d2, d3, -, -, -, -⟩ := hX4.out.1.cells))
                (try simp only [Exit.inBlock, Exit.then])
                refine bodyPost_ret (results_cell_row rfl _ _ (w.heap.size + 1 + 1) 24 _ (0, 0) _ rfl (hX4.out.2.1.set _ _) Try.underlying24 rfl lasSize) rfl ?_
                exact ⟨_, rfl, by rw [hE.out]; exact las_put _ _ (le_two _) hX4.out.2.2 (.inl ⟨_, _, rfl, rfl⟩) (.inl ⟨_, _, rfl, rfl⟩) (fun g e => by simp [Value.ownBlock] at e) (fun g e => by simp [Value.ownBlock] at e) _ _⟩
            · have hE : Hid (zipL T sa la sb lb = ([], [])) := zip_bad hf hg k (by rw [hQ.out]; unfold elemI; simp [show T.length ≤ x by omega, letB])
              go_wp2_with (first
                    | (go_at_call 36; have hBx := hX.out.2.2; (with_reducible refine (refat_any w.heap.size (.agg #[.slice o1 sa.length c1, .slice o2 la.length c2]) sa la (k : Int) _ (hu'.below hBx (Nat.le_refl _)) hBx.size p1 hk0 hk1).mono ?_); clear hBx; rintro e w3 ⟨rfl, hb3⟩; rw [hxv.out]; have hX3 := hidi (hX.out.call hb3); obtain ⟨d0, d1, d2, d3, -, -, -, -⟩ := hX3.out.1.cells)
                    | (go_at_call 36; have hBx := hX3.out.2.2; (refine (refat_any w.heap.size (.agg #[.slice o3 sb.length c3, .slice o4 lb.length c4]) sb lb (k : Int) _ (hv'.below hBx (Nat.le_refl _)) hBx.size s1 hk0 hk1).mono ?_); clear hBx; rintro e w4 ⟨rfl, hb4⟩; rw [hyv.out]; have hX4 := hidi (hX3.out.call hb4); clear d0 d1 d2 d3; obtain ⟨a0, a1, z0, z1, y0, y1⟩ := hX4.out.2.1.cells; obtain ⟨d0, d1, d2, d3, -, -, -, -⟩ := hX4.out.1.cells))
              (try simp only [Exit.inBlock, Exit.then])
              refine bodyPost_ret (results_cell_row rfl _ _ (w.heap.size + 1 + 1) 24 _ (0, 0) _ rfl (hX4.out.2.1.set _ _) Try.underlying24 rfl lasSize) rfl ?_
              exact ⟨_, rfl, by rw [hE.out]; exact las_put _ _ (le_two _) hX4.out.2.2 (.inl ⟨_, _, rfl, rfl⟩) (.inl ⟨_, _, rfl, rfl⟩) (fun g e => by simp [Value.ownBlock] at e) (fun g e => by simp [Value.ownBlock] at e) _ _⟩
          · obtain rfl : k = sb.length + p := by omega
            have I0 : IntsAt wr.heap.size wr u9 A := by rw [hA.out]; exact ints_of_owns hown (by simp) (fun x hx => by
              obtain ⟨i, _, rfl⟩ := List.mem_map.1 hx
              exact elemI_bd hT' _ _)
            obtain ⟨o5, c5, rfl⟩ := I0.shape
            have I1 : IntsAt wr.heap.size wr (.slice o5 sb.length c5) S1 := by rw [hS1.out]; exact I0.take _ hAm
            obtain ⟨O2, hO2⟩ : ∃ O2, (if c5 = sb.length then o5 else o5.map (fun a => a.add sb.length)) = O2 := ⟨_, rfl⟩
            have I2 : IntsAt wr.heap.size wr (.slice O2 (A.length - sb.length) (c5 - sb.length)) L1 := by rw [hL1.out, ← hO2]; exact slice_drop I0 _ hAm
            have hAc := I0.cap
            have v6 : (sb.length : Int) ≤ (c5 : Int) := by omega
            have hst : Hid (ResB wr (w.heap.size + 1 + 1)) := hidi hX.out.2.1
            have hWr := hX.out.2.2
            clear d0 d1 d2 d3 hks hown
            go_wp2
            cases hz : formedB N1 N2
            all_goals go_region_held3 (fun W => Hid (ResB W (w.heap.size + 1 + 1)) ∧ Below w.heap.size w W) (first | exact ⟨hst, hWr.drew⟩ | exact ⟨q7, q6⟩ | exact res_store (le_two _) q7 q6 _ _) (first | (obtain ⟨q8, q9⟩ : Hid (ResB _ (w.heap.size + 1 + 1)) ∧ Below w.heap.size w _ := (by assumption); go_at_call 40; refine (refshort_any _ _ S1 L1 _ ⟨_, _, rfl, I1.drewMono, I2.drewMono⟩ (Nat.le_refl _) hLl0 (by omega)).mono ?_; rintro e w6 ⟨r6, rfl, hN6, hb6⟩; rw [← hN1.out, ← hN2.out] at hN6; obtain ⟨u5, u4, rfl, J5, J4, F5, F4⟩ := hN6.ex; obtain ⟨x5, k5, rfl⟩ := J5.shape; obtain ⟨x4, k4, rfl⟩ := J4.shape; have hs6 := q8.out.lt; have q7 := hidi (q8.out.below hb6); have q6 := q9.trans (hb6.mono q9.size)) | (obtain ⟨q8, q9⟩ : Hid (ResB _ (w.heap.size + 1 + 1)) ∧ Below w.heap.size w _ := (by assumption); go_at_call 46; refine (refformedL_any _ _ N1 N2 _ hN6.las (Nat.le_refl _)).mono ?_; rintro e w7 ⟨rfl, hb7⟩; rw [hz]; simp only [if_true, if_false, Bool.false_eq_true]; have q7 := hidi (q8.out.below hb7); have q6 := q9.trans (hb7.mono q9.size); obtain ⟨a0, a1, z0, z1, y0, y1⟩ := q7.out.cells))
            all_goals go_wp2
            all_goals (try simp only [Exit.inBlock, Exit.then])
            all_goals refine bodyPost_ret (results_cell_row rfl _ _ (w.heap.size + 1 + 1) 24 _ (0, 0) _ rfl (q7.out.set _ _) Try.underlying24 rfl lasSize) rfl ?_
            · exact ⟨_, rfl, by rw [hE.out, hE1.out, hz]; exact las_put _ _ (le_two _) q6 (.inl ⟨_, _, rfl, rfl⟩) (.inl ⟨_, _, rfl, rfl⟩) (fun g e => by simp [Value.ownBlock] at e) (fun g e => by simp [Value.ownBlock] at e) _ _⟩
            · exact ⟨_, rfl, by rw [hE.out, hE1.out, hz]; exact las_put _ _ (le_two _) q6 ((J5.below hb7 (Nat.le_refl _)).mono hb7.size) ((J4.below hb7 (Nat.le_refl _)).mono hb7.size) (fun g e => Nat.lt_of_lt_of_le hs6 (F5 g e)) (fun g e => Nat.lt_of_lt_of_le hs6 (F4 g e)) _ _⟩
      · obtain rfl : m = sa.length := by rw [hm.out]; unfold zipN; omega
        go_enter Try.func29, Try.ntmps29
        go_wp2_with fail
        rw [hW0.out]
        go_wp2_with (first
          | (go_at_call 30; have hBx := hF.out.2.2; (with_reducible refine (refformed_any w.heap.size (.agg #[.slice o1 sa.length c1, .slice o2 la.length c2]) sa la _ (hu'.below hBx (Nat.le_refl _)) hBx.size).mono ?_); clear hBx; rintro e w1 ⟨rfl, hb⟩; rw [hf]; have hF1 := hidi (hF.out.call (hb.mono (Nat.le_refl _))); obtain ⟨d0, d1, d2, d3, -, -, -, -⟩ := hF1.out.1.cells)
          | (go_at_call 30; have hBx := hF1.out.2.2; (refine (refformed_any w.heap.size (.agg #[.slice o3 sb.length c3, .slice o4 lb.length c4]) sb lb _ (hv'.below hBx (Nat.le_refl _)) hBx.size).mono ?_); clear hBx; rintro e w2 ⟨rfl, hb2⟩; rw [hg]; have hF2 := hidi (hF1.out.call (hb2.mono (Nat.le_refl _))); clear d0 d1 d2 d3; obtain ⟨d0, d1, d2, d3, -, -, -, -⟩ := hF2.out.1.cells))
        clear d0 d1 d2 d3
        go_loopw [9, 10] (fun v i wr => ∃ k : Nat, k ≤ sa.length + p ∧ i = .int .i64 k ∧ Hid (Frm2 w wr (.slice o1 sa.length c1) (.slice o2 la.length c2) (.slice o3 sb.length c3) (.slice o4 lb.length c4)) ∧ w2.heap.size ≤ wr.heap.size ∧ wr.ownsRow w2.heap.size 3 1 v k (((List.range k).map (zipF T sa la sb lb)).map (Value.int .i64))) (fun _ i _ => sa.length + p - (intOf i).toNat)
        case atStart => exact ⟨0, Nat.zero_le _, rfl, hF2, Nat.le_refl _, World.ownsRow_nil _ _ _ _⟩
        case round =>
          obtain ⟨k, hk, rfl, hX, hsz, hown⟩ := hrel
          obtain ⟨d0, d1, d2, d3, -, -, -, -⟩ := hX.out.1.cells
          by_cases hlt : (k : Int) < (sa.length : Int) + (p : Int)
          · have hk0 : (0 : Int) ≤ (k : Int) := by omega
            have hk1 : (k : Int) ≤ 9223372036854775807 := by omega
            obtain ⟨x, hx⟩ : ∃ x : Nat, Hid (x = (letAt sa la k).toNat) := ⟨_, rfl⟩
            obtain ⟨y, hy⟩ : ∃ y : Nat, Hid (y = (letAt sb lb k).toNat) := ⟨_, rfl⟩
            have hxv : Hid (letAt sa la ((k : Int).toNat) = (x : Int)) := by unfold Hid; rw [Int.toNat_natCast, hx.out]; have := letAt_bd hf k; omega
            have hyv : Hid (letAt sb lb ((k : Int).toNat) = (y : Int)) := by unfold Hid; rw [Int.toNat_natCast, hy.out]; have := letAt_bd hg k; omega
            have hQ : Hid (zipF T sa la sb lb k = elemI T x y) := by unfold Hid zipF; rw [hx.out, hy.out]
            by_cases h1 : x < T.length
            · obtain ⟨bT, offT, u, rfl, hbT, hu1, hi⟩ := hT'.at h1
              obtain ⟨oR, cR, rfl⟩ := hi.shape
              have hE1 : Hid (elemI T x y = T[x].getD y (-1)) := by unfold Hid elemI; simp [h1]
              generalize T[x] = row at *
              have hR := hi.len
              have g1 : (0 : Int) ≤ (x : Int) := by omega
              have g2 : (x : Int) < (T.length : Int) := by omega
              by_cases h2 : y < row.length
              · obtain ⟨bR, fR, rfl, hbR, -, -, hc⟩ := hi.at (by omega)
                have hc1 := (hc y h2).1
                have hc2 := (hc y h2).2
                obtain ⟨q, hq⟩ : ∃ q : Int, Hid (q = row[y]) := ⟨row[y], hidi rfl⟩
                rw [← hq.out] at hc1 hc2
                have hE2 : Hid (zipF T sa la sb lb k = q) := by unfold Hid; rw [hQ.out, hE1.out, hq.out]; simp [h2]
                have g3 : (0 : Int) ≤ (y : Int) := by omega
                have g4 : (y : Int) < (row.length : Int) := by omega
                clear hc hq hQ hE1
                cases hql : letB q
                · have hE : Hid (zipL T sa la sb lb = ([], [])) := zip_bad hf hg k (by rw [hE2.out]; exact hql)
                  go_wp2_with (first
                    | (go_at_call 36; have hBx := hX.out.2.2; (with_reducible refine (refat_any w.heap.size (.agg #[.slice o1 sa.length c1, .slice o2 la.length c2]) sa la (k : Int) _ (hu'.below hBx (Nat.le_refl _)) hBx.size p1 hk0 hk1).mono ?_); clear hBx; rintro e w3 ⟨rfl, hb3⟩; rw [hxv.out]; have hX3 := hidi (hX.out.call hb3); obtain ⟨d0, d1, d2, d3, -, -, -, -⟩ := hX3.out.1.cells)
                    | (go_at_call 36; have hBx := hX3.out.2.2; (refine (refat_any w.heap.size (.agg #[.slice o3 sb.length c3, .slice o4 lb.length c4]) sb lb (k : Int) _ (hv'.below hBx (Nat.le_refl _)) hBx.size s1 hk0 hk1).mono ?_); clear hBx; rintro e w4 ⟨rfl, hb4⟩; rw [hyv.out]; have hX4 := hidi (hX3.out.call hb4); clear d0 d1 d2 d3; have t0 := (hX4.out.2.2.cell (p := ⟨bT, offT + x, none⟩) hbT).trans hu1; have t1 := (hX4.out.2.2.cell (p := ⟨bR, fR + y, none⟩) hbR).trans hc1; obtain ⟨a0, a1, z0, z1, y0, y1⟩ := hX4.out.2.1.cells; obtain ⟨d0, d1, d2, d3, -, -, -, -⟩ := hX4.out.1.cells)
                    | (go_at_call 45; refine (refletter_any _ _).mono ?_; rintro e w5 ⟨rfl, rfl⟩; rw [hql]))
                  (try simp only [Exit.inBlock, Exit.then])
                  refine bodyPost_ret (results_cell_row rfl _ _ (w.heap.size + 1 + 1) 24 _ (0, 0) _ rfl (hX4.out.2.1.set _ _) Try.underlying24 rfl lasSize) rfl ?_
                  exact ⟨_, rfl, by rw [hE.out]; exact las_put _ _ (le_two _) hX4.out.2.2 (.inl ⟨_, _, rfl, rfl⟩) (.inl ⟨_, _, rfl, rfl⟩) (fun g e => by simp [Value.ownBlock] at e) (fun g e => by simp [Value.ownBlock] at e) _ _⟩
                · have hq0 : 0 ≤ q ∧ q < 64 := by simpa [letB] using hql
                  go_wp2_with (first
                    | (go_at_call 36; have hBx := hX.out.2.2; (with_reducible refine (refat_any w.heap.size (.agg #[.slice o1 sa.length c1, .slice o2 la.length c2]) sa la (k : Int) _ (hu'.below hBx (Nat.le_refl _)) hBx.size p1 hk0 hk1).mono ?_); clear hBx; rintro e w3 ⟨rfl, hb3⟩; rw [hxv.out]; have hX3 := hidi (hX.out.call hb3); have hown3 := hown.kept (grownBy_of_below hb3) (by cases hx : u9.ownBlock <;> simp); have hsz3 := Nat.le_trans hsz hb3.size; obtain ⟨d0, d1, d2, d3, -, -, -, -⟩ := hX3.out.1.cells)
                    | (go_at_call 36; have hBx := hX3.out.2.2; (refine (refat_any w.heap.size (.agg #[.slice o3 sb.length c3, .slice o4 lb.length c4]) sb lb (k : Int) _ (hv'.below hBx (Nat.le_refl _)) hBx.size s1 hk0 hk1).mono ?_); clear hBx; rintro e w4 ⟨rfl, hb4⟩; rw [hyv.out]; have hX4 := hidi (hX3.out.call hb4); clear d0 d1 d2 d3; have t0 := (hX4.out.2.2.cell (p := ⟨bT, offT + x, none⟩) hbT).trans hu1; have t1 := (hX4.out.2.2.cell (p := ⟨bR, fR + y, none⟩) hbR).trans hc1; have hown4 := hown3.kept (grownBy_of_below hb4) (by cases hx : u9.ownBlock <;> simp); have hsz4 := Nat.le_trans hsz3 hb4.size; obtain ⟨d0, d1, d2, d3, -, -, -, -⟩ := hX4.out.1.cells)
                    | (go_at_call 45; refine (refletter_any _ _).mono ?_; rintro e w5 ⟨rfl, rfl⟩; rw [hql])
                    | (at_builtin; refine wpList_append_ints rfl (.tmp 74) (.tmp 82) rfl w2.heap.size u9 k _ rfl (hown4.alloc _) (Nat.le_trans hsz4 (by simp)) _ (.slice (some ⟨w4.heap.size, 0, none⟩) 1 1) [q] rfl (ints_of_owns (own_one w4 0 (Nat.zero_le _) _) rfl (fun x hx => by rw [List.mem_singleton] at hx; omega)) (by simp; omega) ?_
                       intro v6 w6 hown6 hgrow6
                       have hX6 := hidi (Frm2.grown (hX4.out.call ((Below.refl _ _).alloc (Nat.le_refl _) (.cells #[.int .i64 q] 3))) hgrow6 (fun g e => Nat.lt_of_lt_of_le hF2.out.2.1.lt (hown4.lt g e).1))
                       have hsz6 : w2.heap.size ≤ w6.heap.size := Nat.le_trans hsz4 (Nat.le_trans (by simp) hgrow6.size)))
                  go_roundw
                  case rel => exact ⟨k + 1, by omega, by go_num, hX6, hsz6, by rw [List.range_succ, List.map_append, List.map_append]; simpa [hE2.out] using hown6⟩
                  case measure => simp [intOf]; omega
              · have hE : Hid (zipL T sa la sb lb = ([], [])) := zip_bad hf hg k (by rw [hQ.out, hE1.out]; simp [show row.length ≤ y by omega, letB])
                go_wp2_with (first
                    | (go_at_call 36; have hBx := hX.out.2.2; (with_reducible refine (refat_any w.heap.size (.agg #[.slice o1 sa.length c1, .slice o2 la.length c2]) sa la (k : Int) _ (hu'.below hBx (Nat.le_refl _)) hBx.size p1 hk0 hk1).mono ?_); clear hBx; rintro e w3 ⟨rfl, hb3⟩; rw [hxv.out]; have hX3 := hidi (hX.out.call hb3); obtain ⟨d0, d1, d2, d3, -, -, -, -⟩ := hX3.out.1.cells)
                    | (go_at_call 36; have hBx := hX3.out.2.2; (refine (refat_any w.heap.size (.agg #[.slice o3 sb.length c3, .slice o4 lb.length c4]) sb lb (k : Int) _ (hv'.below hBx (Nat.le_refl _)) hBx.size s1 hk0 hk1).mono ?_); clear hBx; rintro e w4 ⟨rfl, hb4⟩; rw [hyv.out]; have hX4 := hidi (hX3.out.call hb4); clear d0 d1 d2 d3; have t0 := (hX4.out.2.2.cell (p := ⟨bT, offT + x, none⟩) hbT).trans hu1; obtain ⟨a0, a1, z0, z1, y0, y1⟩ := hX4.out.2.1.cells; obtain ⟨d0, d1, d2, d3, -, -, -, -⟩ := hX4.out.1.cells))
                (try simp only [Exit.inBlock, Exit.then])
                refine bodyPost_ret (results_cell_row rfl _ _ (w.heap.size + 1 + 1) 24 _ (0, 0) _ rfl (hX4.out.2.1.set _ _) Try.underlying24 rfl lasSize) rfl ?_
                exact ⟨_, rfl, by rw [hE.out]; exact las_put _ _ (le_two _) hX4.out.2.2 (.inl ⟨_, _, rfl, rfl⟩) (.inl ⟨_, _, rfl, rfl⟩) (fun g e => by simp [Value.ownBlock] at e) (fun g e => by simp [Value.ownBlock] at e) _ _⟩
            · have hE : Hid (zipL T sa la sb lb = ([], [])) := zip_bad hf hg k (by rw [hQ.out]; unfold elemI; simp [show T.length ≤ x by omega, letB])
              go_wp2_with (first
                    | (go_at_call 36; have hBx := hX.out.2.2; (with_reducible refine (refat_any w.heap.size (.agg #[.slice o1 sa.length c1, .slice o2 la.length c2]) sa la (k : Int) _ (hu'.below hBx (Nat.le_refl _)) hBx.size p1 hk0 hk1).mono ?_); clear hBx; rintro e w3 ⟨rfl, hb3⟩; rw [hxv.out]; have hX3 := hidi (hX.out.call hb3); obtain ⟨d0, d1, d2, d3, -, -, -, -⟩ := hX3.out.1.cells)
                    | (go_at_call 36; have hBx := hX3.out.2.2; (refine (refat_any w.heap.size (.agg #[.slice o3 sb.length c3, .slice o4 lb.length c4]) sb lb (k : Int) _ (hv'.below hBx (Nat.le_refl _)) hBx.size s1 hk0 hk1).mono ?_); clear hBx; rintro e w4 ⟨rfl, hb4⟩; rw [hyv.out]; have hX4 := hidi (hX3.out.call hb4); clear d0 d1 d2 d3; obtain ⟨a0, a1, z0, z1, y0, y1⟩ := hX4.out.2.1.cells; obtain ⟨d0, d1, d2, d3, -, -, -, -⟩ := hX4.out.1.cells))
              (try simp only [Exit.inBlock, Exit.then])
              refine bodyPost_ret (results_cell_row rfl _ _ (w.heap.size + 1 + 1) 24 _ (0, 0) _ rfl (hX4.out.2.1.set _ _) Try.underlying24 rfl lasSize) rfl ?_
              exact ⟨_, rfl, by rw [hE.out]; exact las_put _ _ (le_two _) hX4.out.2.2 (.inl ⟨_, _, rfl, rfl⟩) (.inl ⟨_, _, rfl, rfl⟩) (fun g e => by simp [Value.ownBlock] at e) (fun g e => by simp [Value.ownBlock] at e) _ _⟩
          · obtain rfl : k = sa.length + p := by omega
            have I0 : IntsAt wr.heap.size wr u9 A := by rw [hA.out]; exact ints_of_owns hown (by simp) (fun x hx => by
              obtain ⟨i, _, rfl⟩ := List.mem_map.1 hx
              exact elemI_bd hT' _ _)
            obtain ⟨o5, c5, rfl⟩ := I0.shape
            have I1 : IntsAt wr.heap.size wr (.slice o5 sa.length c5) S1 := by rw [hS1.out]; exact I0.take _ hAm
            obtain ⟨O2, hO2⟩ : ∃ O2, (if c5 = sa.length then o5 else o5.map (fun a => a.add sa.length)) = O2 := ⟨_, rfl⟩
            have I2 : IntsAt wr.heap.size wr (.slice O2 (A.length - sa.length) (c5 - sa.length)) L1 := by rw [hL1.out, ← hO2]; exact slice_drop I0 _ hAm
            have hAc := I0.cap
            have v6 : (sa.length : Int) ≤ (c5 : Int) := by omega
            have hst : Hid (ResB wr (w.heap.size + 1 + 1)) := hidi hX.out.2.1
            have hWr := hX.out.2.2
            clear d0 d1 d2 d3 hks hown
            go_wp2
            cases hz : formedB N1 N2
            all_goals go_region_held3 (fun W => Hid (ResB W (w.heap.size + 1 + 1)) ∧ Below w.heap.size w W) (first | exact ⟨hst, hWr.drew⟩ | exact ⟨q7, q6⟩ | exact res_store (le_two _) q7 q6 _ _) (first | (obtain ⟨q8, q9⟩ : Hid (ResB _ (w.heap.size + 1 + 1)) ∧ Below w.heap.size w _ := (by assumption); go_at_call 40; refine (refshort_any _ _ S1 L1 _ ⟨_, _, rfl, I1.drewMono, I2.drewMono⟩ (Nat.le_refl _) hLl0 (by omega)).mono ?_; rintro e w6 ⟨r6, rfl, hN6, hb6⟩; rw [← hN1.out, ← hN2.out] at hN6; obtain ⟨u5, u4, rfl, J5, J4, F5, F4⟩ := hN6.ex; obtain ⟨x5, k5, rfl⟩ := J5.shape; obtain ⟨x4, k4, rfl⟩ := J4.shape; have hs6 := q8.out.lt; have q7 := hidi (q8.out.below hb6); have q6 := q9.trans (hb6.mono q9.size)) | (obtain ⟨q8, q9⟩ : Hid (ResB _ (w.heap.size + 1 + 1)) ∧ Below w.heap.size w _ := (by assumption); go_at_call 46; refine (refformedL_any _ _ N1 N2 _ hN6.las (Nat.le_refl _)).mono ?_; rintro e w7 ⟨rfl, hb7⟩; rw [hz]; simp only [if_true, if_false, Bool.false_eq_true]; have q7 := hidi (q8.out.below hb7); have q6 := q9.trans (hb7.mono q9.size); obtain ⟨a0, a1, z0, z1, y0, y1⟩ := q7.out.cells))
            all_goals go_wp2
            all_goals (try simp only [Exit.inBlock, Exit.then])
            all_goals refine bodyPost_ret (results_cell_row rfl _ _ (w.heap.size + 1 + 1) 24 _ (0, 0) _ rfl (q7.out.set _ _) Try.underlying24 rfl lasSize) rfl ?_
            · exact ⟨_, rfl, by rw [hE.out, hE1.out, hz]; exact las_put _ _ (le_two _) q6 (.inl ⟨_, _, rfl, rfl⟩) (.inl ⟨_, _, rfl, rfl⟩) (fun g e => by simp [Value.ownBlock] at e) (fun g e => by simp [Value.ownBlock] at e) _ _⟩
            · exact ⟨_, rfl, by rw [hE.out, hE1.out, hz]; exact las_put _ _ (le_two _) q6 ((J5.below hb7 (Nat.le_refl _)).mono hb7.size) ((J4.below hb7 (Nat.le_refl _)).mono hb7.size) (fun g e => Nat.lt_of_lt_of_le hs6 (F5 g e)) (fun g e => Nat.lt_of_lt_of_le hs6 (F4 g e)) _ _⟩

end Go.Proofs.Ytcbddplgleeiiaa
