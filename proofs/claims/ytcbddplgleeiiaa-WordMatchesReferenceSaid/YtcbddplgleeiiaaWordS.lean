/-
  The contract of the word reference's Shortest: the normal lasso.
-/
import Derived.Test.YtcbddplgleeiiaaWordC
import Derived.Test.YtcbddplgleeiiaaWordT
namespace Go.Proofs.Ytcbddplgleeiiaa
open Go.RowKit

theorem lasSize : (Try.prog.info? 24).map (·.size) = some (#[Value.slice none 0 0, Value.slice none 0 0] : Array Value).size := by kernel_rfl

def sliceLen : Value → Nat
  | .slice _ n _ => n
  | _ => 0

set_option maxRecDepth 100000 in
set_option maxHeartbeats 1000000 in
theorem refshort_any (B : Nat) (v : Value) (s l : List Int) (w : World) (hv : LasAt B w v s l) (hBw : B ≤ w.heap.size) (hl : 0 < l.length) (hsl : s.length + l.length ≤ 500000) :
    Calls Try.prog 40 #[v] w fun e w' => ∃ r, e = .returned r ∧ NewLas w.heap.size w' r (normL s l).1 (normL s l).2 ∧ Below w.heap.size w w' := by
  obtain ⟨o1, c1, o2, c2, rfl, h1, h2⟩ := (hv.mono hBw).open
  obtain ⟨a1, a2, a3, a4⟩ := leastRep_spec hl
  have hcap : l.length ≤ c2 := by obtain ⟨_, _, _, _, h, _⟩ := h2.at hl; exact h
  have hmax : c2 ≤ 9223372036854775807 := by obtain ⟨_, _, _, _, _, h, _⟩ := h2.at hl; exact h
  obtain ⟨W0, hW0, hA, hq, e0, e1, hz⟩ : ∃ W0, Hid ((w.alloc (.cells #[.slice o1 s.length c1, .slice o2 l.length c2] 24)).alloc (.cells #[.slice none 0 0, .slice none 0 0] 24) = W0) ∧ Below w.heap.size w W0 ∧ Hid (W0.heap.size = w.heap.size + 2) ∧
      Hid (W0.cell? ⟨w.heap.size, 0, none⟩ = some (.slice o1 s.length c1)) ∧ Hid (W0.cell? ⟨w.heap.size, 1, none⟩ = some (.slice o2 l.length c2)) ∧ Hid (W0.heap[w.heap.size + 1]? = some (.cells #[.slice none 0 0, .slice none 0 0] 24)) := by
    have hX : Below w.heap.size w (w.alloc (.cells #[.slice o1 s.length c1, .slice o2 l.length c2] 24)) := (Below.refl _ _).alloc (Nat.le_refl _) _
    have hY := ((Below.refl _ (w.alloc (.cells #[.slice o1 s.length c1, .slice o2 l.length c2] 24))).alloc (Nat.le_refl _) (.cells #[.slice none 0 0, .slice none 0 0] 24))
    refine ⟨_, rfl, hX.alloc hX.size _, by unfold Hid; simp, ?_, ?_, ?_⟩
    · exact (hY.cell (p := ⟨w.heap.size, 0, none⟩) (box_lt w _)).trans (box0 w _ _ _)
    · exact (hY.cell (p := ⟨w.heap.size, 1, none⟩) (box_lt w _)).trans (box1 w _ _ _)
    · have := heap_alloc_new (w.alloc (.cells #[.slice o1 s.length c1, .slice o2 l.length c2] 24)) (.cells #[.slice none 0 0, .slice none 0 0] 24)
      rw [show (w.alloc (.cells #[.slice o1 s.length c1, .slice o2 l.length c2] 24)).heap.size = w.heap.size + 1 by simp] at this
      exact this
  have q0 : w.heap.size < W0.heap.size := by have := hq.out; omega
  go_enter Try.func40, Try.ntmps40
  go_wp2
  rw [hW0.out]
  go_loopw [3] (fun n wr => ∃ k : Nat, 1 ≤ k ∧ k ≤ leastRep l ∧ n = .int .i64 k ∧ Below W0.heap.size W0 wr) (fun n _ => leastRep l - (intOf n).toNat)
  case atStart => exact ⟨1, Nat.le_refl _, by omega, rfl, Below.refl _ _⟩
  case round =>
    obtain ⟨k, k1, k2, rfl, hB⟩ := hrel
    have d1 := (hB.cell (p := ⟨w.heap.size, 1, none⟩) q0).trans e1.out
    cases hr : decide (Rep l k)
    · go_wp2_with (go_at_call 53; refine (repeats_any w.heap.size _ l k _ (h2.below (hA.trans (hB.mono hA.size)) (Nat.le_refl _)) (Nat.le_trans hA.size hB.size) k1 (Nat.le_trans k2 a3)).mono ?_; rintro e w' ⟨rfl, hb⟩; have hB := hB.trans (hb.mono hB.size); clear hb)
      have hne : k ≠ leastRep l := by rintro rfl; exact (of_decide_eq_false hr) a1
      go_roundw
      case rel => exact ⟨k + 1, by omega, by omega, by go_num, hB⟩
      case measure => simp [intOf]; omega
    · have hk : Hid (k = leastRep l) := by
        unfold Hid
        rcases Nat.lt_or_ge k (leastRep l) with h | h
        · exact (a4 k k1 h (of_decide_eq_true hr)).elim
        · omega
      have hkc : (k : Int) ≤ (c2 : Int) := by omega
      have hk0 : (0 : Int) ≤ (k : Int) := by omega
      go_wp2_with first
        | (go_at_call 53; refine (repeats_any w.heap.size _ l k _ (h2.below (hA.trans (hB.mono hA.size)) (Nat.le_refl _)) (Nat.le_trans hA.size hB.size) k1 (Nat.le_trans k2 a3)).mono ?_; rintro e w' ⟨rfl, hb⟩; have hB := hB.trans (hb.mono hB.size); clear hb; have hB' := hB.alloc hB.size (.cells #[] 3); have d1a := (hB'.cell (p := ⟨w.heap.size, 1, none⟩) q0).trans e1.out)
        | (at_builtin; refine wpList_append_ints rfl (.tmp 13) (.tmp 17) rfl W0.heap.size (.slice (some ⟨w'.heap.size, 0, none⟩) 0 0) 0 [] rfl (World.ownsRow_made _ #[] 0 hB.size (by decide) rfl) hB'.size w.heap.size (.slice o2 k c2) (l.take k) rfl ((h2.below (hA.trans (hB'.mono hA.size)) (Nat.le_refl _)).take k (Nat.le_trans k2 a3)) (by rw [List.length_take]; omega) ?_
           intro v4 w4 hown4 hgrow4
           have hB4 := hB'.grown hgrow4 hB'.size (by rintro g ⟨⟩; exact hB.size)
           have hB4' := hB4.alloc hB4.size (.cells #[] 3)
           have d0a := (hB4'.cell (p := ⟨w.heap.size, 0, none⟩) q0).trans e0.out)
        | (at_builtin; refine wpList_append_ints rfl (.tmp 19) (.tmp 21) rfl W0.heap.size (.slice (some ⟨w4.heap.size, 0, none⟩) 0 0) 0 [] rfl (World.ownsRow_made _ #[] 0 hB4.size (by decide) rfl) hB4'.size w.heap.size (.slice o1 s.length c1) s rfl (h1.below (hA.trans (hB4'.mono hA.size)) (Nat.le_refl _)) (by omega) ?_
           intro v5 w5 hown5 hgrow5
           have hB5 := hB4'.grown hgrow5 hB4'.size (by rintro g ⟨⟩; exact hB4.size))
      rw [Nat.zero_add, List.nil_append] at hown4 hown5
      have hk4 := (hown4.alloc (.cells #[] 3)).kept hgrow5 (by
        rcases hvv : v4.ownBlock with _ | g
        · exact .inl rfl
        · right; intro e
          have := (hown4.lt g hvv).2
          simp [Value.ownBlock] at e
          omega)
      have I4 := ints_of_owns hk4 rfl (fun x hx => h2.bd x (List.mem_of_mem_take hx))
      have I5 := ints_of_owns hown5 rfl h1.bd
      have F4 := fun g e => (hown4.lt g e).1
      have F5 := fun g e => (hown5.lt g e).1
      clear hown4 hown5 hk4 hgrow4 hgrow5 hB' d1a hB4 hB4' d0a hB d1
      go_loopw [4, 5] (fun a b wr => ∃ st lp : List Int, IntsAt wr.heap.size wr b st ∧ IntsAt wr.heap.size wr a lp ∧ lp.length = k ∧ st.length ≤ s.length ∧ Below W0.heap.size W0 wr ∧ (∀ g, a.ownBlock = some g → W0.heap.size ≤ g) ∧ (∀ g, b.ownBlock = some g → W0.heap.size ≤ g) ∧ Hid (normL s l = strip st.reverse lp)) (fun _ b _ => sliceLen b)
      case atStart => exact ⟨s, l.take k, I5, I4, by rw [List.length_take, Nat.min_eq_left (Nat.le_trans k2 a3)], Nat.le_refl _, hB5, F4, F5, by unfold Hid normL; rw [hk.out]⟩
      case round =>
        clear I4 I5 F4 F5 hB5
        obtain ⟨st, lp, J5, J4, hlp, hst, hB, F4, F5, hN⟩ := hrel
        obtain ⟨o5, c5, rfl⟩ := J5.shape
        obtain ⟨o4, c4, rfl⟩ := J4.shape
        have hz1 : wr.heap[w.heap.size + 1]? = some (.cells #[.slice none 0 0, .slice none 0 0] 24) := (hB.block _ (by have := hq.out; omega)).trans hz.out
        have z0 : wr.cell? ⟨w.heap.size + 1, 0, none⟩ = some (.slice none 0 0) := cell_of_row wr _ 0 _ _ _ hz1
        have z1 : wr.cell? ⟨w.heap.size + 1, 1, none⟩ = some (.slice none 0 0) := cell_of_row wr _ 1 _ _ _ hz1
        have y0 : wr.frozen? ⟨w.heap.size + 1, 0, none⟩ = false := by simp [World.frozen?, hz1]
        have y1 : wr.frozen? ⟨w.heap.size + 1, 1, none⟩ = false := by simp [World.frozen?, hz1]
        clear hz1
        have hz2 : Hid (∀ q, (wr.drewN q).heap[w.heap.size + 1]? = some (.cells #[.slice none 0 0, .slice none 0 0] 24)) := fun q => (hB.block _ (by have := hq.out; omega)).trans hz.out
        have hAB := hA.trans (hB.mono hA.size)
        have G5 : ∀ g, (Value.slice o5 st.length c5).ownBlock = some g → w.heap.size + 2 ≤ g := fun g e => by have := F5 g e; have := hq.out; omega
        have G4 : ∀ g, (Value.slice o4 k c4).ownBlock = some g → w.heap.size + 2 ≤ g := fun g e => by have := F4 g (by rw [hlp]; exact e); have := hq.out; omega
        have hlp' := hidi hlp
        have J4k : IntsAt wr.heap.size wr (.slice o4 k c4) lp := by rw [← hlp]; exact J4
        obtain ⟨n, hn⟩ : ∃ n, k = n + 1 := ⟨k - 1, by omega⟩
        have hn' := hidi hn
        clear hn
        by_cases hpos : 0 < st.length
        · obtain ⟨m, hm⟩ : ∃ m, st.length = m + 1 := ⟨st.length - 1, by omega⟩
          have hm' := hidi hm
          have m0 : m < st.length := by omega
          have n0 : n < lp.length := by have := hn'.out; omega
          have n00 : n < k := by have := hn'.out; omega
          have r1 : IntKind.i64.wrap ((st.length : Int) - 1) = (m : Int) := by rw [IntKind.wrap_i64]; omega
          have r2 : IntKind.i64.wrap ((k : Int) - 1) = (n : Int) := by have := hn'.out; rw [IntKind.wrap_i64]; omega
          obtain ⟨b5, f5, rfl, hb5, u5, v5', hc5⟩ := J5.at hpos
          obtain ⟨b4, f4, rfl, hb4, u4', v4', hc4⟩ := J4.at (by omega)
          have dx := (hc5 m m0).1
          have dy := (hc4 n n0).1
          have x0 : (0 : Int) ≤ (m : Int) := by omega
          have x1 : (m : Int) < (st.length : Int) := by omega
          have x2 : (0 : Int) ≤ (n : Int) := by omega
          have x3 : (n : Int) < (k : Int) := by omega
          have x4 : decide ((0 : Int) < (st.length : Int)) = true := by rw [decide_eq_true_eq]; omega
          clear hm hc5 hc4
          cases heq : (st[m] == lp[n])
          · have hE : Hid (normL s l = (st, lp)) := by
              unfold Hid
              rw [hN.out]
              refine strip_stop (m := m) (n := n) hm'.out (by have := hlp'.out; have := hn'.out; omega) ?_
              simpa [m0, n0] using heq
            go_wp2_with fail
            go_quiet (fail)
            go_wp2
            (try simp only [Exit.inBlock, Exit.then])
            refine bodyPost_ret (results_cell_row rfl _ _ (w.heap.size + 1) 24 _ (0, 0) _ rfl (set2 _ _ _ _ _ _ _ (hz2.out _)) Try.underlying24 rfl lasSize) rfl ?_
            exact ⟨_, rfl, by rw [hE.out]; exact short_end hAB _ J5 J4k G5 G4 _ _⟩
          · go_wp2_with fail
            go_quiet (fail)
            go_wp2
            have hq4 : Hid (normL s l = strip (st.take m).reverse (lp[n] :: lp.take n)) := by
              unfold Hid
              rw [hN.out, strip_go (m := m) (n := n) hm'.out (by have := hlp'.out; have := hn'.out; omega) (by simpa [m0, n0] using heq)]
              simp [n0]
            generalize hw2 : World.drewN wr _ = w2
            have dy2 : w2.cell? ⟨b4, f4 + n, none⟩ = some (.int .i64 lp[n]) := by rw [← hw2]; exact dy
            have hB2 : Below W0.heap.size W0 w2 := by rw [← hw2]; exact below_drewN hB _
            have hD2 : Below wr.heap.size wr w2 := by rw [← hw2]; exact below_drewN (Below.refl _ _) _
            have x5 : (n : Int) ≤ (c4 : Int) := by omega
            clear hw2 dx dy z0 z1 y0 y1 heq hz2
            go_region_law (first
              | (refine step_append_ints rfl (.tmp 50) (.tmp 54) rfl W0.heap.size (.slice (some ⟨w2.heap.size, 0, none⟩) 1 1) 1 [.int .i64 lp[n]] (by simp [Act.eval]) (own_one _ _ hB2.size _) (Nat.le_trans hB2.size (by simp)) wr.heap.size (.slice (some ⟨b4, f4, none⟩) n c4) (lp.take n) (by simp [Act.eval]) ((J4.below (hD2.drew.alloc hD2.size _) (Nat.le_refl _)).take n (Nat.le_of_lt n0)) (by rw [List.length_take]; omega) ?_
                 intro v6 w6 hown6 hgrow6
                 have hB6 := (hB2.drew.alloc hB2.size _).grown hgrow6 (Nat.le_trans hB2.size (by simp)) (by rintro g ⟨⟩; exact hB2.size)
                 have hD6 := (hD2.drew.alloc hD2.size _).grown hgrow6 (Nat.le_trans hD2.size (by simp)) (by rintro g ⟨⟩; exact hD2.size)))
            simp only [Act.put, List.getElem_toArray, List.getElem_cons_zero, List.getElem_cons_succ, List.setIfInBounds_toArray, List.set_cons_zero, List.set_cons_succ]
            have hn6 : (lp.take n).length = n := by rw [List.length_take, Nat.min_eq_left (Nat.le_of_lt n0)]
            have I6 := ints_of_owns (xs := lp[n] :: lp.take n) hown6 (by rw [List.length_cons]; omega) (fun x hx => by
              rcases List.mem_cons.1 hx with rfl | hx
              · exact J4.bd _ (List.getElem_mem n0)
              · exact J4.bd _ (List.mem_of_mem_take hx))
            have I5 := ((J5.take m (Nat.le_of_lt m0)).below hD6 (Nat.le_refl _)).mono hD6.size
            have F6 := fun g e => (hown6.lt g e).1
            clear hown6 hgrow6
            go_wp2
            go_roundw
            case rel => exact ⟨st.take m, lp[n] :: lp.take n, I5, I6, by rw [List.length_cons, hn6]; exact hn'.out.symm, by rw [List.length_take]; omega, hB6, F6, F5, hq4⟩
            case measure => simp [sliceLen]; omega
        · have h0 : decide ((0 : Int) < (st.length : Int)) = false := by rw [decide_eq_false_iff_not]; omega
          have hE : Hid (normL s l = (st, lp)) := by
            unfold Hid
            rw [hN.out, List.eq_nil_of_length_eq_zero (by omega : st.length = 0)]
            rfl
          go_wp2_with fail
          go_quiet (fail)
          go_wp2
          (try simp only [Exit.inBlock, Exit.then])
          refine bodyPost_ret (results_cell_row rfl _ _ (w.heap.size + 1) 24 _ (0, 0) _ rfl (set2 _ _ _ _ _ _ _ (hz2.out _)) Try.underlying24 rfl lasSize) rfl ?_
          exact ⟨_, rfl, by rw [hE.out]; exact short_end hAB _ J5 J4k G5 G4 _ _⟩

end Go.Proofs.Ytcbddplgleeiiaa
