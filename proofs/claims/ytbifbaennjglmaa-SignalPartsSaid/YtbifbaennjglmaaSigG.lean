/-
  Contracts of the signal package's exported functions: Make and Join.
-/
import Derived.Test.YtbifbaennjglmaaSigF
namespace Go.Proofs.Ytbifbaennjglmaa
open Go.RowKit

/-- the values are as many as the signals, each one of its signal's -/
def okV : List Sig → List Int → Bool
  | s :: r, v :: vs => belowB v s.size && okV r vs
  | [], [] => true
  | _, _ => false

theorem okV_length : ∀ {l : List Sig} {vs : List Int}, okV l vs = true → vs.length = l.length
  | [], [], _ => rfl
  | [], _ :: _, h => by simp [okV] at h
  | _ :: _, [], h => by simp [okV] at h
  | _ :: _, _ :: _, h => by
    simp only [okV, Bool.and_eq_true] at h
    simp [okV_length h.2]

theorem okV_few : ∀ {l : List Sig} {vs : List Int}, Sized l → okV l vs = true → Few vs
  | [], [], _, _ => by intro v hv; cases hv
  | [], _ :: _, _, h => by simp [okV] at h
  | _ :: _, [], _, h => by simp [okV] at h
  | s :: r, v :: vs, hs, h => by
    simp only [okV, Bool.and_eq_true, belowB_iff] at h
    obtain ⟨h3, h4⟩ := hs s (List.mem_cons_self ..)
    intro u hu
    rcases List.mem_cons.1 hu with rfl | hu
    · omega
    · exact okV_few (fun s' hs' => hs s' (List.mem_cons_of_mem _ hs')) h.2 u hu

/-- what Make returns -/
def makeOk (l : List Sig) (vs : List Int) : Bool := validB l && okV l vs
def makeI (l : List Sig) (vs : List Int) : Int := if makeOk l vs then comp allS l vs else 0

set_option maxHeartbeats 1000000 in
theorem make_any (B : Nat) (v u : Value) (l : List Sig) (vs : List Int) (w : World) (hl : Sigs B w v l) (hu : IntsAt B w u vs) (hBw : B ≤ w.heap.size) :
    Calls Try.prog 11 #[v, u] w fun e w' => e = .returned (.tuple #[.int .i64 (makeI l vs), .bool (makeOk l vs)]) ∧ Below w.heap.size w w' := by
  have hl' := hl.mono hBw
  have hlen : ∃ o c, v = .slice o l.length c := by
    rcases id hl with ⟨ov, cv, rfl, rfl⟩ | ⟨b, off, cap, rfl, _⟩
    · exact ⟨_, _, rfl⟩
    · exact ⟨_, _, rfl⟩
  obtain ⟨ov, cv, rfl⟩ := hlen
  have hlenu : ∃ o c, u = .slice o vs.length c := by
    rcases id hu with ⟨ov, cv, rfl, rfl⟩ | ⟨b, off, cap, rfl, _⟩
    · exact ⟨_, _, rfl⟩
    · exact ⟨_, _, rfl⟩
  obtain ⟨ou, cu, rfl⟩ := hlenu
  cases hv : validB l
  · go_enter Try.func11, Try.ntmps11
    go_wp2_with first | (go_at_call 13; refine (valid_any _ _ l _ hl' (Nat.le_refl _)).mono ?_; rintro e w' ⟨rfl, hb1⟩)
    go_ret2
    exact ⟨by simp [makeI, makeOk, hv], hb1⟩
  · by_cases hne : vs.length = l.length
    · have hw := (valid_iff l).1 hv
      have hl1 := hw.len1
      rcases hl' with ⟨_, _, h, rfl⟩ | ⟨b, off, cap, h, hb, hcap, hm, hc⟩
      · simp at hl1
      rcases id (hu.mono hBw) with ⟨_, _, h', rfl⟩ | ⟨vb, voff, vcap, h', hvb, hvcap, hvm, hvc⟩
      · simp at hne; omega
      cases h
      cases h'
      rw [hne]
      have hne2 : (((l.length : Int)) != (l.length : Int)) = false := by simp
      have hl' := hl.mono hBw
      go_enter Try.func11, Try.ntmps11
      go_wp2_with first | (go_at_call 13; refine (valid_any _ _ l _ hl' (Nat.le_refl _)).mono ?_; rintro e w1 ⟨rfl, hb1⟩)
      have hm2 : l.length ≤ 9223372036854775807 := by have := hw.len6; omega
      go_loop [20] (fun i => ∃ k : Nat, k ≤ l.length ∧ i = .int .i64 k ∧ Hid (okV l vs = okV (l.drop k) (vs.drop k))) (fun i => l.length - (intOf i).toNat)
      case atStart => exact ⟨0, Nat.zero_le _, rfl, rfl⟩
      case round =>
        obtain ⟨k, hk, rfl, hF⟩ := hrel
        by_cases hlt : k < l.length
        · have hlt' : k < vs.length := by omega
          obtain ⟨c0, c1, c2, -, c4, c5⟩ := (hc k hlt).below hb1 hb
          have d0 := (hb1.cell (p := ⟨vb, voff + k, none⟩) hvb).trans (hvc k hlt').1
          have hS : Hid (okV (l.drop k) (vs.drop k) = (belowB vs[k] l[k].size && okV (l.drop (k + 1)) (vs.drop (k + 1)))) := by
            unfold Hid; rw [List.drop_eq_getElem_cons hlt, List.drop_eq_getElem_cons hlt']; rfl
          cases hbk : belowB vs[k] l[k].size
          · go_wp2_with (go_at_call 36; refine (below_b _ _ _).mono ?_; rintro e w' ⟨rfl, rfl⟩)
            go_ret2
            have : okV l vs = false := by rw [hF.out, hS.out, hbk]; rfl
            exact ⟨by simp [makeI, makeOk, this], hb1⟩
          · go_wp2_with (go_at_call 36; refine (below_b _ _ _).mono ?_; rintro e w' ⟨rfl, rfl⟩)
            go_round
            case rel => exact ⟨k + 1, by omega, by go_num, hF.out.trans (hS.out.trans (by rw [hbk]; rfl))⟩
            case measure => simp [intOf]; omega
        · have hok : Hid (okV l vs = true) := by unfold Hid; rw [hF.out, List.drop_of_length_le (by omega), List.drop_of_length_le (by omega)]; rfl
          have hfew := okV_few hw.sized hok.out
          have hl1' := (hl'.below hb1 (Nat.le_refl _)).mono hb1.size
          go_wp2_with first | (go_at_call 38; refine (whole_any _).mono ?_; rintro e w' ⟨rfl, rfl⟩)
          have hcp := compose_any b off cv vb voff cu _ allS l vs _ hl1' (sel_whole _ _) hl1 hne (Nat.lt_of_lt_of_le hvb hb1.size) (fun k h => (hb1.cell (p := ⟨vb, voff + k, none⟩) hvb).trans (hvc k h).1)
          refine hcp.mono ?_
          clear hcp
          rintro e w' ⟨rfl, hb2⟩
          go_wp2
          go_ret2
          exact ⟨by rw [composeW_eq hw allS hne hfew]; simp [makeI, makeOk, hv, hok.out], hb1.trans (hb2.mono hb1.size)⟩
    · have hne2 : ((vs.length : Int) != (l.length : Int)) = true := by simp; omega
      have hok : okV l vs = false := by
        cases h : okV l vs
        · rfl
        · exact (hne (okV_length h)).elim
      go_enter Try.func11, Try.ntmps11
      go_wp2_with first | (go_at_call 13; refine (valid_any _ _ l _ hl' (Nat.le_refl _)).mono ?_; rintro e w' ⟨rfl, hb1⟩)
      go_ret2
      exact ⟨by simp [makeI, makeOk, hok], hb1⟩

/-- what Join returns -/
def joinOk (l : List Sig) (i o : Int) : Bool := belowB i (cntI (inS true) l) && belowB o (cntI (inS false) l)
def joinV (l : List Sig) (i o : Int) : List Int := dec (inS false) l o (dec (inS true) l i (List.replicate l.length 0))
def joinI (l : List Sig) (i o : Int) : Int := if joinOk l i o then comp allS l (joinV l i o) else 0

set_option maxHeartbeats 1000000 in
theorem join_any (B : Nat) (v : Value) (l : List Sig) (i o : Int) (w : World) (hl : Sigs B w v l) (hBw : B ≤ w.heap.size) :
    Calls Try.prog 31 #[v, .int .i64 i, .int .i64 o] w fun e w' => e = .returned (.int .i64 (joinI l i o)) ∧ Below w.heap.size w w' := by
  have hl' := hl.mono hBw
  cases hi : belowB i (cntI (inS true) l)
  · go_enter Try.func31, Try.ntmps31
    go_wp2_with first | (go_at_call 21; refine (inputs_any _ _ l _ hl' (Nat.le_refl _)).mono ?_; rintro e w' ⟨rfl, hb1⟩) | (go_at_call 36; refine (below_b _ _ _).mono ?_; rintro e w' ⟨rfl, rfl⟩)
    go_ret
    exact ⟨ret_int (by unfold joinI joinOk; rw [hi]; rfl), hb1⟩
  · have hv := cntI_pos hi
    have hl1 := hv.len1
    have hl6 := hv.len6
    have hlei := cnt_le (p := inS true) hv
    obtain ⟨hi0, hi1⟩ := (belowB_iff _ _).1 hi
    cases ho : belowB o (cntI (inS false) l)
    · go_enter Try.func31, Try.ntmps31
      go_wp2_with first | (go_at_call 21; refine (inputs_any _ _ l _ hl' (Nat.le_refl _)).mono ?_; rintro e w' ⟨rfl, hb1⟩) | (go_at_call 36; refine (below_b _ _ _).mono ?_; rintro e w' ⟨rfl, rfl⟩) | (go_at_call 23; refine (outputs_any _ _ l _ (hl'.below hb1 (Nat.le_refl _)) hb1.size).mono ?_; rintro e w2 ⟨rfl, hb2⟩)
      go_ret
      exact ⟨ret_int (by unfold joinI joinOk; rw [hi, ho]; rfl), hb1.trans (hb2.mono hb1.size)⟩
    · have hleo := cnt_le (p := inS false) hv
      obtain ⟨ho0, ho1⟩ := (belowB_iff _ _).1 ho
      rcases id hl' with ⟨ov, cv, rfl, rfl⟩ | ⟨b, off, cap, rfl, hbb, hcap, hm, hc⟩
      · simp at hl1
      have hmk := run_make_row' (P := Try.prog) 23 3 (.int .i64 0) 8 Try.underlying23 Try.infoInt rfl .i64 .i64 l.length (by omega) (by omega)
      go_enter Try.func31, Try.ntmps31
      go_wp2_with first | (go_at_call 21; refine (inputs_any _ _ l _ hl' (Nat.le_refl _)).mono ?_; rintro e w' ⟨rfl, hb1⟩) | (go_at_call 36; refine (below_b _ _ _).mono ?_; rintro e w' ⟨rfl, rfl⟩) | (go_at_call 23; refine (outputs_any _ _ l _ (hl'.below hb1 (Nat.le_refl _)) hb1.size).mono ?_; rintro e w2 ⟨rfl, hb2⟩)
      have hb3 : Below w.heap.size w w2 := hb1.trans (hb2.mono hb1.size)
      have hl2 := (hl'.below hb3 (Nat.le_refl _)).mono hb3.size
      refine (half_any _ _).mono ?_
      rintro e w3 ⟨rfl, rfl⟩
      have hA : Below w2.heap.size w2 ((w2.alloc (.cells (madeCells #[.int .i64 0] l.length) 3)).alloc (.cells #[.bool true] 4)) := ((Below.refl _ _).alloc (Nat.le_refl _) _).alloc (by simp) _
      have hR := (row_made w2 l.length).below ((Below.refl (w2.heap.size + 1) _).alloc (by simp) (.cells #[.bool true] 4)) (by simp)
      have hS := sel_half (fun c => c ≠ w2.heap.size ∧ c < w2.heap.size + 1 + 1) (w2.alloc (.cells (madeCells #[.int .i64 0] l.length) 3)) true (by simp)
      rw [World.size_alloc] at hS
      have hsz : ((w2.alloc (.cells (madeCells #[.int .i64 0] l.length) 3)).alloc (.cells #[.bool true] 4)).heap.size = w2.heap.size + 1 + 1 := by simp
      go_wp2_with fail
      generalize World.alloc (World.alloc w2 _) _ = W3 at *
      refine (decompose_any b off cap w2.heap.size _ (inS true) l i (List.replicate l.length 0) _ (hl2.below hA (Nat.le_refl _)) (hS.mono (fun c h => by rw [hsz]; exact h)) hl1 (by simp) hR hi0 (by omega) (fun k h => hv.sized _ (List.getElem_mem h)) (hv.weights _)).mono ?_
      rintro e w4 ⟨rfl, hb4, hr4⟩
      rw [decW_eq hv (inS true) i (by simp)] at hr4
      go_wp2_with fail
      have hs4 := hb4.size
      have hb5 : Below w2.heap.size w2 w4 := hA.trans (hb4.below (by omega) (Nat.le_refl _))
      refine (half_any _ _).mono ?_
      rintro e w5 ⟨rfl, rfl⟩
      have hA2 : Below w4.heap.size w4 (w4.alloc (.cells #[.bool false] 4)) := (Below.refl _ _).alloc (Nat.le_refl _) _
      have hR2 := hr4.below hA2 (by omega)
      have hS2 := sel_half (fun c => c ≠ w2.heap.size ∧ c < w4.heap.size + 1) w4 false (by omega)
      have hsz2 : (w4.alloc (.cells #[.bool false] 4)).heap.size = w4.heap.size + 1 := by simp
      go_wp2_with fail
      generalize World.alloc w4 _ = W5 at *
      refine (decompose_any b off cap w2.heap.size _ (inS false) l o (dec (inS true) l i (List.replicate l.length 0)) _ (hl2.below (hb5.trans (hA2.mono (by omega))) (Nat.le_refl _)) (hS2.mono (fun c h => by rw [hsz2]; exact h)) hl1 (by rw [dec_length]; simp) hR2 ho0 (by omega) (fun k h => hv.sized _ (List.getElem_mem h)) (hv.weights _)).mono ?_
      rintro e w6 ⟨rfl, hb6, hr6⟩
      rw [decW_eq hv (inS false) o (by rw [dec_length]; simp)] at hr6
      have hs6 := hb6.size
      have hb7 : Below w2.heap.size w2 w6 := (hb5.trans (hA2.mono (by omega))).trans (hb6.below (by omega) (Nat.le_refl _))
      have hlj : (joinV l i o).length = l.length := by unfold joinV; rw [dec_length, dec_length]; simp
      have hfj : Few (joinV l i o) := dec_few hv.sized (dec_few hv.sized (few_zeros _))
      have hgl := hr6.lt
      go_wp2_with (go_at_call 38; refine (whole_any _).mono ?_; rintro e w' ⟨rfl, rfl⟩)
      refine (compose_any b off cap w2.heap.size 0 l.length _ allS l (joinV l i o) _ ((hl2.below hb7 (Nat.le_refl _)).mono (by omega)) (sel_whole _ _) hl1 hlj hgl (fun k h => by rw [Nat.zero_add]; exact hr6.cell h)).mono ?_
      rintro e w8 ⟨rfl, hb8⟩
      go_wp2
      go_ret
      exact ⟨ret_int (by unfold joinI joinOk; rw [hi, ho, composeW_eq hv allS hlj hfj]; rfl), (hb3.trans (hb7.mono hb3.size)).trans (hb8.mono (by have := hb3.size; omega))⟩

end Go.Proofs.Ytbifbaennjglmaa
