/-
  Contracts of the signal package's exported functions: Value, Make, In, Out, Join.
-/
import Derived.Test.YtbifbaennjglmaaSigE
namespace Go.Proofs.Ytbifbaennjglmaa
open Go.RowKit

theorem Row.below {B : Nat} {w w' : World} {g : Nat} {xs : List Int} (h : Row w g xs) (hB : Below B w w') (hg : g < B) : Row w' g xs := (hB.block g hg).trans h

theorem valsI_length (l : List Sig) (a : Int) : (valsI l a).length = l.length := by unfold valsI; rw [dec_length]; simp
theorem valsI_few {l : List Sig} (h : WF l) (a : Int) : Few (valsI l a) := dec_few h.sized (few_zeros _)

/-- the number that project returns -/
def projI (p : Sig → Bool) (l : List Sig) (a : Int) : Int := if belowB a (cntI allS l) then comp p l (valsI l a) else 0

theorem cnt_le {p : Sig → Bool} {l : List Sig} (h : WF l) : cntI p l ≤ 4096 := by
  rw [cntI_valid h]; have := (prodS_bd (p := p) h.sized).2; have := h.pow; omega

set_option maxHeartbeats 400000 in
theorem project_any (v sv : Value) (p : Sig → Bool) (l : List Sig) (a : Int) (w : World) (hl : Sigs w.heap.size w v l) (hsel : SelIs (· < w.heap.size) w sv p) :
    Calls Try.prog 47 #[v, sv, .int .i64 a] w fun e w' => e = .returned (.int .i64 (projI p l a)) ∧ Below w.heap.size w w' := by
  obtain ⟨f, y, rfl⟩ := hsel.shape
  cases hb : belowB a (cntI allS l)
  · go_enter Try.func47, Try.ntmps47
    go_wp2_with first | (go_at_call 19; refine (letters_any _ _ l _ hl (Nat.le_refl _)).mono ?_; rintro e w' ⟨rfl, hb1⟩) | (go_at_call 36; refine (below_b _ _ _).mono ?_; rintro e w' ⟨rfl, rfl⟩)
    go_ret
    exact ⟨ret_int (by unfold projI; rw [hb]; rfl), hb1⟩
  · have hv := cntI_pos hb
    have hb' := (belowB_iff _ _).1 hb
    have hle := cnt_le (p := allS) hv
    obtain ⟨ha0, ha1⟩ := hb'
    have hl1 := hv.len1
    rcases id hl with ⟨ov, cv, rfl, rfl⟩ | ⟨b, off, cap, rfl, hbb, hcap, hm, hc⟩
    · simp at hl1
    · go_enter Try.func47, Try.ntmps47
      go_wp2_with first | (go_at_call 19; refine (letters_any _ _ l _ hl (Nat.le_refl _)).mono ?_; rintro e w' ⟨rfl, hb1⟩) | (go_at_call 36; refine (below_b _ _ _).mono ?_; rintro e w' ⟨rfl, rfl⟩) | (go_at_call 45; refine (values_any _ _ l _ _ (hl.below hb1 (Nat.le_refl _)) hb1.size hv ha0 (by omega)).mono ?_; rintro e w2 ⟨g, rfl, hg, hr, hb2⟩)
      have hb3 : Below w.heap.size w w2 := hb1.trans (hb2.mono hb1.size)
      have hgl := hr.lt
      go_wp2_with (go_at_call 37; refine (compose_any b off cap g 0 l.length _ p l (valsI l a) _ ((hl.below hb3 (Nat.le_refl _)).mono hb3.size) ((hsel.below hb3 (fun c h => h)).mono (fun c h => Nat.lt_of_lt_of_le h hb3.size)) hl1 (valsI_length l a) hgl (fun k h => by rw [Nat.zero_add]; exact hr.cell h)).mono ?_; rintro e w' ⟨rfl, hb4⟩)
      go_ret
      exact ⟨ret_int (by unfold projI; rw [hb, if_pos rfl, composeW_eq hv p (valsI_length l a) (valsI_few hv a)]), hb3.trans (hb4.mono hb3.size)⟩

set_option maxHeartbeats 400000 in
theorem in_any (B : Nat) (v : Value) (l : List Sig) (a : Int) (w : World) (hl : Sigs B w v l) (hBw : B ≤ w.heap.size) :
    Calls Try.prog 27 #[v, .int .i64 a] w fun e w' => e = .returned (.int .i64 (projI (inS true) l a)) ∧ Below w.heap.size w w' := by
  have hl' := (hl.mono hBw)
  have hA : Below w.heap.size w (w.alloc (.cells #[.bool true] 4)) := (Below.refl _ _).alloc (Nat.le_refl _) _
  go_enter Try.func27, Try.ntmps27
  go_wp2_with first | (go_at_call 43; refine (half_any _ _).mono ?_; rintro e w' ⟨rfl, rfl⟩) | (go_at_call 47; refine (project_any _ _ (inS true) l a _ ((hl'.below hA (Nat.le_refl _)).mono hA.size) (sel_half _ _ _ (by simp))).mono ?_; rintro e w' ⟨rfl, hb1⟩)
  go_ret
  exact ⟨rfl, hA.trans (hb1.mono (by simp))⟩

set_option maxHeartbeats 400000 in
theorem out_any (B : Nat) (v : Value) (l : List Sig) (a : Int) (w : World) (hl : Sigs B w v l) (hBw : B ≤ w.heap.size) :
    Calls Try.prog 29 #[v, .int .i64 a] w fun e w' => e = .returned (.int .i64 (projI (inS false) l a)) ∧ Below w.heap.size w w' := by
  have hl' := (hl.mono hBw)
  have hA : Below w.heap.size w (w.alloc (.cells #[.bool false] 4)) := (Below.refl _ _).alloc (Nat.le_refl _) _
  go_enter Try.func29, Try.ntmps29
  go_wp2_with first | (go_at_call 43; refine (half_any _ _).mono ?_; rintro e w' ⟨rfl, rfl⟩) | (go_at_call 47; refine (project_any _ _ (inS false) l a _ ((hl'.below hA (Nat.le_refl _)).mono hA.size) (sel_half _ _ _ (by simp))).mono ?_; rintro e w' ⟨rfl, hb1⟩)
  go_ret
  exact ⟨rfl, hA.trans (hb1.mono (by simp))⟩

/-- the number that Value returns -/
def valueI (l : List Sig) (a i : Int) : Int := if belowB a (cntI allS l) && belowB i l.length then (valsI l a).getD i.toNat 0 else 0

set_option maxHeartbeats 400000 in
theorem value_any (B : Nat) (v : Value) (l : List Sig) (a i : Int) (w : World) (hl : Sigs B w v l) (hBw : B ≤ w.heap.size) :
    Calls Try.prog 25 #[v, .int .i64 a, .int .i64 i] w fun e w' => e = .returned (.int .i64 (valueI l a i)) ∧ Below w.heap.size w w' := by
  have hl' := hl.mono hBw
  have hlen : ∃ o c, v = .slice o l.length c := by
    rcases id hl with ⟨ov, cv, rfl, rfl⟩ | ⟨b, off, cap, rfl, _⟩
    · exact ⟨_, _, rfl⟩
    · exact ⟨_, _, rfl⟩
  obtain ⟨ov, cv, rfl⟩ := hlen
  cases hb : belowB a (cntI allS l)
  · go_enter Try.func25, Try.ntmps25
    go_wp2_with first | (go_at_call 19; refine (letters_any _ _ l _ hl' (Nat.le_refl _)).mono ?_; rintro e w' ⟨rfl, hb1⟩) | (go_at_call 36; refine (below_b _ _ _).mono ?_; rintro e w' ⟨rfl, rfl⟩)
    go_ret
    exact ⟨ret_int (by unfold valueI; rw [hb]; rfl), hb1⟩
  · have hv := cntI_pos hb
    have hb' := (belowB_iff _ _).1 hb
    have hle := cnt_le (p := allS) hv
    obtain ⟨ha0, ha1⟩ := hb'
    cases hi : belowB i l.length
    · go_enter Try.func25, Try.ntmps25
      go_wp2_with first | (go_at_call 19; refine (letters_any _ _ l _ hl' (Nat.le_refl _)).mono ?_; rintro e w' ⟨rfl, hb1⟩) | (go_at_call 36; refine (below_b _ _ _).mono ?_; rintro e w' ⟨rfl, rfl⟩)
      go_ret
      exact ⟨ret_int (by unfold valueI; rw [hb, hi]; rfl), hb1⟩
    · obtain ⟨hi0, hi1⟩ := (belowB_iff _ _).1 hi
      obtain ⟨k, rfl⟩ := Int.eq_ofNat_of_zero_le hi0
      have hk : k < (valsI l a).length := by rw [valsI_length]; omega
      go_enter Try.func25, Try.ntmps25
      go_wp2_with first | (go_at_call 19; refine (letters_any _ _ l _ hl' (Nat.le_refl _)).mono ?_; rintro e w' ⟨rfl, hb1⟩) | (go_at_call 36; refine (below_b _ _ _).mono ?_; rintro e w' ⟨rfl, rfl⟩) | (go_at_call 45; refine (values_any _ _ l _ _ (hl'.below hb1 (Nat.le_refl _)) hb1.size hv ha0 (by omega)).mono ?_; rintro e w2 ⟨g, rfl, hg, hr, hb2⟩; have c0 := hr.cell hk)
      go_ret
      exact ⟨ret_int (by unfold valueI; rw [hb, hi]; simp [hk]), hb1.trans (hb2.mono hb1.size)⟩

end Go.Proofs.Ytbifbaennjglmaa
