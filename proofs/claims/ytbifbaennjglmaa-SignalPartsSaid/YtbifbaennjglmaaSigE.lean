/-
  Contracts of the signal package's exported functions: Letters, Inputs, Outputs, Value, Make, In, Out, Join.
-/
import Derived.Test.YtbifbaennjglmaaSigD
import Derived.Test.YtbifbaennjglmaaSigQ
import Derived.Deep.OwnRows
namespace Go.Proofs.Ytbifbaennjglmaa
open Go.RowKit

def belowB (n k : Int) : Bool := decide (0 ≤ n ∧ n < k)
theorem belowB_iff (n k : Int) : belowB n k = true ↔ 0 ≤ n ∧ n < k := by simp [belowB]

theorem below_b (n k : Int) (w : World) : Calls Try.prog 36 #[.int .i64 n, .int .i64 k] w fun e w' => e = .returned (.bool (belowB n k)) ∧ w = w' := below_any n k w

/-- the number that count returns -/
def cntI (p : Sig → Bool) (l : List Sig) : Int := if validB l then prodS p l else 0

theorem cntI_valid {p : Sig → Bool} {l : List Sig} (h : WF l) : cntI p l = prodS p l := by unfold cntI; rw [if_pos ((valid_iff l).2 h)]
theorem cntI_not {p : Sig → Bool} {l : List Sig} (h : ¬ WF l) : cntI p l = 0 := by unfold cntI; rw [if_neg (fun e => h ((valid_iff l).1 e))]
theorem cntI_pos {p : Sig → Bool} {l : List Sig} {a : Int} (h : belowB a (cntI p l) = true) : WF l := by
  rw [belowB_iff] at h
  by_cases hv : WF l
  · exact hv
  · rw [cntI_not hv] at h; omega

theorem count_all (v sv : Value) (p : Sig → Bool) (l : List Sig) (w : World) (hl : Sigs w.heap.size w v l) (hsel : SelIs (· < w.heap.size) w sv p) :
    Calls Try.prog 42 #[v, sv] w fun e w' => e = .returned (.int .i64 (cntI p l)) ∧ Below w.heap.size w w' := by
  have hl' := hl
  rcases hl with ⟨ov, cv, rfl, rfl⟩ | ⟨b, off, cap, rfl, hb, hcap, hm, hc⟩
  · obtain ⟨f, y, rfl⟩ := hsel.shape
    refine (callsIn_wide (n := 6)).1 ?_
    refine callsIn_of_wp_marks Try.func42 rfl trivial ?_ rfl
    simp only [Try.ntmps42, List.size_toArray, List.length_cons, List.length_nil, Nat.reduceAdd, Nat.reduceSub, Array.replicate_succ, Array.replicate_zero, List.push_toArray, List.append_toArray, List.nil_append, List.cons_append]
    have hB0 : Below w.heap.size w (w.alloc (.cells #[.slice ov 0 cv] 22)) := (Below.refl _ _).alloc (Nat.le_refl _) _
    gi_wp2_with fail
    refine ⟨trivial, ?_⟩
    refine (callsIn_wide.2 (valid_any w.heap.size _ [] _ (hl'.below hB0 (Nat.le_refl _)) hB0.size)).mono ?_
    rintro e w1 ⟨rfl, hb1⟩
    rw [show validB [] = false from rfl]
    gi_wp2
    all_goals exact ⟨_, results_tmp rfl _ _ _, rfl, hB0.trans (hb1.mono (by simp))⟩
  · refine (count_any b off cap sv p l w hl' hsel).mono fun e w' ⟨he, hB⟩ => ⟨?_, hB⟩
    rw [he]
    refine ret_int ?_
    unfold cntI
    by_cases h : validB l = true
    · rw [if_pos h, if_pos h, countW_eq ((valid_iff l).1 h)]
    · rw [if_neg h, if_neg h]

theorem sel_whole (Q : Nat → Prop) (w : World) : SelIs Q w (.func (.func 51) #[] #[]) allS := .inl ⟨rfl, rfl⟩
theorem sel_half (Q : Nat → Prop) (w : World) (b : Bool) (hQ : Q w.heap.size) : SelIs Q (w.alloc (.cells #[.bool b] 4)) (.func (.func 52) #[] #[.pointer (some ⟨w.heap.size, 0, none⟩)]) (inS b) :=
  .inr ⟨w.heap.size, b, rfl, hQ, by simp, rfl⟩

set_option maxHeartbeats 400000 in
theorem letters_any (B : Nat) (v : Value) (l : List Sig) (w : World) (hl : Sigs B w v l) (hBw : B ≤ w.heap.size) :
    Calls Try.prog 19 #[v] w fun e w' => e = .returned (.int .i64 (cntI allS l)) ∧ Below w.heap.size w w' := by
  have hl' := hl.mono hBw
  go_enter Try.func19, Try.ntmps19
  go_wp2_with first | (go_at_call 38; refine (whole_any _).mono ?_; rintro e w' ⟨rfl, rfl⟩) | (go_at_call 42; refine (count_all _ _ allS l _ hl' (sel_whole _ _)).mono ?_; rintro e w' ⟨rfl, hb1⟩)
  go_ret
  exact ⟨rfl, hb1⟩

set_option maxHeartbeats 400000 in
theorem inputs_any (B : Nat) (v : Value) (l : List Sig) (w : World) (hl : Sigs B w v l) (hBw : B ≤ w.heap.size) :
    Calls Try.prog 21 #[v] w fun e w' => e = .returned (.int .i64 (cntI (inS true) l)) ∧ Below w.heap.size w w' := by
  have hl' := (hl.mono hBw)
  have hA : Below w.heap.size w (w.alloc (.cells #[.bool true] 4)) := (Below.refl _ _).alloc (Nat.le_refl _) _
  go_enter Try.func21, Try.ntmps21
  go_wp2_with first | (go_at_call 43; refine (half_any _ _).mono ?_; rintro e w' ⟨rfl, rfl⟩) | (go_at_call 42; refine (count_all _ _ (inS true) l _ ((hl'.below hA (Nat.le_refl _)).mono hA.size) (sel_half _ _ _ (by simp))).mono ?_; rintro e w' ⟨rfl, hb1⟩)
  go_ret
  exact ⟨rfl, hA.trans (hb1.mono (by simp))⟩

set_option maxHeartbeats 400000 in
theorem outputs_any (B : Nat) (v : Value) (l : List Sig) (w : World) (hl : Sigs B w v l) (hBw : B ≤ w.heap.size) :
    Calls Try.prog 23 #[v] w fun e w' => e = .returned (.int .i64 (cntI (inS false) l)) ∧ Below w.heap.size w w' := by
  have hl' := (hl.mono hBw)
  have hA : Below w.heap.size w (w.alloc (.cells #[.bool false] 4)) := (Below.refl _ _).alloc (Nat.le_refl _) _
  go_enter Try.func23, Try.ntmps23
  go_wp2_with first | (go_at_call 43; refine (half_any _ _).mono ?_; rintro e w' ⟨rfl, rfl⟩) | (go_at_call 42; refine (count_all _ _ (inS false) l _ ((hl'.below hA (Nat.le_refl _)).mono hA.size) (sel_half _ _ _ (by simp))).mono ?_; rintro e w' ⟨rfl, hb1⟩)
  go_ret
  exact ⟨rfl, hA.trans (hb1.mono (by simp))⟩

theorem Try.infoInt : (Try.prog.info? 3).map (fun i => (i.zero, i.size, i.bytes)) = some (some (.int .i64 0), 1, 8) := by kernel_rfl

theorem row_made (w : World) (n : Nat) : Row (w.alloc (.cells (madeCells #[.int .i64 0] n) 3)) w.heap.size (List.replicate n 0) := by
  have h : madeCells #[Value.int .i64 0] n = ((List.replicate n (0 : Int)).map (Value.int .i64)).toArray := by
    unfold madeCells
    apply Array.ext
    · simp
    · intro i h1 h2
      simp [Nat.mod_one]
  unfold Row
  rw [World.alloc_heap_new, h]

/-- the values of a letter -/
def valsI (l : List Sig) (a : Int) : List Int := dec allS l a (List.replicate l.length 0)

def ValsPost (w : World) (l : List Sig) (a : Int) (e : Ending) (w' : World) : Prop :=
  ∃ g, e = .returned (.slice (some ⟨g, 0, none⟩) l.length l.length) ∧ w.heap.size ≤ g ∧ Row w' g (valsI l a) ∧ Below w.heap.size w w'

set_option maxHeartbeats 400000 in
theorem values_any (B : Nat) (v : Value) (l : List Sig) (a : Int) (w : World) (hl : Sigs B w v l) (hBw : B ≤ w.heap.size) (hv : WF l) (h0 : 0 ≤ a) (h1 : a ≤ 1000000) :
    Calls Try.prog 45 #[v, .int .i64 a] w (ValsPost w l a) := by
  have hl' := (hl.mono hBw)
  have hl0 := hv.len1
  have hl6 := hv.len6
  rcases hl.mono hBw with ⟨ov, cv, rfl, rfl⟩ | ⟨b, off, cap, rfl, hb, hcap, hm, hc⟩
  · simp at hl0
  · have hmk := run_make_row' (P := Try.prog) 23 3 (.int .i64 0) 8 Try.underlying23 Try.infoInt rfl .i64 .i64 l.length (by omega) (by omega)
    have hA : Below w.heap.size w (w.alloc (.cells (madeCells #[.int .i64 0] l.length) 3)) := (Below.refl _ _).alloc (Nat.le_refl _) _
    have hR := row_made w l.length
    go_enter Try.func45, Try.ntmps45
    go_wp2_with first | (go_at_call 38; refine (whole_any _).mono ?_; rintro e w' ⟨rfl, rfl⟩) | (go_at_call 49; refine (decompose_any b off cap w.heap.size _ allS l a (List.replicate l.length 0) _ (hl'.below hA (Nat.le_refl _)) (sel_whole _ _) hl0 (by simp) hR h0 h1 (fun k h => hv.sized _ (List.getElem_mem h)) (hv.weights _)).mono ?_; rintro e w' ⟨rfl, hb1, hr1⟩)
    go_ret
    exact ⟨w.heap.size, rfl, Nat.le_refl _, by rw [decW_eq hv allS a (by simp)] at hr1; exact hr1, hA.trans (hb1.below (by simp) (Nat.le_refl _))⟩

end Go.Proofs.Ytbifbaennjglmaa
