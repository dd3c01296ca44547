/-
  Contracts that FormulaMatchesReference stands on, part Hi.
-/
import Derived.Test.YtbnnjbfbifihaaaGreatDoorGe
import Derived.Test.YtbnnjbfbifihaaaGreatDoorGd
import Derived.Test.YtbnnjbfbifihaaaGreatDoorGb
import Derived.Test.YtbnnjbfbifihaaaGreatDoorFjB
import Derived.Test.YtbnnjbfbifihaaaGreatDoorHg
import Derived.Test.YtbnnjbfbifihaaaGreatDoorHd
import Derived.Test.YtbnnjbfbifihaaaGreatDoorGc
import Derived.Test.YtbnnjbfbifihaaaGreatDoorGg
import Derived.Test.YtbnnjbfbifihaaaGreatDoorGj
namespace Go.Proofs.YtbnnjbfbifihaaaGreatDoor
open Go.RowKit
set_option maxRecDepth 100000
set_option maxHeartbeats 80000000

def smallsB (l : List Fm) (m : Nat) : Bool := decide (l.length ≤ 12) && l.all fun f => decide (f.nodes ≤ m)
theorem refsmalls_any (l : List Fm) (m B : Nat) (v : Value) (w : World) (hv : FArgs B w v l) (hBw : B ≤ w.heap.size) (hm : m ≤ 1000000) :
    Calls Tryz.prog 14 #[v, .int .i64 m] w fun e w' => e = .returned (.bool (smallsB l m)) ∧ Below w.heap.size w w' := by
  have hv' := hv.mono hBw
  obtain ⟨o, c, rfl⟩ := hv.shape
  have hl1 := hv.len
  by_cases hlen : 12 < l.length
  · have hR : Hid (smallsB l m = false) := by unfold Hid smallsB; rw [decide_eq_false (by omega)]; rfl
    go_enter Tryz.func14, Tryz.ntmps14
    go_wp2
    go_ret
    exact ⟨ret_bool hR.out.symm, Below.refl _ _⟩
  · have hR : Hid (smallsB l m = l.all fun f => decide (f.nodes ≤ m)) := by unfold Hid smallsB; rw [decide_eq_true (by omega)]; rfl
    go_enter Tryz.func14, Tryz.ntmps14
    go_wp2
    go_loopw [5] (fun i wr => ∃ k : Nat, k ≤ l.length ∧ i = .int .i64 k ∧ Hid (smallsB l m = (l.drop k).all fun f => decide (f.nodes ≤ m)) ∧ Below w.heap.size w wr) (fun i _ => l.length - (intOf i).toNat)
    case atStart => exact ⟨0, Nat.zero_le _, rfl, hR, Below.refl _ _⟩
    case round =>
      obtain ⟨k, hk, rfl, hD, hB⟩ := hrel
      by_cases hlt : k < l.length
      · obtain ⟨b, off, rfl, hb, hat⟩ := hv'.at (by omega)
        obtain ⟨sl, hc5, hF⟩ := hat k hlt
        obtain ⟨o1, c1, rfl⟩ := hF.slot
        obtain ⟨e0, e1, e2, e3, e4⟩ := hc5.below hB hb
        have hS : Hid (((l.drop k).all fun f => decide (f.nodes ≤ m)) = (decide (l[k].nodes ≤ m) && (l.drop (k + 1)).all fun f => decide (f.nodes ≤ m))) := by
          unfold Hid; rw [List.drop_eq_getElem_cons hlt]; rfl
        generalize l[k] = x at *
        cases q : decide (x.nodes ≤ m)
        · go_wp2_with (go_at_call 13; refine (refsmall_any x w.heap.size _ m _ (hF.kept hB (Nat.le_refl _)) hB.size hm).mono ?_; rintro e w1 ⟨rfl, hb1⟩; rw [q]; have hB := hB.trans (hb1.mono hB.size); clear hb1)
          go_ret
          exact ⟨ret_bool (by rw [hD.out, hS.out, q]; rfl), hB⟩
        · go_wp2_with (go_at_call 13; refine (refsmall_any x w.heap.size _ m _ (hF.kept hB (Nat.le_refl _)) hB.size hm).mono ?_; rintro e w1 ⟨rfl, hb1⟩; rw [q]; have hB := hB.trans (hb1.mono hB.size); clear hb1)
          go_roundw
          case rel => exact ⟨k + 1, by omega, by go_num, by unfold Hid; rw [hD.out, hS.out, q]; rfl, hB⟩
          case measure => simp [intOf]; omega
      · go_wp2
        go_ret
        exact ⟨ret_bool (by rw [hD.out, List.drop_of_length_le (by omega)]; rfl), hB⟩
theorem same_self (f : Fm) : sameF f f = true := by unfold sameF; rw [cmpF_self]; rfl
theorem mr_r4 {f g : Fm} {va pa la ke : Bool} {sz cm : Int} {nm : List ByteArray} {k3 k4 : Nat} (a0 : Act) (W0 : World) (Q : Exit → Act → World → Prop) (hE : Env W0) (hz : a0.tmps.size = 131) (p3 : a0.tmps[(3 : Nat)]? = some (.pointer (some ⟨k3, 0, none⟩))) (p4 : a0.tmps[(4 : Nat)]? = some (.pointer (some ⟨k4, 0, none⟩))) (B3 : Hid (Bx W0 k3 (f))) (B4 : Hid (Bx W0 k4 (g))) (e_va : Hid (fvalidB f = va)) (e_pa : Hid (pastB f = pa)) (e_la : Hid (layB f = la)) (e_ke : Hid (kernelB f = ke)) (e_sz : Hid ((f.nodes : Int) = sz)) (e_cm : Hid (cmpF f g = cm)) (e_nm : Hid (namesF f = nm)) (n1 : f.nodes ≤ 1000) (n2 : f.depth ≤ 1000)
    (hend : ∀ (x : Nat → Value) (W : World), Below W0.heap.size W0 W → Q .normal ((((((((((((((((((((((((((((((((((((((((((((((((((a0.put (some 29) (x 0)).put (some 30) (x 1)).put (some 31) (x 2)).put (some 32) (x 3)).put (some 33) (x 4)).put (some 34) (x 5)).put (some 35) (x 6)).put (some 36) (x 7)).put (some 37) (x 8)).put (some 38) (x 9)).put (some 39) (x 10)).put (some 40) (x 11)).put (some 41) (x 12)).put (some 42) (x 13)).put (some 43) (x 14)).put (some 44) (x 15)).put (some 45) (x 16)).put (some 46) (x 17)).put (some 47) (x 18)).put (some 48) (x 19)).put (some 49) (x 20)).put (some 50) (x 21)).put (some 51) (x 22)).put (some 52) (x 23)).put (some 53) (x 24)).put (some 54) (x 25)).put (some 55) (x 26)).put (some 56) (x 27)).put (some 57) (x 28)).put (some 58) (x 29)).put (some 59) (x 30)).put (some 60) (x 31)).put (some 61) (x 32)).put (some 62) (x 33)).put (some 63) (x 34)).put (some 64) (x 35)).put (some 65) (x 36)).put (some 66) (x 37)).put (some 67) (x 38)).put (some 68) (x 39)).put (some 69) (x 40)).put (some 70) (x 41)).put (some 71) (x 42)).put (some 72) (x 43)).put (some 73) (x 44)).put (some 74) (x 45)).put (some 75) (x 46)).put (some 76) (x 47)).put (some 77) (x 48)).put (some 8) (.bool true)) W) :
    (Code.region 4 (opsAt Tryz.f3 4) true).wp Tryz.prog Q a0 W0 := by
  have d0 : dstOf (opsAt Tryz.f3 4) 0 = some 29 := by kernel_rfl
  have d1 : dstOf (opsAt Tryz.f3 4) 1 = some 30 := by kernel_rfl
  have d2 : dstOf (opsAt Tryz.f3 4) 2 = some 31 := by kernel_rfl
  have d3 : dstOf (opsAt Tryz.f3 4) 3 = some 32 := by kernel_rfl
  have d4 : dstOf (opsAt Tryz.f3 4) 4 = some 33 := by kernel_rfl
  have d5 : dstOf (opsAt Tryz.f3 4) 5 = some 34 := by kernel_rfl
  have d6 : dstOf (opsAt Tryz.f3 4) 6 = some 35 := by kernel_rfl
  have d7 : dstOf (opsAt Tryz.f3 4) 7 = some 36 := by kernel_rfl
  have d8 : dstOf (opsAt Tryz.f3 4) 8 = some 37 := by kernel_rfl
  have d9 : dstOf (opsAt Tryz.f3 4) 9 = some 38 := by kernel_rfl
  have d10 : dstOf (opsAt Tryz.f3 4) 10 = some 39 := by kernel_rfl
  have d11 : dstOf (opsAt Tryz.f3 4) 11 = some 40 := by kernel_rfl
  have d12 : dstOf (opsAt Tryz.f3 4) 12 = some 41 := by kernel_rfl
  have d13 : dstOf (opsAt Tryz.f3 4) 13 = some 42 := by kernel_rfl
  have d14 : dstOf (opsAt Tryz.f3 4) 14 = some 43 := by kernel_rfl
  have d15 : dstOf (opsAt Tryz.f3 4) 15 = some 44 := by kernel_rfl
  have d16 : dstOf (opsAt Tryz.f3 4) 16 = some 45 := by kernel_rfl
  have d17 : dstOf (opsAt Tryz.f3 4) 17 = some 46 := by kernel_rfl
  have d18 : dstOf (opsAt Tryz.f3 4) 18 = some 47 := by kernel_rfl
  have d19 : dstOf (opsAt Tryz.f3 4) 19 = some 48 := by kernel_rfl
  have d20 : dstOf (opsAt Tryz.f3 4) 20 = some 49 := by kernel_rfl
  have d21 : dstOf (opsAt Tryz.f3 4) 21 = some 50 := by kernel_rfl
  have d22 : dstOf (opsAt Tryz.f3 4) 22 = some 51 := by kernel_rfl
  have d23 : dstOf (opsAt Tryz.f3 4) 23 = some 52 := by kernel_rfl
  have d24 : dstOf (opsAt Tryz.f3 4) 24 = some 53 := by kernel_rfl
  have d25 : dstOf (opsAt Tryz.f3 4) 25 = some 54 := by kernel_rfl
  have d26 : dstOf (opsAt Tryz.f3 4) 26 = some 55 := by kernel_rfl
  have d27 : dstOf (opsAt Tryz.f3 4) 27 = some 56 := by kernel_rfl
  have d28 : dstOf (opsAt Tryz.f3 4) 28 = some 57 := by kernel_rfl
  have d29 : dstOf (opsAt Tryz.f3 4) 29 = some 58 := by kernel_rfl
  have d30 : dstOf (opsAt Tryz.f3 4) 30 = some 59 := by kernel_rfl
  have d31 : dstOf (opsAt Tryz.f3 4) 31 = some 60 := by kernel_rfl
  have d32 : dstOf (opsAt Tryz.f3 4) 32 = some 61 := by kernel_rfl
  have d33 : dstOf (opsAt Tryz.f3 4) 33 = some 62 := by kernel_rfl
  have d34 : dstOf (opsAt Tryz.f3 4) 34 = some 63 := by kernel_rfl
  have d35 : dstOf (opsAt Tryz.f3 4) 35 = some 64 := by kernel_rfl
  have d36 : dstOf (opsAt Tryz.f3 4) 36 = some 65 := by kernel_rfl
  have d37 : dstOf (opsAt Tryz.f3 4) 37 = some 66 := by kernel_rfl
  have d38 : dstOf (opsAt Tryz.f3 4) 38 = some 67 := by kernel_rfl
  have d39 : dstOf (opsAt Tryz.f3 4) 39 = some 68 := by kernel_rfl
  have d40 : dstOf (opsAt Tryz.f3 4) 40 = some 69 := by kernel_rfl
  have d41 : dstOf (opsAt Tryz.f3 4) 41 = some 70 := by kernel_rfl
  have d42 : dstOf (opsAt Tryz.f3 4) 42 = some 71 := by kernel_rfl
  have d43 : dstOf (opsAt Tryz.f3 4) 43 = some 72 := by kernel_rfl
  have d44 : dstOf (opsAt Tryz.f3 4) 44 = some 73 := by kernel_rfl
  have d45 : dstOf (opsAt Tryz.f3 4) 45 = some 74 := by kernel_rfl
  have d46 : dstOf (opsAt Tryz.f3 4) 46 = some 75 := by kernel_rfl
  have d47 : dstOf (opsAt Tryz.f3 4) 47 = some 76 := by kernel_rfl
  have d48 : dstOf (opsAt Tryz.f3 4) 48 = some 77 := by kernel_rfl
  have d49 : dstOf (opsAt Tryz.f3 4) 49 = some 8 := by kernel_rfl
  have hsz : (opsAt Tryz.f3 4).size = 50 := by kernel_rfl
  obtain ⟨L, hL⟩ : ∃ L, Hid ((opsAt Tryz.f3 4) = L) := ⟨_, hidi rfl⟩
  have hL2 := hL.out
  unfold opsAt Tryz.f3 at hL2
  simp only [findRegion, Nat.reduceBEq, if_true, if_false, Bool.false_eq_true, Option.getD_some] at hL2
  replace hL2 := hidi hL2
  refine wp_region_facts (by kernel_rfl) (by kernel_rfl) (by kernel_rfl) (by rw [hz]; kernel_rfl) (by kernel_rfl) (fun i => match i with
      | 0 => .fmF (f)
      | 1 => .boolF va
      | 2 => .fmF (f)
      | 3 => .boolF va
      | 4 => .boolF true
      | 5 => .boolF true
      | 6 => .fmF (f)
      | 7 => .intF (sz)
      | 8 => .fmF (f)
      | 9 => .intF (sz)
      | 10 => .boolF true
      | 11 => .boolF true
      | 12 => .boolF true
      | 13 => .fmF (f)
      | 14 => .fmF (g)
      | 15 => .intF (cm)
      | 16 => .fmF (f)
      | 17 => .fmF (g)
      | 18 => .intF (cm)
      | 19 => .boolF true
      | 20 => .boolF true
      | 21 => .boolF true
      | 22 => .fmF (f)
      | 23 => .boolF pa
      | 24 => .fmF (f)
      | 25 => .boolF pa
      | 26 => .boolF true
      | 27 => .boolF true
      | 28 => .boolF true
      | 29 => .fmF (f)
      | 30 => .boolF la
      | 31 => .fmF (f)
      | 32 => .boolF la
      | 33 => .boolF true
      | 34 => .boolF true
      | 35 => .boolF true
      | 36 => .fmF (f)
      | 37 => .strsF (nm)
      | 38 => .fmF (f)
      | 39 => .strsF (nm)
      | 40 => .boolF true
      | 41 => .boolF true
      | 42 => .boolF true
      | 43 => .fmF (f)
      | 44 => .boolF ke
      | 45 => .fmF (f)
      | 46 => .boolF ke
      | 47 => .boolF true
      | 48 => .boolF true
      | 49 => .boolF true
      | _ => .free) ?_ ?_
  · intro i a W K hi hS hK
    have hEW := hE.below hS.below
    match i, hi, hS, hK with
    | 0, _, hS, hK =>
      rw [d0] at hK
      have h3 := hS.slot (by kernel_rfl) p3
      have e3 := at_eval h3
      obtain ⟨o3, c3, ⟨b0, b1, b2, b3, b4⟩, hfq⟩ := (B3.out.below hS.below).cells
      rw [hL.out, ← hL2.out]; refine wpOp_of_list' rfl ?_
      go_wp2_with fail
      exact hK _ _ hfq (Below.refl _ _)
    | 1, _, hS, hK =>
      rw [d1] at hK
      obtain ⟨v29, h29, f29⟩ := hS.got 0 (q := .fmF (f)) rfl (by kernel_rfl) d0
      have e29 := at_eval h29
      rw [hL.out, ← hL2.out]; refine wpOp_of_list' rfl ?_
      go_wp2_with fail
      refine (fvalid_any f W.heap.size _ W (fm_at f29) (Nat.le_refl _) hEW (by omega)).mono ?_
      rintro e W2 ⟨rfl, hb⟩
      rw [e_va.out]
      go_wp2_with fail
      exact hK _ _ rfl hb
    | 2, _, hS, hK =>
      rw [d2] at hK
      have h3 := hS.slot (by kernel_rfl) p3
      have e3 := at_eval h3
      obtain ⟨o3, c3, ⟨b0, b1, b2, b3, b4⟩, hfq⟩ := (B3.out.below hS.below).cells
      rw [hL.out, ← hL2.out]; refine wpOp_of_list' rfl ?_
      go_wp2_with fail
      exact hK _ _ hfq (Below.refl _ _)
    | 3, _, hS, hK =>
      rw [d3] at hK
      obtain ⟨v31, h31, f31⟩ := hS.got 2 (q := .fmF (f)) rfl (by kernel_rfl) d2
      have e31 := at_eval h31
      rw [hL.out, ← hL2.out]; refine wpOp_of_list' rfl ?_
      go_wp2_with fail
      refine (refvalid_any f W.heap.size _ W (fm_at f31) (Nat.le_refl _)).mono ?_
      rintro e W2 ⟨rfl, hb⟩
      rw [e_va.out]
      go_wp2_with fail
      exact hK _ _ rfl hb
    | 4, _, hS, hK =>
      rw [d4] at hK
      obtain ⟨v30, h30, f30⟩ := hS.got 1 (q := .boolF va) rfl (by kernel_rfl) d1
      obtain rfl : v30 = .bool va := f30
      have e30 := at_eval h30
      obtain ⟨v32, h32, f32⟩ := hS.got 3 (q := .boolF va) rfl (by kernel_rfl) d3
      obtain rfl : v32 = .bool va := f32
      have e32 := at_eval h32
      rw [hL.out, ← hL2.out]; refine wpOp_of_list' rfl ?_
      go_wp2_with fail
      exact hK _ _ (by show Value.bool _ = Value.bool true; simp) (Below.refl _ _)
    | 5, _, hS, hK =>
      rw [d5] at hK
      obtain ⟨v33, h33, f33⟩ := hS.got 4 (q := .boolF true) rfl (by kernel_rfl) d4
      obtain rfl : v33 = .bool true := f33
      have e33 := at_eval h33
      rw [hL.out, ← hL2.out]; refine wpOp_of_list' rfl ?_
      go_wp2_with fail
      exact hK _ _ rfl (Below.refl _ _)
    | 6, _, hS, hK =>
      rw [d6] at hK
      obtain ⟨v34, h34, f34⟩ := hS.got 5 (q := .boolF true) rfl (by kernel_rfl) d5
      obtain rfl : v34 = .bool true := f34
      have e34 := at_eval h34
      have h3 := hS.slot (by kernel_rfl) p3
      have e3 := at_eval h3
      obtain ⟨o3, c3, ⟨b0, b1, b2, b3, b4⟩, hfq⟩ := (B3.out.below hS.below).cells
      rw [hL.out, ← hL2.out]; refine wpOp_of_list' rfl ?_
      go_wp2_with fail
      exact hK _ _ hfq (Below.refl _ _)
    | 7, _, hS, hK =>
      rw [d7] at hK
      obtain ⟨v34, h34, f34⟩ := hS.got 5 (q := .boolF true) rfl (by kernel_rfl) d5
      obtain rfl : v34 = .bool true := f34
      have e34 := at_eval h34
      obtain ⟨v35, h35, f35⟩ := hS.got 6 (q := .fmF (f)) rfl (by kernel_rfl) d6
      have e35 := at_eval h35
      rw [hL.out, ← hL2.out]; refine wpOp_of_list' rfl ?_
      go_wp2_with fail
      refine (size_any f W.heap.size _ W (fm_at f35) (Nat.le_refl _) hEW (by omega)).mono ?_
      rintro e W2 ⟨rfl, hb⟩
      rw [e_sz.out]
      go_wp2_with fail
      exact hK _ _ rfl hb
    | 8, _, hS, hK =>
      rw [d8] at hK
      obtain ⟨v34, h34, f34⟩ := hS.got 5 (q := .boolF true) rfl (by kernel_rfl) d5
      obtain rfl : v34 = .bool true := f34
      have e34 := at_eval h34
      have h3 := hS.slot (by kernel_rfl) p3
      have e3 := at_eval h3
      obtain ⟨o3, c3, ⟨b0, b1, b2, b3, b4⟩, hfq⟩ := (B3.out.below hS.below).cells
      rw [hL.out, ← hL2.out]; refine wpOp_of_list' rfl ?_
      go_wp2_with fail
      exact hK _ _ hfq (Below.refl _ _)
    | 9, _, hS, hK =>
      rw [d9] at hK
      obtain ⟨v34, h34, f34⟩ := hS.got 5 (q := .boolF true) rfl (by kernel_rfl) d5
      obtain rfl : v34 = .bool true := f34
      have e34 := at_eval h34
      obtain ⟨v37, h37, f37⟩ := hS.got 8 (q := .fmF (f)) rfl (by kernel_rfl) d8
      have e37 := at_eval h37
      rw [hL.out, ← hL2.out]; refine wpOp_of_list' rfl ?_
      go_wp2_with fail
      refine (refsize_any f W.heap.size _ W (fm_at f37) (Nat.le_refl _) (by omega)).mono ?_
      rintro e W2 ⟨rfl, hb⟩
      rw [e_sz.out]
      go_wp2_with fail
      exact hK _ _ rfl hb
    | 10, _, hS, hK =>
      rw [d10] at hK
      obtain ⟨v34, h34, f34⟩ := hS.got 5 (q := .boolF true) rfl (by kernel_rfl) d5
      obtain rfl : v34 = .bool true := f34
      have e34 := at_eval h34
      obtain ⟨v36, h36, f36⟩ := hS.got 7 (q := .intF (sz)) rfl (by kernel_rfl) d7
      obtain rfl : v36 = .int .i64 (sz) := f36
      have e36 := at_eval h36
      obtain ⟨v38, h38, f38⟩ := hS.got 9 (q := .intF (sz)) rfl (by kernel_rfl) d9
      obtain rfl : v38 = .int .i64 (sz) := f38
      have e38 := at_eval h38
      rw [hL.out, ← hL2.out]; refine wpOp_of_list' rfl ?_
      go_wp2_with fail
      exact hK _ _ (by show Value.bool _ = Value.bool true; simp) (Below.refl _ _)
    | 11, _, hS, hK =>
      rw [d11] at hK
      obtain ⟨v34, h34, f34⟩ := hS.got 5 (q := .boolF true) rfl (by kernel_rfl) d5
      obtain rfl : v34 = .bool true := f34
      have e34 := at_eval h34
      obtain ⟨v39, h39, f39⟩ := hS.got 10 (q := .boolF true) rfl (by kernel_rfl) d10
      obtain rfl : v39 = .bool true := f39
      have e39 := at_eval h39
      rw [hL.out, ← hL2.out]; refine wpOp_of_list' rfl ?_
      go_wp2_with fail
      exact hK _ _ rfl (Below.refl _ _)
    | 12, _, hS, hK =>
      rw [d12] at hK
      obtain ⟨v40, h40, f40⟩ := hS.got 11 (q := .boolF true) rfl (by kernel_rfl) d11
      obtain rfl : v40 = .bool true := f40
      have e40 := at_eval h40
      rw [hL.out, ← hL2.out]; refine wpOp_of_list' rfl ?_
      go_wp2_with fail
      exact hK _ _ rfl (Below.refl _ _)
    | 13, _, hS, hK =>
      rw [d13] at hK
      obtain ⟨v41, h41, f41⟩ := hS.got 12 (q := .boolF true) rfl (by kernel_rfl) d12
      obtain rfl : v41 = .bool true := f41
      have e41 := at_eval h41
      have h3 := hS.slot (by kernel_rfl) p3
      have e3 := at_eval h3
      obtain ⟨o3, c3, ⟨b0, b1, b2, b3, b4⟩, hfq⟩ := (B3.out.below hS.below).cells
      rw [hL.out, ← hL2.out]; refine wpOp_of_list' rfl ?_
      go_wp2_with fail
      exact hK _ _ hfq (Below.refl _ _)
    | 14, _, hS, hK =>
      rw [d14] at hK
      obtain ⟨v41, h41, f41⟩ := hS.got 12 (q := .boolF true) rfl (by kernel_rfl) d12
      obtain rfl : v41 = .bool true := f41
      have e41 := at_eval h41
      have h4 := hS.slot (by kernel_rfl) p4
      have e4 := at_eval h4
      obtain ⟨o4, c4, ⟨b0, b1, b2, b3, b4⟩, hfq⟩ := (B4.out.below hS.below).cells
      rw [hL.out, ← hL2.out]; refine wpOp_of_list' rfl ?_
      go_wp2_with fail
      exact hK _ _ hfq (Below.refl _ _)
    | 15, _, hS, hK =>
      rw [d15] at hK
      obtain ⟨v41, h41, f41⟩ := hS.got 12 (q := .boolF true) rfl (by kernel_rfl) d12
      obtain rfl : v41 = .bool true := f41
      have e41 := at_eval h41
      obtain ⟨v42, h42, f42⟩ := hS.got 13 (q := .fmF (f)) rfl (by kernel_rfl) d13
      have e42 := at_eval h42
      obtain ⟨v43, h43, f43⟩ := hS.got 14 (q := .fmF (g)) rfl (by kernel_rfl) d14
      have e43 := at_eval h43
      rw [hL.out, ← hL2.out]; refine wpOp_of_list' rfl ?_
      go_wp2_with fail
      refine (compare_any (f) (g) W.heap.size _ _ W (fm_at f42) (fm_at f43) (Nat.le_refl _)).mono ?_
      rintro e W2 ⟨rfl, hb⟩
      rw [e_cm.out]
      go_wp2_with fail
      exact hK _ _ rfl hb
    | 16, _, hS, hK =>
      rw [d16] at hK
      obtain ⟨v41, h41, f41⟩ := hS.got 12 (q := .boolF true) rfl (by kernel_rfl) d12
      obtain rfl : v41 = .bool true := f41
      have e41 := at_eval h41
      have h3 := hS.slot (by kernel_rfl) p3
      have e3 := at_eval h3
      obtain ⟨o3, c3, ⟨b0, b1, b2, b3, b4⟩, hfq⟩ := (B3.out.below hS.below).cells
      rw [hL.out, ← hL2.out]; refine wpOp_of_list' rfl ?_
      go_wp2_with fail
      exact hK _ _ hfq (Below.refl _ _)
    | 17, _, hS, hK =>
      rw [d17] at hK
      obtain ⟨v41, h41, f41⟩ := hS.got 12 (q := .boolF true) rfl (by kernel_rfl) d12
      obtain rfl : v41 = .bool true := f41
      have e41 := at_eval h41
      have h4 := hS.slot (by kernel_rfl) p4
      have e4 := at_eval h4
      obtain ⟨o4, c4, ⟨b0, b1, b2, b3, b4⟩, hfq⟩ := (B4.out.below hS.below).cells
      rw [hL.out, ← hL2.out]; refine wpOp_of_list' rfl ?_
      go_wp2_with fail
      exact hK _ _ hfq (Below.refl _ _)
    | 18, _, hS, hK =>
      rw [d18] at hK
      obtain ⟨v41, h41, f41⟩ := hS.got 12 (q := .boolF true) rfl (by kernel_rfl) d12
      obtain rfl : v41 = .bool true := f41
      have e41 := at_eval h41
      obtain ⟨v45, h45, f45⟩ := hS.got 16 (q := .fmF (f)) rfl (by kernel_rfl) d16
      have e45 := at_eval h45
      obtain ⟨v46, h46, f46⟩ := hS.got 17 (q := .fmF (g)) rfl (by kernel_rfl) d17
      have e46 := at_eval h46
      rw [hL.out, ← hL2.out]; refine wpOp_of_list' rfl ?_
      go_wp2_with fail
      refine (refcompare_any (f) (g) W.heap.size _ _ W (fm_at f45) (fm_at f46) (Nat.le_refl _)).mono ?_
      rintro e W2 ⟨rfl, hb⟩
      rw [e_cm.out]
      go_wp2_with fail
      exact hK _ _ rfl hb
    | 19, _, hS, hK =>
      rw [d19] at hK
      obtain ⟨v41, h41, f41⟩ := hS.got 12 (q := .boolF true) rfl (by kernel_rfl) d12
      obtain rfl : v41 = .bool true := f41
      have e41 := at_eval h41
      obtain ⟨v44, h44, f44⟩ := hS.got 15 (q := .intF (cm)) rfl (by kernel_rfl) d15
      obtain rfl : v44 = .int .i64 (cm) := f44
      have e44 := at_eval h44
      obtain ⟨v47, h47, f47⟩ := hS.got 18 (q := .intF (cm)) rfl (by kernel_rfl) d18
      obtain rfl : v47 = .int .i64 (cm) := f47
      have e47 := at_eval h47
      rw [hL.out, ← hL2.out]; refine wpOp_of_list' rfl ?_
      go_wp2_with fail
      exact hK _ _ (by show Value.bool _ = Value.bool true; simp) (Below.refl _ _)
    | 20, _, hS, hK =>
      rw [d20] at hK
      obtain ⟨v41, h41, f41⟩ := hS.got 12 (q := .boolF true) rfl (by kernel_rfl) d12
      obtain rfl : v41 = .bool true := f41
      have e41 := at_eval h41
      obtain ⟨v48, h48, f48⟩ := hS.got 19 (q := .boolF true) rfl (by kernel_rfl) d19
      obtain rfl : v48 = .bool true := f48
      have e48 := at_eval h48
      rw [hL.out, ← hL2.out]; refine wpOp_of_list' rfl ?_
      go_wp2_with fail
      exact hK _ _ rfl (Below.refl _ _)
    | 21, _, hS, hK =>
      rw [d21] at hK
      obtain ⟨v49, h49, f49⟩ := hS.got 20 (q := .boolF true) rfl (by kernel_rfl) d20
      obtain rfl : v49 = .bool true := f49
      have e49 := at_eval h49
      rw [hL.out, ← hL2.out]; refine wpOp_of_list' rfl ?_
      go_wp2_with fail
      exact hK _ _ rfl (Below.refl _ _)
    | 22, _, hS, hK =>
      rw [d22] at hK
      obtain ⟨v50, h50, f50⟩ := hS.got 21 (q := .boolF true) rfl (by kernel_rfl) d21
      obtain rfl : v50 = .bool true := f50
      have e50 := at_eval h50
      have h3 := hS.slot (by kernel_rfl) p3
      have e3 := at_eval h3
      obtain ⟨o3, c3, ⟨b0, b1, b2, b3, b4⟩, hfq⟩ := (B3.out.below hS.below).cells
      rw [hL.out, ← hL2.out]; refine wpOp_of_list' rfl ?_
      go_wp2_with fail
      exact hK _ _ hfq (Below.refl _ _)
    | 23, _, hS, hK =>
      rw [d23] at hK
      obtain ⟨v50, h50, f50⟩ := hS.got 21 (q := .boolF true) rfl (by kernel_rfl) d21
      obtain rfl : v50 = .bool true := f50
      have e50 := at_eval h50
      obtain ⟨v51, h51, f51⟩ := hS.got 22 (q := .fmF (f)) rfl (by kernel_rfl) d22
      have e51 := at_eval h51
      rw [hL.out, ← hL2.out]; refine wpOp_of_list' rfl ?_
      go_wp2_with fail
      refine (past_any f W.heap.size _ W (fm_at f51) (Nat.le_refl _) hEW (by omega)).mono ?_
      rintro e W2 ⟨rfl, hb⟩
      rw [e_pa.out]
      go_wp2_with fail
      exact hK _ _ rfl hb
    | 24, _, hS, hK =>
      rw [d24] at hK
      obtain ⟨v50, h50, f50⟩ := hS.got 21 (q := .boolF true) rfl (by kernel_rfl) d21
      obtain rfl : v50 = .bool true := f50
      have e50 := at_eval h50
      have h3 := hS.slot (by kernel_rfl) p3
      have e3 := at_eval h3
      obtain ⟨o3, c3, ⟨b0, b1, b2, b3, b4⟩, hfq⟩ := (B3.out.below hS.below).cells
      rw [hL.out, ← hL2.out]; refine wpOp_of_list' rfl ?_
      go_wp2_with fail
      exact hK _ _ hfq (Below.refl _ _)
    | 25, _, hS, hK =>
      rw [d25] at hK
      obtain ⟨v50, h50, f50⟩ := hS.got 21 (q := .boolF true) rfl (by kernel_rfl) d21
      obtain rfl : v50 = .bool true := f50
      have e50 := at_eval h50
      obtain ⟨v53, h53, f53⟩ := hS.got 24 (q := .fmF (f)) rfl (by kernel_rfl) d24
      have e53 := at_eval h53
      rw [hL.out, ← hL2.out]; refine wpOp_of_list' rfl ?_
      go_wp2_with fail
      refine (refpast_any f W.heap.size _ W (fm_at f53) (Nat.le_refl _)).mono ?_
      rintro e W2 ⟨rfl, hb⟩
      rw [e_pa.out]
      go_wp2_with fail
      exact hK _ _ rfl hb
    | 26, _, hS, hK =>
      rw [d26] at hK
      obtain ⟨v50, h50, f50⟩ := hS.got 21 (q := .boolF true) rfl (by kernel_rfl) d21
      obtain rfl : v50 = .bool true := f50
      have e50 := at_eval h50
      obtain ⟨v52, h52, f52⟩ := hS.got 23 (q := .boolF pa) rfl (by kernel_rfl) d23
      obtain rfl : v52 = .bool pa := f52
      have e52 := at_eval h52
      obtain ⟨v54, h54, f54⟩ := hS.got 25 (q := .boolF pa) rfl (by kernel_rfl) d25
      obtain rfl : v54 = .bool pa := f54
      have e54 := at_eval h54
      rw [hL.out, ← hL2.out]; refine wpOp_of_list' rfl ?_
      go_wp2_with fail
      exact hK _ _ (by show Value.bool _ = Value.bool true; simp) (Below.refl _ _)
    | 27, _, hS, hK =>
      rw [d27] at hK
      obtain ⟨v50, h50, f50⟩ := hS.got 21 (q := .boolF true) rfl (by kernel_rfl) d21
      obtain rfl : v50 = .bool true := f50
      have e50 := at_eval h50
      obtain ⟨v55, h55, f55⟩ := hS.got 26 (q := .boolF true) rfl (by kernel_rfl) d26
      obtain rfl : v55 = .bool true := f55
      have e55 := at_eval h55
      rw [hL.out, ← hL2.out]; refine wpOp_of_list' rfl ?_
      go_wp2_with fail
      exact hK _ _ rfl (Below.refl _ _)
    | 28, _, hS, hK =>
      rw [d28] at hK
      obtain ⟨v56, h56, f56⟩ := hS.got 27 (q := .boolF true) rfl (by kernel_rfl) d27
      obtain rfl : v56 = .bool true := f56
      have e56 := at_eval h56
      rw [hL.out, ← hL2.out]; refine wpOp_of_list' rfl ?_
      go_wp2_with fail
      exact hK _ _ rfl (Below.refl _ _)
    | 29, _, hS, hK =>
      rw [d29] at hK
      obtain ⟨v57, h57, f57⟩ := hS.got 28 (q := .boolF true) rfl (by kernel_rfl) d28
      obtain rfl : v57 = .bool true := f57
      have e57 := at_eval h57
      have h3 := hS.slot (by kernel_rfl) p3
      have e3 := at_eval h3
      obtain ⟨o3, c3, ⟨b0, b1, b2, b3, b4⟩, hfq⟩ := (B3.out.below hS.below).cells
      rw [hL.out, ← hL2.out]; refine wpOp_of_list' rfl ?_
      go_wp2_with fail
      exact hK _ _ hfq (Below.refl _ _)
    | 30, _, hS, hK =>
      rw [d30] at hK
      obtain ⟨v57, h57, f57⟩ := hS.got 28 (q := .boolF true) rfl (by kernel_rfl) d28
      obtain rfl : v57 = .bool true := f57
      have e57 := at_eval h57
      obtain ⟨v58, h58, f58⟩ := hS.got 29 (q := .fmF (f)) rfl (by kernel_rfl) d29
      have e58 := at_eval h58
      rw [hL.out, ← hL2.out]; refine wpOp_of_list' rfl ?_
      go_wp2_with fail
      refine (layered_any f W.heap.size _ W (fm_at f58) (Nat.le_refl _) hEW (by omega)).mono ?_
      rintro e W2 ⟨rfl, hb⟩
      rw [e_la.out]
      go_wp2_with fail
      exact hK _ _ rfl hb
    | 31, _, hS, hK =>
      rw [d31] at hK
      obtain ⟨v57, h57, f57⟩ := hS.got 28 (q := .boolF true) rfl (by kernel_rfl) d28
      obtain rfl : v57 = .bool true := f57
      have e57 := at_eval h57
      have h3 := hS.slot (by kernel_rfl) p3
      have e3 := at_eval h3
      obtain ⟨o3, c3, ⟨b0, b1, b2, b3, b4⟩, hfq⟩ := (B3.out.below hS.below).cells
      rw [hL.out, ← hL2.out]; refine wpOp_of_list' rfl ?_
      go_wp2_with fail
      exact hK _ _ hfq (Below.refl _ _)
    | 32, _, hS, hK =>
      rw [d32] at hK
      obtain ⟨v57, h57, f57⟩ := hS.got 28 (q := .boolF true) rfl (by kernel_rfl) d28
      obtain rfl : v57 = .bool true := f57
      have e57 := at_eval h57
      obtain ⟨v60, h60, f60⟩ := hS.got 31 (q := .fmF (f)) rfl (by kernel_rfl) d31
      have e60 := at_eval h60
      rw [hL.out, ← hL2.out]; refine wpOp_of_list' rfl ?_
      go_wp2_with fail
      refine (reflayered_any f W.heap.size _ W (fm_at f60) (Nat.le_refl _)).mono ?_
      rintro e W2 ⟨rfl, hb⟩
      rw [e_la.out]
      go_wp2_with fail
      exact hK _ _ rfl hb
    | 33, _, hS, hK =>
      rw [d33] at hK
      obtain ⟨v57, h57, f57⟩ := hS.got 28 (q := .boolF true) rfl (by kernel_rfl) d28
      obtain rfl : v57 = .bool true := f57
      have e57 := at_eval h57
      obtain ⟨v59, h59, f59⟩ := hS.got 30 (q := .boolF la) rfl (by kernel_rfl) d30
      obtain rfl : v59 = .bool la := f59
      have e59 := at_eval h59
      obtain ⟨v61, h61, f61⟩ := hS.got 32 (q := .boolF la) rfl (by kernel_rfl) d32
      obtain rfl : v61 = .bool la := f61
      have e61 := at_eval h61
      rw [hL.out, ← hL2.out]; refine wpOp_of_list' rfl ?_
      go_wp2_with fail
      exact hK _ _ (by show Value.bool _ = Value.bool true; simp) (Below.refl _ _)
    | 34, _, hS, hK =>
      rw [d34] at hK
      obtain ⟨v57, h57, f57⟩ := hS.got 28 (q := .boolF true) rfl (by kernel_rfl) d28
      obtain rfl : v57 = .bool true := f57
      have e57 := at_eval h57
      obtain ⟨v62, h62, f62⟩ := hS.got 33 (q := .boolF true) rfl (by kernel_rfl) d33
      obtain rfl : v62 = .bool true := f62
      have e62 := at_eval h62
      rw [hL.out, ← hL2.out]; refine wpOp_of_list' rfl ?_
      go_wp2_with fail
      exact hK _ _ rfl (Below.refl _ _)
    | 35, _, hS, hK =>
      rw [d35] at hK
      obtain ⟨v63, h63, f63⟩ := hS.got 34 (q := .boolF true) rfl (by kernel_rfl) d34
      obtain rfl : v63 = .bool true := f63
      have e63 := at_eval h63
      rw [hL.out, ← hL2.out]; refine wpOp_of_list' rfl ?_
      go_wp2_with fail
      exact hK _ _ rfl (Below.refl _ _)
    | 36, _, hS, hK =>
      rw [d36] at hK
      obtain ⟨v64, h64, f64⟩ := hS.got 35 (q := .boolF true) rfl (by kernel_rfl) d35
      obtain rfl : v64 = .bool true := f64
      have e64 := at_eval h64
      have h3 := hS.slot (by kernel_rfl) p3
      have e3 := at_eval h3
      obtain ⟨o3, c3, ⟨b0, b1, b2, b3, b4⟩, hfq⟩ := (B3.out.below hS.below).cells
      rw [hL.out, ← hL2.out]; refine wpOp_of_list' rfl ?_
      go_wp2_with fail
      exact hK _ _ hfq (Below.refl _ _)
    | 37, _, hS, hK =>
      rw [d37] at hK
      obtain ⟨v64, h64, f64⟩ := hS.got 35 (q := .boolF true) rfl (by kernel_rfl) d35
      obtain rfl : v64 = .bool true := f64
      have e64 := at_eval h64
      obtain ⟨v65, h65, f65⟩ := hS.got 36 (q := .fmF (f)) rfl (by kernel_rfl) d36
      have e65 := at_eval h65
      rw [hL.out, ← hL2.out]; refine wpOp_of_list' rfl ?_
      go_wp2_with fail
      refine (names_any f W.heap.size _ W (fm_at f65) (Nat.le_refl _) hEW (by omega)).mono ?_
      rintro e W2 ⟨r, rfl, hN, hb⟩
      rw [e_nm.out] at hN
      go_wp2_with fail
      exact hK _ _ (strs_got hN) hb
    | 38, _, hS, hK =>
      rw [d38] at hK
      obtain ⟨v64, h64, f64⟩ := hS.got 35 (q := .boolF true) rfl (by kernel_rfl) d35
      obtain rfl : v64 = .bool true := f64
      have e64 := at_eval h64
      have h3 := hS.slot (by kernel_rfl) p3
      have e3 := at_eval h3
      obtain ⟨o3, c3, ⟨b0, b1, b2, b3, b4⟩, hfq⟩ := (B3.out.below hS.below).cells
      rw [hL.out, ← hL2.out]; refine wpOp_of_list' rfl ?_
      go_wp2_with fail
      exact hK _ _ hfq (Below.refl _ _)
    | 39, _, hS, hK =>
      rw [d39] at hK
      obtain ⟨v64, h64, f64⟩ := hS.got 35 (q := .boolF true) rfl (by kernel_rfl) d35
      obtain rfl : v64 = .bool true := f64
      have e64 := at_eval h64
      obtain ⟨v67, h67, f67⟩ := hS.got 38 (q := .fmF (f)) rfl (by kernel_rfl) d38
      have e67 := at_eval h67
      rw [hL.out, ← hL2.out]; refine wpOp_of_list' rfl ?_
      go_wp2_with fail
      refine (refnames_any f W.heap.size _ W (fm_at f67) (Nat.le_refl _) (by omega)).mono ?_
      rintro e W2 ⟨r, rfl, hN, hb⟩
      rw [e_nm.out] at hN
      go_wp2_with fail
      exact hK _ _ (strs_got hN) hb
    | 40, _, hS, hK =>
      rw [d40] at hK
      obtain ⟨v64, h64, f64⟩ := hS.got 35 (q := .boolF true) rfl (by kernel_rfl) d35
      obtain rfl : v64 = .bool true := f64
      have e64 := at_eval h64
      obtain ⟨v66, h66, f66⟩ := hS.got 37 (q := .strsF (nm)) rfl (by kernel_rfl) d37
      have e66 := at_eval h66
      obtain ⟨v68, h68, f68⟩ := hS.got 39 (q := .strsF (nm)) rfl (by kernel_rfl) d39
      have e68 := at_eval h68
      rw [hL.out, ← hL2.out]; refine wpOp_of_list' rfl ?_
      go_wp2_with fail
      refine (strings_any W.heap.size _ _ nm nm W (StrsP.mono f66 fun _ hb => hb.1) (StrsP.mono f68 fun _ hb => hb.1) (Nat.le_refl _)).mono ?_
      rintro e W2 ⟨rfl, hb⟩
      rw [strsB_self]
      go_wp2_with fail
      exact hK _ _ rfl hb
    | 41, _, hS, hK =>
      rw [d41] at hK
      obtain ⟨v64, h64, f64⟩ := hS.got 35 (q := .boolF true) rfl (by kernel_rfl) d35
      obtain rfl : v64 = .bool true := f64
      have e64 := at_eval h64
      obtain ⟨v69, h69, f69⟩ := hS.got 40 (q := .boolF true) rfl (by kernel_rfl) d40
      obtain rfl : v69 = .bool true := f69
      have e69 := at_eval h69
      rw [hL.out, ← hL2.out]; refine wpOp_of_list' rfl ?_
      go_wp2_with fail
      exact hK _ _ rfl (Below.refl _ _)
    | 42, _, hS, hK =>
      rw [d42] at hK
      obtain ⟨v70, h70, f70⟩ := hS.got 41 (q := .boolF true) rfl (by kernel_rfl) d41
      obtain rfl : v70 = .bool true := f70
      have e70 := at_eval h70
      rw [hL.out, ← hL2.out]; refine wpOp_of_list' rfl ?_
      go_wp2_with fail
      exact hK _ _ rfl (Below.refl _ _)
    | 43, _, hS, hK =>
      rw [d43] at hK
      obtain ⟨v71, h71, f71⟩ := hS.got 42 (q := .boolF true) rfl (by kernel_rfl) d42
      obtain rfl : v71 = .bool true := f71
      have e71 := at_eval h71
      have h3 := hS.slot (by kernel_rfl) p3
      have e3 := at_eval h3
      obtain ⟨o3, c3, ⟨b0, b1, b2, b3, b4⟩, hfq⟩ := (B3.out.below hS.below).cells
      rw [hL.out, ← hL2.out]; refine wpOp_of_list' rfl ?_
      go_wp2_with fail
      exact hK _ _ hfq (Below.refl _ _)
    | 44, _, hS, hK =>
      rw [d44] at hK
      obtain ⟨v71, h71, f71⟩ := hS.got 42 (q := .boolF true) rfl (by kernel_rfl) d42
      obtain rfl : v71 = .bool true := f71
      have e71 := at_eval h71
      obtain ⟨v72, h72, f72⟩ := hS.got 43 (q := .fmF (f)) rfl (by kernel_rfl) d43
      have e72 := at_eval h72
      rw [hL.out, ← hL2.out]; refine wpOp_of_list' rfl ?_
      go_wp2_with fail
      refine (iskernel_any f W.heap.size _ W (fm_at f72) (Nat.le_refl _) hEW (by omega)).mono ?_
      rintro e W2 ⟨rfl, hb⟩
      rw [e_ke.out]
      go_wp2_with fail
      exact hK _ _ rfl hb
    | 45, _, hS, hK =>
      rw [d45] at hK
      obtain ⟨v71, h71, f71⟩ := hS.got 42 (q := .boolF true) rfl (by kernel_rfl) d42
      obtain rfl : v71 = .bool true := f71
      have e71 := at_eval h71
      have h3 := hS.slot (by kernel_rfl) p3
      have e3 := at_eval h3
      obtain ⟨o3, c3, ⟨b0, b1, b2, b3, b4⟩, hfq⟩ := (B3.out.below hS.below).cells
      rw [hL.out, ← hL2.out]; refine wpOp_of_list' rfl ?_
      go_wp2_with fail
      exact hK _ _ hfq (Below.refl _ _)
    | 46, _, hS, hK =>
      rw [d46] at hK
      obtain ⟨v71, h71, f71⟩ := hS.got 42 (q := .boolF true) rfl (by kernel_rfl) d42
      obtain rfl : v71 = .bool true := f71
      have e71 := at_eval h71
      obtain ⟨v74, h74, f74⟩ := hS.got 45 (q := .fmF (f)) rfl (by kernel_rfl) d45
      have e74 := at_eval h74
      rw [hL.out, ← hL2.out]; refine wpOp_of_list' rfl ?_
      go_wp2_with fail
      refine (refkernel_any f W.heap.size _ W (fm_at f74) (Nat.le_refl _)).mono ?_
      rintro e W2 ⟨rfl, hb⟩
      rw [e_ke.out]
      go_wp2_with fail
      exact hK _ _ rfl hb
    | 47, _, hS, hK =>
      rw [d47] at hK
      obtain ⟨v71, h71, f71⟩ := hS.got 42 (q := .boolF true) rfl (by kernel_rfl) d42
      obtain rfl : v71 = .bool true := f71
      have e71 := at_eval h71
      obtain ⟨v73, h73, f73⟩ := hS.got 44 (q := .boolF ke) rfl (by kernel_rfl) d44
      obtain rfl : v73 = .bool ke := f73
      have e73 := at_eval h73
      obtain ⟨v75, h75, f75⟩ := hS.got 46 (q := .boolF ke) rfl (by kernel_rfl) d46
      obtain rfl : v75 = .bool ke := f75
      have e75 := at_eval h75
      rw [hL.out, ← hL2.out]; refine wpOp_of_list' rfl ?_
      go_wp2_with fail
      exact hK _ _ (by show Value.bool _ = Value.bool true; simp) (Below.refl _ _)
    | 48, _, hS, hK =>
      rw [d48] at hK
      obtain ⟨v71, h71, f71⟩ := hS.got 42 (q := .boolF true) rfl (by kernel_rfl) d42
      obtain rfl : v71 = .bool true := f71
      have e71 := at_eval h71
      obtain ⟨v76, h76, f76⟩ := hS.got 47 (q := .boolF true) rfl (by kernel_rfl) d47
      obtain rfl : v76 = .bool true := f76
      have e76 := at_eval h76
      rw [hL.out, ← hL2.out]; refine wpOp_of_list' rfl ?_
      go_wp2_with fail
      exact hK _ _ rfl (Below.refl _ _)
    | 49, _, hS, hK =>
      rw [d49] at hK
      obtain ⟨v77, h77, f77⟩ := hS.got 48 (q := .boolF true) rfl (by kernel_rfl) d48
      obtain rfl : v77 = .bool true := f77
      have e77 := at_eval h77
      rw [hL.out, ← hL2.out]; refine wpOp_of_list' rfl ?_
      go_wp2_with fail
      exact hK _ _ rfl (Below.refl _ _)
    | n + 50, hi, _, _ => exact absurd hi (by rw [hsz]; omega)
  · intro x W hB hx
    have y49 : x 49 = .bool true := hx 49 8 (by rw [hsz]; omega) d49
    have hl := hend x W hB
    have hr : List.range (opsAt Tryz.f3 4).size = [0, 1, 2, 3, 4, 5, 6, 7, 8, 9, 10, 11, 12, 13, 14, 15, 16, 17, 18, 19, 20, 21, 22, 23, 24, 25, 26, 27, 28, 29, 30, 31, 32, 33, 34, 35, 36, 37, 38, 39, 40, 41, 42, 43, 44, 45, 46, 47, 48, 49] := by rw [hsz]; rfl
    rw [hr]
    simp only [putL, d0, d1, d2, d3, d4, d5, d6, d7, d8, d9, d10, d11, d12, d13, d14, d15, d16, d17, d18, d19, d20, d21, d22, d23, d24, d25, d26, d27, d28, d29, d30, d31, d32, d33, d34, d35, d36, d37, d38, d39, d40, d41, d42, d43, d44, d45, d46, d47, d48, d49]
    simp only [y49]
    exact hl
theorem mr_r7 {f kf nf cf : Fm} {kn : Int} {k3 k9 k11 : Nat} (a0 : Act) (W0 : World) (Q : Exit → Act → World → Prop) (hE : Env W0) (hz : a0.tmps.size = 131) (p3 : a0.tmps[(3 : Nat)]? = some (.pointer (some ⟨k3, 0, none⟩))) (p9 : a0.tmps[(9 : Nat)]? = some (.pointer (some ⟨k9, 0, none⟩))) (p10 : a0.tmps[(10 : Nat)]? = some (.int .i64 (kn))) (p11 : a0.tmps[(11 : Nat)]? = some (.pointer (some ⟨k11, 0, none⟩))) (p12 : a0.tmps[(12 : Nat)]? = some (.int .i64 (kn))) (B3 : Hid (Bx W0 k3 (f))) (B9 : Hid (Bx W0 k9 (kf))) (B11 : Hid (Bx W0 k11 (kf))) (e_nf : Hid (notF f = nf)) (e_cf : Hid (canonTop f = cf)) (n1 : f.nodes ≤ 1000)
    (hend : ∀ (x : Nat → Value) (W : World), Below W0.heap.size W0 W → Q .normal (((((((((((((((((((((((a0.put (some 88) (x 0)).put (some 89) (x 1)).put (some 90) (x 2)).put (some 91) (x 3)).put (some 92) (x 4)).put (some 93) (x 5)).put (some 94) (x 6)).put (some 95) (x 7)).put (some 96) (x 8)).put (some 97) (x 9)).put (some 98) (x 10)).put (some 99) (x 11)).put (some 100) (x 12)).put (some 101) (x 13)).put (some 102) (x 14)).put (some 103) (x 15)).put (some 104) (x 16)).put (some 105) (x 17)).put (some 106) (x 18)).put (some 107) (x 19)).put (some 108) (x 20)).put (some 109) (x 21)).put (some 13) (.bool true)) W) :
    (Code.region 7 (opsAt Tryz.f3 7) true).wp Tryz.prog Q a0 W0 := by
  have d0 : dstOf (opsAt Tryz.f3 7) 0 = some 88 := by kernel_rfl
  have d1 : dstOf (opsAt Tryz.f3 7) 1 = some 89 := by kernel_rfl
  have d2 : dstOf (opsAt Tryz.f3 7) 2 = some 90 := by kernel_rfl
  have d3 : dstOf (opsAt Tryz.f3 7) 3 = some 91 := by kernel_rfl
  have d4 : dstOf (opsAt Tryz.f3 7) 4 = some 92 := by kernel_rfl
  have d5 : dstOf (opsAt Tryz.f3 7) 5 = some 93 := by kernel_rfl
  have d6 : dstOf (opsAt Tryz.f3 7) 6 = some 94 := by kernel_rfl
  have d7 : dstOf (opsAt Tryz.f3 7) 7 = some 95 := by kernel_rfl
  have d8 : dstOf (opsAt Tryz.f3 7) 8 = some 96 := by kernel_rfl
  have d9 : dstOf (opsAt Tryz.f3 7) 9 = some 97 := by kernel_rfl
  have d10 : dstOf (opsAt Tryz.f3 7) 10 = some 98 := by kernel_rfl
  have d11 : dstOf (opsAt Tryz.f3 7) 11 = some 99 := by kernel_rfl
  have d12 : dstOf (opsAt Tryz.f3 7) 12 = some 100 := by kernel_rfl
  have d13 : dstOf (opsAt Tryz.f3 7) 13 = some 101 := by kernel_rfl
  have d14 : dstOf (opsAt Tryz.f3 7) 14 = some 102 := by kernel_rfl
  have d15 : dstOf (opsAt Tryz.f3 7) 15 = some 103 := by kernel_rfl
  have d16 : dstOf (opsAt Tryz.f3 7) 16 = some 104 := by kernel_rfl
  have d17 : dstOf (opsAt Tryz.f3 7) 17 = some 105 := by kernel_rfl
  have d18 : dstOf (opsAt Tryz.f3 7) 18 = some 106 := by kernel_rfl
  have d19 : dstOf (opsAt Tryz.f3 7) 19 = some 107 := by kernel_rfl
  have d20 : dstOf (opsAt Tryz.f3 7) 20 = some 108 := by kernel_rfl
  have d21 : dstOf (opsAt Tryz.f3 7) 21 = some 109 := by kernel_rfl
  have d22 : dstOf (opsAt Tryz.f3 7) 22 = some 13 := by kernel_rfl
  have hsz : (opsAt Tryz.f3 7).size = 23 := by kernel_rfl
  obtain ⟨L, hL⟩ : ∃ L, Hid ((opsAt Tryz.f3 7) = L) := ⟨_, hidi rfl⟩
  have hL2 := hL.out
  unfold opsAt Tryz.f3 at hL2
  simp only [findRegion, Nat.reduceBEq, if_true, if_false, Bool.false_eq_true, Option.getD_some] at hL2
  replace hL2 := hidi hL2
  refine wp_region_facts (by kernel_rfl) (by kernel_rfl) (by kernel_rfl) (by rw [hz]; kernel_rfl) (by kernel_rfl) (fun i => match i with
      | 0 => .intF (kn)
      | 1 => .intF (kn)
      | 2 => .boolF true
      | 3 => .boolF true
      | 4 => .fmF (kf)
      | 5 => .fmF (kf)
      | 6 => .boolF true
      | 7 => .boolF true
      | 8 => .boolF true
      | 9 => .fmF (f)
      | 10 => .fmF (nf)
      | 11 => .fmF (f)
      | 12 => .fmF (nf)
      | 13 => .boolF true
      | 14 => .boolF true
      | 15 => .boolF true
      | 16 => .fmF (f)
      | 17 => .fmF (cf)
      | 18 => .fmF (f)
      | 19 => .fmF (cf)
      | 20 => .boolF true
      | 21 => .boolF true
      | 22 => .boolF true
      | _ => .free) ?_ ?_
  · intro i a W K hi hS hK
    have hEW := hE.below hS.below
    match i, hi, hS, hK with
    | 0, _, hS, hK =>
      rw [d0] at hK
      have h10 := hS.slot (by kernel_rfl) p10
      have e10 := at_eval h10
      rw [hL.out, ← hL2.out]; refine wpOp_of_list' rfl ?_
      go_wp2_with fail
      exact hK _ _ rfl (Below.refl _ _)
    | 1, _, hS, hK =>
      rw [d1] at hK
      have h12 := hS.slot (by kernel_rfl) p12
      have e12 := at_eval h12
      rw [hL.out, ← hL2.out]; refine wpOp_of_list' rfl ?_
      go_wp2_with fail
      exact hK _ _ rfl (Below.refl _ _)
    | 2, _, hS, hK =>
      rw [d2] at hK
      obtain ⟨v88, h88, f88⟩ := hS.got 0 (q := .intF (kn)) rfl (by kernel_rfl) d0
      obtain rfl : v88 = .int .i64 (kn) := f88
      have e88 := at_eval h88
      obtain ⟨v89, h89, f89⟩ := hS.got 1 (q := .intF (kn)) rfl (by kernel_rfl) d1
      obtain rfl : v89 = .int .i64 (kn) := f89
      have e89 := at_eval h89
      rw [hL.out, ← hL2.out]; refine wpOp_of_list' rfl ?_
      go_wp2_with fail
      exact hK _ _ (by show Value.bool _ = Value.bool true; simp) (Below.refl _ _)
    | 3, _, hS, hK =>
      rw [d3] at hK
      obtain ⟨v90, h90, f90⟩ := hS.got 2 (q := .boolF true) rfl (by kernel_rfl) d2
      obtain rfl : v90 = .bool true := f90
      have e90 := at_eval h90
      rw [hL.out, ← hL2.out]; refine wpOp_of_list' rfl ?_
      go_wp2_with fail
      exact hK _ _ rfl (Below.refl _ _)
    | 4, _, hS, hK =>
      rw [d4] at hK
      obtain ⟨v91, h91, f91⟩ := hS.got 3 (q := .boolF true) rfl (by kernel_rfl) d3
      obtain rfl : v91 = .bool true := f91
      have e91 := at_eval h91
      have h9 := hS.slot (by kernel_rfl) p9
      have e9 := at_eval h9
      obtain ⟨o9, c9, ⟨b0, b1, b2, b3, b4⟩, hfq⟩ := (B9.out.below hS.below).cells
      rw [hL.out, ← hL2.out]; refine wpOp_of_list' rfl ?_
      go_wp2_with fail
      exact hK _ _ hfq (Below.refl _ _)
    | 5, _, hS, hK =>
      rw [d5] at hK
      obtain ⟨v91, h91, f91⟩ := hS.got 3 (q := .boolF true) rfl (by kernel_rfl) d3
      obtain rfl : v91 = .bool true := f91
      have e91 := at_eval h91
      have h11 := hS.slot (by kernel_rfl) p11
      have e11 := at_eval h11
      obtain ⟨o11, c11, ⟨b0, b1, b2, b3, b4⟩, hfq⟩ := (B11.out.below hS.below).cells
      rw [hL.out, ← hL2.out]; refine wpOp_of_list' rfl ?_
      go_wp2_with fail
      exact hK _ _ hfq (Below.refl _ _)
    | 6, _, hS, hK =>
      rw [d6] at hK
      obtain ⟨v91, h91, f91⟩ := hS.got 3 (q := .boolF true) rfl (by kernel_rfl) d3
      obtain rfl : v91 = .bool true := f91
      have e91 := at_eval h91
      obtain ⟨v92, h92, f92⟩ := hS.got 4 (q := .fmF (kf)) rfl (by kernel_rfl) d4
      have e92 := at_eval h92
      obtain ⟨v93, h93, f93⟩ := hS.got 5 (q := .fmF (kf)) rfl (by kernel_rfl) d5
      have e93 := at_eval h93
      rw [hL.out, ← hL2.out]; refine wpOp_of_list' rfl ?_
      go_wp2_with fail
      refine (refsame_any (kf) (kf) W.heap.size _ _ W (fm_at f92) (fm_at f93) (Nat.le_refl _)).mono ?_
      rintro e W2 ⟨rfl, hb⟩
      rw [same_self]
      go_wp2_with fail
      exact hK _ _ rfl hb
    | 7, _, hS, hK =>
      rw [d7] at hK
      obtain ⟨v91, h91, f91⟩ := hS.got 3 (q := .boolF true) rfl (by kernel_rfl) d3
      obtain rfl : v91 = .bool true := f91
      have e91 := at_eval h91
      obtain ⟨v94, h94, f94⟩ := hS.got 6 (q := .boolF true) rfl (by kernel_rfl) d6
      obtain rfl : v94 = .bool true := f94
      have e94 := at_eval h94
      rw [hL.out, ← hL2.out]; refine wpOp_of_list' rfl ?_
      go_wp2_with fail
      exact hK _ _ rfl (Below.refl _ _)
    | 8, _, hS, hK =>
      rw [d8] at hK
      obtain ⟨v95, h95, f95⟩ := hS.got 7 (q := .boolF true) rfl (by kernel_rfl) d7
      obtain rfl : v95 = .bool true := f95
      have e95 := at_eval h95
      rw [hL.out, ← hL2.out]; refine wpOp_of_list' rfl ?_
      go_wp2_with fail
      exact hK _ _ rfl (Below.refl _ _)
    | 9, _, hS, hK =>
      rw [d9] at hK
      obtain ⟨v96, h96, f96⟩ := hS.got 8 (q := .boolF true) rfl (by kernel_rfl) d8
      obtain rfl : v96 = .bool true := f96
      have e96 := at_eval h96
      have h3 := hS.slot (by kernel_rfl) p3
      have e3 := at_eval h3
      obtain ⟨o3, c3, ⟨b0, b1, b2, b3, b4⟩, hfq⟩ := (B3.out.below hS.below).cells
      rw [hL.out, ← hL2.out]; refine wpOp_of_list' rfl ?_
      go_wp2_with fail
      exact hK _ _ hfq (Below.refl _ _)
    | 10, _, hS, hK =>
      rw [d10] at hK
      obtain ⟨v96, h96, f96⟩ := hS.got 8 (q := .boolF true) rfl (by kernel_rfl) d8
      obtain rfl : v96 = .bool true := f96
      have e96 := at_eval h96
      obtain ⟨v97, h97, f97⟩ := hS.got 9 (q := .fmF (f)) rfl (by kernel_rfl) d9
      have e97 := at_eval h97
      rw [hL.out, ← hL2.out]; refine wpOp_of_list' rfl ?_
      go_wp2_with fail
      refine (not_any (fun b => b < W.heap.size ∧ True) f _ W hEW f97 (fun b hb => hb.1) (by omega)).mono ?_
      rintro e W2 ⟨r, rfl, hN, hb⟩
      rw [e_nf.out] at hN
      go_wp2_with fail
      exact hK _ _ (fm_got (Ok := fun _ => True) hN hb (fun _ _ => trivial)) hb
    | 11, _, hS, hK =>
      rw [d11] at hK
      obtain ⟨v96, h96, f96⟩ := hS.got 8 (q := .boolF true) rfl (by kernel_rfl) d8
      obtain rfl : v96 = .bool true := f96
      have e96 := at_eval h96
      have h3 := hS.slot (by kernel_rfl) p3
      have e3 := at_eval h3
      obtain ⟨o3, c3, ⟨b0, b1, b2, b3, b4⟩, hfq⟩ := (B3.out.below hS.below).cells
      rw [hL.out, ← hL2.out]; refine wpOp_of_list' rfl ?_
      go_wp2_with fail
      exact hK _ _ hfq (Below.refl _ _)
    | 12, _, hS, hK =>
      rw [d12] at hK
      obtain ⟨v96, h96, f96⟩ := hS.got 8 (q := .boolF true) rfl (by kernel_rfl) d8
      obtain rfl : v96 = .bool true := f96
      have e96 := at_eval h96
      obtain ⟨v99, h99, f99⟩ := hS.got 11 (q := .fmF (f)) rfl (by kernel_rfl) d11
      have e99 := at_eval h99
      rw [hL.out, ← hL2.out]; refine wpOp_of_list' rfl ?_
      go_wp2_with fail
      refine (refnot_eq (fun b => b < W.heap.size ∧ True) _ f W f99 (fun b hb => hb.1)).mono ?_
      rintro e W2 ⟨r, rfl, hN, hb⟩
      rw [e_nf.out] at hN
      go_wp2_with fail
      exact hK _ _ (fm_got (Ok := fun _ => True) hN hb (fun _ _ => trivial)) hb
    | 13, _, hS, hK =>
      rw [d13] at hK
      obtain ⟨v96, h96, f96⟩ := hS.got 8 (q := .boolF true) rfl (by kernel_rfl) d8
      obtain rfl : v96 = .bool true := f96
      have e96 := at_eval h96
      obtain ⟨v98, h98, f98⟩ := hS.got 10 (q := .fmF (nf)) rfl (by kernel_rfl) d10
      have e98 := at_eval h98
      obtain ⟨v100, h100, f100⟩ := hS.got 12 (q := .fmF (nf)) rfl (by kernel_rfl) d12
      have e100 := at_eval h100
      rw [hL.out, ← hL2.out]; refine wpOp_of_list' rfl ?_
      go_wp2_with fail
      refine (refsame_any (nf) (nf) W.heap.size _ _ W (fm_at f98) (fm_at f100) (Nat.le_refl _)).mono ?_
      rintro e W2 ⟨rfl, hb⟩
      rw [same_self]
      go_wp2_with fail
      exact hK _ _ rfl hb
    | 14, _, hS, hK =>
      rw [d14] at hK
      obtain ⟨v96, h96, f96⟩ := hS.got 8 (q := .boolF true) rfl (by kernel_rfl) d8
      obtain rfl : v96 = .bool true := f96
      have e96 := at_eval h96
      obtain ⟨v101, h101, f101⟩ := hS.got 13 (q := .boolF true) rfl (by kernel_rfl) d13
      obtain rfl : v101 = .bool true := f101
      have e101 := at_eval h101
      rw [hL.out, ← hL2.out]; refine wpOp_of_list' rfl ?_
      go_wp2_with fail
      exact hK _ _ rfl (Below.refl _ _)
    | 15, _, hS, hK =>
      rw [d15] at hK
      obtain ⟨v102, h102, f102⟩ := hS.got 14 (q := .boolF true) rfl (by kernel_rfl) d14
      obtain rfl : v102 = .bool true := f102
      have e102 := at_eval h102
      rw [hL.out, ← hL2.out]; refine wpOp_of_list' rfl ?_
      go_wp2_with fail
      exact hK _ _ rfl (Below.refl _ _)
    | 16, _, hS, hK =>
      rw [d16] at hK
      obtain ⟨v103, h103, f103⟩ := hS.got 15 (q := .boolF true) rfl (by kernel_rfl) d15
      obtain rfl : v103 = .bool true := f103
      have e103 := at_eval h103
      have h3 := hS.slot (by kernel_rfl) p3
      have e3 := at_eval h3
      obtain ⟨o3, c3, ⟨b0, b1, b2, b3, b4⟩, hfq⟩ := (B3.out.below hS.below).cells
      rw [hL.out, ← hL2.out]; refine wpOp_of_list' rfl ?_
      go_wp2_with fail
      exact hK _ _ hfq (Below.refl _ _)
    | 17, _, hS, hK =>
      rw [d17] at hK
      obtain ⟨v103, h103, f103⟩ := hS.got 15 (q := .boolF true) rfl (by kernel_rfl) d15
      obtain rfl : v103 = .bool true := f103
      have e103 := at_eval h103
      obtain ⟨v104, h104, f104⟩ := hS.got 16 (q := .fmF (f)) rfl (by kernel_rfl) d16
      have e104 := at_eval h104
      rw [hL.out, ← hL2.out]; refine wpOp_of_list' rfl ?_
      go_wp2_with fail
      refine (canontop_any (fun b => b < W.heap.size ∧ True) f _ W hEW f104 (fun b hb => hb.1) (by omega)).mono ?_
      rintro e W2 ⟨r, rfl, hN, hb⟩
      rw [e_cf.out] at hN
      go_wp2_with fail
      exact hK _ _ (fm_got (Ok := fun _ => True) hN hb (fun _ _ => trivial)) hb
    | 18, _, hS, hK =>
      rw [d18] at hK
      obtain ⟨v103, h103, f103⟩ := hS.got 15 (q := .boolF true) rfl (by kernel_rfl) d15
      obtain rfl : v103 = .bool true := f103
      have e103 := at_eval h103
      have h3 := hS.slot (by kernel_rfl) p3
      have e3 := at_eval h3
      obtain ⟨o3, c3, ⟨b0, b1, b2, b3, b4⟩, hfq⟩ := (B3.out.below hS.below).cells
      rw [hL.out, ← hL2.out]; refine wpOp_of_list' rfl ?_
      go_wp2_with fail
      exact hK _ _ hfq (Below.refl _ _)
    | 19, _, hS, hK =>
      rw [d19] at hK
      obtain ⟨v103, h103, f103⟩ := hS.got 15 (q := .boolF true) rfl (by kernel_rfl) d15
      obtain rfl : v103 = .bool true := f103
      have e103 := at_eval h103
      obtain ⟨v106, h106, f106⟩ := hS.got 18 (q := .fmF (f)) rfl (by kernel_rfl) d18
      have e106 := at_eval h106
      rw [hL.out, ← hL2.out]; refine wpOp_of_list' rfl ?_
      go_wp2_with fail
      refine (refcanontop_eq (fun b => b < W.heap.size ∧ True) _ f W f106 (fun b hb => hb.1)).mono ?_
      rintro e W2 ⟨r, rfl, hN, hb⟩
      rw [e_cf.out] at hN
      go_wp2_with fail
      exact hK _ _ (fm_got (Ok := fun _ => True) hN hb (fun _ _ => trivial)) hb
    | 20, _, hS, hK =>
      rw [d20] at hK
      obtain ⟨v103, h103, f103⟩ := hS.got 15 (q := .boolF true) rfl (by kernel_rfl) d15
      obtain rfl : v103 = .bool true := f103
      have e103 := at_eval h103
      obtain ⟨v105, h105, f105⟩ := hS.got 17 (q := .fmF (cf)) rfl (by kernel_rfl) d17
      have e105 := at_eval h105
      obtain ⟨v107, h107, f107⟩ := hS.got 19 (q := .fmF (cf)) rfl (by kernel_rfl) d19
      have e107 := at_eval h107
      rw [hL.out, ← hL2.out]; refine wpOp_of_list' rfl ?_
      go_wp2_with fail
      refine (refsame_any (cf) (cf) W.heap.size _ _ W (fm_at f105) (fm_at f107) (Nat.le_refl _)).mono ?_
      rintro e W2 ⟨rfl, hb⟩
      rw [same_self]
      go_wp2_with fail
      exact hK _ _ rfl hb
    | 21, _, hS, hK =>
      rw [d21] at hK
      obtain ⟨v103, h103, f103⟩ := hS.got 15 (q := .boolF true) rfl (by kernel_rfl) d15
      obtain rfl : v103 = .bool true := f103
      have e103 := at_eval h103
      obtain ⟨v108, h108, f108⟩ := hS.got 20 (q := .boolF true) rfl (by kernel_rfl) d20
      obtain rfl : v108 = .bool true := f108
      have e108 := at_eval h108
      rw [hL.out, ← hL2.out]; refine wpOp_of_list' rfl ?_
      go_wp2_with fail
      exact hK _ _ rfl (Below.refl _ _)
    | 22, _, hS, hK =>
      rw [d22] at hK
      obtain ⟨v109, h109, f109⟩ := hS.got 21 (q := .boolF true) rfl (by kernel_rfl) d21
      obtain rfl : v109 = .bool true := f109
      have e109 := at_eval h109
      rw [hL.out, ← hL2.out]; refine wpOp_of_list' rfl ?_
      go_wp2_with fail
      exact hK _ _ rfl (Below.refl _ _)
    | n + 23, hi, _, _ => exact absurd hi (by rw [hsz]; omega)
  · intro x W hB hx
    have y22 : x 22 = .bool true := hx 22 13 (by rw [hsz]; omega) d22
    have hl := hend x W hB
    have hr : List.range (opsAt Tryz.f3 7).size = [0, 1, 2, 3, 4, 5, 6, 7, 8, 9, 10, 11, 12, 13, 14, 15, 16, 17, 18, 19, 20, 21, 22] := by rw [hsz]; rfl
    rw [hr]
    simp only [putL, d0, d1, d2, d3, d4, d5, d6, d7, d8, d9, d10, d11, d12, d13, d14, d15, d16, d17, d18, d19, d20, d21, d22]
    simp only [y22]
    exact hl

end Go.Proofs.YtbnnjbfbifihaaaGreatDoor
