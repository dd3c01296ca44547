/-
  Contracts of the reference's Make, Input, Output, Join.
-/
import Derived.Test.YtbifbaennjglmaaRefB
namespace Go.Proofs.Ytbifbaennjglmaa
open Go.RowKit

theorem okV_drop {l : List Sig} {vs : List Int} {k : Nat} (h1 : k < l.length) (h2 : k < vs.length) : okV (l.drop k) (vs.drop k) = (belowB vs[k] l[k].size && okV (l.drop (k + 1)) (vs.drop (k + 1))) := by
  rw [List.drop_eq_getElem_cons h1, List.drop_eq_getElem_cons h2]; rfl
theorem acc_drop {p : Sig → Bool} {l : List Sig} {vs : List Int} {k : Nat} {n x : Int} (h1 : k < l.length) (h2 : k < vs.length) :
    accW p n x (l.drop k) (vs.drop k) = if p l[k] then accW p (wrap64 (n + wrap64 (x * vs[k]))) (wrap64 (x * l[k].size)) (l.drop (k + 1)) (vs.drop (k + 1)) else accW p n x (l.drop (k + 1)) (vs.drop (k + 1)) := by
  rw [List.drop_eq_getElem_cons h1, List.drop_eq_getElem_cons h2]; rfl
theorem acc_end {p : Sig → Bool} {l : List Sig} {vs : List Int} {k : Nat} {n x : Int} (h1 : l.length ≤ k) : accW p n x (l.drop k) vs = n := by
  rw [List.drop_of_length_le h1]
  unfold accW
  rfl

set_option maxRecDepth 100000 in
set_option maxHeartbeats 2000000 in
theorem refmake_any (B : Nat) (v u : Value) (l : List Sig) (vs : List Int) (w : World) (hl : Sigs B w v l) (hu : IntsAt B w u vs) (hBw : B ≤ w.heap.size) :
    Calls Try.prog 12 #[v, u] w fun e w' => e = .returned (.tuple #[.int .i64 (makeI l vs), .bool (makeOk l vs)]) ∧ Below w.heap.size w w' := by
  have hl' := hl.mono hBw
  have hu' := hu.mono hBw
  obtain ⟨o, c, rfl⟩ := hl.shape
  obtain ⟨ou, cu, rfl⟩ := hu.shape
  cases hv : validB l
  · go_enter Try.func12, Try.ntmps12
    go_wp2_with (go_at_call 14; refine (refvalid_any _ _ l _ hl' (Nat.le_refl _)).mono ?_; rintro e w1 ⟨rfl, hb1⟩)
    go_ret2
    exact ⟨by simp [makeI, makeOk, hv], hb1⟩
  · by_cases hne : vs.length = l.length
    · have hw := (valid_iff l).1 hv
      have h6 := hw.len6
      have h1 := hw.len1
      have hn2 : ((vs.length : Int) != (l.length : Int)) = false := by simp [hne]
      have hne' := hidi hne
      obtain ⟨b, off, rfl, hb, hcap, -, hc⟩ := hl'.at (by omega)
      obtain ⟨b2, off2, rfl, hb2, hcap2, -, hc2⟩ := hu'.at (by omega)
      clear hne
      go_enter Try.func12, Try.ntmps12
      go_wp2_with (go_at_call 14; refine (refvalid_any _ _ l _ hl' (Nat.le_refl _)).mono ?_; rintro e w1 ⟨rfl, hb1⟩)
      go_loopw [6, 7, 8] (fun p q i wr => ∃ (k : Nat) (n x : Int), k ≤ l.length ∧ i = .int .i64 k ∧ p = .int .i64 n ∧ q = .int .i64 x ∧ Below w1.heap.size w1 wr ∧ Hid (okV l vs = okV (l.drop k) (vs.drop k)) ∧ Hid (accW allS 0 1 l vs = accW allS n x (l.drop k) (vs.drop k))) (fun _ _ i _ => l.length - (intOf i).toNat)
      case atStart => exact ⟨0, 0, 1, Nat.zero_le _, rfl, rfl, rfl, Below.refl _ _, rfl, rfl⟩
      case round =>
        obtain ⟨k, n, x, hk, rfl, rfl, rfl, hB, hF, hG⟩ := hrel
        by_cases hlt : k < l.length
        · have hlt2 : k < vs.length := by have := hne'.out; omega
          obtain ⟨c0, c1, c2, -⟩ := ((hc k hlt).below hb1 hb).below hB (Nat.lt_of_lt_of_le hb hb1.size)
          have d0 := ((hb1.trans (hB.mono hb1.size)).cell (p := ⟨b2, off2 + k, none⟩) hb2).trans (hc2 k hlt2).1
          have hS := hidi (okV_drop hlt hlt2)
          have hT := hidi (acc_drop (p := allS) (n := n) (x := x) hlt hlt2)
          have g1 : (0 : Int) ≤ k := by omega
          have g2 : (k : Int) < l.length := by omega
          have g3 : (k : Int) < vs.length := by omega
          by_cases hlo : 0 ≤ vs[k]
          · by_cases hhi : vs[k] < l[k].size
            · have hbk : belowB vs[k] l[k].size = true := (belowB_iff _ _).2 ⟨hlo, hhi⟩
              have t1 : decide (vs[k] < 0) = false := by simp; omega
              have t2 : decide (l[k].size ≤ vs[k]) = false := by simp; omega
              have hbk' := hidi hbk
              clear hbk
              go_wp2
              go_quiet (fail)
              go_wp2
              go_roundw
              case rel => exact ⟨k + 1, _, _, by omega, by go_num, rfl, rfl, below_drewN hB _, hF.out.trans (hS.out.trans (by rw [hbk'.out]; rfl)), hG.out.trans (hT.out.trans (if_pos rfl))⟩
              case measure => simp [intOf]; omega
            · have hok : okV l vs = false := by
                rw [hF.out, hS.out, show belowB vs[k] l[k].size = false from by rw [Bool.eq_false_iff]; intro h; exact hhi ((belowB_iff _ _).1 h).2]; rfl
              have t1 : decide (vs[k] < 0) = false := by simp; omega
              have t2 : decide (l[k].size ≤ vs[k]) = true := by simp; omega
              have hok' := hidi hok
              clear hok
              go_wp2
              go_quiet (fail)
              go_wp2
              go_ret2
              exact ⟨by simp [makeI, makeOk, hok'.out], hb1.trans ((below_drewN hB _).mono hb1.size)⟩
          · have hok : okV l vs = false := by
              rw [hF.out, hS.out, show belowB vs[k] l[k].size = false from by rw [Bool.eq_false_iff]; intro h; exact hlo ((belowB_iff _ _).1 h).1]; rfl
            have t1 : decide (vs[k] < 0) = true := by simp; omega
            have hok' := hidi hok
            clear hok
            go_wp2
            go_quiet (fail)
            go_wp2
            go_ret2
            exact ⟨by simp [makeI, makeOk, hok'.out], hb1.trans ((below_drewN hB _).mono hb1.size)⟩
        · have hok : Hid (okV l vs = true) := by unfold Hid; rw [hF.out, List.drop_of_length_le (by omega), List.drop_of_length_le (by have := hne'.out; omega)]; rfl
          go_wp2
          go_ret2
          have e : n = comp allS l vs := by rw [← acc_comp hw (okV_few hw.sized hok.out), hG.out, acc_end (by omega)]
          exact ⟨by rw [e]; simp [makeI, makeOk, hv, hok.out], hb1.trans (hB.mono hb1.size)⟩
    · have hn2 : ((vs.length : Int) != (l.length : Int)) = true := by simp; omega
      have hok : okV l vs = false := by
        cases h : okV l vs
        · rfl
        · exact (hne (okV_length h)).elim
      go_enter Try.func12, Try.ntmps12
      go_wp2_with (go_at_call 14; refine (refvalid_any _ _ l _ hl' (Nat.le_refl _)).mono ?_; rintro e w1 ⟨rfl, hb1⟩)
      go_ret2
      exact ⟨by simp [makeI, makeOk, hok], hb1⟩

set_option maxRecDepth 100000 in
set_option maxHeartbeats 2000000 in
theorem refhalf_any (B : Nat) (v : Value) (l : List Sig) (a : Int) (t : Bool) (w : World) (hl : Sigs B w v l) (hBw : B ≤ w.heap.size) :
    Calls Try.prog 48 #[v, .int .i64 a, .bool t] w fun e w' => e = .returned (.int .i64 (projI (inS t) l a)) ∧ Below w.heap.size w w' := by
  have hl' := hl.mono hBw
  obtain ⟨o, c, rfl⟩ := hl.shape
  go_enter Try.func48, Try.ntmps48
  go_wp2_with fail
  refine (refvalues_any B _ l a _ hl hBw).mono ?_
  rintro e w1 ⟨u, rfl, hu, hb1⟩
  cases hla : belowB a (cntI allS l)
  · rw [hla] at hu
    obtain ⟨o1, c1, rfl⟩ := hu.shape
    have hz : Hid (projI (inS t) l a = 0) := by unfold Hid projI; rw [hla]; rfl
    clear hla
    go_wp2
    go_loop [8, 10] (fun p i => p = .int .i64 0 ∧ i = .int .i64 0) (fun _ _ => 0)
    case atStart => exact ⟨rfl, rfl⟩
    case round =>
      obtain ⟨rfl, rfl⟩ := hrel
      go_wp2
      go_ret
      exact ⟨ret_int hz.out.symm, hb1⟩
  · rw [hla, if_pos rfl] at hu
    have hw := cntI_pos hla
    have h6 := hw.len6
    have h1 := hw.len1
    have hvl := valsI_length l a
    obtain ⟨o1, c1, rfl⟩ := hu.shape
    obtain ⟨b2, off2, rfl, hb2, hcap2, -, hc2⟩ := hu.at (by omega)
    obtain ⟨b, off, rfl, hb, hcap, -, hc⟩ := hl'.at (by omega)
    have hz : Hid (projI (inS t) l a = comp (inS t) l (valsI l a)) := by unfold Hid; exact proj_of hla
    have hfew := hidi (valsI_few hw a)
    clear hla hu
    generalize valsI l a = xs at *
    have hvl' := hidi hvl
    rw [hvl] at hcap2 ⊢
    clear hvl
    go_wp2
    go_loop [8, 9, 10] (fun p q i => ∃ (k : Nat) (n x : Int), k ≤ l.length ∧ i = .int .i64 k ∧ p = .int .i64 n ∧ q = .int .i64 x ∧ Hid (accW (inS t) 0 1 l xs = accW (inS t) n x (l.drop k) (xs.drop k))) (fun _ _ i => l.length - (intOf i).toNat)
    case atStart => exact ⟨0, 0, 1, Nat.zero_le _, rfl, rfl, rfl, rfl⟩
    case round =>
      obtain ⟨k, n, x, hk, rfl, rfl, rfl, hG⟩ := hrel
      by_cases hlt : k < l.length
      · have hlt2 : k < xs.length := by have := hvl'.out; omega
        obtain ⟨e0, e1, e2, -⟩ := (hc k hlt).below hb1 hb
        have d0 := (hc2 k hlt2).1
        have hT := hidi (acc_drop (p := inS t) (n := n) (x := x) hlt hlt2)
        cases hi : (l[k].input == t)
        · go_wp2
          go_round
          case rel => exact ⟨k + 1, n, x, by omega, by go_num, rfl, rfl, hG.out.trans (hT.out.trans (if_neg (by simp only [inS]; rw [hi]; simp)))⟩
          case measure => simp [intOf]; omega
        · go_wp2
          go_round
          case rel => exact ⟨k + 1, _, _, by omega, by go_num, rfl, rfl, hG.out.trans (hT.out.trans (if_pos (by simp only [inS]; exact hi)))⟩
          case measure => simp [intOf]; omega
      · have hle : Hid (l.length ≤ k) := by unfold Hid; omega
        go_wp2
        go_ret
        exact ⟨ret_int (by rw [hz.out, ← acc_comp hw hfew.out, hG.out, acc_end hle.out]), hb1⟩

set_option maxHeartbeats 400000 in
theorem refinput_any (B : Nat) (v : Value) (l : List Sig) (a : Int) (w : World) (hl : Sigs B w v l) (hBw : B ≤ w.heap.size) :
    Calls Try.prog 28 #[v, .int .i64 a] w fun e w' => e = .returned (.int .i64 (projI (inS true) l a)) ∧ Below w.heap.size w w' := by
  go_enter Try.func28, Try.ntmps28
  go_wp2_with (go_at_call 48; refine (refhalf_any B _ l a true _ hl hBw).mono ?_; rintro e w1 ⟨rfl, hb⟩)
  go_ret
  exact ⟨rfl, hb⟩

set_option maxHeartbeats 400000 in
theorem refoutput_any (B : Nat) (v : Value) (l : List Sig) (a : Int) (w : World) (hl : Sigs B w v l) (hBw : B ≤ w.heap.size) :
    Calls Try.prog 30 #[v, .int .i64 a] w fun e w' => e = .returned (.int .i64 (projI (inS false) l a)) ∧ Below w.heap.size w w' := by
  go_enter Try.func30, Try.ntmps30
  go_wp2_with (go_at_call 48; refine (refhalf_any B _ l a false _ hl hBw).mono ?_; rintro e w1 ⟨rfl, hb⟩)
  go_ret
  exact ⟨rfl, hb⟩

end Go.Proofs.Ytbifbaennjglmaa
