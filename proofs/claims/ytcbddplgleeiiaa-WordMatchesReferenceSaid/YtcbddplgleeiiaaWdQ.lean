/-
  The contracts of package word's take of nothing, commonMultiple and Prefix.
-/
import Derived.Test.YtcbddplgleeiiaaWdN
namespace Go.Proofs.Ytcbddplgleeiiaa
open Go.RowKit

set_option maxHeartbeats 1000000 in
theorem take_zero (v : Value) (g : Nat) (lb : Array Value) (hv : v = .func (.func g) #[] lb) (w : World) :
    Calls Try.prog 37 #[v, .int .i64 0] w fun e w' => ∃ r, e = .returned r ∧ NewInts w.heap.size w' r [] ∧ Below w.heap.size w w' := by
  subst hv
  obtain ⟨Z, hZ, hmk⟩ := make_room 0 (by omega)
  have hmk' : ∀ W : World, (Instr.makeSlice 22 (.int .i64 0) (.int .i64 0)).run Try.prog W = .ok (.slice (some ⟨W.heap.size, 0, none⟩) 0 0) (W.alloc (.cells Z 3)) := hmk
  clear hmk
  go_enter Try.func37, Try.ntmps37
  go_wp2
  go_ret
  exact ⟨_, rfl, ⟨.inl ⟨_, _, rfl, rfl⟩, fun g e => by simp [Value.ownBlock] at e; omega⟩, (((Below.refl _ _).alloc (Nat.le_refl _) _).alloc (by simp) _).alloc (by simp; omega) _⟩

set_option maxHeartbeats 1000000 in
theorem common_any (a b : Nat) (w : World) (ha : 0 < a) (hb : 0 < b) (ha4 : a ≤ 1000) (hb4 : b ≤ 1000) :
    Calls Try.prog 47 #[.int .i64 a, .int .i64 b] w fun e w' => e = .returned (.int .i64 (Nat.lcm a b)) ∧ Below w.heap.size w w' := by
  have hL : Nat.lcm a b ≤ 1000000 := Nat.le_trans (Nat.le_of_dvd (Nat.mul_pos ha hb) (Nat.lcm_dvd (Nat.dvd_mul_right a b) (Nat.dvd_mul_left b a))) (Nat.mul_le_mul ha4 hb4)
  have hL0 : 0 < Nat.lcm a b := Nat.lcm_pos ha hb
  have hbz : ¬ (b : Int) = 0 := by omega
  have hbz' : ¬ b = 0 := by omega
  go_enter Try.func47, Try.ntmps47
  go_wp2
  go_loopw [5] (fun v wr => ∃ m : Nat, a ∣ m ∧ 0 < m ∧ m ≤ Nat.lcm a b ∧ v = .int .i64 m ∧ Below w.heap.size w wr) (fun v _ => Nat.lcm a b - (intOf v).toNat)
  case atStart => exact ⟨a, Nat.dvd_refl a, ha, Nat.le_of_dvd hL0 (Nat.dvd_lcm_left a b), rfl, Below.refl _ _⟩
  case round =>
    obtain ⟨m, hd, h0, hle, rfl, hB⟩ := hrel
    have r1 : (m : Int).tmod (b : Int) = ((m % b : Nat) : Int) := by rw [Int.tmod_eq_emod_of_nonneg (by omega), Int.natCast_emod]
    by_cases hm : m % b = 0
    · have hv : Hid (m = Nat.lcm a b) := by
        unfold Hid
        exact Nat.le_antisymm hle (Nat.le_of_dvd h0 (Nat.lcm_dvd hd (Nat.dvd_of_mod_eq_zero hm)))
      have r2 : (((m % b : Nat) : Int) != 0) = false := by simp [hm]
      clear hm
      generalize m % b = q at *
      go_wp2
      go_ret
      exact ⟨ret_int (by rw [hv.out]), hB⟩
    · have hne : m ≠ Nat.lcm a b := by
        intro e
        exact hm (Nat.mod_eq_zero_of_dvd (by rw [e]; exact Nat.dvd_lcm_right a b))
      obtain ⟨i, hi⟩ := hd
      obtain ⟨j, hj⟩ := Nat.dvd_lcm_left a b
      have hlt : m + a ≤ Nat.lcm a b := by
        rw [hj, hi]
        have : i < j := by
          rcases Nat.lt_or_ge i j with h | h
          · exact h
          · exfalso
            have := Nat.mul_le_mul_left a h
            omega
        calc a * i + a = a * (i + 1) := (Nat.mul_succ a i).symm
          _ ≤ a * j := Nat.mul_le_mul_left a this
      have hd2 : a ∣ m + a := ⟨i + 1, by rw [hi, Nat.mul_succ]⟩
      have r2 : (((m % b : Nat) : Int) != 0) = true := by simp; omega
      have r3 : IntKind.i64.wrap ((m : Int) + (a : Int)) = (m : Int) + (a : Int) := by rw [IntKind.wrap_i64]; omega
      clear hm hi hj
      generalize m % b = q at *
      go_wp2
      go_roundw
      case rel => exact ⟨m + a, hd2, by omega, hlt, by simp, hB⟩
      case measure => simp [intOf]; omega

set_option maxRecDepth 100000 in
set_option maxHeartbeats 1000000 in
theorem prefix_any (B : Nat) (v : Value) (s l : List Int) (n : Int) (w : World) (hv : LasAt B w v s l) (hBw : B ≤ w.heap.size) :
    Calls Try.prog 17 #[v, .int .i64 n] w fun e w' => ∃ r, e = .returned r ∧ NewInts w.heap.size w' r (preL s l n) ∧ Below w.heap.size w w' := by
  have hv' := hv.mono hBw
  obtain ⟨o1, c1, o2, c2, rfl, h1, h2⟩ := hv'.open
  have hB : Below w.heap.size w (w.alloc (.cells #[.slice o1 s.length c1, .slice o2 l.length c2] 24)) := (Below.refl _ _).alloc (Nat.le_refl _) _
  have k0 := hidi (box0 w (.slice o1 s.length c1) (.slice o2 l.length c2) 24)
  have k1 := hidi (box1 w (.slice o1 s.length c1) (.slice o2 l.length c2) 24)
  cases hf : formedB s l
  · have hE : Hid (preL s l n = []) := by unfold Hid preL; rw [hf]; rfl
    go_enter Try.func17, Try.ntmps17
    go_wp2_with (go_at_call 34; refine (formed_any w.heap.size _ s l _ (hv'.below hB (Nat.le_refl _)) hB.size).mono ?_; rintro e w' ⟨rfl, hb⟩; rw [hf]; have hB := hB.trans (hb.mono hB.size); clear hb)
    go_ret
    exact ⟨_, rfl, ⟨.inl ⟨_, _, rfl, hE.out⟩, fun g e => by simp [Value.ownBlock] at e⟩, hB⟩
  · obtain ⟨p1, p2, p3, -, -⟩ := formed_pos hf
    by_cases hn0 : 0 ≤ n
    · by_cases hn5 : n ≤ 500
      · obtain ⟨N, rfl⟩ := Int.eq_ofNat_of_zero_le hn0
        have hE : Hid (preL s l N = firstL (letAt s l) N) := by unfold Hid preL; rw [hf, decide_eq_true hn5]; rfl
        rcases Nat.eq_zero_or_pos N with h0 | h0
        · subst h0
          go_enter Try.func17, Try.ntmps17
          go_wp2_with (first
            | (go_at_call 34; refine (formed_any w.heap.size _ s l _ (hv'.below hB (Nat.le_refl _)) hB.size).mono ?_; rintro e w1 ⟨rfl, hb⟩; rw [hf]; have d0 := (hb.cell (p := ⟨w.heap.size, 0, none⟩) (box_lt w _)).trans k0.out; have d1 := (hb.cell (p := ⟨w.heap.size, 1, none⟩) (box_lt w _)).trans k1.out; have hB := hB.trans (hb.mono hB.size); clear hb)
            | (go_at_call 38; refine (letters_any _ _ _ _ rfl).mono ?_; rintro e w2 ⟨rfl, rfl⟩; have hB2 := hB.alloc hB.size (.cells #[.slice o1 s.length c1, .slice o2 l.length c2] 24))
            | (go_at_call 37; refine (take_zero _ _ _ rfl _).mono ?_; rintro e w3 ⟨r3, rfl, hN3, hb3⟩; have hB3 := hB2.trans (hb3.mono hB2.size)))
          go_ret
          exact ⟨_, rfl, ⟨by rw [hE.out]; exact hN3.1, fun g e => Nat.le_trans hB2.size (hN3.2 g e)⟩, hB3⟩
        · go_enter Try.func17, Try.ntmps17
          go_wp2_with (first
            | (go_at_call 34; refine (formed_any w.heap.size _ s l _ (hv'.below hB (Nat.le_refl _)) hB.size).mono ?_; rintro e w1 ⟨rfl, hb⟩; rw [hf]; have d0 := (hb.cell (p := ⟨w.heap.size, 0, none⟩) (box_lt w _)).trans k0.out; have d1 := (hb.cell (p := ⟨w.heap.size, 1, none⟩) (box_lt w _)).trans k1.out; have hB := hB.trans (hb.mono hB.size); clear hb)
            | (go_at_call 38; refine (letters_any _ _ _ _ rfl).mono ?_; rintro e w2 ⟨rfl, rfl⟩; have hB2 := hB.alloc hB.size (.cells #[.slice o1 s.length c1, .slice o2 l.length c2] 24))
            | (go_at_call 37; refine (take_any 49 _ (letAt s l) 2 w.heap.size N _ (enters_of Try.func49 (by kernel_rfl) rfl) h0 (by omega) hB2.size (letters_feeds w.heap.size w1.heap.size N _ _ s l _ h0 (by simp) (heap_alloc_new w1 _) (hv'.below hB2 (Nat.le_refl _)) p1) (fun i => by have := letAt_bd hf i; omega)).mono ?_; rintro e w3 ⟨r3, rfl, hN3, hb3⟩; have hB3 := hB2.trans (hb3.mono hB2.size)))
          go_ret
          exact ⟨_, rfl, ⟨by rw [hE.out]; exact hN3.1, fun g e => Nat.le_trans hB2.size (hN3.2 g e)⟩, hB3⟩
      · have hE : Hid (preL s l n = []) := by unfold Hid preL; rw [decide_eq_false hn5, Bool.and_false]; rfl
        go_enter Try.func17, Try.ntmps17
        go_wp2_with (go_at_call 34; refine (formed_any w.heap.size _ s l _ (hv'.below hB (Nat.le_refl _)) hB.size).mono ?_; rintro e w' ⟨rfl, hb⟩; rw [hf]; have hB := hB.trans (hb.mono hB.size); clear hb)
        go_ret
        exact ⟨_, rfl, ⟨.inl ⟨_, _, rfl, hE.out⟩, fun g e => by simp [Value.ownBlock] at e⟩, hB⟩
    · have hE : Hid (preL s l n = []) := by
        unfold Hid preL
        split
        · rw [show n.toNat = 0 by omega]; rfl
        · rfl
      go_enter Try.func17, Try.ntmps17
      go_wp2_with (go_at_call 34; refine (formed_any w.heap.size _ s l _ (hv'.below hB (Nat.le_refl _)) hB.size).mono ?_; rintro e w' ⟨rfl, hb⟩; rw [hf]; have hB := hB.trans (hb.mono hB.size); clear hb)
      go_ret
      exact ⟨_, rfl, ⟨.inl ⟨_, _, rfl, hE.out⟩, fun g e => by simp [Value.ownBlock] at e⟩, hB⟩

end Go.Proofs.Ytcbddplgleeiiaa
