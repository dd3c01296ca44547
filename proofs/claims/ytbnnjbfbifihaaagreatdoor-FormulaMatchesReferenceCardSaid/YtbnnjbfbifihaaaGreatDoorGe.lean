/-
  Contracts that the formula laws stand on, part Ge.
-/
import Derived.Test.YtbnnjbfbifihaaaGreatDoorFmT
import Derived.Test.YtbnnjbfbifihaaaGreatDoorGb

/-
  Contracts of the formula reference's keys and Name.
-/
namespace Go.Proofs.YtbnnjbfbifihaaaGreatDoor
open Go.RowKit

def kwsB : List ByteArray := kws.map fun k => ⟨k.toArray⟩

theorem toList_data' (s : ByteArray) : s.toList = s.data.toList := ByteArray.toList_eq s

theorem keyB_ref (s : ByteArray) : (kwsB.any fun k => k.toList == s.toList) = keyB s.toList := by
  unfold kwsB keyB
  rw [List.any_map]
  congr 1
  funext k
  rw [Function.comp, toList_data']
  exact Bool.beq_comm

/-- a slice value reads, in blocks below B, as a list of strings -/
def StrsAt (B : Nat) (w : World) (v : Value) (ss : List ByteArray) : Prop :=
  ∃ b off cap, v = .slice (some ⟨b, off, none⟩) ss.length cap ∧ b < B ∧ ss.length ≤ cap ∧ ss.length ≤ 1000000 ∧ ∀ k (h : k < ss.length), w.cell? ⟨b, off + k, none⟩ = some (.string ss[k])

def KwPost (w : World) (e : Ending) (w' : World) : Prop := ∃ v, e = .returned v ∧ StrsAt w'.heap.size w' v kwsB ∧ Below w.heap.size w w'

set_option maxHeartbeats 400000 in
theorem refkeys_any (w : World) : Calls Tryz.prog 114 #[] w (KwPost w) := by
  go_enter Tryz.func114, Tryz.ntmps114
  go_wp2
  go_ret
  refine ⟨_, rfl, ⟨w.heap.size, 0, 10, rfl, by simp, by simp [kwsB, kws], by simp [kwsB, kws], fun k hk => ?_⟩, (Below.refl _ _).alloc (Nat.le_refl _) _⟩
  rw [World.cell?_alloc_at _ _ _ _ rfl]
  have hk' : k < 10 := hk
  match k, hk' with
  | 0, _ | 1, _ | 2, _ | 3, _ | 4, _ | 5, _ | 6, _ | 7, _ | 8, _ | 9, _ => rfl

/-- every byte may stand in a name -/
def bytesB (l : List UInt8) : Bool := l.all (chB false)
theorem chsB_tail (k : Nat) (l : List UInt8) : chsB (k + 1) l = bytesB l := by
  induction l generalizing k with
  | nil => rfl
  | cons c r ih => unfold chsB; rw [ih]; simp [bytesB]
theorem chsB_head {l : List UInt8} (h : 0 < l.length) : chsB 0 l = (chB true l[0] && bytesB l) := by
  cases l with
  | nil => simp at h
  | cons c r =>
    unfold chsB
    rw [chsB_tail]
    simp only [bytesB, List.all_cons, List.getElem_cons_zero]
    cases h1 : chB true c
    · simp [h1]
    · have : chB false c = true := by
        simp only [chB, Bool.not_true, Bool.false_and, Bool.or_false] at h1
        simp only [chB, h1, Bool.true_or]
      simp [this, h1]

theorem bytesB_drop {l : List UInt8} {k : Nat} (h : k < l.length) : bytesB (l.drop k) = (chB false l[k] && bytesB (l.drop (k + 1))) := by
  unfold bytesB
  rw [List.drop_eq_getElem_cons h, List.all_cons]

set_option maxRecDepth 100000 in
set_option maxHeartbeats 2000000 in
theorem refname_any (s : ByteArray) (hs : s.size ≤ 9223372036854775807) (w : World) :
    Calls Tryz.prog 104 #[.string s] w fun e w' => e = .returned (.bool (nameB s)) ∧ Below w.heap.size w w' := by
  by_cases h1 : 1 ≤ s.size
  · have h0 : 0 < s.size := h1
    have hlen : 0 < s.data.toList.length := by simpa using h0
    have hN : Hid (nameB s = (decide (s.size ≤ 12) && !keyB s.toList && (chB true s[0] && bytesB s.data.toList))) := by
      unfold Hid nameB; rw [chsB_head hlen, decide_eq_true h1]; simp only [Bool.true_and]; rfl
    by_cases h2 : s.size ≤ 12
    · by_cases a1 : 97 ≤ (s[0].toNat : Int)
      · by_cases a2 : (s[0].toNat : Int) ≤ 122
        · have hc0 : Hid (chB true s[0] = true) := by unfold Hid chB; simp; omega
          go_enter Tryz.func104, Tryz.ntmps104
          go_wp2
          go_loop [3] (fun i => ∃ k : Nat, k ≤ s.size ∧ i = .int .i64 k ∧ Hid (bytesB s.data.toList = bytesB (s.data.toList.drop k))) (fun i => s.size - (intOf i).toNat)
          case atStart => exact ⟨0, Nat.zero_le _, rfl, rfl⟩
          case round =>
            obtain ⟨k, hk, rfl, hF⟩ := hrel
            by_cases hlt : k < s.size
            · have hS : Hid (bytesB (s.data.toList.drop k) = (chB false s[k] && bytesB (s.data.toList.drop (k + 1)))) := bytesB_drop (l := s.data.toList) (by simpa using hlt)
              have hcs : ((s[k].toNat : Int) < 48) ∨ (48 ≤ (s[k].toNat : Int) ∧ (s[k].toNat : Int) ≤ 57) ∨ (57 < (s[k].toNat : Int) ∧ (s[k].toNat : Int) < 97) ∨ (97 ≤ (s[k].toNat : Int) ∧ (s[k].toNat : Int) ≤ 122) ∨ 122 < (s[k].toNat : Int) := by omega
              cases h95 : ((s[k].toNat : Int) == 95)
              all_goals
                have h95' : ((s[k].toNat : Int) == 95) = (decide ((s[k].toNat : Int) = 95)) := rfl
                rw [h95] at h95'
                rcases hcs with b1 | ⟨b1, b2⟩ | ⟨b1, b2⟩ | ⟨b1, b2⟩ | b1
              all_goals
                try (exfalso; simp at h95'; omega)
              all_goals
                have b3 : (97 ≤ (s[k].toNat : Int)) ∨ ((s[k].toNat : Int) < 97) := by omega
                have b4 : (48 ≤ (s[k].toNat : Int)) ∨ ((s[k].toNat : Int) < 48) := by omega
                have b5 : (57 < (s[k].toNat : Int)) ∨ ((s[k].toNat : Int) ≤ 57) := by omega
                rcases b3 with b3 | b3
                all_goals rcases b4 with b4 | b4
                all_goals rcases b5 with b5 | b5
              all_goals
                try (exfalso; omega)
              all_goals clear h95'
              all_goals
                go_wp2
                all_goals first
                  | (exfalso; have hcon : (!decide ((s[k].toNat : Int) ≤ 57)) = false := (by assumption); simp at hcon; omega)
                  | (exfalso; have hcon : (!decide ((s[k].toNat : Int) ≤ 122)) = false ∨ (!decide ((s[k].toNat : Int) ≤ 57)) = false := (by assumption); simp at hcon; omega)
                  | (go_round
                     case rel => exact ⟨k + 1, by omega, by go_num, hF.out.trans (hS.out.trans (by rw [show chB false s[k] = true from by simp only [chB, h95]; simp <;> omega]; rfl))⟩
                     case measure => simp [intOf]; omega)
                  | (go_ret; exact ⟨ret_bool (by rw [hN.out, hF.out, hS.out, show chB false s[k] = false from by simp only [chB, h95]; simp; omega]; simp), Below.refl _ _⟩)
            · have hB1 : Hid (bytesB s.data.toList = true) := by unfold Hid; rw [hF.out, List.drop_of_length_le (by simp; omega)]; rfl
              clear hF
              go_wp2_with fail
              refine (refkeys_any _).mono ?_
              rintro e w1 ⟨v1, rfl, ⟨b, off, cap, rfl, hb, hcap, hm, hc⟩, hB⟩
              go_wp2_with fail
              go_loop [5] (fun i => ∃ k : Nat, k ≤ kwsB.length ∧ i = .int .i64 k ∧ Hid ((kwsB.any fun k => k.toList == s.toList) = ((kwsB.drop k).any fun k => k.toList == s.toList))) (fun i => kwsB.length - (intOf i).toNat)
              case atStart => exact ⟨0, Nat.zero_le _, rfl, rfl⟩
              case round =>
                obtain ⟨j, hj, rfl, hG⟩ := hrel
                by_cases hlt : j < kwsB.length
                · have c0 := hc j hlt
                  have hS : Hid (((kwsB.drop j).any fun k => k.toList == s.toList) = ((kwsB[j].toList == s.toList) || ((kwsB.drop (j + 1)).any fun k => k.toList == s.toList))) := by
                    unfold Hid; rw [List.drop_eq_getElem_cons hlt]; rfl
                  cases heq : (kwsB[j].toList == s.toList)
                  · go_wp2
                    go_round
                    case rel => exact ⟨j + 1, by omega, by go_num, hG.out.trans (hS.out.trans (by rw [heq]; rfl))⟩
                    case measure => simp [intOf]; omega
                  · go_wp2
                    go_ret
                    exact ⟨ret_bool (by rw [hN.out, ← keyB_ref, hG.out, hS.out, heq]; simp), hB⟩
                · go_wp2
                  go_ret
                  exact ⟨ret_bool (by rw [hN.out, ← keyB_ref, hG.out, List.drop_of_length_le (by omega), hc0.out, hB1.out, decide_eq_true h2]; rfl), hB⟩
        · go_enter Tryz.func104, Tryz.ntmps104
          go_wp2
          go_ret
          exact ⟨ret_bool (by rw [hN.out, show chB true s[0] = false from by simp only [chB]; simp; omega]; simp), Below.refl _ _⟩
      · go_enter Tryz.func104, Tryz.ntmps104
        go_wp2
        go_ret
        exact ⟨ret_bool (by rw [hN.out, show chB true s[0] = false from by simp only [chB]; simp; omega]; simp), Below.refl _ _⟩
    · go_enter Tryz.func104, Tryz.ntmps104
      go_wp2
      go_ret
      exact ⟨ret_bool (by rw [hN.out, decide_eq_false h2]; simp), Below.refl _ _⟩
  · go_enter Tryz.func104, Tryz.ntmps104
    go_wp2
    go_ret
    exact ⟨ret_bool (by unfold nameB; simp; omega), Below.refl _ _⟩

end Go.Proofs.YtbnnjbfbifihaaaGreatDoor

/-
  Contracts of the formula reference's Past, Layered.
-/
namespace Go.Proofs.YtbnnjbfbifihaaaGreatDoor
open Go.RowKit

set_option maxRecDepth 100000 in
set_option maxHeartbeats 2000000 in
theorem refpast_any (f : Fm) : ∀ (B : Nat) (v : Value) (w : World), FAt B w v f → B ≤ w.heap.size →
    Calls Tryz.prog 22 #[v] w fun e w' => e = .returned (.bool (pastB f)) ∧ Below w.heap.size w w' := by
  induction f using Fm.ind with
  | h f ih =>
    intro B v w hv hBw
    obtain ⟨o, c, rfl, hfit, hA⟩ := hv.open
    have hA' := hA.mono hBw
    have hlen := hA.len
    have hv' := hv.mono hBw
    obtain ⟨W0, hW0, hB0, hc, hlt⟩ := fm_open w (.int .i64 f.op) (.string f.name) (.int .i64 f.val) (.int .i64 f.bound) (.slice o f.args.length c)
    have hP := hidi (pastB_eq f)
    by_cases a1 : 8 ≤ f.op
    · by_cases a2 : f.op ≤ 14
      · have hU : futB f.op = true := by unfold futB; rw [decide_eq_true a1, decide_eq_true a2]; rfl
        go_enter Tryz.func22, Tryz.ntmps22
        go_wp2
        go_ret
        exact ⟨ret_bool (by rw [hP.out, hU]; rfl), below_box _ _⟩
      · have hSelf : Hid ((!futB f.op) = true) := by unfold Hid futB; rw [decide_eq_false a2]; simp
        go_enter Tryz.func22, Tryz.ntmps22
        go_wp2
        rw [hW0.out]
        go_loopw [3] (fun i wr => ∃ k : Nat, k ≤ f.args.length ∧ i = .int .i64 k ∧ Hid (f.args.all pastB = (f.args.drop k).all pastB) ∧ Below W0.heap.size W0 wr) (fun i _ => f.args.length - (intOf i).toNat)
        case atStart => exact ⟨0, Nat.zero_le _, rfl, rfl, Below.refl _ _⟩
        case round =>
          obtain ⟨k, hk, rfl, hD, hB⟩ := hrel
          obtain ⟨d0, d1, d2, d3, d4⟩ := hc.out.later hB hlt
          rw [Nat.zero_add] at d1 d2 d3 d4
          by_cases hlt2 : k < f.args.length
          · obtain ⟨b, off, rfl, hb, hat⟩ := hA'.at (by omega)
            obtain ⟨sl, hc5, hF⟩ := hat k hlt2
            have hW := hB0.trans (hB.mono hB0.size)
            obtain ⟨e0, e1, e2, e3, e4⟩ := hc5.below hW hb
            have hS := hidi (args_drop (p := pastB) hlt2)
            have hmem := List.getElem_mem hlt2
            generalize f.args[k] = g at *
            cases hq : pastB g
            · go_wp2_with (go_at_call 22; refine (ih g hmem w.heap.size (fval g sl) _ (hF.kept hW (Nat.le_refl _)) hW.size).mono ?_; rintro e w1 ⟨rfl, hb1⟩; rw [hq]; have hB := hB.trans (hb1.mono hB.size); clear hb1)
              go_ret
              exact ⟨ret_bool (by rw [hP.out, hD.out, hS.out, hq]; simp), hB0.trans (hB.mono hB0.size)⟩
            · go_wp2_with (go_at_call 22; refine (ih g hmem w.heap.size (fval g sl) _ (hF.kept hW (Nat.le_refl _)) hW.size).mono ?_; rintro e w1 ⟨rfl, hb1⟩; rw [hq]; have hB := hB.trans (hb1.mono hB.size); clear hb1)
              go_roundw
              case rel => exact ⟨k + 1, by omega, by go_num, hD.out.trans (hS.out.trans (by rw [hq, Bool.true_and])), hB⟩
              case measure => simp [intOf]; omega
          · have hT : Hid (f.args.all pastB = true) := by unfold Hid; rw [hD.out, List.drop_of_length_le (by omega)]; rfl
            go_wp2
            go_ret
            exact ⟨ret_bool (by rw [hP.out, hT.out, hSelf.out]; rfl), hB0.trans (hB.mono hB0.size)⟩
    · have hSelf : Hid ((!futB f.op) = true) := by unfold Hid futB; rw [decide_eq_false a1]; simp
      go_enter Tryz.func22, Tryz.ntmps22
      go_wp2
      rw [hW0.out]
      go_loopw [3] (fun i wr => ∃ k : Nat, k ≤ f.args.length ∧ i = .int .i64 k ∧ Hid (f.args.all pastB = (f.args.drop k).all pastB) ∧ Below W0.heap.size W0 wr) (fun i _ => f.args.length - (intOf i).toNat)
      case atStart => exact ⟨0, Nat.zero_le _, rfl, rfl, Below.refl _ _⟩
      case round =>
        obtain ⟨k, hk, rfl, hD, hB⟩ := hrel
        obtain ⟨d0, d1, d2, d3, d4⟩ := hc.out.later hB hlt
        rw [Nat.zero_add] at d1 d2 d3 d4
        by_cases hlt2 : k < f.args.length
        · obtain ⟨b, off, rfl, hb, hat⟩ := hA'.at (by omega)
          obtain ⟨sl, hc5, hF⟩ := hat k hlt2
          have hW := hB0.trans (hB.mono hB0.size)
          obtain ⟨e0, e1, e2, e3, e4⟩ := hc5.below hW hb
          have hS := hidi (args_drop (p := pastB) hlt2)
          have hmem := List.getElem_mem hlt2
          generalize f.args[k] = g at *
          cases hq : pastB g
          · go_wp2_with (go_at_call 22; refine (ih g hmem w.heap.size (fval g sl) _ (hF.kept hW (Nat.le_refl _)) hW.size).mono ?_; rintro e w1 ⟨rfl, hb1⟩; rw [hq]; have hB := hB.trans (hb1.mono hB.size); clear hb1)
            go_ret
            exact ⟨ret_bool (by rw [hP.out, hD.out, hS.out, hq]; simp), hB0.trans (hB.mono hB0.size)⟩
          · go_wp2_with (go_at_call 22; refine (ih g hmem w.heap.size (fval g sl) _ (hF.kept hW (Nat.le_refl _)) hW.size).mono ?_; rintro e w1 ⟨rfl, hb1⟩; rw [hq]; have hB := hB.trans (hb1.mono hB.size); clear hb1)
            go_roundw
            case rel => exact ⟨k + 1, by omega, by go_num, hD.out.trans (hS.out.trans (by rw [hq, Bool.true_and])), hB⟩
            case measure => simp [intOf]; omega
        · have hT : Hid (f.args.all pastB = true) := by unfold Hid; rw [hD.out, List.drop_of_length_le (by omega)]; rfl
          go_wp2
          go_ret
          exact ⟨ret_bool (by rw [hP.out, hT.out, hSelf.out]; rfl), hB0.trans (hB.mono hB0.size)⟩

set_option maxRecDepth 100000 in
set_option maxHeartbeats 2000000 in
theorem reflayered_any (f : Fm) : ∀ (B : Nat) (v : Value) (w : World), FAt B w v f → B ≤ w.heap.size →
    Calls Tryz.prog 24 #[v] w fun e w' => e = .returned (.bool (layB f)) ∧ Below w.heap.size w w' := by
  induction f using Fm.ind with
  | h f ih =>
    intro B v w hv hBw
    obtain ⟨o, c, rfl, hfit, hA⟩ := hv.open
    have hA' := hA.mono hBw
    have hlen := hA.len
    have hv' := hv.mono hBw
    obtain ⟨W0, hW0, hB0, hc, hlt⟩ := fm_open w (.int .i64 f.op) (.string f.name) (.int .i64 f.val) (.int .i64 f.bound) (.slice o f.args.length c)
    have hP := hidi (layB_eq f)
    go_enter Tryz.func24, Tryz.ntmps24
    go_wp2
    rw [hW0.out]
    go_loopw [3] (fun i wr => ∃ k : Nat, k ≤ f.args.length ∧ i = .int .i64 k ∧ Hid (f.args.all (fun g => layB g && (!lateB f.op || pastB g)) = (f.args.drop k).all (fun g => layB g && (!lateB f.op || pastB g))) ∧ Below W0.heap.size W0 wr) (fun i _ => f.args.length - (intOf i).toNat)
    case atStart => exact ⟨0, Nat.zero_le _, rfl, rfl, Below.refl _ _⟩
    case round =>
      obtain ⟨k, hk, rfl, hD, hB⟩ := hrel
      obtain ⟨d0, d1, d2, d3, d4⟩ := hc.out.later hB hlt
      rw [Nat.zero_add] at d1 d2 d3 d4
      by_cases hlt2 : k < f.args.length
      · obtain ⟨b, off, rfl, hb, hat⟩ := hA'.at (by omega)
        obtain ⟨sl, hc5, hF⟩ := hat k hlt2
        have hW := hB0.trans (hB.mono hB0.size)
        obtain ⟨e0, e1, e2, e3, e4⟩ := hc5.below hW hb
        have hS := hidi (args_drop (p := (fun g => layB g && (!lateB f.op || pastB g))) hlt2)
        have hmem := List.getElem_mem hlt2
        generalize f.args[k] = g at *
        cases hq : layB g
        · go_wp2_with (go_at_call 24; refine (ih g hmem w.heap.size (fval g sl) _ (hF.kept hW (Nat.le_refl _)) hW.size).mono ?_; rintro e w1 ⟨rfl, hb1⟩; rw [hq]; have hB := hB.trans (hb1.mono hB.size); clear hb1; have hW := hB0.trans (hB.mono hB0.size); obtain ⟨d0, d1, d2, d3, d4⟩ := hc.out.later hB hlt; rw [Nat.zero_add] at d1 d2 d3 d4; obtain ⟨e0, e1, e2, e3, e4⟩ := hc5.below hW hb)
          go_ret
          exact ⟨ret_bool (by rw [hP.out, hD.out, hS.out, hq]; simp), hB0.trans (hB.mono hB0.size)⟩
        · by_cases a1 : 15 ≤ f.op
          · by_cases a2 : f.op ≤ 19
            · have hL : Hid (lateB f.op = true) := by unfold Hid lateB; rw [decide_eq_true a1, decide_eq_true a2]; rfl
              cases hp : pastB g
              · go_wp2_with (first | (go_at_call 24; refine (ih g hmem w.heap.size (fval g sl) _ (hF.kept hW (Nat.le_refl _)) hW.size).mono ?_; rintro e w1 ⟨rfl, hb1⟩; rw [hq]; have hB := hB.trans (hb1.mono hB.size); clear hb1; have hW := hB0.trans (hB.mono hB0.size); obtain ⟨d0, d1, d2, d3, d4⟩ := hc.out.later hB hlt; rw [Nat.zero_add] at d1 d2 d3 d4; obtain ⟨e0, e1, e2, e3, e4⟩ := hc5.below hW hb) | (go_at_call 22; refine (refpast_any g w.heap.size (fval g sl) _ (hF.kept hW (Nat.le_refl _)) hW.size).mono ?_; rintro e w1 ⟨rfl, hb1⟩; rw [hp]; have hB := hB.trans (hb1.mono hB.size); clear hb1))
                go_ret
                exact ⟨ret_bool (by rw [hP.out, hD.out, hS.out, hq, hp, hL.out]; simp), hB0.trans (hB.mono hB0.size)⟩
              · go_wp2_with (first | (go_at_call 24; refine (ih g hmem w.heap.size (fval g sl) _ (hF.kept hW (Nat.le_refl _)) hW.size).mono ?_; rintro e w1 ⟨rfl, hb1⟩; rw [hq]; have hB := hB.trans (hb1.mono hB.size); clear hb1; have hW := hB0.trans (hB.mono hB0.size); obtain ⟨d0, d1, d2, d3, d4⟩ := hc.out.later hB hlt; rw [Nat.zero_add] at d1 d2 d3 d4; obtain ⟨e0, e1, e2, e3, e4⟩ := hc5.below hW hb) | (go_at_call 22; refine (refpast_any g w.heap.size (fval g sl) _ (hF.kept hW (Nat.le_refl _)) hW.size).mono ?_; rintro e w1 ⟨rfl, hb1⟩; rw [hp]; have hB := hB.trans (hb1.mono hB.size); clear hb1))
                go_roundw
                case rel => exact ⟨k + 1, by omega, by go_num, hD.out.trans (hS.out.trans (by rw [hq, hp, hL.out]; rfl)), hB⟩
                case measure => simp [intOf]; omega
            · have hL : Hid (lateB f.op = false) := by unfold Hid lateB; rw [decide_eq_false a2]; simp
              go_wp2_with (go_at_call 24; refine (ih g hmem w.heap.size (fval g sl) _ (hF.kept hW (Nat.le_refl _)) hW.size).mono ?_; rintro e w1 ⟨rfl, hb1⟩; rw [hq]; have hB := hB.trans (hb1.mono hB.size); clear hb1; have hW := hB0.trans (hB.mono hB0.size); obtain ⟨d0, d1, d2, d3, d4⟩ := hc.out.later hB hlt; rw [Nat.zero_add] at d1 d2 d3 d4; obtain ⟨e0, e1, e2, e3, e4⟩ := hc5.below hW hb)
              go_roundw
              case rel => exact ⟨k + 1, by omega, by go_num, hD.out.trans (hS.out.trans (by rw [hq, hL.out]; rfl)), hB⟩
              case measure => simp [intOf]; omega
          · have hL : Hid (lateB f.op = false) := by unfold Hid lateB; rw [decide_eq_false a1]; simp
            go_wp2_with (go_at_call 24; refine (ih g hmem w.heap.size (fval g sl) _ (hF.kept hW (Nat.le_refl _)) hW.size).mono ?_; rintro e w1 ⟨rfl, hb1⟩; rw [hq]; have hB := hB.trans (hb1.mono hB.size); clear hb1; have hW := hB0.trans (hB.mono hB0.size); obtain ⟨d0, d1, d2, d3, d4⟩ := hc.out.later hB hlt; rw [Nat.zero_add] at d1 d2 d3 d4; obtain ⟨e0, e1, e2, e3, e4⟩ := hc5.below hW hb)
            go_roundw
            case rel => exact ⟨k + 1, by omega, by go_num, hD.out.trans (hS.out.trans (by rw [hq, hL.out]; rfl)), hB⟩
            case measure => simp [intOf]; omega
      · have hT : Hid (f.args.all (fun g => layB g && (!lateB f.op || pastB g)) = true) := by unfold Hid; rw [hD.out, List.drop_of_length_le (by omega)]; rfl
        go_wp2
        go_ret
        exact ⟨ret_bool (by rw [hP.out, hT.out]), hB0.trans (hB.mono hB0.size)⟩

end Go.Proofs.YtbnnjbfbifihaaaGreatDoor

/-
  The contract of the formula reference's count.
-/
namespace Go.Proofs.YtbnnjbfbifihaaaGreatDoor
open Go.RowKit

set_option maxRecDepth 100000 in
set_option maxHeartbeats 2000000 in
theorem refcount_any (o : Int) (w : World) :
    Calls Tryz.prog 103 #[.int .i64 o] w fun e w' => e = .returned (.tuple #[.int .i64 (cLeast o), .int .i64 (cMost o), .bool (cOk o)]) ∧ w = w' := by
  by_cases h : 1 ≤ o ∧ o ≤ 19
  · rcases op_cases h with rfl | rfl | rfl | rfl | rfl | rfl | rfl | rfl | rfl | rfl | rfl | rfl | rfl | rfl | rfl | rfl | rfl | rfl | rfl
    all_goals clear h
    all_goals go_enter Tryz.func103, Tryz.ntmps103
    all_goals go_wp2
    all_goals go_ret3
    all_goals exact ⟨rfl, rfl⟩
  · have e1 : (o == 1) = false := by simp; omega
    have e2 : (o == 2) = false := by simp; omega
    have e3 : (o == 3) = false := by simp; omega
    have e4 : (o == 4) = false := by simp; omega
    have e5 : (o == 5) = false := by simp; omega
    have e6 : (o == 6) = false := by simp; omega
    have e7 : (o == 7) = false := by simp; omega
    have e8 : (o == 8) = false := by simp; omega
    have e9 : (o == 9) = false := by simp; omega
    have e10 : (o == 10) = false := by simp; omega
    have e11 : (o == 11) = false := by simp; omega
    have e12 : (o == 12) = false := by simp; omega
    have e13 : (o == 13) = false := by simp; omega
    have e14 : (o == 14) = false := by simp; omega
    have e15 : (o == 15) = false := by simp; omega
    have e16 : (o == 16) = false := by simp; omega
    have e17 : (o == 17) = false := by simp; omega
    have e18 : (o == 18) = false := by simp; omega
    have e19 : (o == 19) = false := by simp; omega
    have hH := hidi h
    clear h
    go_enter Tryz.func103, Tryz.ntmps103
    go_wp2
    go_ret3
    exact ⟨by unfold cLeast cMost cOk; rw [if_neg hH.out, if_neg hH.out, decide_eq_false hH.out]; rfl, rfl⟩

end Go.Proofs.YtbnnjbfbifihaaaGreatDoor

/-
  The contract of the formula reference's node, operator by operator.
-/
namespace Go.Proofs.YtbnnjbfbifihaaaGreatDoor
open Go.RowKit

set_option maxRecDepth 100000 in
set_option maxHeartbeats 4000000 in
theorem refnode_shut (f : Fm) (o : Option Addr) (c : Nat) (w : World) (_hlen : f.args.length ≤ 9223372036854775807) (lst mst mm : Int) (hlst : Hid (cLeast f.op = lst)) (hmst : Hid (cMost f.op = mst)) (hok : Hid (cOk f.op = true)) (e3 : (f.op == 3) = false) (e13 : (f.op == 13) = false) (e14 : (f.op == 14) = false) (e15 : (f.op == 15) = false) (e16 : (f.op == 16) = false) (e17 : (f.op == 17) = false) (hN : Hid (nodeB f = (f.name.toList.isEmpty && btwB f.val 0 0 && btwB f.bound 0 0 && btwB f.args.length lst mm))) (hm0 : 0 ≤ mst) (hmm : mst = mm) :
    Calls Tryz.prog 81 #[.agg #[.int .i64 f.op, .string f.name, .int .i64 f.val, .int .i64 f.bound, .slice o f.args.length c]] w fun e w' => e = .returned (.bool (nodeB f)) ∧ Below w.heap.size w w' := by
  subst hmm
  by_cases b0 : (f.args.length : Int) < lst
  have hR : Hid (nodeB f = false) := by unfold Hid; rw [hN.out]; simp [btwB]; omega
  rotate_left
  have c0 : lst ≤ (f.args.length : Int) := by omega
  by_cases b1 : mst < (f.args.length : Int)
  have hR : Hid (nodeB f = false) := by unfold Hid; rw [hN.out]; simp [btwB]; omega
  rotate_left
  have c1 : (f.args.length : Int) ≤ mst := by omega
  by_cases b2 : f.name.toList.isEmpty = false
  have hR : Hid (nodeB f = false) := by unfold Hid; rw [hN.out]; rw [b2]; rfl
  have m0 : (!f.name.toList.isEmpty) = true := by rw [b2]; rfl
  rotate_left
  have n1 : f.name.toList.isEmpty = true := by simpa using b2
  have n2 : f.name.toList = [] := by simpa using n1
  by_cases b3 : f.val < 0
  have hR : Hid (nodeB f = false) := by unfold Hid; rw [hN.out]; simp [btwB]; omega
  rotate_left
  have v0 : 0 ≤ f.val := by omega
  by_cases b4 : 1 < f.val
  have hR : Hid (nodeB f = false) := by unfold Hid; rw [hN.out]; simp [btwB]; omega
  rotate_left
  have v1 : f.val ≤ 1 := by omega
  by_cases b5 : 1 ≤ f.val
  have hR : Hid (nodeB f = false) := by unfold Hid; rw [hN.out]; simp [btwB]; omega
  have z0 : (f.val == 0) = false := by simp; omega
  rotate_left
  have z1 : (f.val == 0) = true := by simp; omega
  by_cases b6 : f.bound < 0
  have hR : Hid (nodeB f = false) := by unfold Hid; rw [hN.out]; simp [btwB]; omega
  rotate_left
  have w0 : 0 ≤ f.bound := by omega
  by_cases b7 : 9 < f.bound
  have hR : Hid (nodeB f = false) := by unfold Hid; rw [hN.out]; simp [btwB]; omega
  rotate_left
  have w1 : f.bound ≤ 9 := by omega
  by_cases b8 : 1 ≤ f.bound
  have hR : Hid (nodeB f = false) := by unfold Hid; rw [hN.out]; simp [btwB]; omega
  have y0 : (f.bound == 0) = false := by simp; omega
  rotate_left
  have y1 : (f.bound == 0) = true := by simp; omega
  have hR : Hid (nodeB f = true) := by unfold Hid; rw [hN.out]; rw [n1]; simp only [btwB, Bool.and_eq_true, decide_eq_true_eq, Bool.true_and]; omega
  rotate_left
  all_goals
   go_enter Tryz.func81, Tryz.ntmps81
   go_wp2_with (go_at_call 103; refine (refcount_any _ _).mono ?_; rintro e w1 ⟨rfl, rfl⟩; rw [hlst.out, hmst.out, hok.out])
   go_ret
   exact ⟨ret_bool hR.out.symm, below_box _ _⟩
set_option maxRecDepth 100000 in
set_option maxHeartbeats 4000000 in
theorem refnode_open (f : Fm) (o : Option Addr) (c : Nat) (w : World) (hlen : f.args.length ≤ 9223372036854775807) (lst mst mm : Int) (hlst : Hid (cLeast f.op = lst)) (hmst : Hid (cMost f.op = mst)) (hok : Hid (cOk f.op = true)) (e3 : (f.op == 3) = false) (e13 : (f.op == 13) = false) (e14 : (f.op == 14) = false) (e15 : (f.op == 15) = false) (e16 : (f.op == 16) = false) (e17 : (f.op == 17) = false) (hN : Hid (nodeB f = (f.name.toList.isEmpty && btwB f.val 0 0 && btwB f.bound 0 0 && btwB f.args.length lst mm))) (hm0 : mst < 0) (hmm : 9223372036854775807 = mm) :
    Calls Tryz.prog 81 #[.agg #[.int .i64 f.op, .string f.name, .int .i64 f.val, .int .i64 f.bound, .slice o f.args.length c]] w fun e w' => e = .returned (.bool (nodeB f)) ∧ Below w.heap.size w w' := by
  subst hmm
  by_cases b0 : (f.args.length : Int) < lst
  have hR : Hid (nodeB f = false) := by unfold Hid; rw [hN.out]; simp [btwB]; omega
  rotate_left
  have c0 : lst ≤ (f.args.length : Int) := by omega
  by_cases b1 : f.name.toList.isEmpty = false
  have hR : Hid (nodeB f = false) := by unfold Hid; rw [hN.out]; rw [b1]; rfl
  have m0 : (!f.name.toList.isEmpty) = true := by rw [b1]; rfl
  rotate_left
  have n1 : f.name.toList.isEmpty = true := by simpa using b1
  have n2 : f.name.toList = [] := by simpa using n1
  by_cases b2 : f.val < 0
  have hR : Hid (nodeB f = false) := by unfold Hid; rw [hN.out]; simp [btwB]; omega
  rotate_left
  have v0 : 0 ≤ f.val := by omega
  by_cases b3 : 1 < f.val
  have hR : Hid (nodeB f = false) := by unfold Hid; rw [hN.out]; simp [btwB]; omega
  rotate_left
  have v1 : f.val ≤ 1 := by omega
  by_cases b4 : 1 ≤ f.val
  have hR : Hid (nodeB f = false) := by unfold Hid; rw [hN.out]; simp [btwB]; omega
  have z0 : (f.val == 0) = false := by simp; omega
  rotate_left
  have z1 : (f.val == 0) = true := by simp; omega
  by_cases b5 : f.bound < 0
  have hR : Hid (nodeB f = false) := by unfold Hid; rw [hN.out]; simp [btwB]; omega
  rotate_left
  have w0 : 0 ≤ f.bound := by omega
  by_cases b6 : 9 < f.bound
  have hR : Hid (nodeB f = false) := by unfold Hid; rw [hN.out]; simp [btwB]; omega
  rotate_left
  have w1 : f.bound ≤ 9 := by omega
  by_cases b7 : 1 ≤ f.bound
  have hR : Hid (nodeB f = false) := by unfold Hid; rw [hN.out]; simp [btwB]; omega
  have y0 : (f.bound == 0) = false := by simp; omega
  rotate_left
  have y1 : (f.bound == 0) = true := by simp; omega
  have hR : Hid (nodeB f = true) := by unfold Hid; rw [hN.out]; rw [n1]; simp only [btwB, Bool.and_eq_true, decide_eq_true_eq, Bool.true_and]; omega
  rotate_left
  all_goals
   go_enter Tryz.func81, Tryz.ntmps81
   go_wp2_with (go_at_call 103; refine (refcount_any _ _).mono ?_; rintro e w1 ⟨rfl, rfl⟩; rw [hlst.out, hmst.out, hok.out])
   go_ret
   exact ⟨ret_bool hR.out.symm, below_box _ _⟩

end Go.Proofs.YtbnnjbfbifihaaaGreatDoor

/-
  The contract of the formula reference's node, operator by operator.
-/
namespace Go.Proofs.YtbnnjbfbifihaaaGreatDoor
open Go.RowKit

set_option maxRecDepth 100000 in
set_option maxHeartbeats 4000000 in
theorem refnode_13 (f : Fm) (o : Option Addr) (c : Nat) (w : World) (hlen : f.args.length ≤ 9223372036854775807) (hop : f.op = 13) :
    Calls Tryz.prog 81 #[.agg #[.int .i64 f.op, .string f.name, .int .i64 f.val, .int .i64 f.bound, .slice o f.args.length c]] w fun e w' => e = .returned (.bool (nodeB f)) ∧ Below w.heap.size w w' := by
  have hN := hidi (nodeB_plain (k := 13) (vm := 0) (bm := 9) (l := 1) (m := 1) hop (by rfl) (by rfl) (by rfl) (by rfl) (by rfl) (by rfl))
  have hlst : Hid (cLeast 13 = 1) := rfl
  have hmst : Hid (cMost 13 = 1) := rfl
  have hok : Hid (cOk 13 = true) := rfl
  by_cases b0 : (f.args.length : Int) < 1
  have hR : Hid (nodeB f = false) := by unfold Hid; rw [hN.out]; simp [btwB]; omega
  rotate_left
  have c0 : (1 : Int) ≤ (f.args.length : Int) := by omega
  by_cases b1 : (1 : Int) < (f.args.length : Int)
  have hR : Hid (nodeB f = false) := by unfold Hid; rw [hN.out]; simp [btwB]; omega
  rotate_left
  have c1 : (f.args.length : Int) ≤ 1 := by omega
  by_cases b2 : f.name.toList.isEmpty = false
  have hR : Hid (nodeB f = false) := by unfold Hid; rw [hN.out]; rw [b2]; rfl
  have m0 : (!f.name.toList.isEmpty) = true := by rw [b2]; rfl
  rotate_left
  have n1 : f.name.toList.isEmpty = true := by simpa using b2
  have n2 : f.name.toList = [] := by simpa using n1
  by_cases b3 : f.val < 0
  have hR : Hid (nodeB f = false) := by unfold Hid; rw [hN.out]; simp [btwB]; omega
  rotate_left
  have v0 : 0 ≤ f.val := by omega
  by_cases b4 : 1 < f.val
  have hR : Hid (nodeB f = false) := by unfold Hid; rw [hN.out]; simp [btwB]; omega
  rotate_left
  have v1 : f.val ≤ 1 := by omega
  by_cases b5 : 1 ≤ f.val
  have hR : Hid (nodeB f = false) := by unfold Hid; rw [hN.out]; simp [btwB]; omega
  have z0 : (f.val == 0) = false := by simp; omega
  rotate_left
  have z1 : (f.val == 0) = true := by simp; omega
  by_cases b6 : f.bound < 0
  have hR : Hid (nodeB f = false) := by unfold Hid; rw [hN.out]; simp [btwB]; omega
  rotate_left
  have w0 : 0 ≤ f.bound := by omega
  by_cases b7 : 9 < f.bound
  have hR : Hid (nodeB f = false) := by unfold Hid; rw [hN.out]; simp [btwB]; omega
  rotate_left
  have w1 : f.bound ≤ 9 := by omega
  have hR : Hid (nodeB f = true) := by unfold Hid; rw [hN.out]; rw [n1]; simp only [btwB, Bool.and_eq_true, decide_eq_true_eq, Bool.true_and]; omega
  rotate_left
  all_goals
   go_enter Tryz.func81, Tryz.ntmps81
   go_wp2_with (go_at_call 103; refine (refcount_any _ _).mono ?_; rintro e w1 ⟨rfl, rfl⟩; rw [hlst.out, hmst.out, hok.out])
   go_ret
   exact ⟨ret_bool hR.out.symm, below_box _ _⟩
set_option maxRecDepth 100000 in
set_option maxHeartbeats 4000000 in
theorem refnode_14 (f : Fm) (o : Option Addr) (c : Nat) (w : World) (hlen : f.args.length ≤ 9223372036854775807) (hop : f.op = 14) :
    Calls Tryz.prog 81 #[.agg #[.int .i64 f.op, .string f.name, .int .i64 f.val, .int .i64 f.bound, .slice o f.args.length c]] w fun e w' => e = .returned (.bool (nodeB f)) ∧ Below w.heap.size w w' := by
  have hN := hidi (nodeB_plain (k := 14) (vm := 0) (bm := 9) (l := 1) (m := 1) hop (by rfl) (by rfl) (by rfl) (by rfl) (by rfl) (by rfl))
  have hlst : Hid (cLeast 14 = 1) := rfl
  have hmst : Hid (cMost 14 = 1) := rfl
  have hok : Hid (cOk 14 = true) := rfl
  by_cases b0 : (f.args.length : Int) < 1
  have hR : Hid (nodeB f = false) := by unfold Hid; rw [hN.out]; simp [btwB]; omega
  rotate_left
  have c0 : (1 : Int) ≤ (f.args.length : Int) := by omega
  by_cases b1 : (1 : Int) < (f.args.length : Int)
  have hR : Hid (nodeB f = false) := by unfold Hid; rw [hN.out]; simp [btwB]; omega
  rotate_left
  have c1 : (f.args.length : Int) ≤ 1 := by omega
  by_cases b2 : f.name.toList.isEmpty = false
  have hR : Hid (nodeB f = false) := by unfold Hid; rw [hN.out]; rw [b2]; rfl
  have m0 : (!f.name.toList.isEmpty) = true := by rw [b2]; rfl
  rotate_left
  have n1 : f.name.toList.isEmpty = true := by simpa using b2
  have n2 : f.name.toList = [] := by simpa using n1
  by_cases b3 : f.val < 0
  have hR : Hid (nodeB f = false) := by unfold Hid; rw [hN.out]; simp [btwB]; omega
  rotate_left
  have v0 : 0 ≤ f.val := by omega
  by_cases b4 : 1 < f.val
  have hR : Hid (nodeB f = false) := by unfold Hid; rw [hN.out]; simp [btwB]; omega
  rotate_left
  have v1 : f.val ≤ 1 := by omega
  by_cases b5 : 1 ≤ f.val
  have hR : Hid (nodeB f = false) := by unfold Hid; rw [hN.out]; simp [btwB]; omega
  have z0 : (f.val == 0) = false := by simp; omega
  rotate_left
  have z1 : (f.val == 0) = true := by simp; omega
  by_cases b6 : f.bound < 0
  have hR : Hid (nodeB f = false) := by unfold Hid; rw [hN.out]; simp [btwB]; omega
  rotate_left
  have w0 : 0 ≤ f.bound := by omega
  by_cases b7 : 9 < f.bound
  have hR : Hid (nodeB f = false) := by unfold Hid; rw [hN.out]; simp [btwB]; omega
  rotate_left
  have w1 : f.bound ≤ 9 := by omega
  have hR : Hid (nodeB f = true) := by unfold Hid; rw [hN.out]; rw [n1]; simp only [btwB, Bool.and_eq_true, decide_eq_true_eq, Bool.true_and]; omega
  rotate_left
  all_goals
   go_enter Tryz.func81, Tryz.ntmps81
   go_wp2_with (go_at_call 103; refine (refcount_any _ _).mono ?_; rintro e w1 ⟨rfl, rfl⟩; rw [hlst.out, hmst.out, hok.out])
   go_ret
   exact ⟨ret_bool hR.out.symm, below_box _ _⟩

end Go.Proofs.YtbnnjbfbifihaaaGreatDoor

/-
  The contract of the formula reference's node, operator by operator.
-/
namespace Go.Proofs.YtbnnjbfbifihaaaGreatDoor
open Go.RowKit

set_option maxRecDepth 100000 in
set_option maxHeartbeats 4000000 in
theorem refnode_15 (f : Fm) (o : Option Addr) (c : Nat) (w : World) (hlen : f.args.length ≤ 9223372036854775807) (hop : f.op = 15) :
    Calls Tryz.prog 81 #[.agg #[.int .i64 f.op, .string f.name, .int .i64 f.val, .int .i64 f.bound, .slice o f.args.length c]] w fun e w' => e = .returned (.bool (nodeB f)) ∧ Below w.heap.size w w' := by
  have hN := hidi (nodeB_plain (k := 15) (vm := 1) (bm := 0) (l := 1) (m := 1) hop (by rfl) (by rfl) (by rfl) (by rfl) (by rfl) (by rfl))
  have hlst : Hid (cLeast 15 = 1) := rfl
  have hmst : Hid (cMost 15 = 1) := rfl
  have hok : Hid (cOk 15 = true) := rfl
  by_cases b0 : (f.args.length : Int) < 1
  have hR : Hid (nodeB f = false) := by unfold Hid; rw [hN.out]; simp [btwB]; omega
  rotate_left
  have c0 : (1 : Int) ≤ (f.args.length : Int) := by omega
  by_cases b1 : (1 : Int) < (f.args.length : Int)
  have hR : Hid (nodeB f = false) := by unfold Hid; rw [hN.out]; simp [btwB]; omega
  rotate_left
  have c1 : (f.args.length : Int) ≤ 1 := by omega
  by_cases b2 : f.name.toList.isEmpty = false
  have hR : Hid (nodeB f = false) := by unfold Hid; rw [hN.out]; rw [b2]; rfl
  have m0 : (!f.name.toList.isEmpty) = true := by rw [b2]; rfl
  rotate_left
  have n1 : f.name.toList.isEmpty = true := by simpa using b2
  have n2 : f.name.toList = [] := by simpa using n1
  by_cases b3 : f.val < 0
  have hR : Hid (nodeB f = false) := by unfold Hid; rw [hN.out]; simp [btwB]; omega
  rotate_left
  have v0 : 0 ≤ f.val := by omega
  by_cases b4 : 1 < f.val
  have hR : Hid (nodeB f = false) := by unfold Hid; rw [hN.out]; simp [btwB]; omega
  rotate_left
  have v1 : f.val ≤ 1 := by omega
  by_cases b5 : f.bound < 0
  have hR : Hid (nodeB f = false) := by unfold Hid; rw [hN.out]; simp [btwB]; omega
  rotate_left
  have w0 : 0 ≤ f.bound := by omega
  by_cases b6 : 9 < f.bound
  have hR : Hid (nodeB f = false) := by unfold Hid; rw [hN.out]; simp [btwB]; omega
  rotate_left
  have w1 : f.bound ≤ 9 := by omega
  by_cases b7 : 1 ≤ f.bound
  have hR : Hid (nodeB f = false) := by unfold Hid; rw [hN.out]; simp [btwB]; omega
  have y0 : (f.bound == 0) = false := by simp; omega
  rotate_left
  have y1 : (f.bound == 0) = true := by simp; omega
  have hR : Hid (nodeB f = true) := by unfold Hid; rw [hN.out]; rw [n1]; simp only [btwB, Bool.and_eq_true, decide_eq_true_eq, Bool.true_and]; omega
  rotate_left
  all_goals
   go_enter Tryz.func81, Tryz.ntmps81
   go_wp2_with (go_at_call 103; refine (refcount_any _ _).mono ?_; rintro e w1 ⟨rfl, rfl⟩; rw [hlst.out, hmst.out, hok.out])
   go_ret
   exact ⟨ret_bool hR.out.symm, below_box _ _⟩
set_option maxRecDepth 100000 in
set_option maxHeartbeats 4000000 in
theorem refnode_16 (f : Fm) (o : Option Addr) (c : Nat) (w : World) (hlen : f.args.length ≤ 9223372036854775807) (hop : f.op = 16) :
    Calls Tryz.prog 81 #[.agg #[.int .i64 f.op, .string f.name, .int .i64 f.val, .int .i64 f.bound, .slice o f.args.length c]] w fun e w' => e = .returned (.bool (nodeB f)) ∧ Below w.heap.size w w' := by
  have hN := hidi (nodeB_plain (k := 16) (vm := 1) (bm := 0) (l := 2) (m := 2) hop (by rfl) (by rfl) (by rfl) (by rfl) (by rfl) (by rfl))
  have hlst : Hid (cLeast 16 = 2) := rfl
  have hmst : Hid (cMost 16 = 2) := rfl
  have hok : Hid (cOk 16 = true) := rfl
  by_cases b0 : (f.args.length : Int) < 2
  have hR : Hid (nodeB f = false) := by unfold Hid; rw [hN.out]; simp [btwB]; omega
  rotate_left
  have c0 : (2 : Int) ≤ (f.args.length : Int) := by omega
  by_cases b1 : (2 : Int) < (f.args.length : Int)
  have hR : Hid (nodeB f = false) := by unfold Hid; rw [hN.out]; simp [btwB]; omega
  rotate_left
  have c1 : (f.args.length : Int) ≤ 2 := by omega
  by_cases b2 : f.name.toList.isEmpty = false
  have hR : Hid (nodeB f = false) := by unfold Hid; rw [hN.out]; rw [b2]; rfl
  have m0 : (!f.name.toList.isEmpty) = true := by rw [b2]; rfl
  rotate_left
  have n1 : f.name.toList.isEmpty = true := by simpa using b2
  have n2 : f.name.toList = [] := by simpa using n1
  by_cases b3 : f.val < 0
  have hR : Hid (nodeB f = false) := by unfold Hid; rw [hN.out]; simp [btwB]; omega
  rotate_left
  have v0 : 0 ≤ f.val := by omega
  by_cases b4 : 1 < f.val
  have hR : Hid (nodeB f = false) := by unfold Hid; rw [hN.out]; simp [btwB]; omega
  rotate_left
  have v1 : f.val ≤ 1 := by omega
  by_cases b5 : f.bound < 0
  have hR : Hid (nodeB f = false) := by unfold Hid; rw [hN.out]; simp [btwB]; omega
  rotate_left
  have w0 : 0 ≤ f.bound := by omega
  by_cases b6 : 9 < f.bound
  have hR : Hid (nodeB f = false) := by unfold Hid; rw [hN.out]; simp [btwB]; omega
  rotate_left
  have w1 : f.bound ≤ 9 := by omega
  by_cases b7 : 1 ≤ f.bound
  have hR : Hid (nodeB f = false) := by unfold Hid; rw [hN.out]; simp [btwB]; omega
  have y0 : (f.bound == 0) = false := by simp; omega
  rotate_left
  have y1 : (f.bound == 0) = true := by simp; omega
  have hR : Hid (nodeB f = true) := by unfold Hid; rw [hN.out]; rw [n1]; simp only [btwB, Bool.and_eq_true, decide_eq_true_eq, Bool.true_and]; omega
  rotate_left
  all_goals
   go_enter Tryz.func81, Tryz.ntmps81
   go_wp2_with (go_at_call 103; refine (refcount_any _ _).mono ?_; rintro e w1 ⟨rfl, rfl⟩; rw [hlst.out, hmst.out, hok.out])
   go_ret
   exact ⟨ret_bool hR.out.symm, below_box _ _⟩
set_option maxRecDepth 100000 in
set_option maxHeartbeats 4000000 in
theorem refnode_17 (f : Fm) (o : Option Addr) (c : Nat) (w : World) (hlen : f.args.length ≤ 9223372036854775807) (hop : f.op = 17) :
    Calls Tryz.prog 81 #[.agg #[.int .i64 f.op, .string f.name, .int .i64 f.val, .int .i64 f.bound, .slice o f.args.length c]] w fun e w' => e = .returned (.bool (nodeB f)) ∧ Below w.heap.size w w' := by
  have hN := hidi (nodeB_plain (k := 17) (vm := 1) (bm := 0) (l := 2) (m := 2) hop (by rfl) (by rfl) (by rfl) (by rfl) (by rfl) (by rfl))
  have hlst : Hid (cLeast 17 = 2) := rfl
  have hmst : Hid (cMost 17 = 2) := rfl
  have hok : Hid (cOk 17 = true) := rfl
  by_cases b0 : (f.args.length : Int) < 2
  have hR : Hid (nodeB f = false) := by unfold Hid; rw [hN.out]; simp [btwB]; omega
  rotate_left
  have c0 : (2 : Int) ≤ (f.args.length : Int) := by omega
  by_cases b1 : (2 : Int) < (f.args.length : Int)
  have hR : Hid (nodeB f = false) := by unfold Hid; rw [hN.out]; simp [btwB]; omega
  rotate_left
  have c1 : (f.args.length : Int) ≤ 2 := by omega
  by_cases b2 : f.name.toList.isEmpty = false
  have hR : Hid (nodeB f = false) := by unfold Hid; rw [hN.out]; rw [b2]; rfl
  have m0 : (!f.name.toList.isEmpty) = true := by rw [b2]; rfl
  rotate_left
  have n1 : f.name.toList.isEmpty = true := by simpa using b2
  have n2 : f.name.toList = [] := by simpa using n1
  by_cases b3 : f.val < 0
  have hR : Hid (nodeB f = false) := by unfold Hid; rw [hN.out]; simp [btwB]; omega
  rotate_left
  have v0 : 0 ≤ f.val := by omega
  by_cases b4 : 1 < f.val
  have hR : Hid (nodeB f = false) := by unfold Hid; rw [hN.out]; simp [btwB]; omega
  rotate_left
  have v1 : f.val ≤ 1 := by omega
  by_cases b5 : f.bound < 0
  have hR : Hid (nodeB f = false) := by unfold Hid; rw [hN.out]; simp [btwB]; omega
  rotate_left
  have w0 : 0 ≤ f.bound := by omega
  by_cases b6 : 9 < f.bound
  have hR : Hid (nodeB f = false) := by unfold Hid; rw [hN.out]; simp [btwB]; omega
  rotate_left
  have w1 : f.bound ≤ 9 := by omega
  by_cases b7 : 1 ≤ f.bound
  have hR : Hid (nodeB f = false) := by unfold Hid; rw [hN.out]; simp [btwB]; omega
  have y0 : (f.bound == 0) = false := by simp; omega
  rotate_left
  have y1 : (f.bound == 0) = true := by simp; omega
  have hR : Hid (nodeB f = true) := by unfold Hid; rw [hN.out]; rw [n1]; simp only [btwB, Bool.and_eq_true, decide_eq_true_eq, Bool.true_and]; omega
  rotate_left
  all_goals
   go_enter Tryz.func81, Tryz.ntmps81
   go_wp2_with (go_at_call 103; refine (refcount_any _ _).mono ?_; rintro e w1 ⟨rfl, rfl⟩; rw [hlst.out, hmst.out, hok.out])
   go_ret
   exact ⟨ret_bool hR.out.symm, below_box _ _⟩

end Go.Proofs.YtbnnjbfbifihaaaGreatDoor

/-
  The contract of the formula reference's node.
-/
namespace Go.Proofs.YtbnnjbfbifihaaaGreatDoor
open Go.RowKit

set_option maxRecDepth 100000 in
set_option maxHeartbeats 4000000 in
theorem refnode_3 (f : Fm) (o : Option Addr) (c : Nat) (w : World) (hfit : Fits f) (hop : f.op = 3) :
    Calls Tryz.prog 81 #[.agg #[.int .i64 f.op, .string f.name, .int .i64 f.val, .int .i64 f.bound, .slice o f.args.length c]] w fun e w' => e = .returned (.bool (nodeB f)) ∧ Below w.heap.size w w' := by
  have hN := hidi (nodeB_is hop)
  have hlst : Hid (cLeast 3 = 0) := rfl
  have hmst : Hid (cMost 3 = 0) := rfl
  have hok : Hid (cOk 3 = true) := rfl
  by_cases b0 : 0 < f.args.length
  · have c0 : (0 : Int) < (f.args.length : Int) := by omega
    have c1 : (0 : Int) ≤ (f.args.length : Int) := by omega
    have hR : Hid (nodeB f = false) := by unfold Hid; rw [hN.out]; simp only [btwB]; rw [decide_eq_false (show ¬ (f.args.length : Int) ≤ 0 by omega)]; simp
    go_enter Tryz.func81, Tryz.ntmps81
    go_wp2_with (go_at_call 103; refine (refcount_any _ _).mono ?_; rintro e w1 ⟨rfl, rfl⟩; rw [hlst.out, hmst.out, hok.out])
    go_ret
    exact ⟨ret_bool hR.out.symm, below_box _ _⟩
  · have c0 : (f.args.length : Int) ≤ 0 := by omega
    have c1 : (0 : Int) ≤ (f.args.length : Int) := by omega
    clear b0
    cases hnm : nameB f.name
    · have hR : Hid (nodeB f = false) := by unfold Hid; rw [hN.out, hnm]; rfl
      go_enter Tryz.func81, Tryz.ntmps81
      go_wp2_with (first | (go_at_call 103; refine (refcount_any _ _).mono ?_; rintro e w1 ⟨rfl, rfl⟩; rw [hlst.out, hmst.out, hok.out]) | (go_at_call 104; refine (refname_any f.name hfit.2.1 _).mono ?_; rintro e w1 ⟨rfl, hb⟩; rw [hnm]; obtain ⟨d0, d1, d2, d3, d4⟩ := (box5 w (.int .i64 3) (.string f.name) (.int .i64 f.val) (.int .i64 f.bound) (.slice o f.args.length c) 24).later hb (box_lt _ _); rw [Nat.zero_add] at d1 d2 d3 d4))
      go_ret
      exact ⟨ret_bool hR.out.symm, (below_box _ _).trans (hb.mono (below_box _ _).size)⟩
    · skip
      by_cases b1 : f.val < 0
      · have hR : Hid (nodeB f = false) := by unfold Hid; rw [hN.out]; simp [btwB]; omega
        go_enter Tryz.func81, Tryz.ntmps81
        go_wp2_with (first | (go_at_call 103; refine (refcount_any _ _).mono ?_; rintro e w1 ⟨rfl, rfl⟩; rw [hlst.out, hmst.out, hok.out]) | (go_at_call 104; refine (refname_any f.name hfit.2.1 _).mono ?_; rintro e w1 ⟨rfl, hb⟩; rw [hnm]; obtain ⟨d0, d1, d2, d3, d4⟩ := (box5 w (.int .i64 3) (.string f.name) (.int .i64 f.val) (.int .i64 f.bound) (.slice o f.args.length c) 24).later hb (box_lt _ _); rw [Nat.zero_add] at d1 d2 d3 d4))
        go_ret
        exact ⟨ret_bool hR.out.symm, (below_box _ _).trans (hb.mono (below_box _ _).size)⟩
      · have v0 : 0 ≤ f.val := by omega
        by_cases b2 : 3 < f.val
        · have hR : Hid (nodeB f = false) := by unfold Hid; rw [hN.out]; simp [btwB]; omega
          go_enter Tryz.func81, Tryz.ntmps81
          go_wp2_with (first | (go_at_call 103; refine (refcount_any _ _).mono ?_; rintro e w1 ⟨rfl, rfl⟩; rw [hlst.out, hmst.out, hok.out]) | (go_at_call 104; refine (refname_any f.name hfit.2.1 _).mono ?_; rintro e w1 ⟨rfl, hb⟩; rw [hnm]; obtain ⟨d0, d1, d2, d3, d4⟩ := (box5 w (.int .i64 3) (.string f.name) (.int .i64 f.val) (.int .i64 f.bound) (.slice o f.args.length c) 24).later hb (box_lt _ _); rw [Nat.zero_add] at d1 d2 d3 d4))
          go_ret
          exact ⟨ret_bool hR.out.symm, (below_box _ _).trans (hb.mono (below_box _ _).size)⟩
        · have v1 : f.val ≤ 3 := by omega
          by_cases b3 : ¬ f.bound = 0
          · have hR : Hid (nodeB f = false) := by unfold Hid; rw [hN.out]; simp [btwB]; omega
            have y0 : (f.bound == 0) = false := by simpa using b3
            go_enter Tryz.func81, Tryz.ntmps81
            go_wp2_with (first | (go_at_call 103; refine (refcount_any _ _).mono ?_; rintro e w1 ⟨rfl, rfl⟩; rw [hlst.out, hmst.out, hok.out]) | (go_at_call 104; refine (refname_any f.name hfit.2.1 _).mono ?_; rintro e w1 ⟨rfl, hb⟩; rw [hnm]; obtain ⟨d0, d1, d2, d3, d4⟩ := (box5 w (.int .i64 3) (.string f.name) (.int .i64 f.val) (.int .i64 f.bound) (.slice o f.args.length c) 24).later hb (box_lt _ _); rw [Nat.zero_add] at d1 d2 d3 d4))
            go_ret
            exact ⟨ret_bool hR.out.symm, (below_box _ _).trans (hb.mono (below_box _ _).size)⟩
          · have y1 : (f.bound == 0) = true := by simp; omega
            have y2 : f.bound ≤ 0 := by omega
            have y3 : 0 ≤ f.bound := by omega
            have hR : Hid (nodeB f = true) := by unfold Hid; rw [hN.out, hnm]; simp only [btwB, Bool.and_eq_true, decide_eq_true_eq, Bool.true_and]; omega
            go_enter Tryz.func81, Tryz.ntmps81
            go_wp2_with (first | (go_at_call 103; refine (refcount_any _ _).mono ?_; rintro e w1 ⟨rfl, rfl⟩; rw [hlst.out, hmst.out, hok.out]) | (go_at_call 104; refine (refname_any f.name hfit.2.1 _).mono ?_; rintro e w1 ⟨rfl, hb⟩; rw [hnm]; obtain ⟨d0, d1, d2, d3, d4⟩ := (box5 w (.int .i64 3) (.string f.name) (.int .i64 f.val) (.int .i64 f.bound) (.slice o f.args.length c) 24).later hb (box_lt _ _); rw [Nat.zero_add] at d1 d2 d3 d4))
            go_ret
            exact ⟨ret_bool hR.out.symm, (below_box _ _).trans (hb.mono (below_box _ _).size)⟩

set_option maxRecDepth 100000 in
set_option maxHeartbeats 1000000 in
theorem refnode_any (f : Fm) (B : Nat) (v : Value) (w : World) (hv : FAt B w v f) :
    Calls Tryz.prog 81 #[v] w fun e w' => e = .returned (.bool (nodeB f)) ∧ Below w.heap.size w w' := by
  obtain ⟨o, c, rfl, hfit, hA⟩ := hv.open
  have hlen := hA.len
  by_cases h : 1 ≤ f.op ∧ f.op ≤ 19
  · rcases op_cases h with h | h | h | h | h | h | h | h | h | h | h | h | h | h | h | h | h | h | h
    · exact refnode_shut f o c w hlen 0 0 0 (by rw [h]; rfl) (by rw [h]; rfl) (by rw [h]; rfl) (by rw [h]; rfl) (by rw [h]; rfl) (by rw [h]; rfl) (by rw [h]; rfl) (by rw [h]; rfl) (by rw [h]; rfl) (nodeB_plain (k := 1) h (by rfl) (by rfl) (by rfl) (by rfl) (by rfl) (by rfl)) (by decide) rfl
    · exact refnode_shut f o c w hlen 0 0 0 (by rw [h]; rfl) (by rw [h]; rfl) (by rw [h]; rfl) (by rw [h]; rfl) (by rw [h]; rfl) (by rw [h]; rfl) (by rw [h]; rfl) (by rw [h]; rfl) (by rw [h]; rfl) (nodeB_plain (k := 2) h (by rfl) (by rfl) (by rfl) (by rfl) (by rfl) (by rfl)) (by decide) rfl
    · exact refnode_3 f o c w hfit h
    · exact refnode_shut f o c w hlen 1 1 1 (by rw [h]; rfl) (by rw [h]; rfl) (by rw [h]; rfl) (by rw [h]; rfl) (by rw [h]; rfl) (by rw [h]; rfl) (by rw [h]; rfl) (by rw [h]; rfl) (by rw [h]; rfl) (nodeB_plain (k := 4) h (by rfl) (by rfl) (by rfl) (by rfl) (by rfl) (by rfl)) (by decide) rfl
    · exact refnode_open f o c w hlen 2 (-1) 9223372036854775807 (by rw [h]; rfl) (by rw [h]; rfl) (by rw [h]; rfl) (by rw [h]; rfl) (by rw [h]; rfl) (by rw [h]; rfl) (by rw [h]; rfl) (by rw [h]; rfl) (by rw [h]; rfl) (nodeB_plain (k := 5) h (by rfl) (by rfl) (by rfl) (by rfl) (by rfl) (by rfl)) (by decide) rfl
    · exact refnode_open f o c w hlen 2 (-1) 9223372036854775807 (by rw [h]; rfl) (by rw [h]; rfl) (by rw [h]; rfl) (by rw [h]; rfl) (by rw [h]; rfl) (by rw [h]; rfl) (by rw [h]; rfl) (by rw [h]; rfl) (by rw [h]; rfl) (nodeB_plain (k := 6) h (by rfl) (by rfl) (by rfl) (by rfl) (by rfl) (by rfl)) (by decide) rfl
    · exact refnode_shut f o c w hlen 2 2 2 (by rw [h]; rfl) (by rw [h]; rfl) (by rw [h]; rfl) (by rw [h]; rfl) (by rw [h]; rfl) (by rw [h]; rfl) (by rw [h]; rfl) (by rw [h]; rfl) (by rw [h]; rfl) (nodeB_plain (k := 7) h (by rfl) (by rfl) (by rfl) (by rfl) (by rfl) (by rfl)) (by decide) rfl
    · exact refnode_shut f o c w hlen 1 1 1 (by rw [h]; rfl) (by rw [h]; rfl) (by rw [h]; rfl) (by rw [h]; rfl) (by rw [h]; rfl) (by rw [h]; rfl) (by rw [h]; rfl) (by rw [h]; rfl) (by rw [h]; rfl) (nodeB_plain (k := 8) h (by rfl) (by rfl) (by rfl) (by rfl) (by rfl) (by rfl)) (by decide) rfl
    · exact refnode_shut f o c w hlen 2 2 2 (by rw [h]; rfl) (by rw [h]; rfl) (by rw [h]; rfl) (by rw [h]; rfl) (by rw [h]; rfl) (by rw [h]; rfl) (by rw [h]; rfl) (by rw [h]; rfl) (by rw [h]; rfl) (nodeB_plain (k := 9) h (by rfl) (by rfl) (by rfl) (by rfl) (by rfl) (by rfl)) (by decide) rfl
    · exact refnode_shut f o c w hlen 2 2 2 (by rw [h]; rfl) (by rw [h]; rfl) (by rw [h]; rfl) (by rw [h]; rfl) (by rw [h]; rfl) (by rw [h]; rfl) (by rw [h]; rfl) (by rw [h]; rfl) (by rw [h]; rfl) (nodeB_plain (k := 10) h (by rfl) (by rfl) (by rfl) (by rfl) (by rfl) (by rfl)) (by decide) rfl
    · exact refnode_shut f o c w hlen 1 1 1 (by rw [h]; rfl) (by rw [h]; rfl) (by rw [h]; rfl) (by rw [h]; rfl) (by rw [h]; rfl) (by rw [h]; rfl) (by rw [h]; rfl) (by rw [h]; rfl) (by rw [h]; rfl) (nodeB_plain (k := 11) h (by rfl) (by rfl) (by rfl) (by rfl) (by rfl) (by rfl)) (by decide) rfl
    · exact refnode_shut f o c w hlen 1 1 1 (by rw [h]; rfl) (by rw [h]; rfl) (by rw [h]; rfl) (by rw [h]; rfl) (by rw [h]; rfl) (by rw [h]; rfl) (by rw [h]; rfl) (by rw [h]; rfl) (by rw [h]; rfl) (nodeB_plain (k := 12) h (by rfl) (by rfl) (by rfl) (by rfl) (by rfl) (by rfl)) (by decide) rfl
    · exact refnode_13 f o c w hlen h
    · exact refnode_14 f o c w hlen h
    · exact refnode_15 f o c w hlen h
    · exact refnode_16 f o c w hlen h
    · exact refnode_17 f o c w hlen h
    · exact refnode_shut f o c w hlen 1 1 1 (by rw [h]; rfl) (by rw [h]; rfl) (by rw [h]; rfl) (by rw [h]; rfl) (by rw [h]; rfl) (by rw [h]; rfl) (by rw [h]; rfl) (by rw [h]; rfl) (by rw [h]; rfl) (nodeB_plain (k := 18) h (by rfl) (by rfl) (by rfl) (by rfl) (by rfl) (by rfl)) (by decide) rfl
    · exact refnode_shut f o c w hlen 1 1 1 (by rw [h]; rfl) (by rw [h]; rfl) (by rw [h]; rfl) (by rw [h]; rfl) (by rw [h]; rfl) (by rw [h]; rfl) (by rw [h]; rfl) (by rw [h]; rfl) (by rw [h]; rfl) (nodeB_plain (k := 19) h (by rfl) (by rfl) (by rfl) (by rfl) (by rfl) (by rfl)) (by decide) rfl
  · have hok : Hid (cOk f.op = false) := decide_eq_false h
    have hR : Hid (nodeB f = false) := nodeB_not h
    clear h
    have hlst : Hid (cLeast f.op = cLeast f.op) := rfl
    have hmst : Hid (cMost f.op = cMost f.op) := rfl
    go_enter Tryz.func81, Tryz.ntmps81
    go_wp2_with (go_at_call 103; refine (refcount_any _ _).mono ?_; rintro e w1 ⟨rfl, rfl⟩; rw [hlst.out, hmst.out, hok.out])
    go_ret
    exact ⟨ret_bool hR.out.symm, below_box _ _⟩

end Go.Proofs.YtbnnjbfbifihaaaGreatDoor

/-
  Contracts of the formula reference's nodes, core, Valid, Loose, IsKernel.
-/
namespace Go.Proofs.YtbnnjbfbifihaaaGreatDoor
open Go.RowKit

set_option maxRecDepth 100000 in
set_option maxHeartbeats 2000000 in
theorem refnodes_any (f : Fm) : ∀ (B : Nat) (v : Value) (w : World), FAt B w v f → B ≤ w.heap.size →
    Calls Tryz.prog 56 #[v] w fun e w' => e = .returned (.bool (nodesB f)) ∧ Below w.heap.size w w' := by
  induction f using Fm.ind with
  | h f ih =>
    intro B v w hv hBw
    obtain ⟨o, c, rfl, hfit, hA⟩ := hv.open
    have hA' := hA.mono hBw
    have hlen := hA.len
    have hv' := hv.mono hBw
    obtain ⟨W0, hW0, hB0, hc, hlt⟩ := fm_open w (.int .i64 f.op) (.string f.name) (.int .i64 f.val) (.int .i64 f.bound) (.slice o f.args.length c)
    have hP := hidi (nodesB_eq f)
    cases hn : nodeB f
    · go_enter Tryz.func56, Tryz.ntmps56
      go_wp2_with fail
      rw [hW0.out]
      obtain ⟨d0, d1, d2, d3, d4⟩ := hc.out
      rw [Nat.zero_add] at d1 d2 d3 d4
      go_wp2_with (go_at_call 81; refine (refnode_any f w.heap.size _ _ (hv'.kept hB0 (Nat.le_refl _))).mono ?_; rintro e w1 ⟨rfl, hB⟩; rw [hn])
      go_ret
      exact ⟨ret_bool (by rw [hP.out, hn]; rfl), hB0.trans (hB.mono hB0.size)⟩
    · have hSelf := hidi hn
      go_enter Tryz.func56, Tryz.ntmps56
      go_wp2_with fail
      rw [hW0.out]
      obtain ⟨d0, d1, d2, d3, d4⟩ := hc.out
      rw [Nat.zero_add] at d1 d2 d3 d4
      go_wp2_with (go_at_call 81; refine (refnode_any f w.heap.size _ _ (hv'.kept hB0 (Nat.le_refl _))).mono ?_; rintro e w1 ⟨rfl, hB⟩; rw [hn])
      clear d0 d1 d2 d3 d4
      go_loopw [3] (fun i wr => ∃ k : Nat, k ≤ f.args.length ∧ i = .int .i64 k ∧ Hid (f.args.all nodesB = (f.args.drop k).all nodesB) ∧ Below W0.heap.size W0 wr) (fun i _ => f.args.length - (intOf i).toNat)
      case atStart => exact ⟨0, Nat.zero_le _, rfl, rfl, hB⟩
      case round =>
        obtain ⟨k, hk, rfl, hD, hB⟩ := hrel
        obtain ⟨d0, d1, d2, d3, d4⟩ := hc.out.later hB hlt
        rw [Nat.zero_add] at d1 d2 d3 d4
        by_cases hlt2 : k < f.args.length
        · obtain ⟨b, off, rfl, hb, hat⟩ := hA'.at (by omega)
          obtain ⟨sl, hc5, hF⟩ := hat k hlt2
          have hW := hB0.trans (hB.mono hB0.size)
          obtain ⟨e0, e1, e2, e3, e4⟩ := hc5.below hW hb
          have hS := hidi (args_drop (p := nodesB) hlt2)
          have hmem := List.getElem_mem hlt2
          generalize f.args[k] = g at *
          cases hq : nodesB g
          · go_wp2_with (go_at_call 56; refine (ih g hmem w.heap.size (fval g sl) _ (hF.kept hW (Nat.le_refl _)) hW.size).mono ?_; rintro e w1 ⟨rfl, hb1⟩; rw [hq]; have hB := hB.trans (hb1.mono hB.size); clear hb1)
            go_ret
            exact ⟨ret_bool (by rw [hP.out, hD.out, hS.out, hq]; simp), hB0.trans (hB.mono hB0.size)⟩
          · go_wp2_with (go_at_call 56; refine (ih g hmem w.heap.size (fval g sl) _ (hF.kept hW (Nat.le_refl _)) hW.size).mono ?_; rintro e w1 ⟨rfl, hb1⟩; rw [hq]; have hB := hB.trans (hb1.mono hB.size); clear hb1)
            go_roundw
            case rel => exact ⟨k + 1, by omega, by go_num, hD.out.trans (hS.out.trans (by rw [hq, Bool.true_and])), hB⟩
            case measure => simp [intOf]; omega
        · have hT : Hid (f.args.all nodesB = true) := by unfold Hid; rw [hD.out, List.drop_of_length_le (by omega)]; rfl
          go_wp2
          go_ret
          exact ⟨ret_bool (by rw [hP.out, hT.out, hSelf.out]; rfl), hB0.trans (hB.mono hB0.size)⟩

set_option maxRecDepth 100000 in
set_option maxHeartbeats 2000000 in
theorem refcore_any (f : Fm) : ∀ (B : Nat) (v : Value) (w : World), FAt B w v f → B ≤ w.heap.size → nodesB f = true →
    Calls Tryz.prog 75 #[v] w fun e w' => e = .returned (.bool (coreB f)) ∧ Below w.heap.size w w' := by
  induction f using Fm.ind with
  | h f ih =>
    intro B v w hv hBw hall
    obtain ⟨o, c, rfl, hfit, hA⟩ := hv.open
    have hA' := hA.mono hBw
    have hlen := hA.len
    have hv' := hv.mono hBw
    obtain ⟨W0, hW0, hB0, hc, hlt⟩ := fm_open w (.int .i64 f.op) (.string f.name) (.int .i64 f.val) (.int .i64 f.bound) (.slice o f.args.length c)
    have hP := hidi (coreB_eq f)
    have hn := nodesB_self hall
    have hall' := hidi hall
    have hk := nodeB_known hn
    have g1 : 1 ≤ f.op := hk.1
    by_cases g2 : f.op ≤ 6
    · cases e4 : (f.op == 4)
      · have hSelf : Hid (coreNodeB f = true) := by unfold Hid coreNodeB coreOpB btwB; rw [e4]; simp; omega
        clear hall hn hk
        go_enter Tryz.func75, Tryz.ntmps75
        go_wp2
        rw [hW0.out]
        go_loopw [4] (fun i wr => ∃ k : Nat, k ≤ f.args.length ∧ i = .int .i64 k ∧ Hid (f.args.all coreB = (f.args.drop k).all coreB) ∧ Below W0.heap.size W0 wr) (fun i _ => f.args.length - (intOf i).toNat)
        case atStart => exact ⟨0, Nat.zero_le _, rfl, rfl, Below.refl _ _⟩
        case round =>
          obtain ⟨k, hk, rfl, hD, hB⟩ := hrel
          obtain ⟨d0, d1, d2, d3, d4⟩ := hc.out.later hB hlt
          rw [Nat.zero_add] at d1 d2 d3 d4
          by_cases hlt2 : k < f.args.length
          · obtain ⟨b, off, rfl, hb, hat⟩ := hA'.at (by omega)
            obtain ⟨sl, hc5, hF⟩ := hat k hlt2
            have hW := hB0.trans (hB.mono hB0.size)
            obtain ⟨e0, e1, e2, e3, e4⟩ := hc5.below hW hb
            have hS := hidi (args_drop (p := coreB) hlt2)
            have hmem := List.getElem_mem hlt2
            generalize f.args[k] = g at *
            cases hq : coreB g
            · go_wp2_with (go_at_call 75; refine (ih g hmem w.heap.size (fval g sl) _ (hF.kept hW (Nat.le_refl _)) hW.size (nodesB_arg hall'.out hmem)).mono ?_; rintro e w1 ⟨rfl, hb1⟩; rw [hq]; have hB := hB.trans (hb1.mono hB.size); clear hb1)
              go_ret
              exact ⟨ret_bool (by rw [hP.out, hD.out, hS.out, hq]; simp), hB0.trans (hB.mono hB0.size)⟩
            · go_wp2_with (go_at_call 75; refine (ih g hmem w.heap.size (fval g sl) _ (hF.kept hW (Nat.le_refl _)) hW.size (nodesB_arg hall'.out hmem)).mono ?_; rintro e w1 ⟨rfl, hb1⟩; rw [hq]; have hB := hB.trans (hb1.mono hB.size); clear hb1)
              go_roundw
              case rel => exact ⟨k + 1, by omega, by go_num, hD.out.trans (hS.out.trans (by rw [hq, Bool.true_and])), hB⟩
              case measure => simp [intOf]; omega
          · have hT : Hid (f.args.all coreB = true) := by unfold Hid; rw [hD.out, List.drop_of_length_le (by omega)]; rfl
            go_wp2
            go_ret
            exact ⟨ret_bool (by rw [hP.out, hT.out, hSelf.out]; rfl), hB0.trans (hB.mono hB0.size)⟩
      · have h1 : f.args.length = 1 := by
          have h4 : f.op = 4 := by simpa using e4
          have h5 := nodeB_len hn
          rw [h4] at h5
          simp [fLeast, fMost, formRow, formsRows] at h5
          omega
        have h0 : 0 < f.args.length := by omega
        have hA0 := hidi (arg0_eq h0)
        obtain ⟨b, off, rfl, hb, hat⟩ := hA'.at h0
        obtain ⟨sl, hc5, hF⟩ := hat 0 h0
        obtain ⟨e0, -, -, -, -⟩ := hc5.below (below_box w (.cells #[.int .i64 f.op, .string f.name, .int .i64 f.val, .int .i64 f.bound, .slice (some ⟨b, off, none⟩) f.args.length c] 24)) hb
        rw [Nat.zero_mul, Nat.add_zero] at e0
        obtain ⟨x, hx⟩ : ∃ x : Int, Hid (f.args[0].op = x) := ⟨f.args[0].op, hidi rfl⟩
        rw [hx.out] at e0 hA0
        have h0' : (0 : Int) < (f.args.length : Int) := by omega
        have hu := hidi h1
        clear h1 hall hn hk
        cases hq : (x == 3)
        · have hq2 : (x != 3) = true := by simp [bne, hq]
          have hNo : Hid (coreNodeB f = false) := by unfold Hid coreNodeB; rw [hA0.out, e4, hq]; simp
          go_enter Tryz.func75, Tryz.ntmps75
          go_wp2
          go_ret
          exact ⟨ret_bool (by rw [hP.out, hNo.out]; rfl), below_box _ _⟩
        · have hq2 : (x != 3) = false := by simp [bne, hq]
          have hSelf : Hid (coreNodeB f = true) := by unfold Hid coreNodeB coreOpB btwB; rw [hA0.out, hq]; simp; omega
          go_enter Tryz.func75, Tryz.ntmps75
          go_wp2
          rw [hW0.out]
          clear e0
          go_loopw [4] (fun i wr => ∃ k : Nat, k ≤ f.args.length ∧ i = .int .i64 k ∧ Hid (f.args.all coreB = (f.args.drop k).all coreB) ∧ Below W0.heap.size W0 wr) (fun i _ => f.args.length - (intOf i).toNat)
          case atStart => exact ⟨0, Nat.zero_le _, rfl, rfl, Below.refl _ _⟩
          case round =>
            obtain ⟨k, hk, rfl, hD, hB⟩ := hrel
            obtain ⟨d0, d1, d2, d3, d4⟩ := hc.out.later hB hlt
            rw [Nat.zero_add] at d1 d2 d3 d4
            by_cases hlt2 : k < f.args.length
            · obtain ⟨b2, off2, ho2, hb, hat⟩ := hA'.at (by omega); cases ho2
              obtain ⟨sl, hc5, hF⟩ := hat k hlt2
              have hW := hB0.trans (hB.mono hB0.size)
              obtain ⟨e0, e1, e2, e3, e4⟩ := hc5.below hW hb
              have hS := hidi (args_drop (p := coreB) hlt2)
              have hmem := List.getElem_mem hlt2
              generalize f.args[k] = g at *
              cases hq : coreB g
              · go_wp2_with (go_at_call 75; refine (ih g hmem w.heap.size (fval g sl) _ (hF.kept hW (Nat.le_refl _)) hW.size (nodesB_arg hall'.out hmem)).mono ?_; rintro e w1 ⟨rfl, hb1⟩; rw [hq]; have hB := hB.trans (hb1.mono hB.size); clear hb1)
                go_ret
                exact ⟨ret_bool (by rw [hP.out, hD.out, hS.out, hq]; simp), hB0.trans (hB.mono hB0.size)⟩
              · go_wp2_with (go_at_call 75; refine (ih g hmem w.heap.size (fval g sl) _ (hF.kept hW (Nat.le_refl _)) hW.size (nodesB_arg hall'.out hmem)).mono ?_; rintro e w1 ⟨rfl, hb1⟩; rw [hq]; have hB := hB.trans (hb1.mono hB.size); clear hb1)
                go_roundw
                case rel => exact ⟨k + 1, by omega, by go_num, hD.out.trans (hS.out.trans (by rw [hq, Bool.true_and])), hB⟩
                case measure => simp [intOf]; omega
            · have hT : Hid (f.args.all coreB = true) := by unfold Hid; rw [hD.out, List.drop_of_length_le (by omega)]; rfl
              go_wp2
              go_ret
              exact ⟨ret_bool (by rw [hP.out, hT.out, hSelf.out]; rfl), hB0.trans (hB.mono hB0.size)⟩
    · have g3 : 6 < f.op := by omega
      have e4 : (f.op == 4) = false := by simp; omega
      rcases Bool.eq_false_or_eq_true (f.op == 8) with e8 | e8
      · have hSelf : Hid (coreNodeB f = true) := by unfold Hid coreNodeB coreOpB btwB; rw [e4]; simp at e8; simp; omega
        clear hall hn hk
        go_enter Tryz.func75, Tryz.ntmps75
        go_wp2
        rw [hW0.out]
        go_loopw [4] (fun i wr => ∃ k : Nat, k ≤ f.args.length ∧ i = .int .i64 k ∧ Hid (f.args.all coreB = (f.args.drop k).all coreB) ∧ Below W0.heap.size W0 wr) (fun i _ => f.args.length - (intOf i).toNat)
        case atStart => exact ⟨0, Nat.zero_le _, rfl, rfl, Below.refl _ _⟩
        case round =>
          obtain ⟨k, hk, rfl, hD, hB⟩ := hrel
          obtain ⟨d0, d1, d2, d3, d4⟩ := hc.out.later hB hlt
          rw [Nat.zero_add] at d1 d2 d3 d4
          by_cases hlt2 : k < f.args.length
          · obtain ⟨b, off, rfl, hb, hat⟩ := hA'.at (by omega)
            obtain ⟨sl, hc5, hF⟩ := hat k hlt2
            have hW := hB0.trans (hB.mono hB0.size)
            obtain ⟨e0, e1, e2, e3, e4⟩ := hc5.below hW hb
            have hS := hidi (args_drop (p := coreB) hlt2)
            have hmem := List.getElem_mem hlt2
            generalize f.args[k] = g at *
            cases hq : coreB g
            · go_wp2_with (go_at_call 75; refine (ih g hmem w.heap.size (fval g sl) _ (hF.kept hW (Nat.le_refl _)) hW.size (nodesB_arg hall'.out hmem)).mono ?_; rintro e w1 ⟨rfl, hb1⟩; rw [hq]; have hB := hB.trans (hb1.mono hB.size); clear hb1)
              go_ret
              exact ⟨ret_bool (by rw [hP.out, hD.out, hS.out, hq]; simp), hB0.trans (hB.mono hB0.size)⟩
            · go_wp2_with (go_at_call 75; refine (ih g hmem w.heap.size (fval g sl) _ (hF.kept hW (Nat.le_refl _)) hW.size (nodesB_arg hall'.out hmem)).mono ?_; rintro e w1 ⟨rfl, hb1⟩; rw [hq]; have hB := hB.trans (hb1.mono hB.size); clear hb1)
              go_roundw
              case rel => exact ⟨k + 1, by omega, by go_num, hD.out.trans (hS.out.trans (by rw [hq, Bool.true_and])), hB⟩
              case measure => simp [intOf]; omega
          · have hT : Hid (f.args.all coreB = true) := by unfold Hid; rw [hD.out, List.drop_of_length_le (by omega)]; rfl
            go_wp2
            go_ret
            exact ⟨ret_bool (by rw [hP.out, hT.out, hSelf.out]; rfl), hB0.trans (hB.mono hB0.size)⟩
      · skip
        rcases Bool.eq_false_or_eq_true (f.op == 9) with e9 | e9
        · have hSelf : Hid (coreNodeB f = true) := by unfold Hid coreNodeB coreOpB btwB; rw [e4]; simp at e9; simp; omega
          clear hall hn hk
          go_enter Tryz.func75, Tryz.ntmps75
          go_wp2
          rw [hW0.out]
          go_loopw [4] (fun i wr => ∃ k : Nat, k ≤ f.args.length ∧ i = .int .i64 k ∧ Hid (f.args.all coreB = (f.args.drop k).all coreB) ∧ Below W0.heap.size W0 wr) (fun i _ => f.args.length - (intOf i).toNat)
          case atStart => exact ⟨0, Nat.zero_le _, rfl, rfl, Below.refl _ _⟩
          case round =>
            obtain ⟨k, hk, rfl, hD, hB⟩ := hrel
            obtain ⟨d0, d1, d2, d3, d4⟩ := hc.out.later hB hlt
            rw [Nat.zero_add] at d1 d2 d3 d4
            by_cases hlt2 : k < f.args.length
            · obtain ⟨b, off, rfl, hb, hat⟩ := hA'.at (by omega)
              obtain ⟨sl, hc5, hF⟩ := hat k hlt2
              have hW := hB0.trans (hB.mono hB0.size)
              obtain ⟨e0, e1, e2, e3, e4⟩ := hc5.below hW hb
              have hS := hidi (args_drop (p := coreB) hlt2)
              have hmem := List.getElem_mem hlt2
              generalize f.args[k] = g at *
              cases hq : coreB g
              · go_wp2_with (go_at_call 75; refine (ih g hmem w.heap.size (fval g sl) _ (hF.kept hW (Nat.le_refl _)) hW.size (nodesB_arg hall'.out hmem)).mono ?_; rintro e w1 ⟨rfl, hb1⟩; rw [hq]; have hB := hB.trans (hb1.mono hB.size); clear hb1)
                go_ret
                exact ⟨ret_bool (by rw [hP.out, hD.out, hS.out, hq]; simp), hB0.trans (hB.mono hB0.size)⟩
              · go_wp2_with (go_at_call 75; refine (ih g hmem w.heap.size (fval g sl) _ (hF.kept hW (Nat.le_refl _)) hW.size (nodesB_arg hall'.out hmem)).mono ?_; rintro e w1 ⟨rfl, hb1⟩; rw [hq]; have hB := hB.trans (hb1.mono hB.size); clear hb1)
                go_roundw
                case rel => exact ⟨k + 1, by omega, by go_num, hD.out.trans (hS.out.trans (by rw [hq, Bool.true_and])), hB⟩
                case measure => simp [intOf]; omega
            · have hT : Hid (f.args.all coreB = true) := by unfold Hid; rw [hD.out, List.drop_of_length_le (by omega)]; rfl
              go_wp2
              go_ret
              exact ⟨ret_bool (by rw [hP.out, hT.out, hSelf.out]; rfl), hB0.trans (hB.mono hB0.size)⟩
        · skip
          rcases Bool.eq_false_or_eq_true (f.op == 10) with e10 | e10
          · have hSelf : Hid (coreNodeB f = true) := by unfold Hid coreNodeB coreOpB btwB; rw [e4]; simp at e10; simp; omega
            clear hall hn hk
            go_enter Tryz.func75, Tryz.ntmps75
            go_wp2
            rw [hW0.out]
            go_loopw [4] (fun i wr => ∃ k : Nat, k ≤ f.args.length ∧ i = .int .i64 k ∧ Hid (f.args.all coreB = (f.args.drop k).all coreB) ∧ Below W0.heap.size W0 wr) (fun i _ => f.args.length - (intOf i).toNat)
            case atStart => exact ⟨0, Nat.zero_le _, rfl, rfl, Below.refl _ _⟩
            case round =>
              obtain ⟨k, hk, rfl, hD, hB⟩ := hrel
              obtain ⟨d0, d1, d2, d3, d4⟩ := hc.out.later hB hlt
              rw [Nat.zero_add] at d1 d2 d3 d4
              by_cases hlt2 : k < f.args.length
              · obtain ⟨b, off, rfl, hb, hat⟩ := hA'.at (by omega)
                obtain ⟨sl, hc5, hF⟩ := hat k hlt2
                have hW := hB0.trans (hB.mono hB0.size)
                obtain ⟨e0, e1, e2, e3, e4⟩ := hc5.below hW hb
                have hS := hidi (args_drop (p := coreB) hlt2)
                have hmem := List.getElem_mem hlt2
                generalize f.args[k] = g at *
                cases hq : coreB g
                · go_wp2_with (go_at_call 75; refine (ih g hmem w.heap.size (fval g sl) _ (hF.kept hW (Nat.le_refl _)) hW.size (nodesB_arg hall'.out hmem)).mono ?_; rintro e w1 ⟨rfl, hb1⟩; rw [hq]; have hB := hB.trans (hb1.mono hB.size); clear hb1)
                  go_ret
                  exact ⟨ret_bool (by rw [hP.out, hD.out, hS.out, hq]; simp), hB0.trans (hB.mono hB0.size)⟩
                · go_wp2_with (go_at_call 75; refine (ih g hmem w.heap.size (fval g sl) _ (hF.kept hW (Nat.le_refl _)) hW.size (nodesB_arg hall'.out hmem)).mono ?_; rintro e w1 ⟨rfl, hb1⟩; rw [hq]; have hB := hB.trans (hb1.mono hB.size); clear hb1)
                  go_roundw
                  case rel => exact ⟨k + 1, by omega, by go_num, hD.out.trans (hS.out.trans (by rw [hq, Bool.true_and])), hB⟩
                  case measure => simp [intOf]; omega
              · have hT : Hid (f.args.all coreB = true) := by unfold Hid; rw [hD.out, List.drop_of_length_le (by omega)]; rfl
                go_wp2
                go_ret
                exact ⟨ret_bool (by rw [hP.out, hT.out, hSelf.out]; rfl), hB0.trans (hB.mono hB0.size)⟩
          · skip
            rcases Bool.eq_false_or_eq_true (f.op == 15) with e15 | e15
            · have hSelf : Hid (coreNodeB f = true) := by unfold Hid coreNodeB coreOpB btwB; rw [e4]; simp at e15; simp; omega
              clear hall hn hk
              go_enter Tryz.func75, Tryz.ntmps75
              go_wp2
              rw [hW0.out]
              go_loopw [4] (fun i wr => ∃ k : Nat, k ≤ f.args.length ∧ i = .int .i64 k ∧ Hid (f.args.all coreB = (f.args.drop k).all coreB) ∧ Below W0.heap.size W0 wr) (fun i _ => f.args.length - (intOf i).toNat)
              case atStart => exact ⟨0, Nat.zero_le _, rfl, rfl, Below.refl _ _⟩
              case round =>
                obtain ⟨k, hk, rfl, hD, hB⟩ := hrel
                obtain ⟨d0, d1, d2, d3, d4⟩ := hc.out.later hB hlt
                rw [Nat.zero_add] at d1 d2 d3 d4
                by_cases hlt2 : k < f.args.length
                · obtain ⟨b, off, rfl, hb, hat⟩ := hA'.at (by omega)
                  obtain ⟨sl, hc5, hF⟩ := hat k hlt2
                  have hW := hB0.trans (hB.mono hB0.size)
                  obtain ⟨e0, e1, e2, e3, e4⟩ := hc5.below hW hb
                  have hS := hidi (args_drop (p := coreB) hlt2)
                  have hmem := List.getElem_mem hlt2
                  generalize f.args[k] = g at *
                  cases hq : coreB g
                  · go_wp2_with (go_at_call 75; refine (ih g hmem w.heap.size (fval g sl) _ (hF.kept hW (Nat.le_refl _)) hW.size (nodesB_arg hall'.out hmem)).mono ?_; rintro e w1 ⟨rfl, hb1⟩; rw [hq]; have hB := hB.trans (hb1.mono hB.size); clear hb1)
                    go_ret
                    exact ⟨ret_bool (by rw [hP.out, hD.out, hS.out, hq]; simp), hB0.trans (hB.mono hB0.size)⟩
                  · go_wp2_with (go_at_call 75; refine (ih g hmem w.heap.size (fval g sl) _ (hF.kept hW (Nat.le_refl _)) hW.size (nodesB_arg hall'.out hmem)).mono ?_; rintro e w1 ⟨rfl, hb1⟩; rw [hq]; have hB := hB.trans (hb1.mono hB.size); clear hb1)
                    go_roundw
                    case rel => exact ⟨k + 1, by omega, by go_num, hD.out.trans (hS.out.trans (by rw [hq, Bool.true_and])), hB⟩
                    case measure => simp [intOf]; omega
                · have hT : Hid (f.args.all coreB = true) := by unfold Hid; rw [hD.out, List.drop_of_length_le (by omega)]; rfl
                  go_wp2
                  go_ret
                  exact ⟨ret_bool (by rw [hP.out, hT.out, hSelf.out]; rfl), hB0.trans (hB.mono hB0.size)⟩
            · skip
              rcases Bool.eq_false_or_eq_true (f.op == 16) with e16 | e16
              · have hSelf : Hid (coreNodeB f = true) := by unfold Hid coreNodeB coreOpB btwB; rw [e4]; simp at e16; simp; omega
                clear hall hn hk
                go_enter Tryz.func75, Tryz.ntmps75
                go_wp2
                rw [hW0.out]
                go_loopw [4] (fun i wr => ∃ k : Nat, k ≤ f.args.length ∧ i = .int .i64 k ∧ Hid (f.args.all coreB = (f.args.drop k).all coreB) ∧ Below W0.heap.size W0 wr) (fun i _ => f.args.length - (intOf i).toNat)
                case atStart => exact ⟨0, Nat.zero_le _, rfl, rfl, Below.refl _ _⟩
                case round =>
                  obtain ⟨k, hk, rfl, hD, hB⟩ := hrel
                  obtain ⟨d0, d1, d2, d3, d4⟩ := hc.out.later hB hlt
                  rw [Nat.zero_add] at d1 d2 d3 d4
                  by_cases hlt2 : k < f.args.length
                  · obtain ⟨b, off, rfl, hb, hat⟩ := hA'.at (by omega)
                    obtain ⟨sl, hc5, hF⟩ := hat k hlt2
                    have hW := hB0.trans (hB.mono hB0.size)
                    obtain ⟨e0, e1, e2, e3, e4⟩ := hc5.below hW hb
                    have hS := hidi (args_drop (p := coreB) hlt2)
                    have hmem := List.getElem_mem hlt2
                    generalize f.args[k] = g at *
                    cases hq : coreB g
                    · go_wp2_with (go_at_call 75; refine (ih g hmem w.heap.size (fval g sl) _ (hF.kept hW (Nat.le_refl _)) hW.size (nodesB_arg hall'.out hmem)).mono ?_; rintro e w1 ⟨rfl, hb1⟩; rw [hq]; have hB := hB.trans (hb1.mono hB.size); clear hb1)
                      go_ret
                      exact ⟨ret_bool (by rw [hP.out, hD.out, hS.out, hq]; simp), hB0.trans (hB.mono hB0.size)⟩
                    · go_wp2_with (go_at_call 75; refine (ih g hmem w.heap.size (fval g sl) _ (hF.kept hW (Nat.le_refl _)) hW.size (nodesB_arg hall'.out hmem)).mono ?_; rintro e w1 ⟨rfl, hb1⟩; rw [hq]; have hB := hB.trans (hb1.mono hB.size); clear hb1)
                      go_roundw
                      case rel => exact ⟨k + 1, by omega, by go_num, hD.out.trans (hS.out.trans (by rw [hq, Bool.true_and])), hB⟩
                      case measure => simp [intOf]; omega
                  · have hT : Hid (f.args.all coreB = true) := by unfold Hid; rw [hD.out, List.drop_of_length_le (by omega)]; rfl
                    go_wp2
                    go_ret
                    exact ⟨ret_bool (by rw [hP.out, hT.out, hSelf.out]; rfl), hB0.trans (hB.mono hB0.size)⟩
              · skip
                rcases Bool.eq_false_or_eq_true (f.op == 17) with e17 | e17
                · have hSelf : Hid (coreNodeB f = true) := by unfold Hid coreNodeB coreOpB btwB; rw [e4]; simp at e17; simp; omega
                  clear hall hn hk
                  go_enter Tryz.func75, Tryz.ntmps75
                  go_wp2
                  rw [hW0.out]
                  go_loopw [4] (fun i wr => ∃ k : Nat, k ≤ f.args.length ∧ i = .int .i64 k ∧ Hid (f.args.all coreB = (f.args.drop k).all coreB) ∧ Below W0.heap.size W0 wr) (fun i _ => f.args.length - (intOf i).toNat)
                  case atStart => exact ⟨0, Nat.zero_le _, rfl, rfl, Below.refl _ _⟩
                  case round =>
                    obtain ⟨k, hk, rfl, hD, hB⟩ := hrel
                    obtain ⟨d0, d1, d2, d3, d4⟩ := hc.out.later hB hlt
                    rw [Nat.zero_add] at d1 d2 d3 d4
                    by_cases hlt2 : k < f.args.length
                    · obtain ⟨b, off, rfl, hb, hat⟩ := hA'.at (by omega)
                      obtain ⟨sl, hc5, hF⟩ := hat k hlt2
                      have hW := hB0.trans (hB.mono hB0.size)
                      obtain ⟨e0, e1, e2, e3, e4⟩ := hc5.below hW hb
                      have hS := hidi (args_drop (p := coreB) hlt2)
                      have hmem := List.getElem_mem hlt2
                      generalize f.args[k] = g at *
                      cases hq : coreB g
                      · go_wp2_with (go_at_call 75; refine (ih g hmem w.heap.size (fval g sl) _ (hF.kept hW (Nat.le_refl _)) hW.size (nodesB_arg hall'.out hmem)).mono ?_; rintro e w1 ⟨rfl, hb1⟩; rw [hq]; have hB := hB.trans (hb1.mono hB.size); clear hb1)
                        go_ret
                        exact ⟨ret_bool (by rw [hP.out, hD.out, hS.out, hq]; simp), hB0.trans (hB.mono hB0.size)⟩
                      · go_wp2_with (go_at_call 75; refine (ih g hmem w.heap.size (fval g sl) _ (hF.kept hW (Nat.le_refl _)) hW.size (nodesB_arg hall'.out hmem)).mono ?_; rintro e w1 ⟨rfl, hb1⟩; rw [hq]; have hB := hB.trans (hb1.mono hB.size); clear hb1)
                        go_roundw
                        case rel => exact ⟨k + 1, by omega, by go_num, hD.out.trans (hS.out.trans (by rw [hq, Bool.true_and])), hB⟩
                        case measure => simp [intOf]; omega
                    · have hT : Hid (f.args.all coreB = true) := by unfold Hid; rw [hD.out, List.drop_of_length_le (by omega)]; rfl
                      go_wp2
                      go_ret
                      exact ⟨ret_bool (by rw [hP.out, hT.out, hSelf.out]; rfl), hB0.trans (hB.mono hB0.size)⟩
                · skip
                  have hNo : Hid (coreNodeB f = false) := by unfold Hid coreNodeB coreOpB btwB; simp at e8 e9 e10 e15 e16 e17; simp; omega
                  clear hall hn hk
                  go_enter Tryz.func75, Tryz.ntmps75
                  go_wp2
                  go_ret
                  exact ⟨ret_bool (by rw [hP.out, hNo.out]; rfl), below_box _ _⟩

end Go.Proofs.YtbnnjbfbifihaaaGreatDoor

/-
  Contracts of the formula reference's Valid, Loose, IsKernel.
-/
namespace Go.Proofs.YtbnnjbfbifihaaaGreatDoor
open Go.RowKit

set_option maxRecDepth 100000 in
set_option maxHeartbeats 2000000 in
theorem refvalid_any (f : Fm) (B : Nat) (v : Value) (w : World) (hv : FAt B w v f) (hBw : B ≤ w.heap.size) :
    Calls Tryz.prog 16 #[v] w fun e w' => e = .returned (.bool (fvalidB f)) ∧ Below w.heap.size w w' := by
  obtain ⟨o, c, rfl, hfit, hA⟩ := hv.open
  have hv' := hv.mono hBw
  obtain ⟨W0, hW0, hB0, hc, hlt⟩ := fm_open w (.int .i64 f.op) (.string f.name) (.int .i64 f.val) (.int .i64 f.bound) (.slice o f.args.length c)
  have hB : Below W0.heap.size W0 W0 := Below.refl _ _
  obtain ⟨d0, d1, d2, d3, d4⟩ := hc.out
  rw [Nat.zero_add] at d1 d2 d3 d4
  cases q1 : decide (f.nodes ≤ 60)
  · go_enter Tryz.func16, Tryz.ntmps16
    go_wp2_with fail
    rw [hW0.out]
    go_wp2_with (first | (go_at_call 13; refine (refsmall_any f w.heap.size _ 60 _ (hv'.kept (hB0.trans (hB.mono hB0.size)) (Nat.le_refl _)) (Nat.le_trans hB0.size hB.size) (by omega)).mono ?_; rintro e w1 ⟨rfl, hb1⟩; rw [q1]; have hB := hB.trans (hb1.mono hB.size); clear hb1; clear d0 d1 d2 d3 d4; obtain ⟨d0, d1, d2, d3, d4⟩ := hc.out.later hB hlt; rw [Nat.zero_add] at d1 d2 d3 d4))
    go_ret
    exact ⟨ret_bool (by unfold fvalidB; rw [q1]; rfl), hB0.trans (hB.mono hB0.size)⟩
  · have hn1 : f.nodes ≤ 60 := of_decide_eq_true q1
    have hn2 := f.depth_le_nodes
    by_cases q2 : 20 < f.depth
    · go_enter Tryz.func16, Tryz.ntmps16
      go_wp2_with fail
      rw [hW0.out]
      go_wp2_with (first | (go_at_call 13; refine (refsmall_any f w.heap.size _ 60 _ (hv'.kept (hB0.trans (hB.mono hB0.size)) (Nat.le_refl _)) (Nat.le_trans hB0.size hB.size) (by omega)).mono ?_; rintro e w1 ⟨rfl, hb1⟩; rw [q1]; have hB := hB.trans (hb1.mono hB.size); clear hb1; clear d0 d1 d2 d3 d4; obtain ⟨d0, d1, d2, d3, d4⟩ := hc.out.later hB hlt; rw [Nat.zero_add] at d1 d2 d3 d4) | (go_at_call 55; refine (refdepth_any f w.heap.size _ _ (hv'.kept (hB0.trans (hB.mono hB0.size)) (Nat.le_refl _)) (Nat.le_trans hB0.size hB.size) (by omega)).mono ?_; rintro e w1 ⟨rfl, hb1⟩; have hB := hB.trans (hb1.mono hB.size); clear hb1; clear d0 d1 d2 d3 d4; obtain ⟨d0, d1, d2, d3, d4⟩ := hc.out.later hB hlt; rw [Nat.zero_add] at d1 d2 d3 d4))
      go_ret
      exact ⟨ret_bool (by unfold fvalidB; rw [q1, decide_eq_false (show ¬ f.depth ≤ 20 by omega)]; rfl), hB0.trans (hB.mono hB0.size)⟩
    · have q3 : f.depth ≤ 20 := by omega
      cases q4 : nodesB f
      · go_enter Tryz.func16, Tryz.ntmps16
        go_wp2_with fail
        rw [hW0.out]
        go_wp2_with (first | (go_at_call 13; refine (refsmall_any f w.heap.size _ 60 _ (hv'.kept (hB0.trans (hB.mono hB0.size)) (Nat.le_refl _)) (Nat.le_trans hB0.size hB.size) (by omega)).mono ?_; rintro e w1 ⟨rfl, hb1⟩; rw [q1]; have hB := hB.trans (hb1.mono hB.size); clear hb1; clear d0 d1 d2 d3 d4; obtain ⟨d0, d1, d2, d3, d4⟩ := hc.out.later hB hlt; rw [Nat.zero_add] at d1 d2 d3 d4) | (go_at_call 55; refine (refdepth_any f w.heap.size _ _ (hv'.kept (hB0.trans (hB.mono hB0.size)) (Nat.le_refl _)) (Nat.le_trans hB0.size hB.size) (by omega)).mono ?_; rintro e w1 ⟨rfl, hb1⟩; have hB := hB.trans (hb1.mono hB.size); clear hb1; clear d0 d1 d2 d3 d4; obtain ⟨d0, d1, d2, d3, d4⟩ := hc.out.later hB hlt; rw [Nat.zero_add] at d1 d2 d3 d4) | (go_at_call 56; refine (refnodes_any f w.heap.size _ _ (hv'.kept (hB0.trans (hB.mono hB0.size)) (Nat.le_refl _)) (Nat.le_trans hB0.size hB.size)).mono ?_; rintro e w1 ⟨rfl, hb1⟩; rw [q4]; have hB := hB.trans (hb1.mono hB.size); clear hb1; clear d0 d1 d2 d3 d4; obtain ⟨d0, d1, d2, d3, d4⟩ := hc.out.later hB hlt; rw [Nat.zero_add] at d1 d2 d3 d4))
        go_ret
        exact ⟨ret_bool (by unfold fvalidB; rw [q1, decide_eq_true q3, q4]; rfl), hB0.trans (hB.mono hB0.size)⟩
      · go_enter Tryz.func16, Tryz.ntmps16
        go_wp2_with fail
        rw [hW0.out]
        go_wp2_with (first | (go_at_call 13; refine (refsmall_any f w.heap.size _ 60 _ (hv'.kept (hB0.trans (hB.mono hB0.size)) (Nat.le_refl _)) (Nat.le_trans hB0.size hB.size) (by omega)).mono ?_; rintro e w1 ⟨rfl, hb1⟩; rw [q1]; have hB := hB.trans (hb1.mono hB.size); clear hb1; clear d0 d1 d2 d3 d4; obtain ⟨d0, d1, d2, d3, d4⟩ := hc.out.later hB hlt; rw [Nat.zero_add] at d1 d2 d3 d4) | (go_at_call 55; refine (refdepth_any f w.heap.size _ _ (hv'.kept (hB0.trans (hB.mono hB0.size)) (Nat.le_refl _)) (Nat.le_trans hB0.size hB.size) (by omega)).mono ?_; rintro e w1 ⟨rfl, hb1⟩; have hB := hB.trans (hb1.mono hB.size); clear hb1; clear d0 d1 d2 d3 d4; obtain ⟨d0, d1, d2, d3, d4⟩ := hc.out.later hB hlt; rw [Nat.zero_add] at d1 d2 d3 d4) | (go_at_call 56; refine (refnodes_any f w.heap.size _ _ (hv'.kept (hB0.trans (hB.mono hB0.size)) (Nat.le_refl _)) (Nat.le_trans hB0.size hB.size)).mono ?_; rintro e w1 ⟨rfl, hb1⟩; rw [q4]; have hB := hB.trans (hb1.mono hB.size); clear hb1; clear d0 d1 d2 d3 d4; obtain ⟨d0, d1, d2, d3, d4⟩ := hc.out.later hB hlt; rw [Nat.zero_add] at d1 d2 d3 d4))
        go_ret
        exact ⟨ret_bool (by unfold fvalidB; rw [q1, decide_eq_true q3, q4]; rfl), hB0.trans (hB.mono hB0.size)⟩

set_option maxRecDepth 100000 in
set_option maxHeartbeats 2000000 in
theorem refloose_any (f : Fm) (B : Nat) (v : Value) (w : World) (hv : FAt B w v f) (hBw : B ≤ w.heap.size) :
    Calls Tryz.prog 41 #[v] w fun e w' => e = .returned (.bool (looseB f)) ∧ Below w.heap.size w w' := by
  obtain ⟨o, c, rfl, hfit, hA⟩ := hv.open
  have hv' := hv.mono hBw
  obtain ⟨W0, hW0, hB0, hc, hlt⟩ := fm_open w (.int .i64 f.op) (.string f.name) (.int .i64 f.val) (.int .i64 f.bound) (.slice o f.args.length c)
  have hB : Below W0.heap.size W0 W0 := Below.refl _ _
  obtain ⟨d0, d1, d2, d3, d4⟩ := hc.out
  rw [Nat.zero_add] at d1 d2 d3 d4
  cases q1 : decide (f.nodes ≤ 400)
  · go_enter Tryz.func41, Tryz.ntmps41
    go_wp2_with fail
    rw [hW0.out]
    go_wp2_with (first | (go_at_call 13; refine (refsmall_any f w.heap.size _ 400 _ (hv'.kept (hB0.trans (hB.mono hB0.size)) (Nat.le_refl _)) (Nat.le_trans hB0.size hB.size) (by omega)).mono ?_; rintro e w1 ⟨rfl, hb1⟩; rw [q1]; have hB := hB.trans (hb1.mono hB.size); clear hb1; clear d0 d1 d2 d3 d4; obtain ⟨d0, d1, d2, d3, d4⟩ := hc.out.later hB hlt; rw [Nat.zero_add] at d1 d2 d3 d4))
    go_ret
    exact ⟨ret_bool (by unfold looseB; rw [q1]; rfl), hB0.trans (hB.mono hB0.size)⟩
  · have hn1 : f.nodes ≤ 400 := of_decide_eq_true q1
    have hn2 := f.depth_le_nodes
    by_cases q2 : 60 < f.depth
    · go_enter Tryz.func41, Tryz.ntmps41
      go_wp2_with fail
      rw [hW0.out]
      go_wp2_with (first | (go_at_call 13; refine (refsmall_any f w.heap.size _ 400 _ (hv'.kept (hB0.trans (hB.mono hB0.size)) (Nat.le_refl _)) (Nat.le_trans hB0.size hB.size) (by omega)).mono ?_; rintro e w1 ⟨rfl, hb1⟩; rw [q1]; have hB := hB.trans (hb1.mono hB.size); clear hb1; clear d0 d1 d2 d3 d4; obtain ⟨d0, d1, d2, d3, d4⟩ := hc.out.later hB hlt; rw [Nat.zero_add] at d1 d2 d3 d4) | (go_at_call 55; refine (refdepth_any f w.heap.size _ _ (hv'.kept (hB0.trans (hB.mono hB0.size)) (Nat.le_refl _)) (Nat.le_trans hB0.size hB.size) (by omega)).mono ?_; rintro e w1 ⟨rfl, hb1⟩; have hB := hB.trans (hb1.mono hB.size); clear hb1; clear d0 d1 d2 d3 d4; obtain ⟨d0, d1, d2, d3, d4⟩ := hc.out.later hB hlt; rw [Nat.zero_add] at d1 d2 d3 d4))
      go_ret
      exact ⟨ret_bool (by unfold looseB; rw [q1, decide_eq_false (show ¬ f.depth ≤ 60 by omega)]; rfl), hB0.trans (hB.mono hB0.size)⟩
    · have q3 : f.depth ≤ 60 := by omega
      cases q4 : nodesB f
      · go_enter Tryz.func41, Tryz.ntmps41
        go_wp2_with fail
        rw [hW0.out]
        go_wp2_with (first | (go_at_call 13; refine (refsmall_any f w.heap.size _ 400 _ (hv'.kept (hB0.trans (hB.mono hB0.size)) (Nat.le_refl _)) (Nat.le_trans hB0.size hB.size) (by omega)).mono ?_; rintro e w1 ⟨rfl, hb1⟩; rw [q1]; have hB := hB.trans (hb1.mono hB.size); clear hb1; clear d0 d1 d2 d3 d4; obtain ⟨d0, d1, d2, d3, d4⟩ := hc.out.later hB hlt; rw [Nat.zero_add] at d1 d2 d3 d4) | (go_at_call 55; refine (refdepth_any f w.heap.size _ _ (hv'.kept (hB0.trans (hB.mono hB0.size)) (Nat.le_refl _)) (Nat.le_trans hB0.size hB.size) (by omega)).mono ?_; rintro e w1 ⟨rfl, hb1⟩; have hB := hB.trans (hb1.mono hB.size); clear hb1; clear d0 d1 d2 d3 d4; obtain ⟨d0, d1, d2, d3, d4⟩ := hc.out.later hB hlt; rw [Nat.zero_add] at d1 d2 d3 d4) | (go_at_call 56; refine (refnodes_any f w.heap.size _ _ (hv'.kept (hB0.trans (hB.mono hB0.size)) (Nat.le_refl _)) (Nat.le_trans hB0.size hB.size)).mono ?_; rintro e w1 ⟨rfl, hb1⟩; rw [q4]; have hB := hB.trans (hb1.mono hB.size); clear hb1; clear d0 d1 d2 d3 d4; obtain ⟨d0, d1, d2, d3, d4⟩ := hc.out.later hB hlt; rw [Nat.zero_add] at d1 d2 d3 d4))
        go_ret
        exact ⟨ret_bool (by unfold looseB; rw [q1, decide_eq_true q3, q4]; rfl), hB0.trans (hB.mono hB0.size)⟩
      · have hn3 := q4
        cases q5 : coreB f
        · go_enter Tryz.func41, Tryz.ntmps41
          go_wp2_with fail
          rw [hW0.out]
          go_wp2_with (first | (go_at_call 13; refine (refsmall_any f w.heap.size _ 400 _ (hv'.kept (hB0.trans (hB.mono hB0.size)) (Nat.le_refl _)) (Nat.le_trans hB0.size hB.size) (by omega)).mono ?_; rintro e w1 ⟨rfl, hb1⟩; rw [q1]; have hB := hB.trans (hb1.mono hB.size); clear hb1; clear d0 d1 d2 d3 d4; obtain ⟨d0, d1, d2, d3, d4⟩ := hc.out.later hB hlt; rw [Nat.zero_add] at d1 d2 d3 d4) | (go_at_call 55; refine (refdepth_any f w.heap.size _ _ (hv'.kept (hB0.trans (hB.mono hB0.size)) (Nat.le_refl _)) (Nat.le_trans hB0.size hB.size) (by omega)).mono ?_; rintro e w1 ⟨rfl, hb1⟩; have hB := hB.trans (hb1.mono hB.size); clear hb1; clear d0 d1 d2 d3 d4; obtain ⟨d0, d1, d2, d3, d4⟩ := hc.out.later hB hlt; rw [Nat.zero_add] at d1 d2 d3 d4) | (go_at_call 56; refine (refnodes_any f w.heap.size _ _ (hv'.kept (hB0.trans (hB.mono hB0.size)) (Nat.le_refl _)) (Nat.le_trans hB0.size hB.size)).mono ?_; rintro e w1 ⟨rfl, hb1⟩; rw [q4]; have hB := hB.trans (hb1.mono hB.size); clear hb1; clear d0 d1 d2 d3 d4; obtain ⟨d0, d1, d2, d3, d4⟩ := hc.out.later hB hlt; rw [Nat.zero_add] at d1 d2 d3 d4) | (go_at_call 75; refine (refcore_any f w.heap.size _ _ (hv'.kept (hB0.trans (hB.mono hB0.size)) (Nat.le_refl _)) (Nat.le_trans hB0.size hB.size) hn3).mono ?_; rintro e w1 ⟨rfl, hb1⟩; rw [q5]; have hB := hB.trans (hb1.mono hB.size); clear hb1; clear d0 d1 d2 d3 d4; obtain ⟨d0, d1, d2, d3, d4⟩ := hc.out.later hB hlt; rw [Nat.zero_add] at d1 d2 d3 d4))
          go_ret
          exact ⟨ret_bool (by unfold looseB; rw [q1, decide_eq_true q3, q4, q5]; rfl), hB0.trans (hB.mono hB0.size)⟩
        · cases q6 : layB f
          · go_enter Tryz.func41, Tryz.ntmps41
            go_wp2_with fail
            rw [hW0.out]
            go_wp2_with (first | (go_at_call 13; refine (refsmall_any f w.heap.size _ 400 _ (hv'.kept (hB0.trans (hB.mono hB0.size)) (Nat.le_refl _)) (Nat.le_trans hB0.size hB.size) (by omega)).mono ?_; rintro e w1 ⟨rfl, hb1⟩; rw [q1]; have hB := hB.trans (hb1.mono hB.size); clear hb1; clear d0 d1 d2 d3 d4; obtain ⟨d0, d1, d2, d3, d4⟩ := hc.out.later hB hlt; rw [Nat.zero_add] at d1 d2 d3 d4) | (go_at_call 55; refine (refdepth_any f w.heap.size _ _ (hv'.kept (hB0.trans (hB.mono hB0.size)) (Nat.le_refl _)) (Nat.le_trans hB0.size hB.size) (by omega)).mono ?_; rintro e w1 ⟨rfl, hb1⟩; have hB := hB.trans (hb1.mono hB.size); clear hb1; clear d0 d1 d2 d3 d4; obtain ⟨d0, d1, d2, d3, d4⟩ := hc.out.later hB hlt; rw [Nat.zero_add] at d1 d2 d3 d4) | (go_at_call 56; refine (refnodes_any f w.heap.size _ _ (hv'.kept (hB0.trans (hB.mono hB0.size)) (Nat.le_refl _)) (Nat.le_trans hB0.size hB.size)).mono ?_; rintro e w1 ⟨rfl, hb1⟩; rw [q4]; have hB := hB.trans (hb1.mono hB.size); clear hb1; clear d0 d1 d2 d3 d4; obtain ⟨d0, d1, d2, d3, d4⟩ := hc.out.later hB hlt; rw [Nat.zero_add] at d1 d2 d3 d4) | (go_at_call 75; refine (refcore_any f w.heap.size _ _ (hv'.kept (hB0.trans (hB.mono hB0.size)) (Nat.le_refl _)) (Nat.le_trans hB0.size hB.size) hn3).mono ?_; rintro e w1 ⟨rfl, hb1⟩; rw [q5]; have hB := hB.trans (hb1.mono hB.size); clear hb1; clear d0 d1 d2 d3 d4; obtain ⟨d0, d1, d2, d3, d4⟩ := hc.out.later hB hlt; rw [Nat.zero_add] at d1 d2 d3 d4) | (go_at_call 24; refine (reflayered_any f w.heap.size _ _ (hv'.kept (hB0.trans (hB.mono hB0.size)) (Nat.le_refl _)) (Nat.le_trans hB0.size hB.size)).mono ?_; rintro e w1 ⟨rfl, hb1⟩; rw [q6]; have hB := hB.trans (hb1.mono hB.size); clear hb1; clear d0 d1 d2 d3 d4; obtain ⟨d0, d1, d2, d3, d4⟩ := hc.out.later hB hlt; rw [Nat.zero_add] at d1 d2 d3 d4))
            go_ret
            exact ⟨ret_bool (by unfold looseB; rw [q1, decide_eq_true q3, q4, q5, q6]; rfl), hB0.trans (hB.mono hB0.size)⟩
          · go_enter Tryz.func41, Tryz.ntmps41
            go_wp2_with fail
            rw [hW0.out]
            go_wp2_with (first | (go_at_call 13; refine (refsmall_any f w.heap.size _ 400 _ (hv'.kept (hB0.trans (hB.mono hB0.size)) (Nat.le_refl _)) (Nat.le_trans hB0.size hB.size) (by omega)).mono ?_; rintro e w1 ⟨rfl, hb1⟩; rw [q1]; have hB := hB.trans (hb1.mono hB.size); clear hb1; clear d0 d1 d2 d3 d4; obtain ⟨d0, d1, d2, d3, d4⟩ := hc.out.later hB hlt; rw [Nat.zero_add] at d1 d2 d3 d4) | (go_at_call 55; refine (refdepth_any f w.heap.size _ _ (hv'.kept (hB0.trans (hB.mono hB0.size)) (Nat.le_refl _)) (Nat.le_trans hB0.size hB.size) (by omega)).mono ?_; rintro e w1 ⟨rfl, hb1⟩; have hB := hB.trans (hb1.mono hB.size); clear hb1; clear d0 d1 d2 d3 d4; obtain ⟨d0, d1, d2, d3, d4⟩ := hc.out.later hB hlt; rw [Nat.zero_add] at d1 d2 d3 d4) | (go_at_call 56; refine (refnodes_any f w.heap.size _ _ (hv'.kept (hB0.trans (hB.mono hB0.size)) (Nat.le_refl _)) (Nat.le_trans hB0.size hB.size)).mono ?_; rintro e w1 ⟨rfl, hb1⟩; rw [q4]; have hB := hB.trans (hb1.mono hB.size); clear hb1; clear d0 d1 d2 d3 d4; obtain ⟨d0, d1, d2, d3, d4⟩ := hc.out.later hB hlt; rw [Nat.zero_add] at d1 d2 d3 d4) | (go_at_call 75; refine (refcore_any f w.heap.size _ _ (hv'.kept (hB0.trans (hB.mono hB0.size)) (Nat.le_refl _)) (Nat.le_trans hB0.size hB.size) hn3).mono ?_; rintro e w1 ⟨rfl, hb1⟩; rw [q5]; have hB := hB.trans (hb1.mono hB.size); clear hb1; clear d0 d1 d2 d3 d4; obtain ⟨d0, d1, d2, d3, d4⟩ := hc.out.later hB hlt; rw [Nat.zero_add] at d1 d2 d3 d4) | (go_at_call 24; refine (reflayered_any f w.heap.size _ _ (hv'.kept (hB0.trans (hB.mono hB0.size)) (Nat.le_refl _)) (Nat.le_trans hB0.size hB.size)).mono ?_; rintro e w1 ⟨rfl, hb1⟩; rw [q6]; have hB := hB.trans (hb1.mono hB.size); clear hb1; clear d0 d1 d2 d3 d4; obtain ⟨d0, d1, d2, d3, d4⟩ := hc.out.later hB hlt; rw [Nat.zero_add] at d1 d2 d3 d4))
            go_ret
            exact ⟨ret_bool (by unfold looseB; rw [q1, decide_eq_true q3, q4, q5, q6]; rfl), hB0.trans (hB.mono hB0.size)⟩

set_option maxRecDepth 100000 in
set_option maxHeartbeats 2000000 in
theorem refkernel_any (f : Fm) (B : Nat) (v : Value) (w : World) (hv : FAt B w v f) (hBw : B ≤ w.heap.size) :
    Calls Tryz.prog 29 #[v] w fun e w' => e = .returned (.bool (kernelB f)) ∧ Below w.heap.size w w' := by
  obtain ⟨o, c, rfl, hfit, hA⟩ := hv.open
  have hv' := hv.mono hBw
  obtain ⟨W0, hW0, hB0, hc, hlt⟩ := fm_open w (.int .i64 f.op) (.string f.name) (.int .i64 f.val) (.int .i64 f.bound) (.slice o f.args.length c)
  have hB : Below W0.heap.size W0 W0 := Below.refl _ _
  obtain ⟨d0, d1, d2, d3, d4⟩ := hc.out
  rw [Nat.zero_add] at d1 d2 d3 d4
  cases q1 : looseB f
  · go_enter Tryz.func29, Tryz.ntmps29
    go_wp2_with fail
    rw [hW0.out]
    go_wp2_with (first | (go_at_call 41; refine (refloose_any f w.heap.size _ _ (hv'.kept (hB0.trans (hB.mono hB0.size)) (Nat.le_refl _)) (Nat.le_trans hB0.size hB.size)).mono ?_; rintro e w1 ⟨rfl, hb1⟩; rw [q1]; have hB := hB.trans (hb1.mono hB.size); clear hb1; clear d0 d1 d2 d3 d4; obtain ⟨d0, d1, d2, d3, d4⟩ := hc.out.later hB hlt; rw [Nat.zero_add] at d1 d2 d3 d4))
    go_ret
    exact ⟨ret_bool (by unfold kernelB; rw [q1]; rfl), hB0.trans (hB.mono hB0.size)⟩
  · cases q2 : fvalidB f
    · go_enter Tryz.func29, Tryz.ntmps29
      go_wp2_with fail
      rw [hW0.out]
      go_wp2_with (first | (go_at_call 41; refine (refloose_any f w.heap.size _ _ (hv'.kept (hB0.trans (hB.mono hB0.size)) (Nat.le_refl _)) (Nat.le_trans hB0.size hB.size)).mono ?_; rintro e w1 ⟨rfl, hb1⟩; rw [q1]; have hB := hB.trans (hb1.mono hB.size); clear hb1; clear d0 d1 d2 d3 d4; obtain ⟨d0, d1, d2, d3, d4⟩ := hc.out.later hB hlt; rw [Nat.zero_add] at d1 d2 d3 d4) | (go_at_call 16; refine (refvalid_any f w.heap.size _ _ (hv'.kept (hB0.trans (hB.mono hB0.size)) (Nat.le_refl _)) (Nat.le_trans hB0.size hB.size)).mono ?_; rintro e w1 ⟨rfl, hb1⟩; rw [q2]; have hB := hB.trans (hb1.mono hB.size); clear hb1; clear d0 d1 d2 d3 d4; obtain ⟨d0, d1, d2, d3, d4⟩ := hc.out.later hB hlt; rw [Nat.zero_add] at d1 d2 d3 d4))
      go_ret
      exact ⟨ret_bool (by unfold kernelB; rw [q1, q2]; rfl), hB0.trans (hB.mono hB0.size)⟩
    · go_enter Tryz.func29, Tryz.ntmps29
      go_wp2_with fail
      rw [hW0.out]
      go_wp2_with (first | (go_at_call 41; refine (refloose_any f w.heap.size _ _ (hv'.kept (hB0.trans (hB.mono hB0.size)) (Nat.le_refl _)) (Nat.le_trans hB0.size hB.size)).mono ?_; rintro e w1 ⟨rfl, hb1⟩; rw [q1]; have hB := hB.trans (hb1.mono hB.size); clear hb1; clear d0 d1 d2 d3 d4; obtain ⟨d0, d1, d2, d3, d4⟩ := hc.out.later hB hlt; rw [Nat.zero_add] at d1 d2 d3 d4) | (go_at_call 16; refine (refvalid_any f w.heap.size _ _ (hv'.kept (hB0.trans (hB.mono hB0.size)) (Nat.le_refl _)) (Nat.le_trans hB0.size hB.size)).mono ?_; rintro e w1 ⟨rfl, hb1⟩; rw [q2]; have hB := hB.trans (hb1.mono hB.size); clear hb1; clear d0 d1 d2 d3 d4; obtain ⟨d0, d1, d2, d3, d4⟩ := hc.out.later hB hlt; rw [Nat.zero_add] at d1 d2 d3 d4))
      go_ret
      exact ⟨ret_bool (by unfold kernelB; rw [q1, q2]; rfl), hB0.trans (hB.mono hB0.size)⟩

end Go.Proofs.YtbnnjbfbifihaaaGreatDoor
