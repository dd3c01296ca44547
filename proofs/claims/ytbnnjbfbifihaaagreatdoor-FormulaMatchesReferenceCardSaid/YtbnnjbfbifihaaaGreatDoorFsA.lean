/-
  Contracts of the signal package's small functions that the formula package calls: keyWord, Name, Find, Valid.
-/
import Derived.Test.YtbnnjbfbifihaaaGreatDoorProg
import Derived.Test.YtbnnjbfbifihaaaGreatDoorSigP
import Derived.WalkKit
import Derived.WalkSpells
import Derived.WalkLawsBesides
namespace Go.Proofs.YtbnnjbfbifihaaaGreatDoor
open Go.RowKit

/-- the three cells of a signal at an address -/
def SigAt (w : World) (b o : Nat) (s : Sig) : Prop :=
  w.cell? ⟨b, o, none⟩ = some (.string s.name) ∧ w.cell? ⟨b, o + 1, none⟩ = some (.bool s.input) ∧ w.cell? ⟨b, o + 2, none⟩ = some (.int .i64 s.size) ∧
    s.name.size ≤ 9223372036854775807 ∧ -9223372036854775808 ≤ s.size ∧ s.size ≤ 9223372036854775807

/-- a slice value reads, in blocks below B, as a list of signals -/
def Sigs (B : Nat) (w : World) (v : Value) (l : List Sig) : Prop :=
  (∃ o c, v = .slice o 0 c ∧ l = []) ∨ ∃ b off cap, v = .slice (some ⟨b, off, none⟩) l.length cap ∧ b < B ∧ l.length ≤ cap ∧ cap ≤ 9223372036854775807 ∧
    ∀ k (h : k < l.length), SigAt w b (off + k * 3) l[k]

theorem SigAt.below {B : Nat} {w w' : World} {b o : Nat} {s : Sig} (h : SigAt w b o s) (hB : Below B w w') (hb : b < B) : SigAt w' b o s :=
  ⟨(hB.cell (p := ⟨b, o, none⟩) hb).trans h.1, (hB.cell (p := ⟨b, o + 1, none⟩) hb).trans h.2.1, (hB.cell (p := ⟨b, o + 2, none⟩) hb).trans h.2.2.1, h.2.2.2⟩

theorem Sigs.below {B B' : Nat} {w w' : World} {v : Value} {l : List Sig} (h : Sigs B w v l) (hB : Below B' w w') (hb : B ≤ B') : Sigs B w' v l := by
  rcases h with h | ⟨b, off, cap, hv, h1, h2, h3, h4⟩
  · exact .inl h
  · exact .inr ⟨b, off, cap, hv, h1, h2, h3, fun k hk => (h4 k hk).below hB (Nat.lt_of_lt_of_le h1 hb)⟩

theorem Sigs.mono {B B' : Nat} {w : World} {v : Value} {l : List Sig} (h : Sigs B w v l) (hb : B ≤ B') : Sigs B' w v l := by
  rcases h with h | ⟨b, off, cap, hv, h1, h2, h3, h4⟩
  · exact .inl h
  · exact .inr ⟨b, off, cap, hv, Nat.lt_of_lt_of_le h1 hb, h2, h3, h4⟩

theorem Sigs.len {B : Nat} {w : World} {v : Value} {l : List Sig} (h : Sigs B w v l) : l.length ≤ 9223372036854775807 := by
  rcases h with ⟨_, _, _, rfl⟩ | ⟨b, off, cap, hv, h1, h2, h3, h4⟩
  · simp
  · omega

theorem ret_int {a b : Int} (h : a = b) : Ending.returned (.int .i64 a) = .returned (.int .i64 b) := by rw [h]
theorem ret_bool {a b : Bool} (h : a = b) : Ending.returned (.bool a) = .returned (.bool b) := by rw [h]

set_option maxHeartbeats 400000 in
theorem keyWord_any (s : ByteArray) (w : World) :
    Calls Tryz.prog 102 #[.string s] w fun e w' => e = .returned (.bool (keyB s.toList)) ∧ w = w' := by
  go_enter Tryz.func102, Tryz.ntmps102
  go_wp2
  all_goals (go_ret; refine ⟨ret_bool ?_, rfl⟩)
  all_goals (simp only [keyB, kws, List.any_cons, List.any_nil, *]; first | rfl | simp_all)

set_option maxHeartbeats 400000 in
theorem name_any (s : ByteArray) (hs : s.size ≤ 9223372036854775807) (w : World) :
    Calls Tryz.prog 77 #[.string s] w fun e w' => e = .returned (.bool (nameB s)) ∧ w = w' := by
  by_cases h1 : 1 ≤ s.size
  · by_cases h2 : s.size ≤ 12
    · go_enter Tryz.func77, Tryz.ntmps77
      go_wp2
      go_step3
      go_wp2_with (go_at_call 102; refine (keyWord_any _ _).mono ?_; rintro e w' ⟨rfl, rfl⟩)
      go_step3
      go_wp2
      go_loop [3, 19] (fun ok i => ∃ k : Nat, k ≤ s.size ∧ i = .int .i64 k ∧ ok = .bool (!keyB s.toList) ∧ Hid (chsB 0 s.data.toList = chsB k (s.data.toList.drop k))) (fun _ i => s.size - (intOf i).toNat)
      case atStart => exact ⟨0, Nat.zero_le _, rfl, rfl, rfl⟩
      case round =>
        obtain ⟨k, hk, rfl, rfl, hF⟩ := hrel
        by_cases hlt : k < s.size
        · have hS : Hid (chsB k (s.data.toList.drop k) = (chB (k == 0) s[k] && chsB (k + 1) (s.data.toList.drop (k + 1)))) := by
            unfold Hid; rw [List.drop_eq_getElem_cons (by simpa using hlt)]; rfl
          cases h95 : ((s[k].toNat : Int) == 95)
          all_goals
            go_wp2
            all_goals first
              | (go_round
                 case rel => exact ⟨k + 1, by omega, by go_num, rfl, hF.out.trans (hS.out.trans (by rw [show chB (k == 0) s[k] = true from by simp only [chB, h95]; simp; omega]; rfl))⟩
                 case measure => simp [intOf]; omega)
              | (try rw [Exit.noGoto_ret]
                 go_ret
                 exact ⟨ret_bool (by unfold nameB; rw [hF.out, hS.out, show chB (k == 0) s[k] = false from by simp only [chB, h95]; simp; omega]; simp), rfl⟩)
        · go_wp2
          (try rw [Exit.noGoto_ret])
          go_ret
          exact ⟨ret_bool (by unfold nameB; rw [hF.out, List.drop_of_length_le (by simp; omega)]; simp [chsB, h1, h2]), rfl⟩
    · go_enter Tryz.func77, Tryz.ntmps77
      go_wp2
      go_step3
      go_wp2
      try rw [Exit.noGoto_ret]
      go_ret
      exact ⟨ret_bool (by unfold nameB; simp; omega), rfl⟩
  · go_enter Tryz.func77, Tryz.ntmps77
    go_wp2
    go_step3
    go_wp2
    try rw [Exit.noGoto_ret]
    go_ret
    exact ⟨ret_bool (by unfold nameB; simp; omega), rfl⟩

set_option maxHeartbeats 400000 in
theorem find_any (B : Nat) (v : Value) (l : List Sig) (nm : ByteArray) (w : World) (hl : Sigs B w v l) (hBw : B ≤ w.heap.size) :
    Calls Tryz.prog 78 #[v, .string nm] w fun e w' => e = .returned (.int .i64 (findI l nm)) ∧ Below w.heap.size w w' := by
  rcases hl.mono hBw with ⟨ov, cv, rfl, rfl⟩ | ⟨b, off, cap, rfl, hb, hcap, hm, hc⟩
  · go_enter Tryz.func78, Tryz.ntmps78
    go_wp2
    go_loopw [5, 6, 9] (fun _ _ i wr => i = .int .i64 0 ∧ wr = w) (fun _ _ _ _ => 0)
    case atStart => exact ⟨rfl, rfl⟩
    case round =>
      obtain ⟨rfl, rfl⟩ := hrel
      go_wp2
      go_ret
      exact ⟨rfl, Below.refl _ _⟩
  · go_enter Tryz.func78, Tryz.ntmps78
    go_wp2
    go_loopw [5, 6, 9] (fun _ _ i wr => ∃ k : Nat, k ≤ l.length ∧ i = .int .i64 k ∧ Below w.heap.size w wr ∧ Hid (findI l nm = findFrom nm k (l.drop k)))
      (fun _ _ i _ => l.length - (intOf i).toNat)
    case atStart => exact ⟨0, Nat.zero_le _, rfl, Below.refl _ _, rfl⟩
    case round =>
      obtain ⟨k, hk, rfl, hB, hF⟩ := hrel
      by_cases hlt : k < l.length
      · obtain ⟨c0, c1, c2, -⟩ := (hc k hlt).below hB hb
        have hS : Hid (findFrom nm k (l.drop k) = if l[k].name.toList == nm.toList then (k : Int) else findFrom nm (k + 1) (l.drop (k + 1))) := by
          unfold Hid; rw [List.drop_eq_getElem_cons hlt]; rfl
        go_wp2
        · go_ret
          exact ⟨ret_int ((hF.out.trans (hS.out.trans (if_pos (by assumption)))).symm), hB.alloc hB.size _⟩
        · go_roundw
          case rel => exact ⟨k + 1, by omega, by go_num, hB.alloc hB.size _, hF.out.trans (hS.out.trans (if_neg (by rw [‹(l[k].name.toList == nm.toList) = false›]; simp)))⟩
          case measure => simp [intOf]; omega
      · go_wp2
        go_ret
        exact ⟨ret_int (by rw [hF.out, List.drop_of_length_le (by omega)]; rfl), hB⟩

set_option maxHeartbeats 1000000 in
theorem valid_any (B : Nat) (v : Value) (l : List Sig) (w : World) (hl : Sigs B w v l) (hBw : B ≤ w.heap.size) :
    Calls Tryz.prog 51 #[v] w fun e w' => e = .returned (.bool (validB l)) ∧ Below w.heap.size w w' := by
  have hl' := hl.mono hBw
  rcases hl.mono hBw with ⟨ov, cv, rfl, rfl⟩ | ⟨b, off, cap, rfl, hb, hcap, hm, hc⟩
  · go_enter Tryz.func51, Tryz.ntmps51
    go_wp2
    go_ret
    exact ⟨rfl, Below.refl _ _⟩
  · by_cases h1 : 1 ≤ l.length
    · by_cases h2 : l.length ≤ 6
      · go_enter Tryz.func51, Tryz.ntmps51
        go_wp2
        go_loopw [3, 16] (fun p i wr => ∃ (k : Nat) (n : Int), k ≤ l.length ∧ i = .int .i64 k ∧ p = .int .i64 n ∧ Below w.heap.size w wr ∧ Hid (validFrom l 0 1 l = validFrom l k n (l.drop k)))
          (fun _ i _ => l.length - (intOf i).toNat)
        case atStart => exact ⟨0, 1, Nat.zero_le _, rfl, rfl, Below.refl _ _, rfl⟩
        case round =>
          obtain ⟨k, n, hk, rfl, rfl, hB, hF⟩ := hrel
          by_cases hlt : k < l.length
          · obtain ⟨c0, c1, c2, c3, c4, c5⟩ := (hc k hlt).below hB hb
            have hS : Hid (validFrom l k n (l.drop k) = (nameB l[k].name && (findI l l[k].name == (k : Int)) && decide (2 ≤ l[k].size) && decide (l[k].size ≤ 4) && validFrom l (k + 1) (wrap64 (n * l[k].size)) (l.drop (k + 1)))) := by
              unfold Hid; rw [List.drop_eq_getElem_cons hlt]; rfl
            go_wp2_with first | (go_at_call 77; refine (name_any _ c3 _).mono ?_; rintro e w' ⟨rfl, rfl⟩) | (go_at_call 78; refine (find_any w.heap.size _ l _ _ (hl'.below (hB.alloc hB.size _) (Nat.le_refl _)) (hB.alloc hB.size _).size).mono ?_; rintro e w' ⟨rfl, hb1⟩; have d2 : w'.cell? ⟨wr.heap.size, 2, none⟩ = some (.int .i64 l[k].size) := (hb1.cell (p := ⟨wr.heap.size, 2, none⟩) (by simp)).trans (by go_simp))
            all_goals first
              | (go_roundw
                 case rel => exact ⟨k + 1, _, by omega, by go_num, rfl, (hB.alloc hB.size _).trans (hb1.mono (by simp; have := hB.size; omega)), hF.out.trans (hS.out.trans (by rw [show (findI l l[k].name == (k : Int)) = true from by simpa using ‹(findI l l[k].name != (k : Int)) = false›]; simp [*] <;> omega))⟩
                 case measure => simp [intOf]; omega)
              | (go_ret
                 exact ⟨ret_bool (by unfold validB; rw [hF.out, hS.out]; clear hF hS hl hl' hc; (try simp only [bne_iff_ne, ne_eq] at *); simp [*] <;> omega), (hB.alloc hB.size _).trans (hb1.mono (by simp; have := hB.size; omega))⟩)
              | (go_ret
                 exact ⟨ret_bool (by unfold validB; rw [hF.out, hS.out]; clear hF hS hl hl' hc; (try simp only [bne_iff_ne, ne_eq] at *); simp [*] <;> omega), (hB.alloc hB.size _)⟩)
          · go_wp2
            go_ret
            exact ⟨ret_bool (by unfold validB; rw [hF.out, List.drop_of_length_le (by omega)]; simp [validFrom, h1, h2]), hB⟩
      · go_enter Tryz.func51, Tryz.ntmps51
        go_wp2
        go_ret
        exact ⟨ret_bool (by unfold validB; simp [h2]), Below.refl _ _⟩
    · go_enter Tryz.func51, Tryz.ntmps51
      go_wp2
      go_ret
      exact ⟨ret_bool (by unfold validB; simp [h1]), Below.refl _ _⟩

end Go.Proofs.YtbnnjbfbifihaaaGreatDoor
