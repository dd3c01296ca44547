/-
  Contracts of the reference's Keywords, In, Name, Find, Valid.
-/
import Derived.Test.YtbifbaennjglmaaHeadP
import Derived.Test.YtbifbaennjglmaaHalves
namespace Go.Proofs.Ytbifbaennjglmaa
open Go.RowKit

def kwsB : List ByteArray := kws.map fun k => ⟨k.toArray⟩

theorem keyB_ref (s : ByteArray) : (kwsB.any fun k => k.toList == s.toList) = keyB s.toList := by
  unfold kwsB keyB
  rw [List.any_map]
  congr 1
  funext k
  rw [Function.comp, toList_data]
  exact Bool.beq_comm

/-- a slice value reads, in blocks below B, as a list of strings -/
def StrsAt (B : Nat) (w : World) (v : Value) (ss : List ByteArray) : Prop :=
  ∃ b off cap, v = .slice (some ⟨b, off, none⟩) ss.length cap ∧ b < B ∧ ss.length ≤ cap ∧ ss.length ≤ 1000000 ∧ ∀ k (h : k < ss.length), w.cell? ⟨b, off + k, none⟩ = some (.string ss[k])

def KwPost (w : World) (e : Ending) (w' : World) : Prop := ∃ v, e = .returned v ∧ StrsAt w'.heap.size w' v kwsB ∧ Below w.heap.size w w'

set_option maxHeartbeats 400000 in
theorem keywords_any (w : World) : Calls Try.prog 41 #[] w (KwPost w) := by
  go_enter Try.func41, Try.ntmps41
  go_wp2
  go_ret
  refine ⟨_, rfl, ⟨w.heap.size, 0, 10, rfl, by simp, by simp [kwsB, kws], by simp [kwsB, kws], fun k hk => ?_⟩, (Below.refl _ _).alloc (Nat.le_refl _) _⟩
  rw [World.cell?_alloc_at _ _ _ _ rfl]
  have hk' : k < 10 := hk
  match k, hk' with
  | 0, _ | 1, _ | 2, _ | 3, _ | 4, _ | 5, _ | 6, _ | 7, _ | 8, _ | 9, _ => rfl

set_option maxHeartbeats 400000 in
theorem refin_any (B : Nat) (v : Value) (ss : List ByteArray) (s : ByteArray) (w : World) (hv : StrsAt B w v ss) :
    Calls Try.prog 40 #[v, .string s] w fun e w' => e = .returned (.bool (ss.any fun k => k.toList == s.toList)) ∧ w = w' := by
  obtain ⟨b, off, cap, rfl, hb, hcap, hm, hc⟩ := hv
  go_enter Try.func40, Try.ntmps40
  go_wp2
  go_loop [5] (fun i => ∃ k : Nat, k ≤ ss.length ∧ i = .int .i64 k ∧ Hid ((ss.any fun k => k.toList == s.toList) = ((ss.drop k).any fun k => k.toList == s.toList))) (fun i => ss.length - (intOf i).toNat)
  case atStart => exact ⟨0, Nat.zero_le _, rfl, rfl⟩
  case round =>
    obtain ⟨k, hk, rfl, hF⟩ := hrel
    by_cases hlt : k < ss.length
    · have c0 := hc k hlt
      have hS : Hid (((ss.drop k).any fun k => k.toList == s.toList) = ((ss[k].toList == s.toList) || ((ss.drop (k + 1)).any fun k => k.toList == s.toList))) := by
        unfold Hid; rw [List.drop_eq_getElem_cons hlt]; rfl
      cases heq : (ss[k].toList == s.toList)
      · go_wp2
        go_round
        case rel => exact ⟨k + 1, by omega, by go_num, hF.out.trans (hS.out.trans (by rw [heq]; rfl))⟩
        case measure => simp [intOf]; omega
      · go_wp2
        go_ret
        exact ⟨ret_bool (by rw [hF.out, hS.out, heq]; rfl), rfl⟩
    · go_wp2
      go_ret
      exact ⟨ret_bool (by rw [hF.out, List.drop_of_length_le (by omega)]; rfl), rfl⟩

set_option maxHeartbeats 1000000 in
theorem refname_any (s : ByteArray) (hs : s.size ≤ 9223372036854775807) (w : World) :
    Calls Try.prog 16 #[.string s] w fun e w' => e = .returned (.bool (nameB s)) ∧ Below w.heap.size w w' := by
  by_cases h1 : 1 ≤ s.size
  · by_cases h2 : s.size ≤ 12
    · go_enter Try.func16, Try.ntmps16
      go_wp2_with fail
      refine (keywords_any _).mono ?_
      rintro e w1 ⟨v1, rfl, hk1, hB⟩
      go_wp2_with fail
      refine (refin_any _ _ kwsB s _ hk1).mono ?_
      rintro e w2 ⟨rfl, rfl⟩
      rw [keyB_ref]
      cases hkey : keyB s.toList
      · go_wp2
        go_loop [3] (fun i => ∃ k : Nat, k ≤ s.size ∧ i = .int .i64 k ∧ Hid (chsB 0 s.data.toList = chsB k (s.data.toList.drop k))) (fun i => s.size - (intOf i).toNat)
        case atStart => exact ⟨0, Nat.zero_le _, rfl, rfl⟩
        case round =>
          obtain ⟨k, hk, rfl, hF⟩ := hrel
          by_cases hlt : k < s.size
          · have hS : Hid (chsB k (s.data.toList.drop k) = (chB (k == 0) s[k] && chsB (k + 1) (s.data.toList.drop (k + 1)))) := by
              unfold Hid; rw [List.drop_eq_getElem_cons (by simpa using hlt)]; rfl
            cases h95 : ((s[k].toNat : Int) == 95)
            all_goals
              cases hk0 : ((k : Int) == 0)
              all_goals
                go_wp2
                all_goals first
                  | (go_round
                     case rel => exact ⟨k + 1, by omega, by go_num, hF.out.trans (hS.out.trans (by rw [show chB (k == 0) s[k] = true from by simp only [chB, h95]; simp at hk0; simp; omega]; rfl))⟩
                     case measure => simp [intOf]; omega)
                  | (go_ret
                     exact ⟨ret_bool (by unfold nameB; rw [hF.out, hS.out, show chB (k == 0) s[k] = false from by simp only [chB, h95]; simp at hk0; simp; omega]; simp), hB⟩)
                  | (exfalso; simp only [Bool.not_eq_eq_eq_not, Bool.not_false, decide_eq_true_eq] at *; omega)
          · go_wp2
            go_ret
            exact ⟨ret_bool (by unfold nameB; rw [hF.out, List.drop_of_length_le (by simp; omega), hkey]; simp [chsB, h1, h2]), hB⟩
      · go_wp2
        go_ret
        exact ⟨ret_bool (by unfold nameB; rw [hkey]; simp), hB⟩
    · go_enter Try.func16, Try.ntmps16
      go_wp2
      go_ret
      exact ⟨ret_bool (by unfold nameB; simp; omega), Below.refl _ _⟩
  · go_enter Try.func16, Try.ntmps16
    go_wp2
    go_ret
    exact ⟨ret_bool (by unfold nameB; simp; omega), Below.refl _ _⟩

theorem Sigs.shape {B : Nat} {w : World} {v : Value} {l : List Sig} (h : Sigs B w v l) : ∃ o c, v = .slice o l.length c := by
  rcases h with ⟨ov, cv, rfl, rfl⟩ | ⟨b, off, cap, rfl, _⟩
  · exact ⟨_, _, rfl⟩
  · exact ⟨_, _, rfl⟩

/-- a signal's place: the slice is not empty -/
theorem Sigs.at {B : Nat} {w : World} {o : Option Addr} {c : Nat} {l : List Sig} (h : Sigs B w (.slice o l.length c) l) (hx : 0 < l.length) : ∃ b off, o = some ⟨b, off, none⟩ ∧ b < B ∧ l.length ≤ c ∧ c ≤ 9223372036854775807 ∧
    ∀ k (h : k < l.length), SigAt w b (off + k * 3) l[k] := by
  rcases h with ⟨o', c', _, rfl⟩ | ⟨b, off, cap, hv, h1, h2, h3, h4⟩
  · simp at hx
  · cases hv
    exact ⟨b, off, rfl, h1, h2, h3, h4⟩

set_option maxHeartbeats 400000 in
theorem reffind_any (B : Nat) (v : Value) (l : List Sig) (nm : ByteArray) (w : World) (hl : Sigs B w v l) :
    Calls Try.prog 18 #[v, .string nm] w fun e w' => e = .returned (.int .i64 (findI l nm)) ∧ w = w' := by
  obtain ⟨o, c, rfl⟩ := hl.shape
  have hm := hl.len
  go_enter Try.func18, Try.ntmps18
  go_wp2
  go_loop [5] (fun i => ∃ k : Nat, k ≤ l.length ∧ i = .int .i64 k ∧ Hid (findI l nm = findFrom nm k (l.drop k))) (fun i => l.length - (intOf i).toNat)
  case atStart => exact ⟨0, Nat.zero_le _, rfl, rfl⟩
  case round =>
    obtain ⟨k, hk, rfl, hF⟩ := hrel
    by_cases hlt : k < l.length
    · obtain ⟨b, off, rfl, hb, hcap, -, hc⟩ := hl.at (by omega)
      obtain ⟨c0, c1, c2, -⟩ := hc k hlt
      have hS : Hid (findFrom nm k (l.drop k) = if l[k].name.toList == nm.toList then (k : Int) else findFrom nm (k + 1) (l.drop (k + 1))) := by
        unfold Hid; rw [List.drop_eq_getElem_cons hlt]; rfl
      cases heq : (l[k].name.toList == nm.toList)
      · go_wp2
        go_round
        case rel => exact ⟨k + 1, by omega, by go_num, hF.out.trans (hS.out.trans (by rw [heq]; rfl))⟩
        case measure => simp [intOf]; omega
      · go_wp2
        go_ret
        exact ⟨ret_int (by rw [hF.out, hS.out, heq]; rfl), rfl⟩
    · go_wp2
      go_ret
      exact ⟨ret_int (by rw [hF.out, List.drop_of_length_le (by omega)]; rfl), rfl⟩

set_option maxHeartbeats 1000000 in
theorem refvalid_any (B : Nat) (v : Value) (l : List Sig) (w : World) (hl : Sigs B w v l) (hBw : B ≤ w.heap.size) :
    Calls Try.prog 14 #[v] w fun e w' => e = .returned (.bool (validB l)) ∧ Below w.heap.size w w' := by
  have hl' := hl.mono hBw
  obtain ⟨o, c, rfl⟩ := hl.shape
  by_cases h1 : 1 ≤ l.length
  · by_cases h2 : l.length ≤ 6
    · obtain ⟨b, off, rfl, hb, hcap, -, hc⟩ := hl'.at (by omega)
      go_enter Try.func14, Try.ntmps14
      go_wp2
      go_loopw [3, 4] (fun p i wr => ∃ (k : Nat) (n : Int), k ≤ l.length ∧ i = .int .i64 k ∧ p = .int .i64 n ∧ Below w.heap.size w wr ∧ Hid (validFrom l 0 1 l = validFrom l k n (l.drop k))) (fun _ i _ => l.length - (intOf i).toNat)
      case atStart => exact ⟨0, 1, Nat.zero_le _, rfl, rfl, Below.refl _ _, rfl⟩
      case round =>
        obtain ⟨k, n, hk, rfl, rfl, hB, hF⟩ := hrel
        by_cases hlt : k < l.length
        · have hcw := hc k hlt
          obtain ⟨c0, c1, c2, c3, c4, c5⟩ := hcw.below hB hb
          have hS : Hid (validFrom l k n (l.drop k) = (nameB l[k].name && (findI l l[k].name == (k : Int)) && decide (2 ≤ l[k].size) && decide (l[k].size ≤ 4) && validFrom l (k + 1) (wrap64 (n * l[k].size)) (l.drop (k + 1)))) := by
            unfold Hid; rw [List.drop_eq_getElem_cons hlt]; rfl
          go_wp2_with fail
          refine (refname_any _ c3 _).mono ?_
          rintro e w2 ⟨rfl, hb2⟩
          have hB2 := hB.trans (hb2.mono hB.size)
          obtain ⟨d0, d1, d2, -⟩ := hcw.below hB2 hb
          clear c0 c1 c2 hB hb2 hcw
          cases hn : nameB l[k].name
          · go_wp2
            go_ret
            exact ⟨ret_bool (by unfold validB; rw [hF.out, hS.out, hn]; simp), hB2⟩
          · cases hf : (findI l l[k].name != (k : Int))
            · have hf' : (findI l l[k].name == (k : Int)) = true := by simpa using hf
              by_cases s2 : 2 ≤ l[k].size
              · by_cases s4 : l[k].size ≤ 4
                · go_wp2_with (go_at_call 18; refine (reffind_any w.heap.size _ l _ _ (hl'.below hB2 (Nat.le_refl _))).mono ?_; rintro e w' ⟨rfl, rfl⟩)
                  go_roundw
                  case rel => exact ⟨k + 1, _, by omega, by go_num, rfl, hB2, hF.out.trans (hS.out.trans (by rw [hn, hf', decide_eq_true s2, decide_eq_true s4]; rfl))⟩
                  case measure => simp [intOf]; omega
                · go_wp2_with (go_at_call 18; refine (reffind_any w.heap.size _ l _ _ (hl'.below hB2 (Nat.le_refl _))).mono ?_; rintro e w' ⟨rfl, rfl⟩)
                  go_ret
                  exact ⟨ret_bool (by unfold validB; rw [hF.out, hS.out, decide_eq_false (show ¬ l[k].size ≤ 4 by omega)]; simp), hB2⟩
              · go_wp2_with (go_at_call 18; refine (reffind_any w.heap.size _ l _ _ (hl'.below hB2 (Nat.le_refl _))).mono ?_; rintro e w' ⟨rfl, rfl⟩)
                go_ret
                exact ⟨ret_bool (by unfold validB; rw [hF.out, hS.out, decide_eq_false (show ¬ 2 ≤ l[k].size by omega)]; simp), hB2⟩
            · have hf' : (findI l l[k].name == (k : Int)) = false := by simpa using hf
              go_wp2_with (go_at_call 18; refine (reffind_any w.heap.size _ l _ _ (hl'.below hB2 (Nat.le_refl _))).mono ?_; rintro e w' ⟨rfl, rfl⟩)
              go_ret
              exact ⟨ret_bool (by unfold validB; rw [hF.out, hS.out, hf']; simp), hB2⟩
        · go_wp2
          go_ret
          exact ⟨ret_bool (by unfold validB; rw [hF.out, List.drop_of_length_le (by omega)]; simp [validFrom, h1, h2]), hB⟩
    · go_enter Try.func14, Try.ntmps14
      go_wp2
      go_ret
      exact ⟨ret_bool (by unfold validB; simp [h2]), Below.refl _ _⟩
  · go_enter Try.func14, Try.ntmps14
    go_wp2
    go_ret
    exact ⟨ret_bool (by unfold validB; simp [h1]), Below.refl _ _⟩

end Go.Proofs.Ytbifbaennjglmaa
