/-
  The walk of the law LexerConcatenation: it returns true, whatever the two texts are.
-/
import Derived.Test.YtplahgcbeanfnaaLxW
namespace Go.Proofs.Ytplahgcbeanfnaa
open Go.RowKit

/-- whatever Lex hands back -/
def LexSome (w : World) (e : Ending) (w' : World) : Prop := ∃ (o : Option Addr) (n c : Nat) (k p : Int), e = .returned (.tuple #[.slice o n c, .int .i64 k, .int .i64 p]) ∧ Below w.heap.size w w'
theorem lex_some (s : ByteArray) (hs : s.size ≤ 6000) (w : World) : Calls Try.prog 9 #[.string s] w (LexSome w) := by
  refine (lex_any s hs w).mono ?_
  rintro e w' ⟨hb, ⟨h0, r, rfl, ht⟩ | ⟨k, p, h0, rfl⟩⟩
  · obtain ⟨o, c, rfl⟩ := ht.shape
    exact ⟨o, _, c, _, _, rfl, hb⟩
  · exact ⟨_, _, _, _, _, rfl, hb⟩

theorem box_cells3 (w : World) (a1 a2 a3 : Value) (t : TypeId) : ∀ j u, [a1, a2, a3][j]? = some u → (w.alloc (.cells #[a1, a2, a3] t)).cell? ((⟨w.heap.size, 0, none⟩ : Addr).add j) = some u :=
  World.news_of_block (cs := #[a1, a2, a3]) (heap_alloc_new w _)

set_option maxRecDepth 100000 in
set_option maxHeartbeats 8000000 in
theorem concat_main (s m : ByteArray) (w : World) (h1 : s.size ≤ 2000) (h2 : m.size ≤ 2000) (A B : List Tok) (hA : Hid (lexT s.data.toList = (A, none))) (hM : Hid (lexT m.data.toList = (B, none))) (hn : A.length + B.length ≤ 2000) :
    Calls Try.prog 5 #[.string s, .string m] w fun e w' => e = .returned (.bool true) ∧ Below w.heap.size w w' := by
  obtain ⟨i0, hi, hz0, hz1, hz2⟩ := info_parts tokInfo
  have hLA := hidi (show lexL s.data.toList = (A, none) by rw [lex_long (by omega), hA.out])
  have hLB := hidi (show lexL m.data.toList = (B, none) by rw [lex_long (by omega), hM.out])
  have hLC := hidi (show lexL (s ++ ⟨#[10]⟩ ++ m).data.toList = (A ++ B.map (shiftT (s.size + 1)), none) by
    have := lexT_concat s.data.toList m.data.toList (by rw [hA.out]) (by rw [hM.out]) (by rw [hA.out, hM.out]; exact hn)
    rw [hA.out, hM.out] at this
    rw [lex_long (by rw [line_size]; omega), line_list]
    exact this)
  obtain ⟨M, hMM⟩ : ∃ M, Hid (B.map (shiftT (s.size + 1)) = M) := ⟨_, rfl⟩
  have hMl : M.length = B.length := by rw [← hMM.out, List.length_map]
  rw [hMM.out] at hLC
  go_enter Try.func5, Try.ntmps5
  go_wp2_with (go_at_call 8; refine (head_any _).mono ?_; rintro e w1 ⟨rfl, hb1⟩)
  refine (lex_ok _ _ (by omega) hLA.out _).mono ?_
  rintro e w2 ⟨r2, rfl, ht2, hb2⟩
  obtain ⟨o2, c2, rfl⟩ := ht2.shape
  go_wp2_with fail
  refine (lex_ok _ _ (by omega) hLB.out _).mono ?_
  rintro e w3 ⟨r3, rfl, ht3, hb3⟩
  obtain ⟨o3, c3, rfl⟩ := ht3.shape
  go_wp2_with fail
  refine (lex_ok _ _ (by rw [line_size]; omega) hLC.out _).mono ?_
  rintro e w4 ⟨r4, rfl, ht4, hb4⟩
  obtain ⟨o4, c4, rfl⟩ := ht4.shape
  have hz12 := hb2.size
  have hz23 := hb3.size
  have hz34 := hb4.size
  have ta := (ht2.below hb3 (Nat.le_refl _)).below hb4 hz23
  have tb := ht3.below hb4 (Nat.le_refl _)
  have hB4 : Below w.heap.size w w4 := hb1.trans ((hb2.trans ((hb3.trans (hb4.mono hb3.size)).mono hb2.size)).mono hb1.size)
  have hzw := hB4.size
  clear ht2 ht3 hb1 hb2 hb3 hb4 hLA hLB hLC
  go_wp2_with (at_builtin; refine wpList_append_toks rfl (.tmp 66) (.tmp 67) rfl w4.heap.size (.slice (some ⟨w4.heap.size, 0, none⟩) 0 0) 0 [] rfl (World.ownsRow_made _ #[] 0 (Nat.le_refl _) (by decide) rfl) (by simp) w2.heap.size (.slice o2 A.length c2) A rfl (ta.below ((Below.refl w4.heap.size _).alloc (Nat.le_refl _) _) (by omega)) (by omega) ?_; intro v5 w5 hown5 hgrow5; have hB5 : Below w4.heap.size w4 w5 := ((Below.refl w4.heap.size w4).alloc (Nat.le_refl _) _).grown hgrow5 (by simp) (by rintro k ⟨⟩; exact Nat.le_refl _))
  rw [Nat.zero_add, List.nil_append] at hown5
  clear hgrow5
  obtain ⟨u5, uc5, rfl⟩ := tok_shape hown5
  go_wp2_with fail
  go_loopw [15, 16] (fun x i wr => ∃ (k : Nat) (u : Option Addr) (uc : Nat), k ≤ B.length ∧ i = .int .i64 k ∧ x = .slice u (A.length + k) uc ∧ wr.ownsRow w4.heap.size 28 3 (.slice u (A.length + k) uc) (A ++ M.take k).length (tokCells (A ++ M.take k)) ∧ Below w4.heap.size w4 wr) (fun _ i _ => B.length - (intOf i).toNat)
  case atStart => exact ⟨0, u5, uc5, Nat.zero_le _, rfl, rfl, by simpa using hown5, hB5⟩
  case round =>
    obtain ⟨k, u, uc, hk, rfl, rfl, hown, hB⟩ := hrel
    by_cases hlt : k < B.length
    · obtain ⟨-, b, rfl, hb, hc1, hc2, hat⟩ := tb.at (by omega)
      obtain ⟨q0, q1, q2⟩ := hat k hlt
      have d0 := (hB.cell (p := ⟨b, k * 3, none⟩) (by show b < _; omega)).trans q0
      have d1 := (hB.cell (p := ⟨b, k * 3 + 1, none⟩) (by show b < _; omega)).trans q1
      have d2 := (hB.cell (p := ⟨b, k * 3 + 2, none⟩) (by show b < _; omega)).trans q2
      have hpos : B[k].pos ≤ 6000 := by
        have := lexT_cut_tok m.data.toList k (by rw [hM.out]; exact hlt)
        obtain ⟨-, h, -⟩ := this
        have e : (lexT m.data.toList).1[k]'(by rw [hM.out]; exact hlt) = B[k] := by simp only [hM.out]
        rw [e] at h
        have : m.data.toList.length = m.size := rfl
        omega
      have hltM : k < M.length := by omega
      have hstep : Hid (M.take (k + 1) = M.take k ++ [shiftT (s.size + 1) B[k]]) := by
        unfold Hid
        rw [List.take_succ_eq_append_getElem hltM]
        congr 2
        simp only [← hMM.out, List.getElem_map]
      have hlk : (A ++ M.take k).length = A.length + k := by rw [List.length_append, List.length_take]; omega
      rw [hlk] at hown
      generalize B[k] = t at *
      clear hat q0 q1 q2 hlk
      have k0 : (0 : Int) ≤ (k : Int) := by omega
      have k1 : (k : Int) < (B.length : Int) := by omega
      have hlt2 := hown.lt
      have hx : Int.ofNat (t.pos + (s.size + 1)) = (t.pos : Int) + (s.size : Int) + 1 := by simp; omega
      go_wp2_with (at_builtin; refine wpList_append_own _ rfl (.tmp 86) (.tmp 88) 23 rfl w4.heap.size 28 i0 (.agg #[.int .i64 0, .string ⟨#[]⟩, .int .i64 0]) 3 32 Try.underlying23 hi hz0 hz1 hz2 rfl (by decide) (.slice u (A.length + k) uc) (A.length + k) (tokCells (A ++ M.take k)) rfl ((hown.alloc _).alloc _) ⟨wr.heap.size + 1, 0, none⟩ 1 1 [.int .i64 t.kind, .string ⟨t.text.toArray⟩, .int .i64 ((t.pos : Int) + (s.size : Int) + 1)] rfl rfl ?c1 ?c2 ?c3 ?c4 ?c5 ?_)
      case c1 =>
        have := box_cells3 (wr.alloc (.cells #[.int .i64 t.kind, .string ⟨t.text.toArray⟩, .int .i64 ((t.pos : Int) + (s.size : Int) + 1)] 28)) (.int .i64 t.kind) (.string ⟨t.text.toArray⟩) (.int .i64 ((t.pos : Int) + (s.size : Int) + 1)) 28
        rw [World.size_alloc] at this
        exact this
      case c2 => simp [Value.oneCell']
      case c3 => unfold maxLen; omega
      case c4 => omega
      case c5 => have := hB.size; simp; omega
      intro v6 w6 hown6 hgrow6 _
      have hB6 : Below w4.heap.size w4 w6 := ((hB.alloc hB.size _).alloc (by have := hB.size; simp; omega) _).grown hgrow6 (by have := hB.size; simp; omega) (fun j e => (hlt2 j e).1)
      have hL6 : (A ++ M.take (k + 1)).length = A.length + k + 1 := by rw [List.length_append, List.length_take]; omega
      have hC6 : tokCells (A ++ M.take (k + 1)) = tokCells (A ++ M.take k) ++ [.int .i64 t.kind, .string ⟨t.text.toArray⟩, .int .i64 ((t.pos : Int) + (s.size : Int) + 1)] := by
        rw [hstep.out, ← List.append_assoc, tokCells_snoc, ← hx]; rfl
      rw [← hC6, ← hL6] at hown6
      obtain ⟨u6, uc6, rfl⟩ := tok_shape hown6
      have hown6' : w6.ownsRow w4.heap.size 28 3 (.slice u6 (A.length + (k + 1)) uc6) (A ++ M.take (k + 1)).length (tokCells (A ++ M.take (k + 1))) := by
        have e : A.length + (k + 1) = (A ++ M.take (k + 1)).length := by omega
        rw [e]; exact hown6
      rw [hL6]
      clear hown hgrow6 hown6 hlt2 hC6 hL6 d0 d1 d2 hx
      go_wp2_with fail
      go_roundw
      case rel => exact ⟨k + 1, u6, uc6, by omega, by go_num, by rw [Nat.add_assoc], hown6', hB6⟩
      case measure => simp [intOf]; omega
    · obtain rfl : k = B.length := by omega
      rw [List.take_of_length_le (by omega)] at hown
      have tw := toks_of_owns (v := .slice u (A.length + B.length) uc) (l := A ++ M) hown
      have hlen4 : (A ++ M).length = A.length + B.length := by rw [List.length_append]; omega
      have t4 := (ht4.below hB (Nat.le_refl _)).mono hB.size
      rw [hlen4] at t4
      clear hown ta tb ht4
      go_wp2_with (go_at_call 14; refine (same_any wr.heap.size _ _ _ _ t4 tw (Nat.le_refl _)).mono ?_; rintro e w7 ⟨rfl, hb7⟩)
      go_ret
      exact ⟨rfl, hB4.trans ((hB.trans (hb7.mono hB.size)).mono hB4.size)⟩

set_option maxRecDepth 100000 in
set_option maxHeartbeats 4000000 in
theorem concat_any (s m : ByteArray) (w : World) :
    Calls Try.prog 5 #[.string s, .string m] w fun e w' => e = .returned (.bool true) ∧ Below w.heap.size w w' := by
  by_cases h1 : s.size ≤ 2000
  · by_cases h2 : m.size ≤ 2000
    · cases hr : (lexT s.data.toList).2 with
      | some x =>
        obtain ⟨k, q⟩ := x
        have hL := hidi (show (lexL s.data.toList).2 = some (k, q) by rw [lex_long (by omega), hr])
        obtain ⟨hk0, hk1⟩ := lexT_code hr
        clear hr
        go_enter Try.func5, Try.ntmps5
        go_wp2_with (go_at_call 8; refine (head_any _).mono ?_; rintro e w1 ⟨rfl, hb1⟩)
        refine (lex_err _ k q (by omega) hL.out _).mono ?_
        rintro e w2 ⟨rfl, hb2⟩
        go_wp2_with fail
        refine (lex_some _ (by omega) _).mono ?_
        rintro e w3 ⟨o3, n3, c3, k3, p3, rfl, hb3⟩
        go_wp2_with fail
        go_ret
        exact ⟨rfl, hb1.trans ((hb2.trans (hb3.mono hb2.size)).mono hb1.size)⟩
      | none =>
        have hA : Hid (lexT s.data.toList = ((lexT s.data.toList).1, none)) := by unfold Hid; rw [← hr]
        clear hr
        generalize (lexT s.data.toList).1 = A at hA
        have hLA := hidi (show lexL s.data.toList = (A, none) by rw [lex_long (by omega), hA.out])
        cases hr : (lexT m.data.toList).2 with
        | some x =>
          obtain ⟨k, q⟩ := x
          have hL := hidi (show (lexL m.data.toList).2 = some (k, q) by rw [lex_long (by omega), hr])
          obtain ⟨hk0, hk1⟩ := lexT_code hr
          clear hr
          go_enter Try.func5, Try.ntmps5
          go_wp2_with (go_at_call 8; refine (head_any _).mono ?_; rintro e w1 ⟨rfl, hb1⟩)
          refine (lex_ok _ _ (by omega) hLA.out _).mono ?_
          rintro e w2 ⟨r2, rfl, ht2, hb2⟩
          obtain ⟨o2, c2, rfl⟩ := ht2.shape
          clear ht2
          go_wp2_with fail
          refine (lex_err _ k q (by omega) hL.out _).mono ?_
          rintro e w3 ⟨rfl, hb3⟩
          go_wp2_with fail
          go_ret
          exact ⟨rfl, hb1.trans ((hb2.trans (hb3.mono hb2.size)).mono hb1.size)⟩
        | none =>
          have hM : Hid (lexT m.data.toList = ((lexT m.data.toList).1, none)) := by unfold Hid; rw [← hr]
          clear hr
          generalize (lexT m.data.toList).1 = B at hM
          by_cases hn : A.length + B.length ≤ 2000
          · exact concat_main s m w h1 h2 A B hA hM hn
          · have hLB := hidi (show lexL m.data.toList = (B, none) by rw [lex_long (by omega), hM.out])
            have hn' : 2000 < A.length + B.length := by omega
            clear hn
            go_enter Try.func5, Try.ntmps5
            go_wp2_with (go_at_call 8; refine (head_any _).mono ?_; rintro e w1 ⟨rfl, hb1⟩)
            refine (lex_ok _ _ (by omega) hLA.out _).mono ?_
            rintro e w2 ⟨r2, rfl, ht2, hb2⟩
            obtain ⟨o2, c2, rfl⟩ := ht2.shape
            have hl2 := ht2.len
            clear ht2
            go_wp2_with fail
            refine (lex_ok _ _ (by omega) hLB.out _).mono ?_
            rintro e w3 ⟨r3, rfl, ht3, hb3⟩
            obtain ⟨o3, c3, rfl⟩ := ht3.shape
            have hl3 := ht3.len
            have hA6 := hidi (toks_count hA.out)
            have hB6 := hidi (toks_count hM.out)
            clear ht3
            have a6 : A.length ≤ 2000 := by have := hA6.out; have e : s.data.toList.length = s.size := rfl; omega
            have b6 : B.length ≤ 2000 := by have := hB6.out; have e : m.data.toList.length = m.size := rfl; omega
            go_wp2_with fail
            go_ret
            exact ⟨rfl, hb1.trans ((hb2.trans (hb3.mono hb2.size)).mono hb1.size)⟩
    · have h2' : 2000 < m.size := by omega
      clear h2
      go_enter Try.func5, Try.ntmps5
      go_wp2_with (go_at_call 8; refine (head_any _).mono ?_; rintro e w1 ⟨rfl, hb1⟩)
      go_ret
      exact ⟨rfl, hb1⟩
  · have h1' : 2000 < s.size := by omega
    clear h1
    go_enter Try.func5, Try.ntmps5
    go_wp2_with (go_at_call 8; refine (head_any _).mono ?_; rintro e w1 ⟨rfl, hb1⟩)
    go_ret
    exact ⟨rfl, hb1⟩

end Go.Proofs.Ytplahgcbeanfnaa
