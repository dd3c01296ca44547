/-
  The walk of the law LexerCovers: it returns true, whatever the text is.
-/
import Derived.Test.YtplahgcbeanfnaaLxErrors
namespace Go.Proofs.Ytplahgcbeanfnaa
open Go.RowKit

theorem ext_mid (s : ByteArray) (a b : Nat) : (s.extract a b).data.toList = (s.data.toList.drop a).take (b - a) := by
  rw [ByteArray.data_extract, Array.toList_extract, List.extract_eq_take_drop]
theorem gaps_true {s : ByteArray} (hs : s.size ≤ 9223372036854775807) (h : gapL s.data.toList = s.size) (w : World) : Calls Try.prog 10 #[.string s] w fun e w' => e = .returned (.bool true) ∧ w = w' := by
  have := gaps_any s hs w
  rw [h, decide_eq_true rfl] at this
  exact this

set_option maxRecDepth 100000 in
set_option maxHeartbeats 4000000 in
theorem covers_any (s : ByteArray) (w : World) :
    Calls Try.prog 3 #[.string s] w fun e w' => e = .returned (.bool true) ∧ Below w.heap.size w w' := by
  by_cases h1 : s.size ≤ 3000
  · cases hr : (lexT s.data.toList).2 with
    | some x =>
      obtain ⟨k, q⟩ := x
      have hL := hidi (show (lexL s.data.toList).2 = some (k, q) by rw [lex_long (by omega), hr])
      obtain ⟨hk0, hk1⟩ := lexT_code hr
      clear hr
      go_enter Try.func3, Try.ntmps3
      go_wp2_with (go_at_call 8; refine (head_any _).mono ?_; rintro e w1 ⟨rfl, hb1⟩)
      refine (lex_err _ k q (by omega) hL.out _).mono ?_
      rintro e w2 ⟨rfl, hb2⟩
      go_wp2_with fail
      go_ret
      exact ⟨rfl, hb1.trans (hb2.mono hb1.size)⟩
    | none =>
      have hL := hidi (show lexL s.data.toList = ((lexT s.data.toList).1, none) by rw [lex_long (by omega), ← hr])
      obtain ⟨LL, hLL⟩ : ∃ L, Hid ((lexT s.data.toList).1 = L) := ⟨_, rfl⟩
      have hF0 : Hid ((leftF s.data.toList 0 0).1 = LL) := by unfold Hid; rw [left_zero, hLL.out]
      have hG0 : Hid ((leftF s.data.toList 0 0).2 = none) := by unfold Hid; rw [left_zero, hr]
      clear hr
      rw [hLL.out] at hL
      go_enter Try.func3, Try.ntmps3
      go_wp2_with (go_at_call 8; refine (head_any _).mono ?_; rintro e w1 ⟨rfl, hb1⟩)
      refine (lex_ok _ _ (by omega) hL.out _).mono ?_
      rintro e w2 ⟨r2, rfl, ht2, hb2⟩
      obtain ⟨o2, c2, rfl⟩ := ht2.shape
      have hlen := ht2.len
      go_wp2_with fail
      go_loopw [7, 8] (fun x i wr => ∃ (k en : Nat), k ≤ LL.length ∧ en ≤ s.size ∧ x = .int .i64 en ∧ i = .int .i64 k ∧ Below w2.heap.size w2 wr ∧ Hid ((leftF s.data.toList en k).1 = LL.drop k) ∧ Hid ((leftF s.data.toList en k).2 = none)) (fun _ i _ => LL.length - (intOf i).toNat)
      case atStart => exact ⟨0, 0, Nat.zero_le _, Nat.zero_le _, rfl, rfl, Below.refl _ _, hF0, hG0⟩
      case round =>
        obtain ⟨k, en, hk, hen, rfl, rfl, hB, hF, hG⟩ := hrel
        have hsz : s.data.toList.length = s.size := rfl
        by_cases hlt : k < LL.length
        · obtain ⟨-, b, rfl, hb, hc1, hc2, hat⟩ := ht2.at (by omega)
          obtain ⟨-, c1, c2⟩ := hat k hlt
          have hdk := List.drop_eq_getElem_cons hlt
          obtain ⟨n1, n2, n3, n4, n5, n6⟩ := left_next (hF.out.trans hdk) hG.out
          clear hdk hat
          generalize LL[k] = t at *
          obtain ⟨p, hp⟩ : ∃ p, t.pos = p := ⟨_, rfl⟩
          obtain ⟨q, hq⟩ : ∃ q, t.text.length = q := ⟨_, rfl⟩
          rw [hp, hq] at n4
          rw [n4, ← ext_text] at c1
          rw [hp] at c2 n1
          rw [hp, hq] at n3 n5 n6
          rw [hq] at n2
          have n5' := hidi n5
          have n6' := hidi n6
          have hgl := gapL_le (s.data.toList.drop en)
          have hgap : gapL (s.extract en p).data.toList = (s.extract en p).size := by
            rw [ext_mid, gapL_take, ByteArray.size_extract]
            rw [List.length_drop] at hgl
            omega
          have hgap' := hidi hgap
          have hxs : (s.extract p (p + q)).size = q := by rw [ByteArray.size_extract]; omega
          have hes : (s.extract en p).size ≤ 9223372036854775807 := by rw [ByteArray.size_extract]; omega
          have d1 := (hB.cell (p := ⟨b, k * 3 + 1, none⟩) (by show b < _; omega)).trans c1
          have d2 := (hB.cell (p := ⟨b, k * 3 + 2, none⟩) (by show b < _; omega)).trans c2
          have hep : en ≤ p := by omega
          have hpq : p + q ≤ s.size := by omega
          clear n1 n3 n4 n5 n6 hgl hgap c1 c2 hsz
          have k0 : (0 : Int) ≤ (k : Int) := by omega
          have k1 : (k : Int) < (LL.length : Int) := by omega
          go_wp2_with fail
          go_quiet (fail)
          go_wp2_with fail
          have p0 : (0 : Int) ≤ (p : Int) := by omega
          have p1 : (0 : Int) ≤ (en : Int) := by omega
          have p2 : (en : Int) ≤ (p : Int) := by omega
          have p3 : (p : Int) ≤ (p : Int) + (q : Int) := by omega
          have p4 : (p : Int) + (q : Int) ≤ (s.size : Int) := by omega
          have p5 : (p : Int) ≤ (s.size : Int) := by omega
          have p6 : ((p : Int) + (q : Int)).toNat = p + q := by omega
          have p7 : (0 : Int) ≤ (p : Int) + (q : Int) := by omega
          have m1 : decide (p < en) = false := by simp; omega
          have m2 : decide ((s.size : Int) < (p : Int) + (q : Int)) = false := by simp; omega
          have m3 : decide ((p : Int) + (q : Int) ≤ (p : Int)) = false := by simp; omega
          go_quiet ((first | (go_at_call 10; exact quiet_left (gaps_true hes hgap'.out _)) | (go_at_call 10; exact quiet_add_left (gaps_true hes hgap'.out _))))
          go_wp2_with fail
          go_roundw
          case rel => exact ⟨k + 1, p + q, by omega, hpq, by go_num, by go_num, below_drewN hB _, n5'.out, n6'.out⟩
          case measure => simp [intOf]; omega
        · obtain rfl : k = LL.length := by omega
          have hgap := hidi (left_end (by omega) (hF.out.trans (List.drop_of_length_le (Nat.le_refl _))) hG.out)
          have hgap' : Hid (gapL (s.extract en s.size).data.toList = (s.extract en s.size).size) := by
            unfold Hid
            rw [ext_toList, hgap.out, ByteArray.size_extract]
            omega
          have hes : (s.extract en s.size).size ≤ 9223372036854775807 := by rw [ByteArray.size_extract]; omega
          have p1 : (0 : Int) ≤ (en : Int) := by omega
          have p2 : (en : Int) ≤ (s.size : Int) := by omega
          clear hsz
          go_wp2_with (go_at_call 10; refine (gaps_true hes hgap'.out _).mono ?_; rintro e w' ⟨rfl, rfl⟩)
          go_ret
          exact ⟨rfl, hb1.trans ((hb2.trans (hB.mono hb2.size)).mono hb1.size)⟩
  · have h1' : 3000 < s.size := by omega
    clear h1
    go_enter Try.func3, Try.ntmps3
    go_wp2_with (go_at_call 8; refine (head_any _).mono ?_; rintro e w1 ⟨rfl, hb1⟩)
    go_ret
    exact ⟨rfl, hb1⟩

end Go.Proofs.Ytplahgcbeanfnaa
