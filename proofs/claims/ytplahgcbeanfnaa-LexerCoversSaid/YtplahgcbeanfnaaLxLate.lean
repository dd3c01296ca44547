/-
  The walk of the law LexerLate: it returns true, whatever the two texts are.
-/
import Derived.Test.YtplahgcbeanfnaaLxN
namespace Go.Proofs.Ytplahgcbeanfnaa
open Go.RowKit

theorem lex_long {s : ByteArray} (hs : s.size ≤ 6000) : lexL s.data.toList = lexT s.data.toList := by
  unfold lexL
  rw [if_neg (by have : s.data.toList.length = s.size := rfl; omega)]

theorem line_list (s m : ByteArray) : (s ++ ⟨#[10]⟩ ++ m).data.toList = s.data.toList ++ 10 :: m.data.toList := by
  rw [ByteArray.data_append, ByteArray.data_append]; simp
theorem line_size (s m : ByteArray) : (s ++ ⟨#[10]⟩ ++ m).size = s.size + 1 + m.size := by
  rw [ByteArray.size_append, ByteArray.size_append]; rfl

set_option maxRecDepth 100000 in
set_option maxHeartbeats 4000000 in
theorem late_any (s m : ByteArray) (w : World) :
    Calls Try.prog 7 #[.string s, .string m] w fun e w' => e = .returned (.bool true) ∧ Below w.heap.size w w' := by
  by_cases h1 : s.size ≤ 1500
  · by_cases h2 : m.size ≤ 1500
    · cases hr : (lexT s.data.toList).2 with
      | none =>
        have hL : lexL s.data.toList = ((lexT s.data.toList).1, none) := by rw [lex_long (by omega), ← hr]
        have hL' := hidi hL
        clear hL hr
        go_enter Try.func7, Try.ntmps7
        go_wp2_with (go_at_call 8; refine (head_any _).mono ?_; rintro e w1 ⟨rfl, hb1⟩)
        refine (lex_ok _ _ (by omega) hL'.out _).mono ?_
        rintro e w2 ⟨r2, rfl, ht2, hb2⟩
        go_wp2_with fail
        go_ret
        exact ⟨rfl, hb1.trans (hb2.mono hb1.size)⟩
      | some x =>
        obtain ⟨k, q⟩ := x
        have hL := hidi (show (lexL s.data.toList).2 = some (k, q) by rw [lex_long (by omega), hr])
        have hE := hidi (lexT_line_err s.data.toList m.data.toList k q hr)
        obtain ⟨hk0, -⟩ := lexT_code hr
        have hr' := hidi hr
        clear hr
        go_enter Try.func7, Try.ntmps7
        go_wp2_with (go_at_call 8; refine (head_any _).mono ?_; rintro e w1 ⟨rfl, hb1⟩)
        refine (lex_err _ k q (by omega) hL.out _).mono ?_
        rintro e w2 ⟨rfl, hb2⟩
        go_wp2_with fail
        refine (lex_err _ k q (by rw [line_size]; omega) ?_ _).mono ?_
        · rw [lex_long (by rw [line_size]; omega), line_list, hE.out, hr'.out]
        rintro e w3 ⟨rfl, hb3⟩
        go_wp2_with fail
        go_ret
        exact ⟨rfl, hb1.trans ((hb2.trans (hb3.mono hb2.size)).mono hb1.size)⟩
    · have h2' : 1500 < m.size := by omega
      clear h2
      go_enter Try.func7, Try.ntmps7
      go_wp2_with (go_at_call 8; refine (head_any _).mono ?_; rintro e w1 ⟨rfl, hb1⟩)
      go_ret
      exact ⟨rfl, hb1⟩
  · have h1' : 1500 < s.size := by omega
    clear h1
    go_enter Try.func7, Try.ntmps7
    go_wp2_with (go_at_call 8; refine (head_any _).mono ?_; rintro e w1 ⟨rfl, hb1⟩)
    go_ret
    exact ⟨rfl, hb1⟩

end Go.Proofs.Ytplahgcbeanfnaa
