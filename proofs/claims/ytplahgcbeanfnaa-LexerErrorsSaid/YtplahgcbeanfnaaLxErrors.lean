/-
  The walk of the law LexerErrors: it returns true, whatever the text and the number are.
-/
import Derived.Test.YtplahgcbeanfnaaLxLate
namespace Go.Proofs.Ytplahgcbeanfnaa
open Go.RowKit

theorem ext_take (s : ByteArray) (q : Nat) : (s.extract 0 q).data.toList = s.data.toList.take q := by
  rw [ByteArray.data_extract, Array.toList_extract, List.extract_eq_take_drop]; simp
theorem Toks.take {B : Nat} {w : World} {o : Option Addr} {c : Nat} {l : List Tok} (h : Toks B w (.slice o l.length c) l) (k : Nat) (hk : k ≤ l.length) : Toks B w (.slice o k c) (l.take k) := by
  have hl : (l.take k).length = k := by rw [List.length_take, Nat.min_eq_left hk]
  rcases h with ⟨o', c', hv, rfl⟩ | ⟨b, cap, hv, h1, h2, h3, h4⟩
  · have : k = 0 := by simpa using hk
    subst this
    exact .inl ⟨_, _, rfl, rfl⟩
  · cases hv
    refine .inr ⟨b, c, by rw [hl], h1, by omega, h3, fun j hj => ?_⟩
    have hj' : j < l.length := by omega
    have := h4 j hj'
    rw [List.getElem_take]
    exact this

set_option maxRecDepth 100000 in
set_option maxHeartbeats 4000000 in
theorem errors_any (s : ByteArray) (raw : Int) (w : World) (r0 : 0 ≤ raw) (r1 : raw ≤ 255) :
    Calls Try.prog 6 #[.string s, .int .u8 raw] w fun e w' => e = .returned (.bool true) ∧ Below w.heap.size w w' := by
  by_cases h1 : s.size ≤ 3000
  · cases hr : (lexT s.data.toList).2 with
    | some x =>
      obtain ⟨k, q⟩ := x
      have hL := hidi (show (lexL s.data.toList).2 = some (k, q) by rw [lex_long (by omega), hr])
      obtain ⟨hk0, hk1⟩ := lexT_code hr
      obtain ⟨hq, hC⟩ := lexT_cut_err _ k q hr
      have hq' : q < s.size := hq
      have hes2 : (s.extract 0 q).size ≤ 6000 := by rw [ByteArray.size_extract]; omega
      have hL2 := hidi (show lexL (s.extract 0 q).data.toList = ((lexT (s.data.toList.take q)).1, none) by rw [lex_long hes2, ext_take, ← hC])
      clear hC hr hq
      go_enter Try.func6, Try.ntmps6
      go_wp2_with (go_at_call 8; refine (head_any _).mono ?_; rintro e w1 ⟨rfl, hb1⟩)
      refine (lex_err _ k q (by omega) hL.out _).mono ?_
      rintro e w2 ⟨rfl, hb2⟩
      have q0 : (0 : Int) ≤ (q : Int) := by omega
      have q1 : (q : Int) ≤ (s.size : Int) := by omega
      go_wp2_with fail
      refine (lex_ok _ _ hes2 hL2.out _).mono ?_
      rintro e w3 ⟨r3, rfl, ht3, hb3⟩
      go_wp2_with fail
      go_ret
      exact ⟨rfl, hb1.trans ((hb2.trans (hb3.mono hb2.size)).mono hb1.size)⟩
    | none =>
      have hL := hidi (show lexL s.data.toList = ((lexT s.data.toList).1, none) by rw [lex_long (by omega), ← hr])
      clear hr
      have hcut := hidi (lexT_cut_tok s.data.toList)
      obtain ⟨L, hLt⟩ : ∃ L, Hid ((lexT s.data.toList).1 = L) := ⟨_, rfl⟩
      go_enter Try.func6, Try.ntmps6
      go_wp2_with (go_at_call 8; refine (head_any _).mono ?_; rintro e w1 ⟨rfl, hb1⟩)
      refine (lex_ok _ _ (by omega) hL.out _).mono ?_
      rintro e w2 ⟨r2, rfl, ht2, hb2⟩
      by_cases h0 : (lexT s.data.toList).1.length = 0
      · obtain ⟨o2, c2, rfl⟩ := ht2.shape
        rw [h0]
        clear ht2
        go_wp2_with fail
        go_ret
        exact ⟨rfl, hb1.trans (hb2.mono hb1.size)⟩
      · obtain ⟨o2, c2, rfl⟩ := ht2.shape
        have hpos : 0 < (lexT s.data.toList).1.length := by omega
        have hz : ¬ ((lexT s.data.toList).1.length : Int) = 0 := by omega
        have hz2 : (((lexT s.data.toList).1.length : Int) == 0) = false := beq_eq_false_iff_ne.2 hz
        obtain ⟨-, b2, rfl, hlt2, hcap2, hcm2, hat2⟩ := ht2.at hpos
        obtain ⟨k, hk⟩ : ∃ k : Nat, raw.tmod ((lexT s.data.toList).1.length : Int) = (k : Int) ∧ k < (lexT s.data.toList).1.length := by
          have e1 : raw.tmod ((lexT s.data.toList).1.length : Int) = raw % ((lexT s.data.toList).1.length : Int) := Int.tmod_eq_emod_of_nonneg r0
          have e2 := Int.emod_nonneg raw hz
          have e3 := Int.emod_lt_of_pos raw (show (0 : Int) < ((lexT s.data.toList).1.length : Int) by omega)
          exact ⟨(raw % ((lexT s.data.toList).1.length : Int)).toNat, by omega, by omega⟩
        obtain ⟨hk1, hk2⟩ := hk
        obtain ⟨-, d1, d2⟩ := hat2 k hk2
        obtain ⟨a1, a2, a3⟩ := hcut.out k hk2
        generalize (lexT s.data.toList).1[k] = t at *
        have a2' : t.pos + t.text.length ≤ s.size := a2
        have hsz : (⟨t.text.toArray⟩ : ByteArray).size = t.text.length := by simp [ByteArray.size]
        have hsz' := hidi hsz
        have hL3 := hidi (show lexL (s.extract 0 (t.pos + t.text.length)).data.toList = ((lexT s.data.toList).1.take (k + 1), none) by
          rw [lex_long (by rw [ByteArray.size_extract]; omega), ext_take, a3])
        have hes2 : (s.extract 0 (t.pos + t.text.length)).size ≤ 6000 := by rw [ByteArray.size_extract]; omega
        have k0 : (0 : Int) ≤ (k : Int) := by omega
        have k1 : (k : Int) < ((lexT s.data.toList).1.length : Int) := by omega
        clear a3 a2 hat2 hcut hsz h0 hpos
        generalize (lexT s.data.toList).1 = LL at *
        go_wp2_with fail
        go_quiet (fail)
        go_wp2_with fail
        have hb2' := below_drewN hb2 nq
        have ht2' : Toks w2.heap.size (w2.drewN nq) _ LL := ht2.below (below_drewN (Below.refl _ _) nq) (Nat.le_refl _)
        have hzq : (w2.drewN nq).heap.size = w2.heap.size := by simp
        generalize w2.drewN nq = W2 at *
        refine (lex_ok _ _ hes2 hL3.out _).mono ?_
        rintro e w3 ⟨r3, rfl, ht3, hb3⟩
        obtain ⟨o3, c3, rfl⟩ := ht3.shape
        have hlk : (LL.take (k + 1)).length = k + 1 := by rw [List.length_take]; omega
        rw [hlk] at ht3 ⊢
        have ht2k := Toks.take (ht2'.below hb3 (by omega)) (k + 1) (by omega)
        have hz3 := hb3.size
        have k2 : (k : Int) + 1 ≤ (LL.length : Int) := by omega
        have k3 : (k : Int) + 1 ≤ (c2 : Int) := by omega
        clear ht2 ht2' hlk hL hL3
        go_wp2_with (go_at_call 14; refine (same_any w3.heap.size _ _ _ _ ht3 (ht2k.mono (by omega)) (Nat.le_refl _)).mono ?_; rintro e w4 ⟨rfl, hb4⟩)
        go_ret
        exact ⟨rfl, hb1.trans ((hb2'.trans ((hb3.trans (hb4.mono hb3.size)).mono hb2'.size)).mono hb1.size)⟩
  · have h1' : 3000 < s.size := by omega
    clear h1
    go_enter Try.func6, Try.ntmps6
    go_wp2_with (go_at_call 8; refine (head_any _).mono ?_; rintro e w1 ⟨rfl, hb1⟩)
    go_ret
    exact ⟨rfl, hb1⟩

end Go.Proofs.Ytplahgcbeanfnaa
