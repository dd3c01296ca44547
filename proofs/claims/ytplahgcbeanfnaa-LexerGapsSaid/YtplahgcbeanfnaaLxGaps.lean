/-
  The walk of the law LexerGaps: it returns true, whatever the text and the numbers of the gaps are.
-/
import Derived.Test.YtplahgcbeanfnaaLxConcat
namespace Go.Proofs.Ytplahgcbeanfnaa
open Go.RowKit

theorem lawat_int (B : Nat) (v : Value) (xs : List Int) (i : Int) (w : World) (hv : BytesAt B w v xs) (h0 : 0 ≤ i) (hi : i ≤ 1000000) :
    Calls Try.prog 12 #[v, .int .i64 i] w (SomeByte w) := by
  obtain ⟨k, rfl⟩ := Int.eq_ofNat_of_zero_le h0
  exact lawat_any B v xs k w hv (by omega)
theorem join_more (y : ByteArray) (t : Tok) (n n0 k : Nat) (L : List Tok) (ns : List Nat) (hk : k < L.length) (hns : ns.length = k) (hy : y.data.toList = gapTxt n0 ++ joinR (L.take k) ns) (ht : L[k] = t) :
    (y ++ ⟨t.text.toArray⟩ ++ ⟨(gapTxt n).toArray⟩).data.toList = gapTxt n0 ++ joinR (L.take (k + 1)) (ns ++ [n]) := by
  rw [ByteArray.data_append, ByteArray.data_append, Array.toList_append, Array.toList_append, hy, List.take_succ_eq_append_getElem hk, ht, joinR_snoc _ _ _ _ (by rw [List.length_take, hns]; omega)]
  simp

set_option maxRecDepth 100000 in
set_option maxHeartbeats 8000000 in
theorem gaps_law_any (s : ByteArray) (v : Value) (xs : List Int) (w : World) (hv : BytesAt w.heap.size w v xs) :
    Calls Try.prog 4 #[.string s, v] w fun e w' => e = .returned (.bool true) ∧ Below w.heap.size w w' := by
  by_cases h1 : s.size ≤ 900
  · cases hr : (lexT s.data.toList).2 with
    | some x =>
      obtain ⟨k, q⟩ := x
      have hL := hidi (show (lexL s.data.toList).2 = some (k, q) by rw [lex_long (by omega), hr])
      obtain ⟨hk0, hk1⟩ := lexT_code hr
      clear hr
      go_enter Try.func4, Try.ntmps4
      go_wp2_with (go_at_call 8; refine (head_any _).mono ?_; rintro e w1 ⟨rfl, hb1⟩)
      refine (lex_err _ k q (by omega) hL.out _).mono ?_
      rintro e w2 ⟨rfl, hb2⟩
      go_wp2_with fail
      go_ret
      exact ⟨rfl, hb1.trans (hb2.mono hb1.size)⟩
    | none =>
      have hA : Hid (lexT s.data.toList = ((lexT s.data.toList).1, none)) := by unfold Hid; rw [← hr]
      have hJ := hidi (lexT_join s.data.toList hr)
      have hJs := hidi (join_size s.data.toList)
      clear hr
      generalize (lexT s.data.toList).1 = L at hA hJ hJs
      have hLL := hidi (show lexL s.data.toList = (L, none) by rw [lex_long (by omega), hA.out])
      have hcnt := toks_count hA.out
      have hL9 : L.length ≤ 900 := by have e : s.data.toList.length = s.size := rfl; omega
      clear hcnt
      go_enter Try.func4, Try.ntmps4
      go_wp2_with (go_at_call 8; refine (head_any _).mono ?_; rintro e w1 ⟨rfl, hb1⟩)
      refine (lex_ok _ _ (by omega) hLL.out _).mono ?_
      rintro e w2 ⟨r2, rfl, ht2, hb2⟩
      obtain ⟨o2, c2, rfl⟩ := ht2.shape
      have hB2 : Below w.heap.size w w2 := hb1.trans (hb2.mono hb1.size)
      have hv2 := hv.below hB2 (Nat.le_refl _)
      go_wp2_with fail
      refine (lawat_int _ _ _ _ _ hv2 (by omega) (by omega)).mono ?_
      rintro e w3 ⟨z, rfl, z0, z1, hb3⟩
      go_wp2_with fail
      refine (lawgap_any z _ z0 z1).mono ?_
      rintro e w4 ⟨rfl, hb4⟩
      have hB4 : Below w2.heap.size w2 w4 := hb3.trans (hb4.mono hb3.size)
      clear hb3 hb4
      obtain ⟨y0, hy0⟩ : ∃ y : ByteArray, Hid ((⟨(gapTxt (z % 5).toNat).toArray⟩ : ByteArray) = y) := ⟨_, rfl⟩
      have hy0' : Hid (y0.data.toList = gapTxt (z % 5).toNat ++ joinR (L.take 0) []) := by unfold Hid; rw [← hy0.out]; simp [joinR]
      rw [hy0.out]
      go_wp2_with fail
      go_loopw [9, 10] (fun x i wr => ∃ (k n0 : Nat) (y : ByteArray) (ns : List Nat), k ≤ L.length ∧ x = .string y ∧ i = .int .i64 k ∧ ns.length = k ∧ Hid (y.data.toList = gapTxt n0 ++ joinR (L.take k) ns) ∧ Below w2.heap.size w2 wr) (fun _ i _ => L.length - (intOf i).toNat)
      case atStart => exact ⟨0, _, y0, [], Nat.zero_le _, rfl, rfl, rfl, hy0', hB4⟩
      case round =>
        obtain ⟨k, n0, y, ns, hk, rfl, rfl, hns, hy, hB⟩ := hrel
        have hyb : y.size ≤ 4 + 5 * 900 := by
          have := hJs.out n0 k ns
          rw [← hy.out] at this
          have e1 : s.data.toList.length = s.size := rfl
          have e2 : y.data.toList.length = y.size := rfl
          omega
        have hns' := hidi hns
        clear hns
        by_cases hlt : k < L.length
        · obtain ⟨-, b, rfl, hb, hc1, hc2, hat⟩ := ht2.at (by omega)
          obtain ⟨-, q1, -⟩ := hat k hlt
          have g1 := (hB.cell (p := ⟨b, k * 3 + 1, none⟩) (by show b < _; omega)).trans q1
          have hLk : Hid (∃ t, L[k] = t) := ⟨_, rfl⟩
          have hmore := fun n => hidi (join_more y L[k] n n0 k L ns hlt hns'.out hy.out rfl)
          have hmore' := hidi hmore
          have htl : L[k].text.length ≤ 900 := by
            have := lexT_cut_tok s.data.toList k (by rw [hA.out]; exact hlt)
            obtain ⟨-, h, -⟩ := this
            have e : (lexT s.data.toList).1[k]'(by rw [hA.out]; exact hlt) = L[k] := by simp only [hA.out]
            rw [e] at h
            have e2 : s.data.toList.length = s.size := rfl
            omega
          clear hmore q1 hat
          generalize L[k] = t at *
          have k0 : (0 : Int) ≤ (k : Int) := by omega
          have k1 : (k : Int) < (L.length : Int) := by omega
          have x0 : IntKind.i64.wrap ((k : Int) + 1) = (k : Int) + 1 := IntWalk.i64_in _ (by omega)
          have hbw : b < wr.heap.size := Nat.lt_of_lt_of_le hb hB.size
          have hvr := (hv2.below hB hB2.size)
          have s1 : ¬ (9223372036854775807 < y.size + t.text.length) := by omega
          have s2 : ∀ n, ¬ (9223372036854775807 < y.size + t.text.length + (gapTxt n).length) := fun n => by have := gapTxt_len n; omega
          have hwr := Nat.le_trans hB2.size hB.size
          go_wp2_with fail
          go_region_held3 (fun W => W.cell? ⟨b, k * 3 + 1, none⟩ = some (.string ⟨t.text.toArray⟩) ∧ Below wr.heap.size wr W) (first | exact ⟨g1, (Below.refl _ _).drew⟩ | exact ⟨(hb9.cell (p := ⟨b, k * 3 + 1, none⟩) (Nat.lt_of_lt_of_le hbw q2.size)).trans q1, q2.trans (hb9.mono q2.size)⟩)
            (first | (obtain ⟨q1, q2⟩ : _ ∧ Below wr.heap.size wr _ := (by assumption); go_at_call 12; refine (lawat_int w.heap.size _ xs _ _ (hvr.below q2 hwr) (by omega) (by omega)).mono ?_; rintro e w5 ⟨z5, rfl, z50, z51, hb9⟩) | (obtain ⟨q1, q2⟩ : _ ∧ Below wr.heap.size wr _ := (by assumption); go_at_call 11; refine (lawgap_any _ _ z50 z51).mono ?_; rintro e w6 ⟨rfl, hb9⟩))
          obtain ⟨-, q3⟩ : _ ∧ Below wr.heap.size wr w6 := (by assumption)
          have hB6 := hB.trans (q3.mono hB.size)
          obtain ⟨n5, hn5⟩ : ∃ n, Hid ((z5 % 5).toNat = n) := ⟨_, rfl⟩
          rw [hn5.out]
          have hy5 := hmore'.out n5
          obtain ⟨y5, hy5y⟩ : ∃ y5, Hid (y ++ ⟨t.text.toArray⟩ ++ ⟨(gapTxt n5).toArray⟩ = y5) := ⟨_, rfl⟩
          rw [hy5y.out] at hy5 ⊢
          clear s1 s2 x0
          go_wp2_with fail
          go_roundw
          case rel => exact ⟨k + 1, n0, y5, ns ++ [n5], by omega, rfl, by go_num, by rw [List.length_append, hns'.out]; rfl, hy5, hB6⟩
          case measure => simp [intOf]; omega
        · obtain rfl : k = L.length := by omega
          have hyT : Hid (y.data.toList = gapTxt n0 ++ joinR L ns) := by unfold Hid; rw [hy.out, List.take_length]
          obtain ⟨j1, j2⟩ := hJ.out n0 ns hns'.out
          rw [← hyT.out] at j1 j2
          have hLy := hidi (show lexL y.data.toList = ((lexT y.data.toList).1, none) by rw [lex_long (by omega), ← j1])
          clear j1
          generalize (lexT y.data.toList).1 = M at j2 hLy
          have j2' := hidi j2
          clear j2
          have tA := (ht2.below hB (Nat.le_refl _)).mono hB.size
          go_wp2_with fail
          refine (lex_ok _ _ (by omega) hLy.out _).mono ?_
          rintro e w6 ⟨r6, rfl, ht6, hb6⟩
          obtain ⟨o6, c6, rfl⟩ := ht6.shape
          have tA6 := (tA.below hb6 (Nat.le_refl _)).mono hb6.size
          clear tA ht2
          go_wp2_with (go_at_call 13; refine (alike_any w6.heap.size _ _ _ _ _ tA6 ht6 (Nat.le_refl _) j2'.out).mono ?_; rintro e w7 ⟨rfl, hb7⟩)
          go_ret
          exact ⟨rfl, hB2.trans ((hB.trans ((hb6.trans (hb7.mono hb6.size)).mono hB.size)).mono hB2.size)⟩
  · have h1' : 900 < s.size := by omega
    clear h1
    have hsh : ∃ o c, v = .slice o xs.length c := by
      rcases hv with ⟨o, c, rfl, rfl⟩ | ⟨b, off, cap, rfl, _⟩
      · exact ⟨_, _, rfl⟩
      · exact ⟨_, _, rfl⟩
    obtain ⟨o, c, rfl⟩ := hsh
    go_enter Try.func4, Try.ntmps4
    go_wp2_with (go_at_call 8; refine (head_any _).mono ?_; rintro e w1 ⟨rfl, hb1⟩)
    go_ret
    exact ⟨rfl, hb1⟩

end Go.Proofs.Ytplahgcbeanfnaa
