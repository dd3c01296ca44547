/-
  The contract of the law's head: the fixed examples come out as the law asks.
-/
import Derived.Test.YtplahgcbeanfnaaLxM
namespace Go.Proofs.Ytplahgcbeanfnaa
open Go.RowKit

/-- tokens and no error -/
def LexOk (l : List Tok) (w : World) (e : Ending) (w' : World) : Prop := ∃ r, e = .returned (.tuple #[r, .int .i64 0, .int .i64 (-1)]) ∧ Toks w'.heap.size w' r l ∧ Below w.heap.size w w'
theorem lex_ok (s : ByteArray) (l : List Tok) (hs : s.size ≤ 6000) (h : lexL s.data.toList = (l, none)) (w : World) : Calls Try.prog 9 #[.string s] w (LexOk l w) := by
  refine (lex_any s hs w).mono ?_
  rintro e w' ⟨hb, ⟨h0, r, rfl, ht⟩ | ⟨k, p, h0, rfl⟩⟩
  · rw [h] at ht; exact ⟨r, rfl, ht, hb⟩
  · rw [h] at h0; cases h0
theorem lex_err (s : ByteArray) (k p : Nat) (hs : s.size ≤ 6000) (h : (lexL s.data.toList).2 = some (k, p)) (w : World) : Calls Try.prog 9 #[.string s] w fun e w' =>
    e = .returned (.tuple #[.slice none 0 0, .int .i64 k, .int .i64 p]) ∧ Below w.heap.size w w' := by
  refine (lex_any s hs w).mono ?_
  rintro e w' ⟨hb, ⟨h0, r, rfl, ht⟩ | ⟨k', p', h0, rfl⟩⟩
  · rw [h] at h0; cases h0
  · rw [h] at h0; cases h0; exact ⟨rfl, hb⟩

def T1 : List Tok := [⟨1, [71], 0⟩, ⟨3, [40], 1⟩, ⟨1, [114], 2⟩, ⟨3, [45, 62], 3⟩, ⟨1, [70], 5⟩, ⟨3, [91], 6⟩, ⟨2, [51], 7⟩, ⟨3, [93], 8⟩, ⟨1, [103], 9⟩, ⟨3, [41], 10⟩]
def T2 : List Tok := [⟨1, [97], 0⟩, ⟨3, [33, 61], 1⟩, ⟨2, [49], 3⟩]
def T5 : List Tok := [⟨1, [70], 0⟩, ⟨1, [71], 1⟩, ⟨1, [120], 3⟩]
theorem e1 : lexL (⟨#[71, 40, 114, 45, 62, 70, 91, 51, 93, 103, 41]⟩ : ByteArray).data.toList = (T1, none) := by kernel_rfl
theorem e2 : lexL (⟨#[97, 33, 61, 49, 32, 37, 32, 101, 110, 100]⟩ : ByteArray).data.toList = (T2, none) := by kernel_rfl
theorem e3 : (lexL (⟨#[120, 32, 45, 32, 121]⟩ : ByteArray).data.toList).2 = some (40, 2) := by kernel_rfl
theorem e4 : (lexL (⟨#[49, 50, 97]⟩ : ByteArray).data.toList).2 = some (40, 0) := by kernel_rfl
theorem e5 : lexL (⟨#[70, 71, 32, 120]⟩ : ByteArray).data.toList = (T5, none) := by kernel_rfl
theorem e6 : lexL (⟨#[32, 37, 32, 110, 111, 116, 104, 105, 110, 103]⟩ : ByteArray).data.toList = ([], none) := by kernel_rfl

/-- the offsets that the head lays -/
def posV : Array Value := #[.int .i64 0, .int .i64 1, .int .i64 2, .int .i64 3, .int .i64 5, .int .i64 6, .int .i64 7, .int .i64 8, .int .i64 9, .int .i64 10]
theorem pos_at (k : Nat) (h : k < T1.length) : posV[k]? = some (.int .i64 (T1[k]).pos) := by
  have h' : k < 10 := h
  match k, h' with
  | 0, _ => rfl
  | 1, _ => rfl
  | 2, _ => rfl
  | 3, _ => rfl
  | 4, _ => rfl
  | 5, _ => rfl
  | 6, _ => rfl
  | 7, _ => rfl
  | 8, _ => rfl
  | 9, _ => rfl

set_option maxRecDepth 100000 in
set_option maxHeartbeats 4000000 in
theorem head_any (w : World) :
    Calls Try.prog 8 #[] w fun e w' => e = .returned (.bool true) ∧ Below w.heap.size w w' := by
  go_enter Try.func8, Try.ntmps8
  go_wp2_with fail
  refine (lex_ok _ T1 (by decide) e1 _).mono ?_
  rintro e w1 ⟨r1, rfl, ht1, hb1⟩
  obtain ⟨o1, c1, rfl⟩ := ht1.shape
  obtain ⟨n1, b1, rfl, hlt1, -, -, hat1⟩ := ht1.at (by decide)
  clear n1
  rw [show T1.length = 10 from rfl]
  have hk1 := hidi hat1
  clear hat1 ht1
  have hA := heap_alloc_new w1 (.cells posV 3)
  obtain ⟨W1, hW1⟩ : ∃ W1, Hid (w1.alloc (.cells posV 3) = W1) := ⟨_, rfl⟩
  rw [hW1.out] at hA
  have hB1 : Below w.heap.size w W1 := hb1.trans (by rw [← hW1.out]; exact (Below.refl _ _).alloc hb1.size _)
  have hB1' : Below w1.heap.size w1 W1 := by rw [← hW1.out]; exact (Below.refl _ _).alloc (Nat.le_refl _) _
  have hz1 : w1.heap.size < W1.heap.size := by rw [← hW1.out]; simp
  unfold posV at hW1
  go_wp2_with fail
  rw [hW1.out]
  go_loopw [5] (fun i wr => ∃ k : Nat, k ≤ 10 ∧ i = .int .i64 k ∧ Below W1.heap.size W1 wr) (fun i _ => 10 - (intOf i).toNat)
  case atStart => exact ⟨0, by decide, rfl, Below.refl _ _⟩
  case round =>
    obtain ⟨k, hk, rfl, hB⟩ := hrel
    by_cases hlt : k < 10
    · have hlt' : k < T1.length := hlt
      obtain ⟨-, -, q2⟩ := hk1.out k hlt'
      have d2 := (hB.cell (p := ⟨b1, k * 3 + 2, none⟩) (by show b1 < _; omega)).trans ((hB1'.cell (p := ⟨b1, k * 3 + 2, none⟩) hlt1).trans q2)
      have d3 := (hB.cell (p := ⟨w1.heap.size, k, none⟩) hz1).trans (cell_of_row W1 w1.heap.size k _ _ _ hA |>.trans (pos_at k hlt'))
      clear q2
      generalize (T1[k]).pos = z at *
      have p0 : (0 : Int) ≤ (k : Int) := by omega
      have p1 : (k : Int) < 10 := by omega
      clear hlt'
      go_wp2_with fail
      go_quiet (fail)
      go_wp2_with fail
      go_roundw
      case rel => exact ⟨k + 1, by omega, by go_num, below_drewN hB _⟩
      case measure => simp [intOf]; omega
    · obtain rfl : k = 10 := by omega
      obtain ⟨-, qa, -⟩ := hk1.out 3 (by decide)
      obtain ⟨qb, -, -⟩ := hk1.out 6 (by decide)
      have g3 : w1.cell? ⟨b1, 10, none⟩ = some (.string ⟨#[45, 62]⟩) := qa
      have g6 : w1.cell? ⟨b1, 18, none⟩ = some (.int .i64 2) := qb
      clear qa qb
      go_wp2_with fail
      refine (lex_ok _ T2 (by decide) e2 _).mono ?_
      rintro e w2 ⟨r2, rfl, ht2, hb2⟩
      obtain ⟨o2, c2, rfl⟩ := ht2.shape
      obtain ⟨n2, b2, rfl, hlt2, -, -, hat2⟩ := ht2.at (by decide)
      clear n2
      rw [show T2.length = 3 from rfl]
      obtain ⟨-, qa, -⟩ := hat2 1 (by decide)
      have g1 : w2.cell? ⟨b2, 4, none⟩ = some (.string ⟨#[33, 61]⟩) := qa
      clear qa hat2 ht2
      go_wp2_with fail
      refine (lex_err _ 40 2 (by decide) e3 _).mono ?_
      rintro e w3 ⟨rfl, hb3⟩
      go_wp2_with fail
      refine (lex_err _ 40 0 (by decide) e4 _).mono ?_
      rintro e w4 ⟨rfl, hb4⟩
      go_wp2_with fail
      refine (lex_ok _ T5 (by decide) e5 _).mono ?_
      rintro e w5 ⟨r5, rfl, ht5, hb5⟩
      obtain ⟨o5, c5, rfl⟩ := ht5.shape
      rw [show T5.length = 3 from rfl]
      clear ht5
      go_wp2_with fail
      refine (lex_ok _ [] (by decide) e6 _).mono ?_
      rintro e w6 ⟨r6, rfl, ht6, hb6⟩
      obtain ⟨o6, c6, rfl⟩ := ht6.shape
      rw [show ([] : List Tok).length = 0 from rfl]
      clear ht6
      have t2 := hb3.trans ((hb4.trans ((hb5.trans (hb6.mono hb5.size)).mono hb4.size)).mono hb3.size)
      have t1 := (hB1'.trans (hB.mono (by omega))).trans ((hb2.trans (t2.mono hb2.size)).mono (by have := hB.size; omega))
      have x3 := (t1.cell (p := ⟨b1, 10, none⟩) hlt1).trans g3
      have x6 := (t1.cell (p := ⟨b1, 18, none⟩) hlt1).trans g6
      have x1 := (t2.cell (p := ⟨b2, 4, none⟩) hlt2).trans g1
      have tw := hB1.trans ((hB.trans ((hb2.trans (t2.mono hb2.size)).mono hB.size)).mono hB1.size)
      clear g1 g3 g6 hb2 hb3 hb4 hb5 hb6 hk1 hA hB hB1 hB1' t1 t2 hW1
      go_wp2_with fail
      go_ret
      exact ⟨rfl, tw⟩

end Go.Proofs.Ytplahgcbeanfnaa
