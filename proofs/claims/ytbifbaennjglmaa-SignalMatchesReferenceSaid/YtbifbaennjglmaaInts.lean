/-
  The contract of the reference's Ints: whether two lists of numbers are equal.
-/
import Derived.Test.YtbifbaennjglmaaVals
import Derived.Deep.QuietTactic
import Derived.BigQuiet
namespace Go.Proofs.Ytbifbaennjglmaa
open Go.RowKit

theorem below_drewN {B : Nat} {a w : World} (h : Below B a w) (n : Nat) : Below B a (w.drewN n) := ⟨h.os, h.tape, h.output, h.size, h.block⟩

theorem IntsAt.shape {B : Nat} {w : World} {v : Value} {xs : List Int} (h : IntsAt B w v xs) : ∃ o c, v = .slice o xs.length c := by
  rcases h with ⟨o, c, rfl, rfl⟩ | ⟨b, off, cap, rfl, _⟩
  · exact ⟨_, _, rfl⟩
  · exact ⟨_, _, rfl⟩

/-- an element's place: the slice is not empty -/
theorem IntsAt.at {B : Nat} {w : World} {o : Option Addr} {c : Nat} {xs : List Int} (h : IntsAt B w (.slice o xs.length c) xs) (hx : 0 < xs.length) : ∃ b off, o = some ⟨b, off, none⟩ ∧ b < B ∧ xs.length ≤ c ∧ c ≤ 9223372036854775807 ∧
    ∀ k (h : k < xs.length), w.cell? ⟨b, off + k, none⟩ = some (.int .i64 xs[k]) ∧ -9223372036854775808 ≤ xs[k] ∧ xs[k] ≤ 9223372036854775807 := by
  rcases h with ⟨o', c', _, rfl⟩ | ⟨b, off, cap, hv, h1, h2, h3, h4⟩
  · simp at hx
  · cases hv
    exact ⟨b, off, rfl, h1, h2, h3, h4⟩

theorem IntsAt.len {B : Nat} {w : World} {v : Value} {xs : List Int} (h : IntsAt B w v xs) : xs.length ≤ 9223372036854775807 := by
  rcases h with ⟨o, c, rfl, rfl⟩ | ⟨b, off, cap, rfl, _, h2, h3, _⟩
  · simp
  · omega

set_option maxRecDepth 100000 in
set_option maxHeartbeats 1000000 in
theorem ints_any (B : Nat) (u v : Value) (xs ys : List Int) (w : World) (hx : IntsAt B w u xs) (hy : IntsAt B w v ys) (hBw : B ≤ w.heap.size) :
    Calls Try.prog 34 #[u, v] w fun e w' => e = .returned (.bool (decide (xs = ys))) ∧ Below w.heap.size w w' := by
  obtain ⟨o1, c1, rfl⟩ := hx.shape
  obtain ⟨o2, c2, rfl⟩ := hy.shape
  by_cases hlen : xs.length = ys.length
  · have hne : ((xs.length : Int) != (ys.length : Int)) = false := by simp [hlen]
    have hm := hx.len
    have hlen' := hidi hlen
    clear hlen
    go_enter Try.func34, Try.ntmps34
    go_wp2
    go_loopw [5] (fun i wr => ∃ k : Nat, k ≤ xs.length ∧ i = .int .i64 k ∧ Below w.heap.size w wr ∧ Hid (decide (xs = ys) = decide (xs.drop k = ys.drop k))) (fun i _ => xs.length - (intOf i).toNat)
    case atStart => exact ⟨0, Nat.zero_le _, rfl, Below.refl _ _, rfl⟩
    case round =>
      obtain ⟨k, hk, rfl, hB, hF⟩ := hrel
      by_cases hlt : k < xs.length
      · have hlt2 : k < ys.length := by have := hlen'.out; omega
        obtain ⟨b1, f1, rfl, hb1, -, -, hc1⟩ := hx.at (by omega)
        obtain ⟨b2, f2, rfl, hb2, -, -, hc2⟩ := hy.at (by omega)
        have d1 := (hB.cell (p := ⟨b1, f1 + k, none⟩) (Nat.lt_of_lt_of_le hb1 hBw)).trans (hc1 k hlt).1
        have d2 := (hB.cell (p := ⟨b2, f2 + k, none⟩) (Nat.lt_of_lt_of_le hb2 hBw)).trans (hc2 k hlt2).1
        have hS : Hid (decide (xs.drop k = ys.drop k) = (decide (xs[k] = ys[k]) && decide (xs.drop (k + 1) = ys.drop (k + 1)))) := by
          unfold Hid; rw [List.drop_eq_getElem_cons hlt, List.drop_eq_getElem_cons hlt2]; simp only [List.cons.injEq, Bool.decide_and]
        have g1 : (0 : Int) ≤ k := by omega
        have g2 : (k : Int) < xs.length := by omega
        have g3 : (k : Int) < ys.length := by omega
        cases heq : (xs[k] != ys[k])
        · go_wp2
          go_quiet (fail)
          go_wp2
          go_roundw
          case rel => exact ⟨k + 1, by omega, by go_num, below_drewN hB _, hF.out.trans (hS.out.trans (by simp at heq; simp [heq]))⟩
          case measure => simp [intOf]; omega
        · go_wp2
          go_quiet (fail)
          go_wp2
          go_ret
          exact ⟨ret_bool (by rw [hF.out, hS.out]; simp at heq; simp [heq]), below_drewN hB _⟩
      · go_wp2
        go_ret
        exact ⟨ret_bool (by rw [hF.out, List.drop_of_length_le (by omega), List.drop_of_length_le (by have := hlen'.out; omega)]; rfl), hB⟩
  · have hne : ((xs.length : Int) != (ys.length : Int)) = true := by simp; omega
    go_enter Try.func34, Try.ntmps34
    go_wp2
    go_ret
    exact ⟨ret_bool (by symm; simp; intro h; exact hlen (by rw [h])), Below.refl _ _⟩

end Go.Proofs.Ytbifbaennjglmaa
