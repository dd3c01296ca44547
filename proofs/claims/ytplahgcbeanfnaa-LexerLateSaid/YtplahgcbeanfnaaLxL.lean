/-
  The contracts of the lexer reference's Same and Alike at lists that are equal, or equal but for their offsets.
-/
import Derived.Test.YtplahgcbeanfnaaLxJ
import Derived.Test.YtplahgcbeanfnaaLxK
namespace Go.Proofs.Ytplahgcbeanfnaa
open Go.RowKit

theorem Toks.at {B : Nat} {w : World} {o : Option Addr} {n c : Nat} {l : List Tok} (h : Toks B w (.slice o n c) l) (h0 : 0 < l.length) : n = l.length ∧ ∃ b, o = some ⟨b, 0, none⟩ ∧ b < B ∧ l.length ≤ c ∧ c ≤ 9223372036854775807 ∧
    ∀ k (h : k < l.length), w.cell? ⟨b, k * 3, none⟩ = some (.int .i64 l[k].kind) ∧ w.cell? ⟨b, k * 3 + 1, none⟩ = some (.string ⟨l[k].text.toArray⟩) ∧ w.cell? ⟨b, k * 3 + 2, none⟩ = some (.int .i64 l[k].pos) := by
  rcases h with ⟨o', c', hv, rfl⟩ | ⟨b, cap, hv, h1, h2, h3, h4⟩
  · simp at h0
  · cases hv
    exact ⟨rfl, b, rfl, h1, h2, h3, h4⟩
theorem Toks.len {B : Nat} {w : World} {v : Value} {l : List Tok} (h : Toks B w v l) : l.length ≤ 9223372036854775807 := by
  rcases h with ⟨_, _, _, rfl⟩ | ⟨b, cap, hv, h1, h2, h3, h4⟩
  · simp
  · omega

set_option maxRecDepth 100000 in
set_option maxHeartbeats 1600000 in
theorem same_any (B : Nat) (u v : Value) (l : List Tok) (w : World) (hu : Toks B w u l) (hv : Toks B w v l) (hBw : B ≤ w.heap.size) :
    Calls Try.prog 14 #[u, v] w fun e w' => e = .returned (.bool true) ∧ Below w.heap.size w w' := by
  obtain ⟨o, c, rfl⟩ := hu.shape
  obtain ⟨o', c', rfl⟩ := hv.shape
  have hlen := hu.len
  go_enter Try.func14, Try.ntmps14
  go_wp2
  go_loopw [5] (fun i wr => ∃ k : Nat, k ≤ l.length ∧ i = .int .i64 k ∧ Below w.heap.size w wr) (fun i _ => l.length - (intOf i).toNat)
  case atStart => exact ⟨0, Nat.zero_le _, rfl, Below.refl _ _⟩
  case round =>
    obtain ⟨k, hk, rfl, hB⟩ := hrel
    by_cases hlt : k < l.length
    · obtain ⟨-, b, rfl, hb, hc1, hc2, hat⟩ := hu.at (by omega)
      obtain ⟨-, b', rfl, hb', hc1', hc2', hat'⟩ := hv.at (by omega)
      obtain ⟨c0, c1, c2⟩ := hat k hlt
      obtain ⟨e0, e1, e2⟩ := hat' k hlt
      have d0 := (hB.cell (p := ⟨b, k * 3, none⟩) (by show b < _; omega)).trans c0
      have d1 := (hB.cell (p := ⟨b, k * 3 + 1, none⟩) (by show b < _; omega)).trans c1
      have d2 := (hB.cell (p := ⟨b, k * 3 + 2, none⟩) (by show b < _; omega)).trans c2
      have g0 := (hB.cell (p := ⟨b', k * 3, none⟩) (by show b' < _; omega)).trans e0
      have g1 := (hB.cell (p := ⟨b', k * 3 + 1, none⟩) (by show b' < _; omega)).trans e1
      have g2 := (hB.cell (p := ⟨b', k * 3 + 2, none⟩) (by show b' < _; omega)).trans e2
      clear c0 c1 c2 e0 e1 e2 hat hat'
      have p0 : (0 : Int) ≤ (k : Int) := by omega
      have p1 : (k : Int) < (l.length : Int) := by omega
      generalize l[k] = t at *
      go_wp2_with fail
      go_quiet (fail)
      go_wp2_with fail
      go_roundw
      case rel => exact ⟨k + 1, by omega, by go_num, below_drewN hB _⟩
      case measure => simp [intOf]; omega
    · go_wp2
      go_ret
      exact ⟨rfl, hB⟩

set_option maxRecDepth 100000 in
set_option maxHeartbeats 1600000 in
theorem alike_any (B : Nat) (u v : Value) (l m : List Tok) (w : World) (hu : Toks B w u l) (hv : Toks B w v m) (hBw : B ≤ w.heap.size) (hlm : l.map (fun t => (t.kind, t.text)) = m.map (fun t => (t.kind, t.text))) :
    Calls Try.prog 13 #[u, v] w fun e w' => e = .returned (.bool true) ∧ Below w.heap.size w w' := by
  obtain ⟨o, c, rfl⟩ := hu.shape
  obtain ⟨o', c', rfl⟩ := hv.shape
  have hlen := hu.len
  have hll : l.length = m.length := by have := congrArg List.length hlm; simpa using this
  have hkt : ∀ k (h : k < l.length) (h' : k < m.length), m[k].kind = l[k].kind ∧ m[k].text = l[k].text := by
    intro k h h'
    have h1 : (l.map (fun t => (t.kind, t.text)))[k]? = (m.map (fun t => (t.kind, t.text)))[k]? := by rw [hlm]
    rw [List.getElem?_map, List.getElem?_map, List.getElem?_eq_getElem h, List.getElem?_eq_getElem h'] at h1
    simp at h1
    exact ⟨h1.1.symm, h1.2.symm⟩
  have hkt' := hidi hkt
  clear hkt hlm
  rw [← hll]
  have hll' := hidi hll
  rw [← hll] at hv
  clear hll
  go_enter Try.func13, Try.ntmps13
  go_wp2
  go_loopw [5] (fun i wr => ∃ k : Nat, k ≤ l.length ∧ i = .int .i64 k ∧ Below w.heap.size w wr) (fun i _ => l.length - (intOf i).toNat)
  case atStart => exact ⟨0, Nat.zero_le _, rfl, Below.refl _ _⟩
  case round =>
    obtain ⟨k, hk, rfl, hB⟩ := hrel
    by_cases hlt : k < l.length
    · obtain ⟨-, b, rfl, hb, hc1, hc2, hat⟩ := hu.at (by omega)
      obtain ⟨-, b', rfl, hb', hc1', hc2', hat'⟩ := hv.at (by have := hll'.out; omega)
      have hlt' : k < m.length := by have := hll'.out; omega
      obtain ⟨c0, c1, c2⟩ := hat k hlt
      obtain ⟨e0, e1, e2⟩ := hat' k hlt'
      rw [(hkt'.out k hlt hlt').1] at e0
      rw [(hkt'.out k hlt hlt').2] at e1
      have d0 := (hB.cell (p := ⟨b, k * 3, none⟩) (by show b < _; omega)).trans c0
      have d1 := (hB.cell (p := ⟨b, k * 3 + 1, none⟩) (by show b < _; omega)).trans c1
      have g0 := (hB.cell (p := ⟨b', k * 3, none⟩) (by show b' < _; omega)).trans e0
      have g1 := (hB.cell (p := ⟨b', k * 3 + 1, none⟩) (by show b' < _; omega)).trans e1
      clear c0 c1 c2 e0 e1 e2 hat hat' hkt' hlt'
      have p0 : (0 : Int) ≤ (k : Int) := by omega
      have p1 : (k : Int) < (l.length : Int) := by omega
      generalize l[k] = t at *
      go_wp2_with fail
      go_quiet (fail)
      go_wp2_with fail
      go_roundw
      case rel => exact ⟨k + 1, by omega, by go_num, below_drewN hB _⟩
      case measure => simp [intOf]; omega
    · go_wp2
      go_ret
      exact ⟨rfl, hB⟩

end Go.Proofs.Ytplahgcbeanfnaa
