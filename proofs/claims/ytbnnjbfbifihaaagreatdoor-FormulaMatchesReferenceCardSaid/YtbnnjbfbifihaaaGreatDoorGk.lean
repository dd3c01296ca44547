/-
  Contracts that the formula laws stand on, part Gk.
-/
import Derived.Test.YtbnnjbfbifihaaaGreatDoorGx
import Derived.Test.YtbnnjbfbifihaaaGreatDoorGi
import Derived.Test.YtbnnjbfbifihaaaGreatDoorGj

/-
  The formulas that the law's head names, what its functions make of them, and what its regions' operations hand back.
-/
namespace Go.Proofs.YtbnnjbfbifihaaaGreatDoor
open Go.RowKit

def hA : Fm := .mk 3 ⟨#[97]⟩ 1 0 []
def hB : Fm := .mk 3 ⟨#[98]⟩ 1 0 []
def hNA : Fm := .mk 4 ⟨#[]⟩ 0 0 [hA]
def hX : Fm := .mk 9 ⟨#[]⟩ 0 0 [fTrue, hNA]
def hXA : Fm := .mk 8 ⟨#[]⟩ 0 0 [hA]
def hO1 : Fm := .mk 6 ⟨#[]⟩ 0 0 [hA, hXA]
def hX1 : Fm := .mk 8 ⟨#[]⟩ 0 0 [hO1]
def hY : Fm := .mk 6 ⟨#[]⟩ 0 0 [hA, hX1]
def hAB : Fm := .mk 5 ⟨#[]⟩ 0 0 [hA, hB]
def hBAB : Fm := .mk 5 ⟨#[]⟩ 0 0 [hB, hAB]
def hC0 : Fm := .mk 5 ⟨#[]⟩ 0 0 [hBAB, fTrue]
def hN : Fm := .mk 15 ⟨#[]⟩ 1 0 [hNA]
def hXB : Fm := .mk 8 ⟨#[]⟩ 0 0 [hB]
def hP : Fm := .mk 16 ⟨#[]⟩ 0 0 [hA, hXB]
def hOab : Fm := .mk 6 ⟨#[]⟩ 0 0 [hA, hB]
def hI : Fm := .mk 7 ⟨#[]⟩ 0 0 [hB, hOab]
def hGA : Fm := .mk 12 ⟨#[]⟩ 0 0 [hA]
def hK1 : Fm := .mk 4 ⟨#[]⟩ 0 0 [hGA]
def hK2 : Fm := .mk 13 ⟨#[]⟩ 0 2 [hA]
def hK3 : Fm := .mk 11 ⟨#[]⟩ 0 0 [zeroF]
def hFab : Fm := .mk 11 ⟨#[]⟩ 0 0 [hAB]
def hK4 : Fm := .mk 13 ⟨#[]⟩ 0 9 [hFab]
def hYA : Fm := .mk 15 ⟨#[]⟩ 0 0 [hA]
def hNT : Fm := .mk 4 ⟨#[]⟩ 0 0 [fTrue]

theorem hd_cmp : cmpF hA hB = -1 := by decide +kernel
theorem hd_canon : canonTop hC0 = hAB := cmpF_eq0.1 (by decide +kernel)
theorem hd_or : combineF 6 [hA, hNA] = fTrue := cmpF_eq0.1 (by decide +kernel)
theorem hd_not : notF hYA = hN := cmpF_eq0.1 (by decide +kernel)
theorem hd_names : namesF hI = [⟨#[97]⟩, ⟨#[98]⟩] := by decide +kernel
theorem hd_k1 : kernelF hK1 = (hX, 0) := Prod.ext (cmpF_eq0.1 (by decide +kernel)) (by decide +kernel)
theorem hd_k2 : kernelF hK2 = (hY, 0) := Prod.ext (cmpF_eq0.1 (by decide +kernel)) (by decide +kernel)
theorem hd_k3 : (kernelF hK3).2 = 30 := by decide +kernel
theorem hd_k4 : (kernelF hK4).2 = 2 := by decide +kernel
theorem hd_sig : validB [⟨⟨#[97]⟩, false, 2⟩] = true := by decide +kernel
theorem hd_p1 : fvalidB hP = true := by decide +kernel
theorem hd_p2 : layB hP = false := by decide +kernel
theorem hd_p3 : pastB hP = false := by decide +kernel
theorem hd_p4 : hP.nodes = 4 := by decide +kernel
theorem hd_p5 : kernelB hX = true := by decide +kernel
theorem hd_p6 : kernelB hNT = false := by decide +kernel

/-- a formula in a block of its own -/
def BoxF (n0 : Nat) (W : World) (k : Nat) (f : Fm) (o : Option Addr) (c : Nat) : Prop := k < n0 ∧ Cells5 W k 0 (.int .i64 f.op) (.string f.name) (.int .i64 f.val) (.int .i64 f.bound) (.slice o f.args.length c) ∧ Fits f ∧ FArgs n0 W (.slice o f.args.length c) f.args
theorem BoxF.next {n0 : Nat} {W W' : World} {k : Nat} {f : Fm} {o : Option Addr} {c : Nat} (h : BoxF n0 W k f o c) (hn : n0 ≤ W.heap.size) (hB : Below W.heap.size W W') : BoxF n0 W' k f o c :=
  ⟨h.1, h.2.1.below hB (Nat.lt_of_lt_of_le h.1 hn), h.2.2.1, h.2.2.2.kept hB hn⟩
theorem BoxF.up {n0 n1 : Nat} {W : World} {k : Nat} {f : Fm} {o : Option Addr} {c : Nat} (h : BoxF n0 W k f o c) (hn : n0 ≤ n1) : BoxF n1 W k f o c :=
  ⟨Nat.lt_of_lt_of_le h.1 hn, h.2.1, h.2.2.1, h.2.2.2.mono hn⟩

theorem strs_ab (W : World) (Ok : Nat → Prop) (hOk : ∀ b, W.heap.size ≤ b → Ok b) : (Fq.strsF [⟨#[97]⟩, ⟨#[98]⟩]).holds Ok (.slice (some ⟨W.heap.size, 0, none⟩) 2 2) (W.alloc (.cells #[.string ⟨#[97]⟩, .string ⟨#[98]⟩] 9)) := by
  refine .inr ⟨W.heap.size, 0, 2, rfl, ⟨by simp, hOk _ (Nat.le_refl _)⟩, Nat.le_refl _, by decide, fun k hk => ?_⟩
  have h := heap_alloc_new W (.cells #[.string ⟨#[97]⟩, .string ⟨#[98]⟩] 9)
  match k, hk with
  | 0, _ => exact ⟨cell_of_row _ _ 0 _ _ _ h, show ByteArray.size ⟨#[97]⟩ ≤ 9223372036854775807 by decide⟩
  | 1, _ => exact ⟨cell_of_row _ _ 1 _ _ _ h, show ByteArray.size ⟨#[98]⟩ ≤ 9223372036854775807 by decide⟩
theorem sigs_a (W : World) : (Fq.sigsF [⟨⟨#[97]⟩, false, 2⟩]).holds (fun _ => True) (.slice (some ⟨W.heap.size, 0, none⟩) 1 1) (W.alloc (.cells #[.string ⟨#[97]⟩, .bool false, .int .i64 2] 51)) := by
  refine .inr ⟨W.heap.size, 0, 1, rfl, by simp, Nat.le_refl _, by decide, fun k hk => ?_⟩
  have h := heap_alloc_new W (.cells #[.string ⟨#[97]⟩, .bool false, .int .i64 2] 51)
  obtain rfl : k = 0 := by simpa using hk
  exact ⟨cell_of_row _ _ 0 _ _ _ h, cell_of_row _ _ 1 _ _ _ h, cell_of_row _ _ 2 _ _ _ h, show ByteArray.size ⟨#[97]⟩ ≤ 9223372036854775807 by decide, show (-9223372036854775808 : Int) ≤ 2 by decide, show (2 : Int) ≤ 9223372036854775807 by decide⟩

def Fs7 : Nat → Fq
  | 0 => .valF (.int .i64 0)
  | 1 => .boolF true
  | 2 => .boolF true
  | 3 => .fmF hX
  | 4 => .fmF fTrue
  | 5 => .fmF hA
  | 6 => .fmF hNA
  | 7 => .fmF hX
  | 8 => .boolF true
  | 9 => .boolF true
  | 10 => .boolF true
  | 11 => .valF (.int .i64 0)
  | 12 => .boolF true
  | 13 => .boolF true
  | 14 => .boolF true
  | 15 => .fmF hY
  | 16 => .fmF hA
  | 17 => .fmF hA
  | 18 => .fmF hA
  | 19 => .fmF hXA
  | 20 => .fmF hO1
  | 21 => .fmF hX1
  | 22 => .fmF hY
  | 23 => .boolF true
  | 24 => .boolF true
  | 25 => .boolF true
  | 26 => .valF (.int .i64 30)
  | 27 => .boolF true
  | 28 => .boolF true
  | 29 => .boolF true
  | 30 => .valF (.int .i64 2)
  | 31 => .boolF true
  | 32 => .boolF true
  | 33 => .boolF true
  | _ => .free

def Fs8 : Nat → Fq
  | 0 => .fmF hB
  | 1 => .fmF hA
  | 2 => .fmF hB
  | 3 => .fmF hAB
  | 4 => .fmF hBAB
  | 5 => .fmF fTrue
  | 6 => .fmF hC0
  | 7 => .fmF hAB
  | 8 => .free
  | 9 => .free
  | _ => .free

def Fs9 : Nat → Fq
  | 0 => .fmF hA
  | 1 => .fmF hA
  | 2 => .fmF hNA
  | 3 => .fmsF [hA, hNA]
  | 4 => .fmF fTrue
  | 5 => .free
  | 6 => .free
  | _ => .free

def Fs11 (k13 : Nat) : Nat → Fq
  | 0 => .fmF hAB
  | 1 => .fmF hA
  | 2 => .fmF hB
  | 3 => .fmF hAB
  | 4 => .boolF true
  | 5 => .boolF true
  | 6 => .valF (.pointer (some ⟨k13, 0, none⟩))
  | 7 => .valF (.int .i64 1)
  | 8 => .boolF true
  | 9 => .boolF true
  | 10 => .boolF true
  | 11 => .fmF hN
  | 12 => .fmF hA
  | 13 => .fmF hNA
  | 14 => .fmsF [hNA]
  | 15 => .fmF hN
  | 16 => .boolF true
  | 17 => .boolF true
  | 18 => .boolF true
  | 19 => .fmF hA
  | 20 => .fmF hB
  | 21 => .valF (.int .i64 (-1))
  | 22 => .boolF true
  | 23 => .boolF true
  | 24 => .boolF true
  | 25 => .fmF hB
  | 26 => .fmF hB
  | 27 => .valF (.int .i64 0)
  | 28 => .boolF true
  | 29 => .boolF true
  | 30 => .boolF true
  | _ => .free

def Fs12 : Nat → Fq
  | 0 => .fmF hA
  | 1 => .fmF hB
  | 2 => .fmF hXB
  | 3 => .fmsF [hA, hXB]
  | 4 => .fmF hP
  | 5 => .free
  | 6 => .free
  | _ => .free

def Fs14 : Nat → Fq
  | 0 => .boolF true
  | 1 => .boolF true
  | 2 => .boolF true
  | 3 => .boolF true
  | 4 => .boolF true
  | 5 => .boolF true
  | 6 => .boolF true
  | 7 => .boolF true
  | 8 => .fmF hB
  | 9 => .fmF hA
  | 10 => .fmF hB
  | 11 => .fmF hOab
  | 12 => .fmF hI
  | 13 => .strsF [⟨#[97]⟩, ⟨#[98]⟩]
  | 14 => .strsF [⟨#[97]⟩, ⟨#[98]⟩]
  | 15 => .boolF true
  | 16 => .boolF true
  | 17 => .boolF true
  | 18 => .valF (.agg #[.string ⟨#[97]⟩, .bool false, .int .i64 2])
  | 19 => .sigsF [⟨⟨#[97]⟩, false, 2⟩]
  | 20 => .boolF true
  | 21 => .boolF true
  | 22 => .boolF true
  | _ => .free

end Go.Proofs.YtbnnjbfbifihaaaGreatDoor
