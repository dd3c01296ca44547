/-
  What FormulaExpansion says of positive forms: the two sides of each row have the same.
-/
import Derived.Test.YtlkoacopknolnaaGreatDoorFmG
namespace Go.Proofs.YtlkoacopknolnaaGreatDoor

theorem exp_within (f : Fm) {n : Int} (h : 0 ≤ n) : formP (.mk 13 ⟨#[]⟩ 0 (n + 1) [f]) false = formP (.mk 6 ⟨#[]⟩ 0 0 [f, .mk 8 ⟨#[]⟩ 0 0 [.mk 13 ⟨#[]⟩ 0 n [f]]]) false := by
  have e : (n + 1).toNat = n.toNat + 1 := by omega
  simp [formP, formPL, formN, mkOp, repF, e]
theorem exp_during (f : Fm) {n : Int} (h : 0 ≤ n) : formP (.mk 14 ⟨#[]⟩ 0 (n + 1) [f]) false = formP (.mk 5 ⟨#[]⟩ 0 0 [f, .mk 8 ⟨#[]⟩ 0 0 [.mk 14 ⟨#[]⟩ 0 n [f]]]) false := by
  have e : (n + 1).toNat = n.toNat + 1 := by omega
  simp [formP, formPL, formN, mkOp, repF, e]
theorem exp_imp (f g : Fm) : formP (.mk 7 ⟨#[]⟩ 0 0 [f, g]) false = formP (.mk 6 ⟨#[]⟩ 0 0 [.mk 4 ⟨#[]⟩ 0 0 [f], g]) false := by
  simp [formP, formPL, formN, mkOp]
theorem exp_globally (f : Fm) : formP (.mk 4 ⟨#[]⟩ 0 0 [.mk 12 ⟨#[]⟩ 0 0 [f]]) false = formP (.mk 11 ⟨#[]⟩ 0 0 [.mk 4 ⟨#[]⟩ 0 0 [f]]) false := by
  simp [formP, formPL, formN, mkOp]
theorem exp_hist (f : Fm) : formP (.mk 4 ⟨#[]⟩ 0 0 [.mk 19 ⟨#[]⟩ 0 0 [f]]) false = formP (.mk 18 ⟨#[]⟩ 0 0 [.mk 4 ⟨#[]⟩ 0 0 [f]]) false := by
  simp [formP, formPL, formN, mkOp, mkLate]
theorem exp_until (f g : Fm) : formP (.mk 4 ⟨#[]⟩ 0 0 [.mk 9 ⟨#[]⟩ 0 0 [f, g]]) false = formP (.mk 10 ⟨#[]⟩ 0 0 [.mk 4 ⟨#[]⟩ 0 0 [f], .mk 4 ⟨#[]⟩ 0 0 [g]]) false := by
  simp [formP, formPL, formN, mkOp, dualN]
theorem exp_finally (f : Fm) : formP (.mk 11 ⟨#[]⟩ 0 0 [f]) false = formP (.mk 9 ⟨#[]⟩ 0 0 [.mk 1 ⟨#[]⟩ 0 0 [], f]) false := by
  simp [formP, formPL, formN, mkOp]
theorem exp_since (f g : Fm) (v : Int) : formP (.mk 4 ⟨#[]⟩ 0 0 [.mk 16 ⟨#[]⟩ v 0 [f, g]]) false = formP (.mk 17 ⟨#[]⟩ (1 - v) 0 [.mk 4 ⟨#[]⟩ 0 0 [f], .mk 4 ⟨#[]⟩ 0 0 [g]]) false := by
  simp [formP, formPL, formN, mkLate, dualN]
theorem exp_once (f : Fm) : formP (.mk 18 ⟨#[]⟩ 0 0 [f]) false = formP (.mk 16 ⟨#[]⟩ 0 0 [.mk 1 ⟨#[]⟩ 0 0 [], f]) false := by
  simp [formP, formPL, formN, mkOp, mkLate]

end Go.Proofs.YtlkoacopknolnaaGreatDoor
