/-
  Formulas as plain trees.
-/
namespace Go.Proofs.YtbnnjbfbifihaaaGreatDoor

/-- a formula -/
inductive Fm where
  | mk (op : Int) (name : ByteArray) (val bound : Int) (args : List Fm)

namespace Fm
def op : Fm → Int | .mk o _ _ _ _ => o
def name : Fm → ByteArray | .mk _ n _ _ _ => n
def val : Fm → Int | .mk _ _ v _ _ => v
def bound : Fm → Int | .mk _ _ _ b _ => b
def args : Fm → List Fm | .mk _ _ _ _ a => a
theorem eta (f : Fm) : f = .mk f.op f.name f.val f.bound f.args := by cases f; rfl
@[ext] theorem ext {f g : Fm} (h1 : f.op = g.op) (h2 : f.name = g.name) (h3 : f.val = g.val) (h4 : f.bound = g.bound) (h5 : f.args = g.args) : f = g := by
  cases f; cases g; simp only [op, name, val, bound, args] at *; subst h1; subst h2; subst h3; subst h4; subst h5; rfl
theorem lt_of_mem {f g : Fm} (h : g ∈ f.args) : sizeOf g < sizeOf f := by
  cases f with
  | mk o n v b a =>
    have := List.sizeOf_lt_of_mem (show g ∈ a from h)
    simp only [mk.sizeOf_spec]
    omega
/-- induction over a formula's arguments -/
theorem ind {P : Fm → Prop} (h : ∀ f : Fm, (∀ g ∈ f.args, P g) → P f) (f : Fm) : P f := by
  have : ∀ n (f : Fm), sizeOf f ≤ n → P f := by
    intro n
    induction n with
    | zero => intro f hf; cases f; simp at hf
    | succ n ih => intro f hf; exact h f fun g hg => ih g (by have := lt_of_mem hg; omega)
  exact this _ f (Nat.le_refl _)
end Fm
/-- the zero formula -/
def zeroF : Fm := .mk 0 ⟨#[]⟩ 0 0 []

end Go.Proofs.YtbnnjbfbifihaaaGreatDoor
