/-
  The order of formulas, and that it is one.
-/
import Derived.Test.YtbnnjbfbifihaaaGreatDoorFmS
import GoSem.Op.String
namespace Go.Proofs.YtbnnjbfbifihaaaGreatDoor

/-- the first number that is not 0 -/
def orI (a b : Int) : Int := if a = 0 then b else a

/-- a comparison orders x among all others -/
structure Good {α : Type} (c : α → α → Int) (x : α) : Prop where
  lo : ∀ y, -1 ≤ c x y
  hi : ∀ y, c x y ≤ 1
  anti : ∀ y, c y x = - c x y
  eq : ∀ y, c x y = 0 ↔ x = y
  trans : ∀ y z, c x y ≤ 0 → c y z ≤ 0 → c x z ≤ 0

theorem Good.refl {α : Type} {c : α → α → Int} {x : α} (h : Good c x) : c x x = 0 := (h.eq x).2 rfl
/-- strict where one step is -/
theorem Good.strict {α : Type} {c : α → α → Int} {x y z : α} (hx : Good c x) (h1 : c x y ≤ 0) (h2 : c y z ≤ 0) (h : c x y < 0 ∨ c y z < 0) : c x z < 0 := by
  have h3 := hx.trans y z h1 h2
  by_cases h0 : c x z = 0
  · have e := (hx.eq z).1 h0
    subst e
    have := hx.anti y
    omega
  · omega

theorem good_or {α β : Type} {c : α → α → Int} {d : β → β → Int} {x : α} {u : β} (hx : Good c x) (hu : Good d u) : Good (fun p q : α × β => orI (c p.1 q.1) (d p.2 q.2)) (x, u) := by
  refine ⟨?_, ?_, ?_, ?_, ?_⟩
  · rintro ⟨y, v⟩; have := hx.lo y; have := hu.lo v; simp only [orI]; split <;> omega
  · rintro ⟨y, v⟩; have := hx.hi y; have := hu.hi v; simp only [orI]; split <;> omega
  · rintro ⟨y, v⟩; have h1 := hx.anti y; have h2 := hu.anti v; simp only [orI, h1, h2]
    by_cases h : c x y = 0
    · rw [if_pos h, if_pos (by omega)]
    · rw [if_neg h, if_neg (by omega)]
  · rintro ⟨y, v⟩
    have h1 := hx.eq y
    have h2 := hu.eq v
    simp only [orI, Prod.mk.injEq]
    by_cases h : c x y = 0
    · rw [if_pos h]; exact ⟨fun e => ⟨h1.1 h, h2.1 e⟩, fun e => h2.2 e.2⟩
    · rw [if_neg h]; exact ⟨fun e => absurd e h, fun e => h1.2 e.1⟩
  · rintro ⟨y, v⟩ ⟨z, t⟩
    simp only [orI]
    intro ha hb
    by_cases h1 : c x y = 0
    · rw [if_pos h1] at ha
      have e := (hx.eq y).1 h1
      subst e
      by_cases h2 : c x z = 0
      · rw [if_pos h2] at hb ⊢
        exact hu.trans v t ha hb
      · rw [if_neg h2] at hb ⊢; exact hb
    · rw [if_neg h1] at ha
      have hs : c x z < 0 := by
        refine hx.strict (y := y) ha ?_ (.inl (by omega))
        by_cases h2 : c y z = 0
        · omega
        · rw [if_neg h2] at hb; exact hb
      rw [if_neg (by omega)]
      omega

/-- two lists, element by element -/
def lexL {α : Type} (c : α → α → Int) : List α → List α → Int
  | [], [] => 0
  | [], _ :: _ => -1
  | _ :: _, [] => 1
  | x :: l, y :: m => orI (c x y) (lexL c l m)

theorem good_lex {α : Type} {c : α → α → Int} : ∀ {l : List α}, (∀ x ∈ l, Good c x) → Good (lexL c) l
  | [], _ => by
    refine ⟨?_, ?_, ?_, ?_, ?_⟩
    · intro y; cases y <;> simp [lexL]
    · intro y; cases y <;> simp [lexL]
    · intro y; cases y <;> simp [lexL]
    · intro y; cases y <;> simp [lexL]
    · intro y z; cases y <;> cases z <;> simp [lexL]
  | x :: l, h => by
    have g := good_or (h x (List.mem_cons_self ..)) (good_lex fun y hy => h y (List.mem_cons_of_mem _ hy))
    refine ⟨?_, ?_, ?_, ?_, ?_⟩
    · intro y; cases y with
      | nil => simp [lexL]
      | cons y m => exact g.lo (y, m)
    · intro y; cases y with
      | nil => simp [lexL]
      | cons y m => exact g.hi (y, m)
    · intro y; cases y with
      | nil => simp [lexL]
      | cons y m => exact g.anti (y, m)
    · intro y; cases y with
      | nil => simp [lexL]
      | cons y m =>
        have := g.eq (y, m)
        simp only [Prod.mk.injEq] at this
        rw [List.cons.injEq]; exact this
    · intro y z; cases y with
      | nil => simp [lexL]
      | cons y m =>
        cases z with
        | nil => simp [lexL]
        | cons z n => exact g.trans (y, m) (z, n)

theorem good_map {α β : Type} {c : α → α → Int} {f : β → α} {x : β} (h : Good c (f x)) (hf : ∀ y, f x = f y → x = y) : Good (fun p q => c (f p) (f q)) x :=
  ⟨fun y => h.lo _, fun y => h.hi _, fun y => h.anti _, fun y => ⟨fun e => hf y ((h.eq _).1 e), fun e => by subst e; exact h.refl⟩, fun y z => h.trans _ _⟩

/-- two numbers -/
def cmpI (a b : Int) : Int := if a < b then -1 else if b < a then 1 else 0
theorem good_int (a : Int) : Good cmpI a := by
  refine ⟨?_, ?_, ?_, ?_, ?_⟩
  · intro b; simp only [cmpI]; split <;> (try split) <;> omega
  · intro b; simp only [cmpI]; split <;> (try split) <;> omega
  · intro b; simp only [cmpI]; split <;> split <;> (try split) <;> omega
  · intro b; simp only [cmpI]; split <;> (try split) <;> omega
  · intro b d; simp only [cmpI]; split <;> split <;> (try split) <;> (try split) <;> (try split) <;> omega

/-- two bytes -/
def cmpU (a b : UInt8) : Int := cmpI a.toNat b.toNat
theorem good_u8 (a : UInt8) : Good cmpU a :=
  good_map (f := fun u : UInt8 => ((u.toNat : Nat) : Int)) (good_int _) fun y h => UInt8.toNat_inj.1 (by exact_mod_cast h)

/-- two lists of bytes -/
def cmpB (x y : List UInt8) : Int := if x == y then 0 else if Op.bytesLess x y then -1 else 1

theorem cmpB_lex : ∀ (x y : List UInt8), cmpB x y = lexL cmpU x y
  | [], [] => rfl
  | [], _ :: _ => rfl
  | _ :: _, [] => rfl
  | a :: x, b :: y => by
    have ih := cmpB_lex x y
    rw [lexL, ← ih]
    unfold cmpB orI cmpU cmpI
    simp only [Op.bytesLess, UInt8.lt_iff_toNat_lt]
    by_cases h : a = b
    · subst h
      simp
    · have hn : a.toNat ≠ b.toNat := fun e => h (UInt8.toNat_inj.1 e)
      have e1 : (a :: x == b :: y) = false := by simp [h]
      have e2 : (a == b) = false := by simpa using h
      rw [e1, e2]
      by_cases hl : a.toNat < b.toNat
      · have : (a.toNat : Int) < b.toNat := by omega
        simp [hl]
      · have h1 : ¬ (a.toNat : Int) < b.toNat := by omega
        have h2 : (b.toNat : Int) < a.toNat := by omega
        simp [hl, h2]

theorem good_bytes (x : List UInt8) : Good cmpB x := by
  have h := good_lex (c := cmpU) (l := x) fun a _ => good_u8 a
  have e : cmpB = lexL cmpU := by funext x y; exact cmpB_lex x y
  rw [e]; exact h

/-- two names -/
def cmpN (a b : ByteArray) : Int := cmpB a.toList b.toList
theorem bytes_inj {a b : ByteArray} (h : a.toList = b.toList) : a = b := by
  rw [ByteArray.toList_eq, ByteArray.toList_eq] at h
  cases a; cases b
  simp only [ByteArray.mk.injEq]
  exact Array.toList_inj.1 h
theorem good_name (a : ByteArray) : Good cmpN a := good_map (f := ByteArray.toList) (good_bytes _) fun _ h => bytes_inj h

/-- everything but the arguments -/
def cmpHead (f g : Fm) : Int := orI (cmpI f.op g.op) (orI (cmpN f.name g.name) (orI (cmpI f.val g.val) (orI (cmpI f.bound g.bound) (cmpI f.args.length g.args.length))))

mutual
/-- two formulas -/
def cmpF : Fm → Fm → Int
  | .mk o n v b a, g => orI (cmpHead (.mk o n v b a) g) (cmpL a g.args)
def cmpL : List Fm → List Fm → Int
  | [], [] => 0
  | [], _ :: _ => -1
  | _ :: _, [] => 1
  | x :: l, y :: m => orI (cmpF x y) (cmpL l m)
end
theorem cmpF_eq (f g : Fm) : cmpF f g = orI (cmpHead f g) (cmpL f.args g.args) := by cases f; rw [cmpF]; rfl
theorem cmpL_lex : ∀ (l m : List Fm), cmpL l m = lexL cmpF l m
  | [], [] => by rw [cmpL]; rfl
  | [], _ :: _ => by rw [cmpL]; rfl
  | _ :: _, [] => by rw [cmpL]; rfl
  | x :: l, y :: m => by rw [cmpL, lexL, cmpL_lex l m]

theorem orI_assoc (a b c : Int) : orI (orI a b) c = orI a (orI b c) := by
  unfold orI
  by_cases h : a = 0
  · simp [h]
  · simp [h]

theorem good_fm (f : Fm) : Good cmpF f := by
  induction f using Fm.ind with
  | h f ih =>
    have hL : Good cmpL f.args := by
      have h := good_lex (c := cmpF) ih
      have e : cmpL = lexL cmpF := by funext l m; exact cmpL_lex l m
      rw [e]; exact h
    have g := good_or (good_int f.op) (good_or (good_name f.name) (good_or (good_int f.val) (good_or (good_int f.bound) (good_or (good_int (f.args.length : Int)) hL))))
    have := good_map (f := fun h : Fm => (h.op, h.name, h.val, h.bound, (h.args.length : Int), h.args)) (x := f) g (fun y e => by
      simp only [Prod.mk.injEq] at e
      exact Fm.ext e.1 e.2.1 e.2.2.1 e.2.2.2.1 e.2.2.2.2.2)
    have e : cmpF = fun p q : Fm => orI (cmpI p.op q.op) (orI (cmpN p.name q.name) (orI (cmpI p.val q.val) (orI (cmpI p.bound q.bound) (orI (cmpI p.args.length q.args.length) (cmpL p.args q.args))))) := by
      funext p q
      rw [cmpF_eq]
      unfold cmpHead
      simp only [orI_assoc]
    rw [e]
    exact this

end Go.Proofs.YtbnnjbfbifihaaaGreatDoor
