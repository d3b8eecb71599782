/-
  Acts of the law: MACs. An act of the law, whichever it is; is it small?
-/
import Derived.Test.YtjklgmhaebjjaaaMgOsameMain29
import Derived.Test.YtjklgmhaebjjaaaMgOsameMain33
namespace Go.Proofs.Ytjklgmhaebjjaaa.S12
open S11
open Go.RowKit
set_option linter.unusedVariables false
set_option linter.unusedSimpArgs false

theorem bes_take {w : World} {F : Nat → Prop} {A : Option Addr} {n c : Nat} {l : List UInt8} (h : Bes w F A n c l) (k : Nat) (hk : k ≤ n) : Bes w F A k c (l.take k) := by
  obtain ⟨h1, h2, h3, h4⟩ := h
  refine ⟨h1.take k, by rw [List.length_take]; omega, by omega, fun x hx hl hf => h4 x hx (fun e => hl (by rw [e]; simp)) hf⟩
theorem bes_drop {w : World} {F : Nat → Prop} {A : Option Addr} {n c : Nat} {l : List UInt8} (h : Bes w F A n c l) (k : Nat) (A2 : Option Addr) (m d : Nat) (he : A2 = (if c = k then A else A.map (·.add k)) ∧ m = n - k ∧ d = c - k) (hk : k ≤ n) : Bes w F A2 m d (l.drop k) := by
  obtain ⟨rfl, rfl, rfl⟩ := he
  obtain ⟨h1, h2, h3, h4⟩ := h
  refine ⟨h1.cut (k := k) (cap := c) (by omega), by rw [List.length_drop]; omega, by omega, fun x hx hl hf => ?_⟩
  have hne : l ≠ [] := fun e => hl (by rw [e]; simp)
  by_cases hck : c = k
  · rw [if_pos hck] at hx
    exact h4 x hx hne hf
  · rw [if_neg hck] at hx
    cases A with
    | none => cases hx
    | some y =>
      simp only [Option.map_some, Option.some.injEq] at hx
      subst hx
      exact h4 y rfl hne (by
        have e : (y.add k).block = y.block := by unfold Addr.add; split <;> rfl
        rw [e] at hf
        exact hf)
/-- A region cut off from what follows: FF is all that is known behind it. -/
theorem reg_cut {P : Program} {id : Nat} {ops : Array Oper} {a : Act} {w : World} {Qx : Exit → Act → World → Prop} (FF : Nat → World → (Nat → Prop) → Prop) (act : Nat → Nat → Act) (h1 : ∀ Q2 : Exit → Act → World → Prop, (∀ gb gd v F1, FF gd v F1 → Q2 .normal (act gb gd) v) → (Code.region id ops true).wp P Q2 a w) (h2 : ∀ gb gd v F1, FF gd v F1 → Qx .normal (act gb gd) v) : (Code.region id ops true).wp P Qx a w := h1 Qx h2

end Go.Proofs.Ytjklgmhaebjjaaa.S12
namespace Go.Proofs.Ytjklgmhaebjjaaa.S12
open S11
open Go.RowKit
set_option linter.unusedVariables false
set_option linter.unusedSimpArgs false

/-- Is an act small? -/
def smallB (nk nx : Nat) (n : Int) : Bool := decide (nk ≤ 100 ∧ (nx ≤ 64 ∨ 1024 < nx ∧ nx < 1100) ∧ (n ≤ 200 ∨ 16320 < n))
end Go.Proofs.Ytjklgmhaebjjaaa.S12
