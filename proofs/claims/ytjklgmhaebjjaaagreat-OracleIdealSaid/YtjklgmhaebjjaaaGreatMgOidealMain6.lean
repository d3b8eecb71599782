/-
  What a slice of byte slices reads as.
-/
import Derived.Test.YtjklgmhaebjjaaaGreatMgOidealMain3
namespace Go.Proofs.YtjklgmhaebjjaaaGreat
open Go.RowKit
set_option linter.unusedVariables false

/-- The slice at A reads as the pieces ls. -/
def RdL (w : World) (B : Nat) (A : Option Addr) (ls : List (List UInt8)) : Prop :=
  ls = [] ∨ ∃ b off, A = some ⟨b, off, none⟩ ∧ b < B ∧ ∀ j (h : j < ls.length), ∃ A' c', w.cell? ⟨b, off + j, none⟩ = some (.slice A' ls[j].length c') ∧ ls[j].length ≤ c' ∧ Rd w B A' ls[j]
theorem RdL.keep {w w' : World} {B : Nat} {A : Option Addr} {ls : List (List UInt8)} (h : RdL w B A ls) (hb : Below B w w') : RdL w' B A ls := by
  rcases h with h | ⟨b, off, e, hbB, hc⟩
  · exact .inl h
  · refine .inr ⟨b, off, e, hbB, fun j hj => ?_⟩
    obtain ⟨A', c', h1, h2, h3⟩ := hc j hj
    exact ⟨A', c', (hb.cell (p := ⟨b, off + j, none⟩) hbB).trans h1, h2, h3.below hb⟩
theorem RdL.more {w : World} {B B' : Nat} {A : Option Addr} {ls : List (List UInt8)} (h : RdL w B A ls) (hB : B ≤ B') : RdL w B' A ls := by
  rcases h with h | ⟨b, off, e, hbB, hc⟩
  · exact .inl h
  · refine .inr ⟨b, off, e, by omega, fun j hj => ?_⟩
    obtain ⟨A', c', h1, h2, h3⟩ := hc j hj
    exact ⟨A', c', h1, h2, h3.more hB⟩
theorem RdL.at_ {w : World} {B : Nat} {A : Option Addr} {ls : List (List UInt8)} (h : RdL w B A ls) {k : Nat} (hk : k < ls.length) :
    ∃ b off A' c', A = some ⟨b, off, none⟩ ∧ b < B ∧ w.cell? ⟨b, off + k, none⟩ = some (.slice A' ls[k].length c') ∧ ls[k].length ≤ c' ∧ Rd w B A' ls[k] := by
  rcases h with rfl | ⟨b, off, e, hb, hc⟩
  · simp at hk
  · obtain ⟨A', c', h1, h2, h3⟩ := hc k hk
    exact ⟨b, off, A', c', e, hb, h1, h2, h3⟩

end Go.Proofs.YtjklgmhaebjjaaaGreat
