/-
  Contract of the program's isUnit.
-/
import Derived.Test.YtbgbfofghhiolaaXtR
namespace Go.Proofs.Ytbgbfofghhiolaa.S8
open Go.RowKit
open Go.Proofs.Ytbgbfofghhiolaa.S7 hiding intOf
set_option linter.unusedVariables false
set_option linter.unusedSimpArgs false

theorem unit_yes (A B : Option Addr) (kl c bl d : Nat) (n : Int) (h : okX kl n bl) (w : World) : Calls Try.prog 12 #[.slice A kl c, .int .i64 n, .slice B bl d] w fun e w' => e = .returned (.bool true) ∧ w = w' := by
  obtain ⟨rfl, h2, h3, h4, h5⟩ := h
  have b2 : (0 : Int) < (bl : Int) := by omega
  have b3 : (bl : Int) ≤ 1024 := by omega
  have b4 : (bl : Int) % 16 = 0 := by omega
  have b5 : (bl : Int).tmod 16 = 0 := by rw [Int.tmod_eq_emod_of_nonneg (by omega)]; omega
  clear h3 h4 h5
  go_enter Try.func12, Try.ntmps12
  go_wp2
  go_ret
  exact ⟨rfl, rfl⟩
theorem unit_no (A B : Option Addr) (kl c bl d : Nat) (n : Int) (h : ¬ okX kl n bl) (w : World) : Calls Try.prog 12 #[.slice A kl c, .int .i64 n, .slice B bl d] w fun e w' => e = .returned (.bool false) ∧ w = w' := by
  unfold okX at h
  by_cases h1 : kl = 64
  · subst h1
    by_cases h2 : 0 ≤ n
    · by_cases h3 : 0 < bl
      · by_cases h4 : bl ≤ 1024
        · have h5 : ¬ bl % 16 = 0 := fun h5 => h ⟨rfl, h2, by omega, h4, h5⟩
          have b2 : (0 : Int) < (bl : Int) := by omega
          have b3 : (bl : Int) ≤ 1024 := by omega
          obtain ⟨m, hm⟩ : ∃ m, m = bl % 16 := ⟨_, rfl⟩
          have b4 : (bl : Int) % 16 = (m : Int) := by omega
          have b5 : (bl : Int).tmod 16 = (m : Int) := by rw [hm]; rfl
          have b6 : ((m : Int) == 0) = false := by simp; omega
          have b7 : ¬ (m : Int) = 0 := by omega
          clear h h3 h4 h5 hm
          go_enter Try.func12, Try.ntmps12
          go_wp2
          go_ret
          exact ⟨rfl, rfl⟩
        · have b2 : (0 : Int) < (bl : Int) := by omega
          have b3 : ¬ (bl : Int) ≤ 1024 := by omega
          clear h h3 h4
          go_enter Try.func12, Try.ntmps12
          go_wp2
          go_ret
          exact ⟨rfl, rfl⟩
      · have b2 : ¬ (0 : Int) < (bl : Int) := by omega
        clear h h3
        go_enter Try.func12, Try.ntmps12
        go_wp2
        go_ret
        exact ⟨rfl, rfl⟩
    · clear h
      go_enter Try.func12, Try.ntmps12
      go_wp2
      go_ret
      exact ⟨rfl, rfl⟩
  · have b1 : ((kl : Int) == 64) = false := by simp; omega
    have b2 : ¬ (kl : Int) = 64 := by omega
    clear h h1
    go_enter Try.func12, Try.ntmps12
    go_wp2
    go_ret
    exact ⟨rfl, rfl⟩
end Go.Proofs.Ytbgbfofghhiolaa.S8
