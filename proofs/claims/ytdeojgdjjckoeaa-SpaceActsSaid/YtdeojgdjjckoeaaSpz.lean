/-
  The program's space keeps what the laws ask.
-/
import Derived.Test.YtdeojgdjjckoeaaQsF
namespace Go.Proofs.Ytdeojgdjjckoeaa.S15
open Cf
open Go.RowKit
set_option linter.unusedVariables false
set_option linter.unusedSimpArgs false
theorem spaceOk : SpaceOk Qz where
  foot := fun w G F s h k hk => by
    obtain ⟨b, hq, rfl⟩ := h
    rcases hk with rfl | rfl
    · exact hq.lt.1
    · exact hq.lt.2
  keep := fun w w' G F s h hk _ => by
    obtain ⟨b, hq, rfl⟩ := h
    exact ⟨b, hq.keep (hk G (.inl rfl)) (hk b (.inr rfl)), rfl⟩
  new := fun w f l h0 h1 h2 => new_ok w f l h0 h1 h2
  bad := fun w f l hf hl hn => new_no w f l hf hl hn
  take := fun w G F s h hs => take_any h hs
  use := fun w G F s A m c l h hs hr hl hmc hm hI hA => use_any h hs hr hl hmc hm hI hA
  give := fun w G F s A m c l h hs hr hl hmc hm hI hA => give_any h hs hr hl hmc hm hI hA
  back := fun w G F s A m c l h hs hr hl hmc hm hI hA => back_any h hs hr hl hmc hm hI hA
  settle := fun w G F s h hs => settle_any h hs
  undo := fun w G F s A m c l h hs hr hl hmc hm hI hA => undo_any h hs hr hl hmc hm hI hA
  free := fun w G F s h hs => free_any h hs
  used := fun w G F s h hs => used_any h hs
  is_ := fun w G F s n h hs hn => by
    obtain ⟨b, hq, rfl⟩ := h
    have e : s.used.contains n = decide (s.first ≤ n ∧ n < s.first + (wid s : Int) ∧ sta s n = 1) := by
      have hw := wid_cast hs
      rw [Bool.eq_iff_iff, List.contains_iff_mem, decide_eq_true_eq, sta_used]
      exact ⟨fun h => ⟨(hs.ur n h).1, by have := (hs.ur n h).2; omega, h⟩, fun h => h.2.2⟩
    rw [e]
    exact is_any hq n hn
end Go.Proofs.Ytdeojgdjjckoeaa.S15
