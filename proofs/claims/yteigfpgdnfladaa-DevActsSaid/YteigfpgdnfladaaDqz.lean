/-
  The program's devices keep what is asked of them.
-/
import Derived.Test.YteigfpgdnfladaaDqU
namespace Go.Proofs.Yteigfpgdnfladaa.S13
open Cf
open Go.RowKit
set_option linter.unusedVariables false
set_option linter.unusedSimpArgs false
theorem devOk : DevOk Dz where
  foot w G F st h := by
    obtain ⟨Bd, Bl, Ap, L, left, rfl, h⟩ := h
    exact h.lt
  keep w w' G F st h hk _ := by
    obtain ⟨Bd, Bl, Ap, L, left, rfl, h⟩ := h
    exact ⟨Bd, Bl, Ap, L, left, rfl, h.keep hk⟩
  new w n h1 h2 := new_any w n h1 h2
  bad w n h := (new_bad w n h).mono fun e w' ⟨h1, h2⟩ => ⟨h1, by rw [h2]; exact Grown.refl w⟩
  size w G F st h _ := by
    obtain ⟨Bd, Bl, Ap, L, left, rfl, h⟩ := h
    exact (size_any h).mono fun e w' ⟨h1, h2⟩ => ⟨h1, by rw [h2]; exact Grown.refl w⟩
  read w G F st i n h hk hi hl := by
    obtain ⟨Bd, Bl, Ap, L, left, rfl, h⟩ := h
    refine (read_any h n).mono ?_
    rintro e w' ⟨A, m, c, h1, h2, h3, h4, ⟨left', h5⟩, h6, h7⟩
    exact ⟨A, m, c, h1, h2, h3, h4, _, ⟨Bd, Bl, Ap, L, left', rfl, h5⟩, fun k hk => .inl hk, h6, h7⟩
  write w G F st i n A m c b h hk hi hl hb hm hmc hm1 hoff := by
    obtain ⟨Bd, Bl, Ap, L, left, rfl, h⟩ := h
    exact write_any h hk hi n A m c b hb hm hmc hm1 hoff
  flush w G F st i h hk hi hl := by
    obtain ⟨Bd, Bl, Ap, L, left, rfl, h⟩ := h
    exact flush_any h hk hi (by omega)
  count w G F st i h hk := by
    obtain ⟨Bd, Bl, Ap, L, left, rfl, h⟩ := h
    exact (count_any h).mono fun e w' ⟨h1, h2⟩ => ⟨h1, by rw [h2]; exact Grown.refl w⟩
  raise w G F st i h hk := by
    obtain ⟨Bd, Bl, Ap, L, left, rfl, h⟩ := h
    exact (raise_any h hk).mono fun e w' ⟨h1, ⟨left', h2⟩, h3⟩ => ⟨h1, h2.same h3⟩
  wear w G F st i n h hk _ _ := by
    obtain ⟨Bd, Bl, Ap, L, left, rfl, h⟩ := h
    exact (wear_any h n).mono fun e w' ⟨h1, h2, h3⟩ => ⟨h1, h2.same h3⟩
  limit w G F st i n h hk h0 h1 := by
    obtain ⟨Bd, Bl, Ap, L, left, rfl, h⟩ := h
    exact (limit_any h n h0 h1).mono fun e w' ⟨h1, h2, h3⟩ => ⟨h1, h2.same h3⟩
  crash w G F st i A m c keep h hk hi hl hb hm hmc hm1 hoff := by
    obtain ⟨Bd, Bl, Ap, L, left, rfl, h⟩ := h
    exact crash_any h hk hi (by omega) A m c keep hb hm hm1 hoff
  tamper w G F st i n A m c b h hk hi hl hb hm hmc hm1 hoff := by
    obtain ⟨Bd, Bl, Ap, L, left, rfl, h⟩ := h
    exact tamper_any h hk hi n A m c b hb hm hm1 hoff
  image w G F st i h hk hi hl := by
    obtain ⟨Bd, Bl, Ap, L, left, rfl, h⟩ := h
    exact image_any h (by omega)
  waits w G F st i h hk hi := by
    obtain ⟨Bd, Bl, Ap, L, left, rfl, h⟩ := h
    exact (waits_any h).mono fun e w' ⟨h1, h2⟩ => ⟨h1, by rw [h2]; exact Grown.refl w⟩
end Go.Proofs.Yteigfpgdnfladaa.S13
