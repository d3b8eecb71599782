/-
  The program's devices keep what is asked of them. The program's caches keep what is asked of them.
-/
import Derived.Test.YthakdjaaknbmpaaMgKactsMain34
import Derived.Test.YthakdjaaknbmpaaMgKactsMain28
namespace Go.Proofs.Ythakdjaaknbmpaa.S13
open Cf
open Go.RowKit
set_option linter.unusedVariables false
set_option linter.unusedSimpArgs false
theorem devOk : DevOk Dz where
  foot w G F st h := by
    obtain ⟨Bd, Bl, Ap, L, left, rfl, h⟩ := h
    exact h.lt
  keep w w' G F st h hk _ := by
    obtain ⟨Bd, Bl, Ap, L, left, rfl, h⟩ := h
    exact ⟨Bd, Bl, Ap, L, left, rfl, h.keep hk⟩
  new w n h1 h2 := new_any w n h1 h2
  bad w n h := (new_bad w n h).mono fun e w' ⟨h1, h2⟩ => ⟨h1, by rw [h2]; exact Grown.refl w⟩
  read w G F st i n h hk hi hl := by
    obtain ⟨Bd, Bl, Ap, L, left, rfl, h⟩ := h
    refine (read_any h n).mono ?_
    rintro e w' ⟨A, m, c, h1, h2, h3, h4, ⟨left', h5⟩, h6, h7⟩
    exact ⟨A, m, c, h1, h2, h3, h4, _, ⟨Bd, Bl, Ap, L, left', rfl, h5⟩, fun k hk => .inl hk, h6, h7⟩
  write w G F st i n A m c b h hk hi hl hb hm hmc hm1 hoff := by
    obtain ⟨Bd, Bl, Ap, L, left, rfl, h⟩ := h
    exact write_any h hk hi n A m c b hb hm hmc hm1 hoff
  flush w G F st i h hk hi hl := by
    obtain ⟨Bd, Bl, Ap, L, left, rfl, h⟩ := h
    exact flush_any h hk hi (by omega)
  limit w G F st i n h hk h0 h1 := by
    obtain ⟨Bd, Bl, Ap, L, left, rfl, h⟩ := h
    exact (limit_any h n h0 h1).mono fun e w' ⟨h1, h2, h3⟩ => ⟨h1, h2.same h3⟩
  crash w G F st i A m c keep h hk hi hl hb hm hmc hm1 hoff := by
    obtain ⟨Bd, Bl, Ap, L, left, rfl, h⟩ := h
    exact crash_any h hk hi (by omega) A m c keep hb hm hm1 hoff
  tamper w G F st i n A m c b h hk hi hl hb hm hmc hm1 hoff := by
    obtain ⟨Bd, Bl, Ap, L, left, rfl, h⟩ := h
    exact tamper_any h hk hi n A m c b hb hm hm1 hoff
  image w G F st i h hk hi hl := by
    obtain ⟨Bd, Bl, Ap, L, left, rfl, h⟩ := h
    exact image_any h (by omega)
  waits w G F st i h hk hi := by
    obtain ⟨Bd, Bl, Ap, L, left, rfl, h⟩ := h
    exact (waits_any h).mono fun e w' ⟨h1, h2⟩ => ⟨h1, by rw [h2]; exact Grown.refl w⟩
end Go.Proofs.Ythakdjaaknbmpaa.S13
namespace Go.Proofs.Ythakdjaaknbmpaa.S14
open S13
open Cf
open Go.RowKit
set_option linter.unusedVariables false
set_option linter.unusedSimpArgs false
theorem cacheOk0 {D : DTab} (K : DevOk D) : CacheOk D Cz where
  kept := czKept
  new w H FD dv room _ hr := new_any w H room hr
  newNil w n _ _ := newNil_any w n
  newBad w H n _ hn := newBad_any w H n hn
  read w G H F room l dv i n h hk hok hi hl hr := by
    obtain ⟨Fc, Fd, ⟨R, M, nw, od, es, ms, rfl, rfl, hz⟩, hd, ha, hF⟩ := h
    cases hfn : kaFind (es.map prj) n with
    | none => exact read_miss K hz hd ha hF hk hok hi hl hr n hfn
    | some s =>
      have hlen := (cz_len hz hk hl).1
      obtain ⟨a, e, b, rfl, rfl, rfl⟩ := find_map hfn
      have HE : kaRead room ((a ++ e :: b).map prj) dv (e.k : Int) = (e.s, 0, kaUse room ((a ++ e :: b).map prj) e.k e.s, dv) := by unfold kaRead; rw [hfn]; rfl
      have hs := (hz.r.o e (List.mem_append_right _ List.mem_cons_self)).1
      refine (read_hit (i := i) K hz hd ha hF hlen).mono ?_
      rintro r w' ⟨A, c, rfl, hc, ho, F', h1, h2, h3, h4⟩
      rw [HE]
      exact ⟨A, 512, c, rfl, hs, hc, OwA.of ho, F', h1, h2, h3, h4⟩
  write w G H F room l dv i n A m c b h hk hok hi hl hr hb hm hmc hm1 hoff := by
    obtain ⟨Fc, Fd, ⟨R, M, nw, od, es, ms, rfl, rfl, hz⟩, hd, ha, hF⟩ := h
    exact write_any K hz hd ha hF hk hok hi hl hr n A m c b hb hm hmc hm1 hoff
  drop w G H F room l dv n A c h hk hl hr hc hoff := by
    obtain ⟨Fc, Fd, ⟨R, M, nw, od, es, ms, rfl, rfl, hz⟩, hd, ha, hF⟩ := h
    refine (drop_any hz n A c hr hc).mono ?_
    rintro r w' ⟨rfl, nw', od', es', ms', hz', hl', hm', hc'⟩
    exact ⟨rfl, kzOn K hd ha hF hz' hl' (fun k hk => .inl (by
      rcases hk with (rfl | hk) | ⟨x, hx, hxa⟩
      · exact .inl (.inl rfl)
      · obtain ⟨x, hx, rfl⟩ := of_bs hk
        exact .inl (.inr (mem_bs (hm' x hx)))
      · exact .inr ⟨x, hm' x hx, hxa⟩)) hc'⟩
  clear w G H F room l dv h hk hl := by
    obtain ⟨Fc, Fd, ⟨R, M, nw, od, es, ms, rfl, rfl, hz⟩, hd, ha, hF⟩ := h
    refine (clear_any hz).mono ?_
    rintro r w' ⟨rfl, R', nw', od', hR, hz', hc'⟩
    refine ⟨rfl, cd_cac (devKp K) hd ha hF ⟨KF G R' M [], ⟨R', M, nw', od', [], [], rfl, rfl, hz'⟩, fun k hk => ?_, hc'⟩⟩
    rcases hk with rfl | rfl | (rfl | hk) | ⟨x, hx, _⟩
    · exact .inl (.inl rfl)
    · exact .inl (.inr (.inl rfl))
    · exact .inr hR
    · simp [bs] at hk
    · simp at hx
  keeps w G H F room l dv h hk hl := by
    obtain ⟨Fc, Fd, ⟨R, M, nw, od, es, ms, rfl, rfl, hz⟩, hd, ha, hF⟩ := h
    refine (kept_any hz (cz_len hz hk hl).2).mono ?_
    rintro r w' ⟨A, m, c, rfl, hm, hc, hr, hg⟩
    refine ⟨A, m, c, rfl, by rw [List.length_map]; exact hm, hc, ?_, hg⟩
    have : keys (es.map prj) = kint es := by simp [keys, kint, prj]
    rw [this]
    exact hr
  dev w G H F room l dv h := by
    obtain ⟨Fc, Fd, ⟨R, M, nw, od, es, ms, rfl, rfl, hz⟩, hd, ha, hF⟩ := h
    exact dev_any hz
theorem cacheOk : CacheOk S13.Dz Cz := cacheOk0 S13.devOk
end Go.Proofs.Ythakdjaaknbmpaa.S14
