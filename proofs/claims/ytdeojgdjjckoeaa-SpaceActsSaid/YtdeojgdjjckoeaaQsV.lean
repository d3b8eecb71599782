/-
  Contracts of the program's space: move, Use, Give, Back, Is.
-/
import Derived.Test.YtdeojgdjjckoeaaQsM
namespace Go.Proofs.Ytdeojgdjjckoeaa.S15
open Cf
open Go.RowKit
set_option linter.unusedVariables false
set_option linter.unusedSimpArgs false
theorem mvd_step (f : Int → Int) (l : List Int) (v : Int) (i : Nat) (hi : i < l.length) (y : Int) : mvd f (l.take (i + 1)) v y = upd1 (mvd f (l.take i) v) l[i] v y := by
  unfold mvd upd1
  rw [List.take_succ_eq_append_getElem hi]
  simp only [List.mem_append, List.mem_singleton]
  by_cases h1 : y = l[i]
  · simp [h1]
  · simp [h1]
theorem mvd_nil (f : Int → Int) (v : Int) (y : Int) : mvd f [] v y = f y := by unfold mvd; simp
theorem mvd_back {f : Int → Int} {l : List Int} {fr to : Int} (h : ∀ x ∈ l, f x = fr) (y : Int) : mvd (mvd f l to) l fr y = f y := by
  unfold mvd
  by_cases h1 : y ∈ l
  · simp [h1, h y h1]
  · simp [h1]
theorem good_step {f : Int → Int} {a : Int} {n : Nat} {fr to : Int} (hft : fr ≠ to) {l : List Int} {i : Nat} (hi : i < l.length) (h : Good f a n fr (l.take i)) (hx : a ≤ l[i] ∧ l[i] < a + (n : Int) ∧ mvd f (l.take i) to l[i] = fr) : Good f a n fr (l.take (i + 1)) := by
  have hn : l[i] ∉ l.take i := fun hm => by
    have := hx.2.2
    unfold mvd at this
    rw [if_pos hm] at this
    exact hft this.symm
  have hf : f l[i] = fr := by
    have := hx.2.2
    unfold mvd at this
    rwa [if_neg hn] at this
  rw [List.take_succ_eq_append_getElem hi]
  refine ⟨List.nodup_append.2 ⟨h.1, by simp, fun x hx y hy e => ?_⟩, fun x hm => ?_⟩
  · simp only [List.mem_singleton] at hy
    rw [← hy, ← e] at hn
    exact hn hx
  · rcases List.mem_append.1 hm with hm | hm
    · exact h.2 x hm
    · simp only [List.mem_singleton] at hm
      rw [hm]
      exact ⟨hx.1, hx.2.1, hf⟩
theorem good_not {f : Int → Int} {a : Int} {n : Nat} {fr to : Int} {l : List Int} {i : Nat} (hi : i < l.length) (hx : ¬ (a ≤ l[i] ∧ l[i] < a + (n : Int) ∧ mvd f (l.take i) to l[i] = fr)) : ¬ Good f a n fr l := fun h => by
  obtain ⟨h1, h2, h3⟩ := h.2 l[i] (by simp)
  refine hx ⟨h1, h2, ?_⟩
  unfold mvd
  rw [if_neg, h3]
  intro hm
  obtain ⟨j, hj, e⟩ := List.getElem_of_mem hm
  rw [List.getElem_take] at e
  have hji : j < i := by rw [List.length_take] at hj; omega
  have := (List.getElem_inj h.1).1 e
  omega
section
variable {w w' : World} {G b n : Nat} {a : Int} {f g : Int → Int} {A : Option Addr} {m c : Nat} {l : List Int}
/-- A row of numbers that no call of the space's touches. -/
theorem rdz_ch (h : RdZ w w.heap.size A l) (hA : ∀ x, A = some x → l ≠ [] → x.block ≠ b) (hc : Ch (Bb b) w w') : RdZ w' w'.heap.size A l := by
  rcases h with h | ⟨k, off, e, hb, hcl⟩
  · exact .inl h
  · refine .inr ⟨k, off, e, Nat.lt_of_lt_of_le hb hc.size, fun j hj => ?_⟩
    have hne : l ≠ [] := by rintro rfl; simp at hj
    rw [hc.cell (p := ⟨k, off + j, none⟩) hb (show ¬ k = b from hA ⟨k, off, none⟩ e hne)]
    exact hcl j hj
set_option maxRecDepth 20000 in
set_option maxHeartbeats 4000000 in
theorem move_any (h : QC w G b a n f) (fr to : Int) (hft : fr ≠ to) (f0 : 0 ≤ fr) (f2 : fr ≤ 2) (t0 : 0 ≤ to) (t2 : to ≤ 2) (hr : RdZ w w.heap.size A l) (hl : l.length = m) (hmc : m ≤ c) (hm : m ≤ 1000) (hI : Irs l) (hA : ∀ x, A = some x → l ≠ [] → x.block ≠ b) :
    Calls Try.prog 30 #[.pointer (some ⟨G, 0, none⟩), .int .u8 fr, .int .u8 to, .slice A m c] w fun e w' => Ch (Bb b) w w' ∧ ((e = .returned (.int .i64 0) ∧ Good f a n fr l ∧ QC w' G b a n (mvd f l to)) ∨ (e = .returned (.int .i64 2) ∧ ¬ Good f a n fr l ∧ QC w' G b a n f)) := by
  have H := Lib.hid h
  have HN := Lib.hid hl
  have HI := Lib.hid hI
  have HR := Lib.hid (show ∀ v : World, Ch (Bb b) w v → RdZ v v.heap.size A l from fun v hv => rdz_ch hr hA hv)
  clear h hl hI hr hA
  go_enter Try.func30, Try.ntmps30
  go_wp2
  go_loopw [15] (fun v15 wr => ∃ i : Nat, v15 = .int .i64 (i : Int) ∧ i ≤ m ∧ Hid (QC wr G b a n (mvd f (l.take i) to)) ∧ Hid (Good f a n fr (l.take i)) ∧ Hid (Ch (Bb b) w wr)) (fun v15 _ => m - (intOf v15).toNat)
  case atStart => exact ⟨0, rfl, Nat.zero_le _, H.out.congr (fun i hi => by rw [List.take_zero, mvd_nil]), ⟨by simp, fun x hx => by simp at hx⟩, Ch.refl _ _⟩
  case round =>
    obtain ⟨i, rfl, hi, HQ, HG, HC⟩ := hrel
    by_cases hlt : i < m
    · have bi : (i : Int) < (m : Int) := by omega
      have hil : i < l.length := by rw [HN.out]; exact hlt
      obtain ⟨k, off, hA, hb, hc⟩ := (HR.out wr HC.out).at_ hil
      obtain ⟨x, hx⟩ : ∃ x, x = l[i] := ⟨_, rfl⟩
      have HX := Lib.hid (has_any HQ.out x fr (by rw [hx]; exact HI.out _ (by simp)) f0 f2)
      have hcut : ∀ V : World, (Instr.slice 30 (.slice A m c) none (some (.int .i64 (i : Int))) none).run Try.prog V = .ok (.slice A i c) V := fun V => cutZh V A m c i (by omega)
      rw [← hx] at hc
      have HXL := Lib.hid hx
      subst hA
      clear hx
      go_wp2_with fail
      refine HX.out.mono ?_
      rintro e w1 ⟨rfl, hg1⟩
      have G1 := Lib.hid hg1
      clear hg1 hc
      by_cases hgd : a ≤ x ∧ x < a + (n : Int) ∧ mvd f (l.take i) to x = fr
      · have HS := Lib.hid (set_any (HQ.out.grow G1.out) x to hgd.1 hgd.2.1 t0 t2)
        have HG2 := Lib.hid (show Good f a n fr (l.take (i + 1)) from good_step hft hil HG.out (by rw [← HXL.out]; exact hgd))
        rw [decide_eq_true hgd]
        clear hgd hcut
        go_wp2_with fail
        refine HS.out.mono ?_
        rintro e w2 ⟨rfl, hq2, hc2⟩
        have Q2 := Lib.hid (show QC w2 G b a n (mvd f (l.take (i + 1)) to) from hq2.congr (fun j hj => by rw [mvd_step f l to i hil, HXL.out]))
        have C2 := Lib.hid (show Ch (Bb b) w w2 from (HC.out.trans (Ch.grown G1.out)).trans hc2)
        clear hq2 hc2
        go_wp2
        exact ⟨⟨i + 1, by simp, by omega, Q2.out, HG2.out, C2.out⟩, by simp [intOf]; omega⟩
      · have HN2 := Lib.hid (show ¬ Good f a n fr l from good_not hil (by rw [← HXL.out]; exact hgd))
        rw [decide_eq_false hgd]
        have HQ1 := Lib.hid (show QC w1 G b a n (mvd f (l.take i) to) from HQ.out.grow G1.out)
        have HC1 := Lib.hid (show Ch (Bb b) w w1 from HC.out.trans (Ch.grown G1.out))
        clear hgd
        go_wp2
        go_loopw [29] (fun v29 wr => ∃ j : Nat, v29 = .int .i64 (j : Int) ∧ j ≤ i ∧ Hid (QC wr G b a n (mvd (mvd f (l.take i) to) ((l.take i).take j) fr)) ∧ Hid (Ch (Bb b) w wr)) (fun v29 _ => i - (intOf v29).toNat)
        case atStart => exact ⟨0, rfl, Nat.zero_le _, HQ1.out.congr (fun i hi => by rw [List.take_zero, mvd_nil]), HC1.out⟩
        case round =>
          obtain ⟨j, rfl, hj, HQ3, HC3⟩ := hrel
          by_cases hlj : j < i
          · have bj : (j : Int) < (i : Int) := by omega
            have hjl : j < l.length := by omega
            have hjl2 : j < (l.take i).length := by rw [List.length_take]; omega
            obtain ⟨k3, off3, hA3, hb3, hc3⟩ := (HR.out wr HC3.out).at_ hjl
            simp only [Option.some.injEq, Addr.mk.injEq, and_true] at hA3
            obtain ⟨rfl, rfl⟩ := hA3
            obtain ⟨y, hy⟩ : ∃ y, y = l[j] := ⟨_, rfl⟩
            have hyt : (l.take i)[j] = y := by rw [hy]; simp
            rw [← hy] at hc3
            have hr3 := HG.out.2 y (by rw [← hyt]; exact List.getElem_mem hjl2)
            have HS3 := Lib.hid (set_any HQ3.out y fr hr3.1 hr3.2.1 f0 f2)
            have HY := Lib.hid hyt
            clear hy hyt hr3
            go_wp2_with fail
            refine HS3.out.mono ?_
            rintro e w2 ⟨rfl, hq2, hc2⟩
            have Q2 := Lib.hid (show QC w2 G b a n (mvd (mvd f (l.take i) to) ((l.take i).take (j + 1)) fr) from hq2.congr (fun q hq => by rw [mvd_step _ (l.take i) fr j hjl2, HY.out]))
            have C2 := Lib.hid (show Ch (Bb b) w w2 from HC3.out.trans hc2)
            clear hq2 hc2
            go_wp2
            exact ⟨⟨j + 1, by simp, by omega, Q2.out, C2.out⟩, by simp [intOf]; omega⟩
          · have bj : ¬ ((j : Int) < (i : Int)) := by omega
            have HQ4 := Lib.hid (show QC wr G b a n f from HQ3.out.congr (fun q hq => by rw [List.take_of_length_le (l := l.take i) (by rw [List.length_take]; omega), mvd_back (fun x hx => (HG.out.2 x hx).2.2)]))
            go_wp2
            go_ret
            exact ⟨HC3.out, .inr ⟨rfl, HN2.out, HQ4.out⟩⟩
    · have bi : ¬ ((i : Int) < (m : Int)) := by omega
      have e : i = m := by omega
      subst e
      have HT := Lib.hid (show l.take i = l from List.take_of_length_le (by rw [HN.out]; omega))
      have HQ2 := Lib.hid (show QC wr G b a n (mvd f l to) by have := HQ.out; rwa [HT.out] at this)
      have HG2 := Lib.hid (show Good f a n fr l by have := HG.out; rwa [HT.out] at this)
      go_wp2
      go_ret
      exact ⟨HC.out, .inl ⟨rfl, HG2.out, HQ2.out⟩⟩
/-- The program's space. -/
def Qz (w : World) (G : Nat) (F : Nat → Prop) (s : Sp) : Prop := ∃ b, QC w G b s.first (wid s) (sta s) ∧ F = fun k => k = G ∨ k = b
theorem rdz_ne {F : Nat → Prop} (hF : F = fun k => k = G ∨ k = b) (hA : ∀ x, A = some x → l ≠ [] → ¬ F x.block) : ∀ x, A = some x → l ≠ [] → x.block ≠ b := fun x hx hl e => hA x hx hl (by rw [hF]; exact .inr e)
theorem son_of {F : Nat → Prop} {s' : Sp} (hF : F = fun k => k = G ∨ k = b) (h : QC w' G b s'.first (wid s') (sta s')) (hc : Ch (Bb b) w w') : SOn Qz w G F s' w' :=
  ⟨F, ⟨b, h, hF⟩, fun k hk => .inl hk, ⟨hc.os, hc.tape, hc.output, hc.size, fun k hk hf => hc.block k hk (fun e => hf (by rw [hF]; exact .inr e))⟩⟩
section
variable {s : Sp} {F : Nat → Prop}
theorem use_any (h : Qz w G F s) (hs : SpOk s) (hr : RdZ w w.heap.size A l) (hl : l.length = m) (hmc : m ≤ c) (hm : m ≤ 1000) (hI : Irs l) (hA : ∀ x, A = some x → l ≠ [] → ¬ F x.block) :
    Calls Try.prog 12 #[.pointer (some ⟨G, 0, none⟩), .slice A m c] w fun e w' => e = .returned (.int .i64 (spUse s l).1) ∧ SOn Qz w G F (spUse s l).2 w' := by
  obtain ⟨b, hq, hF⟩ := h
  have HM := Lib.hid (move_any hq 0 1 (by omega) (by omega) (by omega) (by omega) (by omega) hr hl hmc hm hI (rdz_ne hF hA))
  have HF := Lib.hid hF
  have HS := Lib.hid hs
  clear hq hr hl hI hA hF hs
  go_enter Try.func12, Try.ntmps12
  go_wp2_with fail
  refine HM.out.mono ?_
  rintro e w1 ⟨hc, ⟨rfl, hg, hq⟩ | ⟨rfl, hg, hq⟩⟩
  · have E := Lib.hid (And.intro hc (And.intro hg hq))
    clear hc hg hq
    go_wp2
    go_ret
    obtain ⟨hc, hg, hq⟩ := E.out
    rw [use_yes HS.out hg]
    exact ⟨rfl, son_of HF.out (hq.congr fun i hi => sta_use _) hc⟩
  · have E := Lib.hid (And.intro hc (And.intro hg hq))
    clear hc hg hq
    go_wp2
    go_ret
    obtain ⟨hc, hg, hq⟩ := E.out
    rw [use_no HS.out hg]
    exact ⟨rfl, son_of HF.out hq hc⟩
theorem give_any (h : Qz w G F s) (hs : SpOk s) (hr : RdZ w w.heap.size A l) (hl : l.length = m) (hmc : m ≤ c) (hm : m ≤ 1000) (hI : Irs l) (hA : ∀ x, A = some x → l ≠ [] → ¬ F x.block) :
    Calls Try.prog 14 #[.pointer (some ⟨G, 0, none⟩), .slice A m c] w fun e w' => e = .returned (.int .i64 (spGive s l).1) ∧ SOn Qz w G F (spGive s l).2 w' := by
  obtain ⟨b, hq, hF⟩ := h
  have HM := Lib.hid (move_any hq 1 2 (by omega) (by omega) (by omega) (by omega) (by omega) hr hl hmc hm hI (rdz_ne hF hA))
  have HF := Lib.hid hF
  have HS := Lib.hid hs
  clear hq hr hl hI hA hF hs
  go_enter Try.func14, Try.ntmps14
  go_wp2_with fail
  refine HM.out.mono ?_
  rintro e w1 ⟨hc, ⟨rfl, hg, hq⟩ | ⟨rfl, hg, hq⟩⟩
  · have E := Lib.hid (And.intro hc (And.intro hg hq))
    clear hc hg hq
    go_wp2
    go_ret
    obtain ⟨hc, hg, hq⟩ := E.out
    rw [give_yes HS.out hg]
    exact ⟨rfl, son_of HF.out (hq.congr fun i hi => sta_give (fun x hx => sta_used.1 (hg.2 x hx).2.2) _) hc⟩
  · have E := Lib.hid (And.intro hc (And.intro hg hq))
    clear hc hg hq
    go_wp2
    go_ret
    obtain ⟨hc, hg, hq⟩ := E.out
    rw [give_no HS.out hg]
    exact ⟨rfl, son_of HF.out hq hc⟩
theorem back_any (h : Qz w G F s) (hs : SpOk s) (hr : RdZ w w.heap.size A l) (hl : l.length = m) (hmc : m ≤ c) (hm : m ≤ 1000) (hI : Irs l) (hA : ∀ x, A = some x → l ≠ [] → ¬ F x.block) :
    Calls Try.prog 19 #[.pointer (some ⟨G, 0, none⟩), .slice A m c] w fun e w' => e = .returned (.int .i64 (spBack s l).1) ∧ SOn Qz w G F (spBack s l).2 w' := by
  obtain ⟨b, hq, hF⟩ := h
  have HM := Lib.hid (move_any hq 1 0 (by omega) (by omega) (by omega) (by omega) (by omega) hr hl hmc hm hI (rdz_ne hF hA))
  have HF := Lib.hid hF
  have HS := Lib.hid hs
  clear hq hr hl hI hA hF hs
  go_enter Try.func19, Try.ntmps19
  go_wp2_with fail
  refine HM.out.mono ?_
  rintro e w1 ⟨hc, ⟨rfl, hg, hq⟩ | ⟨rfl, hg, hq⟩⟩
  · have E := Lib.hid (And.intro hc (And.intro hg hq))
    clear hc hg hq
    go_wp2
    go_ret
    obtain ⟨hc, hg, hq⟩ := E.out
    rw [back_yes HS.out hg]
    exact ⟨rfl, son_of HF.out (hq.congr fun i hi => sta_back HS.out (fun x hx => sta_used.1 (hg.2 x hx).2.2) _) hc⟩
  · have E := Lib.hid (And.intro hc (And.intro hg hq))
    clear hc hg hq
    go_wp2
    go_ret
    obtain ⟨hc, hg, hq⟩ := E.out
    rw [back_no HS.out hg]
    exact ⟨rfl, son_of HF.out hq hc⟩
theorem is_any (h : QC w G b a n f) (x : Int) (hx : Ir x) : Calls Try.prog 24 #[.pointer (some ⟨G, 0, none⟩), .int .i64 x] w fun e w' => e = .returned (.bool (decide (a ≤ x ∧ x < a + (n : Int) ∧ f x = 1))) ∧ Grown w w' := by
  have hm := has_any h x 1 hx (by omega) (by omega)
  generalize decide (a ≤ x ∧ x < a + (n : Int) ∧ f x = 1) = R at hm ⊢
  have HM := Lib.hid hm
  clear h hm
  go_enter Try.func24, Try.ntmps24
  go_wp2_with fail
  refine HM.out.mono ?_
  rintro e w1 ⟨rfl, hg⟩
  have E := Lib.hid hg
  clear hg
  go_wp2
  go_ret
  exact ⟨rfl, E.out⟩
end
end
end Go.Proofs.Ytdeojgdjjckoeaa.S15
