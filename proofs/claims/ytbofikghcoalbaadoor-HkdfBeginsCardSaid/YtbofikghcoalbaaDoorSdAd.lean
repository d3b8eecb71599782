/-
  Contract of the program's add: the digester takes more bytes in.
-/
import Derived.Test.YtbofikghcoalbaaDoorSdDg
import Derived.Test.YtbofikghcoalbaaDoorGrt
namespace Go.Proofs.YtbofikghcoalbaaDoor.S4
open Go.RowKit
set_option linter.unusedVariables false
set_option linter.unusedSimpArgs false

theorem cut_block (W : World) (g h : Nat) (hh : h < 128) : (Instr.sliceAt 51 (.pointer (some ⟨g, 8, none⟩)) (some (.int .i64 (h : Int))) none none).run Tryd.prog W = .ok (.slice (some ⟨g, 8 + h, none⟩) (128 - h) (128 - h)) W := by
  obtain ⟨i0, hi, hz0, hz1, hz2⟩ := info_parts info5
  have he : Tryd.prog.elem 51 = 5 := by kernel_rfl
  have hl : Tryd.prog.arrayLen 51 = 128 := by kernel_rfl
  rw [run_sliceAt_array_l (P := Tryd.prog) W 51 ⟨g, 8, none⟩ (by rw [he, hl]; exact u128B) .i64 (h : Int) (by omega) (by rw [hl]; omega), he, hl]
  simp [sizeOf, typeInfo, hi, hz1, slicedAt, sliced, Result.andThen, Addr.add_mid]
  omega
theorem sep_cut {A : Option Addr} {g c k : Nat} (h : ∀ x, A = some x → x.block ≠ g) : ∀ x, (if c = k then A else A.map (·.add k)) = some x → x.block ≠ g := by
  intro x hx
  split at hx
  · exact h x hx
  · cases A with
    | none => cases hx
    | some y =>
      simp only [Option.map_some, Option.some.injEq] at hx
      have := h y rfl
      rw [← hx]
      unfold Addr.add
      split <;> exact this
/-- Where add stands. -/
def AddIn (w wr : World) (g : Nat) (T l : List UInt8) (b : Value) : Prop :=
  ∃ (N c h : Nat) (A : Option Addr) (q r buf p : List UInt8) (v : St), b = .slice A N c ∧ N ≤ c ∧ N ≤ 1000000 ∧ h < 128 ∧ Hid (l = q ++ r) ∧ Hid (r.length = N) ∧ Hid (Rd wr wr.heap.size A r) ∧ Hid (r ≠ [] → ∀ x, A = some x → x.block ≠ g) ∧
    Hid (Ate (T ++ q) v p) ∧ Hid (p.length = h) ∧ Hid (buf.take h = p) ∧ Hid (Dg wr g v buf h) ∧ Hid (Chg g w wr) ∧ Hid (Kt wr)

theorem AddIn.full {w w6 : World} {g N k c h : Nat} {A : Option Addr} {T l q r p b2 : List UInt8} {v : St} {Ac : Option Addr} (hl : l = (q ++ r.take k) ++ r.drop k) (hN : (r.drop k).length = N - k) (hkl : (r.take k).length = k) (hpl : p.length = h)
    (htk : b2.take (h + k) = p ++ r.take k) (ha : Ate (T ++ q) v p) (hsh : 128 = h + k) (hNc : N - k ≤ c - k) (hN2 : N - k ≤ 1000000) (hk0 : 0 < k) (hN0 : 0 < N) (hd : Dg w6 g (blk v b2) b2 128) (hr : Rd w6 w6.heap.size Ac (r.drop k)) (hs : r.drop k ≠ [] → ∀ x, Ac = some x → x.block ≠ g)
    (hc : Chg g w w6) (hkt : Kt w6) (hg : g ≠ 1) :
    AddIn w (w6.setCell ⟨g, 136, none⟩ (.int .i64 0)) g T l (.slice Ac (N - k) (c - k)) ∧ sliceLen (.slice Ac (N - k) (c - k)) < sliceLen (.slice A N c) := by
  have hc3 : Chg g w6 (w6.setCell ⟨g, 136, none⟩ (.int .i64 0)) := Chg.setCell g w6 136 _
  have hb : b2 = p ++ r.take k := by
    rw [← htk, List.take_of_length_le (by rw [hd.2]; omega)]
  refine ⟨⟨N - k, c - k, 0, Ac, q ++ r.take k, r.drop k, b2, [], blk v b2, rfl, hNc, hN2, by omega, hl, hN, hc3.rd hr hs, hs, ?_, rfl, rfl, hd.hold 0, hc.trans hc3, hc3.kt hkt hg⟩, ?_⟩
  · show Ate _ _ _
    rw [← List.append_assoc]
    have := ha.full (q := r.take k) (by rw [hkl, hpl]; omega)
    rw [← hb] at this
    exact this
  · simp only [sliceLen]; omega

set_option maxHeartbeats 4000000 in
set_option maxRecDepth 100000 in
theorem add_any (g : Nat) (A : Option Addr) (n c : Nat) (l T p buf : List UInt8) (v : St) (w : World) (hn : l.length = n) (hc : n ≤ c) (hl : n ≤ 1000000) (hr : Rd w w.heap.size A l) (hs : l ≠ [] → ∀ x, A = some x → x.block ≠ g)
    (ha : Ate T v p) (hp : buf.take p.length = p) (hd : Dg w g v buf p.length) (hk : Kt w) (hg : g ≠ 1) :
    Calls Tryd.prog 26 #[.pointer (some ⟨g, 0, none⟩), .slice A n c] w fun e w' => e = .returned (.tuple #[]) ∧ Chg g w w' ∧ ∃ v' p' buf', Ate (T ++ l) v' p' ∧ buf'.take p'.length = p' ∧ Dg w' g v' buf' p'.length := by
  have Hst := Lib.hid (show AddIn w w g T l (.slice A n c) from ⟨n, c, p.length, A, [], l, buf, p, v, rfl, hc, hl, by obtain ⟨m, X, _, _, h, _⟩ := ha; exact h, rfl, hn, hr, hs, by show Ate (T ++ []) v p; rw [List.append_nil]; exact ha, rfl, hp, hd, Chg.refl g w, hk⟩)
  have Hg := Lib.hid hg
  clear hn hc hl hr hs ha hp hd hk hg
  go_enter Tryd.func26, Tryd.ntmps26
  go_wp2
  go_loopw [1] (fun b wr => AddIn w wr g T l b) (fun b _ => sliceLen b)
  case atStart => exact Hst.out
  case round =>
    clear Hst
    obtain ⟨N, c, h, A, q, r, buf, p, v, rfl, hNc, hN, hh, Hl, HN, Hr, Hs, Ha, Hpl, Hp, Hd, Hc, Hk⟩ := hrel
    by_cases hN0 : 0 < N
    · obtain ⟨k, hk⟩ : ∃ k, k = min N (128 - h) := ⟨_, rfl⟩
      have hk1 : k ≤ N := by omega
      have hk2 : h + k ≤ 128 := by omega
      have hk0 : 0 < k := by omega
      have hld := Hd.out.held
      have Hbl := Lib.hid Hd.out.2
      go_wp2
      have hsl := fun W : World => cut_block W g h hh
      go_still_tail 9, (by kernel_rfl)
      change wpList _ _ _ _ _ wr.drew
      clear hld hsl
      have Hd1 := Lib.hid (Hd.out.grow (grown_drew wr))
      have Hr1 := Lib.hid (Hr.out.grow (grown_drew wr))
      have Hc1 := Lib.hid (Hc.out.trans (Chg.of g (grown_drew wr)))
      have Hk1 := Lib.hid (Hk.out.grow (grown_drew wr))
      generalize wr.drew = w1 at *
      clear Hd Hr Hc Hk wr
      refine wpList_copyD rfl (.tmp 15) (.tmp 16) rfl rfl rfl rfl Hd1.out Hr1.out HN.out hN0 (by omega) k hk ?_
      intro w2 hd2 hc2
      have Hd2 := Lib.hid hd2
      have Hr2 := Lib.hid (hc2.rd Hr1.out Hs.out)
      have Hc2 := Lib.hid (Hc1.out.trans hc2)
      have Hk2 := Lib.hid (hc2.kt Hk1.out Hg.out)
      obtain ⟨Ac, hAc⟩ : ∃ Ac, Ac = (if c = k then A else A.map (·.add k)) := ⟨_, rfl⟩
      have hfrom : ∀ W : World, (Instr.slice 22 (.slice A N c) (some (.int .i64 (k : Int))) none none).run Tryd.prog W = .ok (.slice Ac (N - k) (c - k)) W := fun W => by rw [hAc]; exact cut_from W A N c k hk1
      have HAc := Lib.hid hAc
      have hld := Hd2.out.held
      have hfr := Hd2.out.free 136
      obtain ⟨b2, hb2⟩ : ∃ b2, b2 = splice buf h (r.take k) := ⟨_, rfl⟩
      rw [← hb2] at Hd2
      have Hb2 := Lib.hid hb2
      clear hb2 hd2 hc2 Hd1 Hr1 Hc1 Hk1 hAc
      obtain ⟨s, hs⟩ : ∃ s, s = h + k := ⟨_, rfl⟩
      have es : IntKind.i64.wrap ((h : Int) + (k : Int)) = (s : Int) := by rw [IntKind.wrap_i64]; omega
      have Hsh := Lib.hid hs
      have HK := Lib.hid hk
      clear hk hs
      have Hl2 := Lib.hid (show l = (q ++ r.take k) ++ r.drop k by rw [Hl.out]; simp)
      have HN2 := Lib.hid (show (r.drop k).length = N - k by rw [List.length_drop, HN.out])
      have hkl : (r.take k).length = k := by rw [List.length_take, HN.out]; omega
      have Hkl := Lib.hid hkl
      have HrA := Lib.hid (show Rd w2 w2.heap.size Ac (r.drop k) by rw [HAc.out]; exact Hr2.out.cut (by rw [HN.out]; exact hNc))
      have HsA := Lib.hid (show r.drop k ≠ [] → ∀ x, Ac = some x → x.block ≠ g by
        rw [HAc.out]
        intro hne
        exact sep_cut (Hs.out (fun e => hne (by rw [e]; simp))))
      have Htk := Lib.hid (show b2.take (h + k) = p ++ r.take k by rw [Hb2.out]; exact splice_take buf r p h k Hbl.out Hp.out hk2 (by rw [HN.out]; exact hk1))
      clear hkl
      by_cases hf : s = 128
      · subst hf
        rw [show ((128 : Nat) : Int) = 128 from rfl] at es
        have Hd3 := Lib.hid (show Dg (w2.setCell ⟨g, 136, none⟩ (.int .i64 128)) g v b2 128 from Hd2.out.hold 128)
        have hc3 : Chg g w2 (w2.setCell ⟨g, 136, none⟩ (.int .i64 128)) := Chg.setCell g w2 136 _
        have HrA3 := Lib.hid (hc3.rd HrA.out HsA.out)
        have Hc3 := Lib.hid (Hc2.out.trans hc3)
        have Hk3 := Lib.hid (hc3.kt Hk2.out Hg.out)
        clear hc3
        go_wp2
        generalize w2.setCell ⟨g, 136, none⟩ (.int .i64 128) = w3 at *
        clear hld hfr Hd2 Hr2 HrA Hc2 Hk2 hfrom
        have Hi8 := Lib.hid (show (Tryd.prog.info? 49).map (·.size) = some (wvs v.l).length by rw [show (wvs v.l).length = 8 by simp [wvs, St.l]]; exact i8W)
        have Hi64 := Lib.hid (show (Tryd.prog.info? 51).map (·.size) = some (bvs b2).length by rw [show (bvs b2).length = 128 by simp [bvs, Hd3.out.2]]; exact i128B)
        have Hd4 := Lib.hid (Hd3.out.grow (grown_drew w3))
        have HrA4 := Lib.hid (HrA3.out.grow (grown_drew w3))
        have Hc4 := Lib.hid (Hc3.out.trans (Chg.of g (grown_drew w3)))
        have Hk4 := Lib.hid (Hk3.out.grow (grown_drew w3))
        refine restS_begin (fun _ => True) (by kernel_rfl) ?_
        generalize w3.drew = w4 at *
        clear Hd3 HrA3 Hc3 Hk3 w3
        refine restS_take (i := 0) trivial rfl (by kernel_rfl) (by kernel_rfl) (by kernel_rfl) (by rfl) (fun w' hg => by go_simp; try with_reducible rfl) ?_
        try simp only [Act.put, List.setIfInBounds_toArray, List.set_cons_zero, List.set_cons_succ]
        refine restS_take (i := 1) trivial rfl (by kernel_rfl) (by kernel_rfl) (by kernel_rfl) (by rfl) (fun w' hg => by go_simp; try with_reducible rfl) ?_
        try simp only [Act.put, List.setIfInBounds_toArray, List.set_cons_zero, List.set_cons_succ]
        refine restS_take (i := 2) trivial rfl (by kernel_rfl) (by kernel_rfl) (by kernel_rfl) (by rfl) (fun w' hg => by go_simp; try with_reducible rfl) ?_
        try simp only [Act.put, List.setIfInBounds_toArray, List.set_cons_zero, List.set_cons_succ]
        refine restS_take (i := 3) trivial rfl (by kernel_rfl) (by kernel_rfl) (by kernel_rfl) (by rfl) (fun w' hg => by go_simp; try with_reducible rfl) ?_
        try simp only [Act.put, List.setIfInBounds_toArray, List.set_cons_zero, List.set_cons_succ]
        refine restS_take (i := 5) trivial rfl (by kernel_rfl) (by kernel_rfl) (by kernel_rfl) (by rfl) (fun w' hg => by go_simp; try with_reducible rfl) ?_
        try simp only [Act.put, List.setIfInBounds_toArray, List.set_cons_zero, List.set_cons_succ]
        refine restS_take (i := 6) trivial rfl (by kernel_rfl) (by kernel_rfl) (by kernel_rfl) (by rfl) (fun w' hg => by go_simp; try with_reducible rfl) ?_
        try simp only [Act.put, List.setIfInBounds_toArray, List.set_cons_zero, List.set_cons_succ]
        refine restS_take (i := 7) trivial rfl (by kernel_rfl) (by kernel_rfl) (by kernel_rfl) (by rfl) (fun w' hg => by go_simp; try with_reducible rfl) ?_
        try simp only [Act.put, List.setIfInBounds_toArray, List.set_cons_zero, List.set_cons_succ]
        refine restS_two (i := 4) (j := 8) rfl rfl (by kernel_rfl) (by rfl) (by rfl) (fun K hK => ?_) (fun K hK => ?_)
        · refine wp_load_mid 49 (.tmp 37) rfl g 0 rfl _ _ Hd4.out.value u8W rfl Hi8.out (hK.out _ _ trivial ?_)
          clear hK K
          try simp only [Act.put, List.setIfInBounds_toArray, List.set_cons_zero, List.set_cons_succ]
          refine restS_lone (i := 8) rfl (by kernel_rfl) (by rfl) (fun K hK => ?_)
          refine wp_load_mid 51 (.tmp 41) rfl g 8 rfl _ _ Hd4.out.block u128B rfl Hi64.out (hK.out _ _ trivial ?_)
          clear hK K
          try simp only [Act.put, List.setIfInBounds_toArray, List.set_cons_zero, List.set_cons_succ]
          refine restS_lone (i := 9) rfl (by kernel_rfl) (by rfl) (fun K hK => ?_)
          go_simp
          refine (nv_any v b2 _ Hd4.out.2 Hk4.out).mono ?_
          rintro e w5 ⟨rfl, hg5⟩
          refine hK.out _ _ trivial ?_
          clear hK K
          have Hd5 := Lib.hid (Hd4.out.grow hg5)
          have Hr5 := Lib.hid (HrA4.out.grow hg5)
          have Hc5 := Lib.hid (Hc4.out.trans (Chg.of g hg5))
          have Hk5 := Lib.hid (Hk4.out.grow hg5)
          clear hg5
          try simp only [Act.put, List.setIfInBounds_toArray, List.set_cons_zero, List.set_cons_succ]
          refine restS_take (i := 10) trivial rfl (by kernel_rfl) (by kernel_rfl) (by kernel_rfl) (by rfl) (fun w' hg => by go_simp; try with_reducible rfl) ?_
          try simp only [Act.put, List.setIfInBounds_toArray, List.set_cons_zero, List.set_cons_succ]
          refine restS_take (i := 11) trivial rfl (by kernel_rfl) (by kernel_rfl) (by kernel_rfl) (by rfl) (fun w' hg => by go_simp; try with_reducible rfl) ?_
          try simp only [Act.put, List.setIfInBounds_toArray, List.set_cons_zero, List.set_cons_succ]
          refine restS_lone (i := 12) rfl (by kernel_rfl) (by rfl) (fun K hK => ?_)
          refine wp_store_val 49 (.tmp 45) (.tmp 43) rfl rfl rfl Hd5.out i8W ?_
          intro w6 hd6 hc6
          refine hK.out _ _ trivial ?_
          clear hK K
          have Hd6 := Lib.hid hd6
          have Hr6 := Lib.hid (hc6.rd Hr5.out HsA.out)
          have Hc6 := Lib.hid (Hc5.out.trans hc6)
          have Hk6 := Lib.hid (hc6.kt Hk5.out Hg.out)
          have hld := Hd6.out.held
          have hfr := Hd6.out.free 136
          clear hd6 hc6
          try simp only [Act.put, List.setIfInBounds_toArray, List.set_cons_zero, List.set_cons_succ]
          refine restS_done (by kernel_rfl) ?_
          go_wp2
          exact AddIn.full Hl2.out HN2.out Hkl.out Hpl.out Htk.out Ha.out Hsh.out (by omega) (by omega) hk0 hN0 Hd6.out Hr6.out HsA.out Hc6.out Hk6.out Hg.out
        · refine wp_load_mid 51 (.tmp 41) rfl g 8 rfl _ _ Hd4.out.block u128B rfl Hi64.out (hK.out _ _ trivial ?_)
          clear hK K
          try simp only [Act.put, List.setIfInBounds_toArray, List.set_cons_zero, List.set_cons_succ]
          refine restS_lone (i := 4) rfl (by kernel_rfl) (by rfl) (fun K hK => ?_)
          refine wp_load_mid 49 (.tmp 37) rfl g 0 rfl _ _ Hd4.out.value u8W rfl Hi8.out (hK.out _ _ trivial ?_)
          clear hK K
          try simp only [Act.put, List.setIfInBounds_toArray, List.set_cons_zero, List.set_cons_succ]
          refine restS_lone (i := 9) rfl (by kernel_rfl) (by rfl) (fun K hK => ?_)
          go_simp
          refine (nv_any v b2 _ Hd4.out.2 Hk4.out).mono ?_
          rintro e w5 ⟨rfl, hg5⟩
          refine hK.out _ _ trivial ?_
          clear hK K
          have Hd5 := Lib.hid (Hd4.out.grow hg5)
          have Hr5 := Lib.hid (HrA4.out.grow hg5)
          have Hc5 := Lib.hid (Hc4.out.trans (Chg.of g hg5))
          have Hk5 := Lib.hid (Hk4.out.grow hg5)
          clear hg5
          try simp only [Act.put, List.setIfInBounds_toArray, List.set_cons_zero, List.set_cons_succ]
          refine restS_take (i := 10) trivial rfl (by kernel_rfl) (by kernel_rfl) (by kernel_rfl) (by rfl) (fun w' hg => by go_simp; try with_reducible rfl) ?_
          try simp only [Act.put, List.setIfInBounds_toArray, List.set_cons_zero, List.set_cons_succ]
          refine restS_take (i := 11) trivial rfl (by kernel_rfl) (by kernel_rfl) (by kernel_rfl) (by rfl) (fun w' hg => by go_simp; try with_reducible rfl) ?_
          try simp only [Act.put, List.setIfInBounds_toArray, List.set_cons_zero, List.set_cons_succ]
          refine restS_lone (i := 12) rfl (by kernel_rfl) (by rfl) (fun K hK => ?_)
          refine wp_store_val 49 (.tmp 45) (.tmp 43) rfl rfl rfl Hd5.out i8W ?_
          intro w6 hd6 hc6
          refine hK.out _ _ trivial ?_
          clear hK K
          have Hd6 := Lib.hid hd6
          have Hr6 := Lib.hid (hc6.rd Hr5.out HsA.out)
          have Hc6 := Lib.hid (Hc5.out.trans hc6)
          have Hk6 := Lib.hid (hc6.kt Hk5.out Hg.out)
          have hld := Hd6.out.held
          have hfr := Hd6.out.free 136
          clear hd6 hc6
          try simp only [Act.put, List.setIfInBounds_toArray, List.set_cons_zero, List.set_cons_succ]
          refine restS_done (by kernel_rfl) ?_
          go_wp2
          exact AddIn.full Hl2.out HN2.out Hkl.out Hpl.out Htk.out Ha.out Hsh.out (by omega) (by omega) hk0 hN0 Hd6.out Hr6.out HsA.out Hc6.out Hk6.out Hg.out
      · have hf2 : ((s : Int) == 128) = false := by simp; omega
        have hlt : s < 128 := by have := Hsh.out; omega
        clear hf
        go_wp2
        have hc3 : Chg g w2 (w2.setCell ⟨g, 136, none⟩ (.int .i64 (s : Int))) := Chg.setCell g w2 136 _
        refine ⟨⟨N - k, c - k, s, Ac, q ++ r.take k, r.drop k, b2, p ++ r.take k, v, rfl, by omega, by omega, hlt, Hl2.out, HN2.out, hc3.rd HrA.out HsA.out, HsA.out, ?_, ?_, ?_, Hd2.out.hold s, Hc2.out.trans hc3, hc3.kt Hk2.out Hg.out⟩, ?_⟩
        · show Ate _ _ _
          rw [← List.append_assoc]
          exact Ha.out.some (by rw [Hkl.out, Hpl.out, ← Hsh.out]; exact hlt)
        · show _ = _
          rw [List.length_append, Hkl.out, Hpl.out, Hsh.out]
        · show _ = _
          rw [Hsh.out]; exact Htk.out
        · simp only [sliceLen]; omega
    · obtain rfl : N = 0 := by omega
      go_wp2
      go_end0
      have hr0 : r = [] := List.eq_nil_of_length_eq_zero HN.out
      have hl0 : l = q := by rw [Hl.out, hr0, List.append_nil]
      refine ⟨rfl, Hc.out, v, p, buf, ?_, ?_, ?_⟩
      · rw [hl0]; exact Ha.out
      · rw [Hpl.out]; exact Hp.out
      · rw [Hpl.out]; exact Hd.out
end Go.Proofs.YtbofikghcoalbaaDoor.S4
