/-
  Contract of the program's Sum: the digest of its arguments put together.
-/
import Derived.Test.YtbofikghcoalbaaDoorSdAd
import Derived.Test.YtbofikghcoalbaaDoorSdDj
import Derived.Test.YtbofikghcoalbaaDoorSdFi
import Derived.Test.YtbofikghcoalbaaDoorFlt
namespace Go.Proofs.YtbofikghcoalbaaDoor.S4
open Go.RowKit
set_option linter.unusedVariables false
set_option linter.unusedSimpArgs false

set_option maxRecDepth 100000 in
theorem init_any (w : World) : Calls Tryd.prog 25 #[] w fun e w' => e = .returned (.agg (wvs H0.l).toArray) ∧ Grown w w' := by
  go_enter Tryd.func25, Tryd.ntmps25
  go_wp2_with (first
    | (refine wpList_store_last rfl 49 (.tmp 0) (.tmp 1) rfl (c' := (wvs H0.l).toArray) rfl rfl i8W rfl (by decide +kernel) ?_))
  refine ret_row rfl _ rfl (heap_alloc_new w _) u8W rfl i8W ⟨rfl, alloc_below w _⟩

theorem build_dg (W : World) : (Instr.build 53 #[(0, .agg (wvs H0.l).toArray)]).run Tryd.prog W = .ok (.agg (dgl H0 (List.replicate 128 0) 0).toArray) W := by kernel_rfl
theorem wpList_build {P : Program} {W : World} {ops : Array Oper} {rest : List Oper} {o : Oper} {a : Act} {Q : Exit → Act → World → Prop} (hgd : o.guard = none) (t : TypeId) (x : Operand) (ho : o.op = .build t #[(0, x)]) {u v : Value} (hx : a.eval x = u)
    (hr : (Instr.build t #[(0, u)]).run P W = .ok v W) (h : wpList P ops Q rest (a.put o.dst v) W) : wpList P ops Q (o :: rest) a W := by
  refine wpList_plain hgd fun K hK => ?_
  unfold Oper.wp execOp
  simp only [ho, hx, Sem.run_bind, Sem.run_pure, Result.andThen_ok, List.map_toArray, List.map_cons, List.map_nil, hr]
  exact hK _ _ h
theorem zero_dg (W : World) : (zeroValue 53).run Tryd.prog W = .ok (.agg (wvs (List.replicate 8 0) ++ (bvs (List.replicate 128 0) ++ [Value.int .i64 0])).toArray) W := by kernel_rfl
/-- The program's Sum is the digest of its arguments put together. -/
def SumPut : Prop := ∀ (A : Option Addr) (n c : Nat) (ls : List (List UInt8)) (w : World), Kt w → RdL w w.heap.size A ls → ls.length = n → n ≤ 100000 → ls.flatten.length ≤ 50000 →
  Calls Tryd.prog 19 #[.slice A n c] w fun e w' => e = .returned (.agg (arr (digest (sumV ls.flatten)))) ∧ Grown w w'

/-- Where Sum stands: the digester at g has taken T in. -/
def SuIn (w wr : World) (g : Nat) (T : List UInt8) : Prop :=
  ∃ v p buf, Ate T v p ∧ buf.take p.length = p ∧ Dg wr g v buf p.length ∧ Below w.heap.size w wr ∧ Kt wr ∧ ∃ z, wr.heap[w.heap.size]? = some (.cells z 24 (0, 0)) ∧ z.size = 64
theorem SuIn.below {w wr : World} {g : Nat} {T : List UInt8} (h : SuIn w wr g T) : Below w.heap.size w wr := by
  obtain ⟨_, _, _, _, _, _, h, _⟩ := h; exact h
theorem SuIn.grow {w wr w' : World} {g : Nat} {T : List UInt8} (h : SuIn w wr g T) (hg : Grown wr w') : SuIn w w' g T := by
  obtain ⟨v, p, buf, h1, h2, h3, h4, h5, z, h6, h7⟩ := h
  exact ⟨v, p, buf, h1, h2, h3.grow hg, h4.trans (hg.mono h4.size), h5.grow hg, z, (hg.block _ (lt_of_heap h6)).trans h6, h7⟩
theorem SuIn.add {w wr : World} {g : Nat} {T : List UInt8} (h : SuIn w wr g T) (hg : w.heap.size < g) (h0 : g ≠ 1) {A : Option Addr} {n c : Nat} {l : List UInt8} (hn : l.length = n) (hc : n ≤ c) (hl : n ≤ 1000000) (hr : Rd wr wr.heap.size A l) (hs : l ≠ [] → ∀ x, A = some x → x.block ≠ g) :
    Calls Tryd.prog 26 #[.pointer (some ⟨g, 0, none⟩), .slice A n c] wr fun e w' => e = .returned (.tuple #[]) ∧ SuIn w w' g (T ++ l) := by
  obtain ⟨v, p, buf, h1, h2, h3, h4, h5, z, h6, h7⟩ := h
  refine (add_any g A n c l T p buf v wr hn hc hl hr hs h1 h2 h3 h5 h0).mono ?_
  rintro e w' ⟨rfl, hch, v', p', buf', k1, k2, k3⟩
  exact ⟨rfl, v', p', buf', k1, k2, k3, hch.below h4 (Nat.le_refl _) (by omega), hch.kt h5 h0, z, (hch.block _ (lt_of_heap h6) (by omega)).trans h6, h7⟩

set_option maxHeartbeats 4000000 in
set_option maxRecDepth 100000 in
theorem sum_put : SumPut := by
  intro A n c ls w hk h hn hl hf
  have Hk := Lib.hid hk
  have Hn := Lib.hid hn
  have Hf := Lib.hid hf
  have H := Lib.hid h
  clear hk hn hf h
  go_enter Tryd.func19, Tryd.ntmps19
  go_wp2_with fail
  refine (init_any _).mono ?_
  rintro e w1 ⟨rfl, hg1⟩
  obtain ⟨D, hD⟩ : ∃ D, D = (dgl H0 (List.replicate 128 0) 0).toArray := ⟨_, rfl⟩
  have hbd : ∀ W : World, (Instr.build 53 #[(0, .agg (wvs H0.l).toArray)]).run Tryd.prog W = .ok (.agg D) W := by rw [hD]; exact build_dg
  have Hbd := Lib.hid hbd
  have HD := Lib.hid hD
  clear hD hbd
  have hDs : D.size = 137 := by rw [HD.out, List.size_toArray]; exact dgl_len _ _ _ (by simp)
  have Hi := Lib.hid (show (Tryd.prog.info? 53).map (·.size) = some D.size by rw [hDs]; exact i137)
  have Hsz := Lib.hid hDs
  have Hone := Lib.hid (show D.all (·.oneCell') = true by rw [HD.out]; decide +kernel)
  have Hg1 := Lib.hid (Grown.trans (alloc_below w _) hg1)
  have H2 := Lib.hid (show w1.heap[w.heap.size]? = _ from (hg1.block w.heap.size (by simp)).trans (heap_alloc_new w _))
  obtain ⟨Z, hZ⟩ : ∃ Z, Z = (wvs (List.replicate 8 0) ++ (bvs (List.replicate 128 0) ++ [Value.int .i64 0])).toArray := ⟨_, rfl⟩
  have hz : ∀ W : World, (zeroValue 53).run Tryd.prog W = .ok (.agg Z) W := fun W => by rw [hZ]; exact zero_dg W
  have HZ := Lib.hid (show Z.size = 137 by rw [hZ]; simp [wvs, bvs])
  clear hg1 hDs hZ
  go_wp2_with (first
    | (refine wpList_build rfl 53 (.tmp 7) rfl (u := .agg (wvs H0.l).toArray) (v := .agg D) rfl (Hbd.out _) ?_)
    | (refine wpList_store_last rfl 53 (.tmp 3) (.tmp 8) rfl rfl rfl Hi.out (by rw [Hsz.out, HZ.out]) Hone.out ?_))
  obtain ⟨g, hg⟩ : ∃ g, g = w1.heap.size := ⟨_, rfl⟩
  have hwg : w.heap.size < g := by rw [hg]; exact lt_of_heap H2.out
  have Hst := Lib.hid (show SuIn w (w1.alloc (.cells D 53)) g [] from by
    refine ⟨H0, [], List.replicate 128 0, Ate.start, rfl, ⟨?_, by simp⟩, Grown.trans Hg1.out (alloc_below w1 _), Hk.out.grow (Grown.trans Hg1.out (alloc_below w1 _)), ⟨_, (Below.heap_alloc _ _ _ (lt_of_heap H2.out)).trans H2.out, rfl⟩⟩
    rw [hg, HD.out]
    exact heap_alloc_new w1 _)
  rw [← hg]
  clear Hbd HD Hi Hsz Hone Hg1 H2 hz HZ hg
  have hw0 : 0 < w.heap.size := Nat.lt_of_le_of_lt (Nat.zero_le _) (World.block_lt_of_cell? w _ (Hk.out 0 (by omega)))
  have Hg0 := Lib.hid (show g ≠ 1 by have := World.block_lt_of_cell? w _ (Hk.out 0 (by omega)); omega)
  go_loopw [4, 11] (fun s i wr => ∃ t m : Nat, t ≤ n ∧ i = .int .i64 (t : Int) ∧ s = .int .i64 (m : Int) ∧ Hid (m = (ls.take t).flatten.length) ∧ Hid (SuIn w wr g (ls.take t).flatten)) (fun _ i _ => n - (intOf i).toNat)
  case atStart => exact ⟨0, 0, by omega, rfl, rfl, (by show _ = _; simp), (by show SuIn _ _ _ _; simpa using Hst.out)⟩
  case round =>
    clear Hst
    obtain ⟨t, m, ht, rfl, rfl, Hm, HI⟩ := hrel
    by_cases hlt : t < n
    · have htl : t < ls.length := by have := Hn.out; omega
      have hbw := HI.out.below
      obtain ⟨b1, o1, B1, d1, rfl, hb1, hc1, hd1, hr1⟩ := (H.out.keep hbw).at_ htl
      obtain ⟨k, hk⟩ : ∃ k, k = ls[t].length := ⟨_, rfl⟩
      have Hlk := Lib.hid hk.symm
      rw [← hk] at hc1 hd1
      have Hr1 := Lib.hid hr1
      have Hfl := Lib.hid (flat_take ls t htl)
      have hbd : m + k ≤ 50000 := by
        have h1 := flat_le ls (t + 1)
        rw [← flat_take ls t htl, List.length_append] at h1
        have h3 := Hf.out
        have h4 := Hm.out
        omega
      have Hbw := Lib.hid hbw
      clear hk hr1 hbw
      go_wp2_with fail
      refine (HI.out.add hwg Hg0.out Hlk.out hd1 (by omega) (Hr1.out.more Hbw.out.size) ?_).mono ?_
      · intro hne x hx
        obtain ⟨b, off, e, hb, _⟩ := Hr1.out.resolve_left hne
        rw [e] at hx
        simp only [Option.some.injEq] at hx
        rw [← hx]
        show b ≠ g
        omega
      rintro e w2 ⟨rfl, hs2⟩
      rw [Hfl.out] at hs2
      have Hs2 := Lib.hid hs2
      have Hm2 := Lib.hid (show m + k = (ls.take (t + 1)).flatten.length by rw [← Hfl.out, List.length_append, Hlk.out, Hm.out])
      clear hs2 HI
      go_wp2
      go_roundw
      case rel => exact ⟨t + 1, m + k, by omega, by go_num, by go_num, Hm2.out, Hs2.out⟩
      case measure => simp [intOf]; omega
    · obtain rfl : t = n := by omega
      have e : ls.take t = ls := List.take_of_length_le (by have := Hn.out; omega)
      rw [e] at HI Hm
      have hm5 : m ≤ 50000 := by have h1 := Hf.out; have h2 := Hm.out; omega
      clear e hlt ht
      go_wp2_with fail
      refine (dfill_any m _ (by omega)).mono ?_
      rintro e w2 ⟨A2, c2, rfl, ho2, hb2⟩
      have Hs2 := Lib.hid (HI.out.grow hb2)
      have hgl : g < wr.heap.size := by obtain ⟨_, _, _, _, _, hd, _⟩ := HI.out; exact hd.lt
      have Ho2 := Lib.hid ho2
      obtain ⟨F, hF⟩ : ∃ F, (fillL m).length = F := ⟨_, rfl⟩
      rw [hF]
      have hF2 : F ≤ 200 := by rw [← hF, fillL_len]; have : zs m < 128 := Nat.mod_lt _ (by omega); omega
      have HF := Lib.hid hF
      have hFc : F ≤ c2 := by have := Ho2.out.le; rw [HF.out] at this; exact this
      have Hsep := Lib.hid (show fillL m ≠ [] → ∀ x, A2 = some x → x.block ≠ g by
        intro _ x hx
        rcases Ho2.out.form with ⟨h1, _⟩ | ⟨g', cur, h1, h2, _⟩
        · rw [h1] at hx; cases hx
        · rw [h1] at hx
          simp only [Option.some.injEq] at hx
          rw [← hx]
          show g' ≠ g
          omega)
      clear ho2 hb2 hF HI
      go_wp2_with fail
      refine (Hs2.out.add hwg Hg0.out HF.out hFc (by omega) Ho2.out.rd Hsep.out).mono ?_
      rintro e w3 ⟨rfl, hs3⟩
      rw [Hm.out, show ls.flatten ++ fillL ls.flatten.length = padL ls.flatten from rfl] at hs3
      obtain ⟨v, p, buf, ha, _, hd, hb, _, z, hz, hz2⟩ := hs3
      have hv := ha.sum
      have Hd := Lib.hid hd
      have Hb := Lib.hid hb
      have Hz := Lib.hid hz
      have Hz2 := Lib.hid hz2
      have Hv := Lib.hid hv
      clear ha hd hb hz hz2 hv
      go_wp2_with fail
      refine (digest_any g v buf _ _ Hd.out).mono ?_
      rintro e w4 ⟨rfl, hg4⟩
      obtain ⟨E, hE⟩ : ∃ E, E = arr (digest v) := ⟨_, rfl⟩
      rw [← hE]
      have hEs : E.size = 64 := by rw [hE, arr_size, digest_len]
      have Hi := Lib.hid (show (Tryd.prog.info? 24).map (·.size) = some E.size by rw [hEs]; exact infoA)
      have Hsz := Lib.hid hEs
      have Hone := Lib.hid (show E.all (·.oneCell') = true by rw [hE]; exact arr_one _)
      have HE := Lib.hid hE
      have H4 := Lib.hid (show w4.heap[w.heap.size]? = some (.cells z 24 (0, 0)) from (hg4.block _ (lt_of_heap Hz.out)).trans Hz.out)
      have Hb4 := Lib.hid (Hb.out.trans (hg4.mono Hb.out.size))
      clear hE hEs hg4
      go_wp2_with (first
        | (refine wpList_store_row rfl 24 (.tmp 2) (.tmp 25) rfl rfl rfl H4.out Hi.out (by rw [Hz2.out, Hsz.out]) Hone.out ?_))
      refine ret_row rfl _ rfl (setRow_at H4.out) u64D rfl Hi.out ⟨by rw [HE.out, Hv.out], ?_⟩
      exact Below.setRow' Hb4.out (Nat.le_refl _) _

theorem put_one {w : World} {A : Option Addr} {p : List UInt8} {n c : Nat} (hk : Kt w) (h : Rd w w.heap.size A p) (hn : p.length = n) (hc : n ≤ c) (hl : n ≤ 50000) (fr : Nat × Nat) :
    Calls Tryd.prog 19 #[.slice (some ⟨w.heap.size, 0, none⟩) 1 1] (w.alloc (.cells #[.slice A n c] 22 fr)) fun e w' => e = .returned (.agg (arr (digest (sumV p)))) ∧ Grown w w' := by
  refine (sum_put (some ⟨w.heap.size, 0, none⟩) 1 1 [p] _ (hk.grow (alloc_below w _)) (rdL_one h hn hc fr) rfl (by omega) (by simp; omega)).mono ?_
  rintro e w' ⟨rfl, hb⟩
  exact ⟨by simp, Grown.trans (alloc_below w _) hb⟩
end Go.Proofs.YtbofikghcoalbaaDoor.S4
