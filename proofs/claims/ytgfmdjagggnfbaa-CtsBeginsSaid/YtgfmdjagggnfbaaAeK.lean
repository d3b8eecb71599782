/-
  Contract of the reference's Keys.
-/
import Derived.Test.YtgfmdjagggnfbaaAeS
import Derived.Test.YtgfmdjagggnfbaaAeL
import Derived.Test.YtgfmdjagggnfbaaAeI
import Derived.Test.YtgfmdjagggnfbaaGrs
namespace Go.Proofs.Ytgfmdjagggnfbaa.S7
open Go.RowKit
set_option linter.unusedVariables false
set_option linter.unusedSimpArgs false

theorem own_cells {w : World} {base : Nat} {A : Option Addr} {c : Nat} {l : List UInt8} (h : I.Own w base A c l) (hl : 0 < l.length) :
    ∃ g, A = some ⟨g, 0, none⟩ ∧ base ≤ g ∧ g < w.heap.size ∧ ∀ w', Grown w w' → ∀ j, j < l.length → w'.cell? ⟨g, j, none⟩ = some (.int .i64 ((gt l j).toNat : Int)) := by
  rcases h.form with ⟨_, rfl, _⟩ | ⟨g, cur, rfl, hgb, hg, _, ht⟩
  · simp at hl
  · refine ⟨g, rfl, hgb, lt_of_heap hg, fun w' hw j hj => ?_⟩
    rw [Below.cell hw (p := ⟨g, j, none⟩) (lt_of_heap hg), cell_of_row w g j cur 3 (0, 0) hg]
    have h8 : (cur.toList.take l.length)[j]? = (I.bvs l)[j]? := by rw [ht]
    rw [List.getElem?_take, if_pos hj] at h8
    simpa [I.bvs, I.bv, gt, hj] using h8
/-- Where Keys stands between two words. -/
def KeyIn (w wr : World) (k : List UInt8) (v3 v5 v6 : Value) : Prop :=
  ∃ (n i L P c1 : Nat) (A1 : Option Addr), v3 = .slice A1 L c1 ∧ v5 = .int .i64 (P : Int) ∧ v6 = .int .i64 (i : Int) ∧ i ≤ 60 ∧ 8 ≤ i ∧ P < 256 ∧ Hid (i = 8 + n) ∧ Hid (L = 4 * (8 + n)) ∧ Hid (P = (pw ((i + 7) / 8 - 1)).toNat) ∧ Hid (I.Own wr w.heap.size A1 c1 (ks k n)) ∧ Hid (Below w.heap.size w wr)
theorem word_get (w : List UInt8) (i j : Nat) (h : j < (word w i).length) : (word w i)[j] = gt w (4 * i - 32 + j) ^^^ gt (nxt w i) j := by simp [word]
theorem own_block {w w' : World} {base g c : Nat} {l : List UInt8} (h : I.Own w base (some ⟨g, 0, none⟩) c l) (hb : w'.heap[g]? = w.heap[g]?) : I.Own w' base (some ⟨g, 0, none⟩) c l := by
  refine ⟨h.1, ?_⟩
  rcases h.2 with h1 | ⟨g1, cap, cur, h1, h2, h3, r⟩
  · exact .inl h1
  · have e : g1 = g := by simp only [Value.slice.injEq, Option.some.injEq, Addr.mk.injEq] at h1; exact h1.1.1.symm
    subst e
    exact .inr ⟨g1, cap, cur, h1, h2, by rw [hb]; exact h3, r⟩
theorem s_byte (x : UInt8) (w : World) : Calls Try.prog 31 #[.int .i64 (x.toNat : Int)] w fun e w' => e = .returned (.int .i64 ((sB x).toNat : Int)) ∧ w' = w := by
  rw [← sN_eq x]
  exact s_any x.toNat x.toNat_lt w

set_option maxHeartbeats 4000000 in
set_option maxRecDepth 20000 in
theorem keys_any (A : Option Addr) (c : Nat) (k : List UInt8) (w : World) (h : Rd w w.heap.size A k) (hk : k.length = 32) : Calls Try.prog 17 #[.slice A 32 c] w (I.Makes w (keysL k)) := by
  have H := Lib.hid h
  have Hk := Lib.hid hk
  clear h hk
  go_enter Try.func17, Try.ntmps17
  go_wp2
  go_loopw [3, 4] (fun v3 v4 wr => ∃ (t c1 : Nat) (A1 : Option Addr), t ≤ 32 ∧ v3 = .slice A1 t c1 ∧ v4 = .int .i64 (t : Int) ∧ Hid (I.Own wr w.heap.size A1 c1 (k.take t)) ∧ Hid (Below w.heap.size w wr)) (fun _ v4 _ => 32 - (intOf v4).toNat)
  case atStart => exact ⟨0, 0, none, by omega, rfl, rfl, I.Own.nil _ _, Below.refl _ _⟩
  case round =>
    obtain ⟨t, c1, A1, ht, rfl, rfl, HO, HB⟩ := hrel
    by_cases hlt : t < 32
    · have htk : t < k.length := by have := Hk.out; omega
      obtain ⟨b, off, hA, hbB, hcl⟩ := (H.out.below HB.out).at_ htk
      subst hA
      obtain ⟨x, hx⟩ : ∃ x, x = k[t] := ⟨_, rfl⟩
      rw [← hx] at hcl
      have Htk := Lib.hid (show k.take t ++ [x] = k.take (t + 1) by rw [hx]; exact (take_snoc k t htk).symm)
      have hxl := u8_lt x
      have HL := Lib.hid (show (k.take t).length = t by rw [List.length_take]; omega)
      have HL2 := Lib.hid (show (k.take (t + 1)).length = t + 1 by rw [List.length_take]; omega)
      have hsz := HB.out.size
      clear hx htk
      go_wp2_with (first
        | (at_builtin
           refine I.wpList_app rfl (.tmp 13) (.tmp 19) rfl (base := w.heap.size) (l := k.take t) (by rw [HL.out]; rfl) (HO.out.grow (alloc_below wr _)) (l2 := [x]) rfl ((I.Row.new wr [x]).rd (Nat.lt_succ_self _)) (by rw [HL.out]; simp; omega) (by simp; omega) (k.take (t + 1)) Htk.out ?_
           intro A3 c3 w3 ho3 hb3
           rw [HL2.out]
           have Ho3 := Lib.hid ho3
           have Hb3 := Lib.hid (((Below.alloc HB.out hsz _)).trans hb3)
           clear ho3 hb3))
      go_roundw
      case rel => exact ⟨t + 1, c3, A3, by omega, rfl, by go_num, Ho3.out, Hb3.out⟩
      case measure => simp [intOf]; omega
    · have Ht := Lib.hid (show t = 32 by omega)
      have HO2 := Lib.hid (show I.Own wr w.heap.size A1 c1 (ks k 0) by have := HO.out; rwa [List.take_of_length_le (by rw [Hk.out, Ht.out]; omega)] at this)
      clear HO
      go_wp2
      go_loopw [3, 5, 6] (fun v3 v5 v6 wr => KeyIn w wr k v3 v5 v6) (fun _ _ v6 _ => 60 - (intOf v6).toNat)
      case atStart => exact ⟨0, 8, t, 1, c1, A1, rfl, rfl, rfl, by omega, by omega, by omega, rfl, (by show t = 4 * (8 + 0); rw [Ht.out]), rfl, HO2.out, HB.out⟩
      case round =>
        clear HB HO2
        obtain ⟨n, i, L, P, c1, A1, rfl, rfl, rfl, hi, hi8, hP, Hi, HL, HP, OW, GB⟩ := hrel
        by_cases hlt : i < 60
        · have hksl : (ks k n).length = L := by rw [ks_len k Hk.out, HL.out]
          have hL4 : L = 4 * i := by rw [HL.out, Hi.out]
          obtain ⟨g, rfl, hgb, hgv, hcz⟩ := own_cells OW.out (by omega)
          clear hcz
          obtain ⟨x0, hx0⟩ : ∃ x, x = gt (ks k n) (L - 4) := ⟨_, rfl⟩
          obtain ⟨x1, hx1⟩ : ∃ x, x = gt (ks k n) (L - 3) := ⟨_, rfl⟩
          obtain ⟨x2, hx2⟩ : ∃ x, x = gt (ks k n) (L - 2) := ⟨_, rfl⟩
          obtain ⟨x3, hx3⟩ : ∃ x, x = gt (ks k n) (L - 1) := ⟨_, rfl⟩
          have HX := Lib.hid (show (∀ v, I.Own v w.heap.size (some ⟨g, 0, none⟩) c1 (ks k n) → ∀ w', Grown v w' → w'.cell? ⟨g, L - 4, none⟩ = some (.int .i64 (x0.toNat : Int)) ∧ w'.cell? ⟨g, L - 3, none⟩ = some (.int .i64 (x1.toNat : Int)) ∧ w'.cell? ⟨g, L - 2, none⟩ = some (.int .i64 (x2.toNat : Int)) ∧ w'.cell? ⟨g, L - 1, none⟩ = some (.int .i64 (x3.toNat : Int))) from fun v hv w' hw => by
            obtain ⟨g', e, _, _, hc⟩ := own_cells hv (by omega)
            cases e
            rw [hx0, hx1, hx2, hx3]
            exact ⟨hc w' hw _ (by omega), hc w' hw _ (by omega), hc w' hw _ (by omega), hc w' hw _ (by omega)⟩)
          have HN := Lib.hid (show nxt (ks k n) (8 + n) = if i % 8 = 0 then [sB x1 ^^^ pw (i / 8 - 1), sB x2, sB x3, sB x0] else if i % 8 = 4 then [sB x0, sB x1, sB x2, sB x3] else [x0, x1, x2, x3] by
            rw [hx0, hx1, hx2, hx3, hL4, ← Hi.out]; rfl)
          obtain ⟨La, hLa⟩ : ∃ x, x = L - 4 := ⟨_, rfl⟩
          obtain ⟨Lb, hLb⟩ : ∃ x, x = L - 3 := ⟨_, rfl⟩
          obtain ⟨Lc, hLc⟩ : ∃ x, x = L - 2 := ⟨_, rfl⟩
          obtain ⟨Ld, hLd⟩ : ∃ x, x = L - 1 := ⟨_, rfl⟩
          rw [← hLa, ← hLb, ← hLc, ← hLd] at HX
          have h4i : 4 * (i : Int) = (L : Int) := by omega
          have ha : (L : Int) - 4 = (La : Int) := by omega
          have hb : (L : Int) - 3 = (Lb : Int) := by omega
          have hc : (L : Int) - 2 = (Lc : Int) := by omega
          have hd : (L : Int) - 1 = (Ld : Int) := by omega
          have wL : IntKind.i64.wrap (L : Int) = (L : Int) := by rw [IntKind.wrap_i64]; omega
          have wa : IntKind.i64.wrap (La : Int) = (La : Int) := by rw [IntKind.wrap_i64]; omega
          have wb : IntKind.i64.wrap (Lb : Int) = (Lb : Int) := by rw [IntKind.wrap_i64]; omega
          have wc : IntKind.i64.wrap (Lc : Int) = (Lc : Int) := by rw [IntKind.wrap_i64]; omega
          have wd : IntKind.i64.wrap (Ld : Int) = (Ld : Int) := by rw [IntKind.wrap_i64]; omega
          have hal : La < L := by omega
          have hbl : Lb < L := by omega
          have hcl : Lc < L := by omega
          have hdl : Ld < L := by omega
          have hLl : L ≤ 240 := by omega
          have HL4 := Lib.hid hL4
          have Hksl := Lib.hid hksl
          clear hx0 hx1 hx2 hx3 hLa hLb hLc hLd hL4 hksl
          go_wp2
          try simp only [Act.put]
          refine rest_start (by kernel_rfl) fun v hv => ?_
          replace OW := Lib.hid (OW.out.grow hv)
          replace GB := Lib.hid (Below.trans GB.out (Below.mono hv GB.out.size))
          clear hv
          replace hgv : g < v.heap.size := by obtain ⟨g', e, _, h, _⟩ := own_cells OW.out (by have := Hksl.out; omega); cases e; exact h
          have HC := Lib.hid (HX.out v OW.out)
          refine rest_take (i := 0) rfl (by kernel_rfl) (by kernel_rfl) (by kernel_rfl) (by rfl) (fun w' hg => by go_simp; try with_reducible rfl) ?_
          try simp only [Act.put, List.setIfInBounds_toArray, List.set_cons_zero, List.set_cons_succ]
          refine rest_take (i := 1) rfl (by kernel_rfl) (by kernel_rfl) (by kernel_rfl) (by rfl) (fun w' hg => by go_simp; try with_reducible rfl) ?_
          try simp only [Act.put, List.setIfInBounds_toArray, List.set_cons_zero, List.set_cons_succ]
          refine rest_take (i := 2) rfl (by kernel_rfl) (by kernel_rfl) (by kernel_rfl) (by rfl) (fun w' hg => by go_simp; try with_reducible rfl) ?_
          try simp only [Act.put, List.setIfInBounds_toArray, List.set_cons_zero, List.set_cons_succ]
          refine rest_take (i := 3) rfl (by kernel_rfl) (by kernel_rfl) (by kernel_rfl) (by rfl) (fun w' hg => by go_simp; try with_reducible rfl) ?_
          try simp only [Act.put, List.setIfInBounds_toArray, List.set_cons_zero, List.set_cons_succ]
          refine rest_take (i := 4) rfl (by kernel_rfl) (by kernel_rfl) (by kernel_rfl) (by rfl) (fun w' hg => by go_simp; try with_reducible rfl) ?_
          try simp only [Act.put, List.setIfInBounds_toArray, List.set_cons_zero, List.set_cons_succ]
          refine rest_take (i := 5) rfl (by kernel_rfl) (by kernel_rfl) (by kernel_rfl) (by rfl) (fun w' hg => by obtain ⟨c0, c1', c2', c3'⟩ := HC.out w' hg; go_simp; try with_reducible rfl) ?_
          try simp only [Act.put, List.setIfInBounds_toArray, List.set_cons_zero, List.set_cons_succ]
          refine rest_take (i := 6) rfl (by kernel_rfl) (by kernel_rfl) (by kernel_rfl) (by rfl) (fun w' hg => by go_simp; try with_reducible rfl) ?_
          try simp only [Act.put, List.setIfInBounds_toArray, List.set_cons_zero, List.set_cons_succ]
          refine rest_take (i := 7) rfl (by kernel_rfl) (by kernel_rfl) (by kernel_rfl) (by rfl) (fun w' hg => by go_simp; try with_reducible rfl) ?_
          try simp only [Act.put, List.setIfInBounds_toArray, List.set_cons_zero, List.set_cons_succ]
          refine rest_take (i := 8) rfl (by kernel_rfl) (by kernel_rfl) (by kernel_rfl) (by rfl) (fun w' hg => by go_simp; try with_reducible rfl) ?_
          try simp only [Act.put, List.setIfInBounds_toArray, List.set_cons_zero, List.set_cons_succ]
          refine rest_take (i := 9) rfl (by kernel_rfl) (by kernel_rfl) (by kernel_rfl) (by rfl) (fun w' hg => by go_simp; try with_reducible rfl) ?_
          try simp only [Act.put, List.setIfInBounds_toArray, List.set_cons_zero, List.set_cons_succ]
          refine rest_take (i := 10) rfl (by kernel_rfl) (by kernel_rfl) (by kernel_rfl) (by rfl) (fun w' hg => by go_simp; try with_reducible rfl) ?_
          try simp only [Act.put, List.setIfInBounds_toArray, List.set_cons_zero, List.set_cons_succ]
          refine rest_take (i := 11) rfl (by kernel_rfl) (by kernel_rfl) (by kernel_rfl) (by rfl) (fun w' hg => by obtain ⟨c0, c1', c2', c3'⟩ := HC.out w' hg; go_simp; try with_reducible rfl) ?_
          try simp only [Act.put, List.setIfInBounds_toArray, List.set_cons_zero, List.set_cons_succ]
          refine rest_take (i := 12) rfl (by kernel_rfl) (by kernel_rfl) (by kernel_rfl) (by rfl) (fun w' hg => by go_simp; try with_reducible rfl) ?_
          try simp only [Act.put, List.setIfInBounds_toArray, List.set_cons_zero, List.set_cons_succ]
          refine rest_take (i := 13) rfl (by kernel_rfl) (by kernel_rfl) (by kernel_rfl) (by rfl) (fun w' hg => by go_simp; try with_reducible rfl) ?_
          try simp only [Act.put, List.setIfInBounds_toArray, List.set_cons_zero, List.set_cons_succ]
          refine rest_take (i := 14) rfl (by kernel_rfl) (by kernel_rfl) (by kernel_rfl) (by rfl) (fun w' hg => by go_simp; try with_reducible rfl) ?_
          try simp only [Act.put, List.setIfInBounds_toArray, List.set_cons_zero, List.set_cons_succ]
          refine rest_take (i := 15) rfl (by kernel_rfl) (by kernel_rfl) (by kernel_rfl) (by rfl) (fun w' hg => by go_simp; try with_reducible rfl) ?_
          try simp only [Act.put, List.setIfInBounds_toArray, List.set_cons_zero, List.set_cons_succ]
          refine rest_take (i := 16) rfl (by kernel_rfl) (by kernel_rfl) (by kernel_rfl) (by rfl) (fun w' hg => by go_simp; try with_reducible rfl) ?_
          try simp only [Act.put, List.setIfInBounds_toArray, List.set_cons_zero, List.set_cons_succ]
          refine rest_take (i := 17) rfl (by kernel_rfl) (by kernel_rfl) (by kernel_rfl) (by rfl) (fun w' hg => by obtain ⟨c0, c1', c2', c3'⟩ := HC.out w' hg; go_simp; try with_reducible rfl) ?_
          try simp only [Act.put, List.setIfInBounds_toArray, List.set_cons_zero, List.set_cons_succ]
          refine rest_take (i := 18) rfl (by kernel_rfl) (by kernel_rfl) (by kernel_rfl) (by rfl) (fun w' hg => by go_simp; try with_reducible rfl) ?_
          try simp only [Act.put, List.setIfInBounds_toArray, List.set_cons_zero, List.set_cons_succ]
          refine rest_take (i := 19) rfl (by kernel_rfl) (by kernel_rfl) (by kernel_rfl) (by rfl) (fun w' hg => by go_simp; try with_reducible rfl) ?_
          try simp only [Act.put, List.setIfInBounds_toArray, List.set_cons_zero, List.set_cons_succ]
          refine rest_take (i := 20) rfl (by kernel_rfl) (by kernel_rfl) (by kernel_rfl) (by rfl) (fun w' hg => by go_simp; try with_reducible rfl) ?_
          try simp only [Act.put, List.setIfInBounds_toArray, List.set_cons_zero, List.set_cons_succ]
          refine rest_take (i := 21) rfl (by kernel_rfl) (by kernel_rfl) (by kernel_rfl) (by rfl) (fun w' hg => by go_simp; try with_reducible rfl) ?_
          try simp only [Act.put, List.setIfInBounds_toArray, List.set_cons_zero, List.set_cons_succ]
          refine rest_take (i := 22) rfl (by kernel_rfl) (by kernel_rfl) (by kernel_rfl) (by rfl) (fun w' hg => by go_simp; try with_reducible rfl) ?_
          try simp only [Act.put, List.setIfInBounds_toArray, List.set_cons_zero, List.set_cons_succ]
          refine rest_take (i := 23) rfl (by kernel_rfl) (by kernel_rfl) (by kernel_rfl) (by rfl) (fun w' hg => by obtain ⟨c0, c1', c2', c3'⟩ := HC.out w' hg; go_simp; try with_reducible rfl) ?_
          try simp only [Act.put, List.setIfInBounds_toArray, List.set_cons_zero, List.set_cons_succ]
          clear HC
          refine rest_lone (i := 24) rfl (by kernel_rfl) (by rfl) (fun K hK => ?_)
          go_simp
          refine hK.out _ _ (alloc_below v _) ?_
          clear hK K
          have OT := Lib.hid (show I.Own (v.alloc (.cells #[.int .i64 (x0.toNat : Int), .int .i64 (x1.toNat : Int), .int .i64 (x2.toNat : Int), .int .i64 (x3.toNat : Int)] 3)) w.heap.size (some ⟨v.heap.size, 0, none⟩) 4 [x0, x1, x2, x3] from I.Own.lit v [x0, x1, x2, x3] GB.out.size (by simp))
          have hb := alloc_below v (.cells #[.int .i64 (x0.toNat : Int), .int .i64 (x1.toNat : Int), .int .i64 (x2.toNat : Int), .int .i64 (x3.toNat : Int)] 3)
          have AP := Lib.hid (show I.Apart (some ⟨g, 0, none⟩) (some ⟨v.heap.size, 0, none⟩) from fun a b ha hb => by cases ha; cases hb; exact Nat.ne_of_lt hgv)
          replace hgv := Nat.lt_of_lt_of_le hgv (Below.size hb)
          replace OW := Lib.hid (OW.out.grow hb)
          replace GB := Lib.hid (Below.trans GB.out (Below.mono hb GB.out.size))
          clear hb
          generalize hgt : v.heap.size = gt7 at OT AP ⊢
          clear hgt
          generalize v.alloc _ = v7 at OW OT GB hgv ⊢
          try simp only [Act.put, List.setIfInBounds_toArray, List.set_cons_zero, List.set_cons_succ]
          refine rest_take (i := 25) rfl (by kernel_rfl) (by kernel_rfl) (by kernel_rfl) (by rfl) (fun w' hg => by go_simp; try with_reducible rfl) ?_
          try simp only [Act.put, List.setIfInBounds_toArray, List.set_cons_zero, List.set_cons_succ]
          refine rest_done (by kernel_rfl) ?_
          clear HX ha hb hc hd wa wb wc wd hal hbl hcl hdl
          by_cases h0 : i % 8 = 0
          · have hb0 : ((i : Int) % 8 == 0) = true := by simp; omega
            obtain ⟨m, hm⟩ : ∃ m, m = i / 8 - 1 := ⟨_, rfl⟩
            have hPm : P = (pw m).toNat := by rw [HP.out, hm]; congr 2; omega
            obtain ⟨y, hy⟩ : ∃ y, y = sB x1 ^^^ pw m := ⟨_, rfl⟩
            have hxy : bits .xor .i64 ((sB x1).toNat : Int) (P : Int) = (y.toNat : Int) := by rw [hy, hPm, UInt8.toNat_xor]; exact bits_xor_i64 _ _ (by have := u8_lt (sB x1); omega) (by have := u8_lt (pw m); omega)
            have HP1 := Lib.hid (show timesN 2 P = (pw ((i + 1 + 7) / 8 - 1)).toNat by rw [hPm, times2, show (i + 1 + 7) / 8 - 1 = m + 1 by omega]; rfl)
            have HTL1 := Lib.hid (show [y, sB x2, sB x3, sB x0] = nxt (ks k n) (8 + n) by rw [HN.out, if_pos h0, hy, hm])
            clear hm hPm hy HN HP
            go_wp2
            try simp only [Act.put]
            refine rest_start (by kernel_rfl) fun v hv => ?_
            replace OW := Lib.hid (OW.out.grow hv)
            replace OT := Lib.hid (OT.out.grow hv)
            replace GB := Lib.hid (Below.trans GB.out (Below.mono hv GB.out.size))
            clear hv
            have HTC := Lib.hid (show ∀ w', Grown v w' → w'.cell? ⟨gt7, 0, none⟩ = some (.int .i64 (x0.toNat : Int)) ∧ w'.cell? ⟨gt7, 1, none⟩ = some (.int .i64 (x1.toNat : Int)) ∧ w'.cell? ⟨gt7, 2, none⟩ = some (.int .i64 (x2.toNat : Int)) ∧ w'.cell? ⟨gt7, 3, none⟩ = some (.int .i64 (x3.toNat : Int)) from fun w' hw => by
              obtain ⟨g', e, _, _, hc⟩ := own_cells OT.out (by simp)
              cases e
              exact ⟨hc w' hw 0 (by simp), hc w' hw 1 (by simp), hc w' hw 2 (by simp), hc w' hw 3 (by simp)⟩)
            replace hgv : g < v.heap.size := by obtain ⟨g', e, _, h, _⟩ := own_cells OW.out (by have := Hksl.out; omega); cases e; exact h
            refine rest_take (i := 0) rfl (by kernel_rfl) (by kernel_rfl) (by kernel_rfl) (by rfl) (fun w' hg => by go_simp; try with_reducible rfl) ?_
            try simp only [Act.put, List.setIfInBounds_toArray, List.set_cons_zero, List.set_cons_succ]
            refine rest_take (i := 1) rfl (by kernel_rfl) (by kernel_rfl) (by kernel_rfl) (by rfl) (fun w' hg => by go_simp; try with_reducible rfl) ?_
            try simp only [Act.put, List.setIfInBounds_toArray, List.set_cons_zero, List.set_cons_succ]
            refine rest_take (i := 2) rfl (by kernel_rfl) (by kernel_rfl) (by kernel_rfl) (by rfl) (fun w' hg => by obtain ⟨c0, c1', c2', c3'⟩ := HTC.out w' hg; go_simp; try with_reducible rfl) ?_
            try simp only [Act.put, List.setIfInBounds_toArray, List.set_cons_zero, List.set_cons_succ]
            refine rest_take (i := 4) rfl (by kernel_rfl) (by kernel_rfl) (by kernel_rfl) (by rfl) (fun w' hg => by go_simp; try with_reducible rfl) ?_
            try simp only [Act.put, List.setIfInBounds_toArray, List.set_cons_zero, List.set_cons_succ]
            refine rest_take (i := 6) rfl (by kernel_rfl) (by kernel_rfl) (by kernel_rfl) (by rfl) (fun w' hg => by go_simp; try with_reducible rfl) ?_
            try simp only [Act.put, List.setIfInBounds_toArray, List.set_cons_zero, List.set_cons_succ]
            refine rest_take (i := 7) rfl (by kernel_rfl) (by kernel_rfl) (by kernel_rfl) (by rfl) (fun w' hg => by go_simp; try with_reducible rfl) ?_
            try simp only [Act.put, List.setIfInBounds_toArray, List.set_cons_zero, List.set_cons_succ]
            refine rest_take (i := 8) rfl (by kernel_rfl) (by kernel_rfl) (by kernel_rfl) (by rfl) (fun w' hg => by obtain ⟨c0, c1', c2', c3'⟩ := HTC.out w' hg; go_simp; try with_reducible rfl) ?_
            try simp only [Act.put, List.setIfInBounds_toArray, List.set_cons_zero, List.set_cons_succ]
            refine rest_take (i := 10) rfl (by kernel_rfl) (by kernel_rfl) (by kernel_rfl) (by rfl) (fun w' hg => by go_simp; try with_reducible rfl) ?_
            try simp only [Act.put, List.setIfInBounds_toArray, List.set_cons_zero, List.set_cons_succ]
            refine rest_take (i := 11) rfl (by kernel_rfl) (by kernel_rfl) (by kernel_rfl) (by rfl) (fun w' hg => by go_simp; try with_reducible rfl) ?_
            try simp only [Act.put, List.setIfInBounds_toArray, List.set_cons_zero, List.set_cons_succ]
            refine rest_take (i := 12) rfl (by kernel_rfl) (by kernel_rfl) (by kernel_rfl) (by rfl) (fun w' hg => by obtain ⟨c0, c1', c2', c3'⟩ := HTC.out w' hg; go_simp; try with_reducible rfl) ?_
            try simp only [Act.put, List.setIfInBounds_toArray, List.set_cons_zero, List.set_cons_succ]
            refine rest_take (i := 14) rfl (by kernel_rfl) (by kernel_rfl) (by kernel_rfl) (by rfl) (fun w' hg => by go_simp; try with_reducible rfl) ?_
            try simp only [Act.put, List.setIfInBounds_toArray, List.set_cons_zero, List.set_cons_succ]
            refine rest_take (i := 15) rfl (by kernel_rfl) (by kernel_rfl) (by kernel_rfl) (by rfl) (fun w' hg => by go_simp; try with_reducible rfl) ?_
            try simp only [Act.put, List.setIfInBounds_toArray, List.set_cons_zero, List.set_cons_succ]
            refine rest_take (i := 16) rfl (by kernel_rfl) (by kernel_rfl) (by kernel_rfl) (by rfl) (fun w' hg => by obtain ⟨c0, c1', c2', c3'⟩ := HTC.out w' hg; go_simp; try with_reducible rfl) ?_
            try simp only [Act.put, List.setIfInBounds_toArray, List.set_cons_zero, List.set_cons_succ]
            clear HTC
            refine rest_lone (i := 3) rfl (by kernel_rfl) (by rfl) (fun K hK => ?_)
            go_simp
            refine (s_byte x1 _).mono ?_
            rintro e v2 ⟨rfl, rfl⟩
            refine hK.out _ _ (Grown.refl _) ?_
            clear hK K
            try simp only [Act.put, List.setIfInBounds_toArray, List.set_cons_zero, List.set_cons_succ]
            refine rest_take (i := 5) rfl (by kernel_rfl) (by kernel_rfl) (by kernel_rfl) (by rfl) (fun w' hg => by go_simp; try with_reducible rfl) ?_
            try simp only [Act.put, List.setIfInBounds_toArray, List.set_cons_zero, List.set_cons_succ]
            refine rest_lone (i := 9) rfl (by kernel_rfl) (by rfl) (fun K hK => ?_)
            go_simp
            refine (s_byte x2 _).mono ?_
            rintro e v2 ⟨rfl, rfl⟩
            refine hK.out _ _ (Grown.refl _) ?_
            clear hK K
            try simp only [Act.put, List.setIfInBounds_toArray, List.set_cons_zero, List.set_cons_succ]
            refine rest_lone (i := 13) rfl (by kernel_rfl) (by rfl) (fun K hK => ?_)
            go_simp
            refine (s_byte x3 _).mono ?_
            rintro e v2 ⟨rfl, rfl⟩
            refine hK.out _ _ (Grown.refl _) ?_
            clear hK K
            try simp only [Act.put, List.setIfInBounds_toArray, List.set_cons_zero, List.set_cons_succ]
            refine rest_lone (i := 17) rfl (by kernel_rfl) (by rfl) (fun K hK => ?_)
            go_simp
            refine (s_byte x0 _).mono ?_
            rintro e v2 ⟨rfl, rfl⟩
            refine hK.out _ _ (Grown.refl _) ?_
            clear hK K
            try simp only [Act.put, List.setIfInBounds_toArray, List.set_cons_zero, List.set_cons_succ]
            clear OT AP
            refine rest_lone (i := 18) rfl (by kernel_rfl) (by rfl) (fun K hK => ?_)
            go_simp
            refine hK.out _ _ (alloc_below v2 _) ?_
            clear hK K
            have OT := Lib.hid (show I.Own (v2.alloc (.cells #[.int .i64 ((y).toNat : Int), .int .i64 ((sB x2).toNat : Int), .int .i64 ((sB x3).toNat : Int), .int .i64 ((sB x0).toNat : Int)] 3)) w.heap.size (some ⟨v2.heap.size, 0, none⟩) 4 [(y), (sB x2), (sB x3), (sB x0)] from I.Own.lit v2 [(y), (sB x2), (sB x3), (sB x0)] GB.out.size (by simp))
            have hb := alloc_below v2 (.cells #[.int .i64 ((y).toNat : Int), .int .i64 ((sB x2).toNat : Int), .int .i64 ((sB x3).toNat : Int), .int .i64 ((sB x0).toNat : Int)] 3)
            have AP := Lib.hid (show I.Apart (some ⟨g, 0, none⟩) (some ⟨v2.heap.size, 0, none⟩) from fun a b ha hb => by cases ha; cases hb; exact Nat.ne_of_lt hgv)
            replace hgv := Nat.lt_of_lt_of_le hgv (Below.size hb)
            replace OW := Lib.hid (OW.out.grow hb)
            replace GB := Lib.hid (Below.trans GB.out (Below.mono hb GB.out.size))
            clear hb
            generalize hgt : v2.heap.size = gt7 at OT AP ⊢
            clear hgt
            generalize v2.alloc _ = v7 at OW OT GB hgv ⊢
            try simp only [Act.put, List.setIfInBounds_toArray, List.set_cons_zero, List.set_cons_succ]
            refine rest_take (i := 19) rfl (by kernel_rfl) (by kernel_rfl) (by kernel_rfl) (by rfl) (fun w' hg => by go_simp; try with_reducible rfl) ?_
            try simp only [Act.put, List.setIfInBounds_toArray, List.set_cons_zero, List.set_cons_succ]
            refine rest_done (by kernel_rfl) ?_
            go_wp2_with fail
            refine (times_any 2 P (by omega) hP _).mono ?_
            rintro e v9 ⟨rfl, rfl⟩
            obtain ⟨P2, hP2⟩ : ∃ P2, P2 = timesN 2 P := ⟨_, rfl⟩
            rw [← hP2]
            have hP2l : P2 < 256 := by rw [hP2]; exact timesN_lt 2 P hP
            have HP2 := Lib.hid (show P2 = (pw ((i + 1 + 7) / 8 - 1)).toNat by rw [hP2]; exact HP1.out)
            obtain ⟨tl, htl⟩ : ∃ tl, tl = [y, sB x2, sB x3, sB x0] := ⟨_, rfl⟩
            have HTL := Lib.hid (show tl = nxt (ks k n) (8 + n) by rw [htl]; exact HTL1.out)
            have HTl := Lib.hid (show tl.length = 4 by rw [htl]; rfl)
            rw [← htl] at OT
            obtain ⟨Le, hLe⟩ : ∃ x, x = L - 32 := ⟨_, rfl⟩
            have hLe2 : Le + 32 = L := by have := HL4.out; omega
            have HLe := Lib.hid hLe
            clear hP2 htl HP1 HTL1 hLe
            have hL32 : (L : Int) - 32 = (Le : Int) := by omega
            go_wp2
            go_loopw [3, 8] (fun v3 v8 wr => ∃ (kk M c2 : Nat) (A2 : Option Addr), v3 = .slice A2 M c2 ∧ v8 = .int .i64 (kk : Int) ∧ kk ≤ 4 ∧ L ≤ M ∧ M ≤ 244 ∧ Hid (M = L + kk) ∧ Hid (I.Own wr w.heap.size A2 c2 (ks k n ++ (word (ks k n) (8 + n)).take kk)) ∧ Hid (I.Own wr w.heap.size (some ⟨gt7, 0, none⟩) 4 tl) ∧ Hid (I.Apart A2 (some ⟨gt7, 0, none⟩)) ∧ Hid (Below w.heap.size w wr)) (fun _ v8 _ => 4 - (intOf v8).toNat)
            case atStart => exact ⟨0, L, c1, _, rfl, rfl, by omega, by omega, by omega, rfl, (by show I.Own _ _ _ _ _; simpa using OW.out), OT.out, AP.out, GB.out⟩
            case round =>
              clear OW OT AP GB hgv
              obtain ⟨kk, M, c2, A2, rfl, rfl, hk4, hLM, hM, HM, OW, OT, AP, GB⟩ := hrel
              by_cases hlk : kk < 4
              · have hOl : (ks k n ++ (word (ks k n) (8 + n)).take kk).length = M := by rw [List.length_append, Hksl.out, List.length_take, word_len, HM.out]; omega
                obtain ⟨g2, rfl, hg2b, hg2v, hcw⟩ := own_cells OW.out (by omega)
                obtain ⟨g', e, _, hg7, hct⟩ := own_cells OT.out (by rw [HTl.out]; omega)
                cases e
                obtain ⟨Lf, hLf⟩ : ∃ x, x = Le + kk := ⟨_, rfl⟩
                obtain ⟨p, hp⟩ : ∃ p, p = gt (ks k n) Lf := ⟨_, rfl⟩
                obtain ⟨q, hq⟩ : ∃ q, q = gt tl kk := ⟨_, rfl⟩
                have hcp : ∀ w', Grown wr w' → w'.cell? ⟨g2, Lf, none⟩ = some (.int .i64 (p.toNat : Int)) := fun w' hw => by
                  have hgl : gt (ks k n ++ (word (ks k n) (8 + n)).take kk) Lf = gt (ks k n) Lf := by
                    unfold gt
                    rw [List.getD_eq_getElem?_getD, List.getElem?_append_left (by rw [Hksl.out]; omega), ← List.getD_eq_getElem?_getD]
                  rw [hcw w' hw Lf (by rw [hOl]; omega), hgl, hp]
                have hcq : ∀ w', Grown wr w' → w'.cell? ⟨gt7, kk, none⟩ = some (.int .i64 (q.toNat : Int)) := fun w' hw => by rw [hct w' hw kk (by rw [HTl.out]; omega), hq]
                obtain ⟨z, hz⟩ : ∃ z, z = p ^^^ q := ⟨_, rfl⟩
                have hxz : bits .xor .i64 (p.toNat : Int) (q.toNat : Int) = (z.toNat : Int) := by rw [hz, UInt8.toNat_xor]; exact bits_xor_i64 _ _ (by have := u8_lt p; omega) (by have := u8_lt q; omega)
                have hlf : (Le : Int) + (kk : Int) = (Lf : Int) := by omega
                have wl : IntKind.i64.wrap (Le : Int) = (Le : Int) := by rw [IntKind.wrap_i64]; omega
                have wf : IntKind.i64.wrap (Lf : Int) = (Lf : Int) := by rw [IntKind.wrap_i64]; omega
                have hLfM : Lf < M := by omega
                have HW := Lib.hid (show (ks k n ++ (word (ks k n) (8 + n)).take kk) ++ [z] = ks k n ++ (word (ks k n) (8 + n)).take (kk + 1) by
                  have hkw : kk < (word (ks k n) (8 + n)).length := by rw [word_len]; exact hlk
                  have hel : (word (ks k n) (8 + n))[kk] = z := by
                    rw [word_get, hz, hp, hq, HTL.out, show 4 * (8 + n) - 32 + kk = Lf by have h1 := HL4.out; have h2 := Hi.out; omega]
                  rw [List.append_assoc, take_snoc _ kk hkw, hel])
                have HCP := Lib.hid hcp
                have HCQ := Lib.hid hcq
                have HOl := Lib.hid hOl
                clear hcw hct hp hq hz hLf hcp hcq hOl
                go_wp2
                try simp only [Act.put]
                refine restS_begin (fun w' => w'.cell? ⟨g2, Lf, none⟩ = some (.int .i64 (p.toNat : Int)) ∧ w'.cell? ⟨gt7, kk, none⟩ = some (.int .i64 (q.toNat : Int))) (by kernel_rfl) ?_
                have hv : Grown wr wr.drew := ⟨rfl, rfl, rfl, Nat.le_refl _, fun _ _ => rfl⟩
                replace OW := Lib.hid (OW.out.grow hv)
                replace OT := Lib.hid (OT.out.grow hv)
                replace GB := Lib.hid (Below.trans GB.out (Below.mono hv GB.out.size))
                have HSv := Lib.hid (And.intro (HCP.out wr.drew hv) (HCQ.out wr.drew hv))
                replace hg7 := Nat.lt_of_lt_of_le hg7 (Below.size hv)
                replace hg2v := Nat.lt_of_lt_of_le hg2v (Below.size hv)
                clear hv HCP HCQ
                generalize wr.drew = v at OW OT GB HSv hg7 hg2v ⊢
                refine restS_take HSv.out (i := 0) rfl (by kernel_rfl) (by kernel_rfl) (by kernel_rfl) (by rfl) (fun w' hg => by obtain ⟨hcA, hcB⟩ := hg; go_simp; try with_reducible rfl) ?_
                try simp only [Act.put, List.setIfInBounds_toArray, List.set_cons_zero, List.set_cons_succ]
                refine restS_take HSv.out (i := 1) rfl (by kernel_rfl) (by kernel_rfl) (by kernel_rfl) (by rfl) (fun w' hg => by obtain ⟨hcA, hcB⟩ := hg; go_simp; try with_reducible rfl) ?_
                try simp only [Act.put, List.setIfInBounds_toArray, List.set_cons_zero, List.set_cons_succ]
                refine restS_take HSv.out (i := 2) rfl (by kernel_rfl) (by kernel_rfl) (by kernel_rfl) (by rfl) (fun w' hg => by obtain ⟨hcA, hcB⟩ := hg; go_simp; try with_reducible rfl) ?_
                try simp only [Act.put, List.setIfInBounds_toArray, List.set_cons_zero, List.set_cons_succ]
                refine restS_take HSv.out (i := 3) rfl (by kernel_rfl) (by kernel_rfl) (by kernel_rfl) (by rfl) (fun w' hg => by obtain ⟨hcA, hcB⟩ := hg; go_simp; try with_reducible rfl) ?_
                try simp only [Act.put, List.setIfInBounds_toArray, List.set_cons_zero, List.set_cons_succ]
                refine restS_take HSv.out (i := 4) rfl (by kernel_rfl) (by kernel_rfl) (by kernel_rfl) (by rfl) (fun w' hg => by obtain ⟨hcA, hcB⟩ := hg; go_simp; try with_reducible rfl) ?_
                try simp only [Act.put, List.setIfInBounds_toArray, List.set_cons_zero, List.set_cons_succ]
                refine restS_take HSv.out (i := 5) rfl (by kernel_rfl) (by kernel_rfl) (by kernel_rfl) (by rfl) (fun w' hg => by obtain ⟨hcA, hcB⟩ := hg; go_simp; try with_reducible rfl) ?_
                try simp only [Act.put, List.setIfInBounds_toArray, List.set_cons_zero, List.set_cons_succ]
                refine restS_take HSv.out (i := 6) rfl (by kernel_rfl) (by kernel_rfl) (by kernel_rfl) (by rfl) (fun w' hg => by obtain ⟨hcA, hcB⟩ := hg; go_simp; try with_reducible rfl) ?_
                try simp only [Act.put, List.setIfInBounds_toArray, List.set_cons_zero, List.set_cons_succ]
                refine restS_take HSv.out (i := 7) rfl (by kernel_rfl) (by kernel_rfl) (by kernel_rfl) (by rfl) (fun w' hg => by obtain ⟨hcA, hcB⟩ := hg; go_simp; try with_reducible rfl) ?_
                try simp only [Act.put, List.setIfInBounds_toArray, List.set_cons_zero, List.set_cons_succ]
                refine restS_take HSv.out (i := 8) rfl (by kernel_rfl) (by kernel_rfl) (by kernel_rfl) (by rfl) (fun w' hg => by obtain ⟨hcA, hcB⟩ := hg; go_simp; try with_reducible rfl) ?_
                try simp only [Act.put, List.setIfInBounds_toArray, List.set_cons_zero, List.set_cons_succ]
                refine restS_take HSv.out (i := 9) rfl (by kernel_rfl) (by kernel_rfl) (by kernel_rfl) (by rfl) (fun w' hg => by obtain ⟨hcA, hcB⟩ := hg; go_simp; try with_reducible rfl) ?_
                try simp only [Act.put, List.setIfInBounds_toArray, List.set_cons_zero, List.set_cons_succ]
                refine restS_take HSv.out (i := 10) rfl (by kernel_rfl) (by kernel_rfl) (by kernel_rfl) (by rfl) (fun w' hg => by obtain ⟨hcA, hcB⟩ := hg; go_simp; try with_reducible rfl) ?_
                try simp only [Act.put, List.setIfInBounds_toArray, List.set_cons_zero, List.set_cons_succ]
                refine restS_take HSv.out (i := 11) rfl (by kernel_rfl) (by kernel_rfl) (by kernel_rfl) (by rfl) (fun w' hg => by obtain ⟨hcA, hcB⟩ := hg; go_simp; try with_reducible rfl) ?_
                try simp only [Act.put, List.setIfInBounds_toArray, List.set_cons_zero, List.set_cons_succ]
                refine restS_take HSv.out (i := 12) rfl (by kernel_rfl) (by kernel_rfl) (by kernel_rfl) (by rfl) (fun w' hg => by obtain ⟨hcA, hcB⟩ := hg; go_simp; try with_reducible rfl) ?_
                try simp only [Act.put, List.setIfInBounds_toArray, List.set_cons_zero, List.set_cons_succ]
                refine restS_take HSv.out (i := 13) rfl (by kernel_rfl) (by kernel_rfl) (by kernel_rfl) (by rfl) (fun w' hg => by obtain ⟨hcA, hcB⟩ := hg; go_simp; try with_reducible rfl) ?_
                try simp only [Act.put, List.setIfInBounds_toArray, List.set_cons_zero, List.set_cons_succ]
                refine restS_lone (i := 14) rfl (by kernel_rfl) (by rfl) (fun K hK => ?_)
                go_simp
                have hb := alloc_below v (.cells #[.int .i64 (z.toNat : Int)] 3)
                have HS8 := Lib.hid (And.intro ((Below.cell hb (p := ⟨g2, Lf, none⟩) hg2v).trans HSv.out.1) ((Below.cell hb (p := ⟨gt7, kk, none⟩) hg7).trans HSv.out.2))
                refine hK.out _ _ HS8.out ?_
                clear hK K HSv
                have CZ := Lib.hid (show (v.alloc (.cells #[.int .i64 (z.toNat : Int)] 3)).cell? ⟨v.heap.size, 0, none⟩ = some (.int .i64 (z.toNat : Int)) from (I.Row.new v [z]).cell 0 (by simp))
                replace OW := Lib.hid (OW.out.grow hb)
                replace OT := Lib.hid (OT.out.grow hb)
                replace GB := Lib.hid (Below.trans GB.out (Below.mono hb GB.out.size))
                replace hg7 := Nat.lt_of_lt_of_le hg7 (Below.size hb)
                clear hb
                generalize hgz : v.heap.size = gz at CZ ⊢
                clear hgz hg2v
                generalize v.alloc _ = v8 at OW OT GB CZ hg7 HS8 ⊢
                try simp only [Act.put, List.setIfInBounds_toArray, List.set_cons_zero, List.set_cons_succ]
                refine restS_lone (i := 15) rfl (by kernel_rfl) (by rfl) (fun K hK => ?_)
                refine I.wp_appC (.tmp 98) (.tmp 112) rfl (base := w.heap.size) (g := g2) (m := M) (l := ks k n ++ (word (ks k n) (8 + n)).take kk) rfl HOl.out (by omega) OW.out rfl CZ.out (by omega) GB.out.size ?_
                intro g9 c9 w9 ho9 hb9 hc9 hk9 hg9
                rw [HW.out] at ho9
                have hne : gt7 ≠ g2 := fun e => AP.out _ _ rfl rfl (by simp [e])
                have hblk := hk9 gt7 hg7 hne
                have hM9 : M + 1 ≤ 244 := by have := HM.out; omega
                have HS9 := Lib.hid (And.intro ((hc9 Lf hLfM).trans HS8.out.1) ((World.cell?_of_block (a := ⟨gt7, kk, none⟩) hblk).trans HS8.out.2))
                refine hK.out _ _ HS9.out ?_
                clear hK K
                have OW9 := Lib.hid ho9
                have OT9 := Lib.hid (own_block OT.out hblk)
                have AP9 := Lib.hid (show I.Apart (some ⟨g9, 0, none⟩) (some ⟨gt7, 0, none⟩) from fun a b ha hb => by
                  cases ha; cases hb
                  show g9 ≠ gt7
                  rcases hg9 with rfl | h9
                  · exact fun e => hne e.symm
                  · omega)
                have GB9 := Lib.hid (Below.trans GB.out hb9)
                clear ho9 hb9 hc9 hk9 hg9 hblk hne OW OT AP GB HS8 CZ
                try simp only [Act.put, List.setIfInBounds_toArray, List.set_cons_zero, List.set_cons_succ]
                refine restS_take HS9.out (i := 16) rfl (by kernel_rfl) (by kernel_rfl) (by kernel_rfl) (by rfl) (fun w' hg => by go_simp; try with_reducible rfl) ?_
                try simp only [Act.put, List.setIfInBounds_toArray, List.set_cons_zero, List.set_cons_succ]
                refine restS_done (by kernel_rfl) ?_
                go_wp2
                go_roundw
                case rel => exact ⟨kk + 1, M + 1, c9, _, rfl, by go_num, by omega, by omega, by omega, (by show M + 1 = L + (kk + 1); have := HM.out; omega), OW9.out, OT9.out, AP9.out, GB9.out⟩
                case measure => simp [intOf]; omega
              · obtain rfl : kk = 4 := by omega
                have OW9 := Lib.hid (show I.Own wr w.heap.size A2 c2 (ks k (n + 1)) by have := OW.out; rwa [List.take_of_length_le (by rw [word_len]; omega)] at this)
                have HM9 := Lib.hid (show M = 4 * (8 + (n + 1)) by have h1 := HM.out; have h2 := HL.out; omega)
                clear OW OT AP
                go_wp2
                go_roundw
                case rel => exact ⟨n + 1, i + 1, M, P2, c2, A2, rfl, rfl, by go_num, by omega, by omega, hP2l, (by show i + 1 = 8 + (n + 1); have := Hi.out; omega), HM9.out, HP2.out, OW9.out, GB.out⟩
                case measure => simp [intOf]; omega
          · by_cases h4 : i % 8 = 4
            · have hb0 : ((i : Int) % 8 == 0) = false := by rw [beq_eq_false_iff_ne]; omega
              have hb4 : ((i : Int) % 8 == 4) = true := by simp; omega
              have HTL1 := Lib.hid (show [sB x0, sB x1, sB x2, sB x3] = nxt (ks k n) (8 + n) by rw [HN.out, if_neg h0, if_pos h4])
              clear HN
              go_wp2
              try simp only [Act.put]
              refine rest_start (by kernel_rfl) fun v hv => ?_
              replace OW := Lib.hid (OW.out.grow hv)
              replace OT := Lib.hid (OT.out.grow hv)
              replace GB := Lib.hid (Below.trans GB.out (Below.mono hv GB.out.size))
              clear hv
              have HTC := Lib.hid (show ∀ w', Grown v w' → w'.cell? ⟨gt7, 0, none⟩ = some (.int .i64 (x0.toNat : Int)) ∧ w'.cell? ⟨gt7, 1, none⟩ = some (.int .i64 (x1.toNat : Int)) ∧ w'.cell? ⟨gt7, 2, none⟩ = some (.int .i64 (x2.toNat : Int)) ∧ w'.cell? ⟨gt7, 3, none⟩ = some (.int .i64 (x3.toNat : Int)) from fun w' hw => by
                obtain ⟨g', e, _, _, hc⟩ := own_cells OT.out (by simp)
                cases e
                exact ⟨hc w' hw 0 (by simp), hc w' hw 1 (by simp), hc w' hw 2 (by simp), hc w' hw 3 (by simp)⟩)
              replace hgv : g < v.heap.size := by obtain ⟨g', e, _, h, _⟩ := own_cells OW.out (by have := Hksl.out; omega); cases e; exact h
              refine rest_take (i := 0) rfl (by kernel_rfl) (by kernel_rfl) (by kernel_rfl) (by rfl) (fun w' hg => by go_simp; try with_reducible rfl) ?_
              try simp only [Act.put, List.setIfInBounds_toArray, List.set_cons_zero, List.set_cons_succ]
              refine rest_take (i := 1) rfl (by kernel_rfl) (by kernel_rfl) (by kernel_rfl) (by rfl) (fun w' hg => by go_simp; try with_reducible rfl) ?_
              try simp only [Act.put, List.setIfInBounds_toArray, List.set_cons_zero, List.set_cons_succ]
              refine rest_take (i := 2) rfl (by kernel_rfl) (by kernel_rfl) (by kernel_rfl) (by rfl) (fun w' hg => by obtain ⟨c0, c1', c2', c3'⟩ := HTC.out w' hg; go_simp; try with_reducible rfl) ?_
              try simp only [Act.put, List.setIfInBounds_toArray, List.set_cons_zero, List.set_cons_succ]
              refine rest_take (i := 4) rfl (by kernel_rfl) (by kernel_rfl) (by kernel_rfl) (by rfl) (fun w' hg => by go_simp; try with_reducible rfl) ?_
              try simp only [Act.put, List.setIfInBounds_toArray, List.set_cons_zero, List.set_cons_succ]
              refine rest_take (i := 5) rfl (by kernel_rfl) (by kernel_rfl) (by kernel_rfl) (by rfl) (fun w' hg => by go_simp; try with_reducible rfl) ?_
              try simp only [Act.put, List.setIfInBounds_toArray, List.set_cons_zero, List.set_cons_succ]
              refine rest_take (i := 6) rfl (by kernel_rfl) (by kernel_rfl) (by kernel_rfl) (by rfl) (fun w' hg => by obtain ⟨c0, c1', c2', c3'⟩ := HTC.out w' hg; go_simp; try with_reducible rfl) ?_
              try simp only [Act.put, List.setIfInBounds_toArray, List.set_cons_zero, List.set_cons_succ]
              refine rest_take (i := 8) rfl (by kernel_rfl) (by kernel_rfl) (by kernel_rfl) (by rfl) (fun w' hg => by go_simp; try with_reducible rfl) ?_
              try simp only [Act.put, List.setIfInBounds_toArray, List.set_cons_zero, List.set_cons_succ]
              refine rest_take (i := 9) rfl (by kernel_rfl) (by kernel_rfl) (by kernel_rfl) (by rfl) (fun w' hg => by go_simp; try with_reducible rfl) ?_
              try simp only [Act.put, List.setIfInBounds_toArray, List.set_cons_zero, List.set_cons_succ]
              refine rest_take (i := 10) rfl (by kernel_rfl) (by kernel_rfl) (by kernel_rfl) (by rfl) (fun w' hg => by obtain ⟨c0, c1', c2', c3'⟩ := HTC.out w' hg; go_simp; try with_reducible rfl) ?_
              try simp only [Act.put, List.setIfInBounds_toArray, List.set_cons_zero, List.set_cons_succ]
              refine rest_take (i := 12) rfl (by kernel_rfl) (by kernel_rfl) (by kernel_rfl) (by rfl) (fun w' hg => by go_simp; try with_reducible rfl) ?_
              try simp only [Act.put, List.setIfInBounds_toArray, List.set_cons_zero, List.set_cons_succ]
              refine rest_take (i := 13) rfl (by kernel_rfl) (by kernel_rfl) (by kernel_rfl) (by rfl) (fun w' hg => by go_simp; try with_reducible rfl) ?_
              try simp only [Act.put, List.setIfInBounds_toArray, List.set_cons_zero, List.set_cons_succ]
              refine rest_take (i := 14) rfl (by kernel_rfl) (by kernel_rfl) (by kernel_rfl) (by rfl) (fun w' hg => by obtain ⟨c0, c1', c2', c3'⟩ := HTC.out w' hg; go_simp; try with_reducible rfl) ?_
              try simp only [Act.put, List.setIfInBounds_toArray, List.set_cons_zero, List.set_cons_succ]
              clear HTC
              refine rest_lone (i := 3) rfl (by kernel_rfl) (by rfl) (fun K hK => ?_)
              go_simp
              refine (s_byte x0 _).mono ?_
              rintro e v2 ⟨rfl, rfl⟩
              refine hK.out _ _ (Grown.refl _) ?_
              clear hK K
              try simp only [Act.put, List.setIfInBounds_toArray, List.set_cons_zero, List.set_cons_succ]
              refine rest_lone (i := 7) rfl (by kernel_rfl) (by rfl) (fun K hK => ?_)
              go_simp
              refine (s_byte x1 _).mono ?_
              rintro e v2 ⟨rfl, rfl⟩
              refine hK.out _ _ (Grown.refl _) ?_
              clear hK K
              try simp only [Act.put, List.setIfInBounds_toArray, List.set_cons_zero, List.set_cons_succ]
              refine rest_lone (i := 11) rfl (by kernel_rfl) (by rfl) (fun K hK => ?_)
              go_simp
              refine (s_byte x2 _).mono ?_
              rintro e v2 ⟨rfl, rfl⟩
              refine hK.out _ _ (Grown.refl _) ?_
              clear hK K
              try simp only [Act.put, List.setIfInBounds_toArray, List.set_cons_zero, List.set_cons_succ]
              refine rest_lone (i := 15) rfl (by kernel_rfl) (by rfl) (fun K hK => ?_)
              go_simp
              refine (s_byte x3 _).mono ?_
              rintro e v2 ⟨rfl, rfl⟩
              refine hK.out _ _ (Grown.refl _) ?_
              clear hK K
              try simp only [Act.put, List.setIfInBounds_toArray, List.set_cons_zero, List.set_cons_succ]
              clear OT AP
              refine rest_lone (i := 16) rfl (by kernel_rfl) (by rfl) (fun K hK => ?_)
              go_simp
              refine hK.out _ _ (alloc_below v2 _) ?_
              clear hK K
              have OT := Lib.hid (show I.Own (v2.alloc (.cells #[.int .i64 ((sB x0).toNat : Int), .int .i64 ((sB x1).toNat : Int), .int .i64 ((sB x2).toNat : Int), .int .i64 ((sB x3).toNat : Int)] 3)) w.heap.size (some ⟨v2.heap.size, 0, none⟩) 4 [(sB x0), (sB x1), (sB x2), (sB x3)] from I.Own.lit v2 [(sB x0), (sB x1), (sB x2), (sB x3)] GB.out.size (by simp))
              have hb := alloc_below v2 (.cells #[.int .i64 ((sB x0).toNat : Int), .int .i64 ((sB x1).toNat : Int), .int .i64 ((sB x2).toNat : Int), .int .i64 ((sB x3).toNat : Int)] 3)
              have AP := Lib.hid (show I.Apart (some ⟨g, 0, none⟩) (some ⟨v2.heap.size, 0, none⟩) from fun a b ha hb => by cases ha; cases hb; exact Nat.ne_of_lt hgv)
              replace hgv := Nat.lt_of_lt_of_le hgv (Below.size hb)
              replace OW := Lib.hid (OW.out.grow hb)
              replace GB := Lib.hid (Below.trans GB.out (Below.mono hb GB.out.size))
              clear hb
              generalize hgt : v2.heap.size = gt7 at OT AP ⊢
              clear hgt
              generalize v2.alloc _ = v7 at OW OT GB hgv ⊢
              try simp only [Act.put, List.setIfInBounds_toArray, List.set_cons_zero, List.set_cons_succ]
              refine rest_take (i := 17) rfl (by kernel_rfl) (by kernel_rfl) (by kernel_rfl) (by rfl) (fun w' hg => by go_simp; try with_reducible rfl) ?_
              try simp only [Act.put, List.setIfInBounds_toArray, List.set_cons_zero, List.set_cons_succ]
              refine rest_done (by kernel_rfl) ?_
              obtain ⟨P2, hP2⟩ : ∃ P2, P2 = P := ⟨_, rfl⟩
              subst hP2
              have hP2l : P2 < 256 := hP
              have HP2 := Lib.hid (show P2 = (pw ((i + 1 + 7) / 8 - 1)).toNat by rw [HP.out]; congr 2; omega)
              clear HP
              obtain ⟨tl, htl⟩ : ∃ tl, tl = [sB x0, sB x1, sB x2, sB x3] := ⟨_, rfl⟩
              have HTL := Lib.hid (show tl = nxt (ks k n) (8 + n) by rw [htl]; exact HTL1.out)
              have HTl := Lib.hid (show tl.length = 4 by rw [htl]; rfl)
              rw [← htl] at OT
              obtain ⟨Le, hLe⟩ : ∃ x, x = L - 32 := ⟨_, rfl⟩
              have hLe2 : Le + 32 = L := by have := HL4.out; omega
              have HLe := Lib.hid hLe
              clear htl HTL1 hLe
              have hL32 : (L : Int) - 32 = (Le : Int) := by omega
              go_wp2
              go_loopw [3, 8] (fun v3 v8 wr => ∃ (kk M c2 : Nat) (A2 : Option Addr), v3 = .slice A2 M c2 ∧ v8 = .int .i64 (kk : Int) ∧ kk ≤ 4 ∧ L ≤ M ∧ M ≤ 244 ∧ Hid (M = L + kk) ∧ Hid (I.Own wr w.heap.size A2 c2 (ks k n ++ (word (ks k n) (8 + n)).take kk)) ∧ Hid (I.Own wr w.heap.size (some ⟨gt7, 0, none⟩) 4 tl) ∧ Hid (I.Apart A2 (some ⟨gt7, 0, none⟩)) ∧ Hid (Below w.heap.size w wr)) (fun _ v8 _ => 4 - (intOf v8).toNat)
              case atStart => exact ⟨0, L, c1, _, rfl, rfl, by omega, by omega, by omega, rfl, (by show I.Own _ _ _ _ _; simpa using OW.out), OT.out, AP.out, GB.out⟩
              case round =>
                clear OW OT AP GB hgv
                obtain ⟨kk, M, c2, A2, rfl, rfl, hk4, hLM, hM, HM, OW, OT, AP, GB⟩ := hrel
                by_cases hlk : kk < 4
                · have hOl : (ks k n ++ (word (ks k n) (8 + n)).take kk).length = M := by rw [List.length_append, Hksl.out, List.length_take, word_len, HM.out]; omega
                  obtain ⟨g2, rfl, hg2b, hg2v, hcw⟩ := own_cells OW.out (by omega)
                  obtain ⟨g', e, _, hg7, hct⟩ := own_cells OT.out (by rw [HTl.out]; omega)
                  cases e
                  obtain ⟨Lf, hLf⟩ : ∃ x, x = Le + kk := ⟨_, rfl⟩
                  obtain ⟨p, hp⟩ : ∃ p, p = gt (ks k n) Lf := ⟨_, rfl⟩
                  obtain ⟨q, hq⟩ : ∃ q, q = gt tl kk := ⟨_, rfl⟩
                  have hcp : ∀ w', Grown wr w' → w'.cell? ⟨g2, Lf, none⟩ = some (.int .i64 (p.toNat : Int)) := fun w' hw => by
                    have hgl : gt (ks k n ++ (word (ks k n) (8 + n)).take kk) Lf = gt (ks k n) Lf := by
                      unfold gt
                      rw [List.getD_eq_getElem?_getD, List.getElem?_append_left (by rw [Hksl.out]; omega), ← List.getD_eq_getElem?_getD]
                    rw [hcw w' hw Lf (by rw [hOl]; omega), hgl, hp]
                  have hcq : ∀ w', Grown wr w' → w'.cell? ⟨gt7, kk, none⟩ = some (.int .i64 (q.toNat : Int)) := fun w' hw => by rw [hct w' hw kk (by rw [HTl.out]; omega), hq]
                  obtain ⟨z, hz⟩ : ∃ z, z = p ^^^ q := ⟨_, rfl⟩
                  have hxz : bits .xor .i64 (p.toNat : Int) (q.toNat : Int) = (z.toNat : Int) := by rw [hz, UInt8.toNat_xor]; exact bits_xor_i64 _ _ (by have := u8_lt p; omega) (by have := u8_lt q; omega)
                  have hlf : (Le : Int) + (kk : Int) = (Lf : Int) := by omega
                  have wl : IntKind.i64.wrap (Le : Int) = (Le : Int) := by rw [IntKind.wrap_i64]; omega
                  have wf : IntKind.i64.wrap (Lf : Int) = (Lf : Int) := by rw [IntKind.wrap_i64]; omega
                  have hLfM : Lf < M := by omega
                  have HW := Lib.hid (show (ks k n ++ (word (ks k n) (8 + n)).take kk) ++ [z] = ks k n ++ (word (ks k n) (8 + n)).take (kk + 1) by
                    have hkw : kk < (word (ks k n) (8 + n)).length := by rw [word_len]; exact hlk
                    have hel : (word (ks k n) (8 + n))[kk] = z := by
                      rw [word_get, hz, hp, hq, HTL.out, show 4 * (8 + n) - 32 + kk = Lf by have h1 := HL4.out; have h2 := Hi.out; omega]
                    rw [List.append_assoc, take_snoc _ kk hkw, hel])
                  have HCP := Lib.hid hcp
                  have HCQ := Lib.hid hcq
                  have HOl := Lib.hid hOl
                  clear hcw hct hp hq hz hLf hcp hcq hOl
                  go_wp2
                  try simp only [Act.put]
                  refine restS_begin (fun w' => w'.cell? ⟨g2, Lf, none⟩ = some (.int .i64 (p.toNat : Int)) ∧ w'.cell? ⟨gt7, kk, none⟩ = some (.int .i64 (q.toNat : Int))) (by kernel_rfl) ?_
                  have hv : Grown wr wr.drew := ⟨rfl, rfl, rfl, Nat.le_refl _, fun _ _ => rfl⟩
                  replace OW := Lib.hid (OW.out.grow hv)
                  replace OT := Lib.hid (OT.out.grow hv)
                  replace GB := Lib.hid (Below.trans GB.out (Below.mono hv GB.out.size))
                  have HSv := Lib.hid (And.intro (HCP.out wr.drew hv) (HCQ.out wr.drew hv))
                  replace hg7 := Nat.lt_of_lt_of_le hg7 (Below.size hv)
                  replace hg2v := Nat.lt_of_lt_of_le hg2v (Below.size hv)
                  clear hv HCP HCQ
                  generalize wr.drew = v at OW OT GB HSv hg7 hg2v ⊢
                  refine restS_take HSv.out (i := 0) rfl (by kernel_rfl) (by kernel_rfl) (by kernel_rfl) (by rfl) (fun w' hg => by obtain ⟨hcA, hcB⟩ := hg; go_simp; try with_reducible rfl) ?_
                  try simp only [Act.put, List.setIfInBounds_toArray, List.set_cons_zero, List.set_cons_succ]
                  refine restS_take HSv.out (i := 1) rfl (by kernel_rfl) (by kernel_rfl) (by kernel_rfl) (by rfl) (fun w' hg => by obtain ⟨hcA, hcB⟩ := hg; go_simp; try with_reducible rfl) ?_
                  try simp only [Act.put, List.setIfInBounds_toArray, List.set_cons_zero, List.set_cons_succ]
                  refine restS_take HSv.out (i := 2) rfl (by kernel_rfl) (by kernel_rfl) (by kernel_rfl) (by rfl) (fun w' hg => by obtain ⟨hcA, hcB⟩ := hg; go_simp; try with_reducible rfl) ?_
                  try simp only [Act.put, List.setIfInBounds_toArray, List.set_cons_zero, List.set_cons_succ]
                  refine restS_take HSv.out (i := 3) rfl (by kernel_rfl) (by kernel_rfl) (by kernel_rfl) (by rfl) (fun w' hg => by obtain ⟨hcA, hcB⟩ := hg; go_simp; try with_reducible rfl) ?_
                  try simp only [Act.put, List.setIfInBounds_toArray, List.set_cons_zero, List.set_cons_succ]
                  refine restS_take HSv.out (i := 4) rfl (by kernel_rfl) (by kernel_rfl) (by kernel_rfl) (by rfl) (fun w' hg => by obtain ⟨hcA, hcB⟩ := hg; go_simp; try with_reducible rfl) ?_
                  try simp only [Act.put, List.setIfInBounds_toArray, List.set_cons_zero, List.set_cons_succ]
                  refine restS_take HSv.out (i := 5) rfl (by kernel_rfl) (by kernel_rfl) (by kernel_rfl) (by rfl) (fun w' hg => by obtain ⟨hcA, hcB⟩ := hg; go_simp; try with_reducible rfl) ?_
                  try simp only [Act.put, List.setIfInBounds_toArray, List.set_cons_zero, List.set_cons_succ]
                  refine restS_take HSv.out (i := 6) rfl (by kernel_rfl) (by kernel_rfl) (by kernel_rfl) (by rfl) (fun w' hg => by obtain ⟨hcA, hcB⟩ := hg; go_simp; try with_reducible rfl) ?_
                  try simp only [Act.put, List.setIfInBounds_toArray, List.set_cons_zero, List.set_cons_succ]
                  refine restS_take HSv.out (i := 7) rfl (by kernel_rfl) (by kernel_rfl) (by kernel_rfl) (by rfl) (fun w' hg => by obtain ⟨hcA, hcB⟩ := hg; go_simp; try with_reducible rfl) ?_
                  try simp only [Act.put, List.setIfInBounds_toArray, List.set_cons_zero, List.set_cons_succ]
                  refine restS_take HSv.out (i := 8) rfl (by kernel_rfl) (by kernel_rfl) (by kernel_rfl) (by rfl) (fun w' hg => by obtain ⟨hcA, hcB⟩ := hg; go_simp; try with_reducible rfl) ?_
                  try simp only [Act.put, List.setIfInBounds_toArray, List.set_cons_zero, List.set_cons_succ]
                  refine restS_take HSv.out (i := 9) rfl (by kernel_rfl) (by kernel_rfl) (by kernel_rfl) (by rfl) (fun w' hg => by obtain ⟨hcA, hcB⟩ := hg; go_simp; try with_reducible rfl) ?_
                  try simp only [Act.put, List.setIfInBounds_toArray, List.set_cons_zero, List.set_cons_succ]
                  refine restS_take HSv.out (i := 10) rfl (by kernel_rfl) (by kernel_rfl) (by kernel_rfl) (by rfl) (fun w' hg => by obtain ⟨hcA, hcB⟩ := hg; go_simp; try with_reducible rfl) ?_
                  try simp only [Act.put, List.setIfInBounds_toArray, List.set_cons_zero, List.set_cons_succ]
                  refine restS_take HSv.out (i := 11) rfl (by kernel_rfl) (by kernel_rfl) (by kernel_rfl) (by rfl) (fun w' hg => by obtain ⟨hcA, hcB⟩ := hg; go_simp; try with_reducible rfl) ?_
                  try simp only [Act.put, List.setIfInBounds_toArray, List.set_cons_zero, List.set_cons_succ]
                  refine restS_take HSv.out (i := 12) rfl (by kernel_rfl) (by kernel_rfl) (by kernel_rfl) (by rfl) (fun w' hg => by obtain ⟨hcA, hcB⟩ := hg; go_simp; try with_reducible rfl) ?_
                  try simp only [Act.put, List.setIfInBounds_toArray, List.set_cons_zero, List.set_cons_succ]
                  refine restS_take HSv.out (i := 13) rfl (by kernel_rfl) (by kernel_rfl) (by kernel_rfl) (by rfl) (fun w' hg => by obtain ⟨hcA, hcB⟩ := hg; go_simp; try with_reducible rfl) ?_
                  try simp only [Act.put, List.setIfInBounds_toArray, List.set_cons_zero, List.set_cons_succ]
                  refine restS_lone (i := 14) rfl (by kernel_rfl) (by rfl) (fun K hK => ?_)
                  go_simp
                  have hb := alloc_below v (.cells #[.int .i64 (z.toNat : Int)] 3)
                  have HS8 := Lib.hid (And.intro ((Below.cell hb (p := ⟨g2, Lf, none⟩) hg2v).trans HSv.out.1) ((Below.cell hb (p := ⟨gt7, kk, none⟩) hg7).trans HSv.out.2))
                  refine hK.out _ _ HS8.out ?_
                  clear hK K HSv
                  have CZ := Lib.hid (show (v.alloc (.cells #[.int .i64 (z.toNat : Int)] 3)).cell? ⟨v.heap.size, 0, none⟩ = some (.int .i64 (z.toNat : Int)) from (I.Row.new v [z]).cell 0 (by simp))
                  replace OW := Lib.hid (OW.out.grow hb)
                  replace OT := Lib.hid (OT.out.grow hb)
                  replace GB := Lib.hid (Below.trans GB.out (Below.mono hb GB.out.size))
                  replace hg7 := Nat.lt_of_lt_of_le hg7 (Below.size hb)
                  clear hb
                  generalize hgz : v.heap.size = gz at CZ ⊢
                  clear hgz hg2v
                  generalize v.alloc _ = v8 at OW OT GB CZ hg7 HS8 ⊢
                  try simp only [Act.put, List.setIfInBounds_toArray, List.set_cons_zero, List.set_cons_succ]
                  refine restS_lone (i := 15) rfl (by kernel_rfl) (by rfl) (fun K hK => ?_)
                  refine I.wp_appC (.tmp 98) (.tmp 112) rfl (base := w.heap.size) (g := g2) (m := M) (l := ks k n ++ (word (ks k n) (8 + n)).take kk) rfl HOl.out (by omega) OW.out rfl CZ.out (by omega) GB.out.size ?_
                  intro g9 c9 w9 ho9 hb9 hc9 hk9 hg9
                  rw [HW.out] at ho9
                  have hne : gt7 ≠ g2 := fun e => AP.out _ _ rfl rfl (by simp [e])
                  have hblk := hk9 gt7 hg7 hne
                  have hM9 : M + 1 ≤ 244 := by have := HM.out; omega
                  have HS9 := Lib.hid (And.intro ((hc9 Lf hLfM).trans HS8.out.1) ((World.cell?_of_block (a := ⟨gt7, kk, none⟩) hblk).trans HS8.out.2))
                  refine hK.out _ _ HS9.out ?_
                  clear hK K
                  have OW9 := Lib.hid ho9
                  have OT9 := Lib.hid (own_block OT.out hblk)
                  have AP9 := Lib.hid (show I.Apart (some ⟨g9, 0, none⟩) (some ⟨gt7, 0, none⟩) from fun a b ha hb => by
                    cases ha; cases hb
                    show g9 ≠ gt7
                    rcases hg9 with rfl | h9
                    · exact fun e => hne e.symm
                    · omega)
                  have GB9 := Lib.hid (Below.trans GB.out hb9)
                  clear ho9 hb9 hc9 hk9 hg9 hblk hne OW OT AP GB HS8 CZ
                  try simp only [Act.put, List.setIfInBounds_toArray, List.set_cons_zero, List.set_cons_succ]
                  refine restS_take HS9.out (i := 16) rfl (by kernel_rfl) (by kernel_rfl) (by kernel_rfl) (by rfl) (fun w' hg => by go_simp; try with_reducible rfl) ?_
                  try simp only [Act.put, List.setIfInBounds_toArray, List.set_cons_zero, List.set_cons_succ]
                  refine restS_done (by kernel_rfl) ?_
                  go_wp2
                  go_roundw
                  case rel => exact ⟨kk + 1, M + 1, c9, _, rfl, by go_num, by omega, by omega, by omega, (by show M + 1 = L + (kk + 1); have := HM.out; omega), OW9.out, OT9.out, AP9.out, GB9.out⟩
                  case measure => simp [intOf]; omega
                · obtain rfl : kk = 4 := by omega
                  have OW9 := Lib.hid (show I.Own wr w.heap.size A2 c2 (ks k (n + 1)) by have := OW.out; rwa [List.take_of_length_le (by rw [word_len]; omega)] at this)
                  have HM9 := Lib.hid (show M = 4 * (8 + (n + 1)) by have h1 := HM.out; have h2 := HL.out; omega)
                  clear OW OT AP
                  go_wp2
                  go_roundw
                  case rel => exact ⟨n + 1, i + 1, M, P2, c2, A2, rfl, rfl, by go_num, by omega, by omega, hP2l, (by show i + 1 = 8 + (n + 1); have := Hi.out; omega), HM9.out, HP2.out, OW9.out, GB.out⟩
                  case measure => simp [intOf]; omega
            · have hb0 : ((i : Int) % 8 == 0) = false := by rw [beq_eq_false_iff_ne]; omega
              have hb4 : ((i : Int) % 8 == 4) = false := by rw [beq_eq_false_iff_ne]; omega
              have HTL1 := Lib.hid (show [x0, x1, x2, x3] = nxt (ks k n) (8 + n) by rw [HN.out, if_neg h0, if_neg h4])
              clear HN
              obtain ⟨P2, hP2⟩ : ∃ P2, P2 = P := ⟨_, rfl⟩
              subst hP2
              have hP2l : P2 < 256 := hP
              have HP2 := Lib.hid (show P2 = (pw ((i + 1 + 7) / 8 - 1)).toNat by rw [HP.out]; congr 2; omega)
              clear HP
              obtain ⟨tl, htl⟩ : ∃ tl, tl = [x0, x1, x2, x3] := ⟨_, rfl⟩
              have HTL := Lib.hid (show tl = nxt (ks k n) (8 + n) by rw [htl]; exact HTL1.out)
              have HTl := Lib.hid (show tl.length = 4 by rw [htl]; rfl)
              rw [← htl] at OT
              obtain ⟨Le, hLe⟩ : ∃ x, x = L - 32 := ⟨_, rfl⟩
              have hLe2 : Le + 32 = L := by have := HL4.out; omega
              have HLe := Lib.hid hLe
              clear htl HTL1 hLe
              have hL32 : (L : Int) - 32 = (Le : Int) := by omega
              go_wp2
              go_loopw [3, 8] (fun v3 v8 wr => ∃ (kk M c2 : Nat) (A2 : Option Addr), v3 = .slice A2 M c2 ∧ v8 = .int .i64 (kk : Int) ∧ kk ≤ 4 ∧ L ≤ M ∧ M ≤ 244 ∧ Hid (M = L + kk) ∧ Hid (I.Own wr w.heap.size A2 c2 (ks k n ++ (word (ks k n) (8 + n)).take kk)) ∧ Hid (I.Own wr w.heap.size (some ⟨gt7, 0, none⟩) 4 tl) ∧ Hid (I.Apart A2 (some ⟨gt7, 0, none⟩)) ∧ Hid (Below w.heap.size w wr)) (fun _ v8 _ => 4 - (intOf v8).toNat)
              case atStart => exact ⟨0, L, c1, _, rfl, rfl, by omega, by omega, by omega, rfl, (by show I.Own _ _ _ _ _; simpa using OW.out), OT.out, AP.out, GB.out⟩
              case round =>
                clear OW OT AP GB hgv
                obtain ⟨kk, M, c2, A2, rfl, rfl, hk4, hLM, hM, HM, OW, OT, AP, GB⟩ := hrel
                by_cases hlk : kk < 4
                · have hOl : (ks k n ++ (word (ks k n) (8 + n)).take kk).length = M := by rw [List.length_append, Hksl.out, List.length_take, word_len, HM.out]; omega
                  obtain ⟨g2, rfl, hg2b, hg2v, hcw⟩ := own_cells OW.out (by omega)
                  obtain ⟨g', e, _, hg7, hct⟩ := own_cells OT.out (by rw [HTl.out]; omega)
                  cases e
                  obtain ⟨Lf, hLf⟩ : ∃ x, x = Le + kk := ⟨_, rfl⟩
                  obtain ⟨p, hp⟩ : ∃ p, p = gt (ks k n) Lf := ⟨_, rfl⟩
                  obtain ⟨q, hq⟩ : ∃ q, q = gt tl kk := ⟨_, rfl⟩
                  have hcp : ∀ w', Grown wr w' → w'.cell? ⟨g2, Lf, none⟩ = some (.int .i64 (p.toNat : Int)) := fun w' hw => by
                    have hgl : gt (ks k n ++ (word (ks k n) (8 + n)).take kk) Lf = gt (ks k n) Lf := by
                      unfold gt
                      rw [List.getD_eq_getElem?_getD, List.getElem?_append_left (by rw [Hksl.out]; omega), ← List.getD_eq_getElem?_getD]
                    rw [hcw w' hw Lf (by rw [hOl]; omega), hgl, hp]
                  have hcq : ∀ w', Grown wr w' → w'.cell? ⟨gt7, kk, none⟩ = some (.int .i64 (q.toNat : Int)) := fun w' hw => by rw [hct w' hw kk (by rw [HTl.out]; omega), hq]
                  obtain ⟨z, hz⟩ : ∃ z, z = p ^^^ q := ⟨_, rfl⟩
                  have hxz : bits .xor .i64 (p.toNat : Int) (q.toNat : Int) = (z.toNat : Int) := by rw [hz, UInt8.toNat_xor]; exact bits_xor_i64 _ _ (by have := u8_lt p; omega) (by have := u8_lt q; omega)
                  have hlf : (Le : Int) + (kk : Int) = (Lf : Int) := by omega
                  have wl : IntKind.i64.wrap (Le : Int) = (Le : Int) := by rw [IntKind.wrap_i64]; omega
                  have wf : IntKind.i64.wrap (Lf : Int) = (Lf : Int) := by rw [IntKind.wrap_i64]; omega
                  have hLfM : Lf < M := by omega
                  have HW := Lib.hid (show (ks k n ++ (word (ks k n) (8 + n)).take kk) ++ [z] = ks k n ++ (word (ks k n) (8 + n)).take (kk + 1) by
                    have hkw : kk < (word (ks k n) (8 + n)).length := by rw [word_len]; exact hlk
                    have hel : (word (ks k n) (8 + n))[kk] = z := by
                      rw [word_get, hz, hp, hq, HTL.out, show 4 * (8 + n) - 32 + kk = Lf by have h1 := HL4.out; have h2 := Hi.out; omega]
                    rw [List.append_assoc, take_snoc _ kk hkw, hel])
                  have HCP := Lib.hid hcp
                  have HCQ := Lib.hid hcq
                  have HOl := Lib.hid hOl
                  clear hcw hct hp hq hz hLf hcp hcq hOl
                  go_wp2
                  try simp only [Act.put]
                  refine restS_begin (fun w' => w'.cell? ⟨g2, Lf, none⟩ = some (.int .i64 (p.toNat : Int)) ∧ w'.cell? ⟨gt7, kk, none⟩ = some (.int .i64 (q.toNat : Int))) (by kernel_rfl) ?_
                  have hv : Grown wr wr.drew := ⟨rfl, rfl, rfl, Nat.le_refl _, fun _ _ => rfl⟩
                  replace OW := Lib.hid (OW.out.grow hv)
                  replace OT := Lib.hid (OT.out.grow hv)
                  replace GB := Lib.hid (Below.trans GB.out (Below.mono hv GB.out.size))
                  have HSv := Lib.hid (And.intro (HCP.out wr.drew hv) (HCQ.out wr.drew hv))
                  replace hg7 := Nat.lt_of_lt_of_le hg7 (Below.size hv)
                  replace hg2v := Nat.lt_of_lt_of_le hg2v (Below.size hv)
                  clear hv HCP HCQ
                  generalize wr.drew = v at OW OT GB HSv hg7 hg2v ⊢
                  refine restS_take HSv.out (i := 0) rfl (by kernel_rfl) (by kernel_rfl) (by kernel_rfl) (by rfl) (fun w' hg => by obtain ⟨hcA, hcB⟩ := hg; go_simp; try with_reducible rfl) ?_
                  try simp only [Act.put, List.setIfInBounds_toArray, List.set_cons_zero, List.set_cons_succ]
                  refine restS_take HSv.out (i := 1) rfl (by kernel_rfl) (by kernel_rfl) (by kernel_rfl) (by rfl) (fun w' hg => by obtain ⟨hcA, hcB⟩ := hg; go_simp; try with_reducible rfl) ?_
                  try simp only [Act.put, List.setIfInBounds_toArray, List.set_cons_zero, List.set_cons_succ]
                  refine restS_take HSv.out (i := 2) rfl (by kernel_rfl) (by kernel_rfl) (by kernel_rfl) (by rfl) (fun w' hg => by obtain ⟨hcA, hcB⟩ := hg; go_simp; try with_reducible rfl) ?_
                  try simp only [Act.put, List.setIfInBounds_toArray, List.set_cons_zero, List.set_cons_succ]
                  refine restS_take HSv.out (i := 3) rfl (by kernel_rfl) (by kernel_rfl) (by kernel_rfl) (by rfl) (fun w' hg => by obtain ⟨hcA, hcB⟩ := hg; go_simp; try with_reducible rfl) ?_
                  try simp only [Act.put, List.setIfInBounds_toArray, List.set_cons_zero, List.set_cons_succ]
                  refine restS_take HSv.out (i := 4) rfl (by kernel_rfl) (by kernel_rfl) (by kernel_rfl) (by rfl) (fun w' hg => by obtain ⟨hcA, hcB⟩ := hg; go_simp; try with_reducible rfl) ?_
                  try simp only [Act.put, List.setIfInBounds_toArray, List.set_cons_zero, List.set_cons_succ]
                  refine restS_take HSv.out (i := 5) rfl (by kernel_rfl) (by kernel_rfl) (by kernel_rfl) (by rfl) (fun w' hg => by obtain ⟨hcA, hcB⟩ := hg; go_simp; try with_reducible rfl) ?_
                  try simp only [Act.put, List.setIfInBounds_toArray, List.set_cons_zero, List.set_cons_succ]
                  refine restS_take HSv.out (i := 6) rfl (by kernel_rfl) (by kernel_rfl) (by kernel_rfl) (by rfl) (fun w' hg => by obtain ⟨hcA, hcB⟩ := hg; go_simp; try with_reducible rfl) ?_
                  try simp only [Act.put, List.setIfInBounds_toArray, List.set_cons_zero, List.set_cons_succ]
                  refine restS_take HSv.out (i := 7) rfl (by kernel_rfl) (by kernel_rfl) (by kernel_rfl) (by rfl) (fun w' hg => by obtain ⟨hcA, hcB⟩ := hg; go_simp; try with_reducible rfl) ?_
                  try simp only [Act.put, List.setIfInBounds_toArray, List.set_cons_zero, List.set_cons_succ]
                  refine restS_take HSv.out (i := 8) rfl (by kernel_rfl) (by kernel_rfl) (by kernel_rfl) (by rfl) (fun w' hg => by obtain ⟨hcA, hcB⟩ := hg; go_simp; try with_reducible rfl) ?_
                  try simp only [Act.put, List.setIfInBounds_toArray, List.set_cons_zero, List.set_cons_succ]
                  refine restS_take HSv.out (i := 9) rfl (by kernel_rfl) (by kernel_rfl) (by kernel_rfl) (by rfl) (fun w' hg => by obtain ⟨hcA, hcB⟩ := hg; go_simp; try with_reducible rfl) ?_
                  try simp only [Act.put, List.setIfInBounds_toArray, List.set_cons_zero, List.set_cons_succ]
                  refine restS_take HSv.out (i := 10) rfl (by kernel_rfl) (by kernel_rfl) (by kernel_rfl) (by rfl) (fun w' hg => by obtain ⟨hcA, hcB⟩ := hg; go_simp; try with_reducible rfl) ?_
                  try simp only [Act.put, List.setIfInBounds_toArray, List.set_cons_zero, List.set_cons_succ]
                  refine restS_take HSv.out (i := 11) rfl (by kernel_rfl) (by kernel_rfl) (by kernel_rfl) (by rfl) (fun w' hg => by obtain ⟨hcA, hcB⟩ := hg; go_simp; try with_reducible rfl) ?_
                  try simp only [Act.put, List.setIfInBounds_toArray, List.set_cons_zero, List.set_cons_succ]
                  refine restS_take HSv.out (i := 12) rfl (by kernel_rfl) (by kernel_rfl) (by kernel_rfl) (by rfl) (fun w' hg => by obtain ⟨hcA, hcB⟩ := hg; go_simp; try with_reducible rfl) ?_
                  try simp only [Act.put, List.setIfInBounds_toArray, List.set_cons_zero, List.set_cons_succ]
                  refine restS_take HSv.out (i := 13) rfl (by kernel_rfl) (by kernel_rfl) (by kernel_rfl) (by rfl) (fun w' hg => by obtain ⟨hcA, hcB⟩ := hg; go_simp; try with_reducible rfl) ?_
                  try simp only [Act.put, List.setIfInBounds_toArray, List.set_cons_zero, List.set_cons_succ]
                  refine restS_lone (i := 14) rfl (by kernel_rfl) (by rfl) (fun K hK => ?_)
                  go_simp
                  have hb := alloc_below v (.cells #[.int .i64 (z.toNat : Int)] 3)
                  have HS8 := Lib.hid (And.intro ((Below.cell hb (p := ⟨g2, Lf, none⟩) hg2v).trans HSv.out.1) ((Below.cell hb (p := ⟨gt7, kk, none⟩) hg7).trans HSv.out.2))
                  refine hK.out _ _ HS8.out ?_
                  clear hK K HSv
                  have CZ := Lib.hid (show (v.alloc (.cells #[.int .i64 (z.toNat : Int)] 3)).cell? ⟨v.heap.size, 0, none⟩ = some (.int .i64 (z.toNat : Int)) from (I.Row.new v [z]).cell 0 (by simp))
                  replace OW := Lib.hid (OW.out.grow hb)
                  replace OT := Lib.hid (OT.out.grow hb)
                  replace GB := Lib.hid (Below.trans GB.out (Below.mono hb GB.out.size))
                  replace hg7 := Nat.lt_of_lt_of_le hg7 (Below.size hb)
                  clear hb
                  generalize hgz : v.heap.size = gz at CZ ⊢
                  clear hgz hg2v
                  generalize v.alloc _ = v8 at OW OT GB CZ hg7 HS8 ⊢
                  try simp only [Act.put, List.setIfInBounds_toArray, List.set_cons_zero, List.set_cons_succ]
                  refine restS_lone (i := 15) rfl (by kernel_rfl) (by rfl) (fun K hK => ?_)
                  refine I.wp_appC (.tmp 98) (.tmp 112) rfl (base := w.heap.size) (g := g2) (m := M) (l := ks k n ++ (word (ks k n) (8 + n)).take kk) rfl HOl.out (by omega) OW.out rfl CZ.out (by omega) GB.out.size ?_
                  intro g9 c9 w9 ho9 hb9 hc9 hk9 hg9
                  rw [HW.out] at ho9
                  have hne : gt7 ≠ g2 := fun e => AP.out _ _ rfl rfl (by simp [e])
                  have hblk := hk9 gt7 hg7 hne
                  have hM9 : M + 1 ≤ 244 := by have := HM.out; omega
                  have HS9 := Lib.hid (And.intro ((hc9 Lf hLfM).trans HS8.out.1) ((World.cell?_of_block (a := ⟨gt7, kk, none⟩) hblk).trans HS8.out.2))
                  refine hK.out _ _ HS9.out ?_
                  clear hK K
                  have OW9 := Lib.hid ho9
                  have OT9 := Lib.hid (own_block OT.out hblk)
                  have AP9 := Lib.hid (show I.Apart (some ⟨g9, 0, none⟩) (some ⟨gt7, 0, none⟩) from fun a b ha hb => by
                    cases ha; cases hb
                    show g9 ≠ gt7
                    rcases hg9 with rfl | h9
                    · exact fun e => hne e.symm
                    · omega)
                  have GB9 := Lib.hid (Below.trans GB.out hb9)
                  clear ho9 hb9 hc9 hk9 hg9 hblk hne OW OT AP GB HS8 CZ
                  try simp only [Act.put, List.setIfInBounds_toArray, List.set_cons_zero, List.set_cons_succ]
                  refine restS_take HS9.out (i := 16) rfl (by kernel_rfl) (by kernel_rfl) (by kernel_rfl) (by rfl) (fun w' hg => by go_simp; try with_reducible rfl) ?_
                  try simp only [Act.put, List.setIfInBounds_toArray, List.set_cons_zero, List.set_cons_succ]
                  refine restS_done (by kernel_rfl) ?_
                  go_wp2
                  go_roundw
                  case rel => exact ⟨kk + 1, M + 1, c9, _, rfl, by go_num, by omega, by omega, by omega, (by show M + 1 = L + (kk + 1); have := HM.out; omega), OW9.out, OT9.out, AP9.out, GB9.out⟩
                  case measure => simp [intOf]; omega
                · obtain rfl : kk = 4 := by omega
                  have OW9 := Lib.hid (show I.Own wr w.heap.size A2 c2 (ks k (n + 1)) by have := OW.out; rwa [List.take_of_length_le (by rw [word_len]; omega)] at this)
                  have HM9 := Lib.hid (show M = 4 * (8 + (n + 1)) by have h1 := HM.out; have h2 := HL.out; omega)
                  clear OW OT AP
                  go_wp2
                  go_roundw
                  case rel => exact ⟨n + 1, i + 1, M, P2, c2, A2, rfl, rfl, by go_num, by omega, by omega, hP2l, (by show i + 1 = 8 + (n + 1); have := Hi.out; omega), HM9.out, HP2.out, OW9.out, GB.out⟩
                  case measure => simp [intOf]; omega
        · obtain rfl : i = 60 := by omega
          have hn : n = 52 := by have := Hi.out; omega
          have HL2 := Lib.hid (show L = (keysL k).length by rw [keysL_len k Hk.out, HL.out, hn])
          have OW2 := Lib.hid (show I.Own wr w.heap.size A1 c1 (keysL k) by have := OW.out; rwa [hn] at this)
          clear hn OW
          go_wp2
          go_ret
          exact ⟨A1, c1, by rw [← HL2.out]; rfl, OW2.out, GB.out⟩
end Go.Proofs.Ytgfmdjagggnfbaa.S7
