/-
  Contract of the reference's Pair (tape). The reference's tables inside the reference's oracle, which is ideal.
-/
import Derived.Test.YtjklgmhaebjjaaaGreatMgOidealMain11
namespace Go.Proofs.YtjklgmhaebjjaaaGreat.S11
open Go.RowKit
set_option linter.unusedVariables false
set_option linter.unusedSimpArgs false

/-- Bytes of a block that may be written. -/
def Bq (w : World) (g : Nat) (l : List UInt8) : Prop := g < w.heap.size ∧ (∀ j, j < l.length → w.cell? ⟨g, j, none⟩ = some (.int .u8 ((gz l j).toNat : Int))) ∧ ∀ j, j < l.length → w.frozen? ⟨g, j, none⟩ = false
section
variable {w w' : World} {g : Nat} {l : List UInt8}
theorem Bq.rd (h : Bq w g l) : Rd w w.heap.size (some ⟨g, 0, none⟩) l := .inr ⟨g, 0, rfl, h.1, fun j hj => by rw [Nat.zero_add, h.2.1 j hj]; simp [bv, gz, hj]⟩
theorem Bq.put (h : Bq w g l) (i : Nat) (x : UInt8) (l2 : List UInt8) (hl : l2.length = l.length) (hx : gz l2 i = x) (ho : ∀ j, j < l.length → j ≠ i → gz l2 j = gz l j) (hi : i < l.length) : Bq (w.setCell ⟨g, i, none⟩ (.int .u8 (x.toNat : Int))) g l2 := by
  refine ⟨by simpa using h.1, fun j hj => ?_, fun j hj => ?_⟩
  · by_cases e : j = i
    · subst e
      rw [hx]
      exact World.cell?_setCell_same _ _ _ (h.2.1 j hi)
    · rw [World.cell?_setCell_other _ _ _ _ (by simp <;> exact e), h.2.1 j (by omega), ho j (by omega) e]
  · rw [World.frozen?_setCell]
    exact h.2.2 j (by omega)
end
/-- '[]byte(s)': new bytes, which may be written. -/
theorem conv_bq (w : World) (l : List UInt8) : ∃ c w', (convert 9 22 (.string ⟨l.toArray⟩)).run Tryz.prog w = .ok (.slice (some ⟨w.heap.size, 0, none⟩) l.length c) w' ∧ l.length ≤ c ∧ Bq w' w.heap.size l ∧ Grown w w' := by
  have hsz : (⟨l.toArray⟩ : ByteArray).size = l.length := by show l.toArray.size = _; simp
  have hr := run_bytes_of_string (P := Tryz.prog) w 9 22 5 ⟨l.toArray⟩ Tryz.underlying9 Tryz.underlying22 Tryz.underlying5
  have hge := grownCap_ge w (⟨l.toArray⟩ : ByteArray).size 0 5
  generalize grownCap w (⟨l.toArray⟩ : ByteArray).size 0 5 = cap at hr hge
  rw [hsz] at hr hge
  have hnew := heap_alloc_new w.drew (.cells (bytesRow ⟨l.toArray⟩ cap) 5 ((bytesRow ⟨l.toArray⟩ cap).size, (bytesRow ⟨l.toArray⟩ cap).size + 1))
  refine ⟨cap, _, hr, hge, ⟨by simp, fun j hj => ?_, fun j hj => ?_⟩, ⟨rfl, rfl, rfl, by simp, fun k hk => heap_alloc_old w.drew _ hk⟩⟩
  · have hcell := cell_of_row _ w.heap.size j _ 5 _ hnew
    rw [hcell, bytesRow, Array.getElem?_append_left (by simpa using hj)]
    simp [hj, gz]
  · have hz : l.length ≤ (bytesRow ⟨l.toArray⟩ cap).size := by simp [bytesRow]
    unfold World.frozen?
    have h2 : (w.drew.alloc (.cells (bytesRow ⟨l.toArray⟩ cap) 5 ((bytesRow ⟨l.toArray⟩ cap).size, (bytesRow ⟨l.toArray⟩ cap).size + 1))).heap[w.heap.size]? = _ := hnew
    simp only [h2]
    simp
    omega
/-- The bytes from k on turned. -/
def mid (l : List UInt8) (k : Nat) : List UInt8 := (List.range l.length).map fun p => if k ≤ p then dg l p else gz l p
theorem mid_len (l : List UInt8) (k : Nat) : (mid l k).length = l.length := by simp [mid]
theorem gz_mid (l : List UInt8) (k p : Nat) (hp : p < l.length) : gz (mid l k) p = if k ≤ p then dg l p else gz l p := by
  simp only [gz, mid, List.getD_eq_getElem?_getD]
  rw [List.getElem?_eq_getElem (by simp; exact hp)]
  simp [gz, List.getD_eq_getElem?_getD]
theorem mid_all (l : List UInt8) : mid l l.length = l := by
  apply List.ext_getElem
  · exact mid_len _ _
  · intro p h1 h2
    have := gz_mid l l.length p h2
    rw [if_neg (by omega)] at this
    simpa [gz, h1, h2] using this
theorem mid_zero (l : List UInt8) : mid l 0 = nxt l := by
  unfold mid nxt
  apply List.map_congr_left
  intro p _
  rw [if_pos (Nat.zero_le _)]
/-- The last byte of a text in a slot. -/
def lastB : Value → Nat
  | .string b => (gz b.data.toList (b.data.toList.length - 1)).toNat
  | _ => 0
theorem lastB_lt (y : List UInt8) : lastB (.string ⟨y.toArray⟩) < 256 := by
  show (gz _ _).toNat < 256
  exact UInt8.toNat_lt _
theorem lastB_itn (y : List UInt8) (h : 0 < y.length) (a : Nat) : lastB (.string ⟨(itn a y).toArray⟩) = (lastB (.string ⟨y.toArray⟩) + a) % 256 := by
  show (gz (itn a y) ((itn a y).length - 1)).toNat = ((gz y (y.length - 1)).toNat + a) % 256
  rw [itn_len]
  exact itn_last y h a
def PairOk (w : World) (B base R : Nat) (Af Ap : Option Addr) (st : St) (name s : List UInt8) (first : Bool) (e : Ending) (w' : World) : Prop :=
  e = .returned (.string ⟨(prOp st name s first).1.toArray⟩) ∧ ∃ Ap', (Rz w' B base R Af Ap' (prOp st name s first).2) ∧ Ch (RF R Af Ap) w w' ∧ Moved w Ap Ap'

set_option maxHeartbeats 8000000 in
set_option maxRecDepth 20000 in
theorem refPair_any (B base R : Nat) (Af Ap : Option Addr) (st : St) (name s : List UInt8) (first : Bool) (w : World) (hB : B ≤ base) (hps : st.ps.length ≤ 255) (hs : s.length ≤ 1000) (hcnt : st.cnt ≤ 1000) (h : Rz w B base R Af Ap st) :
    Calls Tryz.prog 32 #[.pointer (some ⟨R, 0, none⟩), .string ⟨name.toArray⟩, .string ⟨s.toArray⟩, .bool first] w (PairOk w B base R Af Ap st name s first) := by
  have H0 := Lib.hid h
  have HLT := Lib.hid (show ∀ k, RF R Af Ap k → k < w.heap.size from fun k hk => (h.lt k hk).2)
  have hbw : base ≤ w.heap.size := by have := h.lt R (.inl rfl); omega
  obtain ⟨hb, hap, A, n0, c, cf, cp, hR, hn0, hn0c, hrd, hof, hop⟩ := h
  obtain ⟨np, hnp⟩ : ∃ np, np = st.ps.length := ⟨_, rfl⟩
  rw [← hnp] at hR
  have HNP := Lib.hid hnp
  have HOP := Lib.hid hop
  have HR := Lib.hid hR
  have hlep : np ≤ cp := by have := hop.le; omega
  have hnp1 : np ≤ 255 := by omega
  clear hb hap hR hn0 hn0c hrd hof hop hnp hps
  by_cases hse : s = []
  · subst hse
    have HP := Lib.hid (show prOp st name [] first = ([], st) by unfold prOp; rw [if_pos rfl])
    go_enter Tryz.func32, Tryz.ntmps32
    go_wp2
    go_ret
    exact ⟨by rw [HP.out]; rfl, Ap, by rw [HP.out]; exact H0.out, Ch.refl _ _, .inl rfl⟩
  have b0 : (s == []) = false := by simp [hse]
  have HSE := Lib.hid hse
  have hs0 : 0 < s.length := List.length_pos_iff.2 hse
  clear hse
  go_enter Tryz.func32, Tryz.ntmps32
  go_wp2
  go_loopw [9] (fun v9 wr => ∃ (i : Nat), v9 = .int .i64 (i : Int) ∧ i ≤ np ∧ Hid (Grown w wr) ∧ Hid (∀ j (h : j < st.ps.length), j < i → hitQ name s first st.ps[j] = false)) (fun v9 _ => np - (intOf v9).toNat)
  case atStart => exact ⟨0, rfl, Nat.zero_le _, Grown.refl _, fun j _ hj => by omega⟩
  case round =>
    obtain ⟨i, rfl, hi, HG, HN⟩ := hrel
    have hR2 : wr.heap[R]? = w.heap[R]? := HG.out.block R (HLT.out R (.inl rfl))
    have hc2 : wr.cell? ⟨R, 2, none⟩ = some (.slice Ap np cp) := cell_of_row wr R 2 _ _ (0, 0) (hR2.trans HR.out)
    clear hR2
    by_cases hlt : i < np
    · have bi : (i : Int) < (np : Int) := by omega
      have hif : i < st.ps.length := by have := HNP.out; omega
      obtain ⟨g, hAp, hg, k1, k2, k3⟩ := HOP.out.at_ i hif
      obtain ⟨t, ht⟩ : ∃ t, t = st.ps[i] := ⟨_, rfl⟩
      rw [← ht] at k1 k2 k3
      have hcell : ∀ j, wr.cell? ⟨g, j, none⟩ = w.cell? ⟨g, j, none⟩ := fun j => World.cell?_of_block (HG.out.block g hg)
      rw [← hcell] at k1 k2 k3
      have hg2 : g < wr.heap.size := Nat.lt_of_lt_of_le hg HG.out.size
      have HA := Lib.hid (Grown.trans HG.out (alloc_below wr (.cells #[.string ⟨t.n.toArray⟩, .string ⟨t.x.toArray⟩, .string ⟨t.y.toArray⟩] 96)))
      subst hAp
      have HT := Lib.hid ht
      clear ht hcell
      by_cases e1 : t.n = name
      · by_cases e3 : t.x.length = s.length
        · cases first
          · by_cases e2 : t.y = s
            · have HH := Lib.hid (show prOp st name s false = (t.x, st) by
                have hfd : st.ps.find? (hitQ name s false) = some t := by
                  rw [List.find?_eq_some_iff_getElem]
                  refine ⟨by simp [hitQ, *], i, hif, HT.out.symm, fun j hj => by simp [HN.out j (by omega) hj]⟩
                unfold prOp
                rw [if_neg HSE.out, hfd]
                rfl)
              have b1 : (t.n == name) = true := by simp [e1]
              have b2 : (t.y == s) = true := by simp [e2]
              have b3 : ((t.x.length : Int) == (s.length : Int)) = true := by simp; omega
              clear e1 e2 e3
              have HF := Lib.hid (show PairOk w B base R Af (some ⟨g, 0, none⟩) st name s false (.returned (.string ⟨t.x.toArray⟩)) (wr.alloc (.cells #[.string ⟨t.n.toArray⟩, .string ⟨t.x.toArray⟩, .string ⟨t.y.toArray⟩] 96)) from
                ⟨by rw [HH.out], _, by rw [HH.out]; exact H0.out.keep (fun k hk => HA.out.block k (by omega)) (fun k hk => HA.out.block k (HLT.out k hk)), Ch.grown HA.out, .inl rfl⟩)
              go_wp2
              go_ret
              exact HF.out
            · have HX := Lib.hid (show hitQ name s false t = false by simp [hitQ, *])
              have b1 : (t.n == name) = true := by simp [e1]
              have b2 : (t.y == s) = false := by simp [e2]
              have b3 : ((t.x.length : Int) == (s.length : Int)) = true := by simp; omega
              clear e1 e2 e3
              go_wp2
              go_roundw
              case rel => exact ⟨i + 1, by go_num, by omega, HA.out, fun j hj hj1 => by
                by_cases c : j < i
                · exact HN.out j hj c
                · obtain rfl : j = i := by omega
                  rw [← HT.out]; exact HX.out⟩
              case measure => simp [intOf]; omega
          · by_cases e2 : t.x = s
            · have HH := Lib.hid (show prOp st name s true = (t.y, st) by
                have hfd : st.ps.find? (hitQ name s true) = some t := by
                  rw [List.find?_eq_some_iff_getElem]
                  refine ⟨by simp [hitQ, *], i, hif, HT.out.symm, fun j hj => by simp [HN.out j (by omega) hj]⟩
                unfold prOp
                rw [if_neg HSE.out, hfd]
                rfl)
              have b1 : (t.n == name) = true := by simp [e1]
              have b2 : (t.x == s) = true := by simp [e2]
              have b3 : ((t.x.length : Int) == (s.length : Int)) = true := by simp; omega
              clear e1 e2 e3
              have HF := Lib.hid (show PairOk w B base R Af (some ⟨g, 0, none⟩) st name s true (.returned (.string ⟨t.y.toArray⟩)) (wr.alloc (.cells #[.string ⟨t.n.toArray⟩, .string ⟨t.x.toArray⟩, .string ⟨t.y.toArray⟩] 96)) from
                ⟨by rw [HH.out], _, by rw [HH.out]; exact H0.out.keep (fun k hk => HA.out.block k (by omega)) (fun k hk => HA.out.block k (HLT.out k hk)), Ch.grown HA.out, .inl rfl⟩)
              go_wp2
              go_ret
              exact HF.out
            · have HX := Lib.hid (show hitQ name s true t = false by simp [hitQ, *])
              have b1 : (t.n == name) = true := by simp [e1]
              have b2 : (t.x == s) = false := by simp [e2]
              have b3 : ((t.x.length : Int) == (s.length : Int)) = true := by simp; omega
              clear e1 e2 e3
              go_wp2
              go_roundw
              case rel => exact ⟨i + 1, by go_num, by omega, HA.out, fun j hj hj1 => by
                by_cases c : j < i
                · exact HN.out j hj c
                · obtain rfl : j = i := by omega
                  rw [← HT.out]; exact HX.out⟩
              case measure => simp [intOf]; omega
        · have HX := Lib.hid (show hitQ name s first t = false by simp [hitQ, *])
          have b1 : (t.n == name) = true := by simp [e1]
          have b3 : ((t.x.length : Int) == (s.length : Int)) = false := by simp; omega
          clear e1 e3
          go_wp2
          go_roundw
          case rel => exact ⟨i + 1, by go_num, by omega, HA.out, fun j hj hj1 => by
            by_cases c : j < i
            · exact HN.out j hj c
            · obtain rfl : j = i := by omega
              rw [← HT.out]; exact HX.out⟩
          case measure => simp [intOf]; omega
      · have HX := Lib.hid (show hitQ name s first t = false by simp [hitQ, *])
        have b1 : (t.n == name) = false := by simp [e1]
        clear e1
        go_wp2
        go_roundw
        case rel => exact ⟨i + 1, by go_num, by omega, HA.out, fun j hj hj1 => by
          by_cases c : j < i
          · exact HN.out j hj c
          · obtain rfl : j = i := by omega
            rw [← HT.out]; exact HX.out⟩
        case measure => simp [intOf]; omega
    · have bi : ¬ (i : Int) < (np : Int) := by omega
      have HNo := Lib.hid (show st.ps.find? (hitQ name s first) = none by
        rw [List.find?_eq_none]
        intro t ht
        obtain ⟨j, hj, rfl⟩ := List.getElem_of_mem ht
        have := HN.out j hj (by have := HNP.out; omega)
        simp [this])
      have HZ0 := Lib.hid (show Rz wr B base R Af Ap st from H0.out.keep (fun k hk => HG.out.block k (by omega)) (fun k hk => HG.out.block k (HLT.out k hk)))
      clear HN HR HOP
      go_wp2_with fail
      refine (refDraw_any B base R Af Ap st (s.length : Int) wr hB (by omega) HZ0.out).mono ?_
      rintro e w1 ⟨rfl, hz1, hch1⟩
      obtain ⟨y, hy⟩ : ∃ y, y = (drOp st (s.length : Int)).1 := ⟨_, rfl⟩
      obtain ⟨s1, hs1⟩ : ∃ s1, s1 = (drOp st (s.length : Int)).2 := ⟨_, rfl⟩
      rw [← hy]
      rw [← hs1] at hz1
      have HY := Lib.hid hy
      have HYl := Lib.hid (show y.length = s.length by rw [hy]; show (drawO _ _).length = _; rw [drawO_len]; simp)
      have HS1 := Lib.hid hs1
      have Z1 := Lib.hid hz1
      have C1 := Lib.hid (show Ch (RF R Af Ap) w w1 from Ch.trans (Ch.grown HG.out) ⟨hch1.os, hch1.tape, hch1.output, hch1.size, fun k hk hf => hch1.block k hk (fun e => hf (.inl e))⟩)
      have HFS := Lib.hid (show s1.fs = st.fs by rw [hs1]; rfl)
      have HPS := Lib.hid (show s1.ps = st.ps by rw [hs1]; rfl)
      have HBD := Lib.hid (show s1.bad = st.bad by rw [hs1]; rfl)
      have HCN := Lib.hid (show s1.cnt = st.cnt by rw [hs1]; rfl)
      obtain ⟨kc, hkc⟩ : ∃ kc, kc = s1.cnt := ⟨_, rfl⟩
      have HKC := Lib.hid hkc
      have hkb : kc ≤ 1000 := by rw [hkc, HCN.out]; exact hcnt
      obtain ⟨hc4, hf4⟩ : w1.cell? ⟨R, 4, none⟩ = some (.int .i64 (kc : Int)) ∧ w1.frozen? ⟨R, 4, none⟩ = false := by
        obtain ⟨_, _, A', n0', c', cf', cp', hR, _⟩ := hz1
        rw [← hkc] at hR
        exact ⟨cell_of_row w1 R 4 _ _ (0, 0) hR, frozen_of_row w1 R 4 _ _ hR⟩
      have HZ2 := Lib.hid (show Rz (w1.setCell ⟨R, 4, none⟩ (.int .i64 ((kc : Int) + 1))) B base R Af Ap { s1 with cnt := kc + 1 } by
        have := Z1.out.setCnt hB (kc + 1)
        rw [show (((kc + 1 : Nat)) : Int) = (kc : Int) + 1 by omega] at this
        exact this)
      have HC2 := Lib.hid (Ch.setCell C1.out (p := ⟨R, 4, none⟩) (.inl (.inl rfl)) (.int .i64 ((kc : Int) + 1)))
      obtain ⟨s2, hs2⟩ : ∃ s2 : St, s2 = { s1 with cnt := kc + 1 } := ⟨_, rfl⟩
      rw [← hs2] at HZ2
      have HS2 := Lib.hid hs2
      clear hy hs1 hz1 hch1 hkc hs2 HZ0 Z1 C1 HG hc2
      go_wp2_with fail
      generalize w1.setCell _ _ = w2 at HZ2 HC2 ⊢
      refine (refTaken_any B base R Af Ap s2 name y (!first) w2 hB (by rw [HS2.out]; show s1.ps.length ≤ 1000; rw [HPS.out, ← HNP.out]; omega) (by rw [HYl.out]; omega) HZ2.out).mono ?_
      rintro e w3 ⟨rfl, hg3⟩
      obtain ⟨tk, htk⟩ : ∃ tk, tk = taken s2.ps name y (!first) := ⟨_, rfl⟩
      rw [← htk]
      have HT0 := Lib.hid (show tk = taken st.ps name y (!first) by rw [htk, HS2.out]; show taken s1.ps _ _ _ = _; rw [HPS.out])
      have HZ3 := Lib.hid (show Rz w3 B base R Af Ap s2 from HZ2.out.keep (fun k hk => hg3.block k (by have := HZ2.out.lt R (.inl rfl); omega)) (fun k hk => hg3.block k (HZ2.out.lt k hk).2))
      have HC3 := Lib.hid (Ch.trans HC2.out (Ch.grown hg3))
      obtain ⟨s3, hs3⟩ : ∃ s3 : St, s3 = { s2 with bad := st.bad || tk } := ⟨_, rfl⟩
      have HS3 := Lib.hid hs3
      obtain ⟨bd, hc3, hf3⟩ : ∃ bd, w3.cell? ⟨R, 3, none⟩ = some (.bool bd) ∧ w3.frozen? ⟨R, 3, none⟩ = false := by
        obtain ⟨_, _, A', n0', c', cf', cp', hR, _⟩ := HZ3.out
        exact ⟨_, cell_of_row w3 R 3 _ _ (0, 0) hR, frozen_of_row w3 R 3 _ _ hR⟩
      clear htk hs3 hg3 HZ2 HC2 hc4 hf4
      have HP3 := Lib.hid (show s3.ps = st.ps by rw [HS3.out, HS2.out]; exact HPS.out)
      cases tk
      case' false =>
        have Z4 := Lib.hid (show Rz w3 B base R Af Ap s3 by
          have := HZ3.out
          rw [HS3.out]
          have e : s2.bad = (st.bad || false) := by rw [HS2.out]; show s1.bad = _; rw [HBD.out]; simp
          rw [← e]
          exact this)
        have C4 := HC3
        clear HZ3 HC3 hc3 hf3
        generalize w3 = w4 at Z4 C4 ⊢
        go_wp2_with fail
      case' true =>
        have Z4 := Lib.hid (show Rz (w3.setCell ⟨R, 3, none⟩ (.bool true)) B base R Af Ap s3 by
          rw [HS3.out]
          have e : (st.bad || true) = true := by simp
          rw [e]
          exact HZ3.out.setBad hB true)
        have C4 := Lib.hid (Ch.setCell HC3.out (p := ⟨R, 3, none⟩) (.inl (.inl rfl)) (.bool true))
        clear HZ3 HC3
        go_wp2_with fail
        clear hc3 hf3
        generalize w3.setCell _ _ = w4 at Z4 C4 ⊢
      all_goals
        go_loopw [11] (fun v11 wr => ∃ (a : Nat) (Y : List UInt8), v11 = .string ⟨Y.toArray⟩ ∧ a ≤ 255 ∧ Hid (Y = itn a y) ∧ Hid (∀ j, j < a → taken st.ps name (itn j y) (!first) = true) ∧ Hid (Rz wr B base R Af Ap s3) ∧ Hid (Ch (RF R Af Ap) w wr)) (fun v11 _ => 256 - (lastB v11 + 256 - lastB (.string ⟨y.toArray⟩)) % 256)
        case atStart => exact ⟨0, y, rfl, by omega, rfl, fun j hj => by omega, Z4.out, C4.out⟩
        case round =>
          clear Z4 C4
          obtain ⟨a, Y, rfl, ha, HYa, HTa, HZ, HC⟩ := hrel
          go_wp2_with fail
          have hYl : Y.length = s.length := by rw [HYa.out, itn_len]; exact HYl.out
          have HL := Lib.hid hYl
          clear hYl
          refine (refTaken_any B base R Af Ap s3 name Y (!first) wr hB (by rw [HP3.out, ← HNP.out]; omega) (by rw [HL.out]; omega) HZ.out).mono ?_
          rintro e w5 ⟨rfl, hg5⟩
          obtain ⟨tk, htk⟩ : ∃ tk, tk = taken s3.ps name Y (!first) := ⟨_, rfl⟩
          rw [← htk]
          have HTK := Lib.hid (show tk = taken st.ps name Y (!first) by rw [htk, HP3.out])
          have Z5 := Lib.hid (show Rz w5 B base R Af Ap s3 from HZ.out.keep (fun k hk => hg5.block k (by have := HZ.out.lt R (.inl rfl); omega)) (fun k hk => hg5.block k (HZ.out.lt k hk).2))
          have C5 := Lib.hid (Ch.trans HC.out (Ch.grown hg5))
          clear htk hg5 HZ HC
          cases tk
          case true =>
            have ha2 : a + 1 ≤ 255 := by
              have := taken_few st.ps name y (!first) (by rw [HYl.out]; exact hs0) (a + 1) (by omega) (fun j hj => by
                by_cases c : j < a
                · exact HTa.out j c
                · obtain rfl : j = a := by omega
                  rw [← HYa.out]; exact HTK.out.symm)
              have := HNP.out
              omega
            obtain ⟨cb, w6, hcvb, hcb, hbq, hg6⟩ := conv_bq w5 Y
            rw [HL.out] at hcvb hcb
            obtain ⟨gb, hgb⟩ : ∃ gb, gb = w5.heap.size := ⟨_, rfl⟩
            rw [← hgb] at hcvb hbq
            have BQ := Lib.hid hbq
            have Z6 := Lib.hid (show Rz w6 B base R Af Ap s3 from Z5.out.keep (fun k hk => hg6.block k (by have := Z5.out.lt R (.inl rfl); omega)) (fun k hk => hg6.block k (Z5.out.lt k hk).2))
            have C6 := Lib.hid (Ch.trans C5.out (Ch.grown hg6))
            have HGB := Lib.hid (show w.heap.size ≤ gb by rw [hgb]; exact C5.out.size)
            have HGR := Lib.hid (show ∀ k, RF R Af Ap k → k ≠ gb from fun k hk e => by have := (Z5.out.lt k hk).2; omega)
            have HBG := Lib.hid (show B ≤ gb by have := Z5.out.lt R (.inl rfl); omega)
            obtain ⟨L, hL⟩ : ∃ L, L = s.length := ⟨_, rfl⟩
            rw [← hL] at hcvb hcb
            have HLL := Lib.hid hL
            have hL1 : 1 ≤ L := by omega
            have hL2 : L ≤ 1000 := by omega
            clear hbq hg6 hgb Z5 C5 hL
            go_wp2
            clear hcvb
            have HYi := HYa
            go_loopw [13, 14] (fun v13 v14 wr => ∃ (k c : Nat) (z : Int), v13 = .int .i64 (c : Int) ∧ v14 = .int .i64 z ∧ Hid (z = (k : Int) - 1) ∧ k ≤ L ∧ c ≤ 1 ∧ Hid (c = cr Y (L - k)) ∧ Hid (Bq wr gb (mid Y k)) ∧ Hid (Rz wr B base R Af Ap s3) ∧ Hid (Ch (RF R Af Ap) w wr)) (fun _ v14 _ => (intOf v14 + 1).toNat)
            case atStart => exact ⟨L, 1, (L : Int) - 1, rfl, rfl, rfl, Nat.le_refl _, Nat.le_refl _, (by show 1 = cr Y (L - L); rw [Nat.sub_self]; rfl), (by rw [HLL.out, ← HL.out, mid_all]; exact BQ.out), Z6.out, C6.out⟩
            case round =>
              clear BQ Z6 C6
              obtain ⟨k, c, z, rfl, rfl, Hz, hk, hc, Hc, HBQ, HZ, HC⟩ := hrel
              by_cases hk0 : k = 0
              · subst hk0
                obtain rfl : z = -1 := by have := Hz.out; omega
                have hcv := conv HBQ.out.rd cb
                rw [mid_len, HL.out, ← HLL.out, mid_zero] at hcv
                have HNx := Lib.hid (show nxt Y = itn (a + 1) y by rw [HYa.out]; rfl)
                have HM := Lib.hid (show 256 - (lastB (.string ⟨(nxt Y).toArray⟩) + 256 - lastB (.string ⟨y.toArray⟩)) % 256 < 256 - (lastB (.string ⟨Y.toArray⟩) + 256 - lastB (.string ⟨y.toArray⟩)) % 256 by
                  have l1 := lastB_itn y (by rw [HYl.out]; exact hs0) a
                  have l2 := lastB_itn y (by rw [HYl.out]; exact hs0) (a + 1)
                  rw [← HYa.out] at l1
                  rw [← HNx.out] at l2
                  rw [l1, l2]
                  have l0 := lastB_lt y
                  omega)
                have HTn := Lib.hid (show ∀ j, j < a + 1 → taken st.ps name (itn j y) (!first) = true from fun j hj => by
                  by_cases c : j < a
                  · exact HTa.out j c
                  · obtain rfl : j = a := by omega
                    rw [← HYa.out]; exact HTK.out.symm)
                obtain ⟨Yn, hYn⟩ : ∃ Yn, Yn = nxt Y := ⟨_, rfl⟩
                rw [← hYn] at hcv HNx HM
                clear hYn HTK HBQ
                go_wp2
                go_roundw
                case rel => exact ⟨a + 1, Yn, rfl, ha2, HNx.out, HTn.out, HZ.out, HC.out⟩
                case measure => exact HM.out
              · obtain ⟨m, rfl⟩ : ∃ m, k = m + 1 := ⟨k - 1, by omega⟩
                obtain rfl : z = (m : Int) := by have := Hz.out; omega
                have hmL : m < Y.length := by rw [HL.out, ← HLL.out]; omega
                obtain ⟨x, hx⟩ : ∃ x, x = gz Y m := ⟨_, rfl⟩
                have hcx : wr.cell? ⟨gb, m, none⟩ = some (.int .u8 (x.toNat : Int)) := by
                  rw [HBQ.out.2.1 m (by rw [mid_len]; exact hmL), gz_mid _ _ _ hmL, if_neg (by omega), hx]
                have hfx := HBQ.out.2.2 m (by rw [mid_len]; exact hmL)
                have bm : (0 : Int) ≤ (m : Int) := by omega
                have bmL : (m : Int) < (L : Int) := by omega
                have bxx := x.toNat_lt
                have HX := Lib.hid hx
                have HD := Lib.hid (show ((x.toNat : Int) + (c : Int)) % 256 = ((dg Y m).toNat : Int) by
                  unfold dg
                  rw [UInt8.toNat_ofNat', ← hx, HL.out, ← HLL.out]
                  have := Hc.out
                  rw [show L - 1 - m = L - (m + 1) by omega, ← this]
                  omega)
                have HCr := Lib.hid (show (x.toNat + c) / 256 = cr Y (L - m) by
                  rw [show L - m = (L - (m + 1)) + 1 by omega]
                  show _ = ((gz Y (Y.length - 1 - (L - (m + 1)))).toNat + cr Y (L - (m + 1))) / 256
                  rw [HL.out, ← HLL.out, show L - 1 - (L - (m + 1)) = m by omega, ← Hc.out, ← hx])
                have HB2 := Lib.hid (show Bq (wr.setCell ⟨gb, m, none⟩ (.int .u8 (((x.toNat : Int) + (c : Int)) % 256))) gb (mid Y m) by
                  rw [HD.out]
                  refine HBQ.out.put m (dg Y m) (mid Y m) (by rw [mid_len, mid_len]) (by rw [gz_mid _ _ _ hmL, if_pos (Nat.le_refl _)]) (fun j hj hne => ?_) (by rw [mid_len]; exact hmL)
                  rw [mid_len] at hj
                  rw [gz_mid _ _ _ hj, gz_mid _ _ _ hj]
                  by_cases c1 : m ≤ j
                  · rw [if_pos c1, if_pos (by omega)]
                  · rw [if_neg c1, if_neg (by omega)])
                have HZ2 := Lib.hid (show Rz (wr.setCell ⟨gb, m, none⟩ (.int .u8 (((x.toNat : Int) + (c : Int)) % 256))) B base R Af Ap s3 from
                  HZ.out.keep (fun k hk => heap_setCell_other wr ⟨gb, m, none⟩ k _ (fun e => by have := HBG.out; simp only at e; omega)) (fun k hk => heap_setCell_other wr ⟨gb, m, none⟩ k _ (fun e => HGR.out k hk (by simpa using e))))
                have HC2 := Lib.hid (Ch.setCell HC.out (p := ⟨gb, m, none⟩) (.inr HGB.out) (.int .u8 (((x.toNat : Int) + (c : Int)) % 256)))
                clear hx hk0 HBQ HZ HC
                go_wp2
                go_roundw
                case rel => exact ⟨m, (x.toNat + c) / 256, (m : Int) - 1, by go_num, rfl, rfl, by omega, by omega, HCr.out, HB2.out, HZ2.out, HC2.out⟩
                case measure => simp [intOf] <;> omega
          case false =>
            have HY0 := Lib.hid (show drawO st.seed s.length = y by rw [HY.out]; show _ = drawO _ _; simp)
            have HFree := Lib.hid (show freeY st name s first = Y by
              unfold freeY
              rw [HY0.out, HYa.out]
              exact adv_at _ a 255 y ha HTa.out (by rw [← HYa.out]; exact HTK.out.symm))
            have HKC2 := Lib.hid (show kc = st.cnt by rw [HKC.out]; exact HCN.out)
            obtain ⟨cp5, HO5, hc2⟩ : ∃ cp5, Hid (OwnR w5 base Ap cp5 s3.ps) ∧ w5.cell? ⟨R, 2, none⟩ = some (.slice Ap np cp5) := by
              obtain ⟨_, _, A5, n5, c5, cf5, cp5, hR5, _, _, _, _, h5⟩ := Z5.out
              refine ⟨cp5, h5, ?_⟩
              rw [cell_of_row w5 R 2 _ _ (0, 0) hR5, HNP.out, ← HP3.out]
              rfl
            have HL3 := Lib.hid (show s3.ps.length = np by rw [HP3.out]; exact HNP.out.symm)
            cases first
            case false =>
              obtain ⟨T, hT⟩ : ∃ T : T3, T = ⟨name, Y, s⟩ := ⟨_, rfl⟩
              have HT := Lib.hid hT
              obtain ⟨w6, hw6⟩ : ∃ w6, w6 = w5.alloc (.cells #[.string ⟨name.toArray⟩, .string ⟨Y.toArray⟩, .string ⟨s.toArray⟩] 96) := ⟨_, rfl⟩
              have HA6 := Lib.hid (show Grown w5 w6 by rw [hw6]; exact alloc_below _ _)
              have HN6 := Lib.hid (show w6.heap[w5.heap.size]? = some (.cells #[.string ⟨T.n.toArray⟩, .string ⟨T.x.toArray⟩, .string ⟨T.y.toArray⟩] 96 (0, 0)) by
                rw [hw6, hT]
                exact heap_alloc_new _ _)
              have HZ6 := Lib.hid (show Rz w6 B base R Af Ap s3 from Z5.out.keep (fun k hk => HA6.out.block k (by have := Z5.out.lt R (.inl rfl); omega)) (fun k hk => HA6.out.block k (Z5.out.lt k hk).2))
              have HC6 := Lib.hid (show Ch (RF R Af Ap) w w6 from Ch.trans C5.out (Ch.grown HA6.out))
              have HO6 := Lib.hid (show OwnR w6 base Ap cp5 s3.ps from HO5.out.keep fun x hx => HA6.out.block x.block (HO5.out.lt x hx).2)
              have hc26 : w6.cell? ⟨R, 2, none⟩ = some (.slice Ap np cp5) := by
                rw [World.cell?_of_block (a := ⟨R, 2, none⟩) (HA6.out.block R (Z5.out.lt R (.inl rfl)).2)]
                exact hc2
              have hb6 : base ≤ w6.heap.size := by have := HZ6.out.lt R (.inl rfl); omega
              have Hw6 := Lib.hid hw6
              have HF := Lib.hid (show prOp st name s false = (Y, { s3 with ps := s3.ps ++ [T] }) by
                unfold prOp
                rw [if_neg HSE.out, HNo.out]
                show (freeY st name s false, prNew st name s false) = _
                have e1 : prNew st name s false = ⟨st.seed.drop s.length, st.fs, st.ps ++ [told false name s (freeY st name s false)], st.bad || taken st.ps name (drawO st.seed s.length) (!false), st.cnt + 1⟩ := rfl
                rw [e1, HFree.out, HT.out, HS3.out, HS2.out, HY0.out, ← HT0.out, HS1.out]
                simp only [HKC2.out]
                rfl)
              clear hT hw6 HA6 Z5 C5 HO5
              go_wp2_with (first
                | (at_builtin
                   rw [← Hw6.out]
                   refine wpList_appT rfl (.tmp 135) (.tmp 140) rfl (base := base) (n := np) (g2 := w5.heap.size) (t := T) HL3.out rfl HO6.out rfl HN6.out (by omega) hb6 ?_
                   intro A8 c8 w8 ho8 hg8 hm8
                   obtain ⟨hz8, hch8, ⟨u8', hu8⟩, hf8⟩ := HZ6.out.putPs hB hc26 HL3.out hg8 ho8 hm8
                   have Z8 := Lib.hid hz8
                   have C8 := Lib.hid hch8
                   have M8 := Lib.hid hm8
                   clear hz8 hch8 ho8 hg8 hm8))
              go_ret
              refine ⟨by rw [HF.out]; rfl, A8, by rw [HF.out]; exact Z8.out, Ch.trans HC6.out C8.out, ?_⟩
              rcases M8.out with e | ⟨x, hx, hx2⟩
              · exact .inl e
              · exact .inr ⟨x, hx, Nat.le_trans HC6.out.size hx2⟩
            case true =>
              obtain ⟨T, hT⟩ : ∃ T : T3, T = ⟨name, s, Y⟩ := ⟨_, rfl⟩
              have HT := Lib.hid hT
              obtain ⟨w6, hw6⟩ : ∃ w6, w6 = w5.alloc (.cells #[.string ⟨name.toArray⟩, .string ⟨s.toArray⟩, .string ⟨Y.toArray⟩] 96) := ⟨_, rfl⟩
              have HA6 := Lib.hid (show Grown w5 w6 by rw [hw6]; exact alloc_below _ _)
              have HN6 := Lib.hid (show w6.heap[w5.heap.size]? = some (.cells #[.string ⟨T.n.toArray⟩, .string ⟨T.x.toArray⟩, .string ⟨T.y.toArray⟩] 96 (0, 0)) by
                rw [hw6, hT]
                exact heap_alloc_new _ _)
              have HZ6 := Lib.hid (show Rz w6 B base R Af Ap s3 from Z5.out.keep (fun k hk => HA6.out.block k (by have := Z5.out.lt R (.inl rfl); omega)) (fun k hk => HA6.out.block k (Z5.out.lt k hk).2))
              have HC6 := Lib.hid (show Ch (RF R Af Ap) w w6 from Ch.trans C5.out (Ch.grown HA6.out))
              have HO6 := Lib.hid (show OwnR w6 base Ap cp5 s3.ps from HO5.out.keep fun x hx => HA6.out.block x.block (HO5.out.lt x hx).2)
              have hc26 : w6.cell? ⟨R, 2, none⟩ = some (.slice Ap np cp5) := by
                rw [World.cell?_of_block (a := ⟨R, 2, none⟩) (HA6.out.block R (Z5.out.lt R (.inl rfl)).2)]
                exact hc2
              have hb6 : base ≤ w6.heap.size := by have := HZ6.out.lt R (.inl rfl); omega
              have Hw6 := Lib.hid hw6
              have HF := Lib.hid (show prOp st name s true = (Y, { s3 with ps := s3.ps ++ [T] }) by
                unfold prOp
                rw [if_neg HSE.out, HNo.out]
                show (freeY st name s true, prNew st name s true) = _
                have e1 : prNew st name s true = ⟨st.seed.drop s.length, st.fs, st.ps ++ [told true name s (freeY st name s true)], st.bad || taken st.ps name (drawO st.seed s.length) (!true), st.cnt + 1⟩ := rfl
                rw [e1, HFree.out, HT.out, HS3.out, HS2.out, HY0.out, ← HT0.out, HS1.out]
                simp only [HKC2.out]
                rfl)
              clear hT hw6 HA6 Z5 C5 HO5
              go_wp2_with (first
                | (at_builtin
                   rw [← Hw6.out]
                   refine wpList_appT rfl (.tmp 122) (.tmp 127) rfl (base := base) (n := np) (g2 := w5.heap.size) (t := T) HL3.out rfl HO6.out rfl HN6.out (by omega) hb6 ?_
                   intro A8 c8 w8 ho8 hg8 hm8
                   obtain ⟨hz8, hch8, ⟨u8', hu8⟩, hf8⟩ := HZ6.out.putPs hB hc26 HL3.out hg8 ho8 hm8
                   have Z8 := Lib.hid hz8
                   have C8 := Lib.hid hch8
                   have M8 := Lib.hid hm8
                   clear hz8 hch8 ho8 hg8 hm8))
              go_ret
              refine ⟨by rw [HF.out]; rfl, A8, by rw [HF.out]; exact Z8.out, Ch.trans HC6.out C8.out, ?_⟩
              rcases M8.out with e | ⟨x, hx, hx2⟩
              · exact .inl e
              · exact .inr ⟨x, hx, Nat.le_trans HC6.out.size hx2⟩
end Go.Proofs.YtjklgmhaebjjaaaGreat.S11
namespace Go.Proofs.YtjklgmhaebjjaaaGreat.S12
open S11
open Go.RowKit
set_option linter.unusedVariables false
set_option linter.unusedSimpArgs false

/-- The struct: ideal or real, the tables' five cells, the nonces. -/
def OzC (A : Option Addr) (n c : Nat) (Af : Option Addr) (nf cf : Nat) (Ap : Option Addr) (np cp : Nat) (bad : Bool) (cnt : Int) : Array Value := #[.bool true, .slice A n c, .slice Af nf cf, .slice Ap np cp, .bool bad, .int .i64 cnt, .int .i64 0]
/-- The reference's tables st lie at block R, their rows at Af and Ap; the tape is somebody else's, below B. -/
def Ro (w : World) (B base R : Nat) (Af Ap : Option Addr) (st : St) : Prop :=
  base ≤ R ∧ Apart Af Ap ∧ ∃ A n c cf cp, w.heap[R]? = some (.cells (OzC A n c Af st.fs.length cf Ap st.ps.length cp st.bad (st.cnt : Int)) 33 (0, 0)) ∧ st.seed.length = n ∧ n ≤ c ∧ Rd w B A st.seed ∧ OwnR w base Af cf st.fs ∧ OwnR w base Ap cp st.ps
theorem Ro.lt {w : World} {B base R : Nat} {Af Ap : Option Addr} {st : St} (h : Ro w B base R Af Ap st) : ∀ k, RF R Af Ap k → base ≤ k ∧ k < w.heap.size := by
  obtain ⟨hb, hap, A, n, c, cf, cp, hR, h1, h2, h3, h4, h5⟩ := h
  rintro k (rfl | ⟨x, hx, rfl⟩ | ⟨x, hx, rfl⟩)
  · exact ⟨hb, lt_of_heap hR⟩
  · exact h4.lt x hx
  · exact h5.lt x hx
/-- They stay where their blocks stay. -/
theorem Ro.keep {w w' : World} {B base R : Nat} {Af Ap : Option Addr} {st : St} (h : Ro w B base R Af Ap st) (hB : ∀ k, k < B → w'.heap[k]? = w.heap[k]?) (hk : ∀ k, RF R Af Ap k → w'.heap[k]? = w.heap[k]?) : Ro w' B base R Af Ap st := by
  obtain ⟨hb, hap, A, n, c, cf, cp, hR, h1, h2, h3, h4, h5⟩ := h
  exact ⟨hb, hap, A, n, c, cf, cp, (hk R (.inl rfl)).trans hR, h1, h2, h3.keep fun p hp => World.cell?_of_block (hB _ hp), h4.keep fun x hx => hk _ (.inr (.inl ⟨x, hx, rfl⟩)), h5.keep fun x hx => hk _ (.inr (.inr ⟨x, hx, rfl⟩))⟩
section
variable {w : World} {B base R : Nat} {Af Ap : Option Addr} {st : St}
theorem offO {cf : Nat} {ts : List T3} {cs : Array Value} {A : Option Addr} (h : OwnR w base A cf ts) (hR : w.heap[R]? = some (.cells cs 33 (0, 0))) (j : Nat) (u : Value) : OwnR (w.setCell ⟨R, j, none⟩ u) base A cf ts := by
  refine h.keep fun x hx => heap_setCell_other w _ _ _ fun e => ?_
  rcases h.form with ⟨e1, _⟩ | ⟨g, cur, e1, _, hh, _⟩
  · rw [e1] at hx; cases hx
  · rw [e1] at hx
    simp only [Option.some.injEq] at hx
    subst hx
    simp only at e
    rw [e, hR] at hh
    injection hh with hh
    injection hh with _ ht
    exact absurd ht (by decide)
theorem Ro.setSeed (h : Ro w B base R Af Ap st) (hB : B ≤ base) {A2 : Option Addr} {n2 c2 : Nat} {s2 : List UInt8} (hn : s2.length = n2) (hc : n2 ≤ c2) (hr : Rd w B A2 s2) : Ro (w.setCell ⟨R, 1, none⟩ (.slice A2 n2 c2)) B base R Af Ap { st with seed := s2 } := by
  obtain ⟨hb, hap, A, n, c, cf, cp, hR, h1, h2, h3, h4, h5⟩ := h
  have hr2 : Rd (w.setCell ⟨R, 1, none⟩ (.slice A2 n2 c2)) B A2 s2 := hr.keep fun p hp => World.cell?_of_block (heap_setCell_other w ⟨R, 1, none⟩ p.block _ (fun e => by simp only at e; omega))
  refine ⟨hb, hap, A2, n2, c2, cf, cp, ?_, hn, hc, hr2, offO h4 hR 1 _, offO h5 hR 1 _⟩
  rw [heap_setCell_same w R 1 _ _ _ hR]
  rfl
theorem Ro.setBad (h : Ro w B base R Af Ap st) (hB : B ≤ base) (b : Bool) : Ro (w.setCell ⟨R, 4, none⟩ (.bool b)) B base R Af Ap { st with bad := b } := by
  obtain ⟨hb, hap, A, n, c, cf, cp, hR, h1, h2, h3, h4, h5⟩ := h
  refine ⟨hb, hap, A, n, c, cf, cp, ?_, h1, h2, h3.keep fun p hp => World.cell?_of_block (heap_setCell_other w ⟨R, 4, none⟩ p.block _ (fun e => by simp only at e; omega)), offO h4 hR 4 _, offO h5 hR 4 _⟩
  rw [heap_setCell_same w R 4 _ _ _ hR]
  rfl
theorem Ro.setCnt (h : Ro w B base R Af Ap st) (hB : B ≤ base) (k : Nat) : Ro (w.setCell ⟨R, 5, none⟩ (.int .i64 (k : Int))) B base R Af Ap { st with cnt := k } := by
  obtain ⟨hb, hap, A, n, c, cf, cp, hR, h1, h2, h3, h4, h5⟩ := h
  refine ⟨hb, hap, A, n, c, cf, cp, ?_, h1, h2, h3.keep fun p hp => World.cell?_of_block (heap_setCell_other w ⟨R, 5, none⟩ p.block _ (fun e => by simp only at e; omega)), offO h4 hR 5 _, offO h5 hR 5 _⟩
  rw [heap_setCell_same w R 5 _ _ _ hR]
  rfl
theorem notO {cf : Nat} {ts : List T3} {cs : Array Value} {A : Option Addr} (h : OwnR w base A cf ts) (hR : w.heap[R]? = some (.cells cs 33 (0, 0))) : ∀ x, A = some x → x.block ≠ R := by
  intro x hx e
  rcases h.form with ⟨e1, _⟩ | ⟨g, cur, e1, _, hh, _⟩
  · rw [e1] at hx; cases hx
  · rw [e1] at hx
    simp only [Option.some.injEq] at hx
    subst hx
    simp only at e
    rw [e, hR] at hh
    injection hh with hh
    injection hh with _ ht
    exact absurd ht (by decide)
/-- One more is told of functions. -/
theorem Ro.putFs {w' : World} {Af' : Option Addr} {cf cf' nf : Nat} {t : T3} (h : Ro w B base R Af Ap st) (hB : B ≤ base) (hc1 : w.cell? ⟨R, 2, none⟩ = some (.slice Af nf cf)) (hnf : st.fs.length = nf) (hg : w.grownBy w' (Value.slice Af nf cf).ownBlock) (ho : OwnR w' base Af' cf' (st.fs ++ [t])) (hm : Moved w Af Af') :
    Ro (w'.setCell ⟨R, 2, none⟩ (.slice Af' (nf + 1) cf')) B base R Af' Ap { st with fs := st.fs ++ [t] } ∧ Ch (RF R Af Ap) w (w'.setCell ⟨R, 2, none⟩ (.slice Af' (nf + 1) cf')) ∧ (∃ u, w'.cell? ⟨R, 2, none⟩ = some u) ∧ w'.frozen? ⟨R, 2, none⟩ = false := by
  obtain ⟨hb, hap, A, n, c, cf0, cp, hR, h1, h2, h3, h4, h5⟩ := h
  have hR' : w'.heap[R]? = some (.cells (OzC A n c Af st.fs.length cf0 Ap st.ps.length cp st.bad (st.cnt : Int)) 33 (0, 0)) :=
    (hg.block R (lt_of_heap hR) (fun e => by obtain ⟨x, hx, e2⟩ := own_blk e; exact notO h4 hR x hx e2)).trans hR
  have hch : Ch (RF R Af Ap) w w' := ⟨hg.os, hg.tape, hg.output, hg.size, fun k hk hf => hg.block k hk (fun e => by obtain ⟨x, hx, e2⟩ := own_blk e; exact hf (.inr (.inl ⟨x, hx, e2⟩)))⟩
  have hrd : Rd w' B A st.seed := h3.keep fun p hp => World.cell?_of_block (hg.block p.block (by have := lt_of_heap hR; omega) (fun e => by
    obtain ⟨x, hx, e2⟩ := own_blk e
    have := (h4.lt x hx).1
    omega))
  have h5' : OwnR w' base Ap cp st.ps := h5.keep fun x hx => hg.block x.block (h5.lt x hx).2 (fun e => by
    obtain ⟨y, hy, e2⟩ := own_blk e
    exact hap y x hy hx e2)
  refine ⟨⟨hb, ?_, A, n, c, cf', cp, ?_, h1, h2, hrd.keep fun p hp => World.cell?_of_block (heap_setCell_other w' ⟨R, 2, none⟩ p.block _ (fun e => by simp only at e; omega)), offO ho hR' 2 _, offO h5' hR' 2 _⟩, Ch.setCell hch (p := ⟨R, 2, none⟩) (.inl (.inl rfl)) _, ⟨_, cell_of_row w' R 2 _ _ (0, 0) hR'⟩, frozen_of_row w' R 2 _ _ hR'⟩
  · intro x y hx hy e
    rcases hm with rfl | ⟨z, hz, hz2⟩
    · exact hap x y hx hy e
    · rw [hz] at hx
      simp only [Option.some.injEq] at hx
      subst hx
      have := (h5.lt y hy).2
      omega
  · rw [heap_setCell_same w' R 2 _ _ _ hR']
    simp only [OzC, List.length_append, List.length_cons, List.length_nil, hnf]
    rfl
/-- One more is told of permutations. -/
theorem Ro.putPs {w' : World} {Ap' : Option Addr} {cp cp' np : Nat} {t : T3} (h : Ro w B base R Af Ap st) (hB : B ≤ base) (hc1 : w.cell? ⟨R, 3, none⟩ = some (.slice Ap np cp)) (hnp : st.ps.length = np) (hg : w.grownBy w' (Value.slice Ap np cp).ownBlock) (ho : OwnR w' base Ap' cp' (st.ps ++ [t])) (hm : Moved w Ap Ap') :
    Ro (w'.setCell ⟨R, 3, none⟩ (.slice Ap' (np + 1) cp')) B base R Af Ap' { st with ps := st.ps ++ [t] } ∧ Ch (RF R Af Ap) w (w'.setCell ⟨R, 3, none⟩ (.slice Ap' (np + 1) cp')) ∧ (∃ u, w'.cell? ⟨R, 3, none⟩ = some u) ∧ w'.frozen? ⟨R, 3, none⟩ = false := by
  obtain ⟨hb, hap, A, n, c, cf, cp0, hR, h1, h2, h3, h4, h5⟩ := h
  have hR' : w'.heap[R]? = some (.cells (OzC A n c Af st.fs.length cf Ap st.ps.length cp0 st.bad (st.cnt : Int)) 33 (0, 0)) :=
    (hg.block R (lt_of_heap hR) (fun e => by obtain ⟨x, hx, e2⟩ := own_blk e; exact notO h5 hR x hx e2)).trans hR
  have hch : Ch (RF R Af Ap) w w' := ⟨hg.os, hg.tape, hg.output, hg.size, fun k hk hf => hg.block k hk (fun e => by obtain ⟨x, hx, e2⟩ := own_blk e; exact hf (.inr (.inr ⟨x, hx, e2⟩)))⟩
  have hrd : Rd w' B A st.seed := h3.keep fun p hp => World.cell?_of_block (hg.block p.block (by have := lt_of_heap hR; omega) (fun e => by
    obtain ⟨x, hx, e2⟩ := own_blk e
    have := (h5.lt x hx).1
    omega))
  have h4' : OwnR w' base Af cf st.fs := h4.keep fun x hx => hg.block x.block (h4.lt x hx).2 (fun e => by
    obtain ⟨y, hy, e2⟩ := own_blk e
    exact hap x y hx hy e2.symm)
  refine ⟨⟨hb, ?_, A, n, c, cf, cp', ?_, h1, h2, hrd.keep fun p hp => World.cell?_of_block (heap_setCell_other w' ⟨R, 3, none⟩ p.block _ (fun e => by simp only at e; omega)), offO h4' hR' 3 _, offO ho hR' 3 _⟩, Ch.setCell hch (p := ⟨R, 3, none⟩) (.inl (.inl rfl)) _, ⟨_, cell_of_row w' R 3 _ _ (0, 0) hR'⟩, frozen_of_row w' R 3 _ _ hR'⟩
  · intro x y hx hy e
    rcases hm with rfl | ⟨z, hz, hz2⟩
    · exact hap x y hx hy e
    · rw [hz] at hy
      simp only [Option.some.injEq] at hy
      subst hy
      have := (h4.lt x hx).2
      omega
  · rw [heap_setCell_same w' R 3 _ _ _ hR']
    simp only [OzC, List.length_append, List.length_cons, List.length_nil, hnp]
    rfl
end
end Go.Proofs.YtjklgmhaebjjaaaGreat.S12
