/-
  Contracts of the program's device: contents, Read.
-/
import Derived.Test.YteigfpgdnfladaaDqB
namespace Go.Proofs.Yteigfpgdnfladaa.S13
open Cf
open Go.RowKit
set_option linter.unusedVariables false
set_option linter.unusedSimpArgs false
section
variable {w w' : World} {G Bd Bl : Nat} {Ap : Option Addr} {L : List Pw} {left : Int} {st : Dv} {i : Nat}
theorem Pz.see (h : Pz w G Bd Bl Ap L left st) (n : Nat) (hn : n < st.kept.length) : w.cell? ⟨Bl, n, none⟩ = some (ov (lastB none L n)) :=
  (h.pr.latAt n hn _ (latRow_at _ _ _ hn)).1
theorem Pz.seeLen (h : Pz w G Bd Bl Ap L left st) (n : Nat) (hn : n < st.kept.length) : (S13.see st n).length = 512 := by
  refine latest_len _ _ _ ?_ (fun p hp => ?_)
  · rw [List.getD_eq_getElem?_getD, List.getElem?_eq_getElem hn]; exact h.pr.k512 _ (List.getElem_mem _)
  · rw [← h.pend] at hp
    obtain ⟨q, hq, rfl⟩ := List.mem_map.1 hp
    exact (h.p2 q hq).2
theorem contents_any (h : Pz w G Bd Bl Ap L left st) (n : Nat) (hn : n < st.kept.length) :
    Calls Try.prog 37 #[.pointer (some ⟨G, 0, none⟩), .int .i64 (n : Int)] w fun e w' => e = .returned (.agg (bvs (see st n)).toArray) ∧ Grown w w' := by
  have HZ := zero512
  have HL := Lib.hid (h.seeLen n hn)
  have HS := lastB_see (st.kept.getD n []) L n
  rw [h.pend] at HS
  have GA := Lib.hid (alloc_below w (.cells (bvs z512).toArray 65))
  have B0 := Lib.hid (show Bk (w.alloc (.cells (bvs z512).toArray 65)) w.heap.size z512 from heap_alloc_new w _)
  have H1 := Lib.hid (h.grow GA.out)
  obtain ⟨cp, l1, c0, c1, c2, c3, c4⟩ := H1.out.pr.cells
  have hlat := H1.out.see n hn
  have hkp := (H1.out.pr.keptAt n hn).1
  obtain ⟨k, hk⟩ : ∃ k, k = st.kept.length := ⟨_, rfl⟩
  rw [← hk] at c0 c2
  have hnk : (n : Int) < (k : Int) := by omega
  obtain ⟨l, hl⟩ : ∃ l, l = see st n := ⟨_, rfl⟩
  rw [← hl] at HL ⊢
  have hs2 : latest (st.kept.getD n []) st.pend n = l := hl.symm
  rw [hs2] at HS
  clear hk hl hs2 c1 c3 c4 l1 h hn
  rcases HS with ⟨e1, e2⟩ | ⟨p, hp, e1, e2, e3⟩
  · rw [e1] at hlat
    have hlat' : (w.alloc (.cells (bvs z512).toArray 65)).cell? ⟨Bl, n, none⟩ = some (.pointer none) := hlat
    rw [← e2] at hkp
    have HR := Lib.hid hkp
    clear hlat hkp e1 e2
    go_enter Try.func37, Try.ntmps37
    go_wp2_with (first
      | (refine wpList_load_mid rfl 65 (.tmp 24) rfl _ _ rfl _ _ HR.out u512 rfl (size512l HL.out) ?_)
      | (refine wpList_store_row rfl 65 (.tmp 4) (.tmp 25) rfl _ _ rfl rfl _ _ B0.out (size512 HL.out) (by simp only [List.size_toArray, bvs_length, HL.out, z512_len]) (one512 _) ?_))
    exact retSector rfl rfl (setRow_at B0.out) HL.out ⟨rfl, Below.setRow' GA.out (Nat.le_refl _) _⟩
  · rw [e1] at hlat
    have hlat' : (w.alloc (.cells (bvs z512).toArray 65)).cell? ⟨Bl, n, none⟩ = some (.pointer (some ⟨p.1, 0, none⟩)) := hlat
    have HR := Lib.hid (show (w.alloc (.cells (bvs z512).toArray 65)).rangeAt p.1 1 (bvs l) by rw [e3]; exact (H1.out.wr.at_ hp).2)
    clear hlat hkp e1 e2 e3 hp
    go_enter Try.func37, Try.ntmps37
    go_wp2_with (first
      | (refine wpList_load_mid rfl 65 (.tmp 17) rfl _ _ rfl _ _ HR.out u512 rfl (size512l HL.out) ?_)
      | (refine wpList_store_row rfl 65 (.tmp 4) (.tmp 18) rfl _ _ rfl rfl _ _ B0.out (size512 HL.out) (by simp only [List.size_toArray, bvs_length, HL.out, z512_len]) (one512 _) ?_))
    exact retSector rfl rfl (setRow_at B0.out) HL.out ⟨rfl, Below.setRow' GA.out (Nat.le_refl _) _⟩
theorem see_tick (st : Dv) (n : Nat) : see (tick st) n = see st n := by unfold see; rw [tick_kept, tick_pend]
theorem OwA.sector {w : World} {g : Nat} {l : List UInt8} (h : Bk w g l) (hl : l.length = 512) {base : Nat} (hb : base ≤ g) : OwA w base (some ⟨g, 0, none⟩) 512 l :=
  .inr ⟨g, _, _, rfl, hb, h, by omega, by rw [List.take_of_length_le (by simp [bvs])]⟩
set_option maxHeartbeats 1000000 in
theorem read_any (h : Pz w G Bd Bl Ap L left st) (n : Int) :
    Calls Try.prog 13 #[.pointer (some ⟨G, 0, none⟩), .int .i64 n] w fun e w' =>
      ∃ A m c, e = .returned (.tuple #[.slice A m c, .int .i64 (dvRead st n).2.1]) ∧ (dvRead st n).1.length = m ∧ m ≤ c ∧ OwA w' w.heap.size A c (dvRead st n).1 ∧ (∃ left', Pz w' G Bd Bl Ap L left' (dvRead st n).2.2) ∧ Ch (FF G Bd Bl Ap L) w w' ∧ ∀ x, A = some x → ¬ FF G Bd Bl Ap L x.block := by
  have H := Lib.hid h
  by_cases hin : 0 ≤ n ∧ n < (st.kept.length : Int)
  · have HH := Lib.hid (has_yes h n hin.1 hin.2)
    have HC := Lib.hid (call_any h)
    have HI := Lib.hid hin
    obtain ⟨k, rfl⟩ : ∃ k : Nat, n = (k : Int) := ⟨n.toNat, by omega⟩
    clear h hin
    go_enter Try.func13, Try.ntmps13
    go_wp2_with fail
    refine HH.out.mono ?_
    rintro e w0 ⟨rfl, rfl⟩
    clear HH
    go_wp2_with fail
    refine HC.out.mono ?_
    rintro e w1 ⟨rfl, ⟨left', hz⟩, hc⟩
    have HZ := Lib.hid hz
    have HCh := Lib.hid hc
    clear hz hc HC
    cases hon : isOn st with
    | false =>
      rw [onErr_off hon]
      have HE := Lib.hid (show dvRead st (k : Int) = ([], 10, st) by unfold dvRead; rw [if_neg (show ¬ ¬ inR st k from fun hh => hh HI.out), hon]; rfl)
      have HT := Lib.hid (tickOff hon)
      clear hon
      go_wp2
      go_ret2
      rw [HE.out]
      exact ⟨none, 0, 0, rfl, rfl, Nat.le_refl _, OwA.nil _ _, ⟨left', HT.out ▸ HZ.out⟩, HCh.out, fun x hx => by cases hx⟩
    | true =>
      rw [onErr_on hon]
      have HE := Lib.hid (show dvRead st (k : Int) = (see st k, 0, tick st) by unfold dvRead; rw [if_neg (show ¬ ¬ inR st k from fun hh => hh HI.out), hon]; rfl)
      have hkl : k < (tick st).kept.length := by rw [tick_kept]; have := HI.out.2; omega
      have HL := Lib.hid (HZ.out.seeLen k hkl)
      have HCo := Lib.hid (contents_any HZ.out k hkl)
      rw [see_tick] at HL HCo
      clear hon hkl
      go_wp2_with fail
      refine HCo.out.mono ?_
      rintro e w2 ⟨rfl, hg⟩
      obtain ⟨l, hl⟩ : ∃ l, l = see st k := ⟨_, rfl⟩
      rw [← hl] at HL HE ⊢
      clear hl HCo
      have HZ2 := zero512
      have GA := Lib.hid (alloc_below w2 (.cells (bvs z512).toArray 65))
      have B0 := Lib.hid (show Bk (w2.alloc (.cells (bvs z512).toArray 65)) w2.heap.size z512 from heap_alloc_new w2 _)
      have HG2 := Lib.hid hg
      clear hg
      have HCu := fun W => cut512 W w2.heap.size 0
      go_wp2_with (first
        | (refine wpList_store_row rfl 65 (.tmp 7) (.tmp 19) rfl _ _ rfl rfl _ _ B0.out (size512 HL.out) (by simp only [List.size_toArray, bvs_length, HL.out, z512_len]) (one512 _) ?_))
      go_ret2
      rw [HE.out]
      have S0 := HCh.out.size
      have g1 := HG2.out.size
      have GR : Grown w1 ((w2.alloc (.cells (bvs z512).toArray 65)).setRow w2.heap.size (bvs l).toArray) := Grown.trans HG2.out (Below.setRow' GA.out (Nat.le_refl _) _)
      refine ⟨_, _, _, rfl, HL.out, Nat.le_refl _, OwA.sector (setRow_at B0.out) HL.out (by omega), ⟨left', HZ.out.grow GR⟩, HCh.out.trans (Ch.grown GR), fun x hx hf => ?_⟩
      simp only [Option.some.injEq] at hx
      subst hx
      have : w2.heap.size < w1.heap.size := HZ.out.lt _ hf
      omega
  · have HH := Lib.hid (has_no h n hin)
    have HE := Lib.hid (show dvRead st n = ([], 2, st) by unfold dvRead; rw [if_pos (by unfold inR; exact hin)])
    clear h hin
    go_enter Try.func13, Try.ntmps13
    go_wp2_with fail
    refine HH.out.mono ?_
    rintro e w0 ⟨rfl, rfl⟩
    clear HH
    go_wp2
    go_ret2
    rw [HE.out]
    exact ⟨none, 0, 0, rfl, rfl, Nat.le_refl _, OwA.nil _ _, ⟨left, H.out⟩, Ch.refl _ _, fun x hx => by cases hx⟩
end
end Go.Proofs.Yteigfpgdnfladaa.S13
