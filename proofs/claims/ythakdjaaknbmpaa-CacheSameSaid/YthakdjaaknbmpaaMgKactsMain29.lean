/-
  Contracts of the program's device: padded, contents. Contracts of the program's device: contents, Read.
-/
import Derived.Test.YthakdjaaknbmpaaMgKactsMain28
import Derived.Laws.CopyOwn
namespace Go.Proofs.Ythakdjaaknbmpaa.S13
open Cf
open Go.RowKit
set_option linter.unusedVariables false
set_option linter.unusedSimpArgs false

/-- Block g is a sector of these bytes. -/
def Bk (w : World) (g : Nat) (l : List UInt8) : Prop := w.heap[g]? = some (.cells (bvs l).toArray 86 (0, 0))
theorem u512 : Try.prog.underlying 86 = some (.array 512 5) := Try.underlying86
theorem i512 : (Try.prog.info? 86).map (·.size) = some 512 := by kernel_rfl
theorem inf512 : (Try.prog.info? 86).map (fun i => (i.zero, i.size, i.bytes)) = some (some (.agg (bvs z512).toArray), 512, 512) := by kernel_rfl
theorem zero512 (w : World) : (zeroValue 86).run Try.prog w = .ok (.agg (bvs z512).toArray) w := by
  obtain ⟨i0, hi, hz0, hz1, hz2⟩ := info_parts inf512
  simp [zeroValue, typeInfo, hi, hz0]
theorem size512 {l : List UInt8} (h : l.length = 512) : (Try.prog.info? 86).map (·.size) = some (bvs l).toArray.size := by rw [show (bvs l).toArray.size = 512 by simp [bvs, h]]; exact i512
theorem size512l {l : List UInt8} (h : l.length = 512) : (Try.prog.info? 86).map (·.size) = some (bvs l).length := by rw [bvs_length, h]; exact i512
theorem one512 (l : List UInt8) : (bvs l).toArray.all (·.oneCell') = true := all_oneCell_toArray (bvs_one l)
theorem cutN {P : Program} {t e : TypeId} {n : Nat} (hu : P.underlying t = some (.array n e)) (h5 : (P.info? e).map (·.size) = some 1) (W : World) (g o : Nat) : (Instr.sliceAt t (.pointer (some ⟨g, o, none⟩)) none none none).run P W = .ok (.slice (some ⟨g, o, none⟩) n n) W := by
  cases hq : P.info? e with
  | none => simp [hq] at h5
  | some i =>
    have hs : i.size = 1 := by simpa [hq] using h5
    simp [Instr.sliceAt, Instr.sureAddr, Instr.sliceBounds, run_underlying hu, sizeOf, typeInfo, hq, hs]
    exact fun _ => Addr.add_mid g o 0
theorem cut512 (W : World) (g o : Nat) : (Instr.sliceAt 86 (.pointer (some ⟨g, o, none⟩)) none none none).run Try.prog W = .ok (.slice (some ⟨g, o, none⟩) 512 512) W := cutN u512 (by kernel_rfl) W g o
theorem setRow_at {w : World} {g : Nat} {old cs : Array Value} {t : TypeId} {f : Nat × Nat} (h : w.heap[g]? = some (.cells old t f)) : (w.setRow g cs).heap[g]? = some (.cells cs t f) := setRow_heap w g old cs t f h
theorem Below.setRow' {B : Nat} {a w : World} (h : Below B a w) {g : Nat} (hg : B ≤ g) (cs : Array Value) : Below B a (w.setRow g cs) :=
  ⟨h.os, h.tape, h.output, Nat.le_trans h.size (by simp [World.setRow]), fun k hk => (setRow_other w g k cs (by omega)).trans (h.block k hk)⟩
theorem newTwo (w : World) (o1 o2 : Obj) : ((w.alloc o1).alloc o2).heap[w.heap.size + 1]? = some o2 := by
  rw [show w.heap.size + 1 = (w.alloc o1).heap.size by simp]
  exact heap_alloc_new _ _
theorem newOne (w : World) (o1 o2 : Obj) : ((w.alloc o1).alloc o2).heap[w.heap.size]? = some o1 := (Below.heap_alloc _ _ _ (by simp)).trans (heap_alloc_new w _)
theorem twoGrown (w : World) (o1 o2 : Obj) : Grown w ((w.alloc o1).alloc o2) := Grown.trans (alloc_below w _) (alloc_below _ _)
theorem padSplice (b : List UInt8) (h : b.length ≤ 512) : splice (bvs z512) 0 (bvs b) = bvs (pad512 b) := by
  obtain ⟨m, hm⟩ : ∃ m, m = 512 := ⟨_, rfl⟩
  unfold splice pad512 z512
  rw [← hm]
  rw [List.take_zero, List.nil_append, Nat.zero_add, bvs_length]
  simp [bvs]
theorem rdSrc {w : World} {B : Nat} {A : Option Addr} {l : List UInt8} (h : Rd w B A l) (hp : 0 < (bvs l).length) : ∃ ad, A = some ad ∧ ∀ j v, (bvs l)[j]? = some v → w.cell? (ad.add j) = some v := by
  rcases h with rfl | ⟨b, off, rfl, hb, hc⟩
  · simp [bvs] at hp
  · refine ⟨_, rfl, fun j v hv => ?_⟩
    have hj : j < l.length := by
      have := (List.getElem?_eq_some_iff.1 hv).1
      simpa [bvs] using this
    have h3 := hc j hj
    simp [bvs, hj] at hv
    subst hv
    by_cases h0 : j = 0
    · subst h0; simpa [Addr.add] using h3
    · simpa [Addr.add, h0] using h3
theorem retSector {W : World} {fn : Func} {p : Tmp} (hr : fn.results = #[.cell p 86]) {R : Ending → World → Prop} {tm : Array Value} {g : Nat} {l : List UInt8} (hp : tm.getD p undef = .pointer (some ⟨g, 0, none⟩)) (hg : Bk W g l) (hl : l.length = 512)
    (h : R (.returned (.agg (bvs l).toArray)) W) : bodyPost Try.prog fn R .ret { tmps := tm, defers := [] } W :=
  bodyPost_ret (v := .agg (bvs l).toArray) (results_cell_row hr tm W g _ _ _ _ hp hg u512 rfl (size512 hl)) rfl h
theorem info8u : (Try.prog.info? 5).map (·.size) = some 1 := by kernel_rfl
theorem Bk.grow {w w' : World} {g : Nat} {l : List UInt8} (h : Bk w g l) (hb : Grown w w') : Bk w' g l := (hb.block g (lt_of_heap h)).trans h
theorem padded_any (w : World) (A : Option Addr) (n c : Nat) (b : List UInt8) (hb : Rd w w.heap.size A b) (hn : b.length = n) (h5 : n ≤ 512) :
    Calls Try.prog 51 #[.slice A n c] w fun e w' => e = .returned (.agg (bvs (pad512 b)).toArray) ∧ Grown w w' := by
  have HB := Lib.hid hb
  have HN := Lib.hid hn
  have HZ := zero512
  have H0 := Lib.hid (newOne w (.cells (bvs z512).toArray 86) (.cells (bvs z512).toArray 86))
  have H1 := Lib.hid (newTwo w (.cells (bvs z512).toArray 86) (.cells (bvs z512).toArray 86))
  have HG := Lib.hid (twoGrown w (.cells (bvs z512).toArray 86) (.cells (bvs z512).toArray 86))
  have HC := fun W => cut512 W (w.heap.size + 1) 0
  clear hb hn
  go_enter Try.func51, Try.ntmps51
  go_wp2_with (first
    | (refine wpList_copy_splice rfl (.tmp 4) (.tmp 5) 38 38 rfl 5 Try.underlying38 info8u _ _ _ _ _ _ rfl rfl (w.heap.size + 1) 0 (bvs z512) 86 H1.out (bvs b) (by rw [bvs_length, HN.out]; exact (Nat.min_eq_left h5).symm) (fun hq => ⟨rfl, rdSrc (HB.out.grow HG.out) hq⟩) (by rw [bvs_length, bvs_length, z512_len, HN.out]; omega) (bvs_one _) (w.heap.size + 1) _ (Below.refl _ _) (Nat.le_refl _) ?_
       intro w2 hw2 hb2
       have P1 := Lib.hid (show Bk w2 (w.heap.size + 1) (pad512 b) by have := hw2.out; rw [padSplice b (by have := HN.out; omega)] at this; exact this)
       have P0 := Lib.hid (show Bk w2 w.heap.size z512 from (hb2.block _ (by omega)).trans H0.out)
       have PG := Lib.hid (show Grown w w2 from Below.trans HG.out (hb2.mono (by omega)))
       have PL := Lib.hid (pad512_len b (by have := HN.out; omega))
       clear hw2 hb2 H0 H1 HG HC)
    | (refine wpList_load_row rfl 86 (.tmp 3) rfl _ rfl _ _ _ _ P1.out u512 rfl (size512 PL.out) ?_)
    | (refine wpList_store_row rfl 86 (.tmp 2) (.tmp 7) rfl _ _ rfl rfl _ _ P0.out (size512 PL.out) (by simp only [List.size_toArray, bvs_length, PL.out, z512_len]) (one512 _) ?_))

  exact retSector rfl rfl (setRow_at P0.out) PL.out ⟨rfl, Below.setRow' PG.out (Nat.le_refl _) _⟩
end Go.Proofs.Ythakdjaaknbmpaa.S13
namespace Go.Proofs.Ythakdjaaknbmpaa.S13
open Cf
open Go.RowKit
set_option linter.unusedVariables false
set_option linter.unusedSimpArgs false
section
variable {w w' : World} {G Bd Bl : Nat} {Ap : Option Addr} {L : List Pw} {left : Int} {st : Dv} {i : Nat}
theorem Pz.see (h : Pz w G Bd Bl Ap L left st) (n : Nat) (hn : n < st.kept.length) : w.cell? ⟨Bl, n, none⟩ = some (ov (lastB none L n)) :=
  (h.pr.latAt n hn _ (latRow_at _ _ _ hn)).1
theorem Pz.seeLen (h : Pz w G Bd Bl Ap L left st) (n : Nat) (hn : n < st.kept.length) : (S13.see st n).length = 512 := by
  refine latest_len _ _ _ ?_ (fun p hp => ?_)
  · rw [List.getD_eq_getElem?_getD, List.getElem?_eq_getElem hn]; exact h.pr.k512 _ (List.getElem_mem _)
  · rw [← h.pend] at hp
    obtain ⟨q, hq, rfl⟩ := List.mem_map.1 hp
    exact (h.p2 q hq).2
theorem contents_any (h : Pz w G Bd Bl Ap L left st) (n : Nat) (hn : n < st.kept.length) :
    Calls Try.prog 55 #[.pointer (some ⟨G, 0, none⟩), .int .i64 (n : Int)] w fun e w' => e = .returned (.agg (bvs (see st n)).toArray) ∧ Grown w w' := by
  have HZ := zero512
  have HL := Lib.hid (h.seeLen n hn)
  have HS := lastB_see (st.kept.getD n []) L n
  rw [h.pend] at HS
  have GA := Lib.hid (alloc_below w (.cells (bvs z512).toArray 86))
  have B0 := Lib.hid (show Bk (w.alloc (.cells (bvs z512).toArray 86)) w.heap.size z512 from heap_alloc_new w _)
  have H1 := Lib.hid (h.grow GA.out)
  obtain ⟨cp, l1, c0, c1, c2, c3, c4⟩ := H1.out.pr.cells
  have hlat := H1.out.see n hn
  have hkp := (H1.out.pr.keptAt n hn).1
  obtain ⟨k, hk⟩ : ∃ k, k = st.kept.length := ⟨_, rfl⟩
  rw [← hk] at c0 c2
  have hnk : (n : Int) < (k : Int) := by omega
  obtain ⟨l, hl⟩ : ∃ l, l = see st n := ⟨_, rfl⟩
  rw [← hl] at HL ⊢
  have hs2 : latest (st.kept.getD n []) st.pend n = l := hl.symm
  rw [hs2] at HS
  clear hk hl hs2 c1 c3 c4 l1 h hn
  rcases HS with ⟨e1, e2⟩ | ⟨p, hp, e1, e2, e3⟩
  · rw [e1] at hlat
    have hlat' : (w.alloc (.cells (bvs z512).toArray 86)).cell? ⟨Bl, n, none⟩ = some (.pointer none) := hlat
    rw [← e2] at hkp
    have HR := Lib.hid hkp
    clear hlat hkp e1 e2
    go_enter Try.func55, Try.ntmps55
    go_wp2_with (first
      | (refine wpList_load_mid rfl 86 (.tmp 24) rfl _ _ rfl _ _ HR.out u512 rfl (size512l HL.out) ?_)
      | (refine wpList_store_row rfl 86 (.tmp 4) (.tmp 25) rfl _ _ rfl rfl _ _ B0.out (size512 HL.out) (by simp only [List.size_toArray, bvs_length, HL.out, z512_len]) (one512 _) ?_))
    exact retSector rfl rfl (setRow_at B0.out) HL.out ⟨rfl, Below.setRow' GA.out (Nat.le_refl _) _⟩
  · rw [e1] at hlat
    have hlat' : (w.alloc (.cells (bvs z512).toArray 86)).cell? ⟨Bl, n, none⟩ = some (.pointer (some ⟨p.1, 0, none⟩)) := hlat
    have HR := Lib.hid (show (w.alloc (.cells (bvs z512).toArray 86)).rangeAt p.1 1 (bvs l) by rw [e3]; exact (H1.out.wr.at_ hp).2)
    clear hlat hkp e1 e2 e3 hp
    go_enter Try.func55, Try.ntmps55
    go_wp2_with (first
      | (refine wpList_load_mid rfl 86 (.tmp 17) rfl _ _ rfl _ _ HR.out u512 rfl (size512l HL.out) ?_)
      | (refine wpList_store_row rfl 86 (.tmp 4) (.tmp 18) rfl _ _ rfl rfl _ _ B0.out (size512 HL.out) (by simp only [List.size_toArray, bvs_length, HL.out, z512_len]) (one512 _) ?_))
    exact retSector rfl rfl (setRow_at B0.out) HL.out ⟨rfl, Below.setRow' GA.out (Nat.le_refl _) _⟩
theorem see_tick (st : Dv) (n : Nat) : see (tick st) n = see st n := by unfold see; rw [tick_kept, tick_pend]
theorem OwA.sector {w : World} {g : Nat} {l : List UInt8} (h : Bk w g l) (hl : l.length = 512) {base : Nat} (hb : base ≤ g) : OwA w base (some ⟨g, 0, none⟩) 512 l :=
  .inr ⟨g, _, _, rfl, hb, h, by omega, by rw [List.take_of_length_le (by simp [bvs])]⟩
set_option maxRecDepth 20000 in
set_option maxHeartbeats 1000000 in
theorem read_any (h : Pz w G Bd Bl Ap L left st) (n : Int) :
    Calls Try.prog 30 #[.pointer (some ⟨G, 0, none⟩), .int .i64 n] w fun e w' =>
      ∃ A m c, e = .returned (.tuple #[.slice A m c, .int .i64 (dvRead st n).2.1]) ∧ (dvRead st n).1.length = m ∧ m ≤ c ∧ OwA w' w.heap.size A c (dvRead st n).1 ∧ (∃ left', Pz w' G Bd Bl Ap L left' (dvRead st n).2.2) ∧ Ch (FF G Bd Bl Ap L) w w' ∧ ∀ x, A = some x → ¬ FF G Bd Bl Ap L x.block := by
  have H := Lib.hid h
  by_cases hin : 0 ≤ n ∧ n < (st.kept.length : Int)
  · have HH := Lib.hid (has_yes h n hin.1 hin.2)
    have HC := Lib.hid (call_any h)
    have HI := Lib.hid hin
    obtain ⟨k, rfl⟩ : ∃ k : Nat, n = (k : Int) := ⟨n.toNat, by omega⟩
    clear h hin
    go_enter Try.func30, Try.ntmps30
    go_wp2_with fail
    refine HH.out.mono ?_
    rintro e w0 ⟨rfl, rfl⟩
    clear HH
    go_wp2_with fail
    refine HC.out.mono ?_
    rintro e w1 ⟨rfl, ⟨left', hz⟩, hc⟩
    have HZ := Lib.hid hz
    have HCh := Lib.hid hc
    clear hz hc HC
    cases hon : isOn st with
    | false =>
      rw [onErr_off hon]
      have HE := Lib.hid (show dvRead st (k : Int) = ([], 10, st) by unfold dvRead; rw [if_neg (show ¬ ¬ inR st k from fun hh => hh HI.out), hon]; rfl)
      have HT := Lib.hid (tickOff hon)
      clear hon
      go_wp2
      go_ret2
      rw [HE.out]
      exact ⟨none, 0, 0, rfl, rfl, Nat.le_refl _, OwA.nil _ _, ⟨left', HT.out ▸ HZ.out⟩, HCh.out, fun x hx => by cases hx⟩
    | true =>
      rw [onErr_on hon]
      have HE := Lib.hid (show dvRead st (k : Int) = (see st k, 0, tick st) by unfold dvRead; rw [if_neg (show ¬ ¬ inR st k from fun hh => hh HI.out), hon]; rfl)
      have hkl : k < (tick st).kept.length := by rw [tick_kept]; have := HI.out.2; omega
      have HL := Lib.hid (HZ.out.seeLen k hkl)
      have HCo := Lib.hid (contents_any HZ.out k hkl)
      rw [see_tick] at HL HCo
      clear hon hkl
      go_wp2_with fail
      refine HCo.out.mono ?_
      rintro e w2 ⟨rfl, hg⟩
      obtain ⟨l, hl⟩ : ∃ l, l = see st k := ⟨_, rfl⟩
      rw [← hl] at HL HE ⊢
      clear hl HCo
      have HZ2 := zero512
      have GA := Lib.hid (alloc_below w2 (.cells (bvs z512).toArray 86))
      have B0 := Lib.hid (show Bk (w2.alloc (.cells (bvs z512).toArray 86)) w2.heap.size z512 from heap_alloc_new w2 _)
      have HG2 := Lib.hid hg
      clear hg
      have HCu := fun W => cut512 W w2.heap.size 0
      go_wp2_with (first
        | (refine wpList_store_row rfl 86 (.tmp 7) (.tmp 19) rfl _ _ rfl rfl _ _ B0.out (size512 HL.out) (by simp only [List.size_toArray, bvs_length, HL.out, z512_len]) (one512 _) ?_))
      go_ret2
      rw [HE.out]
      have S0 := HCh.out.size
      have g1 := HG2.out.size
      have GR : Grown w1 ((w2.alloc (.cells (bvs z512).toArray 86)).setRow w2.heap.size (bvs l).toArray) := Grown.trans HG2.out (Below.setRow' GA.out (Nat.le_refl _) _)
      refine ⟨_, _, _, rfl, HL.out, Nat.le_refl _, OwA.sector (setRow_at B0.out) HL.out (by omega), ⟨left', HZ.out.grow GR⟩, HCh.out.trans (Ch.grown GR), fun x hx hf => ?_⟩
      simp only [Option.some.injEq] at hx
      subst hx
      have : w2.heap.size < w1.heap.size := HZ.out.lt _ hf
      omega
  · have HH := Lib.hid (has_no h n hin)
    have HE := Lib.hid (show dvRead st n = ([], 2, st) by unfold dvRead; rw [if_pos (by unfold inR; exact hin)])
    clear h hin
    go_enter Try.func30, Try.ntmps30
    go_wp2_with fail
    refine HH.out.mono ?_
    rintro e w0 ⟨rfl, rfl⟩
    clear HH
    go_wp2
    go_ret2
    rw [HE.out]
    exact ⟨none, 0, 0, rfl, rfl, Nat.le_refl _, OwA.nil _ _, ⟨left, H.out⟩, Ch.refl _ _, fun x hx => by cases hx⟩
end
end Go.Proofs.Ythakdjaaknbmpaa.S13
