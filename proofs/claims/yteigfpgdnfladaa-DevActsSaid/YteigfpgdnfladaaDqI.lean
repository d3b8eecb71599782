/-
  Contracts of the program's device: Image; New of a wrong number.
-/
import Derived.Test.YteigfpgdnfladaaDqN
namespace Go.Proofs.Yteigfpgdnfladaa.S13
open Cf
open Go.RowKit
set_option linter.unusedVariables false
set_option linter.unusedSimpArgs false
theorem mkRoom (k : Nat) (hk : k ≤ 1000000) (w : World) :
    (Instr.makeSlice 31 (.int .i64 0) (.int .i64 (k : Int))).run Try.prog w = .ok (.slice (some ⟨w.heap.size, 0, none⟩) 0 k) (w.alloc (.cells (bvs (List.replicate k 0)).toArray 5)) := by
  obtain ⟨i0, hi, hz0, hz1, hz2⟩ := info_parts info5
  have hr := run_make (P := Try.prog) w 31 5 i0 _ Try.underlying31 hi hz0 .i64 .i64 0 (k : Int) (by omega) (by omega) (by rw [hz2]; omega) (by omega)
  simp only [Int.toNat_natCast, hz1, Nat.mul_one] at hr
  rw [hr]
  have : madeCells (Value.int IntKind.u8 0).cells k = (bvs (List.replicate k 0)).toArray := by
    apply Array.toList_inj.1
    show (madeCells #[_] k).toList = _
    rw [toList_madeCells_one]
    simp [bvs, bv]
  rw [this]
  rfl
theorem ownRoom (w : World) (k : Nat) (hk : k ≤ 1000000) (base : Nat) (hb : base ≤ w.heap.size) : Own (w.alloc (.cells (bvs (List.replicate k 0)).toArray 5)) base (some ⟨w.heap.size, 0, none⟩) k [] :=
  ⟨by simp [bvs], .inr ⟨w.heap.size, k, _, rfl, hb, heap_alloc_new w _, Nat.zero_le _, by unfold maxLen; omega, by simp [bvs], by simp [bvs]⟩⟩
theorem range_rd {w : World} {g : Nat} {cs : Array Value} {t : TypeId} {l : List UInt8} (h : w.heap[g]? = some (.cells cs t (0, 0))) (hc : cs = (bvs l).toArray := by rfl) : Rd w (g + 1) (some ⟨g, 0, none⟩) l := by
  subst hc
  exact .inr ⟨g, 0, rfl, Nat.lt_succ_self _, fun j hj => by rw [Nat.zero_add, cell_of_row w g j _ _ (0, 0) h]; simp [bvs, hj]⟩
def imK (st : Dv) (k : Nat) : List UInt8 := ((List.range k).map (see st)).flatten
theorem imK_succ (st : Dv) (k : Nat) : imK st k ++ see st k = imK st (k + 1) := by
  unfold imK
  rw [List.range_succ, List.map_append, List.flatten_append]
  simp
section
variable {w w' : World} {G Bd Bl : Nat} {Ap : Option Addr} {L : List Pw} {left : Int} {st : Dv} {i : Nat}
theorem new_bad (w : World) (n : Int) (h : n < 1 ∨ 65536 < n) : Calls Try.prog 8 #[.int .i64 n] w fun e w' => e = .returned (.tuple #[.pointer none, .int .i64 2]) ∧ w' = w := by
  by_cases h1 : n < 1
  · clear h
    go_enter Try.func8, Try.ntmps8
    go_wp2
    go_ret2
    exact ⟨rfl, rfl⟩
  · have h2 : n > 65536 := by omega
    clear h
    go_enter Try.func8, Try.ntmps8
    go_wp2
    go_ret2
    exact ⟨rfl, rfl⟩
theorem imK_len (h : Pz w G Bd Bl Ap L left st) (k : Nat) (hk : k ≤ st.kept.length) : (imK st k).length = k * 512 := by
  induction k with
  | zero => rfl
  | succ k ih => rw [← imK_succ, List.length_append, ih (by omega), h.seeLen k (by omega)]; omega
set_option maxHeartbeats 1000000 in
theorem image_any (h : Pz w G Bd Bl Ap L left st) (hl : st.kept.length ≤ 1000) :
    Calls Try.prog 30 #[.pointer (some ⟨G, 0, none⟩)] w fun e w' => ∃ A m c, e = .returned (.slice A m c) ∧ (image st).length = m ∧ m ≤ c ∧ Rd w' w'.heap.size A (image st) ∧ Grown w w' := by
  have H := Lib.hid h
  obtain ⟨cp, l1, c0, c1, c2, c3, c4⟩ := h.pr.cells
  obtain ⟨nk, hnk⟩ : ∃ nk, nk = st.kept.length := ⟨_, rfl⟩
  have HNk := Lib.hid hnk
  have q0 : w.cell? ⟨G, 0, none⟩ = some (.slice (some ⟨Bd, 0, none⟩) nk nk) := by rw [hnk]; exact c0
  rw [← hnk] at hl
  have GA := Lib.hid (alloc_below w (.cells (bvs (List.replicate (nk * 512) 0)).toArray 5))
  have OA := Lib.hid (ownRoom w (nk * 512) (by omega) w.heap.size (Nat.le_refl _))
  have hmk := mkRoom (nk * 512) (by omega) w
  rw [show ((nk * 512 : Nat) : Int) = (nk : Int) * 512 by omega] at hmk
  have hwr : IntKind.i64.wrap ((nk : Int) * 512) = (nk : Int) * 512 := by rw [IntKind.wrap_i64]; omega
  obtain ⟨q9, hq9⟩ : ∃ q, q = nk * 512 := ⟨_, rfl⟩
  have r0 : (w.alloc (.cells (bvs (List.replicate (nk * 512) 0)).toArray 5)).cell? ⟨G, 0, none⟩ = some (.slice (some ⟨Bd, 0, none⟩) nk nk) := (World.cell?_of_block (a := ⟨G, 0, none⟩) (GA.out.block G (h.pr.lt G (.inl rfl)))).trans q0
  clear h c0 c1 c2 c3 c4 l1 hnk hq9
  go_enter Try.func30, Try.ntmps30
  go_wp2_with fail
  clear r0 q0 hmk hwr
  generalize w.alloc _ = wa at GA OA ⊢
  go_loopw [3, 18] (fun v3 v18 wr => ∃ (k : Nat) (A : Option Addr) (c : Nat), v3 = .slice A (k * 512) c ∧ v18 = .int .i64 (k : Int) ∧ k ≤ nk ∧ Hid (Own wr w.heap.size A c (imK st k)) ∧ Hid (Grown w wr)) (fun _ v18 _ => nk - (intOf v18).toNat)
  case atStart => exact ⟨0, _, _, rfl, rfl, Nat.zero_le _, OA.out, GA.out⟩
  case round =>
    clear OA GA
    obtain ⟨k, A, c, rfl, rfl, hk, HO, HG⟩ := hrel
    by_cases hlt : k < nk
    · have bk : (k : Int) < (nk : Int) := by omega
      have HZr := Lib.hid (H.out.grow HG.out)
      have hkl : k < st.kept.length := by have := HNk.out; omega
      have HCo := Lib.hid (contents_any HZr.out k hkl)
      have HL := Lib.hid (H.out.seeLen k hkl)
      have HIl := Lib.hid (imK_len H.out k (by omega))
      have HIs := Lib.hid (imK_succ st k)
      have HIl2 := Lib.hid (imK_len H.out (k + 1) (by omega))
      obtain ⟨l, hl'⟩ : ∃ l, l = see st k := ⟨_, rfl⟩
      rw [← hl'] at HL HCo HIs
      obtain ⟨m, hm⟩ : ∃ m, m = k * 512 := ⟨_, rfl⟩
      rw [← hm] at HIl ⊢
      have HMk := Lib.hid hm
      clear hl' hkl hm
      go_wp2_with fail
      refine HCo.out.mono ?_
      rintro e w2 ⟨rfl, hg⟩
      have HG2 := Lib.hid hg
      have HO2 := Lib.hid (HO.out.grow hg)
      clear hg HCo HO HZr
      have HZ2 := zero512
      have GB := Lib.hid (alloc_below w2 (.cells (bvs z512).toArray 65))
      have B0 := Lib.hid (show Bk (w2.alloc (.cells (bvs z512).toArray 65)) w2.heap.size z512 from heap_alloc_new w2 _)
      have HCu := fun W => cut512 W w2.heap.size 0
      go_wp2_with (first
        | (refine wpList_store_row rfl 65 (.tmp 5) (.tmp 23) rfl _ _ rfl rfl _ _ B0.out (size512 HL.out) (by simp only [List.size_toArray, bvs_length, HL.out, z512_len]) (one512 _) ?_)
        | (at_builtin
           refine wpList_app rfl (.tmp 24) (.tmp 25) rfl (base := w.heap.size) (l := imK st k) (by rw [HIl.out]; rfl) (HO2.out.grow (Below.setRow' GB.out (Nat.le_refl _) _)) (l2 := l) (by rw [HL.out]; rfl) (range_rd (setRow_at B0.out)) (by rw [HIl.out, HL.out]; have := HMk.out; omega) (by have h1 := HG.out.size; have h2 := HG2.out.size; simp [World.setRow]; omega) (imK st (k + 1)) HIs.out ?_
           intro A9 c9 w9 ho9 hb9
           have O9 := Lib.hid ho9
           have G9 := Lib.hid (show Grown w w9 from Below.trans (Grown.trans HG.out (Grown.trans HG2.out (Below.setRow' GB.out (Nat.le_refl _) _))) hb9)
           clear ho9 hb9))
      exact ⟨⟨k + 1, A9, c9, by rw [HIl2.out], by simp, by omega, O9.out, G9.out⟩, by simp [intOf]; omega⟩
    · have bk : ¬ (k : Int) < (nk : Int) := by omega
      obtain rfl : k = nk := by omega
      have HE := Lib.hid (show imK st k = image st by unfold imK image; rw [HNk.out])
      have HIl := Lib.hid (imK_len H.out k (by have := HNk.out; omega))
      go_wp2
      go_ret
      rw [← HE.out]
      exact ⟨A, _, c, rfl, HIl.out, by have := HO.out.le; rw [HIl.out] at this; exact this, HO.out.rd, HG.out⟩
end
end Go.Proofs.Yteigfpgdnfladaa.S13
