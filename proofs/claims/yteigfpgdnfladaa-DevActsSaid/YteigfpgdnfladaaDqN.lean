/-
  Contract of the program's device: New.
-/
import Derived.Test.YteigfpgdnfladaaDqD
namespace Go.Proofs.Yteigfpgdnfladaa.S13
open Cf
open Go.RowKit
set_option linter.unusedVariables false
set_option linter.unusedSimpArgs false
theorem madeSame (k : Nat) (hk : 0 < k) (v : Value) (N : Nat) : madeCells (List.replicate k v).toArray N = (List.replicate N v).toArray := by
  apply Array.ext_getElem?
  intro m
  unfold madeCells
  rw [Array.getElem?_map]
  by_cases hm : m < N
  · have h1 : m % k < k := Nat.mod_lt _ hk
    simp [hm, h1]
  · rw [Array.getElem?_eq_none (by simp; omega), Array.getElem?_eq_none (by simp; omega)]; rfl
theorem mkSec (n : Nat) (hn : n ≤ 65536) (W : World) : (Instr.makeSlice 58 (.int .i64 (n : Int)) (.int .i64 (n : Int))).run Try.prog W = .ok (.slice (some ⟨W.heap.size, 0, none⟩) n n) (W.alloc (.cells (bvs (List.replicate (n * 512) 0)).toArray 65)) := by
  obtain ⟨i0, hi, hz0, hz1, hz2⟩ := info_parts inf512
  have hr := run_make (P := Try.prog) W 58 65 i0 _ Try.underlying58 hi hz0 .i64 .i64 (n : Int) (n : Int) (by omega) (by omega) (by rw [hz2]; omega) (by omega)
  simp only [Int.toNat_natCast, hz1] at hr
  rw [hr]
  have : madeCells (Value.agg (bvs z512).toArray).cells (n * 512) = (bvs (List.replicate (n * 512) 0)).toArray := by
    show madeCells (bvs z512).toArray (n * 512) = _
    unfold z512 bvs
    rw [List.map_replicate, List.map_replicate]
    exact madeSame 512 (by omega) _ _
  rw [this]
theorem mkPtr (n : Nat) (hn : n ≤ 65536) (W : World) : (Instr.makeSlice 59 (.int .i64 (n : Int)) (.int .i64 (n : Int))).run Try.prog W = .ok (.slice (some ⟨W.heap.size, 0, none⟩) n n) (W.alloc (.cells (Array.replicate n (ov none)) 63)) := by
  obtain ⟨i0, hi, hz0, hz1, hz2⟩ := info_parts infoPw
  have hr := run_make (P := Try.prog) W 59 63 i0 _ Try.underlying59 hi hz0 .i64 .i64 (n : Int) (n : Int) (by omega) (by omega) (by rw [hz2]; omega) (by omega)
  simp only [Int.toNat_natCast, hz1, Nat.mul_one] at hr
  rw [hr]
  have : madeCells (Value.pointer none).cells n = Array.replicate n (ov none) := by
    apply Array.toList_inj.1
    show (madeCells #[_] n).toList = _
    rw [toList_madeCells_one, Array.toList_replicate]
    rfl
  rw [this]
theorem Pz.new {w : World} {G Bd Bl : Nat} {n : Nat} (gd : G ≠ Bd) (gl : G ≠ Bl) (dl : Bd ≠ Bl) (hd : w.heap[Bd]? = some (.cells (bvs (List.replicate (n * 512) 0)).toArray 65 (0, 0))) (hl : w.heap[Bl]? = some (.cells (Array.replicate n (ov none)) 63 (0, 0)))
    (hg : w.heap[G]? = some (.cells #[.slice (some ⟨Bd, 0, none⟩) n n, .slice none 0 0, .slice (some ⟨Bl, 0, none⟩) n n, .int .i64 0, .int .i64 (-1)] 61 (0, 0))) : Pz w G Bd Bl none [] (-1) (dvNew n) where
  pr := { gd := gd, gl := gl, dl := dl, ag := (fun x hx => by cases hx), ad := (fun x hx => by cases hx), al := (fun x hx => by cases hx)
          k512 := fun l hl => by rw [(List.mem_replicate.1 hl).2]; exact z512_len
          nl := by simp [latRow_len]
          hd := by show w.heap[Bd]? = some (.cells (bvs (List.replicate n z512).flatten).toArray _ _); rw [flat_z]; exact hd
          hl := by show w.heap[Bl]? = some (.cells ((latRow (List.replicate n z512).length []).map ov).toArray _ _); rw [latRow_nil, List.length_replicate, List.map_replicate, List.toArray_replicate]; exact hl
          ex := ⟨0, by show w.heap[G]? = some (.cells (PzC Bd Bl (List.replicate n z512).length none 0 0 0 (-1)) _ _); rw [List.length_replicate]; exact hg, Ow.nil _ _ _⟩ }
  wr := fun p hp => absurd hp (by simp)
  ap := fun p hp => absurd hp (by simp)
  pend := rfl
  p2 := fun p hp => absurd hp (by simp)
  calls := rfl
  l0 := by omega
  l1 := by omega
theorem ff_new {G Bd Bl k : Nat} (h : FF G Bd Bl none [] k) : k = G ∨ k = Bd ∨ k = Bl := by
  rcases h with (h | h | h | ⟨x, hx, _⟩) | ⟨p, hp, _⟩
  · exact .inl h
  · exact .inr (.inl h)
  · exact .inr (.inr h)
  · cases hx
  · simp at hp
set_option maxHeartbeats 1000000 in
theorem new_any (w : World) (n : Nat) (h1 : 1 ≤ n) (h2 : n ≤ 65536) : Calls Try.prog 8 #[.int .i64 (n : Int)] w fun e w' =>
    ∃ G F, e = .returned (.tuple #[.pointer (some ⟨G, 0, none⟩), .int .i64 0]) ∧ Dz w' G F (dvNew n) ∧ (∀ k, F k → w.heap.size ≤ k) ∧ Grown w w' := by
  have b1 : ¬ (n : Int) < 1 := by omega
  have b2 : ¬ (n : Int) > 65536 := by omega
  have HM := Lib.hid (mkSec n h2)
  have HP := Lib.hid (mkPtr n h2)
  have HN := Lib.hid (And.intro h1 h2)
  clear h1 h2
  go_enter Try.func8, Try.ntmps8
  go_wp2_with fail
  refine restS_begin (fun _ : World => True) (by kernel_rfl) ?_
  have GD := Lib.hid (show Grown w w.drew from (Below.refl _ w).drew)
  generalize w.drew = wd at GD ⊢
  refine restS_take (i := 0) trivial rfl (by kernel_rfl) (by kernel_rfl) (by kernel_rfl) (by rfl) (fun v hv => by go_simp; try with_reducible rfl) ?_
  try simp only [Act.put, List.setIfInBounds_toArray, List.set_cons_zero, List.set_cons_succ]
  refine restS_take (i := 2) trivial rfl (by kernel_rfl) (by kernel_rfl) (by kernel_rfl) (by rfl) (fun v hv => by go_simp; try with_reducible rfl) ?_
  try simp only [Act.put, List.setIfInBounds_toArray, List.set_cons_zero, List.set_cons_succ]
  have e1 := HM.out
  have e2 := HP.out
  refine restS_two (i := 1) (j := 3) rfl rfl (by kernel_rfl) (by rfl) (by rfl) (fun K hK => ?_) (fun K hK => ?_)
  · go_simp
    refine hK.out _ _ trivial ?_
    clear hK K
    try simp only [Act.put, List.setIfInBounds_toArray, List.set_cons_zero, List.set_cons_succ]
    refine restS_lone (i := 3) rfl (by kernel_rfl) (by rfl) (fun K hK => ?_)
    go_simp
    refine hK.out _ _ trivial ?_
    clear hK K
    try simp only [Act.put, List.setIfInBounds_toArray, List.set_cons_zero, List.set_cons_succ]
    refine restS_take (i := 4) trivial rfl (by kernel_rfl) (by kernel_rfl) (by kernel_rfl) (by rfl) (fun v hv => by go_simp; try with_reducible rfl) ?_
    try simp only [Act.put, List.setIfInBounds_toArray, List.set_cons_zero, List.set_cons_succ]
    refine restS_lone (i := 5) rfl (by kernel_rfl) (by rfl) (fun K hK => ?_)
    go_simp
    refine hK.out _ _ trivial ?_
    clear hK K
    try simp only [Act.put, List.setIfInBounds_toArray, List.set_cons_zero, List.set_cons_succ]
    refine restS_take (i := 6) trivial rfl (by kernel_rfl) (by kernel_rfl) (by kernel_rfl) (by rfl) (fun v hv => by go_simp; try with_reducible rfl) ?_
    try simp only [Act.put, List.setIfInBounds_toArray, List.set_cons_zero, List.set_cons_succ]
    refine restS_lone (i := 7) rfl (by kernel_rfl) (by rfl) (fun K hK => ?_)
    go_simp
    refine hK.out _ _ trivial ?_
    clear hK K
    try simp only [Act.put, List.setIfInBounds_toArray, List.set_cons_zero, List.set_cons_succ]
    refine restS_done (by kernel_rfl) ?_
    have G1 := Lib.hid (alloc_below wd (.cells (bvs (List.replicate (n * 512) 0)).toArray 65))
    have N1 := Lib.hid (heap_alloc_new wd (.cells (bvs (List.replicate (n * 512) 0)).toArray 65))
    have S1 := Lib.hid (World.size_alloc wd (.cells (bvs (List.replicate (n * 512) 0)).toArray 65))
    generalize wd.alloc _ = wa at G1 N1 S1 ⊢
    have G2 := Lib.hid (alloc_below wa (.cells (Array.replicate n (ov none)) 63))
    have N2 := Lib.hid (heap_alloc_new wa (.cells (Array.replicate n (ov none)) 63))
    have S2 := Lib.hid (World.size_alloc wa (.cells (Array.replicate n (ov none)) 63))
    generalize wa.alloc _ = wb at G2 N2 S2 ⊢
    have s1 := S1.out
    have s2 := S2.out
    have N2' := N2.out
    rw [s1] at N2'
    go_wp2
    go_ret2
    have G9 := Lib.hid (alloc_below wb (.cells #[.slice (some ⟨wd.heap.size, 0, none⟩) n n, .slice none 0 0, .slice (some ⟨wd.heap.size + 1, 0, none⟩) n n, .int .i64 0, .int .i64 (-1)] 61))
    have N9 := heap_alloc_new wb (.cells #[.slice (some ⟨wd.heap.size, 0, none⟩) n n, .slice none 0 0, .slice (some ⟨wd.heap.size + 1, 0, none⟩) n n, .int .i64 0, .int .i64 (-1)] 61)
    rw [s2, s1] at N9
    generalize wb.alloc _ = w9 at G9 N9 ⊢
    have gl := GD.out.size
    refine ⟨wd.heap.size + 1 + 1, _, rfl, ⟨wd.heap.size, wd.heap.size + 1, none, [], -1, rfl, Pz.new (by omega) (by omega) (by omega) ((G9.out.block _ (by omega)).trans ((G2.out.block _ (by omega)).trans N1.out)) ((G9.out.block _ (by omega)).trans N2') N9⟩, fun k hk => ?_, GD.out.trans (Grown.trans G1.out (Grown.trans G2.out G9.out))⟩
    rcases ff_new hk with rfl | rfl | rfl <;> omega
  · go_simp
    refine hK.out _ _ trivial ?_
    clear hK K
    try simp only [Act.put, List.setIfInBounds_toArray, List.set_cons_zero, List.set_cons_succ]
    refine restS_lone (i := 1) rfl (by kernel_rfl) (by rfl) (fun K hK => ?_)
    go_simp
    refine hK.out _ _ trivial ?_
    clear hK K
    try simp only [Act.put, List.setIfInBounds_toArray, List.set_cons_zero, List.set_cons_succ]
    refine restS_take (i := 4) trivial rfl (by kernel_rfl) (by kernel_rfl) (by kernel_rfl) (by rfl) (fun v hv => by go_simp; try with_reducible rfl) ?_
    try simp only [Act.put, List.setIfInBounds_toArray, List.set_cons_zero, List.set_cons_succ]
    refine restS_lone (i := 5) rfl (by kernel_rfl) (by rfl) (fun K hK => ?_)
    go_simp
    refine hK.out _ _ trivial ?_
    clear hK K
    try simp only [Act.put, List.setIfInBounds_toArray, List.set_cons_zero, List.set_cons_succ]
    refine restS_take (i := 6) trivial rfl (by kernel_rfl) (by kernel_rfl) (by kernel_rfl) (by rfl) (fun v hv => by go_simp; try with_reducible rfl) ?_
    try simp only [Act.put, List.setIfInBounds_toArray, List.set_cons_zero, List.set_cons_succ]
    refine restS_lone (i := 7) rfl (by kernel_rfl) (by rfl) (fun K hK => ?_)
    go_simp
    refine hK.out _ _ trivial ?_
    clear hK K
    try simp only [Act.put, List.setIfInBounds_toArray, List.set_cons_zero, List.set_cons_succ]
    refine restS_done (by kernel_rfl) ?_
    have G1 := Lib.hid (alloc_below wd (.cells (Array.replicate n (ov none)) 63))
    have N1 := Lib.hid (heap_alloc_new wd (.cells (Array.replicate n (ov none)) 63))
    have S1 := Lib.hid (World.size_alloc wd (.cells (Array.replicate n (ov none)) 63))
    generalize wd.alloc _ = wa at G1 N1 S1 ⊢
    have G2 := Lib.hid (alloc_below wa (.cells (bvs (List.replicate (n * 512) 0)).toArray 65))
    have N2 := Lib.hid (heap_alloc_new wa (.cells (bvs (List.replicate (n * 512) 0)).toArray 65))
    have S2 := Lib.hid (World.size_alloc wa (.cells (bvs (List.replicate (n * 512) 0)).toArray 65))
    generalize wa.alloc _ = wb at G2 N2 S2 ⊢
    have s1 := S1.out
    have s2 := S2.out
    have N2' := N2.out
    rw [s1] at N2'
    go_wp2
    go_ret2
    have G9 := Lib.hid (alloc_below wb (.cells #[.slice (some ⟨wd.heap.size + 1, 0, none⟩) n n, .slice none 0 0, .slice (some ⟨wd.heap.size, 0, none⟩) n n, .int .i64 0, .int .i64 (-1)] 61))
    have N9 := heap_alloc_new wb (.cells #[.slice (some ⟨wd.heap.size + 1, 0, none⟩) n n, .slice none 0 0, .slice (some ⟨wd.heap.size, 0, none⟩) n n, .int .i64 0, .int .i64 (-1)] 61)
    rw [s2, s1] at N9
    generalize wb.alloc _ = w9 at G9 N9 ⊢
    have gl := GD.out.size
    refine ⟨wd.heap.size + 1 + 1, _, rfl, ⟨wd.heap.size + 1, wd.heap.size, none, [], -1, rfl, Pz.new (by omega) (by omega) (by omega) ((G9.out.block _ (by omega)).trans N2') ((G9.out.block _ (by omega)).trans ((G2.out.block _ (by omega)).trans N1.out)) N9⟩, fun k hk => ?_, GD.out.trans (Grown.trans G1.out (Grown.trans G2.out G9.out))⟩
    rcases ff_new hk with rfl | rfl | rfl <;> omega
end Go.Proofs.Yteigfpgdnfladaa.S13
