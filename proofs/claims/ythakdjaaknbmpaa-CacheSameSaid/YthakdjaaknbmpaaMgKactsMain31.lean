/-
  Contract of the program's device: New. Contracts of the program's device: Image; New of a wrong number.
-/
import Derived.Test.YthakdjaaknbmpaaMgKactsMain30
namespace Go.Proofs.Ythakdjaaknbmpaa.S13
open Cf
open Go.RowKit
set_option linter.unusedVariables false
set_option linter.unusedSimpArgs false
theorem madeSame (k : Nat) (hk : 0 < k) (v : Value) (N : Nat) : madeCells (List.replicate k v).toArray N = (List.replicate N v).toArray := by
  apply Array.ext_getElem?
  intro m
  unfold madeCells
  rw [Array.getElem?_map]
  by_cases hm : m < N
  · have h1 : m % k < k := Nat.mod_lt _ hk
    simp [hm, h1]
  · rw [Array.getElem?_eq_none (by simp; omega), Array.getElem?_eq_none (by simp; omega)]; rfl
theorem mkSec (n : Nat) (hn : n ≤ 65536) (W : World) : (Instr.makeSlice 62 (.int .i64 (n : Int)) (.int .i64 (n : Int))).run Try.prog W = .ok (.slice (some ⟨W.heap.size, 0, none⟩) n n) (W.alloc (.cells (bvs (List.replicate (n * 512) 0)).toArray 86)) := by
  obtain ⟨i0, hi, hz0, hz1, hz2⟩ := info_parts inf512
  have hr := run_make (P := Try.prog) W 62 86 i0 _ Try.underlying62 hi hz0 .i64 .i64 (n : Int) (n : Int) (by omega) (by omega) (by rw [hz2]; omega) (by omega)
  simp only [Int.toNat_natCast, hz1] at hr
  rw [hr]
  have : madeCells (Value.agg (bvs z512).toArray).cells (n * 512) = (bvs (List.replicate (n * 512) 0)).toArray := by
    show madeCells (bvs z512).toArray (n * 512) = _
    unfold z512 bvs
    rw [List.map_replicate, List.map_replicate]
    exact madeSame 512 (by omega) _ _
  rw [this]
theorem mkPtr (n : Nat) (hn : n ≤ 65536) (W : World) : (Instr.makeSlice 63 (.int .i64 (n : Int)) (.int .i64 (n : Int))).run Try.prog W = .ok (.slice (some ⟨W.heap.size, 0, none⟩) n n) (W.alloc (.cells (Array.replicate n (ov none)) 82)) := by
  obtain ⟨i0, hi, hz0, hz1, hz2⟩ := info_parts infoPw
  have hr := run_make (P := Try.prog) W 63 82 i0 _ Try.underlying63 hi hz0 .i64 .i64 (n : Int) (n : Int) (by omega) (by omega) (by rw [hz2]; omega) (by omega)
  simp only [Int.toNat_natCast, hz1, Nat.mul_one] at hr
  rw [hr]
  have : madeCells (Value.pointer none).cells n = Array.replicate n (ov none) := by
    apply Array.toList_inj.1
    show (madeCells #[_] n).toList = _
    rw [toList_madeCells_one, Array.toList_replicate]
    rfl
  rw [this]
theorem Pz.new {w : World} {G Bd Bl : Nat} {n : Nat} (gd : G ≠ Bd) (gl : G ≠ Bl) (dl : Bd ≠ Bl) (hd : w.heap[Bd]? = some (.cells (bvs (List.replicate (n * 512) 0)).toArray 86 (0, 0))) (hl : w.heap[Bl]? = some (.cells (Array.replicate n (ov none)) 82 (0, 0)))
    (hg : w.heap[G]? = some (.cells #[.slice (some ⟨Bd, 0, none⟩) n n, .slice none 0 0, .slice (some ⟨Bl, 0, none⟩) n n, .int .i64 0, .int .i64 (-1)] 65 (0, 0))) : Pz w G Bd Bl none [] (-1) (dvNew n) where
  pr := { gd := gd, gl := gl, dl := dl, ag := (fun x hx => by cases hx), ad := (fun x hx => by cases hx), al := (fun x hx => by cases hx)
          k512 := fun l hl => by rw [(List.mem_replicate.1 hl).2]; exact z512_len
          nl := by simp [latRow_len]
          hd := by show w.heap[Bd]? = some (.cells (bvs (List.replicate n z512).flatten).toArray _ _); rw [flat_z]; exact hd
          hl := by show w.heap[Bl]? = some (.cells ((latRow (List.replicate n z512).length []).map ov).toArray _ _); rw [latRow_nil, List.length_replicate, List.map_replicate, List.toArray_replicate]; exact hl
          ex := ⟨0, by show w.heap[G]? = some (.cells (PzC Bd Bl (List.replicate n z512).length none 0 0 0 (-1)) _ _); rw [List.length_replicate]; exact hg, Ow.nil _ _ _⟩ }
  wr := fun p hp => absurd hp (by simp)
  ap := fun p hp => absurd hp (by simp)
  pend := rfl
  p2 := fun p hp => absurd hp (by simp)
  calls := rfl
  l0 := by omega
  l1 := by omega
theorem ff_new {G Bd Bl k : Nat} (h : FF G Bd Bl none [] k) : k = G ∨ k = Bd ∨ k = Bl := by
  rcases h with (h | h | h | ⟨x, hx, _⟩) | ⟨p, hp, _⟩
  · exact .inl h
  · exact .inr (.inl h)
  · exact .inr (.inr h)
  · cases hx
  · simp at hp
set_option maxRecDepth 20000 in
set_option maxHeartbeats 1000000 in
theorem new_any (w : World) (n : Nat) (h1 : 1 ≤ n) (h2 : n ≤ 65536) : Calls Try.prog 8 #[.int .i64 (n : Int)] w fun e w' =>
    ∃ G F, e = .returned (.tuple #[.pointer (some ⟨G, 0, none⟩), .int .i64 0]) ∧ Dz w' G F (dvNew n) ∧ (∀ k, F k → w.heap.size ≤ k) ∧ Grown w w' := by
  have b1 : ¬ (n : Int) < 1 := by omega
  have b2 : ¬ (n : Int) > 65536 := by omega
  have HM := Lib.hid (mkSec n h2)
  have HP := Lib.hid (mkPtr n h2)
  have HN := Lib.hid (And.intro h1 h2)
  clear h1 h2
  go_enter Try.func8, Try.ntmps8
  go_wp2_with fail
  refine restS_begin (fun _ : World => True) (by kernel_rfl) ?_
  have GD := Lib.hid (show Grown w w.drew from (Below.refl _ w).drew)
  generalize w.drew = wd at GD ⊢
  refine restS_take (i := 0) trivial rfl (by kernel_rfl) (by kernel_rfl) (by kernel_rfl) (by rfl) (fun v hv => by go_simp; try with_reducible rfl) ?_
  try simp only [Act.put, List.setIfInBounds_toArray, List.set_cons_zero, List.set_cons_succ]
  refine restS_take (i := 2) trivial rfl (by kernel_rfl) (by kernel_rfl) (by kernel_rfl) (by rfl) (fun v hv => by go_simp; try with_reducible rfl) ?_
  try simp only [Act.put, List.setIfInBounds_toArray, List.set_cons_zero, List.set_cons_succ]
  have e1 := HM.out
  have e2 := HP.out
  refine restS_two (i := 1) (j := 3) rfl rfl (by kernel_rfl) (by rfl) (by rfl) (fun K hK => ?_) (fun K hK => ?_)
  · go_simp
    refine hK.out _ _ trivial ?_
    clear hK K
    try simp only [Act.put, List.setIfInBounds_toArray, List.set_cons_zero, List.set_cons_succ]
    refine restS_lone (i := 3) rfl (by kernel_rfl) (by rfl) (fun K hK => ?_)
    go_simp
    refine hK.out _ _ trivial ?_
    clear hK K
    try simp only [Act.put, List.setIfInBounds_toArray, List.set_cons_zero, List.set_cons_succ]
    refine restS_take (i := 4) trivial rfl (by kernel_rfl) (by kernel_rfl) (by kernel_rfl) (by rfl) (fun v hv => by go_simp; try with_reducible rfl) ?_
    try simp only [Act.put, List.setIfInBounds_toArray, List.set_cons_zero, List.set_cons_succ]
    refine restS_lone (i := 5) rfl (by kernel_rfl) (by rfl) (fun K hK => ?_)
    go_simp
    refine hK.out _ _ trivial ?_
    clear hK K
    try simp only [Act.put, List.setIfInBounds_toArray, List.set_cons_zero, List.set_cons_succ]
    refine restS_take (i := 6) trivial rfl (by kernel_rfl) (by kernel_rfl) (by kernel_rfl) (by rfl) (fun v hv => by go_simp; try with_reducible rfl) ?_
    try simp only [Act.put, List.setIfInBounds_toArray, List.set_cons_zero, List.set_cons_succ]
    refine restS_lone (i := 7) rfl (by kernel_rfl) (by rfl) (fun K hK => ?_)
    go_simp
    refine hK.out _ _ trivial ?_
    clear hK K
    try simp only [Act.put, List.setIfInBounds_toArray, List.set_cons_zero, List.set_cons_succ]
    refine restS_done (by kernel_rfl) ?_
    have G1 := Lib.hid (alloc_below wd (.cells (bvs (List.replicate (n * 512) 0)).toArray 86))
    have N1 := Lib.hid (heap_alloc_new wd (.cells (bvs (List.replicate (n * 512) 0)).toArray 86))
    have S1 := Lib.hid (World.size_alloc wd (.cells (bvs (List.replicate (n * 512) 0)).toArray 86))
    generalize wd.alloc _ = wa at G1 N1 S1 ⊢
    have G2 := Lib.hid (alloc_below wa (.cells (Array.replicate n (ov none)) 82))
    have N2 := Lib.hid (heap_alloc_new wa (.cells (Array.replicate n (ov none)) 82))
    have S2 := Lib.hid (World.size_alloc wa (.cells (Array.replicate n (ov none)) 82))
    generalize wa.alloc _ = wb at G2 N2 S2 ⊢
    have s1 := S1.out
    have s2 := S2.out
    have N2' := N2.out
    rw [s1] at N2'
    go_wp2
    go_ret2
    have G9 := Lib.hid (alloc_below wb (.cells #[.slice (some ⟨wd.heap.size, 0, none⟩) n n, .slice none 0 0, .slice (some ⟨wd.heap.size + 1, 0, none⟩) n n, .int .i64 0, .int .i64 (-1)] 65))
    have N9 := heap_alloc_new wb (.cells #[.slice (some ⟨wd.heap.size, 0, none⟩) n n, .slice none 0 0, .slice (some ⟨wd.heap.size + 1, 0, none⟩) n n, .int .i64 0, .int .i64 (-1)] 65)
    rw [s2, s1] at N9
    generalize wb.alloc _ = w9 at G9 N9 ⊢
    have gl := GD.out.size
    refine ⟨wd.heap.size + 1 + 1, _, rfl, ⟨wd.heap.size, wd.heap.size + 1, none, [], -1, rfl, Pz.new (by omega) (by omega) (by omega) ((G9.out.block _ (by omega)).trans ((G2.out.block _ (by omega)).trans N1.out)) ((G9.out.block _ (by omega)).trans N2') N9⟩, fun k hk => ?_, GD.out.trans (Grown.trans G1.out (Grown.trans G2.out G9.out))⟩
    rcases ff_new hk with rfl | rfl | rfl <;> omega
  · go_simp
    refine hK.out _ _ trivial ?_
    clear hK K
    try simp only [Act.put, List.setIfInBounds_toArray, List.set_cons_zero, List.set_cons_succ]
    refine restS_lone (i := 1) rfl (by kernel_rfl) (by rfl) (fun K hK => ?_)
    go_simp
    refine hK.out _ _ trivial ?_
    clear hK K
    try simp only [Act.put, List.setIfInBounds_toArray, List.set_cons_zero, List.set_cons_succ]
    refine restS_take (i := 4) trivial rfl (by kernel_rfl) (by kernel_rfl) (by kernel_rfl) (by rfl) (fun v hv => by go_simp; try with_reducible rfl) ?_
    try simp only [Act.put, List.setIfInBounds_toArray, List.set_cons_zero, List.set_cons_succ]
    refine restS_lone (i := 5) rfl (by kernel_rfl) (by rfl) (fun K hK => ?_)
    go_simp
    refine hK.out _ _ trivial ?_
    clear hK K
    try simp only [Act.put, List.setIfInBounds_toArray, List.set_cons_zero, List.set_cons_succ]
    refine restS_take (i := 6) trivial rfl (by kernel_rfl) (by kernel_rfl) (by kernel_rfl) (by rfl) (fun v hv => by go_simp; try with_reducible rfl) ?_
    try simp only [Act.put, List.setIfInBounds_toArray, List.set_cons_zero, List.set_cons_succ]
    refine restS_lone (i := 7) rfl (by kernel_rfl) (by rfl) (fun K hK => ?_)
    go_simp
    refine hK.out _ _ trivial ?_
    clear hK K
    try simp only [Act.put, List.setIfInBounds_toArray, List.set_cons_zero, List.set_cons_succ]
    refine restS_done (by kernel_rfl) ?_
    have G1 := Lib.hid (alloc_below wd (.cells (Array.replicate n (ov none)) 82))
    have N1 := Lib.hid (heap_alloc_new wd (.cells (Array.replicate n (ov none)) 82))
    have S1 := Lib.hid (World.size_alloc wd (.cells (Array.replicate n (ov none)) 82))
    generalize wd.alloc _ = wa at G1 N1 S1 ⊢
    have G2 := Lib.hid (alloc_below wa (.cells (bvs (List.replicate (n * 512) 0)).toArray 86))
    have N2 := Lib.hid (heap_alloc_new wa (.cells (bvs (List.replicate (n * 512) 0)).toArray 86))
    have S2 := Lib.hid (World.size_alloc wa (.cells (bvs (List.replicate (n * 512) 0)).toArray 86))
    generalize wa.alloc _ = wb at G2 N2 S2 ⊢
    have s1 := S1.out
    have s2 := S2.out
    have N2' := N2.out
    rw [s1] at N2'
    go_wp2
    go_ret2
    have G9 := Lib.hid (alloc_below wb (.cells #[.slice (some ⟨wd.heap.size + 1, 0, none⟩) n n, .slice none 0 0, .slice (some ⟨wd.heap.size, 0, none⟩) n n, .int .i64 0, .int .i64 (-1)] 65))
    have N9 := heap_alloc_new wb (.cells #[.slice (some ⟨wd.heap.size + 1, 0, none⟩) n n, .slice none 0 0, .slice (some ⟨wd.heap.size, 0, none⟩) n n, .int .i64 0, .int .i64 (-1)] 65)
    rw [s2, s1] at N9
    generalize wb.alloc _ = w9 at G9 N9 ⊢
    have gl := GD.out.size
    refine ⟨wd.heap.size + 1 + 1, _, rfl, ⟨wd.heap.size + 1, wd.heap.size, none, [], -1, rfl, Pz.new (by omega) (by omega) (by omega) ((G9.out.block _ (by omega)).trans N2') ((G9.out.block _ (by omega)).trans ((G2.out.block _ (by omega)).trans N1.out)) N9⟩, fun k hk => ?_, GD.out.trans (Grown.trans G1.out (Grown.trans G2.out G9.out))⟩
    rcases ff_new hk with rfl | rfl | rfl <;> omega
end Go.Proofs.Ythakdjaaknbmpaa.S13
namespace Go.Proofs.Ythakdjaaknbmpaa.S13
open Cf
open Go.RowKit
set_option linter.unusedVariables false
set_option linter.unusedSimpArgs false
theorem mkRoom (k : Nat) (hk : k ≤ 1000000) (w : World) :
    (Instr.makeSlice 38 (.int .i64 0) (.int .i64 (k : Int))).run Try.prog w = .ok (.slice (some ⟨w.heap.size, 0, none⟩) 0 k) (w.alloc (.cells (bvs (List.replicate k 0)).toArray 5)) := by
  obtain ⟨i0, hi, hz0, hz1, hz2⟩ := info_parts info5
  have hr := run_make (P := Try.prog) w 38 5 i0 _ Try.underlying38 hi hz0 .i64 .i64 0 (k : Int) (by omega) (by omega) (by rw [hz2]; omega) (by omega)
  simp only [Int.toNat_natCast, hz1, Nat.mul_one] at hr
  rw [hr]
  have : madeCells (Value.int IntKind.u8 0).cells k = (bvs (List.replicate k 0)).toArray := by
    apply Array.toList_inj.1
    show (madeCells #[_] k).toList = _
    rw [toList_madeCells_one]
    simp [bvs, bv]
  rw [this]
  rfl
theorem ownRoom (w : World) (k : Nat) (hk : k ≤ 1000000) (base : Nat) (hb : base ≤ w.heap.size) : Own (w.alloc (.cells (bvs (List.replicate k 0)).toArray 5)) base (some ⟨w.heap.size, 0, none⟩) k [] :=
  ⟨by simp [bvs], .inr ⟨w.heap.size, k, _, rfl, hb, heap_alloc_new w _, Nat.zero_le _, by unfold maxLen; omega, by simp [bvs], by simp [bvs]⟩⟩
theorem range_rd {w : World} {g : Nat} {cs : Array Value} {t : TypeId} {l : List UInt8} (h : w.heap[g]? = some (.cells cs t (0, 0))) (hc : cs = (bvs l).toArray := by rfl) : Rd w (g + 1) (some ⟨g, 0, none⟩) l := by
  subst hc
  exact .inr ⟨g, 0, rfl, Nat.lt_succ_self _, fun j hj => by rw [Nat.zero_add, cell_of_row w g j _ _ (0, 0) h]; simp [bvs, hj]⟩
def imK (st : Dv) (k : Nat) : List UInt8 := ((List.range k).map (see st)).flatten
theorem imK_succ (st : Dv) (k : Nat) : imK st k ++ see st k = imK st (k + 1) := by
  unfold imK
  rw [List.range_succ, List.map_append, List.flatten_append]
  simp
section
variable {w w' : World} {G Bd Bl : Nat} {Ap : Option Addr} {L : List Pw} {left : Int} {st : Dv} {i : Nat}
theorem new_bad (w : World) (n : Int) (h : n < 1 ∨ 65536 < n) : Calls Try.prog 8 #[.int .i64 n] w fun e w' => e = .returned (.tuple #[.pointer none, .int .i64 2]) ∧ w' = w := by
  by_cases h1 : n < 1
  · clear h
    go_enter Try.func8, Try.ntmps8
    go_wp2
    go_ret2
    exact ⟨rfl, rfl⟩
  · have h2 : n > 65536 := by omega
    clear h
    go_enter Try.func8, Try.ntmps8
    go_wp2
    go_ret2
    exact ⟨rfl, rfl⟩
theorem imK_len (h : Pz w G Bd Bl Ap L left st) (k : Nat) (hk : k ≤ st.kept.length) : (imK st k).length = k * 512 := by
  induction k with
  | zero => rfl
  | succ k ih => rw [← imK_succ, List.length_append, ih (by omega), h.seeLen k (by omega)]; omega
set_option maxRecDepth 20000 in
set_option maxHeartbeats 1000000 in
theorem image_any (h : Pz w G Bd Bl Ap L left st) (hl : st.kept.length ≤ 1000) :
    Calls Try.prog 31 #[.pointer (some ⟨G, 0, none⟩)] w fun e w' => ∃ A m c, e = .returned (.slice A m c) ∧ (image st).length = m ∧ m ≤ c ∧ Rd w' w'.heap.size A (image st) ∧ Grown w w' := by
  have H := Lib.hid h
  obtain ⟨cp, l1, c0, c1, c2, c3, c4⟩ := h.pr.cells
  obtain ⟨nk, hnk⟩ : ∃ nk, nk = st.kept.length := ⟨_, rfl⟩
  have HNk := Lib.hid hnk
  have q0 : w.cell? ⟨G, 0, none⟩ = some (.slice (some ⟨Bd, 0, none⟩) nk nk) := by rw [hnk]; exact c0
  rw [← hnk] at hl
  have GA := Lib.hid (alloc_below w (.cells (bvs (List.replicate (nk * 512) 0)).toArray 5))
  have OA := Lib.hid (ownRoom w (nk * 512) (by omega) w.heap.size (Nat.le_refl _))
  have hmk := mkRoom (nk * 512) (by omega) w
  rw [show ((nk * 512 : Nat) : Int) = (nk : Int) * 512 by omega] at hmk
  have hwr : IntKind.i64.wrap ((nk : Int) * 512) = (nk : Int) * 512 := by rw [IntKind.wrap_i64]; omega
  obtain ⟨q9, hq9⟩ : ∃ q, q = nk * 512 := ⟨_, rfl⟩
  have r0 : (w.alloc (.cells (bvs (List.replicate (nk * 512) 0)).toArray 5)).cell? ⟨G, 0, none⟩ = some (.slice (some ⟨Bd, 0, none⟩) nk nk) := (World.cell?_of_block (a := ⟨G, 0, none⟩) (GA.out.block G (h.pr.lt G (.inl rfl)))).trans q0
  clear h c0 c1 c2 c3 c4 l1 hnk hq9
  go_enter Try.func31, Try.ntmps31
  go_wp2_with fail
  clear r0 q0 hmk hwr
  generalize w.alloc _ = wa at GA OA ⊢
  go_loopw [3, 18] (fun v3 v18 wr => ∃ (k : Nat) (A : Option Addr) (c : Nat), v3 = .slice A (k * 512) c ∧ v18 = .int .i64 (k : Int) ∧ k ≤ nk ∧ Hid (Own wr w.heap.size A c (imK st k)) ∧ Hid (Grown w wr)) (fun _ v18 _ => nk - (intOf v18).toNat)
  case atStart => exact ⟨0, _, _, rfl, rfl, Nat.zero_le _, OA.out, GA.out⟩
  case round =>
    clear OA GA
    obtain ⟨k, A, c, rfl, rfl, hk, HO, HG⟩ := hrel
    by_cases hlt : k < nk
    · have bk : (k : Int) < (nk : Int) := by omega
      have HZr := Lib.hid (H.out.grow HG.out)
      have hkl : k < st.kept.length := by have := HNk.out; omega
      have HCo := Lib.hid (contents_any HZr.out k hkl)
      have HL := Lib.hid (H.out.seeLen k hkl)
      have HIl := Lib.hid (imK_len H.out k (by omega))
      have HIs := Lib.hid (imK_succ st k)
      have HIl2 := Lib.hid (imK_len H.out (k + 1) (by omega))
      obtain ⟨l, hl'⟩ : ∃ l, l = see st k := ⟨_, rfl⟩
      rw [← hl'] at HL HCo HIs
      obtain ⟨m, hm⟩ : ∃ m, m = k * 512 := ⟨_, rfl⟩
      rw [← hm] at HIl ⊢
      have HMk := Lib.hid hm
      clear hl' hkl hm
      go_wp2_with fail
      refine HCo.out.mono ?_
      rintro e w2 ⟨rfl, hg⟩
      have HG2 := Lib.hid hg
      have HO2 := Lib.hid (HO.out.grow hg)
      clear hg HCo HO HZr
      have HZ2 := zero512
      have GB := Lib.hid (alloc_below w2 (.cells (bvs z512).toArray 86))
      have B0 := Lib.hid (show Bk (w2.alloc (.cells (bvs z512).toArray 86)) w2.heap.size z512 from heap_alloc_new w2 _)
      have HCu := fun W => cut512 W w2.heap.size 0
      go_wp2_with (first
        | (refine wpList_store_row rfl 86 (.tmp 5) (.tmp 23) rfl _ _ rfl rfl _ _ B0.out (size512 HL.out) (by simp only [List.size_toArray, bvs_length, HL.out, z512_len]) (one512 _) ?_)
        | (at_builtin
           refine wpList_app rfl (.tmp 24) (.tmp 25) rfl (base := w.heap.size) (l := imK st k) (by rw [HIl.out]; rfl) (HO2.out.grow (Below.setRow' GB.out (Nat.le_refl _) _)) (l2 := l) (by rw [HL.out]; rfl) (range_rd (setRow_at B0.out)) (by rw [HIl.out, HL.out]; have := HMk.out; omega) (by have h1 := HG.out.size; have h2 := HG2.out.size; simp [World.setRow]; omega) (imK st (k + 1)) HIs.out ?_
           intro A9 c9 w9 ho9 hb9
           have O9 := Lib.hid ho9
           have G9 := Lib.hid (show Grown w w9 from Below.trans (Grown.trans HG.out (Grown.trans HG2.out (Below.setRow' GB.out (Nat.le_refl _) _))) hb9)
           clear ho9 hb9))
      exact ⟨⟨k + 1, A9, c9, by rw [HIl2.out], by simp, by omega, O9.out, G9.out⟩, by simp [intOf]; omega⟩
    · have bk : ¬ (k : Int) < (nk : Int) := by omega
      obtain rfl : k = nk := by omega
      have HE := Lib.hid (show imK st k = image st by unfold imK image; rw [HNk.out])
      have HIl := Lib.hid (imK_len H.out k (by have := HNk.out; omega))
      go_wp2
      go_ret
      rw [← HE.out]
      exact ⟨A, _, c, rfl, HIl.out, by have := HO.out.le; rw [HIl.out] at this; exact this, HO.out.rd, HG.out⟩
end
end Go.Proofs.Ythakdjaaknbmpaa.S13
