/-
  Contracts of the program's hmac.Tag and hmac.Right.
-/
import Derived.Test.YtbjfjncpnnlklaaDoorHsm
import Derived.Test.YtbjfjncpnnlklaaDoorOsm
import Derived.Laws.Cover3
namespace Go.Proofs.YtbjfjncpnnlklaaDoor.S5
open Go.RowKit
open S4 (Kt put_one sum_put digest sumV arr arr_size arr_one digest_len infoA rdL_one rd_block u64D)
set_option linter.unusedVariables false
set_option linter.unusedSimpArgs false

def tagL (k T : List UInt8) : List UInt8 := (macL k T).take 32
theorem tagL_len (k T : List UInt8) : (tagL k T).length = 32 := by rw [tagL, List.length_take, macL_len]; rfl
theorem u32B : Tryd.prog.underlying 28 = some (.array 32 5) := by kernel_rfl
theorem infoT : (Tryd.prog.info? 28).map (·.size) = some 32 := by kernel_rfl

set_option maxHeartbeats 4000000 in
theorem tag_any (A : Option Addr) (n c : Nat) (k : List UInt8) (A2 : Option Addr) (n2 c2 : Nat) (ls : List (List UInt8)) (w : World) (hk : Kt w) (h : Rd w w.heap.size A k) (hn : k.length = n) (hc : n ≤ c) (hl : n ≤ 40000)
    (h2 : RdL w w.heap.size A2 ls) (hn2 : ls.length = n2) (hl2 : n2 ≤ 90000) (hf : ls.flatten.length ≤ 40000) :
    Calls Tryd.prog 10 #[.slice A n c, .slice A2 n2 c2] w fun e w' => e = .returned (.agg (arr (tagL k ls.flatten))) ∧ Grown w w' := by
  have H := Lib.hid h
  have Hn := Lib.hid hn
  have Hk := Lib.hid hk
  have H2 := Lib.hid h2
  have Hn2 := Lib.hid hn2
  have Hf := Lib.hid hf
  clear h hk hn h2 hn2 hf
  go_enter Tryd.func10, Tryd.ntmps10
  go_wp2_with fail
  have Hz0 := Lib.hid (heap_alloc_new w (.cells (List.replicate 32 (Value.int .u8 0)).toArray 28))
  have Hg0 := Lib.hid (show Grown w _ from alloc_below w (.cells (List.replicate 32 (Value.int .u8 0)).toArray 28))
  simp only [List.replicate] at Hz0 Hg0
  generalize w.alloc _ = w0 at Hz0 Hg0 ⊢
  refine (mac_any A n c k A2 n2 c2 ls _ (Hk.out.grow Hg0.out) (H.out.grow Hg0.out) Hn.out hc hl ((H2.out.keep Hg0.out).more (Below.size Hg0.out)) Hn2.out hl2 Hf.out).mono ?_
  rintro e w1 ⟨rfl, hb1⟩
  obtain ⟨z, hz, hzs⟩ : ∃ z, w1.heap[w.heap.size]? = some (.cells z 28 (0, 0)) ∧ z.size = 32 := ⟨_, (Below.block hb1 _ (lt_of_heap Hz0.out)).trans Hz0.out, rfl⟩
  have Hz1 := Lib.hid hz
  have Hzs := Lib.hid hzs
  have Hg1 := Lib.hid (Grown.trans Hg0.out hb1)
  obtain ⟨D, hD⟩ : ∃ D, D = arr (macL k ls.flatten) := ⟨_, rfl⟩
  rw [← hD]
  have HD := Lib.hid hD
  have hDs : D.size = 64 := by rw [hD, arr_size, macL_len]
  have HDs := Lib.hid hDs
  clear hz hzs hb1 Hz0 Hg0 hD hDs
  have HA := Lib.hid (show (w1.alloc (.cells D 26)).heap[w1.heap.size]? = some (.cells D 26 (0, 0)) from heap_alloc_new w1 _)
  have hat : ∀ W : World, (Instr.arrayAt 28 (.slice (some ⟨w1.heap.size, 0, none⟩) 32 64)).run Tryd.prog W = .ok (.pointer (some ⟨w1.heap.size, 0, none⟩)) W := fun W => run_arrayAt W _ _ 32 _ _ _ u32B (by omega)
  obtain ⟨E, hE⟩ : ∃ E, E = bvs (tagL k ls.flatten) := ⟨_, rfl⟩
  have hEs : E.length = 32 := by rw [hE, bvs_length, tagL_len]
  have Hran := Lib.hid (show (w1.alloc (.cells D 26)).rangeAt w1.heap.size 0 E by
    intro j v hv
    rw [Nat.zero_add, cell_of_row _ _ j _ _ _ HA.out, HD.out]
    have hj : j < 32 := by have := (List.getElem?_eq_some_iff.1 hv).1; omega
    rw [hE] at hv
    rw [← hv]
    simp [arr, bvs, tagL, hj])
  have Hi := Lib.hid (show (Tryd.prog.info? 28).map (·.size) = some E.length by rw [hEs]; exact infoT)
  have HEs := Lib.hid hEs
  have HE := Lib.hid hE
  have Hi2 := Lib.hid (show (Tryd.prog.info? 28).map (·.size) = some E.toArray.size by rw [List.size_toArray, hEs]; exact infoT)
  have Hone := Lib.hid (show E.toArray.all (·.oneCell') = true by rw [hE]; exact arr_one _)
  have Hz2 := Lib.hid (show (w1.alloc (.cells D 26)).heap[w.heap.size]? = _ from (Below.heap_alloc w1 _ _ (lt_of_heap Hz1.out)).trans Hz1.out)
  have Hg2 := Lib.hid (show Grown w (w1.alloc (.cells D 26)) from Grown.trans Hg1.out (alloc_below w1 _))
  clear hE hEs
  go_wp2_with (first
    | (refine wpList_store_last rfl 26 (.tmp 5) (.tmp 8) rfl rfl rfl (by rw [HDs.out]; exact infoA) (by rw [HDs.out]; rfl) (by rw [HD.out]; exact arr_one _) ?_)
    | (refine wpList_load_mid rfl 28 (.tmp 10) rfl w1.heap.size 0 rfl E _ Hran.out u32B rfl Hi.out ?_)
    | (refine S4.wpList_store_row rfl 28 (.tmp 4) (.tmp 11) rfl rfl rfl Hz2.out Hi2.out (by rw [Hzs.out, List.size_toArray, HEs.out]) Hone.out ?_))
  refine S4.ret_row rfl _ rfl (S4.setRow_at Hz2.out) u32B rfl Hi2.out ⟨by rw [HE.out]; rfl, ?_⟩
  exact S4.Below.setRow' Hg2.out (Nat.le_refl _) _

set_option maxHeartbeats 4000000 in
theorem right_any (A : Option Addr) (n c : Nat) (k : List UInt8) (tg : List UInt8) (A2 : Option Addr) (n2 c2 : Nat) (ls : List (List UInt8)) (w : World) (hk : Kt w) (h : Rd w w.heap.size A k) (hn : k.length = n) (hc : n ≤ c) (hl : n ≤ 40000) (ht : tg.length = 32)
    (h2 : RdL w w.heap.size A2 ls) (hn2 : ls.length = n2) (hl2 : n2 ≤ 90000) (hf : ls.flatten.length ≤ 40000) :
    Calls Tryd.prog 12 #[.slice A n c, .agg (arr tg), .slice A2 n2 c2] w (Says w (decide (tagL k ls.flatten = tg))) := by
  have H := Lib.hid h
  have Hn := Lib.hid hn
  have Hk := Lib.hid hk
  have H2 := Lib.hid h2
  have Hn2 := Lib.hid hn2
  have Hf := Lib.hid hf
  have Ht := Lib.hid ht
  obtain ⟨G, hG⟩ : ∃ G, G = arr tg := ⟨_, rfl⟩
  rw [← hG]
  have HG := Lib.hid hG
  have HGs := Lib.hid (show G.size = 32 by rw [hG, arr_size, ht])
  clear h hk hn h2 hn2 hf ht hG
  go_enter Tryd.func12, Tryd.ntmps12
  go_wp2_with fail
  have hg0 : Grown w (w.alloc (.cells G 28)) := alloc_below w _
  have HT0 := Lib.hid (show Rd (w.alloc (.cells G 28)) (w.alloc (.cells G 28)).heap.size (some ⟨w.heap.size, 0, none⟩) tg by
    rw [HG.out]
    exact rd_block (t := 28) (heap_alloc_new w _) (by simp))
  refine (tag_any A n c k A2 n2 c2 ls _ (Hk.out.grow hg0) (H.out.grow hg0) Hn.out hc hl ((H2.out.keep hg0).more (Below.size hg0)) Hn2.out hl2 Hf.out).mono ?_
  rintro e w1 ⟨rfl, hb1⟩
  have HT1 := Lib.hid (HT0.out.grow hb1)
  have Hg1 := Lib.hid (Grown.trans hg0 hb1)
  obtain ⟨D, hD⟩ : ∃ D, D = arr (tagL k ls.flatten) := ⟨_, rfl⟩
  rw [← hD]
  have HD := Lib.hid hD
  have HDs := Lib.hid (show D.size = 32 by rw [hD, arr_size, tagL_len])
  clear hb1 HT0 hg0 hD
  go_wp2_with (first
    | (refine wpList_store_last rfl 28 (.tmp 7) (.tmp 10) rfl rfl rfl (by rw [HDs.out]; exact infoT) (by rw [HDs.out]; rfl) (by rw [HD.out]; exact arr_one _) ?_))
  have hg2 : Grown w1 (w1.alloc (.cells D 28)) := alloc_below w1 _
  have HW2 := Lib.hid (show Rd (w1.alloc (.cells D 28)) (w1.alloc (.cells D 28)).heap.size (some ⟨w1.heap.size, 0, none⟩) (tagL k ls.flatten) by rw [HD.out]; exact rd_block (t := 28) (heap_alloc_new w1 _) (by simp))
  have HT2 := Lib.hid (HT1.out.grow hg2)
  have Hg2 := Lib.hid (Grown.trans Hg1.out hg2)
  clear hg2 HT1 Hg1
  try simp only [Act.put]
  refine rest_start (by kernel_rfl) fun v hv => ?_
  replace HW2 := Lib.hid (HW2.out.grow hv)
  replace HT2 := Lib.hid (HT2.out.grow hv)
  replace Hg2 := Lib.hid (Grown.trans Hg2.out hv)
  clear hv
  refine rest_take (i := 0) rfl (by kernel_rfl) (by kernel_rfl) (by kernel_rfl) (by rfl) (fun w' hg => by go_simp; try with_reducible rfl) ?_
  try simp only [Act.put, List.setIfInBounds_toArray, List.set_cons_zero, List.set_cons_succ]
  refine rest_take (i := 1) rfl (by kernel_rfl) (by kernel_rfl) (by kernel_rfl) (by rfl) (fun w' hg => by go_simp; try with_reducible rfl) ?_
  try simp only [Act.put, List.setIfInBounds_toArray, List.set_cons_zero, List.set_cons_succ]
  refine rest_lone (i := 2) rfl (by kernel_rfl) (by rfl) (fun K hK => ?_)
  go_simp
  refine (same_any _ 32 32 _ 32 32 (tagL k ls.flatten) tg _ HW2.out HT2.out (tagL_len _ _) Ht.out (by omega) (by omega)).mono ?_
  rintro e w2 ⟨rfl, rfl⟩
  refine hK.out _ _ (Grown.refl _) ?_
  clear hK K
  obtain ⟨bb, hbb⟩ : ∃ bb, bb = decide (tagL k ls.flatten = tg) := ⟨_, rfl⟩
  rw [← hbb]
  have Hbb := Lib.hid hbb
  clear hbb
  try simp only [Act.put, List.setIfInBounds_toArray, List.set_cons_zero, List.set_cons_succ]
  refine rest_take (i := 3) rfl (by kernel_rfl) (by kernel_rfl) (by kernel_rfl) (by rfl) (fun w' hg => by go_simp; try with_reducible rfl) ?_
  try simp only [Act.put, List.setIfInBounds_toArray, List.set_cons_zero, List.set_cons_succ]
  refine rest_done (by kernel_rfl) ?_
  go_wp2
  go_ret
  exact ⟨by rw [← Hbb.out]; rfl, Hg2.out⟩
end Go.Proofs.YtbjfjncpnnlklaaDoor.S5
