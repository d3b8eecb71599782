/-
  Contracts of the program's Extract and Derive, and of the reference's Derive.
-/
import Derived.Test.YtbofikghcoalbaaDoorKfE
import Derived.Test.YtbofikghcoalbaaDoorKfR
namespace Go.Proofs.YtbofikghcoalbaaDoor.S6
open Go.RowKit
open S4 (Kt arr arr_size arr_one infoA rd_block u64D)
open S5 (macL macL_len mac_any mac_one conv_bytes)
set_option linter.unusedVariables false
set_option linter.unusedSimpArgs false

set_option maxHeartbeats 1000000 in
theorem extract_any (A : Option Addr) (n c : Nat) (k : List UInt8) (B : Option Addr) (m d : Nat) (T : List UInt8) (w : World) (hk : Kt w) (h : Rd w w.heap.size A k) (hn : k.length = n) (hc : n ≤ c) (hl : n ≤ 40000)
    (h2 : Rd w w.heap.size B T) (hm : T.length = m) (hd : m ≤ d) (hl2 : m ≤ 40000) :
    Calls Tryd.prog 8 #[.slice A n c, .slice B m d] w fun e w' => e = .returned (.agg (arr (macL k T))) ∧ Grown w w' := by
  have H := Lib.hid h
  have Hn := Lib.hid hn
  have Hk := Lib.hid hk
  have H2 := Lib.hid h2
  have Hm := Lib.hid hm
  clear h hn hk h2 hm
  go_enter Tryd.func8, Tryd.ntmps8
  go_wp2_with fail
  have Hz0 := Lib.hid (heap_alloc_new w (.cells (List.replicate 64 (Value.int .u8 0)).toArray 24))
  have Hg0 := Lib.hid (show Grown w _ from alloc_below w (.cells (List.replicate 64 (Value.int .u8 0)).toArray 24))
  have hs0 : (w.alloc (.cells (List.replicate 64 (Value.int .u8 0)).toArray 24)).heap.size = w.heap.size + 1 := by simp
  simp only [List.replicate] at Hz0 Hg0 hs0
  rw [← hs0]
  clear hs0
  generalize w.alloc _ = w0 at Hz0 Hg0 ⊢
  refine (mac_one (Hk.out.grow Hg0.out) (H.out.grow Hg0.out) Hn.out hc hl (H2.out.grow Hg0.out) Hm.out hd hl2 (0, 0)).mono ?_
  rintro e w1 ⟨rfl, hb1⟩
  obtain ⟨z, hz, hzs⟩ : ∃ z, w1.heap[w.heap.size]? = some (.cells z 24 (0, 0)) ∧ z.size = 64 := ⟨_, (Below.block hb1 _ (lt_of_heap Hz0.out)).trans Hz0.out, rfl⟩
  obtain ⟨E, hE⟩ : ∃ E, E = arr (macL k T) := ⟨_, rfl⟩
  rw [← hE]
  have hEs : E.size = 64 := by rw [hE, arr_size, macL_len]
  have Hi := Lib.hid (show (Tryd.prog.info? 24).map (·.size) = some E.size by rw [hEs]; exact infoA)
  have Hsz := Lib.hid (show z.size = E.size by rw [hzs, hEs])
  have Hone := Lib.hid (show E.all (·.oneCell') = true by rw [hE]; exact arr_one _)
  have HE := Lib.hid hE
  have Hz1 := Lib.hid hz
  have Hg1 := Lib.hid (Grown.trans Hg0.out hb1)
  clear hE hEs hb1 hz hzs Hz0 Hg0
  go_wp2_with (first
    | (refine S4.wpList_store_row rfl 24 (.tmp 4) (.tmp 8) rfl rfl rfl Hz1.out Hi.out Hsz.out Hone.out ?_))
  refine S4.ret_row rfl _ rfl (S4.setRow_at Hz1.out) u64D rfl Hi.out ⟨by rw [HE.out], ?_⟩
  exact S4.Below.setRow' Hg1.out (Nat.le_refl _) _

set_option maxHeartbeats 1000000 in
theorem derive_any (A : Option Addr) (n c : Nat) (T : List UInt8) (x : UInt8) (B : Option Addr) (m d : Nat) (i : List UInt8) (N : Nat) (w : World) (hk : Kt w) (h : Rd w w.heap.size A T) (hn : T.length = n) (hc : n ≤ c) (hl : n ≤ 40000)
    (h2 : Rd w w.heap.size B i) (hm : i.length = m) (hd : m ≤ d) (hl2 : m ≤ 20000) (hN : N ≤ 16320) :
    Calls Tryd.prog 12 #[.slice A n c, .int .u8 (x.toNat : Int), .slice B m d, .int .i64 (N : Int)] w fun e w' => ∃ A', e = .returned (.tuple #[.slice A' N N, .bool true]) ∧ Rd w' w'.heap.size A' (exL (macL [] T) ([116, 117, 114, 110, 107, 101, 121, 0, x] ++ i) N) ∧ Grown w w' := by
  have H := Lib.hid h
  have Hn := Lib.hid hn
  have Hk := Lib.hid hk
  have H2 := Lib.hid h2
  have Hm := Lib.hid hm
  clear h hn hk h2 hm
  have kc := fun (W : World) (C : Array Value) (n c : Nat) => Lib.run_convert_bytes_const (P := Tryd.prog) W 22 5 C n c Tryd.underlying22 Tryd.underlying5
  have kc1 : ∀ (W : World) (o : Obj) (C : Array Value) (n c : Nat), (convert 22 22 (.slice (some ⟨W.heap.size + 1, 0, none⟩) n c)).run Tryd.prog ((W.alloc o).alloc (.cells C 5)) = .ok (.slice (some ⟨W.heap.size + 1, 0, none⟩) n c) ((W.alloc o).alloc (.cells C 5 (C.size, C.size + 1))) := fun W o C n c => by
    have := kc (W.alloc o) C n c
    rwa [show (W.alloc o).heap.size = W.heap.size + 1 by simp] at this
  clear kc
  go_enter Tryd.func12, Tryd.ntmps12
  go_wp2_with fail
  refine (extract_any none 0 0 [] A n c T _ Hk.out (.inl rfl) rfl (by omega) (by omega) H.out Hn.out hc hl).mono ?_
  rintro e w1 ⟨rfl, hb1⟩
  obtain ⟨D, hD⟩ : ∃ D, D = arr (macL [] T) := ⟨_, rfl⟩
  rw [← hD]
  have HD := Lib.hid hD
  have G1 := Lib.hid hb1
  clear hb1 hD
  obtain ⟨l8, hl8⟩ : ∃ l : List UInt8, l = [116, 117, 114, 110, 107, 101, 121, 0] := ⟨_, rfl⟩
  have Hl8 := Lib.hid (show l8.length = 8 by rw [hl8]; rfl)
  have s1 : (w1.alloc (.cells D 24)).heap.size = w1.heap.size + 1 := by simp
  have s2 : ((w1.alloc (.cells D 24)).alloc (.cells #[.int .u8 116, .int .u8 117, .int .u8 114, .int .u8 110, .int .u8 107, .int .u8 101, .int .u8 121, .int .u8 0] 5 (8, 9))).heap.size = w1.heap.size + 1 + 1 := by simp
  have s3 : (((w1.alloc (.cells D 24)).alloc (.cells #[.int .u8 116, .int .u8 117, .int .u8 114, .int .u8 110, .int .u8 107, .int .u8 101, .int .u8 121, .int .u8 0] 5 (8, 9))).alloc (.cells #[.int .u8 (x.toNat : Int)] 5)).heap.size = w1.heap.size + 1 + 1 + 1 := by simp
  have GB := Lib.hid (show Grown w1 (((w1.alloc (.cells D 24)).alloc (.cells #[.int .u8 116, .int .u8 117, .int .u8 114, .int .u8 110, .int .u8 107, .int .u8 101, .int .u8 121, .int .u8 0] 5 (8, 9))).alloc (.cells #[.int .u8 (x.toNat : Int)] 5)) from Grown.trans (alloc_below w1 _) (Grown.trans (alloc_below _ _) (alloc_below _ _)))
  have RK := Lib.hid (show Rd (((w1.alloc (.cells D 24)).alloc (.cells #[.int .u8 116, .int .u8 117, .int .u8 114, .int .u8 110, .int .u8 107, .int .u8 101, .int .u8 121, .int .u8 0] 5 (8, 9))).alloc (.cells #[.int .u8 (x.toNat : Int)] 5)) (((w1.alloc (.cells D 24)).alloc (.cells #[.int .u8 116, .int .u8 117, .int .u8 114, .int .u8 110, .int .u8 107, .int .u8 101, .int .u8 121, .int .u8 0] 5 (8, 9))).alloc (.cells #[.int .u8 (x.toNat : Int)] 5)).heap.size (some ⟨w1.heap.size, 0, none⟩) (macL [] T) by
    rw [HD.out]
    exact rd_block (t := 24) (((Below.heap_alloc _ _ _ (by rw [← HD.out, s2]; omega)).trans (Below.heap_alloc _ _ _ (by rw [← HD.out, s1]; omega))).trans (heap_alloc_new w1 _)) (by rw [← HD.out, s3]; omega))
  have RC := Lib.hid (show Rd (((w1.alloc (.cells D 24)).alloc (.cells #[.int .u8 116, .int .u8 117, .int .u8 114, .int .u8 110, .int .u8 107, .int .u8 101, .int .u8 121, .int .u8 0] 5 (8, 9))).alloc (.cells #[.int .u8 (x.toNat : Int)] 5)) (((w1.alloc (.cells D 24)).alloc (.cells #[.int .u8 116, .int .u8 117, .int .u8 114, .int .u8 110, .int .u8 107, .int .u8 101, .int .u8 121, .int .u8 0] 5 (8, 9))).alloc (.cells #[.int .u8 (x.toNat : Int)] 5)).heap.size (some ⟨w1.heap.size + 1, 0, none⟩) l8 by
    rw [hl8]
    exact rd_block (t := 5) (fr := (8, 9)) ((Below.heap_alloc _ _ _ (by rw [s2]; omega)).trans (by rw [← s1]; exact heap_alloc_new _ _)) (by rw [s3]; omega))
  have RX := Lib.hid (show Rd (((w1.alloc (.cells D 24)).alloc (.cells #[.int .u8 116, .int .u8 117, .int .u8 114, .int .u8 110, .int .u8 107, .int .u8 101, .int .u8 121, .int .u8 0] 5 (8, 9))).alloc (.cells #[.int .u8 (x.toNat : Int)] 5)) (((w1.alloc (.cells D 24)).alloc (.cells #[.int .u8 116, .int .u8 117, .int .u8 114, .int .u8 110, .int .u8 107, .int .u8 101, .int .u8 121, .int .u8 0] 5 (8, 9))).alloc (.cells #[.int .u8 (x.toNat : Int)] 5)).heap.size (some ⟨w1.heap.size + 1 + 1, 0, none⟩) [x] by
    rw [← s2]
    exact (Row.new _ [x]).rd (by simp))
  have HK := Lib.hid (show D.size = 64 by rw [HD.out, arr_size, macL_len])
  have HL8 := Lib.hid hl8
  clear s1 s2 s3 hl8
  go_wp2_with (first
    | (refine wpList_store_last rfl 24 (.tmp 10) (.tmp 13) rfl rfl rfl (by rw [HD.out, arr_size, macL_len]; exact infoA) (by rw [HD.out, arr_size, macL_len]; rfl) (by rw [HD.out]; exact arr_one _) ?_)
    | (at_builtin
       refine wpList_appG rfl (.tmp 15) (.tmp 17) rfl (n := 8) (l := l8) Hl8.out rfl RC.out (n2 := 1) (l2 := [x]) rfl rfl RX.out (by omega) (by omega) (by omega) (l8 ++ [x]) rfl ?_
       intro A3 c3 w3 ho3' hg3
       have H9 := Lib.hid (show (l8 ++ [x]).length = 9 by rw [List.length_append, Hl8.out]; rfl)
       rw [H9.out]
       obtain ⟨b3, ho3, hs3, hw3, hrk3⟩ : ∃ b3, Own w3 b3 A3 c3 (l8 ++ [x]) ∧ b3 ≤ w3.heap.size ∧ w.heap.size ≤ b3 ∧ Rd w3 b3 (some ⟨w1.heap.size, 0, none⟩) (macL [] T) := ⟨_, ho3', Below.size hg3, Below.size (Grown.trans G1.out GB.out), RK.out.below hg3⟩
       have O3 := Lib.hid ho3
       have RK3 := Lib.hid hrk3
       have G3 := Lib.hid (Grown.trans (Grown.trans G1.out GB.out) hg3)
       have H23 := Lib.hid (H2.out.below G3.out)
       clear ho3 ho3' hg3 RC RX RK GB hrk3)
    | (at_builtin
       refine wpList_appK rfl (.tmp 19) (.tmp 20) rfl (base := b3) (n := 9) (l := l8 ++ [x]) H9.out rfl O3.out (n2 := m) (l2 := i) Hm.out rfl H23.out (by omega) hs3 ?_
       intro A4 c4 w4 ho4 hb4 hk4
       have hlen : (l8 ++ [x] ++ i).length = 9 + m := by rw [List.length_append, H9.out, Hm.out]
       obtain ⟨S, hS⟩ : ∃ S : ByteArray, S = ⟨(l8 ++ [x] ++ i).toArray⟩ := ⟨_, rfl⟩
       have RW := Lib.hid ho4.rd
       have HS := Lib.hid hS
       have Hlen := Lib.hid hlen
       have RK4 := Lib.hid ((RK3.out.below hb4).more (Nat.le_trans hs3 hb4.size))
       have G4 := Lib.hid (show Grown w w4 from Below.trans G3.out (hb4.mono hw3))
       clear ho4 hb4 hk4 hS hlen RK3 O3 H23 G3))
  have Hkt4 := Lib.hid (Hk.out.grow G4.out)
  have HL9 := Lib.hid (show l8 ++ [x] ++ i = [116, 117, 114, 110, 107, 101, 121, 0, x] ++ i by rw [HL8.out]; rfl)
  clear kc1 hs3 hw3
  try simp only [Act.put]
  refine rest_start (by kernel_rfl) fun v hv => ?_
  have RWb := Lib.hid (RW.out.grow hv)
  have RKb := Lib.hid (RK4.out.grow hv)
  have Ktb := Lib.hid (Hkt4.out.grow hv)
  have Gb := Lib.hid (Grown.trans G4.out hv)
  clear hv RW RK4 Hkt4 G4
  refine rest_take (i := 0) rfl (by kernel_rfl) (by kernel_rfl) (by kernel_rfl) (by rfl) (fun w' hg => by go_simp; try with_reducible rfl) ?_
  try simp only [Act.put, List.setIfInBounds_toArray, List.set_cons_zero, List.set_cons_succ]
  refine rest_take (i := 1) rfl (by kernel_rfl) (by kernel_rfl) (by kernel_rfl) (by rfl) (fun w' hg => by go_simp; try with_reducible rfl) ?_
  try simp only [Act.put, List.setIfInBounds_toArray, List.set_cons_zero, List.set_cons_succ]
  refine rest_take (i := 2) rfl (by kernel_rfl) (by kernel_rfl) (by kernel_rfl) (by rfl) (fun w' hg => by have hcv := conv_at RWb.out Hlen.out c4 w' hg; rw [← HS.out] at hcv; go_simp; try with_reducible rfl) ?_
  try simp only [Act.put, List.setIfInBounds_toArray, List.set_cons_zero, List.set_cons_succ]
  refine rest_take (i := 3) rfl (by kernel_rfl) (by kernel_rfl) (by kernel_rfl) (by rfl) (fun w' hg => by go_simp; try with_reducible rfl) ?_
  try simp only [Act.put, List.setIfInBounds_toArray, List.set_cons_zero, List.set_cons_succ]
  refine rest_lone (i := 4) rfl (by kernel_rfl) (by rfl) (fun K hK => ?_)
  go_simp
  refine (expand_any _ 64 64 (macL [] T) (l8 ++ [x] ++ i) S (9 + m) N _ Ktb.out RKb.out (macL_len _ _) (Nat.le_refl _) (by omega) HS.out Hlen.out (by omega) hN).mono ?_
  rintro e w5 ⟨A5, rfl, hr5, hg5⟩
  refine hK.out _ _ hg5 ?_
  clear hK K
  rw [HL9.out] at hr5
  have R5 := Lib.hid hr5
  have G5 := Lib.hid (Grown.trans Gb.out hg5)
  clear hr5 hg5 Gb Ktb RKb RWb
  try simp only [Act.put, List.setIfInBounds_toArray, List.set_cons_zero, List.set_cons_succ]
  refine rest_take (i := 5) rfl (by kernel_rfl) (by kernel_rfl) (by kernel_rfl) (by rfl) (fun w' hg => by go_simp; try with_reducible rfl) ?_
  try simp only [Act.put, List.setIfInBounds_toArray, List.set_cons_zero, List.set_cons_succ]
  refine rest_take (i := 6) rfl (by kernel_rfl) (by kernel_rfl) (by kernel_rfl) (by rfl) (fun w' hg => by go_simp; try with_reducible rfl) ?_
  try simp only [Act.put, List.setIfInBounds_toArray, List.set_cons_zero, List.set_cons_succ]
  refine rest_take (i := 7) rfl (by kernel_rfl) (by kernel_rfl) (by kernel_rfl) (by rfl) (fun w' hg => by go_simp; try with_reducible rfl) ?_
  try simp only [Act.put, List.setIfInBounds_toArray, List.set_cons_zero, List.set_cons_succ]
  refine rest_take (i := 8) rfl (by kernel_rfl) (by kernel_rfl) (by kernel_rfl) (by rfl) (fun w' hg => by go_simp; try with_reducible rfl) ?_
  try simp only [Act.put, List.setIfInBounds_toArray, List.set_cons_zero, List.set_cons_succ]
  refine rest_done (by kernel_rfl) ?_
  go_wp2
  go_ret2
  exact ⟨A5, rfl, R5.out, G5.out⟩
end Go.Proofs.YtbofikghcoalbaaDoor.S6
