/-
  Contract of the program's start: the data's cipher, the first tweak.
-/
import Derived.Test.YtbgbfofghhiolaaXqB
import Derived.Test.YtbgbfofghhiolaaPdN
namespace Go.Proofs.Ytbgbfofghhiolaa.S8
open Go.RowKit
open Go.Proofs.Ytbgbfofghhiolaa.S7 hiding intOf
set_option linter.unusedVariables false
set_option linter.unusedSimpArgs false

set_option maxHeartbeats 4000000 in
set_option maxRecDepth 20000 in
theorem start_any (A : Option Addr) (c : Nat) (k : List UInt8) (n : Nat) (w : World) (hk : k.length = 64) (hc : 64 ≤ c) (hR : Rd w w.heap.size A k) (hn : n < 9223372036854775808) :
    Calls Try.prog 13 #[.slice A 64 c, .int .i64 (n : Int)] w fun e w' => ∃ G, e = .returned (.tuple #[.pointer (some ⟨G, 0, none⟩), .agg (bvs (tw (keysL (k.drop 32)) n 0)).toArray]) ∧ Ci w' G (keysL (k.take 32)) ∧ Grown w w' := by
  have HR := Lib.hid hR
  have HN := Lib.hid hn
  obtain ⟨A2, hA2⟩ : ∃ A2, A2 = if c = 32 then A else A.map (·.add 32) := ⟨_, rfl⟩
  obtain ⟨c2, hc2⟩ : ∃ c2, c2 = c - 32 := ⟨_, rfl⟩
  have hsl2 : ∀ V : World, (Instr.slice 22 (.slice A 64 c) (some (.int .i64 32)) none none).run Try.prog V = .ok (.slice A2 32 c2) V := fun V => by rw [hA2, hc2]; exact cut_k V A 64 c 32 (by omega)
  have hsl1 : ∀ V : World, (Instr.slice 22 (.slice A 64 c) none (some (.int .i64 32)) none).run Try.prog V = .ok (.slice A 32 c) V := fun V => cut_h V A 64 c 32 (by omega)
  have HR2 := Lib.hid (show Rd w w.heap.size A2 (k.drop 32) by rw [hA2]; exact Rd.cut hR (by rw [hk]; exact hc))
  have HK1 := Lib.hid (show (k.take 32).length = 32 by rw [List.length_take, hk]; omega)
  have HK2 := Lib.hid (show (k.drop 32).length = 32 by rw [List.length_drop, hk])
  have HR1 := Lib.hid (hR.take 32)
  have hc32 : 32 ≤ c := by omega
  have hc232 : 32 ≤ c2 := by omega
  obtain ⟨kd, hkd⟩ : ∃ kd, kd = k.drop 32 := ⟨_, rfl⟩
  rw [← hkd] at HR2 HK2 ⊢
  obtain ⟨kt, hkt⟩ : ∃ kt, kt = k.take 32 := ⟨_, rfl⟩
  rw [← hkt] at HR1 HK1 ⊢
  clear hk hc hR hn hA2 hc2 hkd hkt HR
  go_enter Try.func13, Try.ntmps13
  go_wp2_with fail
  have B0 := Lib.hid (Br.new w zs16)
  have G0 := Lib.hid (alloc_below w (.cells (bvs zs16).toArray 37))
  rw [show (bvs zs16).toArray = #[Value.int .u8 0, Value.int .u8 0, Value.int .u8 0, Value.int .u8 0, Value.int .u8 0, Value.int .u8 0, Value.int .u8 0, Value.int .u8 0, Value.int .u8 0, Value.int .u8 0, Value.int .u8 0, Value.int .u8 0, Value.int .u8 0, Value.int .u8 0, Value.int .u8 0, Value.int .u8 0] from rfl] at B0 G0
  generalize w.alloc _ = w0 at B0 G0 ⊢
  refine (new_any A c kt HK1.out hc32 _ (HR1.out.grow G0.out)).mono ?_
  rintro e w1 ⟨G1, rfl, hG1, hC1, hg1⟩
  have HG1 := Lib.hid (show G1 ≠ w.heap.size by have := B0.out.lt; omega)
  clear hG1
  have C1 := Lib.hid hC1
  have Ga := Lib.hid (Grown.trans G0.out hg1)
  have B1 := Lib.hid (B0.out.grow hg1)
  clear hC1 hg1 B0 G0
  go_wp2_with fail
  refine (new_any A2 c2 kd HK2.out hc232 _ (HR2.out.grow Ga.out)).mono ?_
  rintro e w2 ⟨G2, rfl, _, hC2, hg2⟩
  have C2 := Lib.hid hC2
  have C1b := Lib.hid (C1.out.grow hg2)
  have Gb := Lib.hid (Grown.trans Ga.out hg2)
  have B2 := Lib.hid (B1.out.grow hg2)
  clear hC2 hg2 B1 C1 Ga
  go_wp2_with fail
  refine (lay_any n HN.out _).mono ?_
  rintro e w3 ⟨rfl, hg3⟩
  have C2b := Lib.hid (C2.out.grow hg3)
  have C1c := Lib.hid (C1b.out.grow hg3)
  have Gc := Lib.hid (Grown.trans Gb.out hg3)
  have B3 := Lib.hid (B2.out.grow hg3)
  clear hg3 B2 C1b C2 Gb
  go_wp2_with fail
  refine (enc_any G2 (keysL kd) (numL n) (numL_len n) _ C2b.out).mono ?_
  rintro e w4 ⟨rfl, hg4⟩
  have C1d := Lib.hid (C1c.out.grow hg4)
  have Gd := Lib.hid (Grown.trans Gc.out hg4)
  have B4 := Lib.hid (B3.out.grow hg4)
  clear hg4 B3 C1c C2b Gc
  have HEl := Lib.hid (show (tw (keysL kd) n 0).length = 16 from tw_len _ _ _)
  rw [show encL (keysL kd) (numL n) = tw (keysL kd) n 0 from rfl]
  obtain ⟨T, hT⟩ : ∃ T, T = tw (keysL kd) n 0 := ⟨_, rfl⟩
  rw [← hT] at HEl ⊢
  have HT := Lib.hid hT
  clear hT
  go_wp2_with (first
    | (refine wpList_store_br rfl (.tmp 5) (.tmp 26) rfl rfl rfl B4.out rfl HEl.out ?_))
  refine ret_tmp_br rfl rfl (B4.out.row T) HEl.out (x := .pointer (some ⟨G1, 0, none⟩)) rfl ⟨G1, by rw [HT.out], ?_, ?_⟩
  · exact Ci.row C1d.out HG1.out _
  · exact Below.setRow' Gd.out (Nat.le_refl _) _
end Go.Proofs.Ytbgbfofghhiolaa.S8
