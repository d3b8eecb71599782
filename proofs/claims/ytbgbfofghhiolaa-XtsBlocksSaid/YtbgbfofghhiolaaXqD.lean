/-
  Contracts of the program's Encrypt and Decrypt (xts).
-/
import Derived.Test.YtbgbfofghhiolaaXqS
import Derived.Test.YtbgbfofghhiolaaXqC
import Derived.Test.YtbgbfofghhiolaaXqE
import Derived.Test.YtbgbfofghhiolaaXwC
namespace Go.Proofs.Ytbgbfofghhiolaa.S8
open Go.RowKit
open Go.Proofs.Ytbgbfofghhiolaa.S7 hiding intOf
set_option linter.unusedVariables false
set_option linter.unusedSimpArgs false

theorem enc_enter (args : Array Value) (V : World) : (callFunc 15 args).run Try.prog V = .ok (.enter 15 args) V := by
  go_simp
set_option maxHeartbeats 4000000 in
set_option maxRecDepth 20000 in
theorem encNo : EncNo := by
  intro A B kl c bl d n k b w hk hc hcm hR hn1 hn2 hb hd hdm hB hno
  go_enter Try.func7, Try.ntmps7
  go_wp2_with fail
  refine (unit_no A B kl c bl d n hno w).mono ?_
  rintro e w' ⟨rfl, rfl⟩
  go_wp2
  go_ret2
  exact ⟨none, 0, rfl, Grown.refl _⟩
set_option maxHeartbeats 4000000 in
set_option maxRecDepth 20000 in
theorem encOk : EncOk := by
  intro A B c bl d n kb k b w hk hc hcm hR hn hb hbl h1 hkb hd hdm hB
  have HK := Lib.hid hk
  have HR := Lib.hid hR
  have HB := Lib.hid hB
  have Hb := Lib.hid hb
  have HBL := Lib.hid hbl
  have HN := Lib.hid hn
  have hok := Lib.hid (show okX 64 (n : Int) bl from ⟨rfl, by omega, by omega, by omega, by omega⟩)
  have hmf : ∀ (fn : Fn) (first cap : Array Value) (V : World), (Instr.makeFunc fn first cap).run Try.prog V = .ok (.func fn first cap) V := fun _ _ _ _ => rfl
  clear hk hR hB hb hbl hn
  go_enter Try.func7, Try.ntmps7
  go_wp2_with fail
  refine (unit_yes A B 64 c bl d (n : Int) hok.out w).mono ?_
  rintro e w' ⟨rfl, rfl⟩
  go_wp2_with fail
  refine (start_any A c k n w HK.out hc HR.out HN.out).mono ?_
  rintro e w1 ⟨G, rfl, hC, hg1⟩
  have C1 := Lib.hid hC
  have G1 := Lib.hid hg1
  obtain ⟨T, hT⟩ : ∃ T, T = tw (keysL (k.drop 32)) n 0 := ⟨_, rfl⟩
  rw [← hT]
  have HT := Lib.hid hT
  have HTl := Lib.hid (show T.length = 16 by rw [hT]; exact tw_len _ _ _)
  clear hC hg1 hT
  go_wp2_with (first
    | (refine wpList_store_last rfl 37 (.tmp 9) (.tmp 20) rfl rfl rfl (sz16 HTl.out) (by simp [bvs, HTl.out]) (on16 T) ?_)
    | (refine wpList_load_br rfl (.tmp 9) rfl rfl (Br.new w1 T) HTl.out ?_))
  have C2 := Lib.hid (C1.out.grow (alloc_below w1 (.cells (bvs T).toArray 37)))
  have G2 := Lib.hid (Grown.trans G1.out (alloc_below w1 (.cells (bvs T).toArray 37)))
  clear C1 G1
  generalize w1.alloc _ = w2 at C2 G2 ⊢
  rw [HT.out]
  refine (whiten_any 15 (encL (keysL (k.take 32))) (fun x => encL_len _ x) G (keysL (k.drop 32)) n kb bl d B b w2 enc_enter (fun x w' hx hg => enc_any G (keysL (k.take 32)) x hx w' (C2.out.grow hg)) Hb.out HBL.out h1 hkb hd (HB.out.grow G2.out)).mono ?_
  rintro e w3 ⟨rfl, hr3, hg3⟩
  have R3 := Lib.hid hr3
  have G3 := Lib.hid (Grown.trans G2.out hg3)
  clear hr3 hg3
  go_wp2
  go_ret2
  exact ⟨_, bl, rfl, (xtE_len _ _ _ _ _).trans HBL.out.symm, Nat.le_refl _, Nat.le_trans hd hdm, R3.out, G3.out⟩
theorem dec_enter (args : Array Value) (V : World) : (callFunc 16 args).run Try.prog V = .ok (.enter 16 args) V := by
  go_simp
set_option maxHeartbeats 4000000 in
set_option maxRecDepth 20000 in
theorem decNo : DecNo := by
  intro A B kl c bl d n k b w hk hc hcm hR hn1 hn2 hb hd hdm hB hno
  go_enter Try.func8, Try.ntmps8
  go_wp2_with fail
  refine (unit_no A B kl c bl d n hno w).mono ?_
  rintro e w' ⟨rfl, rfl⟩
  go_wp2
  go_ret2
  exact ⟨none, 0, rfl, Grown.refl _⟩
set_option maxHeartbeats 4000000 in
set_option maxRecDepth 20000 in
theorem decOk : DecOk := by
  intro A B c bl d n kb k b w hk hc hcm hR hn hb hbl h1 hkb hd hdm hB
  have HK := Lib.hid hk
  have HR := Lib.hid hR
  have HB := Lib.hid hB
  have Hb := Lib.hid hb
  have HBL := Lib.hid hbl
  have HN := Lib.hid hn
  have hok := Lib.hid (show okX 64 (n : Int) bl from ⟨rfl, by omega, by omega, by omega, by omega⟩)
  have hmf : ∀ (fn : Fn) (first cap : Array Value) (V : World), (Instr.makeFunc fn first cap).run Try.prog V = .ok (.func fn first cap) V := fun _ _ _ _ => rfl
  clear hk hR hB hb hbl hn
  go_enter Try.func8, Try.ntmps8
  go_wp2_with fail
  refine (unit_yes A B 64 c bl d (n : Int) hok.out w).mono ?_
  rintro e w' ⟨rfl, rfl⟩
  go_wp2_with fail
  refine (start_any A c k n w HK.out hc HR.out HN.out).mono ?_
  rintro e w1 ⟨G, rfl, hC, hg1⟩
  have C1 := Lib.hid hC
  have G1 := Lib.hid hg1
  obtain ⟨T, hT⟩ : ∃ T, T = tw (keysL (k.drop 32)) n 0 := ⟨_, rfl⟩
  rw [← hT]
  have HT := Lib.hid hT
  have HTl := Lib.hid (show T.length = 16 by rw [hT]; exact tw_len _ _ _)
  clear hC hg1 hT
  go_wp2_with (first
    | (refine wpList_store_last rfl 37 (.tmp 9) (.tmp 20) rfl rfl rfl (sz16 HTl.out) (by simp [bvs, HTl.out]) (on16 T) ?_)
    | (refine wpList_load_br rfl (.tmp 9) rfl rfl (Br.new w1 T) HTl.out ?_))
  have C2 := Lib.hid (C1.out.grow (alloc_below w1 (.cells (bvs T).toArray 37)))
  have G2 := Lib.hid (Grown.trans G1.out (alloc_below w1 (.cells (bvs T).toArray 37)))
  clear C1 G1
  generalize w1.alloc _ = w2 at C2 G2 ⊢
  rw [HT.out]
  refine (whiten_any 16 (decL (keysL (k.take 32))) (fun x => decL_len _ x) G (keysL (k.drop 32)) n kb bl d B b w2 dec_enter (fun x w' hx hg => dec_any G (keysL (k.take 32)) x hx w' (C2.out.grow hg)) Hb.out HBL.out h1 hkb hd (HB.out.grow G2.out)).mono ?_
  rintro e w3 ⟨rfl, hr3, hg3⟩
  have R3 := Lib.hid hr3
  have G3 := Lib.hid (Grown.trans G2.out hg3)
  clear hr3 hg3
  go_wp2
  go_ret2
  exact ⟨_, bl, rfl, (xtD_len _ _ _ _ _).trans HBL.out.symm, Nat.le_refl _, Nat.le_trans hd hdm, R3.out, G3.out⟩
end Go.Proofs.Ytbgbfofghhiolaa.S8
