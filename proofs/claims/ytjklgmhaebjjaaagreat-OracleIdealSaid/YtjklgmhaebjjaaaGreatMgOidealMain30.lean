/-
  The ideal source's units: isUnit, unitName, encrypt, decrypt. The ideal source's block ciphers, Bad, Queries.
-/
import Derived.Test.YtjklgmhaebjjaaaGreatMgOidealMain29
namespace Go.Proofs.YtjklgmhaebjjaaaGreat.S12
open S11
open Go.RowKit
set_option linter.unusedVariables false
set_option linter.unusedSimpArgs false

def okU (kl : Nat) (n : Int) (bl : Nat) : Prop := kl = 64 ∧ 0 ≤ n ∧ 16 ≤ bl ∧ bl ≤ 1024 ∧ bl % 16 = 0
theorem isu_yes (A B : Option Addr) (kl c bl d : Nat) (n : Int) (h : okU kl n bl) (w : World) : Calls Tryz.prog 72 #[.slice A kl c, .int .i64 n, .slice B bl d] w fun e w' => e = .returned (.bool true) ∧ w = w' := by
  obtain ⟨rfl, h2, h3, h4, h5⟩ := h
  have b2 : (0 : Int) < (bl : Int) := by omega
  have b3 : (bl : Int) ≤ 1024 := by omega
  have b4 : (bl : Int) % 16 = 0 := by omega
  have b5 : (bl : Int).tmod 16 = 0 := by rw [Int.tmod_eq_emod_of_nonneg (by omega)]; omega
  clear h3 h4 h5
  go_enter Tryz.func72, Tryz.ntmps72
  go_wp2
  go_ret
  exact ⟨rfl, rfl⟩
theorem isu_no (A B : Option Addr) (kl c bl d : Nat) (n : Int) (h : ¬ okU kl n bl) (w : World) : Calls Tryz.prog 72 #[.slice A kl c, .int .i64 n, .slice B bl d] w fun e w' => e = .returned (.bool false) ∧ w = w' := by
  unfold okU at h
  by_cases h1 : kl = 64
  · subst h1
    by_cases h2 : 0 ≤ n
    · by_cases h3 : 0 < bl
      · by_cases h4 : bl ≤ 1024
        · have h5 : ¬ bl % 16 = 0 := fun h5 => h ⟨rfl, h2, by omega, h4, h5⟩
          have b2 : (0 : Int) < (bl : Int) := by omega
          have b3 : (bl : Int) ≤ 1024 := by omega
          obtain ⟨m, hm⟩ : ∃ m, m = bl % 16 := ⟨_, rfl⟩
          have b4 : (bl : Int) % 16 = (m : Int) := by omega
          have b5 : (bl : Int).tmod 16 = (m : Int) := by rw [hm]; rfl
          have b6 : ((m : Int) == 0) = false := by simp; omega
          have b7 : ¬ (m : Int) = 0 := by omega
          clear h h3 h4 h5 hm
          go_enter Tryz.func72, Tryz.ntmps72
          go_wp2
          go_ret
          exact ⟨rfl, rfl⟩
        · have b2 : (0 : Int) < (bl : Int) := by omega
          have b3 : ¬ (bl : Int) ≤ 1024 := by omega
          clear h h3 h4
          go_enter Tryz.func72, Tryz.ntmps72
          go_wp2
          go_ret
          exact ⟨rfl, rfl⟩
      · have b2 : ¬ (0 : Int) < (bl : Int) := by omega
        clear h h3
        go_enter Tryz.func72, Tryz.ntmps72
        go_wp2
        go_ret
        exact ⟨rfl, rfl⟩
    · clear h
      go_enter Tryz.func72, Tryz.ntmps72
      go_wp2
      go_ret
      exact ⟨rfl, rfl⟩
  · have b1 : ((kl : Int) == 64) = false := by simp; omega
    have b2 : ¬ (kl : Int) = 64 := by omega
    clear h h1
    go_enter Tryz.func72, Tryz.ntmps72
    go_wp2
    go_ret
    exact ⟨rfl, rfl⟩
theorem addQ (a b : List UInt8) (h : a.length + b.length ≤ 4294967296) (V : World) : (Op.stringOp .add ⟨a.toArray⟩ ⟨b.toArray⟩).run Tryz.prog V = .ok (.string ⟨(a ++ b).toArray⟩) V := addT a b h V
set_option maxHeartbeats 4000000 in
theorem uname_any (A1 : Option Addr) (n1 c1 : Nat) (key : List UInt8) (number : Int) (w : World) (h1 : Rd w w.heap.size A1 key) (hn1 : key.length = n1) (hl1 : n1 ≤ 2000) :
    Calls Tryz.prog 74 #[.slice A1 n1 c1, .int .i64 number] w fun e w' => e = .returned (.string ⟨(unitQ key number).toArray⟩) ∧ Grown w w' := by
  have H1 := Lib.hid h1
  have HN1 := Lib.hid hn1
  obtain ⟨T1, hT1⟩ : ∃ T : ByteArray, T = ⟨key.toArray⟩ := ⟨_, rfl⟩
  have HT1 := Lib.hid hT1
  have HS := Lib.hid (show ∀ v, Grown w v → (convert 22 9 (.slice A1 n1 c1)).run Tryz.prog v = .ok (.string T1) v from fun v hv => by
    have e1 := conv (H1.out.grow hv) c1
    rw [HN1.out] at e1
    rw [HT1.out]; exact e1)
  obtain ⟨M1, hM1⟩ : ∃ M : ByteArray, M = ⟨([117, 110, 105, 116] ++ key).toArray⟩ := ⟨_, rfl⟩
  have ha1 : ∀ V : World, (Op.stringOp .add ⟨#[117, 110, 105, 116]⟩ T1).run Tryz.prog V = .ok (.string M1) V := fun V => by rw [HT1.out, hM1]; exact addQ [117, 110, 105, 116] _ (by rw [HN1.out]; simp; omega) V
  have HM1 := Lib.hid hM1
  clear h1 hn1 hT1 hM1
  go_enter Tryz.func74, Tryz.ntmps74
  go_wp2_with fail
  refine restS_begin (fun v : World => (convert 22 9 (.slice A1 n1 c1)).run Tryz.prog v = .ok (.string T1) v) (by kernel_rfl) ?_
  have G0 := Lib.hid (show Grown w w.drew from (Below.refl _ w).drew)
  generalize w.drew = w0 at G0 ⊢
  have S0 := Lib.hid (HS.out w0 G0.out)
  refine restS_take (i := 0) S0.out rfl (by kernel_rfl) (by kernel_rfl) (by kernel_rfl) (by rfl) (fun v hv => by obtain v1 := hv; go_simp; try with_reducible rfl) ?_
  try simp only [Act.put, List.setIfInBounds_toArray, List.set_cons_zero, List.set_cons_succ]
  refine restS_take (i := 1) S0.out rfl (by kernel_rfl) (by kernel_rfl) (by kernel_rfl) (by rfl) (fun v hv => by obtain v1 := hv; go_simp; try with_reducible rfl) ?_
  try simp only [Act.put, List.setIfInBounds_toArray, List.set_cons_zero, List.set_cons_succ]
  refine restS_take (i := 2) S0.out rfl (by kernel_rfl) (by kernel_rfl) (by kernel_rfl) (by rfl) (fun v hv => by obtain v1 := hv; go_simp; try with_reducible rfl) ?_
  try simp only [Act.put, List.setIfInBounds_toArray, List.set_cons_zero, List.set_cons_succ]
  refine restS_take (i := 3) S0.out rfl (by kernel_rfl) (by kernel_rfl) (by kernel_rfl) (by rfl) (fun v hv => by obtain v1 := hv; go_simp; try with_reducible rfl) ?_
  try simp only [Act.put, List.setIfInBounds_toArray, List.set_cons_zero, List.set_cons_succ]
  clear ha1
  refine restS_lone (i := 4) rfl (by kernel_rfl) (by rfl) (fun K hK => ?_)
  go_simp
  refine (lay_any number 8 8 w0 (by omega) (.inr (.inl rfl))).mono ?_
  rintro e w1 ⟨A4, c4, rfl, ho4, hb4⟩
  rw [layL_len]
  have G1 := Lib.hid (show Grown w w1 from Grown.trans G0.out hb4)
  have S1 := Lib.hid (HS.out w1 G1.out)
  have hcv := conv ho4.rd c4
  rw [layL_len] at hcv
  obtain ⟨T3, hT3⟩ : ∃ T : ByteArray, T = ⟨(layL number 8).toArray⟩ := ⟨_, rfl⟩
  rw [← hT3] at hcv
  have S2 := Lib.hid (show (convert 22 9 (.slice A1 n1 c1)).run Tryz.prog w1 = .ok (.string T1) w1 ∧ (convert 22 9 (.slice A4 8 c4)).run Tryz.prog w1 = .ok (.string T3) w1 from ⟨S1.out, hcv⟩)
  obtain ⟨M2, hM2⟩ : ∃ M : ByteArray, M = ⟨(unitQ key number).toArray⟩ := ⟨_, rfl⟩
  have ha2 : ∀ V : World, (Op.stringOp .add M1 T3).run Tryz.prog V = .ok (.string M2) V := fun V => by rw [HM1.out, hM2, hT3]; exact addQ ([117, 110, 105, 116] ++ key) _ (by rw [layL_len]; simp; have := HN1.out; omega) V
  have HM2 := Lib.hid hM2
  clear hcv hT3 hM2 ho4 hb4
  refine hK.out _ _ S1.out ?_
  clear hK K S1 S0
  try simp only [Act.put, List.setIfInBounds_toArray, List.set_cons_zero, List.set_cons_succ]
  refine restS_more (S' := fun v : World => (convert 22 9 (.slice A1 n1 c1)).run Tryz.prog v = .ok (.string T1) v ∧ (convert 22 9 (.slice A4 8 c4)).run Tryz.prog v = .ok (.string T3) v) (fun _ h => h.1) ?_
  refine restS_take (i := 5) S2.out rfl (by kernel_rfl) (by kernel_rfl) (by kernel_rfl) (by rfl) (fun v hv => by obtain ⟨v1, v2⟩ := hv; go_simp; try with_reducible rfl) ?_
  try simp only [Act.put, List.setIfInBounds_toArray, List.set_cons_zero, List.set_cons_succ]
  refine restS_take (i := 6) S2.out rfl (by kernel_rfl) (by kernel_rfl) (by kernel_rfl) (by rfl) (fun v hv => by obtain ⟨v1, v2⟩ := hv; go_simp; try with_reducible rfl) ?_
  try simp only [Act.put, List.setIfInBounds_toArray, List.set_cons_zero, List.set_cons_succ]
  refine restS_take (i := 7) S2.out rfl (by kernel_rfl) (by kernel_rfl) (by kernel_rfl) (by rfl) (fun v hv => by obtain ⟨v1, v2⟩ := hv; go_simp; try with_reducible rfl) ?_
  try simp only [Act.put, List.setIfInBounds_toArray, List.set_cons_zero, List.set_cons_succ]
  refine restS_done (by kernel_rfl) ?_
  go_wp2_with fail
  go_ret
  exact ⟨by rw [← HM2.out]; rfl, G1.out⟩
/-- The bytes that a permutation hands out, and what the source then is. -/
def PairS (w : World) (H : Nat) (F : Nat → Prop) (l : List UInt8) (st' : St) (n : Nat) (e : Ending) (w' : World) : Prop :=
  ∃ A c, e = .returned (.tuple #[.slice A n c, .int .i64 0]) ∧ n ≤ c ∧ l.length = n ∧ Rd w' w'.heap.size A l ∧ (∀ x, A = some x → w.heap.size ≤ x.block) ∧ ∃ F', Src w' H F' st' ∧ (∀ k, F' k → F k ∨ w.heap.size ≤ k) ∧ Ch F w w' ∧ Off F' A l
set_option maxHeartbeats 4000000 in
set_option maxRecDepth 20000 in
theorem unit_src {w : World} {H : Nat} {F : Nat → Prop} {st : St} {i : Nat} {A1 A2 : Option Addr} {n1 c1 n2 c2 : Nat} {key b : List UInt8} {number : Int} (hS : Src w H F st) (hN : Nm st i) (hi : i ≤ 200) (h1 : Bes w F A1 n1 c1 key) (h2 : n1 = 64) (h3 : 0 ≤ number) (h4 : Bes w F A2 n2 c2 b) (h5 : 16 ≤ n2) (h6 : n2 ≤ 100) (h7 : n2 % 16 = 0) :
    Calls Tryz.prog 66 #[.pointer (some ⟨H, 0, none⟩), .slice A1 n1 c1, .int .i64 number, .slice A2 n2 c2] w (PairS w H F (idealM.unit st key number b).1 (idealM.unit st key number b).2 n2) := by
  obtain ⟨Z, FZ, hZ1, hH, hZ, hnF, hF⟩ := hS
  have HZ1 := Lib.hid hZ1
  clear hZ1
  have HH := Lib.hid hH
  have HZ := Lib.hid hZ
  have HnF := Lib.hid hnF
  have HF := Lib.hid hF
  have HFew := Lib.hid (few_nm hN hi)
  have HK := Lib.hid h1.1
  have HKn := Lib.hid h1.2.1
  have HB := Lib.hid h4.1
  have HBn := Lib.hid h4.2.1
  have HBc := Lib.hid h4.2.2.1
  have HBo := Lib.hid h4.2.2.2
  have HOk := Lib.hid (show okU n1 number n2 from ⟨h2, h3, h5, by omega, h7⟩)
  have HD := Lib.hid (show (idealM.unit st key number b).1.length = n2 by rw [show (idealM.unit st key number b).1.length = b.length from pr_len hN.2.2.2 _ _ _ (by have := hN.2.1.2.1; have := hN.1; omega)]; exact h4.2.1)
  have HE := Lib.hid (show prOp st (unitQ key number) b true = idealM.unit st key number b from rfl)
  have HQ := Lib.hid (show (unitQ key number).length ≤ 1000 by unfold unitQ; simp [layL_len]; have := h1.2.1; omega)
  have HU := Lib.hid (fun v (hv : Grown w v) => uname_any A1 n1 c1 key number v (HK.out.grow hv) HKn.out (by omega))
  have n64 : n1 ≤ 64 := by omega
  clear hH hZ hnF hF hN h1 h4 h2 h7
  obtain ⟨R, hR⟩ : ∃ R, R = idealM.unit st key number b := ⟨_, rfl⟩
  rw [← hR] at HD HE ⊢
  clear hR
  have s0 := Lib.hid (show w.drew.cell? ⟨H, 0, none⟩ = some (.pointer (some ⟨Z, 0, none⟩)) from cell_of_row w H 0 _ _ (0, 0) HH.out)
  go_enter Tryz.func66, Tryz.ntmps66
  go_wp2_with fail
  refine (isu_yes A1 A2 n1 c1 n2 c2 number HOk.out w).mono ?_
  rintro e w' ⟨rfl, rfl⟩
  go_wp2_with fail
  refine restS_begin (fun v : World => v.cell? ⟨H, 0, none⟩ = some (.pointer (some ⟨Z, 0, none⟩))) (by kernel_rfl) ?_
  have G0 := Lib.hid (show Grown w w.drew from (Below.refl _ w).drew)
  generalize w.drew = w0 at G0 s0 ⊢
  refine restS_take (i := 0) s0.out rfl (by kernel_rfl) (by kernel_rfl) (by kernel_rfl) (by rfl) (fun v hv => by obtain v1 := hv; go_simp; try with_reducible rfl) ?_
  try simp only [Act.put, List.setIfInBounds_toArray, List.set_cons_zero, List.set_cons_succ]
  refine restS_take (i := 1) s0.out rfl (by kernel_rfl) (by kernel_rfl) (by kernel_rfl) (by rfl) (fun v hv => by obtain v1 := hv; go_simp; try with_reducible rfl) ?_
  try simp only [Act.put, List.setIfInBounds_toArray, List.set_cons_zero, List.set_cons_succ]
  refine restS_take (i := 2) s0.out rfl (by kernel_rfl) (by kernel_rfl) (by kernel_rfl) (by rfl) (fun v hv => by obtain v1 := hv; go_simp; try with_reducible rfl) ?_
  try simp only [Act.put, List.setIfInBounds_toArray, List.set_cons_zero, List.set_cons_succ]
  refine restS_take (i := 3) s0.out rfl (by kernel_rfl) (by kernel_rfl) (by kernel_rfl) (by rfl) (fun v hv => by obtain v1 := hv; go_simp; try with_reducible rfl) ?_
  try simp only [Act.put, List.setIfInBounds_toArray, List.set_cons_zero, List.set_cons_succ]
  refine restS_take (i := 4) s0.out rfl (by kernel_rfl) (by kernel_rfl) (by kernel_rfl) (by rfl) (fun v hv => by obtain v1 := hv; go_simp; try with_reducible rfl) ?_
  try simp only [Act.put, List.setIfInBounds_toArray, List.set_cons_zero, List.set_cons_succ]
  refine restS_take (i := 5) s0.out rfl (by kernel_rfl) (by kernel_rfl) (by kernel_rfl) (by rfl) (fun v hv => by obtain v1 := hv; go_simp; try with_reducible rfl) ?_
  try simp only [Act.put, List.setIfInBounds_toArray, List.set_cons_zero, List.set_cons_succ]
  refine restS_take (i := 7) s0.out rfl (by kernel_rfl) (by kernel_rfl) (by kernel_rfl) (by rfl) (fun v hv => by obtain v1 := hv; go_simp; try with_reducible rfl) ?_
  try simp only [Act.put, List.setIfInBounds_toArray, List.set_cons_zero, List.set_cons_succ]
  refine restS_lone (i := 6) rfl (by kernel_rfl) (by rfl) (fun K hK => ?_)
  go_simp
  refine (HU.out w0 G0.out).mono ?_
  rintro e w1 ⟨rfl, hg1⟩
  have G1 := Lib.hid (Grown.trans G0.out hg1)
  have S1 := Lib.hid (show w1.cell? ⟨H, 0, none⟩ = some (.pointer (some ⟨Z, 0, none⟩)) from cell_of_row w1 H 0 _ _ (0, 0) ((G1.out.block H (lt_of_heap HH.out)).trans HH.out))
  clear hg1 s0
  refine hK.out _ _ S1.out ?_
  clear hK K
  try simp only [Act.put, List.setIfInBounds_toArray, List.set_cons_zero, List.set_cons_succ]
  refine restS_lone (i := 8) rfl (by kernel_rfl) (by rfl) (fun K hK => ?_)
  go_simp
  refine (tapeOk.forw w1 Z FZ st (unitQ key number) A2 n2 c2 b (tapeOk.grow HZ.out G1.out) HFew.out HQ.out (by omega) HBn.out HBc.out (HB.out.grow G1.out) (fun x hx hb hf => HBo.out x hx hb ((HF.out _).2 (.inr hf)))).mono ?_
  intro e w2 hO
  rw [HE.out] at hO
  obtain ⟨A3, n3, c3, F', rfl, hl3, hc3, hr3, hoff, hL2, hF2, hC2⟩ := hO
  obtain rfl : n2 = n3 := by rw [← hl3]; exact HD.out.symm
  have S2 := Lib.hid (show w2.cell? ⟨H, 0, none⟩ = some (.pointer (some ⟨Z, 0, none⟩)) from (World.cell?_of_block (a := ⟨H, 0, none⟩) (hC2.block H (Nat.lt_of_lt_of_le (lt_of_heap HH.out) G1.out.size) HnF.out)).trans S1.out)
  have HO := Lib.hid (And.intro hl3 (And.intro hc3 (And.intro hr3 (And.intro hoff (And.intro hL2 (And.intro hF2 hC2))))))
  clear hl3 hc3 hr3 hoff hL2 hF2 hC2 S1
  refine hK.out _ _ S2.out ?_
  clear hK K
  try simp only [Act.put, List.setIfInBounds_toArray, List.set_cons_zero, List.set_cons_succ]
  refine restS_take (i := 9) S2.out rfl (by kernel_rfl) (by kernel_rfl) (by kernel_rfl) (by rfl) (fun v hv => by obtain v1 := hv; go_simp; try with_reducible rfl) ?_
  try simp only [Act.put, List.setIfInBounds_toArray, List.set_cons_zero, List.set_cons_succ]
  refine restS_take (i := 10) S2.out rfl (by kernel_rfl) (by kernel_rfl) (by kernel_rfl) (by rfl) (fun v hv => by obtain v1 := hv; go_simp; try with_reducible rfl) ?_
  try simp only [Act.put, List.setIfInBounds_toArray, List.set_cons_zero, List.set_cons_succ]
  refine restS_done (by kernel_rfl) ?_
  go_wp2_with fail
  go_ret2
  obtain ⟨hl3, hc3, hr3, hoff, hL2, hF2, hC2⟩ := HO.out
  have hne : R.1 ≠ [] := by intro e0; rw [e0] at hl3; simp at hl3; omega
  have hlt : H < w.heap.size := lt_of_heap HH.out
  have hs1 := G1.out.size
  refine ⟨A3, c3, rfl, hc3, hl3, hr3, fun x hx => Nat.le_trans hs1 (hoff x hx hne).1, fun k => k = H ∨ F' k, ⟨Z, F', HZ1.out, ?_, hL2, ?_, fun k => Iff.rfl⟩, ?_, ?_, ?_⟩
  · rw [hC2.block H (by omega) HnF.out, G1.out.block H hlt]
    exact HH.out
  · intro h
    rcases hF2 H h with h | h
    · exact HnF.out h
    · omega
  · rintro k (rfl | h)
    · exact .inl ((HF.out _).2 (.inl rfl))
    · rcases hF2 k h with h | h
      · exact .inl ((HF.out _).2 (.inr h))
      · exact .inr (by omega)
  · exact Ch.then (Ch.grown G1.out) hC2 (fun k _ h => (HF.out k).2 (.inr h))
  · intro x hx _ hf
    have := hoff x hx hne
    rcases hf with e | hf
    · omega
    · exact this.2 hf
set_option maxHeartbeats 4000000 in
theorem unitNo_src {w : World} {H : Nat} {A1 A2 : Option Addr} {n1 c1 n2 c2 : Nat} {number : Int} (h : ¬ okU n1 number n2) :
    Calls Tryz.prog 66 #[.pointer (some ⟨H, 0, none⟩), .slice A1 n1 c1, .int .i64 number, .slice A2 n2 c2] w fun e w' => e = .returned (.tuple #[.slice none 0 0, .int .i64 2]) ∧ w' = w := by
  go_enter Tryz.func66, Tryz.ntmps66
  go_wp2_with fail
  refine (isu_no A1 A2 n1 c1 n2 c2 number h w).mono ?_
  rintro e w' ⟨rfl, rfl⟩
  go_wp2
  go_ret2
  exact ⟨rfl, rfl⟩
end Go.Proofs.YtjklgmhaebjjaaaGreat.S12
namespace Go.Proofs.YtjklgmhaebjjaaaGreat.S12
open S11
open Go.RowKit
set_option linter.unusedVariables false
set_option linter.unusedSimpArgs false

set_option maxHeartbeats 4000000 in
set_option maxRecDepth 20000 in
theorem lbe_any {w : World} {H Z : Nat} {F : Nat → Prop} {st : St} {i : Nat} {key b : List UInt8} (hS : Src w H F st) (hZe : H = Z + 1) (hN : Nm st i) (hi : i ≤ 200) (hk : key.length = 32) (hb : b.length = 16) :
    Calls Tryz.prog 149 #[.agg #[.pointer (some ⟨Z, 0, none⟩), .string ⟨(blockQ key).toArray⟩], .agg (bvs b).toArray] w fun e w' => e = .returned (.agg (bvs (idealM.enc st key b).1).toArray) ∧ Onw Src w H F (idealM.enc st key b).2 w' := by
  obtain ⟨Z', FZ, hZ1, hH, hZ, hnF, hF⟩ := hS
  obtain rfl : Z' = Z := by omega
  have HZ1 := Lib.hid hZ1
  have HH := Lib.hid hH
  have HZ := Lib.hid hZ
  have HnF := Lib.hid hnF
  have HF := Lib.hid hF
  have HFew := Lib.hid (few_nm hN hi)
  have HB := Lib.hid hb
  have HD := Lib.hid (show (idealM.enc st key b).1.length = 16 by rw [show (idealM.enc st key b).1.length = b.length from pr_len hN.2.2.2 _ _ _ (by have := hN.2.1.2.1; have := hN.1; omega)]; exact hb)
  have HE := Lib.hid (show prOp st (blockQ key) b true = idealM.enc st key b from rfl)
  obtain ⟨Q, hQ⟩ : ∃ Q, Q = blockQ key := ⟨_, rfl⟩
  have HQ := Lib.hid (show Q.length ≤ 1000 by rw [hQ]; unfold blockQ; simp; omega)
  rw [← hQ] at HE ⊢
  clear hZ1 hZe hH hZ hnF hF hN hk hb hQ
  obtain ⟨R, hR⟩ : ∃ R, R = idealM.enc st key b := ⟨_, rfl⟩
  rw [← hR] at HD HE ⊢
  clear hR
  have hz : ∀ V : World, (zeroValue 62).run Tryz.prog V = .ok (.agg (bvs zz16).toArray) V := fun V => zq16 V
  obtain ⟨S, hS⟩ : ∃ S : ByteArray, S = ⟨Q.toArray⟩ := ⟨_, rfl⟩
  have HS := Lib.hid hS
  rw [← hS]
  clear hS
  go_enter Tryz.func149, Tryz.ntmps149
  go_wp2_with fail
  have GA := Lib.hid (alloc_below w (.cells #[.pointer (some ⟨Z', 0, none⟩), .string S] 125))
  have DA := Lib.hid (heap_alloc_new w (.cells #[.pointer (some ⟨Z', 0, none⟩), .string S] 125))
  have SA := Lib.hid (show (w.alloc (.cells #[.pointer (some ⟨Z', 0, none⟩), .string S] 125)).heap.size = w.heap.size + 1 by simp)
  generalize w.alloc _ = wa at GA DA SA ⊢
  rw [← SA.out]
  have GB := Lib.hid (alloc_below wa (.cells (bvs b).toArray 62))
  have DB := Lib.hid (Ba.new wa 62 b)
  have SB := Lib.hid (show (wa.alloc (.cells (bvs b).toArray 62)).heap.size = wa.heap.size + 1 by simp)
  generalize wa.alloc _ = wb at GB DB SB ⊢
  have e2 : w.heap.size + 2 = wb.heap.size := by have := SA.out; have := SB.out; omega
  try rw [e2]
  try rw [← SB.out]
  clear e2
  have GC := Lib.hid (alloc_below wb (.cells (bvs zz16).toArray 62))
  have DC := Lib.hid (Ba.new wb 62 zz16)
  generalize wb.alloc _ = wc at GC DC ⊢
  obtain ⟨r0, hr0⟩ : ∃ r, r = w.heap.size := ⟨_, rfl⟩
  obtain ⟨r1, hr1⟩ : ∃ r, r = wa.heap.size := ⟨_, rfl⟩
  obtain ⟨r2, hr2⟩ : ∃ r, r = wb.heap.size := ⟨_, rfl⟩
  rw [← hr0] at DA ⊢
  rw [← hr1] at DB ⊢
  rw [← hr2] at DC ⊢
  have HR0 := Lib.hid (show w.heap.size ≤ r0 ∧ r0 < r1 ∧ r1 < r2 ∧ w.heap.size ≤ wa.heap.size ∧ wa.heap.size ≤ wb.heap.size by have := SA.out; have := SB.out; omega)
  have GW := Lib.hid (show Grown w wc.drew from Grown.trans (Grown.trans (Grown.trans GA.out GB.out) GC.out) (show Grown wc wc.drew from (Below.refl _ wc).drew))
  have DA2 := Lib.hid (show wc.drew.heap[r0]? = some (.cells #[.pointer (some ⟨Z', 0, none⟩), .string S] 125 (0, 0)) from (GC.out.block r0 (by have := HR0.out; omega)).trans ((GB.out.block r0 (by have := HR0.out; omega)).trans DA.out))
  have DB2 := Lib.hid (show Ba wc.drew r1 62 b from (show Ba wc r1 62 b from DB.out.grow GC.out))
  have DC2 := Lib.hid (show Ba wc.drew r2 62 zz16 from DC.out)
  clear hr0 hr1 hr2 GA DA SA GB DB SB GC DC hz
  have S0 := Lib.hid (show wc.drew.cell? ⟨r0, 0, none⟩ = some (.pointer (some ⟨Z', 0, none⟩)) ∧ wc.drew.cell? ⟨r0, 1, none⟩ = some (.string S) from ⟨cell_of_row _ r0 0 _ _ (0, 0) DA2.out, cell_of_row _ r0 1 _ _ (0, 0) DA2.out⟩)
  have hsl := fun V : World => cut16 V r1
  refine restS_begin (fun v : World => v.cell? ⟨r0, 0, none⟩ = some (.pointer (some ⟨Z', 0, none⟩)) ∧ v.cell? ⟨r0, 1, none⟩ = some (.string S)) (by kernel_rfl) ?_
  generalize wc.drew = w1 at GW DA2 DB2 DC2 S0 ⊢
  refine restS_take (i := 0) S0.out rfl (by kernel_rfl) (by kernel_rfl) (by kernel_rfl) (by rfl) (fun v hv => by obtain ⟨v1, v2⟩ := hv; go_simp; try with_reducible rfl) ?_
  try simp only [Act.put, List.setIfInBounds_toArray, List.set_cons_zero, List.set_cons_succ]
  refine restS_take (i := 1) S0.out rfl (by kernel_rfl) (by kernel_rfl) (by kernel_rfl) (by rfl) (fun v hv => by obtain ⟨v1, v2⟩ := hv; go_simp; try with_reducible rfl) ?_
  try simp only [Act.put, List.setIfInBounds_toArray, List.set_cons_zero, List.set_cons_succ]
  refine restS_take (i := 2) S0.out rfl (by kernel_rfl) (by kernel_rfl) (by kernel_rfl) (by rfl) (fun v hv => by obtain ⟨v1, v2⟩ := hv; go_simp; try with_reducible rfl) ?_
  try simp only [Act.put, List.setIfInBounds_toArray, List.set_cons_zero, List.set_cons_succ]
  refine restS_take (i := 3) S0.out rfl (by kernel_rfl) (by kernel_rfl) (by kernel_rfl) (by rfl) (fun v hv => by obtain ⟨v1, v2⟩ := hv; go_simp; try with_reducible rfl) ?_
  try simp only [Act.put, List.setIfInBounds_toArray, List.set_cons_zero, List.set_cons_succ]
  refine restS_take (i := 4) S0.out rfl (by kernel_rfl) (by kernel_rfl) (by kernel_rfl) (by rfl) (fun v hv => by obtain ⟨v1, v2⟩ := hv; go_simp; try with_reducible rfl) ?_
  try simp only [Act.put, List.setIfInBounds_toArray, List.set_cons_zero, List.set_cons_succ]
  refine restS_lone (i := 5) rfl (by kernel_rfl) (by rfl) (fun K hK => ?_)
  go_simp
  have hoff : ∀ k, FZ k → k < w.heap.size := lz_foot w Z' FZ st HZ.out
  have HOF := Lib.hid hoff
  clear hoff
  rw [HS.out]
  refine (tapeOk.forw w1 Z' FZ st Q (some ⟨r1, 0, none⟩) 16 16 b (tapeOk.grow HZ.out GW.out) HFew.out HQ.out (by omega) HB.out (by omega) DB2.out.rd (fun x hx hb hf => by
    simp only [Option.some.injEq] at hx
    subst hx
    have h1 := HOF.out _ hf
    have h2 := HR0.out
    simp only at h1
    omega)).mono ?_
  intro e w2 hO
  rw [HE.out] at hO
  obtain ⟨A3, n3, c3, F', rfl, hl3, hc3, hr3, hoff, hL2, hF2, hC2⟩ := hO
  obtain rfl : n3 = 16 := by rw [← hl3]; exact HD.out
  obtain ⟨b3, o3, rfl, hb3, hrg⟩ := range_of_rd hr3 (by intro e0; rw [e0] at hl3; simp at hl3)
  have HL1 := Lib.hid DC2.out.lt
  have HL0 := Lib.hid (lt_of_heap DA2.out)
  have B2 := Lib.hid (DC2.out.ch hC2 (fun h => by have := HOF.out _ h; have := HR0.out; omega))
  have A2 := Lib.hid ((hC2.block r0 HL0.out (fun h => by have := HOF.out _ h; have := HR0.out; omega)).trans DA2.out)
  have S2 := Lib.hid (show (w2.cell? ⟨r0, 0, none⟩ = some (.pointer (some ⟨Z', 0, none⟩)) ∧ w2.cell? ⟨r0, 1, none⟩ = some (.string S)) ∧ w2.rangeAt b3 o3 (bvs R.1) from ⟨⟨cell_of_row _ r0 0 _ _ (0, 0) A2.out, cell_of_row _ r0 1 _ _ (0, 0) A2.out⟩, hrg⟩)
  have L2 := Lib.hid hL2
  have F2 := Lib.hid hF2
  have C2 := Lib.hid hC2
  have HB3 := Lib.hid (show w1.heap.size ≤ b3 from (hoff _ rfl (by intro e0; rw [e0] at hl3; simp at hl3)).1)
  clear hl3 hc3 hr3 hoff hL2 hF2 hC2 hb3 hrg DA2 DB2 DC2 S0
  refine hK.out _ _ S2.out.1 ?_
  clear hK K
  try simp only [Act.put, List.setIfInBounds_toArray, List.set_cons_zero, List.set_cons_succ]
  refine restS_more (S' := fun v : World => (v.cell? ⟨r0, 0, none⟩ = some (.pointer (some ⟨Z', 0, none⟩)) ∧ v.cell? ⟨r0, 1, none⟩ = some (.string S)) ∧ v.rangeAt b3 o3 (bvs R.1)) (fun _ h => h.1) ?_
  have harr := fun V : World => run_arr V 62 5 16 (some ⟨b3, o3, none⟩) 16 c3 u16c (Nat.le_refl _)
  refine restS_take (i := 6) S2.out rfl (by kernel_rfl) (by kernel_rfl) (by kernel_rfl) (by rfl) (fun v hv => by obtain ⟨⟨v1, v3⟩, v2⟩ := hv; go_simp; try with_reducible rfl) ?_
  try simp only [Act.put, List.setIfInBounds_toArray, List.set_cons_zero, List.set_cons_succ]
  refine restS_rng (i := 7) S2.out rfl (by kernel_rfl) (by kernel_rfl) (by kernel_rfl) (by rfl) 62 (.tmp 11) rfl b3 o3 rfl (bvs R.1) _ (fun v hv => hv.2) u16c rfl (by rw [bvs_length, HD.out]; exact i16c) ?_
  try simp only [Act.put, List.setIfInBounds_toArray, List.set_cons_zero, List.set_cons_succ]
  refine restS_lone (i := 8) rfl (by kernel_rfl) (by rfl) (fun K hK => ?_)
  refine wp_store_ba i16c (.tmp 4) (.tmp 12) rfl rfl (by rfl) B2.out rfl HD.out ?_
  have O3 := fun k (hk : k ≠ r2) => setRow_other (w := w2) (g := r2) (cs := (bvs R.1).toArray) hk
  have h0 := HR0.out
  have S3 : ((w2.setRow r2 (bvs R.1).toArray).cell? ⟨r0, 0, none⟩ = some (.pointer (some ⟨Z', 0, none⟩)) ∧ (w2.setRow r2 (bvs R.1).toArray).cell? ⟨r0, 1, none⟩ = some (.string S)) ∧ (w2.setRow r2 (bvs R.1).toArray).rangeAt b3 o3 (bvs R.1) :=
    ⟨⟨(World.cell?_of_block (a := ⟨r0, 0, none⟩) (O3 r0 (by omega))).trans S2.out.1.1, (World.cell?_of_block (a := ⟨r0, 1, none⟩) (O3 r0 (by omega))).trans S2.out.1.2⟩, fun j v hv => (World.cell?_of_block (a := ⟨b3, o3 + j, none⟩) (O3 b3 (by have := HB3.out; have := HL1.out; omega))).trans (S2.out.2 j v hv)⟩
  refine hK.out _ _ S3 ?_
  clear hK K S3 h0
  try simp only [Act.put, List.setIfInBounds_toArray, List.set_cons_zero, List.set_cons_succ]
  refine restS_done (by kernel_rfl) ?_
  have B3 := Lib.hid (B2.out.row R.1)
  have ON := Lib.hid (src_fin (w1 := w1) (w2 := w2) (w3 := w2.setRow r2 (bvs R.1).toArray) HZ1.out HH.out HnF.out HF.out HOF.out GW.out L2.out F2.out C2.out r2 (by have := HR0.out; omega) HL1.out O3 (Go.setRow_size _ _ _) (setRow_rest _ _ _))
  generalize w2.setRow r2 _ = w3 at B3 ON ⊢
  clear O3 S2 B2 L2 F2 C2
  go_wp2_with fail
  exact retRow rfl _ rfl B3.out u16c rfl (by rw [i16c]; simp [bvs_length, HD.out]) ⟨rfl, ON.out⟩
set_option maxHeartbeats 4000000 in
set_option maxRecDepth 20000 in
theorem lbd_any {w : World} {H Z : Nat} {F : Nat → Prop} {st : St} {i : Nat} {key b : List UInt8} (hS : Src w H F st) (hZe : H = Z + 1) (hN : Nm st i) (hi : i ≤ 200) (hk : key.length = 32) (hb : b.length = 16) :
    Calls Tryz.prog 148 #[.agg #[.pointer (some ⟨Z, 0, none⟩), .string ⟨(blockQ key).toArray⟩], .agg (bvs b).toArray] w fun e w' => e = .returned (.agg (bvs (idealM.dec st key b).1).toArray) ∧ Onw Src w H F (idealM.dec st key b).2 w' := by
  obtain ⟨Z', FZ, hZ1, hH, hZ, hnF, hF⟩ := hS
  obtain rfl : Z' = Z := by omega
  have HZ1 := Lib.hid hZ1
  have HH := Lib.hid hH
  have HZ := Lib.hid hZ
  have HnF := Lib.hid hnF
  have HF := Lib.hid hF
  have HFew := Lib.hid (few_nm hN hi)
  have HB := Lib.hid hb
  have HD := Lib.hid (show (idealM.dec st key b).1.length = 16 by rw [show (idealM.dec st key b).1.length = b.length from pr_len hN.2.2.2 _ _ _ (by have := hN.2.1.2.1; have := hN.1; omega)]; exact hb)
  have HE := Lib.hid (show prOp st (blockQ key) b false = idealM.dec st key b from rfl)
  obtain ⟨Q, hQ⟩ : ∃ Q, Q = blockQ key := ⟨_, rfl⟩
  have HQ := Lib.hid (show Q.length ≤ 1000 by rw [hQ]; unfold blockQ; simp; omega)
  rw [← hQ] at HE ⊢
  clear hZ1 hZe hH hZ hnF hF hN hk hb hQ
  obtain ⟨R, hR⟩ : ∃ R, R = idealM.dec st key b := ⟨_, rfl⟩
  rw [← hR] at HD HE ⊢
  clear hR
  have hz : ∀ V : World, (zeroValue 62).run Tryz.prog V = .ok (.agg (bvs zz16).toArray) V := fun V => zq16 V
  obtain ⟨S, hS⟩ : ∃ S : ByteArray, S = ⟨Q.toArray⟩ := ⟨_, rfl⟩
  have HS := Lib.hid hS
  rw [← hS]
  clear hS
  go_enter Tryz.func148, Tryz.ntmps148
  go_wp2_with fail
  have GA := Lib.hid (alloc_below w (.cells #[.pointer (some ⟨Z', 0, none⟩), .string S] 125))
  have DA := Lib.hid (heap_alloc_new w (.cells #[.pointer (some ⟨Z', 0, none⟩), .string S] 125))
  have SA := Lib.hid (show (w.alloc (.cells #[.pointer (some ⟨Z', 0, none⟩), .string S] 125)).heap.size = w.heap.size + 1 by simp)
  generalize w.alloc _ = wa at GA DA SA ⊢
  rw [← SA.out]
  have GB := Lib.hid (alloc_below wa (.cells (bvs b).toArray 62))
  have DB := Lib.hid (Ba.new wa 62 b)
  have SB := Lib.hid (show (wa.alloc (.cells (bvs b).toArray 62)).heap.size = wa.heap.size + 1 by simp)
  generalize wa.alloc _ = wb at GB DB SB ⊢
  have e2 : w.heap.size + 2 = wb.heap.size := by have := SA.out; have := SB.out; omega
  try rw [e2]
  try rw [← SB.out]
  clear e2
  have GC := Lib.hid (alloc_below wb (.cells (bvs zz16).toArray 62))
  have DC := Lib.hid (Ba.new wb 62 zz16)
  generalize wb.alloc _ = wc at GC DC ⊢
  obtain ⟨r0, hr0⟩ : ∃ r, r = w.heap.size := ⟨_, rfl⟩
  obtain ⟨r1, hr1⟩ : ∃ r, r = wa.heap.size := ⟨_, rfl⟩
  obtain ⟨r2, hr2⟩ : ∃ r, r = wb.heap.size := ⟨_, rfl⟩
  rw [← hr0] at DA ⊢
  rw [← hr1] at DB ⊢
  rw [← hr2] at DC ⊢
  have HR0 := Lib.hid (show w.heap.size ≤ r0 ∧ r0 < r1 ∧ r1 < r2 ∧ w.heap.size ≤ wa.heap.size ∧ wa.heap.size ≤ wb.heap.size by have := SA.out; have := SB.out; omega)
  have GW := Lib.hid (show Grown w wc.drew from Grown.trans (Grown.trans (Grown.trans GA.out GB.out) GC.out) (show Grown wc wc.drew from (Below.refl _ wc).drew))
  have DA2 := Lib.hid (show wc.drew.heap[r0]? = some (.cells #[.pointer (some ⟨Z', 0, none⟩), .string S] 125 (0, 0)) from (GC.out.block r0 (by have := HR0.out; omega)).trans ((GB.out.block r0 (by have := HR0.out; omega)).trans DA.out))
  have DB2 := Lib.hid (show Ba wc.drew r1 62 b from (show Ba wc r1 62 b from DB.out.grow GC.out))
  have DC2 := Lib.hid (show Ba wc.drew r2 62 zz16 from DC.out)
  clear hr0 hr1 hr2 GA DA SA GB DB SB GC DC hz
  have S0 := Lib.hid (show wc.drew.cell? ⟨r0, 0, none⟩ = some (.pointer (some ⟨Z', 0, none⟩)) ∧ wc.drew.cell? ⟨r0, 1, none⟩ = some (.string S) from ⟨cell_of_row _ r0 0 _ _ (0, 0) DA2.out, cell_of_row _ r0 1 _ _ (0, 0) DA2.out⟩)
  have hsl := fun V : World => cut16 V r1
  refine restS_begin (fun v : World => v.cell? ⟨r0, 0, none⟩ = some (.pointer (some ⟨Z', 0, none⟩)) ∧ v.cell? ⟨r0, 1, none⟩ = some (.string S)) (by kernel_rfl) ?_
  generalize wc.drew = w1 at GW DA2 DB2 DC2 S0 ⊢
  refine restS_take (i := 0) S0.out rfl (by kernel_rfl) (by kernel_rfl) (by kernel_rfl) (by rfl) (fun v hv => by obtain ⟨v1, v2⟩ := hv; go_simp; try with_reducible rfl) ?_
  try simp only [Act.put, List.setIfInBounds_toArray, List.set_cons_zero, List.set_cons_succ]
  refine restS_take (i := 1) S0.out rfl (by kernel_rfl) (by kernel_rfl) (by kernel_rfl) (by rfl) (fun v hv => by obtain ⟨v1, v2⟩ := hv; go_simp; try with_reducible rfl) ?_
  try simp only [Act.put, List.setIfInBounds_toArray, List.set_cons_zero, List.set_cons_succ]
  refine restS_take (i := 2) S0.out rfl (by kernel_rfl) (by kernel_rfl) (by kernel_rfl) (by rfl) (fun v hv => by obtain ⟨v1, v2⟩ := hv; go_simp; try with_reducible rfl) ?_
  try simp only [Act.put, List.setIfInBounds_toArray, List.set_cons_zero, List.set_cons_succ]
  refine restS_take (i := 3) S0.out rfl (by kernel_rfl) (by kernel_rfl) (by kernel_rfl) (by rfl) (fun v hv => by obtain ⟨v1, v2⟩ := hv; go_simp; try with_reducible rfl) ?_
  try simp only [Act.put, List.setIfInBounds_toArray, List.set_cons_zero, List.set_cons_succ]
  refine restS_take (i := 4) S0.out rfl (by kernel_rfl) (by kernel_rfl) (by kernel_rfl) (by rfl) (fun v hv => by obtain ⟨v1, v2⟩ := hv; go_simp; try with_reducible rfl) ?_
  try simp only [Act.put, List.setIfInBounds_toArray, List.set_cons_zero, List.set_cons_succ]
  refine restS_lone (i := 5) rfl (by kernel_rfl) (by rfl) (fun K hK => ?_)
  go_simp
  have hoff : ∀ k, FZ k → k < w.heap.size := lz_foot w Z' FZ st HZ.out
  have HOF := Lib.hid hoff
  clear hoff
  rw [HS.out]
  refine (tapeOk.back w1 Z' FZ st Q (some ⟨r1, 0, none⟩) 16 16 b (tapeOk.grow HZ.out GW.out) HFew.out HQ.out (by omega) HB.out (by omega) DB2.out.rd (fun x hx hb hf => by
    simp only [Option.some.injEq] at hx
    subst hx
    have h1 := HOF.out _ hf
    have h2 := HR0.out
    simp only at h1
    omega)).mono ?_
  intro e w2 hO
  rw [HE.out] at hO
  obtain ⟨A3, n3, c3, F', rfl, hl3, hc3, hr3, hoff, hL2, hF2, hC2⟩ := hO
  obtain rfl : n3 = 16 := by rw [← hl3]; exact HD.out
  obtain ⟨b3, o3, rfl, hb3, hrg⟩ := range_of_rd hr3 (by intro e0; rw [e0] at hl3; simp at hl3)
  have HL1 := Lib.hid DC2.out.lt
  have HL0 := Lib.hid (lt_of_heap DA2.out)
  have B2 := Lib.hid (DC2.out.ch hC2 (fun h => by have := HOF.out _ h; have := HR0.out; omega))
  have A2 := Lib.hid ((hC2.block r0 HL0.out (fun h => by have := HOF.out _ h; have := HR0.out; omega)).trans DA2.out)
  have S2 := Lib.hid (show (w2.cell? ⟨r0, 0, none⟩ = some (.pointer (some ⟨Z', 0, none⟩)) ∧ w2.cell? ⟨r0, 1, none⟩ = some (.string S)) ∧ w2.rangeAt b3 o3 (bvs R.1) from ⟨⟨cell_of_row _ r0 0 _ _ (0, 0) A2.out, cell_of_row _ r0 1 _ _ (0, 0) A2.out⟩, hrg⟩)
  have L2 := Lib.hid hL2
  have F2 := Lib.hid hF2
  have C2 := Lib.hid hC2
  have HB3 := Lib.hid (show w1.heap.size ≤ b3 from (hoff _ rfl (by intro e0; rw [e0] at hl3; simp at hl3)).1)
  clear hl3 hc3 hr3 hoff hL2 hF2 hC2 hb3 hrg DA2 DB2 DC2 S0
  refine hK.out _ _ S2.out.1 ?_
  clear hK K
  try simp only [Act.put, List.setIfInBounds_toArray, List.set_cons_zero, List.set_cons_succ]
  refine restS_more (S' := fun v : World => (v.cell? ⟨r0, 0, none⟩ = some (.pointer (some ⟨Z', 0, none⟩)) ∧ v.cell? ⟨r0, 1, none⟩ = some (.string S)) ∧ v.rangeAt b3 o3 (bvs R.1)) (fun _ h => h.1) ?_
  have harr := fun V : World => run_arr V 62 5 16 (some ⟨b3, o3, none⟩) 16 c3 u16c (Nat.le_refl _)
  refine restS_take (i := 6) S2.out rfl (by kernel_rfl) (by kernel_rfl) (by kernel_rfl) (by rfl) (fun v hv => by obtain ⟨⟨v1, v3⟩, v2⟩ := hv; go_simp; try with_reducible rfl) ?_
  try simp only [Act.put, List.setIfInBounds_toArray, List.set_cons_zero, List.set_cons_succ]
  refine restS_rng (i := 7) S2.out rfl (by kernel_rfl) (by kernel_rfl) (by kernel_rfl) (by rfl) 62 (.tmp 11) rfl b3 o3 rfl (bvs R.1) _ (fun v hv => hv.2) u16c rfl (by rw [bvs_length, HD.out]; exact i16c) ?_
  try simp only [Act.put, List.setIfInBounds_toArray, List.set_cons_zero, List.set_cons_succ]
  refine restS_lone (i := 8) rfl (by kernel_rfl) (by rfl) (fun K hK => ?_)
  refine wp_store_ba i16c (.tmp 4) (.tmp 12) rfl rfl (by rfl) B2.out rfl HD.out ?_
  have O3 := fun k (hk : k ≠ r2) => setRow_other (w := w2) (g := r2) (cs := (bvs R.1).toArray) hk
  have h0 := HR0.out
  have S3 : ((w2.setRow r2 (bvs R.1).toArray).cell? ⟨r0, 0, none⟩ = some (.pointer (some ⟨Z', 0, none⟩)) ∧ (w2.setRow r2 (bvs R.1).toArray).cell? ⟨r0, 1, none⟩ = some (.string S)) ∧ (w2.setRow r2 (bvs R.1).toArray).rangeAt b3 o3 (bvs R.1) :=
    ⟨⟨(World.cell?_of_block (a := ⟨r0, 0, none⟩) (O3 r0 (by omega))).trans S2.out.1.1, (World.cell?_of_block (a := ⟨r0, 1, none⟩) (O3 r0 (by omega))).trans S2.out.1.2⟩, fun j v hv => (World.cell?_of_block (a := ⟨b3, o3 + j, none⟩) (O3 b3 (by have := HB3.out; have := HL1.out; omega))).trans (S2.out.2 j v hv)⟩
  refine hK.out _ _ S3 ?_
  clear hK K S3 h0
  try simp only [Act.put, List.setIfInBounds_toArray, List.set_cons_zero, List.set_cons_succ]
  refine restS_done (by kernel_rfl) ?_
  have B3 := Lib.hid (B2.out.row R.1)
  have ON := Lib.hid (src_fin (w1 := w1) (w2 := w2) (w3 := w2.setRow r2 (bvs R.1).toArray) HZ1.out HH.out HnF.out HF.out HOF.out GW.out L2.out F2.out C2.out r2 (by have := HR0.out; omega) HL1.out O3 (Go.setRow_size _ _ _) (setRow_rest _ _ _))
  generalize w2.setRow r2 _ = w3 at B3 ON ⊢
  clear O3 S2 B2 L2 F2 C2
  go_wp2_with fail
  exact retRow rfl _ rfl B3.out u16c rfl (by rw [i16c]; simp [bvs_length, HD.out]) ⟨rfl, ON.out⟩
theorem bad_src {w : World} {H : Nat} {F : Nat → Prop} {st : St} (hS : Src w H F st) : Calls Tryz.prog 63 #[.pointer (some ⟨H, 0, none⟩)] w fun e w' => e = .returned (.bool st.bad) ∧ Grown w w' := by
  obtain ⟨Z, FZ, hZ1, hH, hZ, hnF, hF⟩ := hS
  have HZ := Lib.hid hZ
  have s0 : w.cell? ⟨H, 0, none⟩ = some (.pointer (some ⟨Z, 0, none⟩)) := cell_of_row _ H 0 _ _ (0, 0) hH
  clear hZ1 hH hZ hnF hF
  go_enter Tryz.func63, Tryz.ntmps63
  go_wp2_with fail
  refine (tapeOk.bad w Z FZ st HZ.out).mono ?_
  rintro e w1 ⟨rfl, hg⟩
  have G1 := Lib.hid hg
  clear hg
  go_wp2
  go_ret
  exact ⟨rfl, G1.out⟩
theorem queries_src {w : World} {H : Nat} {F : Nat → Prop} {st : St} (hS : Src w H F st) : Calls Tryz.prog 68 #[.pointer (some ⟨H, 0, none⟩)] w fun e w' => e = .returned (.int .i64 (st.cnt : Int)) ∧ Grown w w' := by
  obtain ⟨Z, FZ, hZ1, hH, hZ, hnF, hF⟩ := hS
  have HZ := Lib.hid hZ
  have s0 : w.cell? ⟨H, 0, none⟩ = some (.pointer (some ⟨Z, 0, none⟩)) := cell_of_row _ H 0 _ _ (0, 0) hH
  obtain ⟨k, hk⟩ : ∃ k : Nat, k = st.cnt := ⟨_, rfl⟩
  have HK := Lib.hid hk
  rw [← hk]
  clear hZ1 hH hZ hnF hF hk
  go_enter Tryz.func68, Tryz.ntmps68
  go_wp2_with fail
  refine (tapeOk.count w Z FZ st HZ.out).mono ?_
  rw [← HK.out]
  rintro e w1 ⟨rfl, hg⟩
  have G1 := Lib.hid hg
  clear hg
  go_wp2
  go_ret
  exact ⟨rfl, G1.out⟩
set_option maxHeartbeats 4000000 in
theorem block_src {w : World} {H : Nat} {F : Nat → Prop} {st : St} {A1 : Option Addr} {n1 c1 : Nat} {key : List UInt8} (hS : Src w H F st) (h1 : Bes w F A1 n1 c1 key) (h2 : n1 = 32) :
    Calls Tryz.prog 64 #[.pointer (some ⟨H, 0, none⟩), .slice A1 n1 c1] w fun e w' => ∃ Z, H = Z + 1 ∧ e = .returned (.tuple #[.iface 125 (.agg #[.pointer (some ⟨Z, 0, none⟩), .string ⟨(blockQ key).toArray⟩]), .int .i64 0]) ∧ Grown w w' := by
  subst h2
  obtain ⟨Z, FZ, hZ1, hH, hZ, hnF, hF⟩ := hS
  have HZ1 := Lib.hid hZ1
  have H1 := Lib.hid h1.1
  have HN1 := Lib.hid h1.2.1
  have s0 : w.drew.cell? ⟨H, 0, none⟩ = some (.pointer (some ⟨Z, 0, none⟩)) := cell_of_row w H 0 _ _ (0, 0) hH
  obtain ⟨T1, hT1⟩ : ∃ T : ByteArray, T = ⟨key.toArray⟩ := ⟨_, rfl⟩
  have HT1 := Lib.hid hT1
  have hcv : (convert 22 9 (.slice A1 32 c1)).run Tryz.prog w.drew = .ok (.string T1) w.drew := by
    have e1 := conv (H1.out.grow (show Grown w w.drew from (Below.refl _ w).drew)) c1
    rw [HN1.out] at e1
    rw [HT1.out]; exact e1
  obtain ⟨M1, hM1⟩ : ∃ M : ByteArray, M = ⟨(blockQ key).toArray⟩ := ⟨_, rfl⟩
  have ha1 : ∀ V : World, (Op.stringOp .add ⟨#[98, 108, 111, 99, 107]⟩ T1).run Tryz.prog V = .ok (.string M1) V := fun V => by rw [HT1.out, hM1]; exact addQ [98, 108, 111, 99, 107] _ (by rw [HN1.out]; simp) V
  have HM1 := Lib.hid hM1
  have S0 := Lib.hid (And.intro s0 hcv)
  have G0 := Lib.hid (show Grown w w.drew from (Below.refl _ w).drew)
  rw [← hM1]
  clear hZ1 hH hZ hnF hF hT1 hM1 s0 hcv h1
  go_enter Tryz.func64, Tryz.ntmps64
  go_wp2_with fail
  refine restS_begin (fun v : World => v.cell? ⟨H, 0, none⟩ = some (.pointer (some ⟨Z, 0, none⟩)) ∧ (convert 22 9 (.slice A1 32 c1)).run Tryz.prog v = .ok (.string T1) v) (by kernel_rfl) ?_
  generalize w.drew = w0 at G0 S0 ⊢
  refine restS_take (i := 0) S0.out rfl (by kernel_rfl) (by kernel_rfl) (by kernel_rfl) (by rfl) (fun v hv => by obtain ⟨v1, v2⟩ := hv; go_simp; try with_reducible rfl) ?_
  try simp only [Act.put, List.setIfInBounds_toArray, List.set_cons_zero, List.set_cons_succ]
  refine restS_take (i := 1) S0.out rfl (by kernel_rfl) (by kernel_rfl) (by kernel_rfl) (by rfl) (fun v hv => by obtain ⟨v1, v2⟩ := hv; go_simp; try with_reducible rfl) ?_
  try simp only [Act.put, List.setIfInBounds_toArray, List.set_cons_zero, List.set_cons_succ]
  refine restS_take (i := 2) S0.out rfl (by kernel_rfl) (by kernel_rfl) (by kernel_rfl) (by rfl) (fun v hv => by obtain ⟨v1, v2⟩ := hv; go_simp; try with_reducible rfl) ?_
  try simp only [Act.put, List.setIfInBounds_toArray, List.set_cons_zero, List.set_cons_succ]
  refine restS_take (i := 3) S0.out rfl (by kernel_rfl) (by kernel_rfl) (by kernel_rfl) (by rfl) (fun v hv => by obtain ⟨v1, v2⟩ := hv; go_simp; try with_reducible rfl) ?_
  try simp only [Act.put, List.setIfInBounds_toArray, List.set_cons_zero, List.set_cons_succ]
  refine restS_take (i := 4) S0.out rfl (by kernel_rfl) (by kernel_rfl) (by kernel_rfl) (by rfl) (fun v hv => by obtain ⟨v1, v2⟩ := hv; go_simp; try with_reducible rfl) ?_
  try simp only [Act.put, List.setIfInBounds_toArray, List.set_cons_zero, List.set_cons_succ]
  refine restS_take (i := 5) S0.out rfl (by kernel_rfl) (by kernel_rfl) (by kernel_rfl) (by rfl) (fun v hv => by obtain ⟨v1, v2⟩ := hv; go_simp; try with_reducible rfl) ?_
  try simp only [Act.put, List.setIfInBounds_toArray, List.set_cons_zero, List.set_cons_succ]
  refine restS_take (i := 6) S0.out rfl (by kernel_rfl) (by kernel_rfl) (by kernel_rfl) (by rfl) (fun v hv => by obtain ⟨v1, v2⟩ := hv; go_simp; try with_reducible rfl) ?_
  try simp only [Act.put, List.setIfInBounds_toArray, List.set_cons_zero, List.set_cons_succ]
  refine restS_take (i := 7) S0.out rfl (by kernel_rfl) (by kernel_rfl) (by kernel_rfl) (by rfl) (fun v hv => by obtain ⟨v1, v2⟩ := hv; go_simp; try with_reducible rfl) ?_
  try simp only [Act.put, List.setIfInBounds_toArray, List.set_cons_zero, List.set_cons_succ]
  refine restS_take (i := 8) S0.out rfl (by kernel_rfl) (by kernel_rfl) (by kernel_rfl) (by rfl) (fun v hv => by obtain ⟨v1, v2⟩ := hv; go_simp; try with_reducible rfl) ?_
  try simp only [Act.put, List.setIfInBounds_toArray, List.set_cons_zero, List.set_cons_succ]
  refine restS_take (i := 9) S0.out rfl (by kernel_rfl) (by kernel_rfl) (by kernel_rfl) (by rfl) (fun v hv => by obtain ⟨v1, v2⟩ := hv; go_simp; try with_reducible rfl) ?_
  try simp only [Act.put, List.setIfInBounds_toArray, List.set_cons_zero, List.set_cons_succ]
  refine restS_take (i := 10) S0.out rfl (by kernel_rfl) (by kernel_rfl) (by kernel_rfl) (by rfl) (fun v hv => by obtain ⟨v1, v2⟩ := hv; go_simp; try with_reducible rfl) ?_
  try simp only [Act.put, List.setIfInBounds_toArray, List.set_cons_zero, List.set_cons_succ]
  refine restS_done (by kernel_rfl) ?_
  go_wp2_with fail
  go_ret2
  exact ⟨Z, HZ1.out, rfl, G0.out⟩
theorem blockNo_src {w : World} {H : Nat} {A1 : Option Addr} {n1 c1 : Nat} (h2 : n1 ≠ 32) (h3 : n1 ≤ 2000) :
    Calls Tryz.prog 64 #[.pointer (some ⟨H, 0, none⟩), .slice A1 n1 c1] w fun e w' => e = .returned (.tuple #[.nilIface, .int .i64 2]) ∧ w' = w := by
  have b1 : ((n1 : Int) == 32) = false := by simp; omega
  have b2 : ¬ (n1 : Int) = 32 := by omega
  clear h2
  go_enter Tryz.func64, Tryz.ntmps64
  go_wp2
  go_ret2
  exact ⟨rfl, rfl⟩
end Go.Proofs.YtjklgmhaebjjaaaGreat.S12
