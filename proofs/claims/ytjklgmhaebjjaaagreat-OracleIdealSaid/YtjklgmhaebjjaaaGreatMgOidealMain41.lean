/-
  What the laws of oracle ask of Ideal and Real; law12's awake out of it. The program keeps all that is asked of its ideal oracle, and of what Real returns as long as nothing but Queries is asked.
-/
import Derived.Test.YtjklgmhaebjjaaaGreatMgOidealMain40
import Derived.Test.YtjklgmhaebjjaaaGreatMgOidealMain19
import Derived.Test.YtjklgmhaebjjaaaGreatMgOidealMain35
import Derived.Lib.SlBytesConst
namespace Go.Proofs.YtjklgmhaebjjaaaGreat.S12
open S11
open Go.RowKit
set_option linter.unusedVariables false
set_option linter.unusedSimpArgs false

/-- Tables of which nothing is told. -/
def emp0 (seed : List UInt8) : St := ⟨seed, [], [], false, 0⟩
/-- A call that makes an oracle in the state st. -/
def Made {M : Mod} (O : Ob M) (w : World) (st : M.σ) (e : Ending) (w' : World) : Prop := ∃ G F, e = .returned (.pointer (some ⟨G, 0, none⟩)) ∧ O w' G F st ∧ (∀ k, F k → w.heap.size ≤ k) ∧ Grown w w'
/-- T B w: whatever tables the program reads lie below B in w. -/
structure OracleOk (MR : Mod) (s0 : MR.σ) (T : Nat → World → Prop) (OI : Nat → Ob idealM) (OR : Nat → Ob MR) : Prop where
  tk : ∀ B w w', T B w → B ≤ w.heap.size → Grown w w' → T B w'
  pI : ∀ B, ProgOk idealM B (OI B)
  kR : ∀ B, Kept B (OR B)
  qR : ∀ B w G F st i, OR B w G F st → MR.num st i → i ≤ 200 → Calls Tryz.prog 10 #[.pointer (some ⟨G, 0, none⟩)] w fun e w' => e = .returned (.int .i64 (MR.cnt st : Int)) ∧ Grown w w'
  n0 : MR.num s0 0
  cR : ∀ st, MR.cnt st = 0
  bR : ∀ st, MR.bad st = false
  ideal : ∀ B w A n c seed, T B w → B ≤ w.heap.size → Rd w w.heap.size A seed → seed.length = n → n ≤ c → n ≤ 2000 → Calls Tryz.prog 6 #[.slice A n c] w (Made (OI B) w (emp0 seed))
  real : ∀ B w, T B w → B ≤ w.heap.size → Calls Tryz.prog 11 #[] w (Made (OR B) w s0)

theorem rd_blockW {w : World} {g B : Nat} {l : List UInt8} {fr : Nat × Nat} {t : TypeId} (h : w.heap[g]? = some (.cells (bvs l).toArray t fr)) (hB : g < B) : Rd w B (some ⟨g, 0, none⟩) l :=
  .inr ⟨g, 0, rfl, hB, fun j hj => by rw [Nat.zero_add, cell_of_row w g j _ t fr h]; simp [bvs, hj]⟩
def upto (n : Nat) : List UInt8 := (List.range n).map (fun i => UInt8.ofNat (i + 1))
theorem upto_len (n : Nat) : (upto n).length = n := by simp [upto]
theorem upto_succ (n : Nat) : upto n ++ [UInt8.ofNat (n + 1)] = upto (n + 1) := by simp [upto, List.range_succ]
def stA : St := (fnOp (emp0 (upto 64)) sealN (sealQ [107] [116]) 64).2
theorem exA : (fnOp (emp0 (upto 64)) sealN (sealQ [107] [116]) 64).1 = upto 64 := by decide +kernel
theorem exB : stA.cnt = 1 := by decide +kernel
theorem nm_emp (seed : List UInt8) : Nm (emp0 seed) 0 := ⟨by omega, ⟨Nat.le_refl _, Nat.le_refl _, Nat.le_refl _⟩, (show Ln [] from fun t ht => absurd ht (by simp)), S11.good_nil⟩

set_option maxHeartbeats 4000000 in
set_option maxRecDepth 20000 in
theorem awakeO {MR : Mod} {s0 : MR.σ} {T : Nat → World → Prop} {OI : Nat → Ob idealM} {OR : Nat → Ob MR} (K : OracleOk MR s0 T OI OR) (B : Nat) (w : World) (hT : T B w) (hB : B ≤ w.heap.size) :
    Calls Tryz.prog 5 #[] w fun e w' => e = .returned (.bool true) ∧ Grown w w' := by
  have HT := Lib.hid hT
  have HB := Lib.hid hB
  clear hT hB
  go_enter Tryz.func5, Tryz.ntmps5
  go_wp2
  go_loopw [1, 2] (fun v1 v2 wr => ∃ (i : Nat) (A1 : Option Addr) (c1 : Nat), v1 = .slice A1 i c1 ∧ v2 = .int .i64 ((i : Int) + 1) ∧ i ≤ 64 ∧ Hid (Own wr w.heap.size A1 c1 (upto i)) ∧ Hid (Grown w wr)) (fun _ v2 _ => 65 - (intOf v2).toNat)
  case atStart => exact ⟨0, none, 0, rfl, rfl, Nat.zero_le _, Own.nil _ _, Grown.refl _⟩
  case round =>
    obtain ⟨i, A1, c1, rfl, rfl, hi, HO, HG⟩ := hrel
    by_cases hlt : i < 64
    · have bi : ((i : Int) + 1) ≤ 64 := by omega
      have HW := Lib.hid (show IntKind.u8.wrap ((i : Int) + 1) = ((UInt8.ofNat (i + 1)).toNat : Int) by
        rw [UInt8.toNat_ofNat']
        have e : IntKind.u8.wrap ((i : Int) + 1) = ((i : Int) + 1) % 256 := rfl
        rw [e]
        omega)
      obtain ⟨x, hx⟩ : ∃ x, x = UInt8.ofNat (i + 1) := ⟨_, rfl⟩
      have HX := Lib.hid (show upto i ++ [x] = upto (i + 1) by rw [hx]; exact upto_succ i)
      have hw8 := HW.out
      rw [← hx] at hw8
      clear HW hx
      have HSz := Lib.hid HG.out.size
      go_wp2_with (first
        | (at_builtin
           refine wpList_app rfl (.tmp 9) (.tmp 12) rfl (base := w.heap.size) (l := upto i) (by rw [upto_len]; rfl) (HO.out.grow (alloc_below wr _)) (l2 := [x]) rfl ((Row.new wr [x]).rd (Nat.lt_succ_self _)) (by rw [upto_len]; simp; omega) (by have := HSz.out; simp; omega) (upto (i + 1)) HX.out ?_
           intro A9 c9 w9 ho9 hb9
           rw [upto_len]
           have O9 := Lib.hid ho9
           have B9 := Lib.hid (show Grown w w9 from Below.trans HG.out (show Below w.heap.size wr w9 from ((Below.refl _ _).alloc HSz.out _).trans hb9))
           clear ho9 hb9))
      go_roundw
      case rel => exact ⟨i + 1, A9, c9, rfl, by simp, by omega, O9.out, B9.out⟩
      case measure => simp [intOf]; omega
    · obtain rfl : i = 64 := by omega
      clear hlt hi
      have KI := Lib.hid (K.pI B)
      have KK := Lib.hid K
      have NA := Lib.hid (show Nm stA 1 from nm_seal (nm_emp (upto 64)) (by omega) _)
      have T1 := Lib.hid (K.tk B w wr HT.out HB.out HG.out)
      have TR := Lib.hid T1.out
      have HBr := Lib.hid (show B ≤ wr.heap.size from Nat.le_trans HB.out HG.out.size)
      have R1 := Lib.hid (show Rd wr wr.heap.size A1 (upto 64) from HO.out.rd)
      have HC := Lib.hid (show 64 ≤ c1 from by have := HO.out.le; rwa [upto_len] at this)
      go_wp2_with fail
      refine (K.ideal B wr A1 64 c1 (upto 64) T1.out HBr.out R1.out (upto_len 64) HC.out (by omega)).mono ?_
      rintro e w1 ⟨G, F, rfl, hO, hF, hg⟩
      have T2 := Lib.hid (K.tk B wr w1 T1.out HBr.out hg)
      have HO1 := Lib.hid hO
      have HF1 := Lib.hid hF
      have R2 := Lib.hid (show Rd w1 wr.heap.size A1 (upto 64) from R1.out.below hg)
      have HB1 := Lib.hid (show B ≤ w1.heap.size from Nat.le_trans HBr.out hg.size)
      have G1 := Lib.hid (Grown.trans HG.out hg)
      have HW1 := Lib.hid hg.size
      have GR1 := Lib.hid hg
      clear hO hF hg HO T1 R1
      go_wp2_with fail
      refine (K.real B w1 T2.out HB1.out).mono ?_
      rintro e w2 ⟨G2, F2, rfl, hO, hF, hg⟩
      have T3 := Lib.hid (K.tk B w1 w2 T2.out HB1.out hg)
      have HO2 := Lib.hid ((K.pI B).toKept.grow HO1.out HB1.out hg)
      have R3 := Lib.hid (R2.out.below (Below.mono hg HW1.out))
      have HB2 := Lib.hid (show B ≤ w2.heap.size from Nat.le_trans HB1.out hg.size)
      have G2' := Lib.hid (Grown.trans G1.out hg)
      have G21 := Lib.hid hg
      have GR2 := Lib.hid (Grown.trans GR1.out hg)
      have HL2 := Lib.hid (show ∀ k, F k → k < w2.heap.size from fun k hk => Nat.lt_of_lt_of_le ((K.pI B).toKept.foot w1 G F _ HO1.out k hk) hg.size)
      clear hO hF hg HO1 T2 R2 G1 GR1
      have kc := fun (W : World) (C : Array Value) (n c : Nat) => Lib.run_convert_bytes_const (P := Tryz.prog) W 22 5 C n c Tryz.underlying22 Tryz.underlying5
      have kc1 : ∀ (W : World) (o : Obj) (C : Array Value) (n c : Nat), (convert 22 22 (.slice (some ⟨W.heap.size + 1, 0, none⟩) n c)).run Tryz.prog ((W.alloc o).alloc (.cells C 5)) = .ok (.slice (some ⟨W.heap.size + 1, 0, none⟩) n c) ((W.alloc o).alloc (.cells C 5 (C.size, C.size + 1))) := fun W o C n c => by
        have := kc (W.alloc o) C n c
        rwa [show (W.alloc o).heap.size = W.heap.size + 1 by simp] at this
      obtain ⟨Z64, hZ64⟩ : ∃ Z, Z = (bvs z64).toArray := ⟨_, rfl⟩
      have HZ64 := Lib.hid hZ64
      have hv64 : ∀ V : World, (zeroValue 43).run Tryz.prog V = .ok (.agg Z64) V := fun V => by rw [hZ64]; exact zv64 V
      have hz64s : Z64.size = 64 := by rw [hZ64]; rfl
      clear hZ64
      have HW2 := Lib.hid (show wr.heap.size ≤ w2.heap.size from Nat.le_trans HW1.out G21.out.size)
      go_wp2_with fail
      clear kc kc1
      rw [show #[Value.int .u8 107] = (bvs [107]).toArray from rfl, show #[Value.int .u8 116] = (bvs [116]).toArray from rfl]
      have gA := Lib.hid (alloc_below w2 (.cells (bvs [107]).toArray 5 (1, 2)))
      have dA := Lib.hid (heap_alloc_new w2 (.cells (bvs [107]).toArray 5 (1, 2)))
      have sA := Lib.hid (show (w2.alloc (.cells (bvs [107]).toArray 5 (1, 2))).heap.size = w2.heap.size + 1 by simp)
      rw [← sA.out]
      generalize w2.alloc _ = va at gA dA sA ⊢
      have gB := Lib.hid (alloc_below va (.cells (bvs [116]).toArray 5 (1, 2)))
      have dB := Lib.hid (heap_alloc_new va (.cells (bvs [116]).toArray 5 (1, 2)))
      have sB := Lib.hid (show (va.alloc (.cells (bvs [116]).toArray 5 (1, 2))).heap.size = va.heap.size + 1 by simp)
      rw [← sB.out]
      generalize va.alloc _ = vb at gB dB sB ⊢
      have g2b := Lib.hid (show Grown w2 vb from Grown.trans gA.out gB.out)
      have HO3 := Lib.hid (KI.out.toKept.grow HO2.out HB2.out g2b.out)
      have hka : Rd vb vb.heap.size (some ⟨w2.heap.size, 0, none⟩) [107] := rd_blockW ((gB.out.block w2.heap.size (by have := sA.out; omega)).trans dA.out) (by have h1 := sA.out; have h2 := sB.out; omega)
      have hkb : Rd vb vb.heap.size (some ⟨va.heap.size, 0, none⟩) [116] := rd_blockW dB.out (by have h2 := sB.out; omega)
      have Ba' := Lib.hid (show Bes vb F (some ⟨w2.heap.size, 0, none⟩) 1 1 [107] from ⟨hka, rfl, Nat.le_refl _, fun x hx _ hf => by simp only [Option.some.injEq] at hx; subst hx; have := HL2.out _ hf; simp at this⟩)
      have Bb' := Lib.hid (show Bes vb F (some ⟨va.heap.size, 0, none⟩) 1 1 [116] from ⟨hkb, rfl, Nat.le_refl _, fun x hx _ hf => by simp only [Option.some.injEq] at hx; subst hx; have := HL2.out _ hf; have := sA.out; simp at *; omega⟩)
      clear hka hkb
      have BL := Lib.hid (besL_one KI.out.toKept HO3.out Bb'.out)
      have gC := Lib.hid (alloc_below vb (.cells #[.slice (some ⟨va.heap.size, 0, none⟩) 1 1] 22))
      have B4 := Lib.hid (show B ≤ vb.heap.size from Nat.le_trans HB2.out g2b.out.size)
      have HO4 := Lib.hid (KI.out.toKept.grow HO3.out B4.out gC.out)
      have Bc := Lib.hid (Ba'.out.grow gC.out)
      have g2c := Lib.hid (Grown.trans g2b.out gC.out)
      have R4 := Lib.hid (R3.out.below (Below.mono g2c.out HW2.out))
      have G4 := Lib.hid (Grown.trans G2'.out g2c.out)
      have GR4 := Lib.hid (Grown.trans GR2.out g2c.out)
      have T4 := Lib.hid (K.tk B w2 _ T3.out HB2.out g2c.out)
      have s2c := Lib.hid g2c.out.size
      obtain ⟨gl, hgl⟩ : ∃ g, g = vb.heap.size := ⟨_, rfl⟩
      rw [← hgl] at BL ⊢
      clear hgl gA gB dA dB sA sB g2b HO2 HO3 Ba' Bb' T3 R3 gC B4 g2c
      generalize vb.alloc _ = w4 at BL HO4 Bc R4 G4 GR4 T4 s2c ⊢
      have B4 := Lib.hid (show B ≤ w4.heap.size from Nat.le_trans HB2.out s2c.out)
      refine (KI.out.mac w4 G F (emp0 (upto 64)) 0 (some ⟨w2.heap.size, 0, none⟩) 1 1 [107] (some ⟨gl, 0, none⟩) 1 1 [[116]] HO4.out (nm_emp _) (by omega) Bc.out (by omega) BL.out (by omega) (by simp)).mono ?_
      rintro e w5 ⟨he, F5, hO, hF, hC⟩
      rw [show (idealM.mac (emp0 (upto 64)) [107] ([[116]] : List (List UInt8)).flatten).1 = upto 64 from exA] at he
      subst he
      have HO5 := Lib.hid (show OI B w5 G F5 stA from hO)
      have hbw := ch_below hC HF1.out (Nat.le_trans HW2.out s2c.out)
      have R5 := Lib.hid (R4.out.below hbw)
      have HG5 := Lib.hid (show Grown w w5 from Below.trans G4.out (Below.mono hbw HG.out.size))
      have T5 := Lib.hid (K.tk B wr w5 TR.out HBr.out (Below.trans GR4.out hbw))
      have B5 := Lib.hid (show B ≤ w5.heap.size from Nat.le_trans B4.out hC.size)
      have W5 := Lib.hid (show wr.heap.size ≤ w5.heap.size from Nat.le_trans (Nat.le_trans HW2.out s2c.out) hC.size)
      clear hO hF hC hbw
      obtain ⟨D, hD⟩ : ∃ D, D = upto 64 := ⟨_, rfl⟩
      rw [← hD] at R5 ⊢
      have HDl := Lib.hid (show D.length = 64 by rw [hD]; exact upto_len 64)
      clear hD
      obtain ⟨ZD, hZD⟩ : ∃ Z, Z = (bvs D).toArray := ⟨_, rfl⟩
      rw [← hZD]
      have HZD := Lib.hid hZD
      clear hZD BL Bc HO4 R4 G4 T4
      have B6 := Lib.hid (Ba.new w5 43 z64)
      have G6 := Lib.hid (alloc_below w5 (.cells (bvs z64).toArray 43))
      go_wp2_with (first
        | (rw [HZ64.out]
           refine wpList_store_ba rfl i64a (.tmp 4) (.tmp 28) rfl rfl (M := D) (by rw [← HZD.out]; rfl) (L := z64) B6.out rfl HDl.out ?_
           have G7 := Lib.hid (show Grown w5 ((w5.alloc (.cells (bvs z64).toArray 43)).setRow w5.heap.size (bvs D).toArray) from below_setRow G6.out (Nat.le_refl _) _)
           have B7 := Lib.hid (B6.out.row D)
           clear B6 G6
           obtain ⟨gd, hgd⟩ : ∃ g, g = w5.heap.size := ⟨_, rfl⟩
           rw [← hgd] at G7 B7 ⊢
           generalize (w5.alloc _).setRow _ _ = w7 at G7 B7 ⊢
           clear hgd))
      clear hv64 hz64s
      have R7 := Lib.hid (show Rd w7 wr.heap.size A1 D from R5.out.below (Below.mono G7.out W5.out))
      obtain ⟨SD, hSD⟩ : ∃ S : ByteArray, S = ⟨D.toArray⟩ := ⟨_, rfl⟩
      have HSD := Lib.hid hSD
      clear hSD
      have HCv := Lib.hid (show ∀ v, Grown w7 v → (convert 22 9 (.slice (some ⟨gd, 0, none⟩) 64 64)).run Tryz.prog v = .ok (.string SD) v ∧ (convert 22 9 (.slice A1 64 c1)).run Tryz.prog v = .ok (.string SD) v from fun v hv => by
        have e1 := conv (B7.out.grow hv).rd 64
        have e2 := conv ((R7.out.more (Nat.le_trans W5.out G7.out.size)).grow hv) c1
        rw [HDl.out] at e1 e2
        exact ⟨by rw [HSD.out]; exact e1, by rw [HSD.out]; exact e2⟩)
      have hsl := fun V : World => cut64 V gd
      try simp only [Act.put, List.setIfInBounds_toArray, List.set_cons_zero, List.set_cons_succ]
      refine restS_begin (fun v : World => (convert 22 9 (.slice (some ⟨gd, 0, none⟩) 64 64)).run Tryz.prog v = .ok (.string SD) v ∧ (convert 22 9 (.slice A1 64 c1)).run Tryz.prog v = .ok (.string SD) v) (by kernel_rfl) ?_
      have G8 := Lib.hid (show Grown w7 w7.drew from (Below.refl _ w7).drew)
      generalize w7.drew = w8 at G8 ⊢
      have S8 := Lib.hid (HCv.out w8 G8.out)
      have HO8 := Lib.hid (KI.out.toKept.grow HO5.out B5.out (Grown.trans G7.out G8.out))
      refine restS_take (i := 0) S8.out rfl (by kernel_rfl) (by kernel_rfl) (by kernel_rfl) (by rfl) (fun v hv => by obtain ⟨v1, v2⟩ := hv; go_simp; try with_reducible rfl) ?_
      try simp only [Act.put, List.setIfInBounds_toArray, List.set_cons_zero, List.set_cons_succ]
      refine restS_take (i := 1) S8.out rfl (by kernel_rfl) (by kernel_rfl) (by kernel_rfl) (by rfl) (fun v hv => by obtain ⟨v1, v2⟩ := hv; go_simp; try with_reducible rfl) ?_
      try simp only [Act.put, List.setIfInBounds_toArray, List.set_cons_zero, List.set_cons_succ]
      refine restS_take (i := 2) S8.out rfl (by kernel_rfl) (by kernel_rfl) (by kernel_rfl) (by rfl) (fun v hv => by obtain ⟨v1, v2⟩ := hv; go_simp; try with_reducible rfl) ?_
      try simp only [Act.put, List.setIfInBounds_toArray, List.set_cons_zero, List.set_cons_succ]
      refine restS_take (i := 3) S8.out rfl (by kernel_rfl) (by kernel_rfl) (by kernel_rfl) (by rfl) (fun v hv => by obtain ⟨v1, v2⟩ := hv; go_simp; try with_reducible rfl) ?_
      try simp only [Act.put, List.setIfInBounds_toArray, List.set_cons_zero, List.set_cons_succ]
      refine restS_take (i := 4) S8.out rfl (by kernel_rfl) (by kernel_rfl) (by kernel_rfl) (by rfl) (fun v hv => by obtain ⟨v1, v2⟩ := hv; go_simp; try with_reducible rfl) ?_
      try simp only [Act.put, List.setIfInBounds_toArray, List.set_cons_zero, List.set_cons_succ]
      refine restS_take (i := 5) S8.out rfl (by kernel_rfl) (by kernel_rfl) (by kernel_rfl) (by rfl) (fun v hv => by obtain ⟨v1, v2⟩ := hv; go_simp; try with_reducible rfl) ?_
      try simp only [Act.put, List.setIfInBounds_toArray, List.set_cons_zero, List.set_cons_succ]
      refine restS_take (i := 6) S8.out rfl (by kernel_rfl) (by kernel_rfl) (by kernel_rfl) (by rfl) (fun v hv => by obtain ⟨v1, v2⟩ := hv; go_simp; try with_reducible rfl) ?_
      try simp only [Act.put, List.setIfInBounds_toArray, List.set_cons_zero, List.set_cons_succ]
      refine restS_lone (i := 7) rfl (by kernel_rfl) (by rfl) (fun K hK => ?_)
      go_simp
      refine (KI.out.queries w8 G F5 stA 1 HO8.out NA.out (by omega)).mono ?_
      rw [show ((idealM.cnt stA : Nat) : Int) = 1 by rw [show idealM.cnt stA = 1 from exB]; rfl]
      rintro e w9 ⟨rfl, hg⟩
      have G9 := Lib.hid (Grown.trans G8.out hg)
      have S9 := Lib.hid (HCv.out w9 G9.out)
      have T9 := Lib.hid (KK.out.tk B w5 w9 T5.out B5.out (Grown.trans G7.out G9.out))
      have B9 := Lib.hid (show B ≤ w9.heap.size from Nat.le_trans B5.out (Grown.trans G7.out G9.out).size)
      clear hg S8 G8 HO8
      refine hK.out _ _ S9.out ?_
      clear hK K hsl
      try simp only [Act.put, List.setIfInBounds_toArray, List.set_cons_zero, List.set_cons_succ]
      refine restS_take (i := 8) S9.out rfl (by kernel_rfl) (by kernel_rfl) (by kernel_rfl) (by rfl) (fun v hv => by obtain ⟨v1, v2⟩ := hv; go_simp; try with_reducible rfl) ?_
      try simp only [Act.put, List.setIfInBounds_toArray, List.set_cons_zero, List.set_cons_succ]
      refine restS_take (i := 9) S9.out rfl (by kernel_rfl) (by kernel_rfl) (by kernel_rfl) (by rfl) (fun v hv => by obtain ⟨v1, v2⟩ := hv; go_simp; try with_reducible rfl) ?_
      try simp only [Act.put, List.setIfInBounds_toArray, List.set_cons_zero, List.set_cons_succ]
      refine restS_take (i := 10) S9.out rfl (by kernel_rfl) (by kernel_rfl) (by kernel_rfl) (by rfl) (fun v hv => by obtain ⟨v1, v2⟩ := hv; go_simp; try with_reducible rfl) ?_
      try simp only [Act.put, List.setIfInBounds_toArray, List.set_cons_zero, List.set_cons_succ]
      refine restS_lone (i := 11) rfl (by kernel_rfl) (by rfl) (fun K hK => ?_)
      go_simp
      refine (KK.out.real B w9 T9.out B9.out).mono ?_
      rintro e w10 ⟨G3, F3, rfl, hO, hF, hg⟩
      have HO10 := Lib.hid hO
      have G10 := Lib.hid (Grown.trans G9.out hg)
      have S10 := Lib.hid (HCv.out w10 G10.out)
      clear hO hF hg S9
      refine hK.out _ _ S10.out ?_
      clear hK K
      try simp only [Act.put, List.setIfInBounds_toArray, List.set_cons_zero, List.set_cons_succ]
      refine restS_lone (i := 12) rfl (by kernel_rfl) (by rfl) (fun K hK => ?_)
      go_simp
      refine (KK.out.qR B w10 G3 F3 s0 0 HO10.out KK.out.n0 (by omega)).mono ?_
      rw [show ((MR.cnt s0 : Nat) : Int) = 0 by rw [KK.out.cR]; rfl]
      rintro e w11 ⟨rfl, hg⟩
      have G11 := Lib.hid (Grown.trans G10.out hg)
      have S11 := Lib.hid (HCv.out w11 G11.out)
      clear hg S10
      refine hK.out _ _ S11.out ?_
      clear hK K
      try simp only [Act.put, List.setIfInBounds_toArray, List.set_cons_zero, List.set_cons_succ]
      refine restS_take (i := 13) S11.out rfl (by kernel_rfl) (by kernel_rfl) (by kernel_rfl) (by rfl) (fun v hv => by obtain ⟨v1, v2⟩ := hv; go_simp; try with_reducible rfl) ?_
      try simp only [Act.put, List.setIfInBounds_toArray, List.set_cons_zero, List.set_cons_succ]
      refine restS_take (i := 14) S11.out rfl (by kernel_rfl) (by kernel_rfl) (by kernel_rfl) (by rfl) (fun v hv => by obtain ⟨v1, v2⟩ := hv; go_simp; try with_reducible rfl) ?_
      try simp only [Act.put, List.setIfInBounds_toArray, List.set_cons_zero, List.set_cons_succ]
      refine restS_take (i := 15) S11.out rfl (by kernel_rfl) (by kernel_rfl) (by kernel_rfl) (by rfl) (fun v hv => by obtain ⟨v1, v2⟩ := hv; go_simp; try with_reducible rfl) ?_
      try simp only [Act.put, List.setIfInBounds_toArray, List.set_cons_zero, List.set_cons_succ]
      refine restS_done (by kernel_rfl) ?_
      go_wp2_with fail
      go_ret
      exact ⟨by simp, Grown.trans HG5.out (Grown.trans G7.out G11.out)⟩
end Go.Proofs.YtjklgmhaebjjaaaGreat.S12
namespace Go.Proofs.YtjklgmhaebjjaaaGreat.S12
open S11
open Go.RowKit
set_option linter.unusedVariables false
set_option linter.unusedSimpArgs false

theorem not_okU {n1 n2 : Nat} {number : Int} (h : ¬ (n1 = 64 ∧ 0 ≤ number ∧ 16 ≤ n2 ∧ n2 ≤ 1024 ∧ n2 % 16 = 0)) : ¬ okU n1 number n2 := h
theorem progI (B : Nat) : ProgOk idealM B (OIo B) where
  foot := oi_foot B
  keep := oi_keep B
  mac := fun w G F st i A1 n1 c1 key A2 n2 c2 ls hO hN hi h1 h2 h3 h4 h5 => seal_or hO hN hi h1 h2 h3 h4 (by omega)
  tag := fun w G F st i A1 n1 c1 key A2 n2 c2 ls hO hN hi h1 h2 h3 h4 h5 => tag_or hO hN hi h1 h2 h3 h4 (by omega)
  derive := fun w G F st i A1 n1 c1 mat ctx A2 n2 c2 info n hO hN hi h1 hl1 h2 hl2 hn => derive_or hO hN hi h1 hl1 h2 hl2 hn
  deriveNo := fun w G F st A1 n1 c1 mat ctx A2 n2 c2 info n hO h1 hl1 h2 hl2 hn1 hn2 hn => (deriveNo_or (V1 := .nilIface) (V2 := .nilIface) n hn).mono fun e w' ⟨h, hg⟩ => ⟨none, 0, h, onw_grown hO hg⟩
  block := fun w G F st i A1 n1 c1 key hO hN hi h1 h2 => (block_or hO hN hi h1 h2).mono fun e w' ⟨Z, hZ, he, hg⟩ =>
    ⟨_, _, _, _, _, _, fun _ => False, he, if_block Z _, ⟨F, oi_grow hO hg, fun k hk => .inl hk, Ch.grown hg, fun _ h => h.elim⟩, fun _ h => h.elim, fun w2 F2 st2 i2 hO2 hN2 hi2 _ _ _ => by
      have hk : key.length = 32 := h1.2.1.trans h2
      have hstep : ∀ {H FS} (hG1 : G = H + 1) (hG : w2.heap[G]? = some (OC H)) (hnF : ¬ FS G) (hF : ∀ k, F2 k ↔ k = G ∨ FS k) (st' : St) (w3 : World), Onw Src w2 H FS st' w3 → Onw (OIo B) w2 G F2 st' w3 := fun hG1 hG hnF hF st' w3 ⟨F', hS, hF', hC⟩ =>
        let h := oi_step (B := B) hG1 hG hnF hF hS hF' hC
        ⟨_, h.1, h.2.1, h.2.2⟩
      obtain ⟨H, FS, hG1, hG, hS, hnF, hF⟩ := hO2
      have hHZ : H = Z + 1 := by omega
      refine ⟨fun b hb => (lbe_any hS hHZ hN2 hi2 hk hb).mono fun e w3 ⟨h1, h2⟩ => ⟨h1, hstep hG1 hG hnF hF _ w3 h2⟩, ?_⟩
      exact fun _ b hb => (lbd_any hS hHZ hN2 hi2 hk hb).mono fun e w3 ⟨h1, h2⟩ => ⟨h1, hstep hG1 hG hnF hF _ w3 h2⟩
      ⟩
  blockNo := fun w G F st A1 n1 c1 key hO h1 h2 h3 => blockNo_or hO h2 h3
  unit := fun w G F st i A1 n1 c1 key number A2 n2 c2 b hO hN hi h1 h2 h3 _ h4 h5 h6 h7 => (unit_or hO hN hi h1 h2 h3 h4 h5 h6 h7).mono fun e w' ⟨A, c, he, hc, _, r⟩ => ⟨A, c, he, hc, r⟩
  ununit := fun w G F st i A1 n1 c1 key number A2 n2 c2 b hO hN hi h1 h2 h3 _ h4 h5 h6 h7 => (ununit_or hO hN hi h1 h2 h3 h4 h5 h6 h7).mono fun e w' ⟨A, c, he, hc, hl, hr, hf, F', hO', hF', hC', _⟩ => ⟨A, c, he, hc, hl, hr, hf, F', hO', hF', hC'⟩
  unitNo := fun w G F st A1 n1 c1 key number A2 n2 c2 b hO h1 _ _ _ h2 _ h => (unitNo_or (A1 := A1) (A2 := A2) (c1 := c1) (c2 := c2) hO (not_okU h)).mono fun e w' ⟨he, hO'⟩ => ⟨none, 0, he, hO'⟩
  ununitNo := fun w G F st A1 n1 c1 key number A2 n2 c2 b hO h1 _ _ _ h2 _ h => (ununitNo_or (A1 := A1) (A2 := A2) (c1 := c1) (c2 := c2) hO (not_okU h)).mono fun e w' ⟨he, hO'⟩ => ⟨none, 0, 0, he, hO'⟩
  nonce := fun w G F st i hO hN hi => nonce_or hO hN hi
  bad := fun w G F st hO => bad_or hO
  queries := fun w G F st i hO hN hi => queries_or hO

/-- A model that answers what it is asked: of a real oracle only Queries is asked here. -/
def noM : Mod where
  σ := Unit
  num := fun _ _ => True
  mac := fun _ _ _ => (List.replicate 64 0, ())
  tag := fun _ _ _ => (List.replicate 32 0, ())
  enc := fun _ _ b => (b, ())
  dec := fun _ _ b => (b, ())
  unit := fun _ _ _ b => (b, ())
  ununit := fun _ _ _ b => (b, ())
  nonce := fun _ => (List.replicate 16 0, ())
  bad := fun _ => false
  cnt := fun _ => 0
  num_up := fun _ _ _ _ _ _ => trivial
  num_mac := fun _ _ _ _ _ _ => trivial
  num_tag := fun _ _ _ _ _ _ => trivial
  num_enc := fun _ _ _ _ _ _ => trivial
  num_unit := fun _ _ _ _ _ _ _ => trivial
  num_nonce := fun _ _ _ _ => trivial
  len_mac := fun _ _ _ _ _ => rfl
  len_tag := fun _ _ _ _ _ => rfl
  len_enc := fun _ _ _ _ _ h => h
  len_unit := fun _ _ _ _ _ _ => rfl
  len_nonce := fun _ _ _ => rfl
  dec_enc := fun _ _ _ _ _ _ => rfl
  un_unit := fun _ _ _ _ _ _ _ => rfl
def ORo (B : Nat) : Ob noM := fun w G F _ => ∃ H, w.heap[G]? = some (.cells #[.iface 71 (.pointer (some ⟨H, 0, none⟩))] 50 (0, 0)) ∧ ∀ k, F k ↔ k = G
theorem keptR (B : Nat) : Kept B (ORo B) where
  foot := fun w G F st ⟨H, hG, hF⟩ k hk => by rw [(hF k).1 hk]; exact lt_of_heap hG
  keep := fun w w' G F st ⟨H, hG, hF⟩ h _ => ⟨H, (h G (.inl ((hF G).2 rfl))).trans hG, hF⟩
theorem m_rq (H k : Nat) (V : World) : (method (k + 1) 71 (.pointer (some ⟨H, 0, none⟩)) "turnkey/oracle.queries").run Tryz.prog V = .ok (96, .pointer (some ⟨H, 0, none⟩)) V := by kernel_rfl
theorem rq_any (H : Nat) (w : World) : Calls Tryz.prog 96 #[.pointer (some ⟨H, 0, none⟩)] w fun e w' => e = .returned (.int .i64 0) ∧ w' = w := by
  go_enter Tryz.func96, Tryz.ntmps96
  go_wp2
  go_ret
  exact ⟨rfl, rfl⟩
theorem queries_re {B : Nat} {w : World} {G : Nat} {F : Nat → Prop} {st : Unit} (hO : ORo B w G F st) :
    Calls Tryz.prog 10 #[.pointer (some ⟨G, 0, none⟩)] w fun e w' => e = .returned (.int .i64 ((noM.cnt st : Nat) : Int)) ∧ Grown w w' := by
  obtain ⟨H, hG, hF⟩ := hO
  have s0 : w.cell? ⟨G, 0, none⟩ = some (.iface 71 (.pointer (some ⟨H, 0, none⟩))) := cell_of_row _ G 0 _ _ (0, 0) hG
  have hm := fun (k : Nat) (V : World) => m_rq H k V
  clear hG hF
  go_enter Tryz.func10, Tryz.ntmps10
  go_wp2_with fail
  refine (rq_any H w).mono ?_
  rintro e w1 ⟨rfl, hw⟩
  have HW := Lib.hid (show Grown w w1 by rw [hw]; exact Grown.refl w)
  clear hw hm s0
  go_wp2
  go_ret
  exact ⟨rfl, HW.out⟩
theorem real_new (B : Nat) (w : World) : Calls Tryz.prog 11 #[] w (Made (ORo B) w ()) := by
  go_enter Tryz.func11, Tryz.ntmps11
  go_wp2
  go_ret
  have hs : (w.alloc (Obj.cells #[Value.int IntKind.i64 0] 73)).heap.size = w.heap.size + 1 := by simp
  refine ⟨w.heap.size + 1, fun k => k = w.heap.size + 1, rfl, ⟨w.heap.size, ?_, fun _ => Iff.rfl⟩, fun k hk => by rw [hk]; exact Nat.le_succ _, Grown.trans (alloc_below w _) (alloc_below _ _)⟩
  rw [← hs]
  exact heap_alloc_new _ _
theorem nis_any (A : Option Addr) (n c : Nat) (seed : List UInt8) (w : World) (hr : Rd w w.heap.size A seed) (hn : seed.length = n) (hc : n ≤ c) (hn2 : n ≤ 2000) : Calls Tryz.prog 13 #[.slice A n c] w fun e w' =>
    ∃ H F, e = .returned (.pointer (some ⟨H, 0, none⟩)) ∧ Src w' H F (emp0 seed) ∧ (∀ k, F k → w.heap.size ≤ k) ∧ Grown w w' ∧ w'.heap.size = H + 1 := by
  have HR := Lib.hid hr
  have HN := Lib.hid hn
  clear hr hn
  go_enter Tryz.func13, Tryz.ntmps13
  go_wp2_with fail
  refine (lz_new2 A n c seed w HR.out HN.out hc hn2).mono ?_
  rintro e w1 ⟨Z, FZ, rfl, hL, hF, hg, hs⟩
  have HL := Lib.hid hL
  have HF := Lib.hid hF
  have G1 := Lib.hid hg
  have HS := Lib.hid hs
  clear hL hF hg hs
  go_wp2
  go_ret
  refine ⟨w1.heap.size, fun k => k = w1.heap.size ∨ FZ k, rfl, ⟨Z, FZ, HS.out, heap_alloc_new w1 _, tapeOk.grow HL.out (alloc_below w1 _), fun h => ?_, fun _ => Iff.rfl⟩, ?_, Grown.trans G1.out (alloc_below w1 _), by simp⟩
  · have := lz_foot w1 Z FZ _ HL.out _ h
    omega
  · rintro k (rfl | hk)
    · exact G1.out.size
    · exact HF.out k hk
theorem ideal_new (B : Nat) (A : Option Addr) (n c : Nat) (seed : List UInt8) (w : World) (hr : Rd w w.heap.size A seed) (hn : seed.length = n) (hc : n ≤ c) (hn2 : n ≤ 2000) : Calls Tryz.prog 6 #[.slice A n c] w (Made (OIo B) w (emp0 seed)) := by
  have HR := Lib.hid hr
  have HN := Lib.hid hn
  clear hr hn
  go_enter Tryz.func6, Tryz.ntmps6
  go_wp2_with fail
  refine (nis_any A n c seed w HR.out HN.out hc hn2).mono ?_
  rintro e w1 ⟨H, FS, rfl, hL, hF, hg, hs⟩
  have HL := Lib.hid hL
  have HF := Lib.hid hF
  have G1 := Lib.hid hg
  have HS := Lib.hid hs
  clear hL hF hg hs
  go_wp2
  go_ret
  refine ⟨w1.heap.size, fun k => k = w1.heap.size ∨ FS k, rfl, ⟨H, FS, HS.out, heap_alloc_new w1 _, src_grow HL.out (alloc_below w1 _), fun h => ?_, fun _ => Iff.rfl⟩, ?_, Grown.trans G1.out (alloc_below w1 _)⟩
  · have := src_foot w1 H FS _ HL.out _ h
    omega
  · rintro k (rfl | hk)
    · exact G1.out.size
    · exact HF.out k hk
theorem oracleOk : OracleOk noM () (fun _ _ => True) OIo ORo where
  tk := fun _ _ _ _ _ _ => trivial
  pI := progI
  kR := keptR
  qR := fun B w G F st i hO _ _ => queries_re hO
  n0 := trivial
  cR := fun _ => rfl
  bR := fun _ => rfl
  ideal := fun B w A n c seed _ _ hr hn hc hn2 => ideal_new B A n c seed w hr hn hc hn2
  real := fun B w _ _ => real_new B w
end Go.Proofs.YtjklgmhaebjjaaaGreat.S12
