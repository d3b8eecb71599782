/-
  The program's expand, for an ideal oracle. The program's Derive, for an ideal oracle.
-/
import Derived.Test.YtjklgmhaebjjaaaGreatMgOidealMain34
import Derived.Lib.SlBytesConst
namespace Go.Proofs.YtjklgmhaebjjaaaGreat.S12
open S11
open Go.RowKit
set_option linter.unusedVariables false
set_option linter.unusedSimpArgs false

def sLen : Value → Nat
  | .slice _ n _ => n
  | _ => 0
set_option maxHeartbeats 4000000 in
set_option maxRecDepth 20000 in
theorem expand_or {B : Nat} {w : World} {G : Nat} {F : Nat → Prop} {st : St} {i : Nat} {A1 A2 : Option Addr} {c1 n2 c2 n : Nat} {key pre : List UInt8} (hO : OIo B w G F st) (hN : Nm st i) (hi : i ≤ 195) (h1 : Bes w F A1 64 c1 key) (h2 : Bes w F A2 n2 c2 pre) (h3 : n2 ≤ 2100) (hn : n ≤ 200) :
    Calls Tryz.prog 31 #[.pointer (some ⟨G, 0, none⟩), .slice A1 64 c1, .slice A2 n2 c2, .int .i64 (n : Int)] w fun e w' =>
      ∃ A, e = .returned (.slice A n n) ∧ Rd w' w'.heap.size A ((idealM.drv st key pre ((n + 63) / 64)).2.1.take n) ∧ (∀ x, A = some x → w.heap.size ≤ x.block) ∧
        ∃ F', OIo B w' G F' (idealM.drv st key pre ((n + 63) / 64)).2.2 ∧ (∀ k, F' k → F k ∨ w.heap.size ≤ k) ∧ Ch F w w' ∧ Off F' A ((idealM.drv st key pre ((n + 63) / 64)).2.1.take n) := by
  have HO := Lib.hid hO
  have HN := Lib.hid hN
  have H1 := Lib.hid h1
  have H2 := Lib.hid h2
  obtain ⟨M, hM⟩ : ∃ M, n + 64 = M := ⟨_, rfl⟩
  have hmk := fun W => mk0 M (by omega) W
  have hwr : ((n : Int) + 64) = (M : Int) := by omega
  have HM := Lib.hid hM
  obtain ⟨m, hm⟩ : ∃ m, m = (n + 63) / 64 := ⟨_, rfl⟩
  have hm4 : m ≤ 4 := by omega
  have Hm := Lib.hid hm
  rw [← hm]
  clear hO hN h1 h2 hM hm
  go_enter Tryz.func31, Tryz.ntmps31
  go_wp2_with fail
  obtain ⟨go, hgo⟩ : ∃ g, g = w.heap.size := ⟨_, rfl⟩
  have Hgo := Lib.hid hgo
  have X0 := Lib.hid (show Ex B w (w.alloc (.cells (bvs (List.replicate M 0)).toArray 5)) G go F F st A1 key A2 pre none [] [] M from
    { e := hgo
      o := oi_grow HO.out (alloc_below w _)
      old := fun k hk => by rw [hgo]; exact oi_foot B w G F st HO.out k hk
      sub := fun k hk => .inl hk
      ch := Ch.grown (alloc_below w _)
      k := by rw [hgo]; exact ⟨H1.out.1.below (alloc_below w _), H1.out.2.2.2⟩
      i := by rw [hgo]; exact ⟨H2.out.1.below (alloc_below w _), H2.out.2.2.2⟩
      p := .inl rfl
      own := by rw [hgo]; exact own_mk0 w M (by have := HM.out; omega) _ (Nat.le_refl _)
      lt := by rw [hgo]; simp })
  rw [← hgo]
  clear hmk hwr hgo
  generalize w.alloc _ = w0 at X0 ⊢
  go_loopw [9, 10, 11] (fun v9 v10 v11 wr => ∃ (j L pm pc y : Nat) (P : Option Addr) (t s : List UInt8) (stj : St) (Fj : Nat → Prop), v9 = .slice (some ⟨go, 0, none⟩) L M ∧ v10 = .slice P pm pc ∧ v11 = .int .u8 (y : Int) ∧ y = j + 1 ∧ j ≤ m ∧ pm ≤ pc ∧ pm ≤ 64 ∧ Hid (L = 64 * j) ∧ Hid (t.length = pm) ∧ Hid (s.length = L) ∧ Hid (idealM.drv st key pre j = (t, s, stj)) ∧ Hid (Nm stj (i + j)) ∧ Hid (Ex B w wr G go F Fj stj A1 key A2 pre P t s M)) (fun v9 _ _ _ => 20000 - sLen v9)
  case atStart => exact ⟨0, 0, 0, 0, 1, none, [], [], st, F, rfl, rfl, rfl, rfl, Nat.zero_le _, Nat.le_refl _, by omega, rfl, rfl, rfl, rfl, HN.out, X0.out⟩
  case round =>
    clear X0
    obtain ⟨j, L, pm, pc, y, P, t, s, stj, Fj, rfl, rfl, rfl, hy, hj, hpc, hpm, HL, Ht, Hs, HD, HNj, HX⟩ := hrel
    have Hy := Lib.hid hy
    have hy6 : y ≤ 5 := by omega
    clear hy
    by_cases hlt : L < n
    · obtain ⟨x, hx⟩ : ∃ x, x = UInt8.ofNat (j + 1) := ⟨_, rfl⟩
      have Hyx := Lib.hid (show Value.int .u8 (y : Int) = bv x by
        have h1 := Hy.out
        rw [hx, bv, UInt8.toNat_ofNat', h1]
        congr 1
        omega)
      have HT := Lib.hid (show [t, pre, [x]].flatten = t ++ pre ++ [UInt8.ofNat (j + 1)] by rw [hx]; simp)
      have Hfl := Lib.hid (show [t, pre, [x]].flatten.length ≤ 2500 by have h1 := Ht.out; have h2 := H2.out.2.1; simp; omega)
      have Hj := Lib.hid (show j < m by have := Hm.out; have := HL.out; omega)
      clear hx
      go_wp2_with fail
      have GA := Lib.hid (alloc_below wr (.cells #[.int .u8 (y : Int)] 5))
      have RA := Lib.hid (show Bes (wr.alloc (.cells #[.int .u8 (y : Int)] 5)) Fj (some ⟨wr.heap.size, 0, none⟩) 1 1 [x] from ⟨by rw [Hyx.out]; exact (Row.new wr [x]).rd (by simp), rfl, Nat.le_refl _, fun z hz _ hf => by
        simp only [Option.some.injEq] at hz
        subst hz
        have := oi_foot B wr G Fj stj HX.out.o _ hf
        simp at this⟩)
      have hsA : (wr.alloc (.cells #[.int .u8 (y : Int)] 5)).heap.size = wr.heap.size + 1 := by simp
      rw [← hsA]
      clear hsA
      obtain ⟨gx, hgx⟩ : ∃ g, g = wr.heap.size := ⟨_, rfl⟩
      rw [← hgx] at RA ⊢
      clear hgx
      generalize wr.alloc _ = wA at GA RA ⊢
      have XA := Lib.hid (HX.out.grow GA.out)
      have BP := Lib.hid (show Bes wA Fj P pm pc t by have := XA.out.p.bes pc (by rw [Ht.out]; exact hpc); rwa [Ht.out] at this)
      have BI := Lib.hid (show Bes wA Fj A2 n2 c2 pre from ⟨XA.out.i.1.more (Nat.le_of_lt XA.out.lt), H2.out.2.1, H2.out.2.2.1, XA.out.i.2⟩)
      have BL := Lib.hid (besL_three XA.out.o BP.out BI.out RA.out)
      have GB := Lib.hid (alloc_below wA (.cells #[.slice P pm pc, .slice A2 n2 c2, .slice (some ⟨gx, 0, none⟩) 1 1] 22))
      obtain ⟨gb, hgb⟩ : ∃ g, g = wA.heap.size := ⟨_, rfl⟩
      rw [← hgb] at BL ⊢
      clear hgb
      generalize wA.alloc _ = wB at GB BL ⊢
      have XB := Lib.hid (XA.out.grow GB.out)
      have BK := Lib.hid (show Bes wB Fj A1 64 c1 key from ⟨XB.out.k.1.more (Nat.le_of_lt XB.out.lt), H1.out.2.1, H1.out.2.2.1, XB.out.k.2⟩)
      have HNe := Lib.hid (show Nm (idealM.mac stj key [t, pre, [x]].flatten).2 (i + j + 1) from idealM.num_mac stj (i + j) _ _ HNj.out (by have := Hj.out; omega))
      have HDl := Lib.hid (show (idealM.mac stj key [t, pre, [x]].flatten).1.length = 64 from idealM.len_mac stj (i + j) _ _ HNj.out)
      have HDn := Lib.hid (show idealM.drv st key pre (j + 1) = ((idealM.mac stj key [t, pre, [x]].flatten).1, s ++ (idealM.mac stj key [t, pre, [x]].flatten).1, (idealM.mac stj key [t, pre, [x]].flatten).2) by
        rw [HT.out]
        show ((idealM.mac (idealM.drv st key pre j).2.2 key ((idealM.drv st key pre j).1 ++ pre ++ [UInt8.ofNat (j + 1)])).1, _, _) = _
        rw [HD.out])
      refine (seal_or XB.out.o HNj.out (by omega) BK.out (by omega) BL.out (by omega) Hfl.out).mono ?_
      rintro e w2 ⟨rfl, F2, hO2, hF2, hC2⟩
      have X2 := Lib.hid (XB.out.step hO2 hF2 hC2)
      obtain ⟨D, hD⟩ : ∃ D, D = (idealM.mac stj key [t, pre, [x]].flatten).1 := ⟨_, rfl⟩
      obtain ⟨st2, hst2⟩ : ∃ s', s' = (idealM.mac stj key [t, pre, [x]].flatten).2 := ⟨_, rfl⟩
      rw [← hD] at HDl HDn ⊢
      rw [← hst2] at HDn HNe X2
      clear hD hst2 hO2 hF2 hC2 GA RA XA BP BI BL GB XB BK HX HD HNj HT Hfl Hyx
      have hz := fun V : World => zq64 V
      have hcut := fun V : World => cut64 V w2.heap.size
      have GC := Lib.hid (alloc_below w2 (.cells (bvs z64).toArray 43))
      have BC := Lib.hid (Ba.new w2 43 z64)
      have hroom : L + 64 ≤ M := by have := HM.out; omega
      have hlm : L + 64 ≤ 4294967296 := by omega
      go_wp2_with (first
        | (refine wpList_store_ba rfl i64a (.tmp 12) (.tmp 29) rfl rfl (M := D) (by rfl) (L := z64) BC.out rfl HDl.out ?_
           have X4 := Lib.hid (X2.out.put (show Grown w2 ((w2.alloc (.cells (bvs z64).toArray 43)).setRow w2.heap.size (bvs D).toArray) from below_setRow GC.out (Nat.le_refl _) _) (Nat.le_refl _) (BC.out.row D))
           have R4 := Lib.hid (BC.out.row D).rd
           clear GC BC X2
           generalize (w2.alloc _).setRow _ _ = w4 at X4 R4 ⊢)
        | (at_builtin
           refine wpList_appR rfl (.tmp 31) (.tmp 32) rfl (n := L) (n2 := 64) (m := L + 64) Hs.out rfl X4.out.own HDl.out rfl R4.out rfl hroom hlm ?_
           intro w5 ho5 hg5
           have X5 := Lib.hid (X4.out.app hg5 ho5)
           clear ho5 hg5))
      go_roundw
      case rel =>
        refine ⟨j + 1, L + 64, 64, 64, y + 1, _, D, s ++ D, st2, F2, rfl, rfl, by go_num, ?_, ?_, Nat.le_refl _, Nat.le_refl _, ?_, HDl.out, ?_, HDn.out, ?_, X5.out⟩
        · have := Hy.out; omega
        · have := Hj.out; omega
        · show L + 64 = 64 * (j + 1)
          have := HL.out; omega
        · show (s ++ D).length = L + 64
          rw [List.length_append, Hs.out, HDl.out]
        · exact HNe.out
      case measure => simp [sLen]; omega
    · have HE := Lib.hid (show idealM.drv st key pre m = (t, s, stj) by
        rw [show m = j by have := Hm.out; have := HL.out; omega]
        exact HD.out)
      have HnM := Lib.hid (show n ≤ M by have := HM.out; omega)
      have hnm : n ≤ M := HnM.out
      go_wp2
      go_ret
      rw [HE.out]
      refine ⟨_, rfl, ?_, ?_, Fj, HX.out.o, fun k hk => ?_, HX.out.ch, ?_⟩
      · exact HX.out.own.rd.take n
      · intro z hz
        simp only [Option.some.injEq] at hz
        subst hz
        have := Hgo.out
        simp
        omega
      · rcases HX.out.sub k hk with h4 | h4
        · exact .inl h4
        · exact .inr (by have := Hgo.out; omega)
      · intro z hz _ hf
        simp only [Option.some.injEq] at hz
        subst hz
        exact HX.out.not hf
end Go.Proofs.YtjklgmhaebjjaaaGreat.S12
namespace Go.Proofs.YtjklgmhaebjjaaaGreat.S12
open S11
open Go.RowKit
set_option linter.unusedVariables false
set_option linter.unusedSimpArgs false

theorem rd_fr {w : World} {g B : Nat} {l : List UInt8} {fr : Nat × Nat} {t : TypeId} (h : w.heap[g]? = some (.cells (bvs l).toArray t fr)) (hB : g < B) : Rd w B (some ⟨g, 0, none⟩) l :=
  .inr ⟨g, 0, rfl, hB, fun j hj => by rw [Nat.zero_add, cell_of_row w g j _ t fr h]; simp [bvs, hj]⟩
theorem kept_or (B : Nat) : Kept B (OIo B) := ⟨oi_foot B, oi_keep B⟩
/-- append onto a slice without room: new bytes. -/
theorem run_appF {w : World} {B0 : Nat} {A : Option Addr} {l : List UInt8} (h : Rd w B0 A l) {B : Nat} {A2 : Option Addr} (c2 : Nat) {l2 : List UInt8} (h2 : Rd w B A2 l2) (h0 : 0 < l.length) (h02 : 0 < l2.length)
    (hl : l.length + l2.length ≤ 4294967296) (ty : TypeId) :
    ∃ A' c' w', (Builtin.append_ #[22, 22] ty #[.slice A l.length l.length, .slice A2 l2.length c2]).run Tryz.prog w = .ok (.slice A' (l ++ l2).length c') w' ∧ Own w' w.heap.size A' c' (l ++ l2) ∧ Below w.heap.size w w' := by
  obtain ⟨i0, hi, hz0, hz1, hz2⟩ := info_parts info5
  have hcells : ∀ {B : Nat} {A : Option Addr} {l : List UInt8}, Rd w B A l → 0 < l.length → ∃ ad, A = some ad ∧ ∀ j u, (bvs l)[j]? = some u → w.cell? (ad.add j) = some u := by
    intro B A l h h0
    rcases h with rfl | ⟨b, off, rfl, hb, hc⟩
    · simp at h0
    · refine ⟨_, rfl, fun j u hu => ?_⟩
      have hj : j < l.length := by
        have := (List.getElem?_eq_some_iff.1 hu).1
        simpa [bvs] using this
      have h3 := hc j hj
      simp [bvs, hj] at hu
      subst hu
      by_cases h0 : j = 0
      · subst h0; simpa [Addr.add] using h3
      · simpa [Addr.add, h0] using h3
  obtain ⟨ad, rfl, hc1⟩ := hcells h h0
  obtain ⟨ad2, rfl, hc2⟩ := hcells h2 h02
  obtain ⟨v', w', hrun, hown', hg⟩ := run_append_arg_grows (P := Tryz.prog) w 22 ty 5 i0 _ 1 1 Tryz.underlying22 hi hz0 hz1 hz2 rfl (by omega) ad l.length l.length (bvs l) (by simp [bvs]) hc1 ad2 l2.length c2 (bvs l2) (by simp [bvs]) hc2
    (by omega) (by unfold maxLen; omega) (by omega)
  have hv : ∃ A' c', v' = .slice A' (l ++ l2).length c' := by
    rcases hown'.2 with ⟨h1, h3⟩ | ⟨g, cap, cur, h1, _⟩
    · omega
    · exact ⟨some ⟨g, 0, none⟩, cap, by rw [h1, List.length_append]⟩
  obtain ⟨A', c', rfl⟩ := hv
  refine ⟨A', c', w', hrun, ?_, ⟨hg.os, hg.tape, hg.output, hg.size, fun k hk => hg.block k hk (by simp)⟩⟩
  unfold Own
  have e1 : (l ++ l2).length = l.length + l2.length := by simp
  have e2 : bvs (l ++ l2) = bvs l ++ bvs l2 := by simp [bvs]
  rw [e2]
  rw [e1] at hown' ⊢
  exact hown'
theorem wpList_appF {w : World} {ops : Array Oper} {rest : List Oper} {o : Oper} {a : Act} {Q : Exit → Act → World → Prop} (hgd : o.guard = none) (s x : Operand) (ho : o.op = .call { callee := .builtin .append, args := #[s, x], argTypes := #[22, 22] })
    {B0 : Nat} {A : Option Addr} {n : Nat} {l : List UInt8} (hn : l.length = n) (hs : a.eval s = .slice A n n) (h : Rd w B0 A l) {B : Nat} {A2 : Option Addr} {n2 c2 : Nat} {l2 : List UInt8} (hn2 : l2.length = n2) (hx : a.eval x = .slice A2 n2 c2) (h2 : Rd w B A2 l2) (h0 : 0 < n) (h02 : 0 < n2)
    (hl : n + n2 ≤ 4294967296) (r : List UInt8) (hr : l ++ l2 = r)
    (hk : ∀ A' c' w', Own w' w.heap.size A' c' r → Grown w w' → wpList Tryz.prog ops Q rest (a.put o.dst (.slice A' r.length c')) w') : wpList Tryz.prog ops Q (o :: rest) a w := by
  subst hn hn2 hr
  obtain ⟨A', c', w', hrun, h3, h4⟩ := run_appF h c2 h2 h0 h02 hl o.type
  refine wpList_plain hgd fun _ hK => ?_
  unfold Oper.wp execOp
  simp only [ho, resolve, invoke, builtin, Sem.run_bind, Sem.run_pure, Result.andThen_ok, List.map_toArray, List.map_cons, List.map_nil, hs, hx, hrun]
  exact hK _ _ (hk A' c' w' h3 h4)
theorem deriveNo_or {w : World} {V1 V2 : Value} {G : Nat} {A1 A2 : Option Addr} {n1 c1 n2 c2 : Nat} {ctx : UInt8} (n : Int) (h : n < 0 ∨ 16320 < n) :
    Calls Tryz.prog 17 #[.pointer (some ⟨G, 0, none⟩), .slice A1 n1 c1, .int .u8 (ctx.toNat : Int), .slice A2 n2 c2, .int .i64 n] w fun e w' => e = .returned (.tuple #[.slice none 0 0, .bool false]) ∧ Grown w w' := by
  go_enter Tryz.func17, Tryz.ntmps17
  by_cases h1 : n < 0
  · go_wp2
    go_ret2
    exact ⟨rfl, Grown.refl _⟩
  · have h2 : n > 16320 := by omega
    clear h
    go_wp2
    go_ret2
    exact ⟨rfl, Grown.refl _⟩
set_option maxHeartbeats 4000000 in
set_option maxRecDepth 20000 in
theorem derive_or {B : Nat} {w : World} {G : Nat} {F : Nat → Prop} {st : St} {i : Nat} {A1 A2 : Option Addr} {n1 c1 n2 c2 n : Nat} {mat info : List UInt8} {ctx : UInt8} (hO : OIo B w G F st) (hN : Nm st i) (hi : i ≤ 190) (h1 : Bes w F A1 n1 c1 mat) (hl1 : n1 ≤ 2000) (h2 : Bes w F A2 n2 c2 info) (h3 : n2 ≤ 2000) (hn : n ≤ 200) :
    Calls Tryz.prog 17 #[.pointer (some ⟨G, 0, none⟩), .slice A1 n1 c1, .int .u8 (ctx.toNat : Int), .slice A2 n2 c2, .int .i64 (n : Int)] w fun e w' =>
      ∃ A c, e = .returned (.tuple #[.slice A n c, .bool true]) ∧ n ≤ c ∧ Rd w' w'.heap.size A (idealM.derive st mat ctx info n).1 ∧ (∀ x, A = some x → w.heap.size ≤ x.block) ∧
        ∃ F', OIo B w' G F' (idealM.derive st mat ctx info n).2 ∧ (∀ k, F' k → F k ∨ w.heap.size ≤ k) ∧ Ch F w w' ∧ Off F' A (idealM.derive st mat ctx info n).1 := by
  have HO := Lib.hid hO
  have HN := Lib.hid hN
  have H1 := Lib.hid h1
  have H2 := Lib.hid h2
  have hmk := mk64z
  have kc := fun (W : World) (C : Array Value) (n c : Nat) => Lib.run_convert_bytes_const (P := Tryz.prog) W 22 5 C n c Tryz.underlying22 Tryz.underlying5
  have hz := fun V : World => zq64 V
  clear hO hN h1 h2
  go_enter Tryz.func17, Tryz.ntmps17
  go_wp2_with fail
  have gA := Lib.hid (alloc_below w (.cells (bvs z64).toArray 5))
  have BK := Lib.hid (show Bes (w.alloc (.cells (bvs z64).toArray 5)) F (some ⟨w.heap.size, 0, none⟩) 64 64 z64 from ⟨(Row.new w z64).rd (by simp), rfl, Nat.le_refl _, fun x hx _ hf => by
    simp only [Option.some.injEq] at hx
    subst hx
    have := oi_foot B w G F st HO.out _ hf
    simp at this⟩)
  have hsA : (w.alloc (.cells (bvs z64).toArray 5)).heap.size = w.heap.size + 1 := by simp
  rw [← hsA]
  clear hsA
  obtain ⟨g, hg⟩ : ∃ g, g = w.heap.size := ⟨_, rfl⟩
  rw [← hg] at BK ⊢
  clear hg hmk
  generalize w.alloc _ = wA at gA BK ⊢
  have OA := Lib.hid (oi_grow HO.out gA.out)
  have BL := Lib.hid (besL_one (kept_or B) OA.out (H1.out.grow gA.out))
  have gB := Lib.hid (alloc_below wA (.cells #[.slice A1 n1 c1] 22))
  obtain ⟨gb, hgb⟩ : ∃ g, g = wA.heap.size := ⟨_, rfl⟩
  rw [← hgb] at BL ⊢
  clear hgb
  generalize wA.alloc _ = wB at gB BL ⊢
  have OB := Lib.hid (oi_grow OA.out gB.out)
  have gw := Lib.hid (Grown.trans gA.out gB.out)
  have HN1 := Lib.hid (show Nm (idealM.mac st z64 [mat].flatten).2 (i + 1) from idealM.num_mac st i _ _ HN.out (by omega))
  have HKl := Lib.hid (show (idealM.mac st z64 [mat].flatten).1.length = 64 from idealM.len_mac st i _ _ HN.out)
  have HE := Lib.hid (show idealM.derive st mat ctx info n = ((idealM.drv (idealM.mac st z64 [mat].flatten).2 (idealM.mac st z64 [mat].flatten).1 (preD ctx info) ((n + 63) / 64)).2.1.take n, (idealM.drv (idealM.mac st z64 [mat].flatten).2 (idealM.mac st z64 [mat].flatten).1 (preD ctx info) ((n + 63) / 64)).2.2) by
    rw [show [mat].flatten = mat by simp]
    rfl)
  refine (seal_or OB.out HN.out (by omega) (BK.out.grow gB.out) (by omega) BL.out (by omega) (by have := H1.out.2.1; simp; omega)).mono ?_
  rintro e w1 ⟨rfl, F1, hO1, hF1, hC1⟩
  obtain ⟨key, hkey⟩ : ∃ key, key = (idealM.mac st z64 [mat].flatten).1 := ⟨_, rfl⟩
  obtain ⟨st1, hst1⟩ : ∃ st1, st1 = (idealM.mac st z64 [mat].flatten).2 := ⟨_, rfl⟩
  rw [← hst1] at hO1 HN1
  rw [← hkey] at HKl
  rw [← hkey, ← hst1] at HE
  rw [← hkey]
  have O1 := Lib.hid hO1
  have F1s := Lib.hid (show ∀ k, F1 k → F k ∨ w.heap.size ≤ k from fun k hk => by
    rcases hF1 k hk with h4 | h4
    · exact .inl h4
    · exact .inr (Nat.le_trans gw.out.size h4))
  have C1 := Lib.hid (show Ch F w w1 from Ch.trans (Ch.grown gw.out) hC1)
  have B2 := Lib.hid (show Bes w1 F1 A2 n2 c2 info from (H2.out.grow gw.out).on hF1 hC1)
  clear hkey hst1 hO1 hF1 hC1 gA BK OA BL gB OB gw HN H1 H2
  have GC := Lib.hid (alloc_below w1 (.cells (bvs z64).toArray 43))
  have BC := Lib.hid (Ba.new w1 43 z64)
  have H9 := Lib.hid (show (lbl ++ [ctx]).length = 9 from rfl)
  obtain ⟨l8, hl8⟩ : ∃ l, l = lbl := ⟨_, rfl⟩
  have Hl8 := Lib.hid hl8
  have hcut := fun (V : World) => cut64 V w1.heap.size
  clear hl8
  go_wp2_with (first
    | (refine wpList_store_ba rfl i64a (.tmp 12) (.tmp 24) rfl rfl (M := key) (by rfl) (L := z64) BC.out rfl HKl.out ?_
       have G2 := Lib.hid (show Grown w1 ((w1.alloc (.cells (bvs z64).toArray 43)).setRow w1.heap.size (bvs key).toArray) from below_setRow GC.out (Nat.le_refl _) _)
       have K2 := Lib.hid (BC.out.row key)
       clear GC BC
       obtain ⟨r1, hr1⟩ : ∃ r, r = w1.heap.size := ⟨_, rfl⟩
       have HR1 := Lib.hid hr1
       rw [← hr1] at G2 K2 hcut ⊢
       clear hr1
       generalize (w1.alloc _).setRow _ _ = w2 at G2 K2 ⊢
       have hsL : (w2.alloc (.cells #[.int .u8 116, .int .u8 117, .int .u8 114, .int .u8 110, .int .u8 107, .int .u8 101, .int .u8 121, .int .u8 0] 5 (8, 9))).heap.size = w2.heap.size + 1 := by simp
       have GL := Lib.hid (show Grown w2 ((w2.alloc (.cells #[.int .u8 116, .int .u8 117, .int .u8 114, .int .u8 110, .int .u8 107, .int .u8 101, .int .u8 121, .int .u8 0] 5 (8, 9))).alloc (.cells #[.int .u8 (ctx.toNat : Int)] 5)) from Grown.trans (alloc_below w2 _) (alloc_below _ _))
       have RC := Lib.hid (show Rd ((w2.alloc (.cells #[.int .u8 116, .int .u8 117, .int .u8 114, .int .u8 110, .int .u8 107, .int .u8 101, .int .u8 121, .int .u8 0] 5 (8, 9))).alloc (.cells #[.int .u8 (ctx.toNat : Int)] 5)) ((w2.alloc (.cells #[.int .u8 116, .int .u8 117, .int .u8 114, .int .u8 110, .int .u8 107, .int .u8 101, .int .u8 121, .int .u8 0] 5 (8, 9))).alloc (.cells #[.int .u8 (ctx.toNat : Int)] 5)).heap.size (some ⟨w2.heap.size, 0, none⟩) lbl from
         rd_fr (t := 5) (fr := (8, 9)) ((Below.heap_alloc _ _ _ (by rw [hsL]; omega)).trans (heap_alloc_new w2 _)) (by simp; omega))
       have RX := Lib.hid (show Rd ((w2.alloc (.cells #[.int .u8 116, .int .u8 117, .int .u8 114, .int .u8 110, .int .u8 107, .int .u8 101, .int .u8 121, .int .u8 0] 5 (8, 9))).alloc (.cells #[.int .u8 (ctx.toNat : Int)] 5)) ((w2.alloc (.cells #[.int .u8 116, .int .u8 117, .int .u8 114, .int .u8 110, .int .u8 107, .int .u8 101, .int .u8 121, .int .u8 0] 5 (8, 9))).alloc (.cells #[.int .u8 (ctx.toNat : Int)] 5)).heap.size (some ⟨w2.heap.size + 1, 0, none⟩) [ctx] by
         rw [← hsL]
         exact (Row.new _ [ctx]).rd (by simp))
       clear hsL)
    | (at_builtin
       refine wpList_appF rfl (.tmp 26) (.tmp 28) rfl (n := 8) (l := lbl) rfl rfl RC.out (n2 := 1) (l2 := [ctx]) rfl rfl RX.out (by omega) (by omega) (by omega) (lbl ++ [ctx]) rfl ?_
       intro A3 c3 w3 ho3 hg3
       rw [H9.out]
       have G3 := Lib.hid (Grown.trans GL.out hg3)
       obtain ⟨b3, hb3⟩ : ∃ b, b = ((w2.alloc (.cells #[.int .u8 116, .int .u8 117, .int .u8 114, .int .u8 110, .int .u8 107, .int .u8 101, .int .u8 121, .int .u8 0] 5 (8, 9))).alloc (.cells #[.int .u8 (ctx.toNat : Int)] 5)).heap.size := ⟨_, rfl⟩
       have HB3 := Lib.hid (show w2.heap.size ≤ b3 ∧ b3 ≤ w3.heap.size by rw [hb3]; exact ⟨GL.out.size, hg3.size⟩)
       rw [← hb3] at ho3
       have O3 := Lib.hid ho3
       have K3 := Lib.hid (K2.out.grow G3.out)
       have OO3 := Lib.hid (oi_grow O1.out (Grown.trans G2.out G3.out))
       have I3 := Lib.hid (B2.out.grow (Grown.trans G2.out G3.out))
       have CC3 := Lib.hid (Ch.trans C1.out (Ch.grown (Grown.trans G2.out G3.out)))
       have Hi2 := Lib.hid I3.out.2.1
       clear ho3 hg3 hb3 RC RX GL B2)
    | (at_builtin
       refine wpList_app rfl (.tmp 30) (.tmp 31) rfl (base := b3) (l := lbl ++ [ctx]) (by rw [H9.out]; rfl) O3.out (l2 := info) (by rw [Hi2.out]; rfl) I3.out.1 (by rw [H9.out, Hi2.out]; omega) HB3.out.2 (preD ctx info) rfl ?_
       intro A4 c4 w4 ho4 hb4
       have hql : (preD ctx info).length = 9 + n2 := by
         show (lbl ++ [ctx] ++ info).length = _
         rw [List.length_append, H9.out, Hi2.out]
       rw [hql]
       have hfb : ∀ k, F1 k → k < b3 := fun k hk => by
         have h1 := oi_foot B w1 G F1 st1 O1.out k hk
         have h2 := G2.out.size
         have h3 := HB3.out.1
         omega
       have O4 := Lib.hid (oi_same OO3.out (fun k hk => hb4.block k (hfb k hk)) hb4.size)
       have C4 := Lib.hid (show Ch F w w4 from Ch.then CC3.out (Ch.below hb4) (fun k hk hle => absurd hle (by
         have h2 := G2.out.size
         have h3 := HB3.out.1
         have h4 := C1.out.size
         omega)))
       have W4 := Lib.hid (show Bes w4 F1 A4 (9 + n2) c4 (preD ctx info) from ⟨ho4.rd, hql, by have := ho4.le; rwa [hql] at this, fun x hx hne hf => by
         rcases ho4.form with ⟨e, h1, _⟩ | ⟨g, cur, e, hge, _⟩
         · exact hne h1
         · rw [hx] at e
           simp only [Option.some.injEq] at e
           subst e
           have := hfb _ hf
           simp at this
           omega⟩)
       have hr1b : r1 < b3 := by have h1 := K2.out.lt; have h2 := HB3.out.1; omega
       have K4 := Lib.hid (show Bes w4 F1 (some ⟨r1, 0, none⟩) 64 64 key from ⟨(show Ba w4 r1 43 key from (hb4.block r1 hr1b).trans K3.out).rd, HKl.out, Nat.le_refl _, fun x hx _ hf => by
         simp only [Option.some.injEq] at hx
         subst hx
         have h1 := oi_foot B w1 G F1 st1 O1.out _ hf
         have h2 := HR1.out
         simp at h1
         omega⟩)
       clear ho4 hb4 hql hfb hr1b O3 K3 OO3 I3 CC3 Hi2))
  refine (expand_or O4.out HN1.out (by omega) K4.out W4.out (by omega) hn).mono ?_
  rintro e w5 ⟨A5, rfl, hr5, hf5, F5, hO5, hF5, hC5, hoff⟩
  have RR := Lib.hid (And.intro hr5 (And.intro hf5 hoff))
  have O5 := Lib.hid hO5
  have F5s := Lib.hid (show ∀ k, F5 k → F k ∨ w.heap.size ≤ k from fun k hk => by
    rcases hF5 k hk with h4 | h4
    · exact F1s.out k h4
    · exact .inr (Nat.le_trans C4.out.size h4))
  have C5 := Lib.hid (show Ch F w w5 from Ch.then C4.out hC5 (fun k hk hf => by
    rcases F1s.out k hf with h4 | h4
    · exact h4
    · omega))
  have W5 := Lib.hid C4.out.size
  clear hr5 hf5 hO5 hF5 hC5 hoff
  go_wp2
  go_ret2
  rw [HE.out]
  exact ⟨A5, n, rfl, Nat.le_refl _, RR.out.1, fun x hx => Nat.le_trans W5.out (RR.out.2.1 x hx), F5, O5.out, F5s.out, C5.out, RR.out.2.2⟩
end Go.Proofs.YtjklgmhaebjjaaaGreat.S12
