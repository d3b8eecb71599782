/-
  The program's ideal oracle: Block, Encrypt, Decrypt (each calls its source through an interface). What the program's expand keeps: its oracle, the row that it grows, the block that came last.
-/
import Derived.Test.YtjklgmhaebjjaaaGreatMgOidealMain33
import Derived.Test.YtjklgmhaebjjaaaGreatMgOidealMain5
namespace Go.Proofs.YtjklgmhaebjjaaaGreat.S12
open S11
open Go.RowKit
set_option linter.unusedVariables false
set_option linter.unusedSimpArgs false

/-- Behind a step of the source. -/
theorem oi_step {B : Nat} {w w2 : World} {G H : Nat} {F FS F' : Nat → Prop} {st' : St} (hG1 : G = H + 1) (hG : w.heap[G]? = some (OC H)) (hnF : ¬ FS G) (hF : ∀ k, F k ↔ k = G ∨ FS k)
    (hS2 : Src w2 H F' st') (hF' : ∀ k, F' k → FS k ∨ w.heap.size ≤ k) (hC : Ch FS w w2) : OIo B w2 G (fun k => k = G ∨ F' k) st' ∧ (∀ k, k = G ∨ F' k → F k ∨ w.heap.size ≤ k) ∧ Ch F w w2 := by
  have hlt : G < w.heap.size := lt_of_heap hG
  refine ⟨⟨H, F', hG1, (hC.block G hlt hnF).trans hG, hS2, fun h => ?_, fun k => Iff.rfl⟩, ?_, Ch.then (Ch.refl F w) hC (fun k _ h => (hF k).2 (.inr h))⟩
  · rcases hF' G h with h | h
    · exact hnF h
    · omega
  · rintro k (rfl | h)
    · exact .inl ((hF _).2 (.inl rfl))
    · rcases hF' k h with h | h
      · exact .inl ((hF _).2 (.inr h))
      · exact .inr h
theorem oi_grow {B : Nat} {w w' : World} {G : Nat} {F : Nat → Prop} {st : St} (h : OIo B w G F st) (hg : Grown w w') : OIo B w' G F st := by
  have hft := oi_foot B w G F st h
  obtain ⟨H, FS, hG1, hG, hS, hnF, hF⟩ := h
  exact ⟨H, FS, hG1, (hg.block G (lt_of_heap hG)).trans hG, src_grow hS hg, hnF, hF⟩
theorem onw_grown {B : Nat} {w w' : World} {G : Nat} {F : Nat → Prop} {st : St} (h : OIo B w G F st) (hg : Grown w w') : Onw (OIo B) w G F st w' :=
  ⟨F, oi_grow h hg, fun k hk => .inl hk, Ch.grown hg⟩
theorem m_block (H k : Nat) (V : World) : (method (k + 1) 45 (.pointer (some ⟨H, 0, none⟩)) "turnkey/oracle.block").run Tryz.prog V = .ok (64, .pointer (some ⟨H, 0, none⟩)) V := by kernel_rfl
theorem if_block (Z : Nat) (M : ByteArray) : Ifc 125 (.agg #[.pointer (some ⟨Z, 0, none⟩), .string M]) 149 148 (.agg #[.pointer (some ⟨Z, 0, none⟩), .string M]) (.agg #[.pointer (some ⟨Z, 0, none⟩), .string M]) where
  ne := fun k V => by kernel_rfl
  nd := fun k V => by kernel_rfl
  me := fun k V => by kernel_rfl
  md := fun k V => by kernel_rfl
  ce := fun args V => by go_simp
  cd := fun _ args V => by go_simp
set_option maxHeartbeats 4000000 in
set_option maxRecDepth 20000 in
theorem block_or {B : Nat} {w : World} {G : Nat} {F : Nat → Prop} {st : St} {i : Nat} {A1 : Option Addr} {n1 c1 : Nat} {key : List UInt8} (hO : OIo B w G F st) (hN : Nm st i) (hi : i ≤ 200) (h1 : Bes w F A1 n1 c1 key) (h2 : n1 = 32) :
    Calls Tryz.prog 19 #[.pointer (some ⟨G, 0, none⟩), .slice A1 n1 c1] w fun e w' => ∃ Z, G = Z + 2 ∧ e = .returned (.tuple #[.iface 125 (.agg #[.pointer (some ⟨Z, 0, none⟩), .string ⟨(blockQ key).toArray⟩]), .int .i64 0]) ∧ Grown w w' := by
  subst h2
  obtain ⟨H, FS, hG1, hG, hS, hnF, hF⟩ := hO
  have HG1 := Lib.hid hG1
  have HS := Lib.hid hS
  have HB1 := Lib.hid (h1.less (fun k hk => (hF k).2 (.inr hk)))
  have s0 : w.cell? ⟨G, 0, none⟩ = some (.iface 45 (.pointer (some ⟨H, 0, none⟩))) := cell_of_row _ G 0 _ _ (0, 0) hG
  have hm := fun (k : Nat) (V : World) => m_block H k V
  clear hG1 hG hS hnF hF h1 hN
  go_enter Tryz.func19, Tryz.ntmps19
  go_wp2_with fail
  refine (block_src HS.out HB1.out rfl).mono ?_
  rintro e w1 ⟨Z, hZ, rfl, hg⟩
  have G1 := Lib.hid hg
  have HZ := Lib.hid hZ
  obtain ⟨M1, hM1⟩ : ∃ M : ByteArray, M = ⟨(blockQ key).toArray⟩ := ⟨_, rfl⟩
  rw [← hM1]
  have HM1 := Lib.hid hM1
  clear hg hm s0 hZ hM1
  go_wp2
  go_ret2
  exact ⟨Z, by have := HG1.out; have := HZ.out; omega, by rw [← HM1.out]; rfl, G1.out⟩
set_option maxHeartbeats 4000000 in
set_option maxRecDepth 20000 in
theorem blockNo_or {B : Nat} {w : World} {G : Nat} {F : Nat → Prop} {st : St} {A1 : Option Addr} {n1 c1 : Nat} (hO : OIo B w G F st) (h2' : n1 ≠ 32) (h3' : n1 ≤ 2000) :
    Calls Tryz.prog 19 #[.pointer (some ⟨G, 0, none⟩), .slice A1 n1 c1] w fun e w' => e = .returned (.tuple #[.nilIface, .int .i64 2]) ∧ Onw (OIo B) w G F st w' := by
  have h2 := Lib.hid h2'
  have h3 := Lib.hid h3'
  clear h2' h3'
  have HO := Lib.hid hO
  obtain ⟨H, FS, hG1, hG, hS, hnF, hF⟩ := hO
  have s0 : w.cell? ⟨G, 0, none⟩ = some (.iface 45 (.pointer (some ⟨H, 0, none⟩))) := cell_of_row _ G 0 _ _ (0, 0) hG
  have hm := fun (k : Nat) (V : World) => m_block H k V
  clear hG1 hG hS hnF hF
  go_enter Tryz.func19, Tryz.ntmps19
  go_wp2_with fail
  refine (blockNo_src h2.out h3.out).mono ?_
  rintro e w1 ⟨rfl, hw⟩
  have HW := Lib.hid (show Grown w w1 by rw [hw]; exact Grown.refl w)
  clear hw hm s0
  go_wp2
  go_ret2
  exact ⟨rfl, onw_grown HO.out HW.out⟩
theorem m_encrypt (H k : Nat) (V : World) : (method (k + 1) 45 (.pointer (some ⟨H, 0, none⟩)) "turnkey/oracle.encrypt").run Tryz.prog V = .ok (66, .pointer (some ⟨H, 0, none⟩)) V := by kernel_rfl
set_option maxHeartbeats 4000000 in
theorem unit_or {B : Nat} {w : World} {G : Nat} {F : Nat → Prop} {st : St} {i : Nat} {A1 A2 : Option Addr} {n1 c1 n2 c2 : Nat} {key b : List UInt8} {number : Int} (hO : OIo B w G F st) (hN : Nm st i) (hi : i ≤ 200) (h1 : Bes w F A1 n1 c1 key) (h2 : n1 = 64) (h3 : 0 ≤ number) (h4 : Bes w F A2 n2 c2 b) (h5 : 16 ≤ n2) (h6 : n2 ≤ 100) (h7 : n2 % 16 = 0) :
    Calls Tryz.prog 21 #[.pointer (some ⟨G, 0, none⟩), .slice A1 n1 c1, .int .i64 number, .slice A2 n2 c2] w fun e w' =>
      ∃ A c, e = .returned (.tuple #[.slice A n2 c, .int .i64 0]) ∧ n2 ≤ c ∧ (idealM.unit st key number b).1.length = n2 ∧ Rd w' w'.heap.size A (idealM.unit st key number b).1 ∧ (∀ x, A = some x → w.heap.size ≤ x.block) ∧
        ∃ F', OIo B w' G F' (idealM.unit st key number b).2 ∧ (∀ k, F' k → F k ∨ w.heap.size ≤ k) ∧ Ch F w w' ∧ Off F' A (idealM.unit st key number b).1 := by
  subst h2
  have HH := Lib.hid (And.intro h3 (And.intro h5 (And.intro h6 h7)))
  clear h3 h5 h6 h7
  obtain ⟨H, FS, hG1, hG, hS, hnF, hF⟩ := hO
  have HG1 := Lib.hid hG1
  have HG := Lib.hid hG
  have HS := Lib.hid hS
  have HnF := Lib.hid hnF
  have HF := Lib.hid hF
  have HN := Lib.hid hN
  have HB1 := Lib.hid (h1.less (fun k hk => (hF k).2 (.inr hk)))
  have HB2 := Lib.hid (h4.less (fun k hk => (hF k).2 (.inr hk)))
  have s0 : w.cell? ⟨G, 0, none⟩ = some (.iface 45 (.pointer (some ⟨H, 0, none⟩))) := cell_of_row _ G 0 _ _ (0, 0) hG
  have hm := fun (k : Nat) (V : World) => m_encrypt H k V
  clear hG1 hG hS hnF hF h1 h4 hN
  go_enter Tryz.func21, Tryz.ntmps21
  go_wp2_with fail
  refine (unit_src HS.out HN.out hi HB1.out rfl HH.out.1 HB2.out HH.out.2.1 HH.out.2.2.1 HH.out.2.2.2).mono ?_
  rintro e w1 ⟨A, c, rfl, hc, hl, hr, hfr, F', hS2, hF', hC, hoff⟩
  have HR := Lib.hid (And.intro hc (And.intro hl (And.intro hr (And.intro hfr hoff))))
  have HST := Lib.hid (oi_step (B := B) HG1.out HG.out HnF.out HF.out hS2 hF' hC)
  clear hc hl hr hfr hS2 hF' hC hoff hm s0
  go_wp2
  go_ret2
  obtain ⟨hc, hl, hr, hfr, hoff⟩ := HR.out
  refine ⟨A, c, rfl, hc, hl, hr, hfr, _, HST.out.1, HST.out.2.1, HST.out.2.2, fun x hx hne hf => ?_⟩
  rcases hf with e | hf
  · have h1 := hfr x hx
    have h2 := lt_of_heap HG.out
    omega
  · exact hoff x hx hne hf
set_option maxHeartbeats 4000000 in
set_option maxRecDepth 20000 in
theorem unitNo_or {B : Nat} {w : World} {G : Nat} {F : Nat → Prop} {st : St} {A1 A2 : Option Addr} {n1 c1 n2 c2 : Nat} {number : Int} (hO : OIo B w G F st) (h' : ¬ okU n1 number n2) :
    Calls Tryz.prog 21 #[.pointer (some ⟨G, 0, none⟩), .slice A1 n1 c1, .int .i64 number, .slice A2 n2 c2] w fun e w' => e = .returned (.tuple #[.slice none 0 0, .int .i64 2]) ∧ Onw (OIo B) w G F st w' := by
  have h := Lib.hid h'
  clear h'
  have HO := Lib.hid hO
  obtain ⟨H, FS, hG1, hG, hS, hnF, hF⟩ := hO
  have s0 : w.cell? ⟨G, 0, none⟩ = some (.iface 45 (.pointer (some ⟨H, 0, none⟩))) := cell_of_row _ G 0 _ _ (0, 0) hG
  have hm := fun (k : Nat) (V : World) => m_encrypt H k V
  clear hG1 hG hS hnF hF
  go_enter Tryz.func21, Tryz.ntmps21
  go_wp2_with fail
  refine (unitNo_src (A1 := A1) (A2 := A2) (c1 := c1) (c2 := c2) h.out).mono ?_
  rintro e w1 ⟨rfl, hw⟩
  have HW := Lib.hid (show Grown w w1 by rw [hw]; exact Grown.refl w)
  clear hw hm s0
  go_wp2
  go_ret2
  exact ⟨rfl, onw_grown HO.out HW.out⟩
theorem m_decrypt (H k : Nat) (V : World) : (method (k + 1) 45 (.pointer (some ⟨H, 0, none⟩)) "turnkey/oracle.decrypt").run Tryz.prog V = .ok (65, .pointer (some ⟨H, 0, none⟩)) V := by kernel_rfl
set_option maxHeartbeats 4000000 in
theorem ununit_or {B : Nat} {w : World} {G : Nat} {F : Nat → Prop} {st : St} {i : Nat} {A1 A2 : Option Addr} {n1 c1 n2 c2 : Nat} {key b : List UInt8} {number : Int} (hO : OIo B w G F st) (hN : Nm st i) (hi : i ≤ 200) (h1 : Bes w F A1 n1 c1 key) (h2 : n1 = 64) (h3 : 0 ≤ number) (h4 : Bes w F A2 n2 c2 b) (h5 : 16 ≤ n2) (h6 : n2 ≤ 100) (h7 : n2 % 16 = 0) :
    Calls Tryz.prog 23 #[.pointer (some ⟨G, 0, none⟩), .slice A1 n1 c1, .int .i64 number, .slice A2 n2 c2] w fun e w' =>
      ∃ A c, e = .returned (.tuple #[.slice A n2 c, .int .i64 0]) ∧ n2 ≤ c ∧ (idealM.ununit st key number b).1.length = n2 ∧ Rd w' w'.heap.size A (idealM.ununit st key number b).1 ∧ (∀ x, A = some x → w.heap.size ≤ x.block) ∧
        ∃ F', OIo B w' G F' (idealM.ununit st key number b).2 ∧ (∀ k, F' k → F k ∨ w.heap.size ≤ k) ∧ Ch F w w' ∧ Off F' A (idealM.ununit st key number b).1 := by
  subst h2
  have HH := Lib.hid (And.intro h3 (And.intro h5 (And.intro h6 h7)))
  clear h3 h5 h6 h7
  obtain ⟨H, FS, hG1, hG, hS, hnF, hF⟩ := hO
  have HG1 := Lib.hid hG1
  have HG := Lib.hid hG
  have HS := Lib.hid hS
  have HnF := Lib.hid hnF
  have HF := Lib.hid hF
  have HN := Lib.hid hN
  have HB1 := Lib.hid (h1.less (fun k hk => (hF k).2 (.inr hk)))
  have HB2 := Lib.hid (h4.less (fun k hk => (hF k).2 (.inr hk)))
  have s0 : w.cell? ⟨G, 0, none⟩ = some (.iface 45 (.pointer (some ⟨H, 0, none⟩))) := cell_of_row _ G 0 _ _ (0, 0) hG
  have hm := fun (k : Nat) (V : World) => m_decrypt H k V
  clear hG1 hG hS hnF hF h1 h4 hN
  go_enter Tryz.func23, Tryz.ntmps23
  go_wp2_with fail
  refine (ununit_src HS.out HN.out hi HB1.out rfl HH.out.1 HB2.out HH.out.2.1 HH.out.2.2.1 HH.out.2.2.2).mono ?_
  rintro e w1 ⟨A, c, rfl, hc, hl, hr, hfr, F', hS2, hF', hC, hoff⟩
  have HR := Lib.hid (And.intro hc (And.intro hl (And.intro hr (And.intro hfr hoff))))
  have HST := Lib.hid (oi_step (B := B) HG1.out HG.out HnF.out HF.out hS2 hF' hC)
  clear hc hl hr hfr hS2 hF' hC hoff hm s0
  go_wp2
  go_ret2
  obtain ⟨hc, hl, hr, hfr, hoff⟩ := HR.out
  refine ⟨A, c, rfl, hc, hl, hr, hfr, _, HST.out.1, HST.out.2.1, HST.out.2.2, fun x hx hne hf => ?_⟩
  rcases hf with e | hf
  · have h1 := hfr x hx
    have h2 := lt_of_heap HG.out
    omega
  · exact hoff x hx hne hf
set_option maxHeartbeats 4000000 in
set_option maxRecDepth 20000 in
theorem ununitNo_or {B : Nat} {w : World} {G : Nat} {F : Nat → Prop} {st : St} {A1 A2 : Option Addr} {n1 c1 n2 c2 : Nat} {number : Int} (hO : OIo B w G F st) (h' : ¬ okU n1 number n2) :
    Calls Tryz.prog 23 #[.pointer (some ⟨G, 0, none⟩), .slice A1 n1 c1, .int .i64 number, .slice A2 n2 c2] w fun e w' => e = .returned (.tuple #[.slice none 0 0, .int .i64 2]) ∧ Onw (OIo B) w G F st w' := by
  have h := Lib.hid h'
  clear h'
  have HO := Lib.hid hO
  obtain ⟨H, FS, hG1, hG, hS, hnF, hF⟩ := hO
  have s0 : w.cell? ⟨G, 0, none⟩ = some (.iface 45 (.pointer (some ⟨H, 0, none⟩))) := cell_of_row _ G 0 _ _ (0, 0) hG
  have hm := fun (k : Nat) (V : World) => m_decrypt H k V
  clear hG1 hG hS hnF hF
  go_enter Tryz.func23, Tryz.ntmps23
  go_wp2_with fail
  refine (ununitNo_src (A1 := A1) (A2 := A2) (c1 := c1) (c2 := c2) h.out).mono ?_
  rintro e w1 ⟨rfl, hw⟩
  have HW := Lib.hid (show Grown w w1 by rw [hw]; exact Grown.refl w)
  clear hw hm s0
  go_wp2
  go_ret2
  exact ⟨rfl, onw_grown HO.out HW.out⟩
end Go.Proofs.YtjklgmhaebjjaaaGreat.S12
namespace Go.Proofs.YtjklgmhaebjjaaaGreat.S12
open S11
open Go.RowKit
set_option linter.unusedVariables false
set_option linter.unusedSimpArgs false

theorem mk0 (k : Nat) (hk : k ≤ 1000000) (w : World) :
    (Instr.makeSlice 22 (.int .i64 0) (.int .i64 (k : Int))).run Tryz.prog w = .ok (.slice (some ⟨w.heap.size, 0, none⟩) 0 k) (w.alloc (.cells (bvs (List.replicate k 0)).toArray 5)) := by
  obtain ⟨i0, hi, hz0, hz1, hz2⟩ := info_parts info5
  have hr := run_make (P := Tryz.prog) w 22 5 i0 _ Tryz.underlying22 hi hz0 .i64 .i64 0 (k : Int) (by omega) (by omega) (by rw [hz2]; omega) (by omega)
  simp only [Int.toNat_natCast, hz1, Nat.mul_one] at hr
  rw [hr]
  have : madeCells (Value.int IntKind.u8 0).cells k = (bvs (List.replicate k 0)).toArray := by
    apply Array.toList_inj.1
    show (madeCells #[_] k).toList = _
    rw [toList_madeCells_one]
    simp [bvs, bv]
  rw [this]
  rfl
theorem own_mk0 (w : World) (k : Nat) (hk : k ≤ 1000000) (base : Nat) (hb : base ≤ w.heap.size) : Own (w.alloc (.cells (bvs (List.replicate k 0)).toArray 5)) base (some ⟨w.heap.size, 0, none⟩) k [] :=
  ⟨by simp [bvs], .inr ⟨w.heap.size, k, _, rfl, hb, heap_alloc_new w _, Nat.zero_le _, by unfold maxLen; omega, by simp [bvs], by simp [bvs]⟩⟩
theorem own_same {w w' : World} {base : Nat} {A : Option Addr} {c : Nat} {l : List UInt8} (h : Own w base A c l) (hs : ∀ x, A = some x → w'.heap[x.block]? = w.heap[x.block]?) : Own w' base A c l := by
  refine ⟨h.1, ?_⟩
  rcases h.2 with h1 | ⟨g1, cap, cur, h1, h2, h3, r⟩
  · exact .inl h1
  · refine .inr ⟨g1, cap, cur, h1, h2, ?_, r⟩
    simp only [Value.slice.injEq] at h1
    rw [hs _ h1.1]
    exact h3
/-- append where there is room: the slice stays where it is, and all other blocks as they are. -/
theorem run_appR {w : World} {g : Nat} {c : Nat} {l : List UInt8} (h : Own w g (some ⟨g, 0, none⟩) c l) {B : Nat} {A2 : Addr} (c2 : Nat) {l2 : List UInt8} (h2 : Rd w B (some A2) l2)
    (hroom : l.length + l2.length ≤ c) (hl : l.length + l2.length ≤ 4294967296) (ty : TypeId) :
    ∃ w', (Builtin.append_ #[22, 22] ty #[.slice (some ⟨g, 0, none⟩) l.length c, .slice (some A2) l2.length c2]).run Tryz.prog w = .ok (.slice (some ⟨g, 0, none⟩) (l ++ l2).length c) w' ∧ Own w' g (some ⟨g, 0, none⟩) c (l ++ l2) ∧ w.grownBy w' (some g) := by
  obtain ⟨i0, hi, hz0, hz1, hz2⟩ := info_parts info5
  have hb : g ≤ w.heap.size := by
    rcases h.form with ⟨e, _⟩ | ⟨g', cur, e, _, hh, _⟩
    · cases e
    · simp only [Option.some.injEq, Addr.mk.injEq] at e
      have := lt_of_heap hh
      omega
  obtain ⟨A', c', w', hrun, hown, hg, _⟩ := run_appS h c2 h2 hl hb ty
  have hcells : ∀ j u, (bvs l2)[j]? = some u → w.cell? (A2.add j) = some u := by
    intro j u hu
    rcases h2 with rfl | ⟨b, off, e, hb, hc⟩
    · simp [bvs] at hu
    · simp only [Option.some.injEq] at e
      subst e
      have hj : j < l2.length := by
        have := (List.getElem?_eq_some_iff.1 hu).1
        simpa [bvs] using this
      have h3 := hc j hj
      simp [bvs, hj] at hu
      subst hu
      by_cases h0 : j = 0
      · subst h0; simpa [Addr.add] using h3
      · simpa [Addr.add, h0] using h3
  rcases h.2 with ⟨h1, h3⟩ | ⟨g1, cap, cur, h1, hbg, hheap, hnc, hcm, hcs, htake⟩
  · simp only [Value.slice.injEq] at h1
    cases h1.1
  · simp only [Value.slice.injEq, Option.some.injEq, Addr.mk.injEq] at h1
    obtain ⟨⟨rfl, _⟩, _, rfl⟩ := h1
    have hr := run_append_room (P := Tryz.prog) w 22 ty 5 i0 Tryz.underlying22 hi g l.length c cur hheap A2 l2.length c2 (bvs l2) (by rw [hz1]; simp [bvs]) hcells (bvs_one l2) hroom (by rw [hz1, hcs]; simp [bvs]; omega)
    have e := hrun.symm.trans hr
    injection e with e _
    simp only [Value.slice.injEq] at e
    obtain ⟨rfl, _, rfl⟩ := e
    refine ⟨w', hrun, hown, ?_⟩
    simpa [Value.ownBlock] using hg
section
variable {w : World} {o : Oper} {a : Act} {K : Act → World → Prop} {Q : Exit → Act → World → Prop} {ops : Array Oper} {rest : List Oper}
theorem wp_appR (s x : Operand) (ho : o.op = .call { callee := .builtin .append, args := #[s, x], argTypes := #[22, 22] })
    {g n c n2 m : Nat} {l : List UInt8} (hn : l.length = n) (hs : a.eval s = .slice (some ⟨g, 0, none⟩) n c) (h : Own w g (some ⟨g, 0, none⟩) c l) {B : Nat} {A2 : Addr} {c2 : Nat} {l2 : List UInt8} (hn2 : l2.length = n2) (hx : a.eval x = .slice (some A2) n2 c2) (h2 : Rd w B (some A2) l2)
    (hm : m = n + n2) (hroom : m ≤ c) (hl : m ≤ 4294967296)
    (hk : ∀ w', Own w' g (some ⟨g, 0, none⟩) c (l ++ l2) → w.grownBy w' (some g) → K (a.put o.dst (.slice (some ⟨g, 0, none⟩) m c)) w') : o.wp Tryz.prog a w K Q := by
  subst hn hn2
  obtain ⟨w', hrun, h3, h4⟩ := run_appR h c2 h2 (by omega) (by omega) o.type
  unfold Oper.wp execOp
  simp only [ho, resolve, invoke, builtin, Sem.run_bind, Sem.run_pure, Result.andThen_ok, List.map_toArray, List.map_cons, List.map_nil, hs, hx, hrun]
  have := hk w' h3 h4
  rwa [hm, ← List.length_append] at this
theorem wpList_appR (hgd : o.guard = none) (s x : Operand) (ho : o.op = .call { callee := .builtin .append, args := #[s, x], argTypes := #[22, 22] })
    {g n c n2 m : Nat} {l : List UInt8} (hn : l.length = n) (hs : a.eval s = .slice (some ⟨g, 0, none⟩) n c) (h : Own w g (some ⟨g, 0, none⟩) c l) {B : Nat} {A2 : Addr} {c2 : Nat} {l2 : List UInt8} (hn2 : l2.length = n2) (hx : a.eval x = .slice (some A2) n2 c2) (h2 : Rd w B (some A2) l2)
    (hm : m = n + n2) (hroom : m ≤ c) (hl : m ≤ 4294967296)
    (hk : ∀ w', Own w' g (some ⟨g, 0, none⟩) c (l ++ l2) → w.grownBy w' (some g) → wpList Tryz.prog ops Q rest (a.put o.dst (.slice (some ⟨g, 0, none⟩) m c)) w') : wpList Tryz.prog ops Q (o :: rest) a w :=
  wpList_plain hgd fun _ hK => wp_appR s x ho hn hs h hn2 hx h2 hm hroom hl fun w' h3 h4 => hK _ _ (hk w' h3 h4)
end

theorem oi_same {B : Nat} {w w' : World} {G : Nat} {F : Nat → Prop} {st : St} (h : OIo B w G F st) (hk : ∀ k, F k → w'.heap[k]? = w.heap[k]?) (hs : w.heap.size ≤ w'.heap.size) : OIo B w' G F st := by
  obtain ⟨H, FS, hG1, hG, hS, hnF, hF⟩ := h
  exact ⟨H, FS, hG1, (hk G ((hF G).2 (.inl rfl))).trans hG, src_keep w w' H FS st hS (fun k h => hk k ((hF k).2 (.inr h))) hs, hnF, hF⟩
/-- The block that came last: none, or an array in a cell of its own, behind go. -/
def Prv (w : World) (F : Nat → Prop) (go : Nat) (P : Option Addr) (t : List UInt8) : Prop := t = [] ∨ ∃ g, P = some ⟨g, 0, none⟩ ∧ Ba w g 43 t ∧ ¬ F g ∧ go < g
theorem Prv.bes {w : World} {F : Nat → Prop} {go : Nat} {P : Option Addr} {t : List UInt8} (h : Prv w F go P t) (c : Nat) (hc : t.length ≤ c) : Bes w F P t.length c t := by
  rcases h with rfl | ⟨g, rfl, h1, h2, _⟩
  · exact ⟨.inl rfl, rfl, hc, fun x _ hne => absurd rfl hne⟩
  · exact ⟨h1.rd, rfl, hc, fun x hx _ hf => by simp only [Option.some.injEq] at hx; subst hx; exact h2 hf⟩
/-- Where expand's loop stands: it was begun in w; its row lies at go. -/
structure Ex (B : Nat) (w wr : World) (G go : Nat) (F Fj : Nat → Prop) (stj : St) (A1 : Option Addr) (key : List UInt8) (A2 : Option Addr) (pre : List UInt8) (P : Option Addr) (t s : List UInt8) (M : Nat) : Prop where
  e : go = w.heap.size
  o : OIo B wr G Fj stj
  old : ∀ k, F k → k < go
  sub : ∀ k, Fj k → F k ∨ go < k
  ch : Ch F w wr
  k : Rd wr go A1 key ∧ Off Fj A1 key
  i : Rd wr go A2 pre ∧ Off Fj A2 pre
  p : Prv wr Fj go P t
  own : Own wr go (some ⟨go, 0, none⟩) M s
  lt : go < wr.heap.size
section
variable {B : Nat} {w wr w' : World} {G go : Nat} {F Fj F' : Nat → Prop} {stj st' : St} {A1 : Option Addr} {key : List UInt8} {A2 : Option Addr} {pre : List UInt8} {P : Option Addr} {t s : List UInt8} {M : Nat}
theorem Ex.grow (h : Ex B w wr G go F Fj stj A1 key A2 pre P t s M) (hg : Grown wr w') : Ex B w w' G go F Fj stj A1 key A2 pre P t s M where
  e := h.e
  o := oi_grow h.o hg
  old := h.old
  sub := h.sub
  ch := Ch.trans h.ch (Ch.grown hg)
  k := ⟨h.k.1.below (Below.mono hg (Nat.le_of_lt h.lt)), h.k.2⟩
  i := ⟨h.i.1.below (Below.mono hg (Nat.le_of_lt h.lt)), h.i.2⟩
  p := h.p.imp id fun ⟨g, e, h1, h2, h3⟩ => ⟨g, e, h1.grow hg, h2, h3⟩
  own := own_same h.own (fun x hx => by simp only [Option.some.injEq] at hx; subst hx; exact hg.block go h.lt)
  lt := Nat.lt_of_lt_of_le h.lt hg.size
theorem Ex.not (h : Ex B w wr G go F Fj stj A1 key A2 pre P t s M) : ¬ Fj go := fun hf => by
  rcases h.sub go hf with h1 | h1
  · have := h.old go h1; omega
  · omega
theorem rd_chB {B : Nat} {F : Nat → Prop} {w w' : World} {A : Option Addr} {l : List UInt8} (h : Rd w B A l) (ho : Off F A l) (hc : Ch F w w') (hB : B ≤ w.heap.size) : Rd w' B A l := by
  by_cases hl : l = []
  · exact .inl hl
  rcases h with e | ⟨b, off, e, hb, hcl⟩
  · exact .inl e
  · exact .inr ⟨b, off, e, hb, fun j hj => (World.cell?_of_block (a := ⟨b, off + j, none⟩) (hc.block b (by omega) (ho _ e hl))).trans (hcl j hj)⟩
theorem off_on {F F' : Nat → Prop} {w : World} {A : Option Addr} {l : List UInt8} {B : Nat} (h : Off F A l) (hr : Rd w B A l) (hB : B ≤ w.heap.size) (hF : ∀ k, F' k → F k ∨ w.heap.size ≤ k) : Off F' A l := fun x hx hl hf => by
  rcases hF _ hf with h1 | h1
  · exact h x hx hl h1
  · rcases hr with e | ⟨b, off, e, hb, _⟩
    · exact hl e
    · rw [hx] at e
      simp only [Option.some.injEq] at e
      subst e
      simp at h1
      omega
/-- Behind a step of the oracle. -/
theorem Ex.step (h : Ex B w wr G go F Fj stj A1 key A2 pre P t s M) (ho : OIo B w' G F' st') (hF' : ∀ k, F' k → Fj k ∨ wr.heap.size ≤ k) (hC : Ch Fj wr w') : Ex B w w' G go F F' st' A1 key A2 pre P t s M where
  e := h.e
  o := ho
  old := h.old
  sub := fun k hk => by
    rcases hF' k hk with h1 | h1
    · exact h.sub k h1
    · exact .inr (Nat.lt_of_lt_of_le h.lt h1)
  ch := Ch.then h.ch hC (fun k hk hf => by
    rcases h.sub k hf with h1 | h1
    · exact h1
    · have := h.e; omega)
  k := ⟨rd_chB h.k.1 h.k.2 hC (Nat.le_of_lt h.lt), off_on h.k.2 h.k.1 (Nat.le_of_lt h.lt) hF'⟩
  i := ⟨rd_chB h.i.1 h.i.2 hC (Nat.le_of_lt h.lt), off_on h.i.2 h.i.1 (Nat.le_of_lt h.lt) hF'⟩
  p := h.p.imp id fun ⟨g, e, h1, h2, h3⟩ => ⟨g, e, h1.ch hC h2, fun hf => by
    rcases hF' g hf with h4 | h4
    · exact h2 h4
    · have := h1.lt; omega, h3⟩
  own := own_same h.own (fun x hx => by simp only [Option.some.injEq] at hx; subst hx; exact hC.block go h.lt h.not)
  lt := Nat.lt_of_lt_of_le h.lt hC.size
/-- A new block comes last. -/
theorem Ex.put (h : Ex B w wr G go F Fj stj A1 key A2 pre P t s M) (hg : Grown wr w') {r : Nat} {D : List UInt8} (hr : wr.heap.size ≤ r) (hb : Ba w' r 43 D) : Ex B w w' G go F Fj stj A1 key A2 pre (some ⟨r, 0, none⟩) D s M :=
  { h.grow hg with p := .inr ⟨r, rfl, hb, fun hf => by have := oi_foot B wr G Fj stj h.o r hf; omega, Nat.lt_of_lt_of_le h.lt hr⟩ }
/-- The row has grown in its place. -/
theorem Ex.app (h : Ex B w wr G go F Fj stj A1 key A2 pre P t s M) (hg : wr.grownBy w' (some go)) {s' : List UInt8} (ho : Own w' go (some ⟨go, 0, none⟩) M s') : Ex B w w' G go F Fj stj A1 key A2 pre P t s' M := by
  have hb : ∀ k, k < wr.heap.size → k ≠ go → w'.heap[k]? = wr.heap[k]? := fun k hk hne => hg.block k hk (by simpa using hne)
  have hbe : Below go wr w' := ⟨hg.os, hg.tape, hg.output, hg.size, fun k hk => hb k (by have := h.lt; omega) (by omega)⟩
  exact { e := h.e
          o := oi_same h.o (fun k hk => hb k (oi_foot B wr G Fj stj h.o k hk) (fun e => by subst e; exact h.not hk)) hg.size
          old := h.old
          sub := h.sub
          ch := ⟨hg.os.trans h.ch.os, hg.tape.trans h.ch.tape, hg.output.trans h.ch.output, Nat.le_trans h.ch.size hg.size, fun k hk hf => (hb k (Nat.lt_of_lt_of_le hk h.ch.size) (by have := h.e; omega)).trans (h.ch.block k hk hf)⟩
          k := ⟨h.k.1.below hbe, h.k.2⟩
          i := ⟨h.i.1.below hbe, h.i.2⟩
          p := h.p.imp id fun ⟨g, e, h1, h2, h3⟩ => ⟨g, e, (hb g h1.lt (by omega)).trans h1, h2, h3⟩
          own := ho
          lt := Nat.lt_of_lt_of_le h.lt hg.size }
end
/-- Three pieces in a row that was just made. -/
theorem besL_three {B : Nat} {w : World} {G : Nat} {F : Nat → Prop} {st : St} (h : OIo B w G F st) {A1 A2 A3 : Option Addr} {n1 c1 n2 c2 n3 c3 : Nat} {p q r : List UInt8} (h1 : Bes w F A1 n1 c1 p) (h2 : Bes w F A2 n2 c2 q) (h3 : Bes w F A3 n3 c3 r) :
    BesL (w.alloc (.cells #[.slice A1 n1 c1, .slice A2 n2 c2, .slice A3 n3 c3] 22)) F (some ⟨w.heap.size, 0, none⟩) 3 3 [p, q, r] := by
  have hnew := heap_alloc_new w (.cells #[.slice A1 n1 c1, .slice A2 n2 c2, .slice A3 n3 c3] 22)
  have hc := fun j => cell_of_row _ w.heap.size j _ 22 (0, 0) hnew
  have g := alloc_below w (.cells #[.slice A1 n1 c1, .slice A2 n2 c2, .slice A3 n3 c3] 22)
  have hsz : w.heap.size < (w.alloc (.cells #[.slice A1 n1 c1, .slice A2 n2 c2, .slice A3 n3 c3] 22)).heap.size := by simp
  refine ⟨.inr ⟨w.heap.size, 0, rfl, hsz, fun j hj => ?_⟩, rfl, Nat.le_refl _, fun _ => ⟨w.heap.size, 0, rfl, fun hf => by have := oi_foot B w G F st h _ hf; omega, fun j hj => ?_⟩⟩
  · rcases (show j = 0 ∨ j = 1 ∨ j = 2 by simp at hj; omega) with rfl | rfl | rfl
    · exact ⟨A1, c1, by rw [hc]; simp [h1.2.1], by simpa [h1.2.1] using h1.2.2.1, h1.1.grow g⟩
    · exact ⟨A2, c2, by rw [hc]; simp [h2.2.1], by simpa [h2.2.1] using h2.2.2.1, h2.1.grow g⟩
    · exact ⟨A3, c3, by rw [hc]; simp [h3.2.1], by simpa [h3.2.1] using h3.2.2.1, h3.1.grow g⟩
  · rcases (show j = 0 ∨ j = 1 ∨ j = 2 by simp at hj; omega) with rfl | rfl | rfl
    · exact ⟨A1, c1, by rw [hc]; simp [h1.2.1], h1.2.2.2⟩
    · exact ⟨A2, c2, by rw [hc]; simp [h2.2.1], h2.2.2.2⟩
    · exact ⟨A3, c3, by rw [hc]; simp [h3.2.1], h3.2.2.2⟩
end Go.Proofs.YtjklgmhaebjjaaaGreat.S12
