/-
  Acts of the law: MACs. The program's ideal oracle: Seal, Tag, Nonce, Bad, Queries.
-/
import Derived.Test.YtjklgmhaebjjaaaGreatMgOidealMain32
import Derived.Test.YtjklgmhaebjjaaaGreatMgOidealMain30
import Derived.Test.YtjklgmhaebjjaaaGreatMgOidealMain31
namespace Go.Proofs.YtjklgmhaebjjaaaGreat.S12
open S11
open Go.RowKit
set_option linter.unusedVariables false
set_option linter.unusedSimpArgs false

theorem BesL.grow {w w' : World} {F : Nat → Prop} {A : Option Addr} {n c : Nat} {ls : List (List UInt8)} (h : BesL w F A n c ls) (hg : Grown w w') : BesL w' F A n c ls := by
  obtain ⟨h1, h2, h3, h4⟩ := h
  refine ⟨(h1.keep hg).more hg.size, h2, h3, fun hne => ?_⟩
  obtain ⟨b, off, e, hb, hc⟩ := h4 hne
  refine ⟨b, off, e, hb, fun j hj => ?_⟩
  obtain ⟨A', c', hcl, ho⟩ := hc j hj
  have hlt : b < w.heap.size := by
    rcases h1 with h0 | ⟨b2, o2, e2, hb2, _⟩
    · exact absurd h0 hne
    · rw [e] at e2
      simp only [Option.some.injEq, Addr.mk.injEq] at e2
      rw [e2.1]; exact hb2
  exact ⟨A', c', (hg.cell (p := ⟨b, off + j, none⟩) hlt).trans hcl, ho⟩
theorem besL_two {M : Mod} {B : Nat} {O : Ob M} (K : Kept B O) {w : World} {G : Nat} {F : Nat → Prop} {st : M.σ} (h : O w G F st) {A1 A2 : Option Addr} {n1 c1 n2 c2 : Nat} {p q : List UInt8} (h1 : Bes w F A1 n1 c1 p) (h2 : Bes w F A2 n2 c2 q) :
    BesL (w.alloc (.cells #[.slice A1 n1 c1, .slice A2 n2 c2] 22)) F (some ⟨w.heap.size, 0, none⟩) 2 2 [p, q] := by
  have hnew := heap_alloc_new w (.cells #[.slice A1 n1 c1, .slice A2 n2 c2] 22)
  have hc := fun j => cell_of_row _ w.heap.size j _ 22 (0, 0) hnew
  have g := alloc_below w (.cells #[.slice A1 n1 c1, .slice A2 n2 c2] 22)
  obtain ⟨r1, rfl, k1, o1⟩ := h1
  obtain ⟨r2, rfl, k2, o2⟩ := h2
  refine ⟨.inr ⟨w.heap.size, 0, rfl, by simp, fun j hj => ?_⟩, rfl, Nat.le_refl _, fun _ => ⟨w.heap.size, 0, rfl, fun hf => by have := K.foot w G F st h _ hf; omega, fun j hj => ?_⟩⟩
  · rcases (show j = 0 ∨ j = 1 by simp at hj; omega) with rfl | rfl
    · exact ⟨A1, c1, by rw [hc]; rfl, k1, r1.grow g⟩
    · exact ⟨A2, c2, by rw [hc]; rfl, k2, r2.grow g⟩
  · rcases (show j = 0 ∨ j = 1 by simp at hj; omega) with rfl | rfl
    · exact ⟨A1, c1, by rw [hc]; rfl, o1⟩
    · exact ⟨A2, c2, by rw [hc]; rfl, o2⟩
theorem besL_one {M : Mod} {B : Nat} {O : Ob M} (K : Kept B O) {w : World} {G : Nat} {F : Nat → Prop} {st : M.σ} (h : O w G F st) {A1 : Option Addr} {n1 c1 : Nat} {p : List UInt8} (h1 : Bes w F A1 n1 c1 p) :
    BesL (w.alloc (.cells #[.slice A1 n1 c1] 22)) F (some ⟨w.heap.size, 0, none⟩) 1 1 [p] := by
  have hnew := heap_alloc_new w (.cells #[.slice A1 n1 c1] 22)
  have hc := fun j => cell_of_row _ w.heap.size j _ 22 (0, 0) hnew
  have g := alloc_below w (.cells #[.slice A1 n1 c1] 22)
  obtain ⟨r1, rfl, k1, o1⟩ := h1
  refine ⟨.inr ⟨w.heap.size, 0, rfl, by simp, fun j hj => ?_⟩, rfl, Nat.le_refl _, fun _ => ⟨w.heap.size, 0, rfl, fun hf => by have := K.foot w G F st h _ hf; omega, fun j hj => ?_⟩⟩
  · obtain rfl : j = 0 := by simp at hj; omega
    exact ⟨A1, c1, by rw [hc]; rfl, k1, r1.grow g⟩
  · obtain rfl : j = 0 := by simp at hj; omega
    exact ⟨A1, c1, by rw [hc]; rfl, o1⟩
theorem cutT (W : World) (A : Option Addr) (m c d : Nat) (h : d ≤ c) : (Instr.slice 22 (.slice A m c) none (some (.int .i64 (d : Int))) none).run Tryz.prog W = .ok (.slice A d c) W := by
  have hle : ((d : Int)).toNat ≤ c := by simpa using h
  go_simp
theorem cutF (W : World) (A : Option Addr) (m c d : Nat) (h : d ≤ m) : (Instr.slice 22 (.slice A m c) (some (.int .i64 (d : Int))) none none).run Tryz.prog W = .ok (.slice (if c = d then A else A.map (·.add d)) (m - d) (c - d)) W := by
  obtain ⟨i0, hi, hz0, hz1, hz2⟩ := info_parts info5
  have he : Tryz.prog.elem 22 = 5 := by kernel_rfl
  rw [run_slice_l W 22 A m c (by rw [he]; exact Tryz.underlying22) .i64 (d : Int) (by omega) (by omega), he]
  simp [sizeOf, typeInfo, hi, hz1, sliced, Result.andThen]
def z32 : List UInt8 := List.replicate 32 0
theorem i64a : (Tryz.prog.info? 43).map (·.size) = some 64 := by kernel_rfl
theorem i32a : (Tryz.prog.info? 51).map (·.size) = some 32 := by kernel_rfl
theorem zv64 (V : World) : (zeroValue 43).run Tryz.prog V = .ok (.agg (bvs z64).toArray) V := by kernel_rfl
theorem zv32 (V : World) : (zeroValue 51).run Tryz.prog V = .ok (.agg (bvs z32).toArray) V := by kernel_rfl
theorem cut64 (W : World) (g : Nat) : (Instr.sliceAt 43 (.pointer (some ⟨g, 0, none⟩)) none none none).run Tryz.prog W = .ok (.slice (some ⟨g, 0, none⟩) 64 64) W := by
  obtain ⟨i0, hi0, hz0, hz1, hz2⟩ := info_parts info5
  have hel : Tryz.prog.elem 43 = 5 := by kernel_rfl
  have hl : Tryz.prog.arrayLen 43 = 64 := by kernel_rfl
  rw [run_sliceAt_array_all (P := Tryz.prog) W 43 ⟨g, 0, none⟩ (by rw [hel, hl]; kernel_rfl), hel, hl]
  simp [sizeOf, typeInfo, hi0, hz1, slicedAt, Result.andThen, Addr.add_mid]
theorem cut32 (W : World) (g : Nat) : (Instr.sliceAt 51 (.pointer (some ⟨g, 0, none⟩)) none none none).run Tryz.prog W = .ok (.slice (some ⟨g, 0, none⟩) 32 32) W := by
  obtain ⟨i0, hi0, hz0, hz1, hz2⟩ := info_parts info5
  have hel : Tryz.prog.elem 51 = 5 := by kernel_rfl
  have hl : Tryz.prog.arrayLen 51 = 32 := by kernel_rfl
  rw [run_sliceAt_array_all (P := Tryz.prog) W 51 ⟨g, 0, none⟩ (by rw [hel, hl]; kernel_rfl), hel, hl]
  simp [sizeOf, typeInfo, hi0, hz1, slicedAt, Result.andThen, Addr.add_mid]
end Go.Proofs.YtjklgmhaebjjaaaGreat.S12
namespace Go.Proofs.YtjklgmhaebjjaaaGreat.S12
open S11
open Go.RowKit
set_option linter.unusedVariables false
set_option linter.unusedSimpArgs false

theorem src_foot (w : World) (H : Nat) (F : Nat → Prop) (st : St) (h : Src w H F st) : ∀ k, F k → k < w.heap.size := by
  obtain ⟨Z, FZ, hZ1, hH, hZ, hnF, hF⟩ := h
  intro k hk
  rcases (hF k).1 hk with rfl | hk
  · exact lt_of_heap hH
  · exact lz_foot w Z FZ st hZ k hk
theorem src_keep (w w' : World) (H : Nat) (F : Nat → Prop) (st : St) (h : Src w H F st) (hk : ∀ k, F k → w'.heap[k]? = w.heap[k]?) (hs : w.heap.size ≤ w'.heap.size) : Src w' H F st := by
  obtain ⟨Z, FZ, hZ1, hH, hZ, hnF, hF⟩ := h
  exact ⟨Z, FZ, hZ1, (hk H ((hF H).2 (.inl rfl))).trans hH, lz_keep w w' Z FZ st hZ (fun k h => hk k ((hF k).2 (.inr h))) hs, hnF, hF⟩
theorem src_grow {w w' : World} {H : Nat} {F : Nat → Prop} {st : St} (h : Src w H F st) (hg : Grown w w') : Src w' H F st := src_keep w w' H F st h (fun k hk => hg.block k (src_foot w H F st h k hk)) hg.size
def OC (H : Nat) : Obj := .cells #[.iface 45 (.pointer (some ⟨H, 0, none⟩))] 50 (0, 0)
/-- The oracle, which points to its source. -/
def OIo (B : Nat) : Ob idealM := fun w G F st => ∃ H FS, G = H + 1 ∧ w.heap[G]? = some (OC H) ∧ Src w H FS st ∧ ¬ FS G ∧ ∀ k, F k ↔ k = G ∨ FS k
theorem oi_foot (B : Nat) (w : World) (G : Nat) (F : Nat → Prop) (st : St) (h : OIo B w G F st) : ∀ k, F k → k < w.heap.size := by
  obtain ⟨H, FS, hG1, hG, hS, hnF, hF⟩ := h
  intro k hk
  rcases (hF k).1 hk with rfl | hk
  · exact lt_of_heap hG
  · exact src_foot w H FS st hS k hk
theorem oi_keep (B : Nat) (w w' : World) (G : Nat) (F : Nat → Prop) (st : St) (h : OIo B w G F st) (hk : ∀ k, F k ∨ k < B → w'.heap[k]? = w.heap[k]?) (hs : w.heap.size ≤ w'.heap.size) : OIo B w' G F st := by
  obtain ⟨H, FS, hG1, hG, hS, hnF, hF⟩ := h
  exact ⟨H, FS, hG1, (hk G (.inl ((hF G).2 (.inl rfl)))).trans hG, src_keep w w' H FS st hS (fun k h => hk k (.inl ((hF k).2 (.inr h)))) hs, hnF, hF⟩
/-- Behind a step of the source, and a store into a block that the call has made (or into none). -/
theorem oi_fin {B : Nat} {w w1 w2 w3 : World} {G H : Nat} {F FS : Nat → Prop} {st st' : St} (hG1 : G = H + 1) (hG : w.heap[G]? = some (OC H)) (hS : Src w H FS st) (hnF : ¬ FS G) (hF : ∀ k, F k ↔ k = G ∨ FS k)
    (hg : Grown w w1) (ho : Onw Src w1 H FS st' w2) (r : Nat) (hr : w.heap.size ≤ r) (hr1 : r < w1.heap.size) (h3 : ∀ k, k ≠ r → w3.heap[k]? = w2.heap[k]?) (hs3 : w3.heap.size = w2.heap.size) (ho3 : w3.os = w2.os ∧ w3.tape = w2.tape ∧ w3.output = w2.output) : Onw (OIo B) w G F st' w3 := by
  obtain ⟨F', hS2, hF', hC⟩ := ho
  have hlt : G < w.heap.size := lt_of_heap hG
  have hs1 := hg.size
  have hs2 := hC.size
  have hft := src_foot w H FS st hS
  refine ⟨fun k => k = G ∨ F' k, ⟨H, F', hG1, ?_, src_keep w2 w3 H F' st' hS2 (fun k hk => h3 k ?_) (by omega), ?_, fun k => Iff.rfl⟩, ?_, ?_⟩
  · rw [h3 G (by omega), hC.block G (by omega) hnF, hg.block G hlt]
    exact hG
  · rcases hF' k hk with h | h
    · have := hft k h
      omega
    · omega
  · intro h
    rcases hF' G h with h | h
    · exact hnF h
    · omega
  · rintro k (rfl | h)
    · exact .inl ((hF _).2 (.inl rfl))
    · rcases hF' k h with h | h
      · exact .inl ((hF _).2 (.inr h))
      · exact .inr (by omega)
  · refine ⟨ho3.1.trans (hC.os.trans hg.os), ho3.2.1.trans (hC.tape.trans hg.tape), ho3.2.2.trans (hC.output.trans hg.output), by omega, fun k hk hf => ?_⟩
    rw [h3 k (by omega), hC.block k (by omega) (fun h => hf ((hF _).2 (.inr h))), hg.block k hk]
theorem Bes.less {w : World} {F F' : Nat → Prop} {A : Option Addr} {n c : Nat} {l : List UInt8} (h : Bes w F A n c l) (hF : ∀ k, F' k → F k) : Bes w F' A n c l := ⟨h.1, h.2.1, h.2.2.1, fun x hx hl hf => h.2.2.2 x hx hl (hF _ hf)⟩
theorem BesL.less {w : World} {F F' : Nat → Prop} {A : Option Addr} {n c : Nat} {ls : List (List UInt8)} (h : BesL w F A n c ls) (hF : ∀ k, F' k → F k) : BesL w F' A n c ls := ⟨h.1, h.2.1, h.2.2.1, fun hl => by
  obtain ⟨b, off, e, h1, h2⟩ := h.2.2.2 hl
  exact ⟨b, off, e, fun hf => h1 (hF _ hf), fun j hj => by
    obtain ⟨A', c', h3, h4⟩ := h2 j hj
    exact ⟨A', c', h3, fun x hx hl2 hf => h4 x hx hl2 (hF _ hf)⟩⟩⟩
def IP (H : Nat) : Value := .pointer (some ⟨H, 0, none⟩)
theorem m_seal (H k : Nat) (V : World) : (method (k + 1) 45 (.pointer (some ⟨H, 0, none⟩)) "turnkey/oracle.seal").run Tryz.prog V = .ok (69, .pointer (some ⟨H, 0, none⟩)) V := by kernel_rfl
set_option maxHeartbeats 4000000 in
set_option maxRecDepth 20000 in
theorem seal_or {B : Nat} {w : World} {G : Nat} {F : Nat → Prop} {st : St} {i : Nat} {A1 A2 : Option Addr} {n1 c1 n2 c2 : Nat} {key : List UInt8} {ls : List (List UInt8)} (hO : OIo B w G F st) (hN : Nm st i) (hi : i ≤ 200) (h1 : Bes w F A1 n1 c1 key) (h2 : n1 ≤ 2000) (h3 : BesL w F A2 n2 c2 ls) (h4 : n2 ≤ 10) (h5 : ls.flatten.length ≤ 2500) :
    Calls Tryz.prog 12 #[.pointer (some ⟨G, 0, none⟩), .slice A1 n1 c1, .slice A2 n2 c2] w fun e w' => e = .returned (.agg (bvs (idealM.mac st key ls.flatten).1).toArray) ∧ Onw (OIo B) w G F (idealM.mac st key ls.flatten).2 w' := by
  obtain ⟨H, FS, hG1, hG, hS, hnF, hF⟩ := hO
  have HG1 := Lib.hid hG1
  have HG := Lib.hid hG
  have HS := Lib.hid hS
  have HnF := Lib.hid hnF
  have HF := Lib.hid hF
  have HN := Lib.hid hN
  have HB1 := Lib.hid (h1.less (fun k hk => (hF k).2 (.inr hk)))
  have HB2 := Lib.hid (h3.less (fun k hk => (hF k).2 (.inr hk)))
  have HFl := Lib.hid h5
  clear h1 h3 h5
  have HD := Lib.hid (show (idealM.mac st key ls.flatten).1.length = 64 from idealM.len_mac st i key ls.flatten hN)
  clear hG1 hG hS hnF hF hN
  have hz : ∀ V : World, (zeroValue 43).run Tryz.prog V = .ok (.agg (bvs z64).toArray) V := fun V => zq64 V
  go_enter Tryz.func12, Tryz.ntmps12
  have s0 : ∀ o, (w.alloc o).cell? ⟨G, 0, none⟩ = some (.iface 45 (.pointer (some ⟨H, 0, none⟩))) := fun o => cell_of_row _ G 0 _ _ (0, 0) (((alloc_below w o).block G (lt_of_heap HG.out)).trans HG.out)
  have hm := fun (k : Nat) (V : World) => m_seal H k V
  go_wp2_with fail
  have GA := Lib.hid (alloc_below w (.cells (bvs z64).toArray 43))
  have BA := Lib.hid (Ba.new w 43 z64)
  obtain ⟨r, hr⟩ : ∃ r, r = w.heap.size := ⟨_, rfl⟩
  have HR := Lib.hid hr
  rw [← hr] at BA ⊢
  clear hr hz s0 hm
  generalize w.alloc _ = w1 at GA BA ⊢
  have HL1 := Lib.hid BA.out.lt
  refine (seal_src (src_grow HS.out GA.out) HN.out hi (HB1.out.grow GA.out) h2 (HB2.out.grow GA.out) h4 HFl.out).mono ?_
  rintro e w2 ⟨rfl, ho⟩
  have HO := Lib.hid ho
  have hft := src_foot w H FS st HS.out
  obtain ⟨F', hS2, hF', hC⟩ := ho
  have B2 := Lib.hid (BA.out.ch hC (fun h => by have := hft r h; have := HR.out; omega))
  clear hS2 hF' hC hft
  obtain ⟨D, hD⟩ : ∃ D, D = (idealM.mac st key ls.flatten).1 := ⟨_, rfl⟩
  rw [← hD] at HD
  have HDe := Lib.hid hD
  rw [← hD]
  clear hD
  go_wp2_with (first
    | (refine wpList_store_ba rfl i64c (.tmp 6) (.tmp 13) rfl rfl (by rfl) B2.out rfl HD.out ?_
       have O3 := fun k (hk : k ≠ r) => setRow_other (w := w2) (g := r) (cs := (bvs D).toArray) hk
       have B3 := Lib.hid (B2.out.row D)
       have ON := Lib.hid (oi_fin (B := B) (w1 := w1) (w2 := w2) (w3 := w2.setRow r (bvs D).toArray) HG1.out HG.out HS.out HnF.out HF.out GA.out HO.out r (by have := HR.out; omega) HL1.out O3 (Go.setRow_size _ _ _) (setRow_rest _ _ _))
       generalize w2.setRow r _ = w3 at B3 ON ⊢))
  exact retRow rfl _ rfl B3.out u64a rfl (by rw [i64c]; simp [bvs_length, HD.out]) ⟨by rw [HDe.out], ON.out⟩
theorem m_tag (H k : Nat) (V : World) : (method (k + 1) 45 (.pointer (some ⟨H, 0, none⟩)) "turnkey/oracle.tag").run Tryz.prog V = .ok (70, .pointer (some ⟨H, 0, none⟩)) V := by kernel_rfl
set_option maxHeartbeats 4000000 in
set_option maxRecDepth 20000 in
theorem tag_or {B : Nat} {w : World} {G : Nat} {F : Nat → Prop} {st : St} {i : Nat} {A1 A2 : Option Addr} {n1 c1 n2 c2 : Nat} {key : List UInt8} {ls : List (List UInt8)} (hO : OIo B w G F st) (hN : Nm st i) (hi : i ≤ 200) (h1 : Bes w F A1 n1 c1 key) (h2 : n1 ≤ 2000) (h3 : BesL w F A2 n2 c2 ls) (h4 : n2 ≤ 10) (h5 : ls.flatten.length ≤ 2500) :
    Calls Tryz.prog 14 #[.pointer (some ⟨G, 0, none⟩), .slice A1 n1 c1, .slice A2 n2 c2] w fun e w' => e = .returned (.agg (bvs (idealM.tag st key ls.flatten).1).toArray) ∧ Onw (OIo B) w G F (idealM.tag st key ls.flatten).2 w' := by
  obtain ⟨H, FS, hG1, hG, hS, hnF, hF⟩ := hO
  have HG1 := Lib.hid hG1
  have HG := Lib.hid hG
  have HS := Lib.hid hS
  have HnF := Lib.hid hnF
  have HF := Lib.hid hF
  have HN := Lib.hid hN
  have HB1 := Lib.hid (h1.less (fun k hk => (hF k).2 (.inr hk)))
  have HB2 := Lib.hid (h3.less (fun k hk => (hF k).2 (.inr hk)))
  have HFl := Lib.hid h5
  clear h1 h3 h5
  have HD := Lib.hid (show (idealM.tag st key ls.flatten).1.length = 32 from idealM.len_tag st i key ls.flatten hN)
  clear hG1 hG hS hnF hF hN
  have hz : ∀ V : World, (zeroValue 51).run Tryz.prog V = .ok (.agg (bvs zz32).toArray) V := fun V => zq32 V
  go_enter Tryz.func14, Tryz.ntmps14
  have s0 : ∀ o, (w.alloc o).cell? ⟨G, 0, none⟩ = some (.iface 45 (.pointer (some ⟨H, 0, none⟩))) := fun o => cell_of_row _ G 0 _ _ (0, 0) (((alloc_below w o).block G (lt_of_heap HG.out)).trans HG.out)
  have hm := fun (k : Nat) (V : World) => m_tag H k V
  go_wp2_with fail
  have GA := Lib.hid (alloc_below w (.cells (bvs zz32).toArray 51))
  have BA := Lib.hid (Ba.new w 51 zz32)
  obtain ⟨r, hr⟩ : ∃ r, r = w.heap.size := ⟨_, rfl⟩
  have HR := Lib.hid hr
  rw [← hr] at BA ⊢
  clear hr hz s0 hm
  generalize w.alloc _ = w1 at GA BA ⊢
  have HL1 := Lib.hid BA.out.lt
  refine (tag_src (src_grow HS.out GA.out) HN.out hi (HB1.out.grow GA.out) h2 (HB2.out.grow GA.out) h4 HFl.out).mono ?_
  rintro e w2 ⟨rfl, ho⟩
  have HO := Lib.hid ho
  have hft := src_foot w H FS st HS.out
  obtain ⟨F', hS2, hF', hC⟩ := ho
  have B2 := Lib.hid (BA.out.ch hC (fun h => by have := hft r h; have := HR.out; omega))
  clear hS2 hF' hC hft
  obtain ⟨D, hD⟩ : ∃ D, D = (idealM.tag st key ls.flatten).1 := ⟨_, rfl⟩
  rw [← hD] at HD
  have HDe := Lib.hid hD
  rw [← hD]
  clear hD
  go_wp2_with (first
    | (refine wpList_store_ba rfl i32c (.tmp 6) (.tmp 13) rfl rfl (by rfl) B2.out rfl HD.out ?_
       have O3 := fun k (hk : k ≠ r) => setRow_other (w := w2) (g := r) (cs := (bvs D).toArray) hk
       have B3 := Lib.hid (B2.out.row D)
       have ON := Lib.hid (oi_fin (B := B) (w1 := w1) (w2 := w2) (w3 := w2.setRow r (bvs D).toArray) HG1.out HG.out HS.out HnF.out HF.out GA.out HO.out r (by have := HR.out; omega) HL1.out O3 (Go.setRow_size _ _ _) (setRow_rest _ _ _))
       generalize w2.setRow r _ = w3 at B3 ON ⊢))
  exact retRow rfl _ rfl B3.out u32a rfl (by rw [i32c]; simp [bvs_length, HD.out]) ⟨by rw [HDe.out], ON.out⟩
theorem m_nonce (H k : Nat) (V : World) : (method (k + 1) 45 (.pointer (some ⟨H, 0, none⟩)) "turnkey/oracle.nonce").run Tryz.prog V = .ok (67, .pointer (some ⟨H, 0, none⟩)) V := by kernel_rfl
set_option maxHeartbeats 4000000 in
set_option maxRecDepth 20000 in
theorem nonce_or {B : Nat} {w : World} {G : Nat} {F : Nat → Prop} {st : St} {i : Nat} (hO : OIo B w G F st) (hN : Nm st i) (hi : i ≤ 200) :
    Calls Tryz.prog 25 #[.pointer (some ⟨G, 0, none⟩)] w fun e w' => e = .returned (.agg (bvs (idealM.nonce st).1).toArray) ∧ Onw (OIo B) w G F (idealM.nonce st).2 w' := by
  obtain ⟨H, FS, hG1, hG, hS, hnF, hF⟩ := hO
  have HG1 := Lib.hid hG1
  have HG := Lib.hid hG
  have HS := Lib.hid hS
  have HnF := Lib.hid hnF
  have HF := Lib.hid hF
  have HN := Lib.hid hN
  have HD := Lib.hid (show (idealM.nonce st).1.length = 16 from idealM.len_nonce st i  hN)
  clear hG1 hG hS hnF hF hN
  have hz : ∀ V : World, (zeroValue 62).run Tryz.prog V = .ok (.agg (bvs zz16).toArray) V := fun V => zq16 V
  go_enter Tryz.func25, Tryz.ntmps25
  have s0 : ∀ o, (w.alloc o).cell? ⟨G, 0, none⟩ = some (.iface 45 (.pointer (some ⟨H, 0, none⟩))) := fun o => cell_of_row _ G 0 _ _ (0, 0) (((alloc_below w o).block G (lt_of_heap HG.out)).trans HG.out)
  have hm := fun (k : Nat) (V : World) => m_nonce H k V
  go_wp2_with fail
  have GA := Lib.hid (alloc_below w (.cells (bvs zz16).toArray 62))
  have BA := Lib.hid (Ba.new w 62 zz16)
  obtain ⟨r, hr⟩ : ∃ r, r = w.heap.size := ⟨_, rfl⟩
  have HR := Lib.hid hr
  rw [← hr] at BA ⊢
  clear hr hz s0 hm
  generalize w.alloc _ = w1 at GA BA ⊢
  have HL1 := Lib.hid BA.out.lt
  refine (nonce_src (src_grow HS.out GA.out) HN.out hi).mono ?_
  rintro e w2 ⟨rfl, ho⟩
  have HO := Lib.hid ho
  have hft := src_foot w H FS st HS.out
  obtain ⟨F', hS2, hF', hC⟩ := ho
  have B2 := Lib.hid (BA.out.ch hC (fun h => by have := hft r h; have := HR.out; omega))
  clear hS2 hF' hC hft
  obtain ⟨D, hD⟩ : ∃ D, D = (idealM.nonce st).1 := ⟨_, rfl⟩
  rw [← hD] at HD
  have HDe := Lib.hid hD
  rw [← hD]
  clear hD
  go_wp2_with (first
    | (refine wpList_store_ba rfl i16c (.tmp 2) (.tmp 7) rfl rfl (by rfl) B2.out rfl HD.out ?_
       have O3 := fun k (hk : k ≠ r) => setRow_other (w := w2) (g := r) (cs := (bvs D).toArray) hk
       have B3 := Lib.hid (B2.out.row D)
       have ON := Lib.hid (oi_fin (B := B) (w1 := w1) (w2 := w2) (w3 := w2.setRow r (bvs D).toArray) HG1.out HG.out HS.out HnF.out HF.out GA.out HO.out r (by have := HR.out; omega) HL1.out O3 (Go.setRow_size _ _ _) (setRow_rest _ _ _))
       generalize w2.setRow r _ = w3 at B3 ON ⊢))
  exact retRow rfl _ rfl B3.out u16c rfl (by rw [i16c]; simp [bvs_length, HD.out]) ⟨by rw [HDe.out], ON.out⟩
theorem m_bad (H k : Nat) (V : World) : (method (k + 1) 45 (.pointer (some ⟨H, 0, none⟩)) "turnkey/oracle.bad").run Tryz.prog V = .ok (63, .pointer (some ⟨H, 0, none⟩)) V := by kernel_rfl
theorem bad_or {B : Nat} {w : World} {G : Nat} {F : Nat → Prop} {st : St} (hO : OIo B w G F st) :
    Calls Tryz.prog 9 #[.pointer (some ⟨G, 0, none⟩)] w fun e w' => e = .returned (.bool st.bad) ∧ Grown w w' := by
  obtain ⟨H, FS, hG1, hG, hS, hnF, hF⟩ := hO
  have HS := Lib.hid hS
  have s0 : w.cell? ⟨G, 0, none⟩ = some (.iface 45 (.pointer (some ⟨H, 0, none⟩))) := cell_of_row _ G 0 _ _ (0, 0) hG
  have hm := fun (k : Nat) (V : World) => m_bad H k V
  clear hG1 hG hS hnF hF
  go_enter Tryz.func9, Tryz.ntmps9
  go_wp2_with fail
  refine (bad_src HS.out).mono ?_
  rintro e w1 ⟨rfl, hg⟩
  have G1 := Lib.hid hg
  clear hg hm s0
  go_wp2
  go_ret
  exact ⟨rfl, G1.out⟩
theorem m_queries (H k : Nat) (V : World) : (method (k + 1) 45 (.pointer (some ⟨H, 0, none⟩)) "turnkey/oracle.queries").run Tryz.prog V = .ok (68, .pointer (some ⟨H, 0, none⟩)) V := by kernel_rfl
theorem queries_or {B : Nat} {w : World} {G : Nat} {F : Nat → Prop} {st : St} (hO : OIo B w G F st) :
    Calls Tryz.prog 10 #[.pointer (some ⟨G, 0, none⟩)] w fun e w' => e = .returned (.int .i64 (st.cnt : Int)) ∧ Grown w w' := by
  obtain ⟨H, FS, hG1, hG, hS, hnF, hF⟩ := hO
  have HS := Lib.hid hS
  have s0 : w.cell? ⟨G, 0, none⟩ = some (.iface 45 (.pointer (some ⟨H, 0, none⟩))) := cell_of_row _ G 0 _ _ (0, 0) hG
  have hm := fun (k : Nat) (V : World) => m_queries H k V
  clear hG1 hG hS hnF hF
  go_enter Tryz.func10, Tryz.ntmps10
  go_wp2_with fail
  refine (queries_src HS.out).mono ?_
  rintro e w1 ⟨rfl, hg⟩
  have G1 := Lib.hid hg
  clear hg hm s0
  go_wp2
  go_ret
  exact ⟨rfl, G1.out⟩
end Go.Proofs.YtjklgmhaebjjaaaGreat.S12
