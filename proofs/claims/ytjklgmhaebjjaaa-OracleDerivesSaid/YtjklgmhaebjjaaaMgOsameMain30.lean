/-
  The program's ideal oracle: Seal, Tag, Nonce, Bad, Queries. The program's ideal oracle: Block, Encrypt, Decrypt (each calls its source through an interface).
-/
import Derived.Test.YtjklgmhaebjjaaaMgOsameMain27
import Derived.Test.YtjklgmhaebjjaaaMgOsameMain29
namespace Go.Proofs.Ytjklgmhaebjjaaa.S12
open S11
open Go.RowKit
set_option linter.unusedVariables false
set_option linter.unusedSimpArgs false

theorem src_foot (w : World) (H : Nat) (F : Nat → Prop) (st : St) (h : Src w H F st) : ∀ k, F k → k < w.heap.size := by
  obtain ⟨Z, FZ, hZ1, hH, hZ, hnF, hF⟩ := h
  intro k hk
  rcases (hF k).1 hk with rfl | hk
  · exact lt_of_heap hH
  · exact lz_foot w Z FZ st hZ k hk
theorem src_keep (w w' : World) (H : Nat) (F : Nat → Prop) (st : St) (h : Src w H F st) (hk : ∀ k, F k → w'.heap[k]? = w.heap[k]?) (hs : w.heap.size ≤ w'.heap.size) : Src w' H F st := by
  obtain ⟨Z, FZ, hZ1, hH, hZ, hnF, hF⟩ := h
  exact ⟨Z, FZ, hZ1, (hk H ((hF H).2 (.inl rfl))).trans hH, lz_keep w w' Z FZ st hZ (fun k h => hk k ((hF k).2 (.inr h))) hs, hnF, hF⟩
theorem src_grow {w w' : World} {H : Nat} {F : Nat → Prop} {st : St} (h : Src w H F st) (hg : Grown w w') : Src w' H F st := src_keep w w' H F st h (fun k hk => hg.block k (src_foot w H F st h k hk)) hg.size
def OC (H : Nat) : Obj := .cells #[.iface 44 (.pointer (some ⟨H, 0, none⟩))] 49 (0, 0)
/-- The oracle, which points to its source. -/
def OIo (B : Nat) : Ob idealM := fun w G F st => ∃ H FS, G = H + 1 ∧ w.heap[G]? = some (OC H) ∧ Src w H FS st ∧ ¬ FS G ∧ ∀ k, F k ↔ k = G ∨ FS k
theorem oi_foot (B : Nat) (w : World) (G : Nat) (F : Nat → Prop) (st : St) (h : OIo B w G F st) : ∀ k, F k → k < w.heap.size := by
  obtain ⟨H, FS, hG1, hG, hS, hnF, hF⟩ := h
  intro k hk
  rcases (hF k).1 hk with rfl | hk
  · exact lt_of_heap hG
  · exact src_foot w H FS st hS k hk
theorem oi_keep (B : Nat) (w w' : World) (G : Nat) (F : Nat → Prop) (st : St) (h : OIo B w G F st) (hk : ∀ k, F k ∨ k < B → w'.heap[k]? = w.heap[k]?) (hs : w.heap.size ≤ w'.heap.size) : OIo B w' G F st := by
  obtain ⟨H, FS, hG1, hG, hS, hnF, hF⟩ := h
  exact ⟨H, FS, hG1, (hk G (.inl ((hF G).2 (.inl rfl)))).trans hG, src_keep w w' H FS st hS (fun k h => hk k (.inl ((hF k).2 (.inr h)))) hs, hnF, hF⟩
/-- Behind a step of the source, and a store into a block that the call has made (or into none). -/
theorem oi_fin {B : Nat} {w w1 w2 w3 : World} {G H : Nat} {F FS : Nat → Prop} {st st' : St} (hG1 : G = H + 1) (hG : w.heap[G]? = some (OC H)) (hS : Src w H FS st) (hnF : ¬ FS G) (hF : ∀ k, F k ↔ k = G ∨ FS k)
    (hg : Grown w w1) (ho : Onw Src w1 H FS st' w2) (r : Nat) (hr : w.heap.size ≤ r) (hr1 : r < w1.heap.size) (h3 : ∀ k, k ≠ r → w3.heap[k]? = w2.heap[k]?) (hs3 : w3.heap.size = w2.heap.size) (ho3 : w3.os = w2.os ∧ w3.tape = w2.tape ∧ w3.output = w2.output) : Onw (OIo B) w G F st' w3 := by
  obtain ⟨F', hS2, hF', hC⟩ := ho
  have hlt : G < w.heap.size := lt_of_heap hG
  have hs1 := hg.size
  have hs2 := hC.size
  have hft := src_foot w H FS st hS
  refine ⟨fun k => k = G ∨ F' k, ⟨H, F', hG1, ?_, src_keep w2 w3 H F' st' hS2 (fun k hk => h3 k ?_) (by omega), ?_, fun k => Iff.rfl⟩, ?_, ?_⟩
  · rw [h3 G (by omega), hC.block G (by omega) hnF, hg.block G hlt]
    exact hG
  · rcases hF' k hk with h | h
    · have := hft k h
      omega
    · omega
  · intro h
    rcases hF' G h with h | h
    · exact hnF h
    · omega
  · rintro k (rfl | h)
    · exact .inl ((hF _).2 (.inl rfl))
    · rcases hF' k h with h | h
      · exact .inl ((hF _).2 (.inr h))
      · exact .inr (by omega)
  · refine ⟨ho3.1.trans (hC.os.trans hg.os), ho3.2.1.trans (hC.tape.trans hg.tape), ho3.2.2.trans (hC.output.trans hg.output), by omega, fun k hk hf => ?_⟩
    rw [h3 k (by omega), hC.block k (by omega) (fun h => hf ((hF _).2 (.inr h))), hg.block k hk]
theorem Bes.less {w : World} {F F' : Nat → Prop} {A : Option Addr} {n c : Nat} {l : List UInt8} (h : Bes w F A n c l) (hF : ∀ k, F' k → F k) : Bes w F' A n c l := ⟨h.1, h.2.1, h.2.2.1, fun x hx hl hf => h.2.2.2 x hx hl (hF _ hf)⟩
theorem BesL.less {w : World} {F F' : Nat → Prop} {A : Option Addr} {n c : Nat} {ls : List (List UInt8)} (h : BesL w F A n c ls) (hF : ∀ k, F' k → F k) : BesL w F' A n c ls := ⟨h.1, h.2.1, h.2.2.1, fun hl => by
  obtain ⟨b, off, e, h1, h2⟩ := h.2.2.2 hl
  exact ⟨b, off, e, fun hf => h1 (hF _ hf), fun j hj => by
    obtain ⟨A', c', h3, h4⟩ := h2 j hj
    exact ⟨A', c', h3, fun x hx hl2 hf => h4 x hx hl2 (hF _ hf)⟩⟩⟩
def IP (H : Nat) : Value := .pointer (some ⟨H, 0, none⟩)
theorem m_seal (H k : Nat) (V : World) : (method (k + 1) 44 (.pointer (some ⟨H, 0, none⟩)) "turnkey/oracle.seal").run Try.prog V = .ok (38, .pointer (some ⟨H, 0, none⟩)) V := by kernel_rfl
set_option maxHeartbeats 4000000 in
set_option maxRecDepth 20000 in
theorem seal_or {B : Nat} {w : World} {G : Nat} {F : Nat → Prop} {st : St} {i : Nat} {A1 A2 : Option Addr} {n1 c1 n2 c2 : Nat} {key : List UInt8} {ls : List (List UInt8)} (hO : OIo B w G F st) (hN : Nm st i) (hi : i ≤ 200) (h1 : Bes w F A1 n1 c1 key) (h2 : n1 ≤ 2000) (h3 : BesL w F A2 n2 c2 ls) (h4 : n2 ≤ 10) (h5 : ls.flatten.length ≤ 2500) :
    Calls Try.prog 8 #[.pointer (some ⟨G, 0, none⟩), .slice A1 n1 c1, .slice A2 n2 c2] w fun e w' => e = .returned (.agg (bvs (idealM.mac st key ls.flatten).1).toArray) ∧ Onw (OIo B) w G F (idealM.mac st key ls.flatten).2 w' := by
  obtain ⟨H, FS, hG1, hG, hS, hnF, hF⟩ := hO
  have HG1 := Lib.hid hG1
  have HG := Lib.hid hG
  have HS := Lib.hid hS
  have HnF := Lib.hid hnF
  have HF := Lib.hid hF
  have HN := Lib.hid hN
  have HB1 := Lib.hid (h1.less (fun k hk => (hF k).2 (.inr hk)))
  have HB2 := Lib.hid (h3.less (fun k hk => (hF k).2 (.inr hk)))
  have HFl := Lib.hid h5
  clear h1 h3 h5
  have HD := Lib.hid (show (idealM.mac st key ls.flatten).1.length = 64 from idealM.len_mac st i key ls.flatten hN)
  clear hG1 hG hS hnF hF hN
  have hz : ∀ V : World, (zeroValue 34).run Try.prog V = .ok (.agg (bvs z64).toArray) V := fun V => zq64 V
  go_enter Try.func8, Try.ntmps8
  have s0 : ∀ o, (w.alloc o).cell? ⟨G, 0, none⟩ = some (.iface 44 (.pointer (some ⟨H, 0, none⟩))) := fun o => cell_of_row _ G 0 _ _ (0, 0) (((alloc_below w o).block G (lt_of_heap HG.out)).trans HG.out)
  have hm := fun (k : Nat) (V : World) => m_seal H k V
  go_wp2_with fail
  have GA := Lib.hid (alloc_below w (.cells (bvs z64).toArray 34))
  have BA := Lib.hid (Ba.new w 34 z64)
  obtain ⟨r, hr⟩ : ∃ r, r = w.heap.size := ⟨_, rfl⟩
  have HR := Lib.hid hr
  rw [← hr] at BA ⊢
  clear hr hz s0 hm
  generalize w.alloc _ = w1 at GA BA ⊢
  have HL1 := Lib.hid BA.out.lt
  refine (seal_src (src_grow HS.out GA.out) HN.out hi (HB1.out.grow GA.out) h2 (HB2.out.grow GA.out) h4 HFl.out).mono ?_
  rintro e w2 ⟨rfl, ho⟩
  have HO := Lib.hid ho
  have hft := src_foot w H FS st HS.out
  obtain ⟨F', hS2, hF', hC⟩ := ho
  have B2 := Lib.hid (BA.out.ch hC (fun h => by have := hft r h; have := HR.out; omega))
  clear hS2 hF' hC hft
  obtain ⟨D, hD⟩ : ∃ D, D = (idealM.mac st key ls.flatten).1 := ⟨_, rfl⟩
  rw [← hD] at HD
  have HDe := Lib.hid hD
  rw [← hD]
  clear hD
  go_wp2_with (first
    | (refine wpList_store_ba rfl i64c (.tmp 6) (.tmp 13) rfl rfl (by rfl) B2.out rfl HD.out ?_
       have O3 := fun k (hk : k ≠ r) => setRow_other (w := w2) (g := r) (cs := (bvs D).toArray) hk
       have B3 := Lib.hid (B2.out.row D)
       have ON := Lib.hid (oi_fin (B := B) (w1 := w1) (w2 := w2) (w3 := w2.setRow r (bvs D).toArray) HG1.out HG.out HS.out HnF.out HF.out GA.out HO.out r (by have := HR.out; omega) HL1.out O3 (Go.setRow_size _ _ _) (setRow_rest _ _ _))
       generalize w2.setRow r _ = w3 at B3 ON ⊢))
  exact retRow rfl _ rfl B3.out u64a rfl (by rw [i64c]; simp [bvs_length, HD.out]) ⟨by rw [HDe.out], ON.out⟩
theorem m_tag (H k : Nat) (V : World) : (method (k + 1) 44 (.pointer (some ⟨H, 0, none⟩)) "turnkey/oracle.tag").run Try.prog V = .ok (115, .pointer (some ⟨H, 0, none⟩)) V := by kernel_rfl
theorem m_nonce (H k : Nat) (V : World) : (method (k + 1) 44 (.pointer (some ⟨H, 0, none⟩)) "turnkey/oracle.nonce").run Try.prog V = .ok (114, .pointer (some ⟨H, 0, none⟩)) V := by kernel_rfl
theorem m_bad (H k : Nat) (V : World) : (method (k + 1) 44 (.pointer (some ⟨H, 0, none⟩)) "turnkey/oracle.bad").run Try.prog V = .ok (34, .pointer (some ⟨H, 0, none⟩)) V := by kernel_rfl
theorem bad_or {B : Nat} {w : World} {G : Nat} {F : Nat → Prop} {st : St} (hO : OIo B w G F st) :
    Calls Try.prog 9 #[.pointer (some ⟨G, 0, none⟩)] w fun e w' => e = .returned (.bool st.bad) ∧ Grown w w' := by
  obtain ⟨H, FS, hG1, hG, hS, hnF, hF⟩ := hO
  have HS := Lib.hid hS
  have s0 : w.cell? ⟨G, 0, none⟩ = some (.iface 44 (.pointer (some ⟨H, 0, none⟩))) := cell_of_row _ G 0 _ _ (0, 0) hG
  have hm := fun (k : Nat) (V : World) => m_bad H k V
  clear hG1 hG hS hnF hF
  go_enter Try.func9, Try.ntmps9
  go_wp2_with fail
  refine (bad_src HS.out).mono ?_
  rintro e w1 ⟨rfl, hg⟩
  have G1 := Lib.hid hg
  clear hg hm s0
  go_wp2
  go_ret
  exact ⟨rfl, G1.out⟩
theorem m_queries (H k : Nat) (V : World) : (method (k + 1) 44 (.pointer (some ⟨H, 0, none⟩)) "turnkey/oracle.queries").run Try.prog V = .ok (37, .pointer (some ⟨H, 0, none⟩)) V := by kernel_rfl
theorem queries_or {B : Nat} {w : World} {G : Nat} {F : Nat → Prop} {st : St} (hO : OIo B w G F st) :
    Calls Try.prog 10 #[.pointer (some ⟨G, 0, none⟩)] w fun e w' => e = .returned (.int .i64 (st.cnt : Int)) ∧ Grown w w' := by
  obtain ⟨H, FS, hG1, hG, hS, hnF, hF⟩ := hO
  have HS := Lib.hid hS
  have s0 : w.cell? ⟨G, 0, none⟩ = some (.iface 44 (.pointer (some ⟨H, 0, none⟩))) := cell_of_row _ G 0 _ _ (0, 0) hG
  have hm := fun (k : Nat) (V : World) => m_queries H k V
  clear hG1 hG hS hnF hF
  go_enter Try.func10, Try.ntmps10
  go_wp2_with fail
  refine (queries_src HS.out).mono ?_
  rintro e w1 ⟨rfl, hg⟩
  have G1 := Lib.hid hg
  clear hg hm s0
  go_wp2
  go_ret
  exact ⟨rfl, G1.out⟩
end Go.Proofs.Ytjklgmhaebjjaaa.S12
namespace Go.Proofs.Ytjklgmhaebjjaaa.S12
open S11
open Go.RowKit
set_option linter.unusedVariables false
set_option linter.unusedSimpArgs false

/-- Behind a step of the source. -/
theorem oi_step {B : Nat} {w w2 : World} {G H : Nat} {F FS F' : Nat → Prop} {st' : St} (hG1 : G = H + 1) (hG : w.heap[G]? = some (OC H)) (hnF : ¬ FS G) (hF : ∀ k, F k ↔ k = G ∨ FS k)
    (hS2 : Src w2 H F' st') (hF' : ∀ k, F' k → FS k ∨ w.heap.size ≤ k) (hC : Ch FS w w2) : OIo B w2 G (fun k => k = G ∨ F' k) st' ∧ (∀ k, k = G ∨ F' k → F k ∨ w.heap.size ≤ k) ∧ Ch F w w2 := by
  have hlt : G < w.heap.size := lt_of_heap hG
  refine ⟨⟨H, F', hG1, (hC.block G hlt hnF).trans hG, hS2, fun h => ?_, fun k => Iff.rfl⟩, ?_, Ch.then (Ch.refl F w) hC (fun k _ h => (hF k).2 (.inr h))⟩
  · rcases hF' G h with h | h
    · exact hnF h
    · omega
  · rintro k (rfl | h)
    · exact .inl ((hF _).2 (.inl rfl))
    · rcases hF' k h with h | h
      · exact .inl ((hF _).2 (.inr h))
      · exact .inr h
theorem oi_grow {B : Nat} {w w' : World} {G : Nat} {F : Nat → Prop} {st : St} (h : OIo B w G F st) (hg : Grown w w') : OIo B w' G F st := by
  have hft := oi_foot B w G F st h
  obtain ⟨H, FS, hG1, hG, hS, hnF, hF⟩ := h
  exact ⟨H, FS, hG1, (hg.block G (lt_of_heap hG)).trans hG, src_grow hS hg, hnF, hF⟩
theorem onw_grown {B : Nat} {w w' : World} {G : Nat} {F : Nat → Prop} {st : St} (h : OIo B w G F st) (hg : Grown w w') : Onw (OIo B) w G F st w' :=
  ⟨F, oi_grow h hg, fun k hk => .inl hk, Ch.grown hg⟩
theorem m_block (H k : Nat) (V : World) : (method (k + 1) 44 (.pointer (some ⟨H, 0, none⟩)) "turnkey/oracle.block").run Try.prog V = .ok (35, .pointer (some ⟨H, 0, none⟩)) V := by kernel_rfl
theorem if_block (Z : Nat) (M : ByteArray) : Ifc 84 (.agg #[.pointer (some ⟨Z, 0, none⟩), .string M]) 110 109 (.agg #[.pointer (some ⟨Z, 0, none⟩), .string M]) (.agg #[.pointer (some ⟨Z, 0, none⟩), .string M]) where
  ne := fun k V => by kernel_rfl
  nd := fun k V => by kernel_rfl
  me := fun k V => by kernel_rfl
  md := fun k V => by kernel_rfl
  ce := fun args V => by go_simp
  cd := fun h _ _ => h.elim
set_option maxHeartbeats 4000000 in
set_option maxRecDepth 20000 in
theorem block_or {B : Nat} {w : World} {G : Nat} {F : Nat → Prop} {st : St} {i : Nat} {A1 : Option Addr} {n1 c1 : Nat} {key : List UInt8} (hO : OIo B w G F st) (hN : Nm st i) (hi : i ≤ 200) (h1 : Bes w F A1 n1 c1 key) (h2 : n1 = 32) :
    Calls Try.prog 7 #[.pointer (some ⟨G, 0, none⟩), .slice A1 n1 c1] w fun e w' => ∃ Z, G = Z + 2 ∧ e = .returned (.tuple #[.iface 84 (.agg #[.pointer (some ⟨Z, 0, none⟩), .string ⟨(blockQ key).toArray⟩]), .int .i64 0]) ∧ Grown w w' := by
  subst h2
  obtain ⟨H, FS, hG1, hG, hS, hnF, hF⟩ := hO
  have HG1 := Lib.hid hG1
  have HS := Lib.hid hS
  have HB1 := Lib.hid (h1.less (fun k hk => (hF k).2 (.inr hk)))
  have s0 : w.cell? ⟨G, 0, none⟩ = some (.iface 44 (.pointer (some ⟨H, 0, none⟩))) := cell_of_row _ G 0 _ _ (0, 0) hG
  have hm := fun (k : Nat) (V : World) => m_block H k V
  clear hG1 hG hS hnF hF h1 hN
  go_enter Try.func7, Try.ntmps7
  go_wp2_with fail
  refine (block_src HS.out HB1.out rfl).mono ?_
  rintro e w1 ⟨Z, hZ, rfl, hg⟩
  have G1 := Lib.hid hg
  have HZ := Lib.hid hZ
  obtain ⟨M1, hM1⟩ : ∃ M : ByteArray, M = ⟨(blockQ key).toArray⟩ := ⟨_, rfl⟩
  rw [← hM1]
  have HM1 := Lib.hid hM1
  clear hg hm s0 hZ hM1
  go_wp2
  go_ret2
  exact ⟨Z, by have := HG1.out; have := HZ.out; omega, by rw [← HM1.out]; rfl, G1.out⟩
set_option maxHeartbeats 4000000 in
set_option maxRecDepth 20000 in
theorem blockNo_or {B : Nat} {w : World} {G : Nat} {F : Nat → Prop} {st : St} {A1 : Option Addr} {n1 c1 : Nat} (hO : OIo B w G F st) (h2' : n1 ≠ 32) (h3' : n1 ≤ 2000) :
    Calls Try.prog 7 #[.pointer (some ⟨G, 0, none⟩), .slice A1 n1 c1] w fun e w' => e = .returned (.tuple #[.nilIface, .int .i64 2]) ∧ Onw (OIo B) w G F st w' := by
  have h2 := Lib.hid h2'
  have h3 := Lib.hid h3'
  clear h2' h3'
  have HO := Lib.hid hO
  obtain ⟨H, FS, hG1, hG, hS, hnF, hF⟩ := hO
  have s0 : w.cell? ⟨G, 0, none⟩ = some (.iface 44 (.pointer (some ⟨H, 0, none⟩))) := cell_of_row _ G 0 _ _ (0, 0) hG
  have hm := fun (k : Nat) (V : World) => m_block H k V
  clear hG1 hG hS hnF hF
  go_enter Try.func7, Try.ntmps7
  go_wp2_with fail
  refine (blockNo_src h2.out h3.out).mono ?_
  rintro e w1 ⟨rfl, hw⟩
  have HW := Lib.hid (show Grown w w1 by rw [hw]; exact Grown.refl w)
  clear hw hm s0
  go_wp2
  go_ret2
  exact ⟨rfl, onw_grown HO.out HW.out⟩
theorem m_encrypt (H k : Nat) (V : World) : (method (k + 1) 44 (.pointer (some ⟨H, 0, none⟩)) "turnkey/oracle.encrypt").run Try.prog V = .ok (36, .pointer (some ⟨H, 0, none⟩)) V := by kernel_rfl
set_option maxHeartbeats 4000000 in
theorem unit_or {B : Nat} {w : World} {G : Nat} {F : Nat → Prop} {st : St} {i : Nat} {A1 A2 : Option Addr} {n1 c1 n2 c2 : Nat} {key b : List UInt8} {number : Int} (hO : OIo B w G F st) (hN : Nm st i) (hi : i ≤ 200) (h1 : Bes w F A1 n1 c1 key) (h2 : n1 = 64) (h3 : 0 ≤ number) (h4 : Bes w F A2 n2 c2 b) (h5 : 16 ≤ n2) (h6 : n2 ≤ 100) (h7 : n2 % 16 = 0) :
    Calls Try.prog 32 #[.pointer (some ⟨G, 0, none⟩), .slice A1 n1 c1, .int .i64 number, .slice A2 n2 c2] w fun e w' =>
      ∃ A c, e = .returned (.tuple #[.slice A n2 c, .int .i64 0]) ∧ n2 ≤ c ∧ (idealM.unit st key number b).1.length = n2 ∧ Rd w' w'.heap.size A (idealM.unit st key number b).1 ∧ (∀ x, A = some x → w.heap.size ≤ x.block) ∧
        ∃ F', OIo B w' G F' (idealM.unit st key number b).2 ∧ (∀ k, F' k → F k ∨ w.heap.size ≤ k) ∧ Ch F w w' ∧ Off F' A (idealM.unit st key number b).1 := by
  subst h2
  have HH := Lib.hid (And.intro h3 (And.intro h5 (And.intro h6 h7)))
  clear h3 h5 h6 h7
  obtain ⟨H, FS, hG1, hG, hS, hnF, hF⟩ := hO
  have HG1 := Lib.hid hG1
  have HG := Lib.hid hG
  have HS := Lib.hid hS
  have HnF := Lib.hid hnF
  have HF := Lib.hid hF
  have HN := Lib.hid hN
  have HB1 := Lib.hid (h1.less (fun k hk => (hF k).2 (.inr hk)))
  have HB2 := Lib.hid (h4.less (fun k hk => (hF k).2 (.inr hk)))
  have s0 : w.cell? ⟨G, 0, none⟩ = some (.iface 44 (.pointer (some ⟨H, 0, none⟩))) := cell_of_row _ G 0 _ _ (0, 0) hG
  have hm := fun (k : Nat) (V : World) => m_encrypt H k V
  clear hG1 hG hS hnF hF h1 h4 hN
  go_enter Try.func32, Try.ntmps32
  go_wp2_with fail
  refine (unit_src HS.out HN.out hi HB1.out rfl HH.out.1 HB2.out HH.out.2.1 HH.out.2.2.1 HH.out.2.2.2).mono ?_
  rintro e w1 ⟨A, c, rfl, hc, hl, hr, hfr, F', hS2, hF', hC, hoff⟩
  have HR := Lib.hid (And.intro hc (And.intro hl (And.intro hr (And.intro hfr hoff))))
  have HST := Lib.hid (oi_step (B := B) HG1.out HG.out HnF.out HF.out hS2 hF' hC)
  clear hc hl hr hfr hS2 hF' hC hoff hm s0
  go_wp2
  go_ret2
  obtain ⟨hc, hl, hr, hfr, hoff⟩ := HR.out
  refine ⟨A, c, rfl, hc, hl, hr, hfr, _, HST.out.1, HST.out.2.1, HST.out.2.2, fun x hx hne hf => ?_⟩
  rcases hf with e | hf
  · have h1 := hfr x hx
    have h2 := lt_of_heap HG.out
    omega
  · exact hoff x hx hne hf
set_option maxHeartbeats 4000000 in
set_option maxRecDepth 20000 in
theorem unitNo_or {B : Nat} {w : World} {G : Nat} {F : Nat → Prop} {st : St} {A1 A2 : Option Addr} {n1 c1 n2 c2 : Nat} {number : Int} (hO : OIo B w G F st) (h' : ¬ okU n1 number n2) :
    Calls Try.prog 32 #[.pointer (some ⟨G, 0, none⟩), .slice A1 n1 c1, .int .i64 number, .slice A2 n2 c2] w fun e w' => e = .returned (.tuple #[.slice none 0 0, .int .i64 2]) ∧ Onw (OIo B) w G F st w' := by
  have h := Lib.hid h'
  clear h'
  have HO := Lib.hid hO
  obtain ⟨H, FS, hG1, hG, hS, hnF, hF⟩ := hO
  have s0 : w.cell? ⟨G, 0, none⟩ = some (.iface 44 (.pointer (some ⟨H, 0, none⟩))) := cell_of_row _ G 0 _ _ (0, 0) hG
  have hm := fun (k : Nat) (V : World) => m_encrypt H k V
  clear hG1 hG hS hnF hF
  go_enter Try.func32, Try.ntmps32
  go_wp2_with fail
  refine (unitNo_src (A1 := A1) (A2 := A2) (c1 := c1) (c2 := c2) h.out).mono ?_
  rintro e w1 ⟨rfl, hw⟩
  have HW := Lib.hid (show Grown w w1 by rw [hw]; exact Grown.refl w)
  clear hw hm s0
  go_wp2
  go_ret2
  exact ⟨rfl, onw_grown HO.out HW.out⟩
theorem m_decrypt (H k : Nat) (V : World) : (method (k + 1) 44 (.pointer (some ⟨H, 0, none⟩)) "turnkey/oracle.decrypt").run Try.prog V = .ok (113, .pointer (some ⟨H, 0, none⟩)) V := by kernel_rfl
end Go.Proofs.Ytjklgmhaebjjaaa.S12
