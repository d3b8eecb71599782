/-
  A region that draws its order: two operations that may come up at once, each of which is then walked. The reference's Seal and Tag, in an ideal oracle.
-/
import Derived.Test.YtjklgmhaebjjaaaGreatMgOidealMain15
import Derived.Test.YtjklgmhaebjjaaaGreatMgOidealMain14
namespace Go.Proofs.YtjklgmhaebjjaaaGreat
open Go.RowKit
set_option linter.unusedVariables false

theorem restS_two {P : Program} {ops : Array Oper} {Q : Exit → Act → World → Prop} {S : World → Prop} {i j : Nat} {d d2 : Option Tmp} {op op2 : Op} {ty ty2 : TypeId} {pos pos2 : String} {after after2 : Array Edge} {guard guard2 : Option (Nat × Bool)} {fuel : Nat} {listed : Array Bool} {a : Act} {w : World}
    (hi : ops[i]? = some ⟨d, op, ty, pos, after, guard⟩) (hj : ops[j]? = some ⟨d2, op2, ty2, pos2, after2, guard2⟩) (hr : Region.ready .any ops listed = [i, j])
    (hwn : Region.wanted ⟨d, op, ty, pos, after, guard⟩ (yielded ops a.tmps) = true) (hwn2 : Region.wanted ⟨d2, op2, ty2, pos2, after2, guard2⟩ (yielded ops a.tmps) = true)
    (h : ∀ K : Act → World → Prop, Shut (∀ a' w', S w' → RestS P ops Q S fuel (listed.setIfInBounds i true) a' w' → K a' w') → Oper.wp P ⟨d, op, ty, pos, after, guard⟩ a w K (NoPanic Q))
    (h2 : ∀ K : Act → World → Prop, Shut (∀ a' w', S w' → RestS P ops Q S fuel (listed.setIfInBounds j true) a' w' → K a' w') → Oper.wp P ⟨d2, op2, ty2, pos2, after2, guard2⟩ a w K (NoPanic Q)) : RestS P ops Q S (fuel + 1) listed a w := by
  refine wpAnyH_all hr (by simp) fun k hk => ?_
  simp only [List.mem_cons, List.not_mem_nil, or_false] at hk
  rcases hk with rfl | rfl
  · unfold wpOp
    simp only [hi, hwn, if_true]
    exact .inl (h _ (fun a' w' hg hrest => ⟨hg, hrest⟩))
  · unfold wpOp
    simp only [hj, hwn2, if_true]
    exact .inl (h2 _ (fun a' w' hg hrest => ⟨hg, hrest⟩))
end Go.Proofs.YtjklgmhaebjjaaaGreat
namespace Go.Proofs.YtjklgmhaebjjaaaGreat.S12
open S11
open Go.RowKit
set_option linter.unusedVariables false
set_option linter.unusedSimpArgs false

theorem addT (p q : List UInt8) (h : p.length + q.length ≤ 4294967296) (W : World) : (Op.stringOp .add { data := p.toArray } { data := q.toArray }).run Tryz.prog W = .ok (.string { data := (p ++ q).toArray }) W := by
  rw [run_string_add_sum _ _ _ (by show p.toArray.size + q.toArray.size ≤ _; simp; omega)]
  congr 2
/-- The slice at A has no part in F. -/
def Off (F : Nat → Prop) (A : Option Addr) (l : List UInt8) : Prop := ∀ x, A = some x → l ≠ [] → ¬ F x.block
theorem rd_ch {F : Nat → Prop} {w w' : World} {A : Option Addr} {l : List UInt8} (h : Rd w w.heap.size A l) (ho : Off F A l) (hc : Ch F w w') : Rd w' w'.heap.size A l := by
  rcases h with e | ⟨b, off, e, hb, hcl⟩
  · exact .inl e
  · by_cases hl : l = []
    · exact .inl hl
    · exact .inr ⟨b, off, e, Nat.lt_of_lt_of_le hb hc.size, fun j hj => (hc.cell (p := ⟨b, off + j, none⟩) hb (ho ⟨b, off, none⟩ e hl)).trans (hcl j hj)⟩
theorem off_below {F : Nat → Prop} {w : World} {B : Nat} {A : Option Addr} {l : List UInt8} (h : Rd w B A l) (hF : ∀ k, F k → B ≤ k) : Off F A l := by
  intro x hx hl hf
  rcases h with e | ⟨b, off, e, hb, _⟩
  · exact hl e
  · rw [hx] at e
    simp only [Option.some.injEq] at e
    subst e
    have := hF _ hf
    simp at this
    omega
theorem ro_lt {w : World} {B base R : Nat} {Af Ap : Option Addr} {st : St} (h : Ro w B base R Af Ap st) : ∀ k, RF R Af Ap k → k < w.heap.size := fun k hk => (h.lt k hk).2
/-- What is asked of a MAC: the length of the key in four octets, the key, the text. -/
def sealQ (key text : List UInt8) : List UInt8 := layL (key.length : Int) 4 ++ key ++ text
def sealN : List UInt8 := [115, 101, 97, 108]
def tagN : List UInt8 := [116, 97, 103]
/-- What an answer of the reference's tables leaves. -/
def OutF (w : World) (B base R : Nat) (Af Ap : Option Addr) (l : List UInt8) (st' : St) (e : Ending) (w' : World) : Prop :=
  e = .returned (.string ⟨l.toArray⟩) ∧ ∃ Af', Ro w' B base R Af' Ap st' ∧ Ch (RF R Af Ap) w w' ∧ Moved w Af Af'
theorem ro_ideal {w : World} {B base R : Nat} {Af Ap : Option Addr} {st : St} (h : Ro w B base R Af Ap st) : w.cell? ⟨R, 0, none⟩ = some (.bool true) := by
  obtain ⟨_, _, A, n, c, cf, cp, hR, _⟩ := h
  exact cell_of_row w R 0 _ _ (0, 0) hR

set_option maxHeartbeats 4000000 in
theorem orSeal_any (B base R : Nat) (Af Ap : Option Addr) (st : St) (A1 : Option Addr) (n1 c1 : Nat) (key : List UInt8) (A2 : Option Addr) (n2 c2 : Nat) (text : List UInt8) (w : World) (hB : B ≤ base) (hbw : base ≤ w.heap.size) (hfs : st.fs.length ≤ 1000) (hcnt : st.cnt ≤ 1000) (h : Ro w B base R Af Ap st)
    (h1 : Rd w w.heap.size A1 key) (hn1 : key.length = n1) (hl1 : n1 ≤ 100000) (ho1 : Off (RF R Af Ap) A1 key) (h2 : Rd w w.heap.size A2 text) (hn2 : text.length = n2) (hl2 : n2 ≤ 100000) (ho2 : Off (RF R Af Ap) A2 text) :
    Calls Tryz.prog 15 #[.pointer (some ⟨R, 0, none⟩), .slice A1 n1 c1, .slice A2 n2 c2] w (OutF w B base R Af Ap (fnOp st sealN (sealQ key text) 64).1 (fnOp st sealN (sealQ key text) 64).2) := by
  have H0 := Lib.hid h
  have HI := ro_ideal h
  have H1 := Lib.hid h1
  have H2 := Lib.hid h2
  have HO1 := Lib.hid ho1
  have HO2 := Lib.hid ho2
  have HN1 := Lib.hid hn1
  have HN2 := Lib.hid hn2
  obtain ⟨T1, hT1⟩ : ∃ T : ByteArray, T = ⟨key.toArray⟩ := ⟨_, rfl⟩
  obtain ⟨T2, hT2⟩ : ∃ T : ByteArray, T = ⟨text.toArray⟩ := ⟨_, rfl⟩
  have HT1 := Lib.hid hT1
  have HT2 := Lib.hid hT2
  -- both texts, in every world where nothing but the tables has turned
  have HS := Lib.hid (show ∀ v, Ch (RF R Af Ap) w v → (convert 22 9 (.slice A1 n1 c1)).run Tryz.prog v = .ok (.string T1) v ∧ (convert 22 9 (.slice A2 n2 c2)).run Tryz.prog v = .ok (.string T2) v from fun v hv => by
    have e1 := conv (rd_ch H1.out HO1.out hv) c1
    have e2 := conv (rd_ch H2.out HO2.out hv) c2
    rw [HN1.out] at e1
    rw [HN2.out] at e2
    exact ⟨by rw [HT1.out]; exact e1, by rw [HT2.out]; exact e2⟩)
  clear h h1 h2 ho1 ho2 hn1 hn2 hT1 hT2
  go_enter Tryz.func15, Tryz.ntmps15
  go_wp2_with fail
  clear HI
  try simp only [Act.put, List.setIfInBounds_toArray, List.set_cons_zero, List.set_cons_succ]
  refine restS_begin (fun v : World => (convert 22 9 (.slice A1 n1 c1)).run Tryz.prog v = .ok (.string T1) v ∧ (convert 22 9 (.slice A2 n2 c2)).run Tryz.prog v = .ok (.string T2) v) (by kernel_rfl) ?_
  have G0 := Lib.hid (show Grown w w.drew from (Below.refl _ w).drew)
  generalize w.drew = w0 at G0 ⊢
  have C0 := Lib.hid (show Ch (RF R Af Ap) w w0 from Ch.grown G0.out)
  have S0 := Lib.hid (HS.out w0 C0.out)
  refine restS_take (i := 0) S0.out rfl (by kernel_rfl) (by kernel_rfl) (by kernel_rfl) (by rfl) (fun v hv => by obtain ⟨v1, v2⟩ := hv; go_simp; try with_reducible rfl) ?_
  try simp only [Act.put, List.setIfInBounds_toArray, List.set_cons_zero, List.set_cons_succ]
  refine restS_take (i := 1) S0.out rfl (by kernel_rfl) (by kernel_rfl) (by kernel_rfl) (by rfl) (fun v hv => by obtain ⟨v1, v2⟩ := hv; go_simp; try with_reducible rfl) ?_
  try simp only [Act.put, List.setIfInBounds_toArray, List.set_cons_zero, List.set_cons_succ]
  refine restS_take (i := 2) S0.out rfl (by kernel_rfl) (by kernel_rfl) (by kernel_rfl) (by rfl) (fun v hv => by obtain ⟨v1, v2⟩ := hv; go_simp; try with_reducible rfl) ?_
  try simp only [Act.put, List.setIfInBounds_toArray, List.set_cons_zero, List.set_cons_succ]
  refine restS_take (i := 3) S0.out rfl (by kernel_rfl) (by kernel_rfl) (by kernel_rfl) (by rfl) (fun v hv => by obtain ⟨v1, v2⟩ := hv; go_simp; try with_reducible rfl) ?_
  try simp only [Act.put, List.setIfInBounds_toArray, List.set_cons_zero, List.set_cons_succ]
  refine restS_take (i := 4) S0.out rfl (by kernel_rfl) (by kernel_rfl) (by kernel_rfl) (by rfl) (fun v hv => by obtain ⟨v1, v2⟩ := hv; go_simp; try with_reducible rfl) ?_
  try simp only [Act.put, List.setIfInBounds_toArray, List.set_cons_zero, List.set_cons_succ]
  refine restS_take (i := 7) S0.out rfl (by kernel_rfl) (by kernel_rfl) (by kernel_rfl) (by rfl) (fun v hv => by obtain ⟨v1, v2⟩ := hv; go_simp; try with_reducible rfl) ?_
  try simp only [Act.put, List.setIfInBounds_toArray, List.set_cons_zero, List.set_cons_succ]
  refine restS_take (i := 8) S0.out rfl (by kernel_rfl) (by kernel_rfl) (by kernel_rfl) (by rfl) (fun v hv => by obtain ⟨v1, v2⟩ := hv; go_simp; try with_reducible rfl) ?_
  try simp only [Act.put, List.setIfInBounds_toArray, List.set_cons_zero, List.set_cons_succ]
  refine restS_take (i := 10) S0.out rfl (by kernel_rfl) (by kernel_rfl) (by kernel_rfl) (by rfl) (fun v hv => by obtain ⟨v1, v2⟩ := hv; go_simp; try with_reducible rfl) ?_
  try simp only [Act.put, List.setIfInBounds_toArray, List.set_cons_zero, List.set_cons_succ]
  refine restS_take (i := 11) S0.out rfl (by kernel_rfl) (by kernel_rfl) (by kernel_rfl) (by rfl) (fun v hv => by obtain ⟨v1, v2⟩ := hv; go_simp; try with_reducible rfl) ?_
  try simp only [Act.put, List.setIfInBounds_toArray, List.set_cons_zero, List.set_cons_succ]
  refine restS_lone (i := 5) rfl (by kernel_rfl) (by rfl) (fun K hK => ?_)
  go_simp
  refine (refLay_any (n1 : Int) 4 4 w0 (by omega) (.inr (.inl rfl))).mono ?_
  rintro e w1 ⟨A4, c4, rfl, ho4, hb4⟩
  rw [layL_len]
  have G1 := Lib.hid (show Grown w w1 from Grown.trans G0.out hb4)
  have C1 := Lib.hid (show Ch (RF R Af Ap) w w1 from Ch.grown G1.out)
  have S1 := Lib.hid (HS.out w1 C1.out)
  have hcv := conv ho4.rd c4
  rw [layL_len] at hcv
  obtain ⟨L4, hL4⟩ : ∃ L, L = layL (n1 : Int) 4 := ⟨_, rfl⟩
  rw [← hL4] at hcv
  have HL4 := Lib.hid hL4
  have HL4n := Lib.hid (show L4.length = 4 by rw [hL4]; exact layL_len _ _)
  clear hL4 ho4 hb4
  refine hK.out _ _ S1.out ?_
  clear hK K
  try simp only [Act.put, List.setIfInBounds_toArray, List.set_cons_zero, List.set_cons_succ]
  refine restS_lone (i := 6) rfl (by kernel_rfl) (by rfl) (fun K hK => ?_)
  go_simp
  refine hK.out _ _ S1.out ?_
  clear hK K hcv
  try simp only [Act.put, List.setIfInBounds_toArray, List.set_cons_zero, List.set_cons_succ]
  obtain ⟨M1, hM1⟩ : ∃ M : ByteArray, M = ⟨(L4 ++ key).toArray⟩ := ⟨_, rfl⟩
  obtain ⟨M2, hM2⟩ : ∃ M : ByteArray, M = ⟨(L4 ++ key ++ text).toArray⟩ := ⟨_, rfl⟩
  have ha1 : ∀ V : World, (Op.stringOp .add ⟨L4.toArray⟩ T1).run Tryz.prog V = .ok (.string M1) V := fun V => by rw [HT1.out, hM1]; exact addT _ _ (by rw [HL4n.out, HN1.out]; omega) V
  have ha2 : ∀ V : World, (Op.stringOp .add M1 T2).run Tryz.prog V = .ok (.string M2) V := fun V => by rw [HT2.out, hM1, hM2]; exact addT _ _ (by rw [List.length_append, HL4n.out, HN1.out, HN2.out]; omega) V
  have HM2 := Lib.hid (show M2 = ⟨(sealQ key text).toArray⟩ by rw [hM2, HL4.out]; unfold sealQ; rw [HN1.out])
  clear hM1 hM2
  refine restS_take (i := 9) S1.out rfl (by kernel_rfl) (by kernel_rfl) (by kernel_rfl) (by rfl) (fun v hv => by obtain ⟨v1, v2⟩ := hv; go_simp; try with_reducible rfl) ?_
  try simp only [Act.put, List.setIfInBounds_toArray, List.set_cons_zero, List.set_cons_succ]
  refine restS_take (i := 12) S1.out rfl (by kernel_rfl) (by kernel_rfl) (by kernel_rfl) (by rfl) (fun v hv => by obtain ⟨v1, v2⟩ := hv; go_simp; try with_reducible rfl) ?_
  try simp only [Act.put, List.setIfInBounds_toArray, List.set_cons_zero, List.set_cons_succ]
  clear ha1 ha2
  refine restS_lone (i := 13) rfl (by kernel_rfl) (by rfl) (fun K hK => ?_)
  go_simp
  rw [HM2.out]
  refine (orFn_any B base R Af Ap st sealN (sealQ key text) 64 w1 hB (by have := C1.out.size; omega) (by omega) hfs hcnt (H0.out.keep (fun k hk => G1.out.block k (by omega)) (fun k hk => G1.out.block k (H0.out.lt k hk).2))).mono ?_
  rintro e w2 ⟨rfl, Af', hz, hch, hm⟩
  refine hK.out _ _ (HS.out w2 (Ch.trans C1.out hch)) ?_
  clear hK K
  try simp only [Act.put, List.setIfInBounds_toArray, List.set_cons_zero, List.set_cons_succ]
  refine restS_take (i := 14) (HS.out w2 (Ch.trans C1.out hch)) rfl (by kernel_rfl) (by kernel_rfl) (by kernel_rfl) (by rfl) (fun v hv => by obtain ⟨v1, v2⟩ := hv; go_simp; try with_reducible rfl) ?_
  try simp only [Act.put, List.setIfInBounds_toArray, List.set_cons_zero, List.set_cons_succ]
  refine restS_done (by kernel_rfl) ?_
  go_wp2_with fail
  go_ret
  refine ⟨rfl, Af', hz, Ch.trans C1.out hch, ?_⟩
  rcases hm with e | ⟨x, hx, hx2⟩
  · exact .inl e
  · exact .inr ⟨x, hx, Nat.le_trans C1.out.size hx2⟩

set_option maxHeartbeats 4000000 in
theorem orTag_any (B base R : Nat) (Af Ap : Option Addr) (st : St) (A1 : Option Addr) (n1 c1 : Nat) (key : List UInt8) (A2 : Option Addr) (n2 c2 : Nat) (text : List UInt8) (w : World) (hB : B ≤ base) (hbw : base ≤ w.heap.size) (hfs : st.fs.length ≤ 1000) (hcnt : st.cnt ≤ 1000) (h : Ro w B base R Af Ap st)
    (h1 : Rd w w.heap.size A1 key) (hn1 : key.length = n1) (hl1 : n1 ≤ 100000) (ho1 : Off (RF R Af Ap) A1 key) (h2 : Rd w w.heap.size A2 text) (hn2 : text.length = n2) (hl2 : n2 ≤ 100000) (ho2 : Off (RF R Af Ap) A2 text) :
    Calls Tryz.prog 16 #[.pointer (some ⟨R, 0, none⟩), .slice A1 n1 c1, .slice A2 n2 c2] w (OutF w B base R Af Ap (fnOp st tagN (sealQ key text) 32).1 (fnOp st tagN (sealQ key text) 32).2) := by
  have H0 := Lib.hid h
  have HI := ro_ideal h
  have H1 := Lib.hid h1
  have H2 := Lib.hid h2
  have HO1 := Lib.hid ho1
  have HO2 := Lib.hid ho2
  have HN1 := Lib.hid hn1
  have HN2 := Lib.hid hn2
  obtain ⟨T1, hT1⟩ : ∃ T : ByteArray, T = ⟨key.toArray⟩ := ⟨_, rfl⟩
  obtain ⟨T2, hT2⟩ : ∃ T : ByteArray, T = ⟨text.toArray⟩ := ⟨_, rfl⟩
  have HT1 := Lib.hid hT1
  have HT2 := Lib.hid hT2
  -- both texts, in every world where nothing but the tables has turned
  have HS := Lib.hid (show ∀ v, Ch (RF R Af Ap) w v → (convert 22 9 (.slice A1 n1 c1)).run Tryz.prog v = .ok (.string T1) v ∧ (convert 22 9 (.slice A2 n2 c2)).run Tryz.prog v = .ok (.string T2) v from fun v hv => by
    have e1 := conv (rd_ch H1.out HO1.out hv) c1
    have e2 := conv (rd_ch H2.out HO2.out hv) c2
    rw [HN1.out] at e1
    rw [HN2.out] at e2
    exact ⟨by rw [HT1.out]; exact e1, by rw [HT2.out]; exact e2⟩)
  clear h h1 h2 ho1 ho2 hn1 hn2 hT1 hT2
  go_enter Tryz.func16, Tryz.ntmps16
  go_wp2_with fail
  clear HI
  try simp only [Act.put, List.setIfInBounds_toArray, List.set_cons_zero, List.set_cons_succ]
  refine restS_begin (fun v : World => (convert 22 9 (.slice A1 n1 c1)).run Tryz.prog v = .ok (.string T1) v ∧ (convert 22 9 (.slice A2 n2 c2)).run Tryz.prog v = .ok (.string T2) v) (by kernel_rfl) ?_
  have G0 := Lib.hid (show Grown w w.drew from (Below.refl _ w).drew)
  generalize w.drew = w0 at G0 ⊢
  have C0 := Lib.hid (show Ch (RF R Af Ap) w w0 from Ch.grown G0.out)
  have S0 := Lib.hid (HS.out w0 C0.out)
  refine restS_take (i := 0) S0.out rfl (by kernel_rfl) (by kernel_rfl) (by kernel_rfl) (by rfl) (fun v hv => by obtain ⟨v1, v2⟩ := hv; go_simp; try with_reducible rfl) ?_
  try simp only [Act.put, List.setIfInBounds_toArray, List.set_cons_zero, List.set_cons_succ]
  refine restS_take (i := 1) S0.out rfl (by kernel_rfl) (by kernel_rfl) (by kernel_rfl) (by rfl) (fun v hv => by obtain ⟨v1, v2⟩ := hv; go_simp; try with_reducible rfl) ?_
  try simp only [Act.put, List.setIfInBounds_toArray, List.set_cons_zero, List.set_cons_succ]
  refine restS_take (i := 2) S0.out rfl (by kernel_rfl) (by kernel_rfl) (by kernel_rfl) (by rfl) (fun v hv => by obtain ⟨v1, v2⟩ := hv; go_simp; try with_reducible rfl) ?_
  try simp only [Act.put, List.setIfInBounds_toArray, List.set_cons_zero, List.set_cons_succ]
  refine restS_take (i := 3) S0.out rfl (by kernel_rfl) (by kernel_rfl) (by kernel_rfl) (by rfl) (fun v hv => by obtain ⟨v1, v2⟩ := hv; go_simp; try with_reducible rfl) ?_
  try simp only [Act.put, List.setIfInBounds_toArray, List.set_cons_zero, List.set_cons_succ]
  refine restS_take (i := 4) S0.out rfl (by kernel_rfl) (by kernel_rfl) (by kernel_rfl) (by rfl) (fun v hv => by obtain ⟨v1, v2⟩ := hv; go_simp; try with_reducible rfl) ?_
  try simp only [Act.put, List.setIfInBounds_toArray, List.set_cons_zero, List.set_cons_succ]
  refine restS_take (i := 7) S0.out rfl (by kernel_rfl) (by kernel_rfl) (by kernel_rfl) (by rfl) (fun v hv => by obtain ⟨v1, v2⟩ := hv; go_simp; try with_reducible rfl) ?_
  try simp only [Act.put, List.setIfInBounds_toArray, List.set_cons_zero, List.set_cons_succ]
  refine restS_take (i := 8) S0.out rfl (by kernel_rfl) (by kernel_rfl) (by kernel_rfl) (by rfl) (fun v hv => by obtain ⟨v1, v2⟩ := hv; go_simp; try with_reducible rfl) ?_
  try simp only [Act.put, List.setIfInBounds_toArray, List.set_cons_zero, List.set_cons_succ]
  refine restS_take (i := 10) S0.out rfl (by kernel_rfl) (by kernel_rfl) (by kernel_rfl) (by rfl) (fun v hv => by obtain ⟨v1, v2⟩ := hv; go_simp; try with_reducible rfl) ?_
  try simp only [Act.put, List.setIfInBounds_toArray, List.set_cons_zero, List.set_cons_succ]
  refine restS_take (i := 11) S0.out rfl (by kernel_rfl) (by kernel_rfl) (by kernel_rfl) (by rfl) (fun v hv => by obtain ⟨v1, v2⟩ := hv; go_simp; try with_reducible rfl) ?_
  try simp only [Act.put, List.setIfInBounds_toArray, List.set_cons_zero, List.set_cons_succ]
  refine restS_lone (i := 5) rfl (by kernel_rfl) (by rfl) (fun K hK => ?_)
  go_simp
  refine (refLay_any (n1 : Int) 4 4 w0 (by omega) (.inr (.inl rfl))).mono ?_
  rintro e w1 ⟨A4, c4, rfl, ho4, hb4⟩
  rw [layL_len]
  have G1 := Lib.hid (show Grown w w1 from Grown.trans G0.out hb4)
  have C1 := Lib.hid (show Ch (RF R Af Ap) w w1 from Ch.grown G1.out)
  have S1 := Lib.hid (HS.out w1 C1.out)
  have hcv := conv ho4.rd c4
  rw [layL_len] at hcv
  obtain ⟨L4, hL4⟩ : ∃ L, L = layL (n1 : Int) 4 := ⟨_, rfl⟩
  rw [← hL4] at hcv
  have HL4 := Lib.hid hL4
  have HL4n := Lib.hid (show L4.length = 4 by rw [hL4]; exact layL_len _ _)
  clear hL4 ho4 hb4
  refine hK.out _ _ S1.out ?_
  clear hK K
  try simp only [Act.put, List.setIfInBounds_toArray, List.set_cons_zero, List.set_cons_succ]
  refine restS_lone (i := 6) rfl (by kernel_rfl) (by rfl) (fun K hK => ?_)
  go_simp
  refine hK.out _ _ S1.out ?_
  clear hK K hcv
  try simp only [Act.put, List.setIfInBounds_toArray, List.set_cons_zero, List.set_cons_succ]
  obtain ⟨M1, hM1⟩ : ∃ M : ByteArray, M = ⟨(L4 ++ key).toArray⟩ := ⟨_, rfl⟩
  obtain ⟨M2, hM2⟩ : ∃ M : ByteArray, M = ⟨(L4 ++ key ++ text).toArray⟩ := ⟨_, rfl⟩
  have ha1 : ∀ V : World, (Op.stringOp .add ⟨L4.toArray⟩ T1).run Tryz.prog V = .ok (.string M1) V := fun V => by rw [HT1.out, hM1]; exact addT _ _ (by rw [HL4n.out, HN1.out]; omega) V
  have ha2 : ∀ V : World, (Op.stringOp .add M1 T2).run Tryz.prog V = .ok (.string M2) V := fun V => by rw [HT2.out, hM1, hM2]; exact addT _ _ (by rw [List.length_append, HL4n.out, HN1.out, HN2.out]; omega) V
  have HM2 := Lib.hid (show M2 = ⟨(sealQ key text).toArray⟩ by rw [hM2, HL4.out]; unfold sealQ; rw [HN1.out])
  clear hM1 hM2
  refine restS_take (i := 9) S1.out rfl (by kernel_rfl) (by kernel_rfl) (by kernel_rfl) (by rfl) (fun v hv => by obtain ⟨v1, v2⟩ := hv; go_simp; try with_reducible rfl) ?_
  try simp only [Act.put, List.setIfInBounds_toArray, List.set_cons_zero, List.set_cons_succ]
  refine restS_take (i := 12) S1.out rfl (by kernel_rfl) (by kernel_rfl) (by kernel_rfl) (by rfl) (fun v hv => by obtain ⟨v1, v2⟩ := hv; go_simp; try with_reducible rfl) ?_
  try simp only [Act.put, List.setIfInBounds_toArray, List.set_cons_zero, List.set_cons_succ]
  clear ha1 ha2
  refine restS_lone (i := 13) rfl (by kernel_rfl) (by rfl) (fun K hK => ?_)
  go_simp
  rw [HM2.out]
  refine (orFn_any B base R Af Ap st tagN (sealQ key text) 32 w1 hB (by have := C1.out.size; omega) (by omega) hfs hcnt (H0.out.keep (fun k hk => G1.out.block k (by omega)) (fun k hk => G1.out.block k (H0.out.lt k hk).2))).mono ?_
  rintro e w2 ⟨rfl, Af', hz, hch, hm⟩
  refine hK.out _ _ (HS.out w2 (Ch.trans C1.out hch)) ?_
  clear hK K
  try simp only [Act.put, List.setIfInBounds_toArray, List.set_cons_zero, List.set_cons_succ]
  refine restS_take (i := 14) (HS.out w2 (Ch.trans C1.out hch)) rfl (by kernel_rfl) (by kernel_rfl) (by kernel_rfl) (by rfl) (fun v hv => by obtain ⟨v1, v2⟩ := hv; go_simp; try with_reducible rfl) ?_
  try simp only [Act.put, List.setIfInBounds_toArray, List.set_cons_zero, List.set_cons_succ]
  refine restS_done (by kernel_rfl) ?_
  go_wp2_with fail
  go_ret
  refine ⟨rfl, Af', hz, Ch.trans C1.out hch, ?_⟩
  rcases hm with e | ⟨x, hx, hx2⟩
  · exact .inl e
  · exact .inr ⟨x, hx, Nat.le_trans C1.out.size hx2⟩
end Go.Proofs.YtjklgmhaebjjaaaGreat.S12
