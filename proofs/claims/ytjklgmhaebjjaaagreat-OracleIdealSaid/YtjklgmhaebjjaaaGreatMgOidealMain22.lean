/-
  The program's tables in memory: the struct, its tape, its four maps; what a store or a map's turn leaves. The program's Draw.
-/
import Derived.Test.YtjklgmhaebjjaaaGreatMgOidealMain21
import Derived.Test.YtjklgmhaebjjaaaGreatMgOidealMain10
import Derived.Test.YtjklgmhaebjjaaaGreatMgOidealMain16
import Derived.Laws.CopyOwn
namespace Go.Proofs.YtjklgmhaebjjaaaGreat.S11
open Go.RowKit
set_option linter.unusedVariables false
set_option linter.unusedSimpArgs false

/-- How an answer, a mark, a pair stands in a map. -/
def av (y : List UInt8) : Value := .agg #[.string ⟨y.toArray⟩]
def gv (_ : Unit) : Value := .agg #[]
/-- Where the four maps and the tape lie. -/
structure Lay where
  a : Nat
  g : Nat
  f : Nat
  b : Nat
  t : Option Nat
def Lay.side (L : Lay) (c : Bool) : Nat := if c then L.f else L.b
def LzV (A : Option Addr) (n c : Nat) (L : Lay) (bad : Bool) (cnt : Int) : Array Value := #[.slice A n c, .map (some L.a), .map (some L.g), .map (some L.f), .map (some L.b), .bool bad, .int .i64 cnt]
def FF (G : Nat) (L : Lay) (k : Nat) : Prop := k = G ∨ k = L.a ∨ k = L.g ∨ k = L.f ∨ k = L.b ∨ L.t = some k
abbrev MA := Ky → Option (List UInt8)
abbrev MG := Ky → Option Unit
abbrev MS := Ky → Option Ky
structure Lr (w : World) (G : Nat) (L : Lay) (A : Option Addr) (n c : Nat) (seed : List UInt8) (bad : Bool) (cnt : Int) (fa : MA) (fg : MG) (ff fb : MS) : Prop where
  hG : w.heap[G]? = some (.cells (LzV A n c L bad cnt) 93 (0, 0))
  hn : seed.length = n
  hc : n ≤ c
  ht : A.map (·.block) = L.t
  tl : ∀ k, L.t = some k → k < w.heap.size ∧ k ≠ G ∧ k ≠ L.a ∧ k ≠ L.g ∧ k ≠ L.f ∧ k ≠ L.b
  rd : Rd w w.heap.size A seed
  ma : Mp.Mp kv av w L.a fa
  mg : Mp.Mp kv gv w L.g fg
  mf : Mp.Mp kv kv w L.f ff
  mb : Mp.Mp kv kv w L.b fb
  d : L.a ≠ L.g ∧ L.a ≠ L.f ∧ L.a ≠ L.b ∧ L.g ≠ L.f ∧ L.g ≠ L.b ∧ L.f ≠ L.b
section
variable {w w' : World} {G : Nat} {L : Lay} {A : Option Addr} {n c : Nat} {seed : List UInt8} {bad : Bool} {cnt : Int} {fa : MA} {fg : MG} {ff fb : MS}
theorem Lr.lt (h : Lr w G L A n c seed bad cnt fa fg ff fb) : ∀ k, FF G L k → k < w.heap.size := by
  rintro k (rfl | rfl | rfl | rfl | rfl | hk)
  · exact lt_of_heap h.hG
  · exact h.ma.lt
  · exact h.mg.lt
  · exact h.mf.lt
  · exact h.mb.lt
  · exact (h.tl k hk).1
theorem Lr.rdk (h : Lr w G L A n c seed bad cnt fa fg ff fb) (hk : ∀ k, L.t = some k → w'.heap[k]? = w.heap[k]?) (hs : w.heap.size ≤ w'.heap.size) : Rd w' w'.heap.size A seed := by
  rcases h.rd with h1 | ⟨b, off, e, hb, hc⟩
  · exact .inl h1
  · have ht := h.ht
    rw [e] at ht
    exact .inr ⟨b, off, e, by omega, fun j hj => by rw [World.cell?_of_block (a := ⟨b, off + j, none⟩) (hk b ht.symm)]; exact hc j hj⟩
theorem Lr.keep (h : Lr w G L A n c seed bad cnt fa fg ff fb) (hk : ∀ k, FF G L k → w'.heap[k]? = w.heap[k]?) (hs : w.heap.size ≤ w'.heap.size) : Lr w' G L A n c seed bad cnt fa fg ff fb :=
  ⟨(hk G (.inl rfl)).trans h.hG, h.hn, h.hc, h.ht, fun k hk2 => ⟨by have := (h.tl k hk2).1; omega, (h.tl k hk2).2⟩, h.rdk (fun k hk2 => hk k (.inr (.inr (.inr (.inr (.inr hk2)))))) hs, h.ma.keep (hk _ (.inr (.inl rfl))), h.mg.keep (hk _ (.inr (.inr (.inl rfl)))), h.mf.keep (hk _ (.inr (.inr (.inr (.inl rfl))))), h.mb.keep (hk _ (.inr (.inr (.inr (.inr (.inl rfl)))))), h.d⟩
theorem Lr.grow (h : Lr w G L A n c seed bad cnt fa fg ff fb) (hg : Grown w w') : Lr w' G L A n c seed bad cnt fa fg ff fb := h.keep (fun k hk => hg.block k (h.lt k hk)) hg.size
/-- A store into the struct. -/
theorem Lr.cell (h : Lr w G L A n c seed bad cnt fa fg ff fb) (j : Nat) (u : Value) {A2 : Option Addr} {n2 c2 : Nat} {seed2 : List UInt8} {bad2 : Bool} {cnt2 : Int} (hv : (LzV A n c L bad cnt).setIfInBounds j u = LzV A2 n2 c2 L bad2 cnt2) (hn : seed2.length = n2) (hc : n2 ≤ c2) (ht : A2.map (·.block) = L.t) (hr : Rd w w.heap.size A2 seed2) :
    Lr (w.setCell ⟨G, j, none⟩ u) G L A2 n2 c2 seed2 bad2 cnt2 fa fg ff fb := by
  have hne : ∀ k, k ≠ G → (w.setCell ⟨G, j, none⟩ u).heap[k]? = w.heap[k]? := fun k hk => heap_setCell_other w ⟨G, j, none⟩ k u (fun e => hk (by simpa using e))
  refine ⟨?_, hn, hc, ht, fun k hk => ⟨by simpa using (h.tl k hk).1, (h.tl k hk).2⟩, ?_, h.ma.keep (hne _ (h.ma.cells h.hG)), h.mg.keep (hne _ (h.mg.cells h.hG)), h.mf.keep (hne _ (h.mf.cells h.hG)), h.mb.keep (hne _ (h.mb.cells h.hG)), h.d⟩
  · rw [heap_setCell_same w G j _ _ _ h.hG, hv]
  · rcases hr with h1 | ⟨b, off, e, hb, hc⟩
    · exact .inl h1
    · rw [e] at ht
      exact .inr ⟨b, off, e, by simpa using hb, fun j hj => by rw [World.cell?_of_block (a := ⟨b, off + j, none⟩) (hne b (h.tl b ht.symm).2.1)]; exact hc j hj⟩
theorem Lr.setBad (h : Lr w G L A n c seed bad cnt fa fg ff fb) (b : Bool) : Lr (w.setCell ⟨G, 5, none⟩ (.bool b)) G L A n c seed b cnt fa fg ff fb := h.cell 5 _ rfl h.hn h.hc h.ht h.rd
theorem Lr.setCnt (h : Lr w G L A n c seed bad cnt fa fg ff fb) (k : Int) : Lr (w.setCell ⟨G, 6, none⟩ (.int .i64 k)) G L A n c seed bad k fa fg ff fb := h.cell 6 _ rfl h.hn h.hc h.ht h.rd
theorem Lr.setTape (h : Lr w G L A n c seed bad cnt fa fg ff fb) {A2 : Option Addr} {n2 c2 : Nat} {seed2 : List UInt8} (hn : seed2.length = n2) (hc : n2 ≤ c2) (ht : A2.map (·.block) = L.t) (hr : Rd w w.heap.size A2 seed2) : Lr (w.setCell ⟨G, 0, none⟩ (.slice A2 n2 c2)) G L A2 n2 c2 seed2 bad cnt fa fg ff fb := h.cell 0 _ rfl hn hc ht hr
theorem by_block {b : Nat} (hg : w.grownBy w' (some b)) (k : Nat) (hk : k < w.heap.size) (hne : k ≠ b) : w'.heap[k]? = w.heap[k]? := hg.block k hk (fun e => hne (by simpa using e))
/-- A map has turned. -/
theorem Lr.putA (h : Lr w G L A n c seed bad cnt fa fg ff fb) {fa' : MA} (hm : Mp.Mp kv av w' L.a fa') (hg : w.grownBy w' (some L.a)) : Lr w' G L A n c seed bad cnt fa' fg ff fb :=
  ⟨(by_block hg G (lt_of_heap h.hG) (fun e => h.ma.cells h.hG e.symm)).trans h.hG, h.hn, h.hc, h.ht, fun k hk2 => ⟨by have := (h.tl k hk2).1; have := hg.size; omega, (h.tl k hk2).2⟩, h.rdk (fun k hk => by_block hg k (h.tl k hk).1 (h.tl k hk).2.2.1) hg.size,
    hm, h.mg.keep (by_block hg _ h.mg.lt (fun e => h.d.1 e.symm)), h.mf.keep (by_block hg _ h.mf.lt (fun e => h.d.2.1 e.symm)), h.mb.keep (by_block hg _ h.mb.lt (fun e => h.d.2.2.1 e.symm)), h.d⟩
theorem Lr.putG (h : Lr w G L A n c seed bad cnt fa fg ff fb) {fg' : MG} (hm : Mp.Mp kv gv w' L.g fg') (hg : w.grownBy w' (some L.g)) : Lr w' G L A n c seed bad cnt fa fg' ff fb :=
  ⟨(by_block hg G (lt_of_heap h.hG) (fun e => h.mg.cells h.hG e.symm)).trans h.hG, h.hn, h.hc, h.ht, fun k hk2 => ⟨by have := (h.tl k hk2).1; have := hg.size; omega, (h.tl k hk2).2⟩, h.rdk (fun k hk => by_block hg k (h.tl k hk).1 (h.tl k hk).2.2.2.1) hg.size,
    h.ma.keep (by_block hg _ h.ma.lt (fun e => h.d.1 e)), hm, h.mf.keep (by_block hg _ h.mf.lt (fun e => h.d.2.2.2.1 e.symm)), h.mb.keep (by_block hg _ h.mb.lt (fun e => h.d.2.2.2.2.1 e.symm)), h.d⟩
theorem Lr.putF (h : Lr w G L A n c seed bad cnt fa fg ff fb) {ff' : MS} (hm : Mp.Mp kv kv w' L.f ff') (hg : w.grownBy w' (some L.f)) : Lr w' G L A n c seed bad cnt fa fg ff' fb :=
  ⟨(by_block hg G (lt_of_heap h.hG) (fun e => h.mf.cells h.hG e.symm)).trans h.hG, h.hn, h.hc, h.ht, fun k hk2 => ⟨by have := (h.tl k hk2).1; have := hg.size; omega, (h.tl k hk2).2⟩, h.rdk (fun k hk => by_block hg k (h.tl k hk).1 (h.tl k hk).2.2.2.2.1) hg.size,
    h.ma.keep (by_block hg _ h.ma.lt (fun e => h.d.2.1 e)), h.mg.keep (by_block hg _ h.mg.lt (fun e => h.d.2.2.2.1 e)), hm, h.mb.keep (by_block hg _ h.mb.lt (fun e => h.d.2.2.2.2.2 e.symm)), h.d⟩
theorem Lr.putB (h : Lr w G L A n c seed bad cnt fa fg ff fb) {fb' : MS} (hm : Mp.Mp kv kv w' L.b fb') (hg : w.grownBy w' (some L.b)) : Lr w' G L A n c seed bad cnt fa fg ff fb' :=
  ⟨(by_block hg G (lt_of_heap h.hG) (fun e => h.mb.cells h.hG e.symm)).trans h.hG, h.hn, h.hc, h.ht, fun k hk2 => ⟨by have := (h.tl k hk2).1; have := hg.size; omega, (h.tl k hk2).2⟩, h.rdk (fun k hk => by_block hg k (h.tl k hk).1 (h.tl k hk).2.2.2.2.2) hg.size,
    h.ma.keep (by_block hg _ h.ma.lt (fun e => h.d.2.2.1 e)), h.mg.keep (by_block hg _ h.mg.lt (fun e => h.d.2.2.2.2.1 e)), h.mf.keep (by_block hg _ h.mf.lt (fun e => h.d.2.2.2.2.2 e)), hm, h.d⟩
theorem Ch.by_ {F : Nat → Prop} {b : Nat} (hg : w.grownBy w' (some b)) (hb : F b) : Ch F w w' := ⟨hg.os, hg.tape, hg.output, hg.size, fun k hk hf => hg.block k hk (fun e => by simp only [Option.some.injEq] at e; exact hf (e ▸ hb))⟩
end
/-- The program's tables st lie at block G. -/
def Lm (w : World) (G : Nat) (L : Lay) (st : St) : Prop := ∃ A n c fa fg ff fb, Lr w G L A n c st.seed st.bad (st.cnt : Int) fa fg ff fb ∧ Tab4 st fa fg ff fb
def Lz : Tab := fun w G F st => ∃ L, Lm w G L st ∧ ∀ k, F k ↔ FF G L k
/-- What a call leaves that hands out the bytes l. -/
def OutL (w : World) (G : Nat) (L : Lay) (l : List UInt8) (st' : St) (e : Ending) (w' : World) : Prop :=
  ∃ A n c, e = .returned (.slice A n c) ∧ l.length = n ∧ n ≤ c ∧ Rd w' w'.heap.size A l ∧ (∀ x, A = some x → l ≠ [] → w.heap.size ≤ x.block) ∧ Lm w' G L st' ∧ Ch (FF G L) w w'
theorem lz_foot (w : World) (G : Nat) (F : Nat → Prop) (st : St) (h : Lz w G F st) : ∀ k, F k → k < w.heap.size := by
  obtain ⟨L, ⟨A, n, c, fa, fg, ff, fb, hr, _⟩, hF⟩ := h
  exact fun k hk => hr.lt k ((hF k).1 hk)
theorem lz_keep (w w' : World) (G : Nat) (F : Nat → Prop) (st : St) (h : Lz w G F st) (hk : ∀ k, F k → w'.heap[k]? = w.heap[k]?) (hs : w.heap.size ≤ w'.heap.size) : Lz w' G F st := by
  obtain ⟨L, ⟨A, n, c, fa, fg, ff, fb, hr, ht⟩, hF⟩ := h
  exact ⟨L, ⟨A, n, c, fa, fg, ff, fb, hr.keep (fun k h => hk k ((hF k).2 h)) hs, ht⟩, hF⟩
theorem outL_out {w : World} {G : Nat} {F : Nat → Prop} {L : Lay} {l : List UInt8} {st st' : St} {e : Ending} {w' : World} (hl : ∀ k, FF G L k → k < w.heap.size) (hF : ∀ k, F k ↔ FF G L k) (h : OutL w G L l st' e w') : Out Lz w G F l st' e w' := by
  obtain ⟨A, n, c, he, hn, hc, hrd, hnew, hm, hch⟩ := h
  exact ⟨A, n, c, F, he, hn, hc, hrd, fun x hx hne => ⟨hnew x hx hne, fun hf => by have := hl _ ((hF _).1 hf); have := hnew x hx hne; omega⟩, ⟨L, hm, hF⟩, fun k hk => .inl hk, ⟨hch.os, hch.tape, hch.output, hch.size, fun k hk hf => hch.block k hk (fun hf2 => hf ((hF k).2 hf2))⟩⟩
end Go.Proofs.YtjklgmhaebjjaaaGreat.S11
namespace Go.Proofs.YtjklgmhaebjjaaaGreat.S11
open Go.RowKit
set_option linter.unusedVariables false
set_option linter.unusedSimpArgs false

theorem restS_mono {P : Program} {ops : Array Oper} {Q : Exit → Act → World → Prop} {S S' : World → Prop} (hS : ∀ w, S' w → S w) {fuel : Nat} {listed : Array Bool} {a : Act} {w : World} (h : RestS P ops Q S' fuel listed a w) : RestS P ops Q S fuel listed a w :=
  held_mono hS _ _ _ _ h
theorem wp_cp {P : Program} {o : Oper} {a : Act} {w : World} {K : Act → World → Prop} {Q : Exit → Act → World → Prop} (hgd : o.guard = none) (d s : Operand) (dT sT : TypeId)
    (ho : o.op = .call { callee := .builtin .copy, args := #[d, s], argTypes := #[dT, sT] }) (elem : TypeId) (hu : P.underlying dT = some (.slice elem)) (hsz : (P.info? elem).map (·.size) = some 1)
    (dp sp : Option Addr) (dLen dCap sLen sCap : Nat) (hd : a.eval d = .slice dp dLen dCap) (hs : a.eval s = .slice sp sLen sCap)
    (g off : Nat) (cur : List Value) (t : TypeId) (hg : w.heap[g]? = some (.cells cur.toArray t (0, 0))) (cs : List Value) (hn : cs.length = Nat.min sLen dLen)
    (hpos : 0 < cs.length → dp = some ⟨g, off, none⟩ ∧ ∃ ad, sp = some ad ∧ ∀ j v, cs[j]? = some v → w.cell? (ad.add j) = some v)
    (hfit : off + cs.length ≤ cur.length) (h1 : ∀ v ∈ cs, v.oneCell' = true) (B : Nat) (w0 : World) (hb : Below B w0 w) (hBg : B ≤ g)
    (h : ∀ w', Hid (w'.heap[g]? = some (.cells (splice cur off cs).toArray t (0, 0))) → Below B w0 w' → K (a.put o.dst (goInt cs.length)) w') : Oper.wp P o a w K Q := by
  have := step_copy_splice (ops := #[]) (E := True) (Q := Q) hgd d s dT sT ho elem hu hsz dp sp dLen dCap sLen sCap hd hs g off cur t hg cs hn hpos hfit h1 B w0 hb hBg h
  rwa [if_pos (show Region.wanted o (yielded #[] a.tmps) = true by simp [Region.wanted, hgd])] at this
theorem size5q : (Tryz.prog.info? 5).map (·.size) = some 1 := by kernel_rfl
theorem rd_srcq {w : World} {B : Nat} {A : Option Addr} {l : List UInt8} (h : Rd w B A l) (hp : 0 < (bvs l).length) : ∃ ad, A = some ad ∧ ∀ j v, (bvs l)[j]? = some v → w.cell? (ad.add j) = some v := by
  rcases h with rfl | ⟨b, off, rfl, hb, hc⟩
  · simp [bvs] at hp
  · refine ⟨_, rfl, fun j v hv => ?_⟩
    have hj : j < l.length := by
      have := (List.getElem?_eq_some_iff.1 hv).1
      simpa [bvs] using this
    have h3 := hc j hj
    simp [bvs, hj] at hv
    subst hv
    by_cases h0 : j = 0
    · subst h0; simpa [Addr.add] using h3
    · simpa [Addr.add, h0] using h3
theorem drawO_cat (s : List UInt8) (m : Nat) : drawO s m = s.take m ++ List.replicate (m - (s.take m).length) 0 := by
  apply List.ext_getElem
  · rw [drawO_len]; simp; omega
  · intro i h1 h2
    rw [drawO_len] at h1
    simp only [drawO, List.getElem_map, List.getElem_range, gz]
    by_cases c : i < s.length
    · rw [List.getElem_append_left (by simp; omega)]
      simp [List.getD_eq_getElem?_getD, c]
    · rw [List.getElem_append_right (by simp; omega)]
      simp [List.getD_eq_getElem?_getD, List.getElem?_eq_none (show s.length ≤ i by omega)]
theorem drawO_splice (s : List UInt8) (m : Nat) : splice (bvs (List.replicate m 0)) 0 (bvs (s.take m)) = bvs (drawO s m) := by
  rw [drawO_cat]
  simp [splice, bvs, List.map_append]
theorem cut_k (W : World) (A : Option Addr) (m c k : Nat) (h : k ≤ m) (hc : m ≤ c) : (Instr.slice 22 (.slice A m c) (some (.int .i64 (k : Int))) none none).run Tryz.prog W = .ok (.slice (if c = k then A else A.map (·.add k)) (m - k) (c - k)) W := by
  obtain ⟨i0, hi, hz0, hz1, hz2⟩ := info_parts info5
  have he : Tryz.prog.elem 22 = 5 := by kernel_rfl
  rw [run_slice_l W 22 A m c (by rw [he]; exact Tryz.underlying22) .i64 (k : Int) (by omega) (by omega), he]
  simp [sizeOf, typeInfo, hi, hz1, sliced, Result.andThen]
/-- What Draw leaves. -/
def DrawR (w : World) (G : Nat) (L : Lay) (seed : List UInt8) (m : Nat) (bad : Bool) (cnt : Int) (fa : MA) (fg : MG) (ff fb : MS) (e : Ending) (w' : World) : Prop :=
  ∃ B nb cb A2 n2 c2, e = .returned (.slice B nb cb) ∧ (drawO seed m).length = nb ∧ nb ≤ cb ∧ Rd w' w'.heap.size B (drawO seed m) ∧ (∀ x, B = some x → drawO seed m ≠ [] → w.heap.size ≤ x.block) ∧ Lr w' G L A2 n2 c2 (seed.drop m) bad cnt fa fg ff fb ∧ Ch (fun k => k = G) w w'
section
variable {w : World} {G : Nat} {L : Lay} {A : Option Addr} {n c : Nat} {seed : List UInt8} {bad : Bool} {cnt : Int} {fa : MA} {fg : MG} {ff fb : MS}
set_option maxHeartbeats 4000000 in
theorem draw_raw (h : Lr w G L A n c seed bad cnt fa fg ff fb) (m : Int) (hm : m ≤ 1000) :
    Calls Tryz.prog 76 #[.pointer (some ⟨G, 0, none⟩), .int .i64 m] w (DrawR w G L seed m.toNat bad cnt fa fg ff fb) := by
  have H0 := Lib.hid h
  clear h
  by_cases h1 : m < 1
  · have HZ := Lib.hid (show drawO seed m.toNat = [] by rw [show m.toNat = 0 by omega]; rfl)
    have HZ2 := Lib.hid (show seed.drop m.toNat = seed by rw [show m.toNat = 0 by omega]; rfl)
    go_enter Tryz.func76, Tryz.ntmps76
    go_wp2
    go_ret
    exact ⟨none, 0, 0, A, n, c, rfl, by rw [HZ.out]; rfl, Nat.le_refl _, .inl HZ.out, (fun x hx => by cases hx), (by rw [HZ2.out]; exact H0.out), Ch.refl _ _⟩
  · obtain ⟨k, rfl⟩ : ∃ k : Nat, m = (k : Int) := ⟨m.toNat, by omega⟩
    have b2 : ¬ ((k : Int) > 2147483647) := by omega
    have b3 : ¬ ((2147483647 : Int) < (k : Int)) := by omega
    have hk1 : 1 ≤ k := by omega
    rw [show (k : Int).toNat = k by omega]
    obtain ⟨Z, hZ⟩ : ∃ Z, Z = List.replicate k (0 : UInt8) := ⟨_, rfl⟩
    have HZ := Lib.hid hZ
    have hmk : (Instr.makeSlice 22 (.int .i64 (k : Int)) (.int .i64 (k : Int))).run Tryz.prog w = .ok (.slice (some ⟨w.heap.size, 0, none⟩) k k) (w.alloc (.cells (bvs Z).toArray 5)) := by
      rw [hZ]; exact mk22 k (by omega) w
    clear hZ
    obtain ⟨j, hj⟩ : ∃ j, j = Nat.min n k := ⟨_, rfl⟩
    have HJ := Lib.hid hj
    have hjn : j ≤ n := by rw [hj]; exact Nat.min_le_left _ _
    have hcut : ∀ V : World, (Instr.slice 22 (.slice A n c) (some (.int .i64 (j : Int))) none none).run Tryz.prog V = .ok (.slice (if c = j then A else A.map (·.add j)) (n - j) (c - j)) V := fun V => cut_k V A n c j hjn H0.out.hc
    obtain ⟨A2, hA2⟩ : ∃ A2, A2 = if c = j then A else A.map (·.add j) := ⟨_, rfl⟩
    have HA2 := Lib.hid hA2
    rw [← hA2] at hcut
    obtain ⟨n2, hn2⟩ : ∃ n2, n2 = n - j := ⟨_, rfl⟩
    have HN2 := Lib.hid hn2
    rw [← hn2] at hcut
    obtain ⟨c2, hc2⟩ : ∃ c2, c2 = c - j := ⟨_, rfl⟩
    have HC2 := Lib.hid hc2
    rw [← hc2] at hcut
    have HJK := Lib.hid (show j ≤ k by rw [hj]; exact Nat.min_le_right _ _)
    clear hj hA2 hn2 hc2 hjn
    go_enter Tryz.func76, Tryz.ntmps76
    go_wp2_with fail
    have GA := Lib.hid (alloc_below w (.cells (bvs Z).toArray 5))
    have RG := Lib.hid (Row.new w Z)
    obtain ⟨g, hg⟩ : ∃ g, g = w.heap.size := ⟨_, rfl⟩
    have HG := Lib.hid hg
    rw [← hg] at RG ⊢
    clear hmk hg
    generalize w.alloc _ = wa at GA RG ⊢
    have X0 := Lib.hid (H0.out.grow GA.out)
    have HJ2 := Lib.hid (show (seed.take k).length = j by rw [List.length_take, H0.out.hn, HJ.out]; exact Nat.min_comm _ _)
    generalize hwd : wa.drew = wd
    have XD := Lib.hid (show Lr wd G L A n c seed bad cnt fa fg ff fb by rw [← hwd]; exact X0.out.grow ((Below.refl _ wa).drew))
    have RD := Lib.hid (show Row wd g Z by rw [← hwd]; exact RG.out)
    have GD := Lib.hid (show Below w.heap.size w wd by rw [← hwd]; exact Below.drew GA.out)
    have q0 : wd.cell? ⟨G, 0, none⟩ = some (.slice A n c) := cell_of_row wd G 0 _ _ (0, 0) XD.out.hG
    have hGlt : G < wd.heap.size := lt_of_heap XD.out.hG
    have HGg := Lib.hid (show G < g by have := lt_of_heap H0.out.hG; rw [HG.out]; exact this)
    refine restS_begin (fun v : World => True) (by kernel_rfl) ?_
    rw [hwd]
    clear hwd X0 RG GA
    refine restS_take (i := 0) trivial rfl (by kernel_rfl) (by kernel_rfl) (by kernel_rfl) (by rfl) (fun v hv => by obtain v1 := hv; go_simp; try with_reducible rfl) ?_
    try simp only [Act.put, List.setIfInBounds_toArray, List.set_cons_zero, List.set_cons_succ]
    refine restS_take (i := 1) trivial rfl (by kernel_rfl) (by kernel_rfl) (by kernel_rfl) (by rfl) (fun v hv => by obtain v1 := hv; go_simp; try with_reducible rfl) ?_
    try simp only [Act.put, List.setIfInBounds_toArray, List.set_cons_zero, List.set_cons_succ]
    refine restS_take (i := 2) trivial rfl (by kernel_rfl) (by kernel_rfl) (by kernel_rfl) (by rfl) (fun v hv => by obtain v1 := hv; go_simp; try with_reducible rfl) ?_
    try simp only [Act.put, List.setIfInBounds_toArray, List.set_cons_zero, List.set_cons_succ]
    refine restS_take (i := 3) trivial rfl (by kernel_rfl) (by kernel_rfl) (by kernel_rfl) (by rfl) (fun v hv => by obtain v1 := hv; go_simp; try with_reducible rfl) ?_
    try simp only [Act.put, List.setIfInBounds_toArray, List.set_cons_zero, List.set_cons_succ]
    refine restS_take (i := 5) trivial rfl (by kernel_rfl) (by kernel_rfl) (by kernel_rfl) (by rfl) (fun v hv => by obtain v1 := hv; go_simp; try with_reducible rfl) ?_
    try simp only [Act.put, List.setIfInBounds_toArray, List.set_cons_zero, List.set_cons_succ]
    refine restS_take (i := 6) trivial rfl (by kernel_rfl) (by kernel_rfl) (by kernel_rfl) (by rfl) (fun v hv => by obtain v1 := hv; go_simp; try with_reducible rfl) ?_
    try simp only [Act.put, List.setIfInBounds_toArray, List.set_cons_zero, List.set_cons_succ]
    refine restS_take (i := 7) trivial rfl (by kernel_rfl) (by kernel_rfl) (by kernel_rfl) (by rfl) (fun v hv => by obtain v1 := hv; go_simp; try with_reducible rfl) ?_
    try simp only [Act.put, List.setIfInBounds_toArray, List.set_cons_zero, List.set_cons_succ]
    refine restS_take (i := 8) trivial rfl (by kernel_rfl) (by kernel_rfl) (by kernel_rfl) (by rfl) (fun v hv => by obtain v1 := hv; go_simp; try with_reducible rfl) ?_
    try simp only [Act.put, List.setIfInBounds_toArray, List.set_cons_zero, List.set_cons_succ]
    refine restS_two (i := 4) (j := 9) rfl rfl (by kernel_rfl) (by rfl) (by rfl) (fun K hK => ?_) (fun K hK => ?_)
    · go_simp
      refine hK.out _ _ trivial ?_
      clear hK K
      try simp only [Act.put, List.setIfInBounds_toArray, List.set_cons_zero, List.set_cons_succ]
      refine restS_lone (i := 9) rfl (by kernel_rfl) (by rfl) (fun K hK => ?_)
      go_simp
      refine hK.out _ _ trivial ?_
      clear hK K
      try simp only [Act.put, List.setIfInBounds_toArray, List.set_cons_zero, List.set_cons_succ]
      refine restS_lone (i := 10) rfl (by kernel_rfl) (by rfl) (fun K hK => ?_)
      refine wp_cp rfl (.tmp 19) (.tmp 23) 22 22 rfl 5 Tryz.underlying22 size5q _ _ _ _ _ _ rfl rfl g 0 (bvs Z) 5 RD.out (bvs (seed.take k)) (by rw [bvs_length, HJ2.out]; exact HJ.out) (fun hp => ⟨rfl, rd_srcq (XD.out.rd.take k) hp⟩) (by have := HJK.out; rw [bvs_length, bvs_length, HJ2.out, HZ.out, List.length_replicate]; omega) (bvs_one _) w.heap.size w GD.out (by have := HG.out; omega) ?_
      intro w2 hg2 hb2
      rw [show goInt ((bvs (seed.take k)).length : Int) = .int .i64 (j : Int) by rw [bvs_length, HJ2.out]; rfl]
      have R2 := Lib.hid (show Row w2 g (drawO seed k) by have := hg2.out; rw [HZ.out, drawO_splice] at this; exact this)
      have X2 := Lib.hid (H0.out.grow hb2)
      have q2 : w2.cell? ⟨G, 0, none⟩ = some (.slice A n c) := cell_of_row w2 G 0 _ _ (0, 0) X2.out.hG
      have f2 : w2.frozen? ⟨G, 0, none⟩ = false := frozen_of_row w2 G 0 _ _ X2.out.hG
      have B2 := Lib.hid hb2
      clear hg2 hb2 q0 hGlt XD RD GD
      refine hK.out _ _ trivial ?_
      clear hK K
      try simp only [Act.put, List.setIfInBounds_toArray, List.set_cons_zero, List.set_cons_succ]
      refine restS_take (i := 11) trivial rfl (by kernel_rfl) (by kernel_rfl) (by kernel_rfl) (by rfl) (fun v hv => by obtain v1 := hv; go_simp; try with_reducible rfl) ?_
      try simp only [Act.put, List.setIfInBounds_toArray, List.set_cons_zero, List.set_cons_succ]
      refine restS_take (i := 12) trivial rfl (by kernel_rfl) (by kernel_rfl) (by kernel_rfl) (by rfl) (fun v hv => by obtain v1 := hv; go_simp; try with_reducible rfl) ?_
      try simp only [Act.put, List.setIfInBounds_toArray, List.set_cons_zero, List.set_cons_succ]
      refine restS_take (i := 13) trivial rfl (by kernel_rfl) (by kernel_rfl) (by kernel_rfl) (by rfl) (fun v hv => by obtain v1 := hv; go_simp; try with_reducible rfl) ?_
      try simp only [Act.put, List.setIfInBounds_toArray, List.set_cons_zero, List.set_cons_succ]
      refine restS_lone (i := 14) rfl (by kernel_rfl) (by rfl) (fun K hK => ?_)
      go_simp
      refine hK.out _ _ trivial ?_
      clear hK K
      try simp only [Act.put, List.setIfInBounds_toArray, List.set_cons_zero, List.set_cons_succ]
      refine restS_done (by kernel_rfl) ?_
      have X3 := Lib.hid (X2.out.setTape (A2 := A2) (n2 := n2) (c2 := c2) (seed2 := seed.drop k) (by have h1 := HJ2.out; have h2 := X2.out.hn; simp only [List.length_take] at h1; rw [List.length_drop, HN2.out, h2, ← h1, h2]; omega) (by rw [HN2.out, HC2.out]; have := X2.out.hc; omega) (by rw [HA2.out, ← X2.out.ht]; split; rfl; cases A <;> simp [Addr.add]; split <;> rfl) (by
        have h5 := X2.out.rd.cut (k := j) (cap := c) (by rw [X2.out.hn]; exact X2.out.hc)
        rw [HA2.out]
        have e : seed.drop k = seed.drop j := by
          have h1 := HJ2.out
          simp only [List.length_take] at h1
          by_cases cc : k ≤ seed.length
          · rw [show j = k by omega]
          · rw [List.drop_of_length_le (by omega), List.drop_of_length_le (by omega)]
        rw [e]
        exact h5))
      have R3 := Lib.hid (show Rd (w2.setCell ⟨G, 0, none⟩ (.slice A2 n2 c2)) (w2.setCell ⟨G, 0, none⟩ (.slice A2 n2 c2)).heap.size (some ⟨g, 0, none⟩) (drawO seed k) from by
        have e : (w2.setCell ⟨G, 0, none⟩ (.slice A2 n2 c2)).heap[g]? = w2.heap[g]? := heap_setCell_other w2 ⟨G, 0, none⟩ g _ (fun e => by have := HGg.out; simp only at e; omega)
        exact Row.rd (show Row _ g (drawO seed k) from e.trans R2.out) (by have := lt_of_heap R2.out; simpa using this))
      have C3 := Lib.hid (Ch.setCell (Ch.grown (F := fun k => k = G) (show Grown w w2 from B2.out)) (p := ⟨G, 0, none⟩) (.inl rfl) (.slice A2 n2 c2))
      clear q2 f2
      go_wp2
      go_ret
      exact ⟨some ⟨g, 0, none⟩, k, k, A2, n2, c2, rfl, drawO_len _ _, Nat.le_refl _, R3.out, (fun x hx _ => by simp only [Option.some.injEq] at hx; subst hx; exact Nat.le_of_eq HG.out.symm), X3.out, C3.out⟩
    · go_simp
      refine hK.out _ _ trivial ?_
      clear hK K
      try simp only [Act.put, List.setIfInBounds_toArray, List.set_cons_zero, List.set_cons_succ]
      refine restS_two (i := 4) (j := 10) rfl rfl (by kernel_rfl) (by rfl) (by rfl) (fun K hK => ?_) (fun K hK => ?_)
      · go_simp
        refine hK.out _ _ trivial ?_
        clear hK K
        try simp only [Act.put, List.setIfInBounds_toArray, List.set_cons_zero, List.set_cons_succ]
        refine restS_lone (i := 10) rfl (by kernel_rfl) (by rfl) (fun K hK => ?_)
        refine wp_cp rfl (.tmp 19) (.tmp 23) 22 22 rfl 5 Tryz.underlying22 size5q _ _ _ _ _ _ rfl rfl g 0 (bvs Z) 5 RD.out (bvs (seed.take k)) (by rw [bvs_length, HJ2.out]; exact HJ.out) (fun hp => ⟨rfl, rd_srcq (XD.out.rd.take k) hp⟩) (by have := HJK.out; rw [bvs_length, bvs_length, HJ2.out, HZ.out, List.length_replicate]; omega) (bvs_one _) w.heap.size w GD.out (by have := HG.out; omega) ?_
        intro w2 hg2 hb2
        rw [show goInt ((bvs (seed.take k)).length : Int) = .int .i64 (j : Int) by rw [bvs_length, HJ2.out]; rfl]
        have R2 := Lib.hid (show Row w2 g (drawO seed k) by have := hg2.out; rw [HZ.out, drawO_splice] at this; exact this)
        have X2 := Lib.hid (H0.out.grow hb2)
        have q2 : w2.cell? ⟨G, 0, none⟩ = some (.slice A n c) := cell_of_row w2 G 0 _ _ (0, 0) X2.out.hG
        have f2 : w2.frozen? ⟨G, 0, none⟩ = false := frozen_of_row w2 G 0 _ _ X2.out.hG
        have B2 := Lib.hid hb2
        clear hg2 hb2 q0 hGlt XD RD GD
        refine hK.out _ _ trivial ?_
        clear hK K
        try simp only [Act.put, List.setIfInBounds_toArray, List.set_cons_zero, List.set_cons_succ]
        refine restS_take (i := 11) trivial rfl (by kernel_rfl) (by kernel_rfl) (by kernel_rfl) (by rfl) (fun v hv => by obtain v1 := hv; go_simp; try with_reducible rfl) ?_
        try simp only [Act.put, List.setIfInBounds_toArray, List.set_cons_zero, List.set_cons_succ]
        refine restS_take (i := 12) trivial rfl (by kernel_rfl) (by kernel_rfl) (by kernel_rfl) (by rfl) (fun v hv => by obtain v1 := hv; go_simp; try with_reducible rfl) ?_
        try simp only [Act.put, List.setIfInBounds_toArray, List.set_cons_zero, List.set_cons_succ]
        refine restS_take (i := 13) trivial rfl (by kernel_rfl) (by kernel_rfl) (by kernel_rfl) (by rfl) (fun v hv => by obtain v1 := hv; go_simp; try with_reducible rfl) ?_
        try simp only [Act.put, List.setIfInBounds_toArray, List.set_cons_zero, List.set_cons_succ]
        refine restS_lone (i := 14) rfl (by kernel_rfl) (by rfl) (fun K hK => ?_)
        go_simp
        refine hK.out _ _ trivial ?_
        clear hK K
        try simp only [Act.put, List.setIfInBounds_toArray, List.set_cons_zero, List.set_cons_succ]
        refine restS_done (by kernel_rfl) ?_
        have X3 := Lib.hid (X2.out.setTape (A2 := A2) (n2 := n2) (c2 := c2) (seed2 := seed.drop k) (by have h1 := HJ2.out; have h2 := X2.out.hn; simp only [List.length_take] at h1; rw [List.length_drop, HN2.out, h2, ← h1, h2]; omega) (by rw [HN2.out, HC2.out]; have := X2.out.hc; omega) (by rw [HA2.out, ← X2.out.ht]; split; rfl; cases A <;> simp [Addr.add]; split <;> rfl) (by
          have h5 := X2.out.rd.cut (k := j) (cap := c) (by rw [X2.out.hn]; exact X2.out.hc)
          rw [HA2.out]
          have e : seed.drop k = seed.drop j := by
            have h1 := HJ2.out
            simp only [List.length_take] at h1
            by_cases cc : k ≤ seed.length
            · rw [show j = k by omega]
            · rw [List.drop_of_length_le (by omega), List.drop_of_length_le (by omega)]
          rw [e]
          exact h5))
        have R3 := Lib.hid (show Rd (w2.setCell ⟨G, 0, none⟩ (.slice A2 n2 c2)) (w2.setCell ⟨G, 0, none⟩ (.slice A2 n2 c2)).heap.size (some ⟨g, 0, none⟩) (drawO seed k) from by
          have e : (w2.setCell ⟨G, 0, none⟩ (.slice A2 n2 c2)).heap[g]? = w2.heap[g]? := heap_setCell_other w2 ⟨G, 0, none⟩ g _ (fun e => by have := HGg.out; simp only at e; omega)
          exact Row.rd (show Row _ g (drawO seed k) from e.trans R2.out) (by have := lt_of_heap R2.out; simpa using this))
        have C3 := Lib.hid (Ch.setCell (Ch.grown (F := fun k => k = G) (show Grown w w2 from B2.out)) (p := ⟨G, 0, none⟩) (.inl rfl) (.slice A2 n2 c2))
        clear q2 f2
        go_wp2
        go_ret
        exact ⟨some ⟨g, 0, none⟩, k, k, A2, n2, c2, rfl, drawO_len _ _, Nat.le_refl _, R3.out, (fun x hx _ => by simp only [Option.some.injEq] at hx; subst hx; exact Nat.le_of_eq HG.out.symm), X3.out, C3.out⟩
      · refine wp_cp rfl (.tmp 19) (.tmp 23) 22 22 rfl 5 Tryz.underlying22 size5q _ _ _ _ _ _ rfl rfl g 0 (bvs Z) 5 RD.out (bvs (seed.take k)) (by rw [bvs_length, HJ2.out]; exact HJ.out) (fun hp => ⟨rfl, rd_srcq (XD.out.rd.take k) hp⟩) (by have := HJK.out; rw [bvs_length, bvs_length, HJ2.out, HZ.out, List.length_replicate]; omega) (bvs_one _) w.heap.size w GD.out (by have := HG.out; omega) ?_
        intro w2 hg2 hb2
        rw [show goInt ((bvs (seed.take k)).length : Int) = .int .i64 (j : Int) by rw [bvs_length, HJ2.out]; rfl]
        have R2 := Lib.hid (show Row w2 g (drawO seed k) by have := hg2.out; rw [HZ.out, drawO_splice] at this; exact this)
        have X2 := Lib.hid (H0.out.grow hb2)
        have q2 : w2.cell? ⟨G, 0, none⟩ = some (.slice A n c) := cell_of_row w2 G 0 _ _ (0, 0) X2.out.hG
        have f2 : w2.frozen? ⟨G, 0, none⟩ = false := frozen_of_row w2 G 0 _ _ X2.out.hG
        have B2 := Lib.hid hb2
        clear hg2 hb2 q0 hGlt XD RD GD
        refine hK.out _ _ trivial ?_
        clear hK K
        try simp only [Act.put, List.setIfInBounds_toArray, List.set_cons_zero, List.set_cons_succ]
        refine restS_lone (i := 4) rfl (by kernel_rfl) (by rfl) (fun K hK => ?_)
        go_simp
        refine hK.out _ _ trivial ?_
        clear hK K
        try simp only [Act.put, List.setIfInBounds_toArray, List.set_cons_zero, List.set_cons_succ]
        refine restS_take (i := 11) trivial rfl (by kernel_rfl) (by kernel_rfl) (by kernel_rfl) (by rfl) (fun v hv => by obtain v1 := hv; go_simp; try with_reducible rfl) ?_
        try simp only [Act.put, List.setIfInBounds_toArray, List.set_cons_zero, List.set_cons_succ]
        refine restS_take (i := 12) trivial rfl (by kernel_rfl) (by kernel_rfl) (by kernel_rfl) (by rfl) (fun v hv => by obtain v1 := hv; go_simp; try with_reducible rfl) ?_
        try simp only [Act.put, List.setIfInBounds_toArray, List.set_cons_zero, List.set_cons_succ]
        refine restS_take (i := 13) trivial rfl (by kernel_rfl) (by kernel_rfl) (by kernel_rfl) (by rfl) (fun v hv => by obtain v1 := hv; go_simp; try with_reducible rfl) ?_
        try simp only [Act.put, List.setIfInBounds_toArray, List.set_cons_zero, List.set_cons_succ]
        refine restS_lone (i := 14) rfl (by kernel_rfl) (by rfl) (fun K hK => ?_)
        go_simp
        refine hK.out _ _ trivial ?_
        clear hK K
        try simp only [Act.put, List.setIfInBounds_toArray, List.set_cons_zero, List.set_cons_succ]
        refine restS_done (by kernel_rfl) ?_
        have X3 := Lib.hid (X2.out.setTape (A2 := A2) (n2 := n2) (c2 := c2) (seed2 := seed.drop k) (by have h1 := HJ2.out; have h2 := X2.out.hn; simp only [List.length_take] at h1; rw [List.length_drop, HN2.out, h2, ← h1, h2]; omega) (by rw [HN2.out, HC2.out]; have := X2.out.hc; omega) (by rw [HA2.out, ← X2.out.ht]; split; rfl; cases A <;> simp [Addr.add]; split <;> rfl) (by
          have h5 := X2.out.rd.cut (k := j) (cap := c) (by rw [X2.out.hn]; exact X2.out.hc)
          rw [HA2.out]
          have e : seed.drop k = seed.drop j := by
            have h1 := HJ2.out
            simp only [List.length_take] at h1
            by_cases cc : k ≤ seed.length
            · rw [show j = k by omega]
            · rw [List.drop_of_length_le (by omega), List.drop_of_length_le (by omega)]
          rw [e]
          exact h5))
        have R3 := Lib.hid (show Rd (w2.setCell ⟨G, 0, none⟩ (.slice A2 n2 c2)) (w2.setCell ⟨G, 0, none⟩ (.slice A2 n2 c2)).heap.size (some ⟨g, 0, none⟩) (drawO seed k) from by
          have e : (w2.setCell ⟨G, 0, none⟩ (.slice A2 n2 c2)).heap[g]? = w2.heap[g]? := heap_setCell_other w2 ⟨G, 0, none⟩ g _ (fun e => by have := HGg.out; simp only at e; omega)
          exact Row.rd (show Row _ g (drawO seed k) from e.trans R2.out) (by have := lt_of_heap R2.out; simpa using this))
        have C3 := Lib.hid (Ch.setCell (Ch.grown (F := fun k => k = G) (show Grown w w2 from B2.out)) (p := ⟨G, 0, none⟩) (.inl rfl) (.slice A2 n2 c2))
        clear q2 f2
        go_wp2
        go_ret
        exact ⟨some ⟨g, 0, none⟩, k, k, A2, n2, c2, rfl, drawO_len _ _, Nat.le_refl _, R3.out, (fun x hx _ => by simp only [Option.some.injEq] at hx; subst hx; exact Nat.le_of_eq HG.out.symm), X3.out, C3.out⟩
end
end Go.Proofs.YtjklgmhaebjjaaaGreat.S11
