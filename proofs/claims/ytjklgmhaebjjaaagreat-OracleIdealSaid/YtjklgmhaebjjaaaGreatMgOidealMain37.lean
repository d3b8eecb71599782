/-
  Acts of the law: blocks.
-/
import Derived.Test.YtjklgmhaebjjaaaGreatMgOidealMain33
import Derived.Test.YtjklgmhaebjjaaaGreatMgOidealMain36
import Derived.Laws.CopyOwn
namespace Go.Proofs.YtjklgmhaebjjaaaGreat.S12
open S11
open Go.RowKit
set_option linter.unusedVariables false
set_option linter.unusedSimpArgs false

theorem wp_cp {P : Program} {o : Oper} {a : Act} {w : World} {K : Act → World → Prop} {Q : Exit → Act → World → Prop} (hgd : o.guard = none) (d s : Operand) (dT sT : TypeId)
    (ho : o.op = .call { callee := .builtin .copy, args := #[d, s], argTypes := #[dT, sT] }) (elem : TypeId) (hu : P.underlying dT = some (.slice elem)) (hsz : (P.info? elem).map (·.size) = some 1)
    (dp sp : Option Addr) (dLen dCap sLen sCap : Nat) (hd : a.eval d = .slice dp dLen dCap) (hs : a.eval s = .slice sp sLen sCap)
    (g off : Nat) (cur : List Value) (t : TypeId) (hg : w.heap[g]? = some (.cells cur.toArray t (0, 0))) (cs : List Value) (hn : cs.length = Nat.min sLen dLen)
    (hpos : 0 < cs.length → dp = some ⟨g, off, none⟩ ∧ ∃ ad, sp = some ad ∧ ∀ j v, cs[j]? = some v → w.cell? (ad.add j) = some v)
    (hfit : off + cs.length ≤ cur.length) (h1 : ∀ v ∈ cs, v.oneCell' = true) (B : Nat) (w0 : World) (hb : Below B w0 w) (hBg : B ≤ g)
    (h : ∀ w', Hid (w'.heap[g]? = some (.cells (splice cur off cs).toArray t (0, 0))) → Below B w0 w' → K (a.put o.dst (goInt cs.length)) w') : Oper.wp P o a w K Q := by
  have := step_copy_splice (ops := #[]) (E := True) (Q := Q) hgd d s dT sT ho elem hu hsz dp sp dLen dCap sLen sCap hd hs g off cur t hg cs hn hpos hfit h1 B w0 hb hBg h
  rwa [if_pos (show Region.wanted o (yielded #[] a.tmps) = true by simp [Region.wanted, hgd])] at this
theorem size5b : (Tryz.prog.info? 5).map (·.size) = some 1 := by kernel_rfl
theorem zv16 (V : World) : (zeroValue 62).run Tryz.prog V = .ok (.agg (bvs z16b).toArray) V := by kernel_rfl
theorem u16a : Tryz.prog.underlying 62 = some (.array 16 5) := by kernel_rfl
theorem gt16 : Tryz.prog.eqGuardType Tryz.prog.depth 62 = false := by kernel_rfl
/-- The first sixteen octets, filled with noughts. -/
def b16 (X : List UInt8) : List UInt8 := X.take 16 ++ z16b.drop (X.take 16).length
theorem b16_len (X : List UInt8) : (b16 X).length = 16 := by
  unfold b16 z16b
  simp
  omega
theorem b16_splice (X : List UInt8) : splice (bvs z16b) 0 (bvs (X.take 16)) = bvs (b16 X) := by
  unfold b16
  simp [splice, bvs]
theorem rd_src {w : World} {A : Option Addr} {l : List UInt8} (h : Rd w w.heap.size A l) (hp : 0 < (bvs l).length) : ∃ ad, A = some ad ∧ ∀ j v, (bvs l)[j]? = some v → w.cell? (ad.add j) = some v := by
  rcases h with rfl | ⟨b, off, rfl, hb, hc⟩
  · simp [bvs] at hp
  · refine ⟨_, rfl, fun j v hv => ?_⟩
    have hj : j < l.length := by
      have := (List.getElem?_eq_some_iff.1 hv).1
      simpa [bvs] using this
    have h3 := hc j hj
    simp [bvs, hj] at hv
    subst hv
    by_cases h0 : j = 0
    · subst h0; simpa [Addr.add] using h3
    · simpa [Addr.add, h0] using h3
section
variable {M : Mod} {O Q : Ob M} {B P G R ba g : Nat} {w w' : World} {F F2 F' : Nat → Prop} {st st2 : M.σ} {n number : Int} {Vk Vx : Value}
/-- Only the last block has turned. -/
theorem Two.last (KP : Kept B O) (KR : Kept B Q) (h : Two M O Q B P G R w F F2 st st2) (hl : w.heap.size = g + 1) (hg : Loc w B F F2 g) (hP : g ≠ P) (hb : Below g w w') : Two M O Q B P G R w' F F2 st st2 :=
  { h with
    p := KP.keep w w' G F st h.p (fun k hk => hb.block k (by
      rcases hk with hk | hk
      · have h1 := KP.foot w G F st h.p k hk
        have h2 : k ≠ g := fun e => hg.2.1 (e ▸ hk)
        omega
      · have := hg.2.2.2; omega)) hb.size
    r := KR.keep w w' R F2 st2 h.r (fun k hk => hb.block k (by
      rcases hk with hk | hk
      · have h1 := KR.foot w R F2 st2 h.r k hk
        have h2 : k ≠ g := fun e => hg.2.2.1 (e ▸ hk)
        omega
      · have := hg.2.2.2; omega)) hb.size
    bw := Nat.le_trans h.bw hb.size
    cP := (hb.cell (p := ⟨P, 0, none⟩) (by have := h.lt; show P < g; omega)).trans h.cP
    cR := (hb.cell (p := ⟨P, 1, none⟩) (by have := h.lt; show P < g; omega)).trans h.cR
    lt := Nat.lt_of_lt_of_le h.lt hb.size }
/-- A cipher's own blocks: ours, beside the pair and the act, and as they were in w1. -/
structure Fb (FB : Nat → Prop) (w1 : World) (B P ba : Nat) (v : World) (F F2 : Nat → Prop) : Prop where
  loc : ∀ k, FB k → Loc v B F F2 k ∧ k ≠ P ∧ k ≠ ba ∧ k < w1.heap.size
  same : ∀ k, FB k → v.heap[k]? = w1.heap[k]?
  size : w1.heap.size ≤ v.heap.size
variable {FB : Nat → Prop} {w1 : World}
theorem Fb.grow (h : Fb FB w1 B P ba w F F2) (hg : Grown w w') : Fb FB w1 B P ba w' F F2 :=
  ⟨fun k hk => ⟨(h.loc k hk).1.grow hg.size, (h.loc k hk).2⟩, fun k hk => (hg.block k (h.loc k hk).1.1).trans (h.same k hk), Nat.le_trans h.size hg.size⟩
theorem Fb.stepP (h : Fb FB w1 B P ba w F F2) (h2 : ∀ k, F' k → F k ∨ w.heap.size ≤ k) (hc : Ch F w w') : Fb FB w1 B P ba w' F' F2 :=
  ⟨fun k hk => ⟨(h.loc k hk).1.stepP h2 hc.size, (h.loc k hk).2⟩, fun k hk => (hc.block k (h.loc k hk).1.1 (h.loc k hk).1.2.1).trans (h.same k hk), Nat.le_trans h.size hc.size⟩
theorem Fb.stepR (h : Fb FB w1 B P ba w F F2) (h2 : ∀ k, F' k → F2 k ∨ w.heap.size ≤ k) (hc : Ch F2 w w') : Fb FB w1 B P ba w' F F' :=
  ⟨fun k hk => ⟨(h.loc k hk).1.stepR h2 hc.size, (h.loc k hk).2⟩, fun k hk => (hc.block k (h.loc k hk).1.1 (h.loc k hk).1.2.2.1).trans (h.same k hk), Nat.le_trans h.size hc.size⟩
theorem Fb.row (h : Fb FB w1 B P ba w F F2) (hg : w1.heap.size ≤ g) (cs : Array Value) : Fb FB w1 B P ba (w.setRow g cs) F F2 :=
  ⟨fun k hk => ⟨(h.loc k hk).1.grow (by simp [World.setRow]), (h.loc k hk).2⟩, fun k hk => (setRow_other (by have := (h.loc k hk).2.2.2; omega)).trans (h.same k hk), by simpa [World.setRow] using h.size⟩
theorem Fb.last (h : Fb FB w1 B P ba w F F2) (hg : w1.heap.size ≤ g) (hb : Below g w w') : Fb FB w1 B P ba w' F F2 :=
  ⟨fun k hk => ⟨(h.loc k hk).1.grow hb.size, (h.loc k hk).2⟩, fun k hk => (hb.block k (by have := (h.loc k hk).2.2.2; omega)).trans (h.same k hk), Nat.le_trans h.size hb.size⟩
end
end Go.Proofs.YtjklgmhaebjjaaaGreat.S12
