/-
  A region that draws its order: two operations that may come up at once, each of which is then walked. The reference's Seal and Tag, in an ideal oracle.
-/
import Derived.Test.YtjklgmhaebjjaaaMgOsameMain12
import Derived.Test.YtjklgmhaebjjaaaMgOsameMain11
namespace Go.Proofs.Ytjklgmhaebjjaaa
open Go.RowKit
set_option linter.unusedVariables false

theorem restS_two {P : Program} {ops : Array Oper} {Q : Exit → Act → World → Prop} {S : World → Prop} {i j : Nat} {d d2 : Option Tmp} {op op2 : Op} {ty ty2 : TypeId} {pos pos2 : String} {after after2 : Array Edge} {guard guard2 : Option (Nat × Bool)} {fuel : Nat} {listed : Array Bool} {a : Act} {w : World}
    (hi : ops[i]? = some ⟨d, op, ty, pos, after, guard⟩) (hj : ops[j]? = some ⟨d2, op2, ty2, pos2, after2, guard2⟩) (hr : Region.ready .any ops listed = [i, j])
    (hwn : Region.wanted ⟨d, op, ty, pos, after, guard⟩ (yielded ops a.tmps) = true) (hwn2 : Region.wanted ⟨d2, op2, ty2, pos2, after2, guard2⟩ (yielded ops a.tmps) = true)
    (h : ∀ K : Act → World → Prop, Shut (∀ a' w', S w' → RestS P ops Q S fuel (listed.setIfInBounds i true) a' w' → K a' w') → Oper.wp P ⟨d, op, ty, pos, after, guard⟩ a w K (NoPanic Q))
    (h2 : ∀ K : Act → World → Prop, Shut (∀ a' w', S w' → RestS P ops Q S fuel (listed.setIfInBounds j true) a' w' → K a' w') → Oper.wp P ⟨d2, op2, ty2, pos2, after2, guard2⟩ a w K (NoPanic Q)) : RestS P ops Q S (fuel + 1) listed a w := by
  refine wpAnyH_all hr (by simp) fun k hk => ?_
  simp only [List.mem_cons, List.not_mem_nil, or_false] at hk
  rcases hk with rfl | rfl
  · unfold wpOp
    simp only [hi, hwn, if_true]
    exact .inl (h _ (fun a' w' hg hrest => ⟨hg, hrest⟩))
  · unfold wpOp
    simp only [hj, hwn2, if_true]
    exact .inl (h2 _ (fun a' w' hg hrest => ⟨hg, hrest⟩))
end Go.Proofs.Ytjklgmhaebjjaaa
namespace Go.Proofs.Ytjklgmhaebjjaaa.S12
open S11
open Go.RowKit
set_option linter.unusedVariables false
set_option linter.unusedSimpArgs false

theorem addT (p q : List UInt8) (h : p.length + q.length ≤ 4294967296) (W : World) : (Op.stringOp .add { data := p.toArray } { data := q.toArray }).run Try.prog W = .ok (.string { data := (p ++ q).toArray }) W := by
  rw [run_string_add_sum _ _ _ (by show p.toArray.size + q.toArray.size ≤ _; simp; omega)]
  congr 2
/-- The slice at A has no part in F. -/
def Off (F : Nat → Prop) (A : Option Addr) (l : List UInt8) : Prop := ∀ x, A = some x → l ≠ [] → ¬ F x.block
theorem rd_ch {F : Nat → Prop} {w w' : World} {A : Option Addr} {l : List UInt8} (h : Rd w w.heap.size A l) (ho : Off F A l) (hc : Ch F w w') : Rd w' w'.heap.size A l := by
  rcases h with e | ⟨b, off, e, hb, hcl⟩
  · exact .inl e
  · by_cases hl : l = []
    · exact .inl hl
    · exact .inr ⟨b, off, e, Nat.lt_of_lt_of_le hb hc.size, fun j hj => (hc.cell (p := ⟨b, off + j, none⟩) hb (ho ⟨b, off, none⟩ e hl)).trans (hcl j hj)⟩
theorem off_below {F : Nat → Prop} {w : World} {B : Nat} {A : Option Addr} {l : List UInt8} (h : Rd w B A l) (hF : ∀ k, F k → B ≤ k) : Off F A l := by
  intro x hx hl hf
  rcases h with e | ⟨b, off, e, hb, _⟩
  · exact hl e
  · rw [hx] at e
    simp only [Option.some.injEq] at e
    subst e
    have := hF _ hf
    simp at this
    omega
/-- What is asked of a MAC: the length of the key in four octets, the key, the text. -/
def sealQ (key text : List UInt8) : List UInt8 := layL (key.length : Int) 4 ++ key ++ text
def sealN : List UInt8 := [115, 101, 97, 108]
def tagN : List UInt8 := [116, 97, 103]
end Go.Proofs.Ytjklgmhaebjjaaa.S12
