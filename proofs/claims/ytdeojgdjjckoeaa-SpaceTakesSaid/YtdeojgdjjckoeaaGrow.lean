/-
  A region that draws its order, whose calls come one behind another and only make new memory: walked in one order, the readings taken as soon as they may come up.
-/
import Derived.Test.YtdeojgdjjckoeaaBase
import Derived.Deep.RegionHeld3
namespace Go.Proofs.Ytdeojgdjjckoeaa
open Go.RowKit
set_option linter.unusedVariables false

/-- All that was there is as it was; there may be more. -/
def Grown (w w' : World) : Prop := Below w.heap.size w w'
theorem Grown.refl (w : World) : Grown w w := Below.refl _ _
theorem Grown.trans {a b c : World} (h : Grown a b) (k : Grown b c) : Grown a c := Below.trans h (Below.mono k h.size)

section
variable {P : Program} {ops : Array Oper} {Q : Exit → Act → World → Prop} {md : Region.Mode}

theorem held_mono {S S' : World → Prop} (hS : ∀ w, S' w → S w) : ∀ (fuel : Nat) (listed : Array Bool) (a : Act) (w : World), wpAnyH P md ops Q S' fuel listed a w → wpAnyH P md ops Q S fuel listed a w
  | 0, _, _, _, h => h
  | fuel + 1, _, _, _, h => ⟨h.1, fun i hi => wpOp_mono (fun a' w' h' => ⟨hS _ h'.1, held_mono hS fuel _ a' w' h'.2⟩) (h.2 i hi)⟩

/-- The rest of a region, from the world w on. -/
def Rest (P : Program) (ops : Array Oper) (Q : Exit → Act → World → Prop) (fuel : Nat) (listed : Array Bool) (a : Act) (w : World) : Prop :=
  wpAnyH P .any ops (NoPanic Q) (Grown w) fuel listed a w

theorem rest_begin {id : Nat} {a : Act} {w : World} (hm : P.follows .mixedOrders = true) (h : Rest P ops Q ops.size (Array.replicate ops.size false) a w.drew) : (Code.region id ops true).wp P Q a w :=
  wp_region_noPanic (wp_region_any hm (wpAny_of_held _ _ _ _ h))

/-- .. in a world of which no more is said than that it has grown. -/
theorem rest_start {id : Nat} {a : Act} {w : World} (hm : P.follows .mixedOrders = true) (h : ∀ v, Grown w v → Rest P ops Q ops.size (Array.replicate ops.size false) a v) : (Code.region id ops true).wp P Q a w :=
  rest_begin hm (h w.drew ⟨rfl, rfl, rfl, Nat.le_refl _, fun _ _ => rfl⟩)

theorem rest_done {fuel : Nat} {listed : Array Bool} {a : Act} {w : World} (hr : Region.ready .any ops listed = []) (h : Q .normal a w) : Rest P ops Q fuel listed a w :=
  wpAnyH_done hr (NoPanic.normal h) _

/-- A reading, a copy, arithmetic: the same in every world that has grown out of this one. -/
theorem rest_take {i : Nat} {d : Option Tmp} {op : Op} {ty : TypeId} {pos : String} {after : Array Edge} {guard : Option (Nat × Bool)} {v : Value} {fuel : Nat} {listed : Array Bool} {a : Act} {w : World} (hi : ops[i]? = some ⟨d, op, ty, pos, after, guard⟩)
    (hs : Region.noSelect ops = true) (hf : Region.free .any ops listed i = true) (hr : (Region.ready .any ops listed).contains i = true) (hwn : Region.wanted ⟨d, op, ty, pos, after, guard⟩ (yielded ops a.tmps) = true)
    (hy : ∀ w', Grown w w' → (execOp a.eval ⟨d, op, ty, pos, after, guard⟩).run P w' = .ok (.value v) w') (h : Rest P ops Q fuel (listed.setIfInBounds i true) (a.put d v) w) : Rest P ops Q (fuel + 1) listed a w :=
  wpAnyH_take hi hs hf hr (fun _ _ _ h => h) (.inl ⟨hwn, hy⟩) (Grown.refl w) h

/-- What its guard passes over. -/
theorem rest_pass {i : Nat} {d : Option Tmp} {op : Op} {ty : TypeId} {pos : String} {after : Array Edge} {guard : Option (Nat × Bool)} {fuel : Nat} {listed : Array Bool} {a : Act} {w : World} (hi : ops[i]? = some ⟨d, op, ty, pos, after, guard⟩)
    (hs : Region.noSelect ops = true) (hf : Region.free .any ops listed i = true) (hr : (Region.ready .any ops listed).contains i = true) (hwn : Region.wanted ⟨d, op, ty, pos, after, guard⟩ (yielded ops a.tmps) = false)
    (h : Rest P ops Q fuel (listed.setIfInBounds i true) (a.put d undef) w) : Rest P ops Q (fuel + 1) listed a w :=
  wpAnyH_take hi hs hf hr (fun _ _ _ h => h) (.inr ⟨hwn, rfl⟩) (Grown.refl w) h

/-- The one operation that may come up: it may make new memory. -/
theorem rest_lone {i : Nat} {d : Option Tmp} {op : Op} {ty : TypeId} {pos : String} {after : Array Edge} {guard : Option (Nat × Bool)} {fuel : Nat} {listed : Array Bool} {a : Act} {w : World} (hi : ops[i]? = some ⟨d, op, ty, pos, after, guard⟩) (hr : Region.ready .any ops listed = [i]) (hwn : Region.wanted ⟨d, op, ty, pos, after, guard⟩ (yielded ops a.tmps) = true)
    (h : ∀ K : Act → World → Prop, Shut (∀ a' w', Grown w w' → Rest P ops Q fuel (listed.setIfInBounds i true) a' w' → K a' w') → Oper.wp P ⟨d, op, ty, pos, after, guard⟩ a w K (NoPanic Q)) : Rest P ops Q (fuel + 1) listed a w := by
  refine wpAnyH_all hr (by simp) fun j hj => ?_
  simp only [List.mem_singleton] at hj
  subst hj
  unfold wpOp
  simp only [hi, hwn, if_true]
  refine .inl (h _ ?_)
  intro a' w' hg hrest
  exact ⟨hg, held_mono (fun x hx => hg.trans hx) _ _ _ _ hrest⟩
end

/-- 'string(b)' in every world that has grown out of one in which b reads as l. -/
theorem conv_at {w : World} {A : Option Addr} {l : List UInt8} (h : Rd w w.heap.size A l) {n : Nat} (hn : l.length = n) (c : Nat) (w' : World) (hg : Grown w w') :
    (convert 47 9 (.slice A n c)).run Try.prog w' = .ok (.string ⟨l.toArray⟩) w' := by
  subst hn
  exact conv (h.grow hg) c

end Go.Proofs.Ytdeojgdjjckoeaa
