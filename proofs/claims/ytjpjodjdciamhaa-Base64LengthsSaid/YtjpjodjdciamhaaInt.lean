/-
  Slices of ints that a call itself owns, and what append of one number does to them.
-/
import Derived.Test.YtjpjodjdciamhaaBase
import Derived.Test.YtjpjodjdciamhaaMath
namespace Go.Proofs.Ytjpjodjdciamhaa
open Go.RowKit
set_option linter.unusedVariables false

theorem infoInt : (Try.prog.info? 3).map (fun i => (i.zero, i.size, i.bytes)) = some (some (.int .i64 0), 1, 8) := by kernel_rfl

/-- The slice at A owns the numbers l, in a block from 'base' on. -/
def OwnI (w : World) (base : Nat) (A : Option Addr) (c : Nat) (l : List Int) : Prop := w.ownsRow base 3 1 (.slice A l.length c) l.length (l.map (Value.int .i64))
section
variable {w w' : World} {base : Nat} {A : Option Addr} {c : Nat} {l : List Int}
theorem OwnI.nil (w : World) (base : Nat) : OwnI w base none 0 [] := World.ownsRow_nil w base 3 1
theorem OwnI.grow (h : OwnI w base A c l) (hb : Below w.heap.size w w') : OwnI w' base A c l := by
  refine ⟨h.1, ?_⟩
  rcases h.2 with h1 | ⟨g, cap, cur, h1, h2, h3, r⟩
  · exact .inl h1
  · refine .inr ⟨g, cap, cur, h1, h2, ?_, r⟩
    have hlt : g < w.heap.size := by
      rcases Nat.lt_or_ge g w.heap.size with h1 | h1
      · exact h1
      · rw [Array.getElem?_eq_none h1] at h3; cases h3
    rw [hb.block g hlt]; exact h3
theorem OwnI.at_ (h : OwnI w base A c l) {k : Nat} (hk : k < l.length) : ∃ g, A = some ⟨g, 0, none⟩ ∧ base ≤ g ∧ g < w.heap.size ∧ w.cell? ⟨g, k, none⟩ = some (.int .i64 l[k]) := by
  rcases h.2 with ⟨h1, h2⟩ | ⟨g, cap, cur, h1, h2, h3, h4, h5, h6, h7⟩
  · omega
  · simp only [Value.slice.injEq] at h1
    obtain ⟨rfl, _, rfl⟩ := h1
    have hlt : g < w.heap.size := by
      rcases Nat.lt_or_ge g w.heap.size with h1 | h1
      · exact h1
      · rw [Array.getElem?_eq_none h1] at h3; cases h3
    refine ⟨g, rfl, h2, hlt, ?_⟩
    rw [cell_of_row w g k cur 3 (0, 0) h3]
    have h8 : (cur.toList.take (l.length * 1))[k]? = (l.map (Value.int .i64))[k]? := by rw [h7]
    rw [List.getElem?_take, if_pos (by omega)] at h8
    simpa [hk] using h8
end

theorem run_appI {w : World} {base : Nat} {A : Option Addr} {c : Nat} {l : List Int} (h : OwnI w base A c l) (ad : Addr) (c2 : Nat) {x : Int} (hc : w.cell? ad = some (.int .i64 x))
    (hl : l.length ≤ 4294967296) (hbase : base ≤ w.heap.size) (ty : TypeId) :
    ∃ A' c' w', (Builtin.append_ #[39, 39] ty #[.slice A l.length c, .slice (some ad) 1 c2]).run Try.prog w = .ok (.slice A' (l ++ [x]).length c') w' ∧ OwnI w' base A' c' (l ++ [x]) ∧ Below base w w' := by
  obtain ⟨i0, hi, hz0, hz1, hz2⟩ := info_parts infoInt
  obtain ⟨v', w', hrun, hown', hg, _⟩ := run_append_own (P := Try.prog) w base 39 ty 3 i0 _ 1 8 Try.underlying39 hi hz0 hz1 hz2 rfl (by omega) _ _ _ h ad 1 c2 [.int .i64 x] rfl
    (fun j u hu => by
      match j, hu with
      | 0, hu => simp at hu; subst hu; simpa [Addr.add] using hc)
    (fun u hu => by simp at hu; subst hu; rfl) (by unfold maxLen; omega) (by omega) hbase
  have hv' : ∃ A' c', v' = .slice A' (l ++ [x]).length c' := by
    rcases hown'.2 with ⟨_, h4⟩ | ⟨g, cap, cur, h4, _⟩
    · omega
    · exact ⟨some ⟨g, 0, none⟩, cap, by rw [h4]; simp⟩
  obtain ⟨A', c', rfl⟩ := hv'
  refine ⟨A', c', w', hrun, ?_, ?_⟩
  · unfold OwnI
    simpa using hown'
  · exact (Below.refl _ _).grown hg hbase fun k hk => (World.ownsRow.lt h k hk).1

theorem wpList_appI {w : World} {ops : Array Oper} {rest : List Oper} {o : Oper} {a : Act} {Q : Exit → Act → World → Prop} (hgd : o.guard = none) (s x : Operand) (ho : o.op = .call { callee := .builtin .append, args := #[s, x], argTypes := #[39, 39] })
    {base : Nat} {A : Option Addr} {c m : Nat} {l : List Int} (hs : a.eval s = .slice A m c) (hm : l.length = m) (h : OwnI w base A c l) {ad : Addr} {c2 : Nat} (hx : a.eval x = .slice (some ad) 1 c2) {y : Int} (hc : w.cell? ad = some (.int .i64 y))
    (hl : m ≤ 4294967296) (hbase : base ≤ w.heap.size)
    (hk : ∀ A' c' w', OwnI w' base A' c' (l ++ [y]) → Below base w w' → wpList Try.prog ops Q rest (a.put o.dst (.slice A' (m + 1) c')) w') : wpList Try.prog ops Q (o :: rest) a w := by
  subst hm
  refine wpList_plain hgd fun K hK => ?_
  obtain ⟨A', c', w', hrun, h3, h4⟩ := run_appI h ad c2 hc hl hbase o.type
  unfold Oper.wp execOp
  simp only [ho, resolve, invoke, builtin, Sem.run_bind, Sem.run_pure, Result.andThen_ok, List.map_toArray, List.map_cons, List.map_nil, hs, hx, hrun]
  have := hk A' c' w' h3 h4
  rw [show l.length + 1 = (l ++ [y]).length by simp] at this
  exact hK _ _ this

end Go.Proofs.Ytjpjodjdciamhaa
