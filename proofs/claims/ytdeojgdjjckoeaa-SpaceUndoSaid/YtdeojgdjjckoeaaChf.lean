/-
  A footprint: nothing has turned but what it holds. Rows of one-cell values that a call itself owns: append, store.
-/
import Derived.Test.YtdeojgdjjckoeaaAps
namespace Go.Proofs.Ytdeojgdjjckoeaa.Cf
open Go.RowKit
set_option linter.unusedVariables false
set_option linter.unusedSimpArgs false

/-- Nothing has turned but what F holds; there may be more. -/
structure Ch (F : Nat → Prop) (w w' : World) : Prop where
  os : w'.os = w.os
  tape : w'.tape = w.tape
  output : w'.output = w.output
  size : w.heap.size ≤ w'.heap.size
  block : ∀ k, k < w.heap.size → ¬ F k → w'.heap[k]? = w.heap[k]?
section
variable {F F' : Nat → Prop} {w w' w2 : World}
theorem Ch.refl (F : Nat → Prop) (w : World) : Ch F w w := ⟨rfl, rfl, rfl, Nat.le_refl _, fun _ _ _ => rfl⟩
theorem Ch.trans (h : Ch F w w') (h2 : Ch F w' w2) : Ch F w w2 :=
  ⟨h2.os.trans h.os, h2.tape.trans h.tape, h2.output.trans h.output, Nat.le_trans h.size h2.size, fun k hk hf => (h2.block k (Nat.lt_of_lt_of_le hk h.size) hf).trans (h.block k hk hf)⟩
/-- .. the second one may also turn what is new. -/
theorem Ch.then (h : Ch F w w') (h2 : Ch F' w' w2) (hF : ∀ k, k < w.heap.size → F' k → F k) : Ch F w w2 :=
  ⟨h2.os.trans h.os, h2.tape.trans h.tape, h2.output.trans h.output, Nat.le_trans h.size h2.size, fun k hk hf => (h2.block k (Nat.lt_of_lt_of_le hk h.size) (fun hf' => hf (hF k hk hf'))).trans (h.block k hk hf)⟩
theorem Ch.grown (h : Grown w w') : Ch F w w' := ⟨h.os, h.tape, h.output, h.size, fun k hk _ => h.block k hk⟩
theorem Ch.drew (h : Ch F w w') : Ch F w w'.drew := ⟨h.os, h.tape, h.output, h.size, h.block⟩
theorem Ch.setCell (h : Ch F w w') {p : Addr} (hp : F p.block ∨ w.heap.size ≤ p.block) (u : Value) : Ch F w (w'.setCell p u) := by
  refine ⟨h.os, h.tape, h.output, by simpa using h.size, fun k hk hf => ?_⟩
  rw [heap_setCell_other w' p k u (fun e => by subst e; rcases hp with hp | hp; exact hf hp; omega)]
  exact h.block k hk hf
theorem Ch.cell (h : Ch F w w') {p : Addr} (hp : p.block < w.heap.size) (hf : ¬ F p.block) : w'.cell? p = w.cell? p := World.cell?_of_block (w := w) (h.block _ hp hf)
theorem Ch.belowB {B : Nat} (h : Ch F w w') (hF : ∀ k, F k → B ≤ k) (hB : B ≤ w.heap.size) : Below B w w' :=
  ⟨h.os, h.tape, h.output, h.size, fun k hk => h.block k (by omega) (fun hf => by have := hF k hf; omega)⟩
end
theorem own_blk {A : Option Addr} {n c k : Nat} (h : some k = (Value.slice A n c).ownBlock) : ∃ x, A = some x ∧ x.block = k := by
  cases A with
  | none => simp [Value.ownBlock] at h
  | some x => simp [Value.ownBlock] at h; exact ⟨x, rfl, h.symm⟩
/-- append of something: where the result lies. -/
theorem app_moved {P : Program} {w : World} {base : Nat} {t ty e : TypeId} {i : TypeInfo} {z : Value} {size bytes : Nat} (ht : P.underlying t = some (.slice e)) (hi : P.info? e = some i) (hz : i.zero = some z)
    (hsize : i.size = size) (hby : i.bytes = bytes) (hzs : z.cells.size = size) (hsz : 0 < size) {A : Option Addr} {n c : Nat} {xs : List Value} (hown : w.ownsRow base e size (.slice A n c) n xs)
    (ad : Addr) (m c2 : Nat) (news : List Value) (hm : 0 < m) (hl : news.length = m * size) (hnews : ∀ j u, news[j]? = some u → w.cell? (ad.add j) = some u) (h1 : ∀ u ∈ news, u.oneCell' = true) (h63 : n + m ≤ maxLen) (hbytes : (n + m) * bytes ≤ 140737488355328) (hbase : base ≤ w.heap.size) :
    ∃ A' c' w', (Builtin.append_ #[t, t] ty #[.slice A n c, .slice (some ad) m c2]).run P w = .ok (.slice A' (n + m) c') w' ∧ w'.ownsRow base e size (.slice A' (n + m) c') (n + m) (xs ++ news) ∧ w.grownBy w' (Value.slice A n c).ownBlock ∧ Moved w A A' := by
  obtain ⟨v', w', hrun, hown', hg, _⟩ := run_append_own (P := P) w base t ty e i z size bytes ht hi hz hsize hby hzs hsz _ _ _ hown ad m c2 news hl hnews h1 h63 hbytes hbase
  have hv : ∃ A' c', v' = .slice A' (n + m) c' := by
    rcases hown'.2 with ⟨_, h3⟩ | ⟨g, cap, cur, h1, _⟩
    · omega
    · exact ⟨some ⟨g, 0, none⟩, cap, h1⟩
  obtain ⟨A', c', rfl⟩ := hv
  refine ⟨A', c', w', hrun, hown', hg, ?_⟩
  rcases hown.2 with ⟨h1', h3⟩ | ⟨g, cap, cur, h1', hbg, hheap, hnc, hcm, hcs, htake⟩
  · simp only [Value.slice.injEq] at h1'
    obtain ⟨rfl, rfl, rfl⟩ := h1'
    have hx : xs = [] := List.eq_nil_of_length_eq_zero (by have := hown.1; omega)
    subst hx
    obtain ⟨v2, w2, hrun2, hown2, _, _⟩ := run_append_own (P := P) w w.heap.size t ty e i z size bytes ht hi hz hsize hby hzs hsz _ _ _ (World.ownsRow_nil w w.heap.size e size) ad m c2 news hl hnews h1 h63 hbytes (Nat.le_refl _)
    have e := hrun.symm.trans hrun2
    injection e with e _
    subst e
    rcases hown2.2 with ⟨h1, h3⟩ | ⟨g, cap, cur, h1, hb2, _⟩
    · omega
    · simp only [Value.slice.injEq] at h1
      exact .inr ⟨_, h1.1, hb2⟩
  · simp only [Value.slice.injEq] at h1'
    obtain ⟨rfl, _, rfl⟩ := h1'
    by_cases hroom : n + m ≤ c
    · have hr := run_append_room (P := P) w t ty e i ht hi g n c cur hheap ad m c2 news (by rw [hsize]; exact hl) hnews h1 hroom (by rw [hsize, hcs, hl, ← Nat.add_mul]; exact Nat.mul_le_mul_right _ hroom)
      have e := hrun.symm.trans hr
      injection e with e _
      simp only [Value.slice.injEq] at e
      exact .inl e.1
    · have holds : ∀ j u, xs[j]? = some u → w.cell? ((⟨g, 0, none⟩ : Addr).add j) = some u := hown.cells (g := g) rfl
      obtain ⟨v2, w2, hrun2, hown2, _⟩ := run_append_arg_grows (P := P) w t ty e i z size bytes ht hi hz hsize hby hzs hsz ⟨g, 0, none⟩ n c xs (by have := hown.1; omega) holds ad m c2 news hl hnews (by omega) h63 hbytes
      have e := hrun.symm.trans hrun2
      injection e with e _
      subst e
      rcases hown2.2 with ⟨h1, h3⟩ | ⟨g2, cap2, cur2, h1, hb2, _⟩
      · simp only [Value.slice.injEq] at h1
        omega
      · simp only [Value.slice.injEq] at h1
        exact .inr ⟨_, h1.1, hb2⟩

/-- A row of the values vs, one cell each, of the type e, owned. -/
def Ow (w : World) (base : Nat) (e : TypeId) (A : Option Addr) (c : Nat) (vs : List Value) : Prop := w.ownsRow base e 1 (.slice A vs.length c) vs.length vs
section
variable {w w' : World} {base : Nat} {e : TypeId} {A : Option Addr} {c : Nat} {vs : List Value}
theorem Ow.nil (w : World) (base : Nat) (e : TypeId) : Ow w base e none 0 [] := World.ownsRow_nil w base e 1
theorem Ow.form (h : Ow w base e A c vs) : (A = none ∧ vs = [] ∧ c = 0) ∨ ∃ g cur, A = some ⟨g, 0, none⟩ ∧ base ≤ g ∧ w.heap[g]? = some (.cells cur e (0, 0)) ∧ vs.length ≤ c ∧ c ≤ maxLen ∧ cur.size = c ∧ cur.toList.take vs.length = vs := by
  rcases h.2 with ⟨h1, h2⟩ | ⟨g, cap, cur, h1, h2, h3, h4, h5, h6, h7⟩
  · simp only [Value.slice.injEq] at h1
    exact .inl ⟨h1.1, List.eq_nil_of_length_eq_zero h2, h1.2.2⟩
  · simp only [Value.slice.injEq] at h1
    obtain ⟨rfl, _, rfl⟩ := h1
    rw [Nat.mul_one] at h6 h7
    exact .inr ⟨g, cur, rfl, h2, h3, h4, h5, h6, h7⟩
theorem Ow.le (h : Ow w base e A c vs) : vs.length ≤ c := by
  rcases h.form with ⟨_, rfl, _⟩ | ⟨_, _, _, _, _, h, _⟩
  · exact Nat.zero_le _
  · exact h
theorem Ow.lt (h : Ow w base e A c vs) : ∀ x, A = some x → base ≤ x.block ∧ x.block < w.heap.size := by
  rintro x rfl
  rcases h.form with ⟨e1, _⟩ | ⟨g, cur, e1, hb, hh, _⟩
  · cases e1
  · simp only [Option.some.injEq] at e1
    subst e1
    exact ⟨hb, lt_of_heap hh⟩
theorem Ow.keep (h : Ow w base e A c vs) (hk : ∀ x, A = some x → w'.heap[x.block]? = w.heap[x.block]?) : Ow w' base e A c vs := by
  refine ⟨h.1, ?_⟩
  rcases h.2 with h1 | ⟨g, cap, cur, h1, h2, h3, r⟩
  · exact .inl h1
  · refine .inr ⟨g, cap, cur, h1, h2, ?_, r⟩
    simp only [Value.slice.injEq] at h1
    exact (hk _ h1.1).trans h3
/-- Its cells. -/
theorem Ow.at_ (h : Ow w base e A c vs) (i : Nat) (hi : i < vs.length) : ∃ g, A = some ⟨g, 0, none⟩ ∧ base ≤ g ∧ g < w.heap.size ∧ w.cell? ⟨g, i, none⟩ = some vs[i] ∧ w.frozen? ⟨g, i, none⟩ = false := by
  rcases h.form with ⟨_, rfl, _⟩ | ⟨g, cur, rfl, hb, hh, hc, hm, hs, ht⟩
  · simp at hi
  · refine ⟨g, rfl, hb, lt_of_heap hh, ?_, frozen_of_row w g i _ _ hh⟩
    rw [cell_of_row w g i cur e (0, 0) hh]
    have h8 : (cur.toList.take vs.length)[i]? = vs[i]? := by rw [ht]
    rw [List.getElem?_take, if_pos hi] at h8
    simpa [hi] using h8
/-- One of its cells is written. -/
theorem Ow.set {g : Nat} (h : Ow w base e (some ⟨g, 0, none⟩) c vs) (i : Nat) (hi : i < vs.length) (u : Value) : Ow (w.setCell ⟨g, i, none⟩ u) base e (some ⟨g, 0, none⟩) c (vs.set i u) := by
  rcases h.form with ⟨e1, _⟩ | ⟨g', cur, e1, hb, hh, hc, hm, hs, ht⟩
  · cases e1
  · simp only [Option.some.injEq, Addr.mk.injEq] at e1
    obtain ⟨rfl, _⟩ := e1
    refine ⟨by simp, .inr ⟨g, c, cur.setIfInBounds i u, by simp, hb, ?_, by simpa using hc, hm, by simp [hs], ?_⟩⟩
    · rw [heap_setCell_same w g i _ _ _ hh]
    · rw [Nat.mul_one, List.length_set, Array.toList_setIfInBounds, List.take_set, ht]
end
theorem wpList_appOw {P : Program} {w : World} {base : Nat} {e t : TypeId} {i0 : TypeInfo} {z : Value} {bytes : Nat} (ht : P.underlying t = some (.slice e)) (hi : P.info? e = some i0) (hz : i0.zero = some z) (hz1 : i0.size = 1) (hz2 : i0.bytes = bytes) (hzc : z.cells.size = 1) (hb16 : bytes ≤ 64)
    {A : Option Addr} {c n c2 : Nat} {ad : Addr} {vs : List Value} {u : Value} {ops : Array Oper} {rest : List Oper} {o : Oper} {a : Act} {Q : Exit → Act → World → Prop} (hgd : o.guard = none) (s x : Operand) (ho : o.op = .call { callee := .builtin .append, args := #[s, x], argTypes := #[t, t] })
    (hn : vs.length = n) (hs : a.eval s = .slice A n c) (h : Ow w base e A c vs) (hx : a.eval x = .slice (some ad) 1 c2) (h2 : w.cell? ad = some u) (hu : u.oneCell' = true) (hl : n ≤ 100000) (hbase : base ≤ w.heap.size)
    (hk : ∀ A' c' w', Ow w' base e A' c' (vs ++ [u]) → w.grownBy w' (Value.slice A n c).ownBlock → Moved w A A' → wpList P ops Q rest (a.put o.dst (.slice A' (n + 1) c')) w') : wpList P ops Q (o :: rest) a w := by
  subst hn
  refine wpList_plain hgd fun K hK => ?_
  obtain ⟨A', c', w', hrun, hown', hg, hm⟩ := app_moved (P := P) (ty := o.type) ht hi hz hz1 hz2 hzc (by omega) h ad 1 c2 [u] (by omega) (by simp) (fun j v hv => by
    match j, hv with
    | 0, hv => simp at hv; subst hv; simpa [Addr.add] using h2) (fun v hv => by simp at hv; subst hv; exact hu) (by unfold maxLen; omega) (by
      have : (vs.length + 1) * bytes ≤ 100001 * 64 := Nat.mul_le_mul (by omega) hb16
      omega) hbase
  unfold Oper.wp execOp
  simp only [ho, resolve, invoke, builtin, Sem.run_bind, Sem.run_pure, Result.andThen_ok, List.map_toArray, List.map_cons, List.map_nil, hs, hx, hrun]
  refine hK _ _ (hk A' c' w' ?_ hg hm)
  unfold Ow
  rw [List.length_append]
  exact hown'
end Go.Proofs.Ytdeojgdjjckoeaa.Cf
