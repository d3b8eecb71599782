/-
  A footprint: nothing has turned but what it holds. Rows of one-cell values that a call itself owns: append, store. The reference's device in memory: a struct, a row of what is kept, rows of what waits.
-/
import Derived.Test.YthakdjaaknbmpaaMgKactsMain7
import Derived.Test.YthakdjaaknbmpaaMgKactsMain2
namespace Go.Proofs.Ythakdjaaknbmpaa.Cf
open Go.RowKit
set_option linter.unusedVariables false
set_option linter.unusedSimpArgs false

/-- Nothing has turned but what F holds; there may be more. -/
structure Ch (F : Nat → Prop) (w w' : World) : Prop where
  os : w'.os = w.os
  tape : w'.tape = w.tape
  output : w'.output = w.output
  size : w.heap.size ≤ w'.heap.size
  block : ∀ k, k < w.heap.size → ¬ F k → w'.heap[k]? = w.heap[k]?
section
variable {F F' : Nat → Prop} {w w' w2 : World}
theorem Ch.refl (F : Nat → Prop) (w : World) : Ch F w w := ⟨rfl, rfl, rfl, Nat.le_refl _, fun _ _ _ => rfl⟩
theorem Ch.trans (h : Ch F w w') (h2 : Ch F w' w2) : Ch F w w2 :=
  ⟨h2.os.trans h.os, h2.tape.trans h.tape, h2.output.trans h.output, Nat.le_trans h.size h2.size, fun k hk hf => (h2.block k (Nat.lt_of_lt_of_le hk h.size) hf).trans (h.block k hk hf)⟩
/-- .. the second one may also turn what is new. -/
theorem Ch.then (h : Ch F w w') (h2 : Ch F' w' w2) (hF : ∀ k, k < w.heap.size → F' k → F k) : Ch F w w2 :=
  ⟨h2.os.trans h.os, h2.tape.trans h.tape, h2.output.trans h.output, Nat.le_trans h.size h2.size, fun k hk hf => (h2.block k (Nat.lt_of_lt_of_le hk h.size) (fun hf' => hf (hF k hk hf'))).trans (h.block k hk hf)⟩
theorem Ch.grown (h : Grown w w') : Ch F w w' := ⟨h.os, h.tape, h.output, h.size, fun k hk _ => h.block k hk⟩
theorem Ch.drew (h : Ch F w w') : Ch F w w'.drew := ⟨h.os, h.tape, h.output, h.size, h.block⟩
theorem Ch.setCell (h : Ch F w w') {p : Addr} (hp : F p.block ∨ w.heap.size ≤ p.block) (u : Value) : Ch F w (w'.setCell p u) := by
  refine ⟨h.os, h.tape, h.output, by simpa using h.size, fun k hk hf => ?_⟩
  rw [heap_setCell_other w' p k u (fun e => by subst e; rcases hp with hp | hp; exact hf hp; omega)]
  exact h.block k hk hf
theorem Ch.cell (h : Ch F w w') {p : Addr} (hp : p.block < w.heap.size) (hf : ¬ F p.block) : w'.cell? p = w.cell? p := World.cell?_of_block (w := w) (h.block _ hp hf)
theorem Ch.belowB {B : Nat} (h : Ch F w w') (hF : ∀ k, F k → B ≤ k) (hB : B ≤ w.heap.size) : Below B w w' :=
  ⟨h.os, h.tape, h.output, h.size, fun k hk => h.block k (by omega) (fun hf => by have := hF k hf; omega)⟩
end
theorem own_blk {A : Option Addr} {n c k : Nat} (h : some k = (Value.slice A n c).ownBlock) : ∃ x, A = some x ∧ x.block = k := by
  cases A with
  | none => simp [Value.ownBlock] at h
  | some x => simp [Value.ownBlock] at h; exact ⟨x, rfl, h.symm⟩
/-- append of something: where the result lies. -/
theorem app_moved {P : Program} {w : World} {base : Nat} {t ty e : TypeId} {i : TypeInfo} {z : Value} {size bytes : Nat} (ht : P.underlying t = some (.slice e)) (hi : P.info? e = some i) (hz : i.zero = some z)
    (hsize : i.size = size) (hby : i.bytes = bytes) (hzs : z.cells.size = size) (hsz : 0 < size) {A : Option Addr} {n c : Nat} {xs : List Value} (hown : w.ownsRow base e size (.slice A n c) n xs)
    (ad : Addr) (m c2 : Nat) (news : List Value) (hm : 0 < m) (hl : news.length = m * size) (hnews : ∀ j u, news[j]? = some u → w.cell? (ad.add j) = some u) (h1 : ∀ u ∈ news, u.oneCell' = true) (h63 : n + m ≤ maxLen) (hbytes : (n + m) * bytes ≤ 140737488355328) (hbase : base ≤ w.heap.size) :
    ∃ A' c' w', (Builtin.append_ #[t, t] ty #[.slice A n c, .slice (some ad) m c2]).run P w = .ok (.slice A' (n + m) c') w' ∧ w'.ownsRow base e size (.slice A' (n + m) c') (n + m) (xs ++ news) ∧ w.grownBy w' (Value.slice A n c).ownBlock ∧ Moved w A A' := by
  obtain ⟨v', w', hrun, hown', hg, _⟩ := run_append_own (P := P) w base t ty e i z size bytes ht hi hz hsize hby hzs hsz _ _ _ hown ad m c2 news hl hnews h1 h63 hbytes hbase
  have hv : ∃ A' c', v' = .slice A' (n + m) c' := by
    rcases hown'.2 with ⟨_, h3⟩ | ⟨g, cap, cur, h1, _⟩
    · omega
    · exact ⟨some ⟨g, 0, none⟩, cap, h1⟩
  obtain ⟨A', c', rfl⟩ := hv
  refine ⟨A', c', w', hrun, hown', hg, ?_⟩
  rcases hown.2 with ⟨h1', h3⟩ | ⟨g, cap, cur, h1', hbg, hheap, hnc, hcm, hcs, htake⟩
  · simp only [Value.slice.injEq] at h1'
    obtain ⟨rfl, rfl, rfl⟩ := h1'
    have hx : xs = [] := List.eq_nil_of_length_eq_zero (by have := hown.1; omega)
    subst hx
    obtain ⟨v2, w2, hrun2, hown2, _, _⟩ := run_append_own (P := P) w w.heap.size t ty e i z size bytes ht hi hz hsize hby hzs hsz _ _ _ (World.ownsRow_nil w w.heap.size e size) ad m c2 news hl hnews h1 h63 hbytes (Nat.le_refl _)
    have e := hrun.symm.trans hrun2
    injection e with e _
    subst e
    rcases hown2.2 with ⟨h1, h3⟩ | ⟨g, cap, cur, h1, hb2, _⟩
    · omega
    · simp only [Value.slice.injEq] at h1
      exact .inr ⟨_, h1.1, hb2⟩
  · simp only [Value.slice.injEq] at h1'
    obtain ⟨rfl, _, rfl⟩ := h1'
    by_cases hroom : n + m ≤ c
    · have hr := run_append_room (P := P) w t ty e i ht hi g n c cur hheap ad m c2 news (by rw [hsize]; exact hl) hnews h1 hroom (by rw [hsize, hcs, hl, ← Nat.add_mul]; exact Nat.mul_le_mul_right _ hroom)
      have e := hrun.symm.trans hr
      injection e with e _
      simp only [Value.slice.injEq] at e
      exact .inl e.1
    · have holds : ∀ j u, xs[j]? = some u → w.cell? ((⟨g, 0, none⟩ : Addr).add j) = some u := hown.cells (g := g) rfl
      obtain ⟨v2, w2, hrun2, hown2, _⟩ := run_append_arg_grows (P := P) w t ty e i z size bytes ht hi hz hsize hby hzs hsz ⟨g, 0, none⟩ n c xs (by have := hown.1; omega) holds ad m c2 news hl hnews (by omega) h63 hbytes
      have e := hrun.symm.trans hrun2
      injection e with e _
      subst e
      rcases hown2.2 with ⟨h1, h3⟩ | ⟨g2, cap2, cur2, h1, hb2, _⟩
      · simp only [Value.slice.injEq] at h1
        omega
      · simp only [Value.slice.injEq] at h1
        exact .inr ⟨_, h1.1, hb2⟩

/-- A row of the values vs, one cell each, of the type e, owned. -/
def Ow (w : World) (base : Nat) (e : TypeId) (A : Option Addr) (c : Nat) (vs : List Value) : Prop := w.ownsRow base e 1 (.slice A vs.length c) vs.length vs
section
variable {w w' : World} {base : Nat} {e : TypeId} {A : Option Addr} {c : Nat} {vs : List Value}
theorem Ow.nil (w : World) (base : Nat) (e : TypeId) : Ow w base e none 0 [] := World.ownsRow_nil w base e 1
theorem Ow.form (h : Ow w base e A c vs) : (A = none ∧ vs = [] ∧ c = 0) ∨ ∃ g cur, A = some ⟨g, 0, none⟩ ∧ base ≤ g ∧ w.heap[g]? = some (.cells cur e (0, 0)) ∧ vs.length ≤ c ∧ c ≤ maxLen ∧ cur.size = c ∧ cur.toList.take vs.length = vs := by
  rcases h.2 with ⟨h1, h2⟩ | ⟨g, cap, cur, h1, h2, h3, h4, h5, h6, h7⟩
  · simp only [Value.slice.injEq] at h1
    exact .inl ⟨h1.1, List.eq_nil_of_length_eq_zero h2, h1.2.2⟩
  · simp only [Value.slice.injEq] at h1
    obtain ⟨rfl, _, rfl⟩ := h1
    rw [Nat.mul_one] at h6 h7
    exact .inr ⟨g, cur, rfl, h2, h3, h4, h5, h6, h7⟩
theorem Ow.le (h : Ow w base e A c vs) : vs.length ≤ c := by
  rcases h.form with ⟨_, rfl, _⟩ | ⟨_, _, _, _, _, h, _⟩
  · exact Nat.zero_le _
  · exact h
theorem Ow.lt (h : Ow w base e A c vs) : ∀ x, A = some x → base ≤ x.block ∧ x.block < w.heap.size := by
  rintro x rfl
  rcases h.form with ⟨e1, _⟩ | ⟨g, cur, e1, hb, hh, _⟩
  · cases e1
  · simp only [Option.some.injEq] at e1
    subst e1
    exact ⟨hb, lt_of_heap hh⟩
theorem Ow.keep (h : Ow w base e A c vs) (hk : ∀ x, A = some x → w'.heap[x.block]? = w.heap[x.block]?) : Ow w' base e A c vs := by
  refine ⟨h.1, ?_⟩
  rcases h.2 with h1 | ⟨g, cap, cur, h1, h2, h3, r⟩
  · exact .inl h1
  · refine .inr ⟨g, cap, cur, h1, h2, ?_, r⟩
    simp only [Value.slice.injEq] at h1
    exact (hk _ h1.1).trans h3
/-- Its cells. -/
theorem Ow.at_ (h : Ow w base e A c vs) (i : Nat) (hi : i < vs.length) : ∃ g, A = some ⟨g, 0, none⟩ ∧ base ≤ g ∧ g < w.heap.size ∧ w.cell? ⟨g, i, none⟩ = some vs[i] ∧ w.frozen? ⟨g, i, none⟩ = false := by
  rcases h.form with ⟨_, rfl, _⟩ | ⟨g, cur, rfl, hb, hh, hc, hm, hs, ht⟩
  · simp at hi
  · refine ⟨g, rfl, hb, lt_of_heap hh, ?_, frozen_of_row w g i _ _ hh⟩
    rw [cell_of_row w g i cur e (0, 0) hh]
    have h8 : (cur.toList.take vs.length)[i]? = vs[i]? := by rw [ht]
    rw [List.getElem?_take, if_pos hi] at h8
    simpa [hi] using h8
/-- One of its cells is written. -/
theorem Ow.set {g : Nat} (h : Ow w base e (some ⟨g, 0, none⟩) c vs) (i : Nat) (hi : i < vs.length) (u : Value) : Ow (w.setCell ⟨g, i, none⟩ u) base e (some ⟨g, 0, none⟩) c (vs.set i u) := by
  rcases h.form with ⟨e1, _⟩ | ⟨g', cur, e1, hb, hh, hc, hm, hs, ht⟩
  · cases e1
  · simp only [Option.some.injEq, Addr.mk.injEq] at e1
    obtain ⟨rfl, _⟩ := e1
    refine ⟨by simp, .inr ⟨g, c, cur.setIfInBounds i u, by simp, hb, ?_, by simpa using hc, hm, by simp [hs], ?_⟩⟩
    · rw [heap_setCell_same w g i _ _ _ hh]
    · rw [Nat.mul_one, List.length_set, Array.toList_setIfInBounds, List.take_set, ht]
end
theorem wpList_appOw {P : Program} {w : World} {base : Nat} {e t : TypeId} {i0 : TypeInfo} {z : Value} {bytes : Nat} (ht : P.underlying t = some (.slice e)) (hi : P.info? e = some i0) (hz : i0.zero = some z) (hz1 : i0.size = 1) (hz2 : i0.bytes = bytes) (hzc : z.cells.size = 1) (hb16 : bytes ≤ 64)
    {A : Option Addr} {c n c2 : Nat} {ad : Addr} {vs : List Value} {u : Value} {ops : Array Oper} {rest : List Oper} {o : Oper} {a : Act} {Q : Exit → Act → World → Prop} (hgd : o.guard = none) (s x : Operand) (ho : o.op = .call { callee := .builtin .append, args := #[s, x], argTypes := #[t, t] })
    (hn : vs.length = n) (hs : a.eval s = .slice A n c) (h : Ow w base e A c vs) (hx : a.eval x = .slice (some ad) 1 c2) (h2 : w.cell? ad = some u) (hu : u.oneCell' = true) (hl : n ≤ 100000) (hbase : base ≤ w.heap.size)
    (hk : ∀ A' c' w', Ow w' base e A' c' (vs ++ [u]) → w.grownBy w' (Value.slice A n c).ownBlock → Moved w A A' → wpList P ops Q rest (a.put o.dst (.slice A' (n + 1) c')) w') : wpList P ops Q (o :: rest) a w := by
  subst hn
  refine wpList_plain hgd fun K hK => ?_
  obtain ⟨A', c', w', hrun, hown', hg, hm⟩ := app_moved (P := P) (ty := o.type) ht hi hz hz1 hz2 hzc (by omega) h ad 1 c2 [u] (by omega) (by simp) (fun j v hv => by
    match j, hv with
    | 0, hv => simp at hv; subst hv; simpa [Addr.add] using h2) (fun v hv => by simp at hv; subst hv; exact hu) (by unfold maxLen; omega) (by
      have : (vs.length + 1) * bytes ≤ 100001 * 64 := Nat.mul_le_mul (by omega) hb16
      omega) hbase
  unfold Oper.wp execOp
  simp only [ho, resolve, invoke, builtin, Sem.run_bind, Sem.run_pure, Result.andThen_ok, List.map_toArray, List.map_cons, List.map_nil, hs, hx, hrun]
  refine hK _ _ (hk A' c' w' ?_ hg hm)
  unfold Ow
  rw [List.length_append]
  exact hown'
end Go.Proofs.Ythakdjaaknbmpaa.Cf
namespace Go.Proofs.Ythakdjaaknbmpaa.S13
open Cf
open Go.RowKit
set_option linter.unusedVariables false
set_option linter.unusedSimpArgs false

def sv (l : List UInt8) : Value := .string ⟨l.toArray⟩
def iv (n : Nat) : Value := .int .i64 (n : Int)
theorem infoS : (Try.prog.info? 9).map (fun i => (i.zero, i.size, i.bytes)) = some (some (.string ByteArray.empty), 1, 16) := by kernel_rfl
theorem infoI : (Try.prog.info? 3).map (fun i => (i.zero, i.size, i.bytes)) = some (some (.int .i64 0), 1, 8) := by kernel_rfl
/-- The struct's state: what is kept; where, what; the counter; the calls. -/
structure Rs where
  kept : List (List UInt8)
  at_ : List Nat
  what : List (List UInt8)
  count : Int
  calls : Int
def raw (st : Dv) : Rs := ⟨st.kept, st.pend.map (·.1), st.pend.map (·.2), st.count, st.calls⟩
def DzC (Ak : Option Addr) (nk ck : Nat) (Aa : Option Addr) (na ca : Nat) (Aw : Option Addr) (nw cw : Nat) (count calls : Int) : Array Value := #[.slice Ak nk ck, .slice Aa na ca, .slice Aw nw cw, .int .i64 count, .int .i64 calls]
/-- Where it lies. -/
def RV (R : Nat) (Ak Aa Aw : Option Addr) (k : Nat) : Prop := k = R ∨ (∃ x, Ak = some x ∧ x.block = k) ∨ (∃ x, Aa = some x ∧ x.block = k) ∨ ∃ x, Aw = some x ∧ x.block = k
structure Rv (w : World) (base R : Nat) (Ak Aa Aw : Option Addr) (s : Rs) : Prop where
  bR : base ≤ R
  nk : ∀ x, Ak = some x → x.block ≠ R
  na : ∀ x, Aa = some x → x.block ≠ R
  nw : ∀ x, Aw = some x → x.block ≠ R
  ka : Apart Ak Aa
  kw : Apart Ak Aw
  aw : Apart Aa Aw
  ex : ∃ ck ca cw, w.heap[R]? = some (.cells (DzC Ak s.kept.length ck Aa s.at_.length ca Aw s.what.length cw s.count s.calls) 56 (0, 0)) ∧ Ow w base 9 Ak ck (s.kept.map sv) ∧ Ow w base 3 Aa ca (s.at_.map iv) ∧ Ow w base 9 Aw cw (s.what.map sv)
section
variable {w w' : World} {base R : Nat} {Ak Aa Aw : Option Addr} {s : Rs}
theorem Rv.lt (h : Rv w base R Ak Aa Aw s) : ∀ k, RV R Ak Aa Aw k → base ≤ k ∧ k < w.heap.size := by
  obtain ⟨ck, ca, cw, hR, hk, ha, hw⟩ := h.ex
  rintro k (rfl | ⟨x, hx, rfl⟩ | ⟨x, hx, rfl⟩ | ⟨x, hx, rfl⟩)
  · exact ⟨h.bR, lt_of_heap hR⟩
  · exact hk.lt x hx
  · exact ha.lt x hx
  · exact hw.lt x hx
theorem Rv.keep (h : Rv w base R Ak Aa Aw s) (hk : ∀ k, RV R Ak Aa Aw k → w'.heap[k]? = w.heap[k]?) : Rv w' base R Ak Aa Aw s := by
  obtain ⟨ck, ca, cw, hR, h1, h2, h3⟩ := h.ex
  exact { h with ex := ⟨ck, ca, cw, (hk R (.inl rfl)).trans hR, h1.keep fun x hx => hk _ (.inr (.inl ⟨x, hx, rfl⟩)), h2.keep fun x hx => hk _ (.inr (.inr (.inl ⟨x, hx, rfl⟩))), h3.keep fun x hx => hk _ (.inr (.inr (.inr ⟨x, hx, rfl⟩)))⟩ }
theorem Rv.grow (h : Rv w base R Ak Aa Aw s) (hg : Grown w w') : Rv w' base R Ak Aa Aw s := h.keep fun k hk => hg.block k (h.lt k hk).2
/-- What a walk reads of the struct. -/
theorem Rv.cells (h : Rv w base R Ak Aa Aw s) : ∃ ck ca cw, s.kept.length ≤ ck ∧ s.at_.length ≤ ca ∧ s.what.length ≤ cw ∧ w.cell? ⟨R, 0, none⟩ = some (.slice Ak s.kept.length ck) ∧ w.cell? ⟨R, 1, none⟩ = some (.slice Aa s.at_.length ca) ∧ w.cell? ⟨R, 2, none⟩ = some (.slice Aw s.what.length cw) ∧ w.cell? ⟨R, 3, none⟩ = some (.int .i64 s.count) ∧ w.cell? ⟨R, 4, none⟩ = some (.int .i64 s.calls) := by
  obtain ⟨ck, ca, cw, hR, h1, h2, h3⟩ := h.ex
  have l1 := h1.le
  have l2 := h2.le
  have l3 := h3.le
  rw [List.length_map] at l1 l2 l3
  exact ⟨ck, ca, cw, l1, l2, l3, cell_of_row w R 0 _ _ (0, 0) hR, cell_of_row w R 1 _ _ (0, 0) hR, cell_of_row w R 2 _ _ (0, 0) hR, cell_of_row w R 3 _ _ (0, 0) hR, cell_of_row w R 4 _ _ (0, 0) hR⟩
theorem Rv.frozen (h : Rv w base R Ak Aa Aw s) (j : Nat) : w.frozen? ⟨R, j, none⟩ = false := by
  obtain ⟨ck, ca, cw, hR, _⟩ := h.ex
  exact frozen_of_row w R j _ _ hR
/-- Sector i of what is kept. -/
theorem Rv.keptAt (h : Rv w base R Ak Aa Aw s) (i : Nat) (hi : i < s.kept.length) : ∃ g, Ak = some ⟨g, 0, none⟩ ∧ base ≤ g ∧ g < w.heap.size ∧ g ≠ R ∧ w.cell? ⟨g, i, none⟩ = some (sv s.kept[i]) ∧ w.frozen? ⟨g, i, none⟩ = false := by
  obtain ⟨ck, ca, cw, hR, h1, h2, h3⟩ := h.ex
  obtain ⟨g, e, hb, hl, hc, hf⟩ := h1.at_ i (by rw [List.length_map]; exact hi)
  exact ⟨g, e, hb, hl, h.nk _ e, by rw [hc]; simp, hf⟩
theorem Rv.atAt (h : Rv w base R Ak Aa Aw s) (i : Nat) (hi : i < s.at_.length) : ∃ g, Aa = some ⟨g, 0, none⟩ ∧ g < w.heap.size ∧ w.cell? ⟨g, i, none⟩ = some (iv s.at_[i]) := by
  obtain ⟨ck, ca, cw, hR, h1, h2, h3⟩ := h.ex
  obtain ⟨g, e, hb, hl, hc, hf⟩ := h2.at_ i (by rw [List.length_map]; exact hi)
  exact ⟨g, e, hl, by rw [hc]; simp⟩
theorem Rv.whatAt (h : Rv w base R Ak Aa Aw s) (i : Nat) (hi : i < s.what.length) : ∃ g, Aw = some ⟨g, 0, none⟩ ∧ g < w.heap.size ∧ w.cell? ⟨g, i, none⟩ = some (sv s.what[i]) := by
  obtain ⟨ck, ca, cw, hR, h1, h2, h3⟩ := h.ex
  obtain ⟨g, e, hb, hl, hc, hf⟩ := h3.at_ i (by rw [List.length_map]; exact hi)
  exact ⟨g, e, hl, by rw [hc]; simp⟩
/-- The struct's own cells do not touch the rows. -/
theorem Rv.offR {A : Option Addr} {e : TypeId} {c : Nat} {vs : List Value} (hn : ∀ x, A = some x → x.block ≠ R) (h : Ow w base e A c vs) (j : Nat) (u : Value) : Ow (w.setCell ⟨R, j, none⟩ u) base e A c vs :=
  h.keep fun x hx => heap_setCell_other w _ _ _ (hn x hx)
theorem Rv.setCount (h : Rv w base R Ak Aa Aw s) (n : Int) : Rv (w.setCell ⟨R, 3, none⟩ (.int .i64 n)) base R Ak Aa Aw { s with count := n } := by
  obtain ⟨ck, ca, cw, hR, h1, h2, h3⟩ := h.ex
  exact { h with ex := ⟨ck, ca, cw, by rw [heap_setCell_same w R 3 _ _ _ hR]; rfl, Rv.offR h.nk h1 3 _, Rv.offR h.na h2 3 _, Rv.offR h.nw h3 3 _⟩ }
theorem Rv.setCalls (h : Rv w base R Ak Aa Aw s) (n : Int) : Rv (w.setCell ⟨R, 4, none⟩ (.int .i64 n)) base R Ak Aa Aw { s with calls := n } := by
  obtain ⟨ck, ca, cw, hR, h1, h2, h3⟩ := h.ex
  exact { h with ex := ⟨ck, ca, cw, by rw [heap_setCell_same w R 4 _ _ _ hR]; rfl, Rv.offR h.nk h1 4 _, Rv.offR h.na h2 4 _, Rv.offR h.nw h3 4 _⟩ }
theorem Rv.setKept {g : Nat} (h : Rv w base R (some ⟨g, 0, none⟩) Aa Aw s) (i : Nat) (hi : i < s.kept.length) (l : List UInt8) : Rv (w.setCell ⟨g, i, none⟩ (sv l)) base R (some ⟨g, 0, none⟩) Aa Aw { s with kept := s.kept.set i l } := by
  obtain ⟨ck, ca, cw, hR, h1, h2, h3⟩ := h.ex
  have hgR : g ≠ R := h.nk _ rfl
  refine { h with ex := ⟨ck, ca, cw, ?_, ?_, h2.keep fun x hx => heap_setCell_other w _ _ _ (fun e => h.ka _ x rfl hx e.symm), h3.keep fun x hx => heap_setCell_other w _ _ _ (fun e => h.kw _ x rfl hx e.symm)⟩ }
  · rw [heap_setCell_other w _ R _ (Ne.symm hgR), hR]
    simp
  · have := h1.set i (by rw [List.length_map]; exact hi) (sv l)
    rw [← List.map_set] at this
    exact this
/-- The row of places has been put in the struct: it is new, or was there. -/
theorem Rv.putA {Aa' : Option Addr} {ca' na : Nat} {as' : List Nat} (h : Rv w base R Ak Aa Aw s) (hna : as'.length = na) (hA : ∀ k, RV R Ak Aa Aw k → (∀ x, Aa = some x → x.block ≠ k) → w'.heap[k]? = w.heap[k]?) (ho : Ow w' base 3 Aa' ca' (as'.map iv)) (hm : ∀ x, Aa' = some x → Aa = some x ∨ w.heap.size ≤ x.block) :
    Rv (w'.setCell ⟨R, 1, none⟩ (.slice Aa' na ca')) base R Ak Aa' Aw { s with at_ := as' } := by
  subst hna
  obtain ⟨ck, ca, cw, hR, h1, h2, h3⟩ := h.ex
  have hlt := h.lt
  have hR' : w'.heap[R]? = _ := (hA R (.inl rfl) (fun x hx => h.na x hx)).trans hR
  have n1 : ∀ x, Aa' = some x → x.block ≠ R := fun x hx => by
    rcases hm x hx with hy | hy
    · exact h.na x hy
    · have := (hlt R (.inl rfl)).2; omega
  have a1 : Apart Ak Aa' := fun x y hx hy => by
    rcases hm y hy with hz | hz
    · exact h.ka x y hx hz
    · have := (h1.lt x hx).2; omega
  have a2 : Apart Aa' Aw := fun x y hx hy => by
    rcases hm x hx with hz | hz
    · exact h.aw x y hz hy
    · have := (h3.lt y hy).2; omega
  refine { h with na := n1, ka := a1, aw := a2, ex := ⟨ck, ca', cw, ?_, ?_, Rv.offR n1 ho 1 _, ?_⟩ }
  · rw [heap_setCell_same w' R 1 _ _ _ hR']; rfl
  · exact Rv.offR h.nk (h1.keep fun x hx => hA _ (.inr (.inl ⟨x, hx, rfl⟩)) (fun y hy e => h.ka x y hx hy e.symm)) 1 _
  · exact Rv.offR h.nw (h3.keep fun x hx => hA _ (.inr (.inr (.inr ⟨x, hx, rfl⟩))) (fun y hy e => h.aw y x hy hx e)) 1 _
/-- .. the row of texts. -/
theorem Rv.putW {Aw' : Option Addr} {cw' nw : Nat} {ws' : List (List UInt8)} (h : Rv w base R Ak Aa Aw s) (hnw : ws'.length = nw) (hA : ∀ k, RV R Ak Aa Aw k → (∀ x, Aw = some x → x.block ≠ k) → w'.heap[k]? = w.heap[k]?) (ho : Ow w' base 9 Aw' cw' (ws'.map sv)) (hm : ∀ x, Aw' = some x → Aw = some x ∨ w.heap.size ≤ x.block) :
    Rv (w'.setCell ⟨R, 2, none⟩ (.slice Aw' nw cw')) base R Ak Aa Aw' { s with what := ws' } := by
  subst hnw
  obtain ⟨ck, ca, cw, hR, h1, h2, h3⟩ := h.ex
  have hlt := h.lt
  have hR' : w'.heap[R]? = _ := (hA R (.inl rfl) (fun x hx => h.nw x hx)).trans hR
  have n1 : ∀ x, Aw' = some x → x.block ≠ R := fun x hx => by
    rcases hm x hx with hy | hy
    · exact h.nw x hy
    · have := (hlt R (.inl rfl)).2; omega
  have a1 : Apart Ak Aw' := fun x y hx hy => by
    rcases hm y hy with hz | hz
    · exact h.kw x y hx hz
    · have := (h1.lt x hx).2; omega
  have a2 : Apart Aa Aw' := fun x y hx hy => by
    rcases hm y hy with hz | hz
    · exact h.aw x y hx hz
    · have := (h2.lt x hx).2; omega
  refine { h with nw := n1, kw := a1, aw := a2, ex := ⟨ck, ca, cw', ?_, ?_, ?_, Rv.offR n1 ho 2 _⟩ }
  · rw [heap_setCell_same w' R 2 _ _ _ hR']; rfl
  · exact Rv.offR h.nk (h1.keep fun x hx => hA _ (.inr (.inl ⟨x, hx, rfl⟩)) (fun y hy e => h.kw x y hx hy e.symm)) 2 _
  · exact Rv.offR h.na (h2.keep fun x hx => hA _ (.inr (.inr (.inl ⟨x, hx, rfl⟩))) (fun y hy e => h.aw x y hx hy e.symm)) 2 _
theorem moved_or {w : World} {A A' : Option Addr} (h : Moved w A A') : ∀ x, A' = some x → A = some x ∨ w.heap.size ≤ x.block := by
  intro x hx
  rcases h with rfl | ⟨y, hy, hy2⟩
  · exact .inl hx
  · rw [hx] at hy; simp only [Option.some.injEq] at hy; subst hy; exact .inr hy2
end
end Go.Proofs.Ythakdjaaknbmpaa.S13
