/-
  A row of entries that a call owns; what free needs besides.
-/
import Derived.Test.YtanalbdbkfmifaaTqN
namespace Go.Proofs.Ytanalbdbkfmifaa.S11
open Go.RowKit
set_option linter.unusedVariables false
set_option linter.unusedSimpArgs false

def ev (n u : List UInt8) : List Value := [sv n, sv u]
def evs (n : List UInt8) (us : List (List UInt8)) : List Value := us.flatMap (ev n)
theorem evs_len (n : List UInt8) (us : List (List UInt8)) : (evs n us).length = us.length * 2 := by
  induction us with
  | nil => rfl
  | cons t us ih => simp only [evs, List.flatMap_cons, List.length_append, List.length_cons] at *; rw [ih]; simp [ev]; omega
theorem evs_app (n : List UInt8) (a b : List (List UInt8)) : evs n (a ++ b) = evs n a ++ evs n b := by simp [evs]
theorem evs_one (n : List UInt8) (us : List (List UInt8)) : ∀ u ∈ evs n us, u.oneCell' = true := by
  intro u hu
  simp only [evs, List.mem_flatMap] at hu
  obtain ⟨t, _, ht⟩ := hu
  simp only [ev, List.mem_cons, List.not_mem_nil, or_false] at ht
  rcases ht with rfl | rfl <;> rfl
theorem evs_get (n : List UInt8) (us : List (List UInt8)) (i : Nat) (h : i < us.length) (j : Nat) (hj : j < 2) : (evs n us)[2 * i + j]? = (ev n us[i])[j]? := by
  induction us generalizing i with
  | nil => simp at h
  | cons t us ih =>
    cases i with
    | zero =>
      simp only [evs, List.flatMap_cons, Nat.mul_zero, Nat.zero_add, List.getElem_cons_zero]
      rw [List.getElem?_append_left (by simp [ev]; omega)]
    | succ i =>
      have := ih i (by simpa using h)
      simp only [evs, List.flatMap_cons, List.getElem_cons_succ] at this ⊢
      rw [List.getElem?_append_right (by simp [ev]; omega), show 2 * (i + 1) + j - (ev n t).length = 2 * i + j by simp [ev]; omega]
      exact this
theorem infoE : (Try.prog.info? 58).map (fun i => (i.zero, i.size, i.bytes)) = some (some (.agg #[.string ByteArray.empty, .string ByteArray.empty]), 2, 32) := by kernel_rfl
def OwnE (w : World) (base : Nat) (A : Option Addr) (c : Nat) (n : List UInt8) (us : List (List UInt8)) : Prop := w.ownsRow base 58 2 (.slice A us.length c) us.length (evs n us)
section
variable {w w' : World} {base : Nat} {A : Option Addr} {c : Nat} {n : List UInt8} {us : List (List UInt8)}
theorem OwnE.nil (w : World) (base : Nat) (n : List UInt8) : OwnE w base none 0 n [] := World.ownsRow_nil w base 58 2
theorem OwnE.form (h : OwnE w base A c n us) : (A = none ∧ us = [] ∧ c = 0) ∨ ∃ g cur, A = some ⟨g, 0, none⟩ ∧ base ≤ g ∧ w.heap[g]? = some (.cells cur 58 (0, 0)) ∧ us.length ≤ c ∧ cur.toList.take (us.length * 2) = evs n us := by
  rcases h.2 with ⟨h1, h2⟩ | ⟨g, cap, cur, h1, h2, h3, h4, h5, h6, h7⟩
  · simp only [Value.slice.injEq] at h1
    exact .inl ⟨h1.1, List.eq_nil_of_length_eq_zero h2, h1.2.2⟩
  · simp only [Value.slice.injEq] at h1
    obtain ⟨rfl, _, rfl⟩ := h1
    exact .inr ⟨g, cur, rfl, h2, h3, h4, h7⟩
theorem OwnE.lt (h : OwnE w base A c n us) : ∀ x, A = some x → base ≤ x.block ∧ x.block < w.heap.size := by
  rintro x rfl
  rcases h.form with ⟨e, _⟩ | ⟨g, cur, e, hb, hh, _⟩
  · cases e
  · simp only [Option.some.injEq] at e
    subst e
    exact ⟨hb, lt_of_heap hh⟩
theorem OwnE.keep (h : OwnE w base A c n us) (hk : ∀ x, A = some x → w'.heap[x.block]? = w.heap[x.block]?) : OwnE w' base A c n us := by
  refine ⟨h.1, ?_⟩
  rcases h.2 with h1 | ⟨g, cap, cur, h1, h2, h3, r⟩
  · exact .inl h1
  · refine .inr ⟨g, cap, cur, h1, h2, ?_, r⟩
    simp only [Value.slice.injEq] at h1
    exact (hk _ h1.1).trans h3
theorem OwnE.grow (h : OwnE w base A c n us) (hg : Grown w w') : OwnE w' base A c n us := h.keep fun x hx => hg.block x.block (h.lt x hx).2
theorem OwnE.off (h : OwnE w base A c n us) {g : Nat} {cs : Array Value} {t : TypeId} (hg : w.heap[g]? = some (.cells cs t (0, 0))) (ht : t ≠ 58) : ∀ x, A = some x → x.block ≠ g := by
  rintro x hx rfl
  rcases h.form with ⟨e, _⟩ | ⟨g, cur, e, hb, hh, _⟩
  · rw [e] at hx; cases hx
  · rw [e] at hx
    simp only [Option.some.injEq] at hx
    subst hx
    rw [hh] at hg
    injection hg with hg
    injection hg with _ h2
    exact ht h2.symm
theorem OwnE.at_ (h : OwnE w base A c n us) (i : Nat) (hi : i < us.length) : ∃ g, A = some ⟨g, 0, none⟩ ∧ g < w.heap.size ∧ w.cell? ⟨g, i * 2, none⟩ = some (.string ⟨n.toArray⟩) ∧ w.cell? ⟨g, i * 2 + 1, none⟩ = some (.string ⟨us[i].toArray⟩) := by
  rcases h.form with ⟨_, rfl, _⟩ | ⟨g, cur, rfl, hb, hh, hc, ht⟩
  · simp at hi
  · have hg : ∀ j, j < 2 → w.cell? ⟨g, i * 2 + j, none⟩ = (ev n us[i])[j]? := fun j hj => by
      rw [Nat.mul_comm i 2, cell_of_row w g (2 * i + j) cur _ (0, 0) hh, ← evs_get n us i hi j hj, ← ht, List.getElem?_take, if_pos (by omega)]
      simp
    exact ⟨g, rfl, lt_of_heap hh, hg 0 (by omega), hg 1 (by omega)⟩
end
theorem wpList_appE {w : World} {base : Nat} {A : Option Addr} {c m c2 g2 : Nat} {n : List UInt8} {us : List (List UInt8)} {u : List UInt8} {ops : Array Oper} {rest : List Oper} {o : Oper} {a : Act} {Q : Exit → Act → World → Prop} (hgd : o.guard = none) (s x : Operand) (ho : o.op = .call { callee := .builtin .append, args := #[s, x], argTypes := #[71, 71] })
    (hn : us.length = m) (hs : a.eval s = .slice A m c) (h : OwnE w base A c n us) (hx : a.eval x = .slice (some ⟨g2, 0, none⟩) 1 c2) (h2 : w.heap[g2]? = some (.cells #[.string ⟨n.toArray⟩, .string ⟨u.toArray⟩] 58 (0, 0))) (hl : m ≤ 100000) (hbase : base ≤ w.heap.size)
    (hk : ∀ A' c' w', OwnE w' base A' c' n (us ++ [u]) → w.grownBy w' (Value.slice A m c).ownBlock → wpList Try.prog ops Q rest (a.put o.dst (.slice A' (m + 1) c')) w') : wpList Try.prog ops Q (o :: rest) a w := by
  subst hn
  refine wpList_plain hgd fun K hK => ?_
  obtain ⟨i0, hi, hz0, hz1, hz2⟩ := info_parts infoE
  have hcells : ∀ j v, (ev n u)[j]? = some v → w.cell? ((⟨g2, 0, none⟩ : Addr).add j) = some v := by
    intro j v hu
    have hj : j < 2 := by have := (List.getElem?_eq_some_iff.1 hu).1; simpa [ev] using this
    have e : (⟨g2, 0, none⟩ : Addr).add j = ⟨g2, j, none⟩ := by by_cases h0 : j = 0 <;> simp [Addr.add, h0]
    rw [e, cell_of_row w g2 j _ _ (0, 0) h2, ← hu]
    match j, hj with
    | 0, _ => rfl
    | 1, _ => rfl
  obtain ⟨A', c', w', hrun, hown', hg, hm⟩ := app_moved (P := Try.prog) (ty := o.type) Try.underlying71 hi hz0 hz1 hz2 rfl (by omega) h ⟨g2, 0, none⟩ 1 c2 (ev n u) (by omega) (by simp [ev]) hcells (fun v hv => evs_one n [u] v (by simpa [evs] using hv)) (by unfold maxLen; omega) (by omega) hbase
  unfold Oper.wp execOp
  simp only [ho, resolve, invoke, builtin, Sem.run_bind, Sem.run_pure, Result.andThen_ok, List.map_toArray, List.map_cons, List.map_nil, hs, hx, hrun]
  refine hK _ _ (hk A' c' w' ?_ hg)
  unfold OwnE
  rw [evs_app, List.length_append]
  have e : evs n [u] = ev n u := by simp [evs]
  rw [e]
  exact hown'
theorem zvP (W : World) : (zeroValue 67).run Try.prog W = .ok (kv ([], [])) W := by kernel_rfl
theorem zvA (W : World) : (zeroValue 55).run Try.prog W = .ok (av []) W := by kernel_rfl
theorem zvU (W : World) : (zeroValue 60).run Try.prog W = .ok (gv ()) W := by kernel_rfl
section
variable {w : World} {b : Nat} {f : MS} {fa : MA} {fg : MG}
/-- 'p, ok := s[e]'. -/
theorem lookP (h : Mp.Mp kv kv w b f) (n u : List UInt8) {p k : List UInt8} (hp : (f (n, u)).getD ([], []) = (p, k)) {ok : Bool} (ho : (f (n, u)).isSome = ok) :
    (Instr.lookup 51 (.map (some b)) (.agg #[.string ⟨n.toArray⟩, .string ⟨u.toArray⟩]) true).run Try.prog w = .ok (.tuple #[.agg #[.string ⟨p.toArray⟩, .string ⟨k.toArray⟩], .bool ok]) w := by
  have := Mp.run_look (e := 67) h keys_entry Try.underlying51 (zvP w) true (n, u)
  rw [ho] at this
  have e : ((f (n, u)).map kv).getD (kv ([], [])) = kv ((f (n, u)).getD ([], [])) := by cases f (n, u) <;> rfl
  rw [e, hp] at this
  exact this
theorem lookP1 (h : Mp.Mp kv kv w b f) (n u : List UInt8) {p k : List UInt8} (hp : f (n, u) = some (p, k)) :
    (Instr.lookup 51 (.map (some b)) (.agg #[.string ⟨n.toArray⟩, .string ⟨u.toArray⟩]) false).run Try.prog w = .ok (.agg #[.string ⟨p.toArray⟩, .string ⟨k.toArray⟩]) w := by
  have := Mp.run_look (e := 67) h keys_entry Try.underlying51 (zvP w) false (n, u)
  rw [hp] at this
  exact this
theorem lookA (h : Mp.Mp kv av w b fa) (n q : List UInt8) {y : List UInt8} (hp : (fa (n, q)).getD [] = y) {ok : Bool} (ho : (fa (n, q)).isSome = ok) :
    (Instr.lookup 48 (.map (some b)) (.agg #[.string ⟨n.toArray⟩, .string ⟨q.toArray⟩]) true).run Try.prog w = .ok (.tuple #[.agg #[.string ⟨y.toArray⟩], .bool ok]) w := by
  have := Mp.run_look (e := 55) h keys_entry Try.underlying48 (zvA w) true (n, q)
  rw [ho] at this
  have e : ((fa (n, q)).map av).getD (av []) = av ((fa (n, q)).getD []) := by cases fa (n, q) <;> rfl
  rw [e, hp] at this
  exact this
theorem lookG (h : Mp.Mp kv gv w b fg) (n y : List UInt8) {ok : Bool} (ho : (fg (n, y)).isSome = ok) :
    (Instr.lookup 49 (.map (some b)) (.agg #[.string ⟨n.toArray⟩, .string ⟨y.toArray⟩]) true).run Try.prog w = .ok (.tuple #[.agg #[], .bool ok]) w := by
  have := Mp.run_look (e := 60) h keys_entry Try.underlying49 (zvU w) true (n, y)
  rw [ho] at this
  have e : ((fg (n, y)).map gv).getD (gv ()) = .agg #[] := by cases fg (n, y) <;> rfl
  rw [e] at this
  exact this
end
end Go.Proofs.Ytanalbdbkfmifaa.S11
