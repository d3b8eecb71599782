/-
  Lazy tables on lists: draws, functions, permutations; without the program. The reference's tables in memory: a row of what was told; what an append leaves; the struct.
-/
import Derived.Test.YtjklgmhaebjjaaaGreatMgOidealMain2
import Derived.Test.YtjklgmhaebjjaaaGreatMgOidealMain5
namespace Go.Proofs.YtjklgmhaebjjaaaGreat.S11
set_option linter.unusedVariables false
set_option linter.unusedSimpArgs false

/-- What was told: of a name, a question and its answer. -/
structure T3 where
  n : List UInt8
  x : List UInt8
  y : List UInt8
/-- The tables: what is left of the tape, what was told of functions and of permutations, bad, how many drew. -/
structure St where
  seed : List UInt8
  fs : List T3
  ps : List T3
  bad : Bool
  cnt : Nat
def gz (l : List UInt8) (i : Nat) : UInt8 := l.getD i 0
def drawO (s : List UInt8) (m : Nat) : List UInt8 := (List.range m).map (gz s)
theorem drawO_len (s : List UInt8) (m : Nat) : (drawO s m).length = m := by simp [drawO]
theorem drawO_succ (s : List UInt8) (m : Nat) : drawO s (m + 1) = drawO s m ++ [gz s m] := by simp [drawO, List.range_succ]
theorem gz_drop (s : List UInt8) (k i : Nat) : gz (s.drop k) i = gz s (k + i) := by simp [gz, List.getD_eq_getElem?_getD]
def dropS (st : St) (m : Nat) : St := { st with seed := st.seed.drop m }
/-- Draw. -/
def drOp (st : St) (n : Int) : List UInt8 × St := (drawO st.seed n.toNat, dropS st n.toNat)
def hitF (name q : List UInt8) (t : T3) : Bool := decide (t.n = name) && decide (t.x = q)
def badF (name y : List UInt8) (t : T3) : Bool := decide (t.n = name) && decide (t.y = y)
/-- Function. -/
def fnNew (st : St) (name q y : List UInt8) (m : Nat) : St := ⟨st.seed.drop m, st.fs ++ [⟨name, q, y⟩], st.ps, st.bad || st.fs.any (badF name y), st.cnt + 1⟩
def fnOp (st : St) (name q : List UInt8) (n : Int) : List UInt8 × St :=
  match st.fs.find? (hitF name q) with
  | some t => (t.y, st)
  | none => (drawO st.seed n.toNat, fnNew st name q (drawO st.seed n.toNat) n.toNat)
/-- Is a text paired, on a side? -/
def hitP (name s : List UInt8) (first : Bool) (t : T3) : Bool := decide (t.n = name) && (decide ((if first then t.x else t.y) = s) && decide (t.x.length = s.length))
def taken (ps : List T3) (name s : List UInt8) (first : Bool) : Bool := ps.any (hitP name s first)
/-- The next text: the last byte first. -/
def cr (l : List UInt8) : Nat → Nat
  | 0 => 1
  | j + 1 => ((gz l (l.length - 1 - j)).toNat + cr l j) / 256
def dg (l : List UInt8) (p : Nat) : UInt8 := UInt8.ofNat (((gz l p).toNat + cr l (l.length - 1 - p)) % 256)
def nxt (l : List UInt8) : List UInt8 := (List.range l.length).map (dg l)
theorem nxt_len (l : List UInt8) : (nxt l).length = l.length := by simp [nxt]
theorem cr_le (l : List UInt8) (j : Nat) : cr l j ≤ 1 := by
  induction j with
  | zero => exact Nat.le_refl 1
  | succ j ih =>
    have := (gz l (l.length - 1 - j)).toNat_lt
    show (_ + _) / 256 ≤ 1
    omega
def itn : Nat → List UInt8 → List UInt8
  | 0, y => y
  | k + 1, y => nxt (itn k y)
theorem itn_len (k : Nat) (y : List UInt8) : (itn k y).length = y.length := by
  induction k with
  | zero => rfl
  | succ k ih => show (nxt _).length = _; rw [nxt_len, ih]
theorem nxt_last (l : List UInt8) (h : 0 < l.length) : (gz (nxt l) (l.length - 1)).toNat = ((gz l (l.length - 1)).toNat + 1) % 256 := by
  have e : gz (nxt l) (l.length - 1) = dg l (l.length - 1) := by
    simp [gz, nxt, List.getD_eq_getElem?_getD, show l.length - 1 < l.length by omega]
  rw [e]
  unfold dg
  rw [show l.length - 1 - (l.length - 1) = 0 by omega]
  show (UInt8.ofNat ((_ + 1) % 256)).toNat = _
  rw [UInt8.toNat_ofNat']
  omega
theorem itn_last (y : List UInt8) (h : 0 < y.length) (k : Nat) : (gz (itn k y) (y.length - 1)).toNat = ((gz y (y.length - 1)).toNat + k) % 256 := by
  induction k with
  | zero => show (gz y _).toNat = _; have := (gz y (y.length - 1)).toNat_lt; omega
  | succ k ih =>
    have := nxt_last (itn k y) (by rw [itn_len]; exact h)
    rw [itn_len] at this
    show (gz (nxt _) _).toNat = _
    rw [this, ih]
    omega
theorem itn_inj (y : List UInt8) (h : 0 < y.length) (i j : Nat) (hi : i < 256) (hj : j < 256) (e : itn i y = itn j y) : i = j := by
  have h1 := itn_last y h i
  have h2 := itn_last y h j
  rw [e] at h1
  omega
/-- So many unlike ones have so many places. -/
theorem pigeon {α : Type} [DecidableEq α] (f : Nat → α) (i : Nat) : ∀ (ys : List α), (∀ j k, j < i → k < i → f j = f k → j = k) → (∀ j, j < i → f j ∈ ys) → i ≤ ys.length := by
  induction i with
  | zero => intro ys _ _; omega
  | succ i ih =>
    intro ys hinj hmem
    have hm := hmem i (by omega)
    have := ih (ys.erase (f i)) (fun j k hj hk e => hinj j k (by omega) (by omega) e) (fun j hj => by
      refine (List.mem_erase_of_ne ?_).2 (hmem j (by omega))
      intro e
      have := hinj j i (by omega) (by omega) e
      omega)
    rw [List.length_erase_of_mem hm] at this
    have := List.length_pos_of_mem hm
    omega
theorem taken_mem (ps : List T3) (name s : List UInt8) (first : Bool) (h : taken ps name s first = true) : s ∈ ps.map fun t => if first then t.x else t.y := by
  unfold taken at h
  rw [List.any_eq_true] at h
  obtain ⟨t, ht, h1⟩ := h
  rw [List.mem_map]
  refine ⟨t, ht, ?_⟩
  simp only [hitP, Bool.and_eq_true, decide_eq_true_eq] at h1
  exact h1.2.1
theorem taken_few (ps : List T3) (name y : List UInt8) (first : Bool) (hy : 0 < y.length) (i : Nat) (hi : i ≤ 256) (h : ∀ j, j < i → taken ps name (itn j y) first = true) : i ≤ ps.length := by
  have := pigeon (fun j => itn j y) i (ps.map fun t => if first then t.x else t.y) (fun j k hj hk e => itn_inj y hy j k (by omega) (by omega) e) (fun j hj => taken_mem ps name _ first (h j hj))
  simpa using this
/-- The first text from y on that is not paired. -/
def adv (tk : List UInt8 → Bool) : Nat → List UInt8 → List UInt8
  | 0, y => y
  | k + 1, y => if tk y then adv tk k (nxt y) else y
theorem itn_nxt (k : Nat) (y : List UInt8) : itn k (nxt y) = itn (k + 1) y := by
  induction k with
  | zero => rfl
  | succ k ih => show nxt (itn k (nxt y)) = _; rw [ih]; rfl
theorem adv_at (tk : List UInt8 → Bool) (i : Nat) : ∀ (k : Nat) (y : List UInt8), i ≤ k → (∀ j, j < i → tk (itn j y) = true) → tk (itn i y) = false → adv tk k y = itn i y := by
  induction i with
  | zero =>
    intro k y _ _ h
    have h' : tk y = false := h
    cases k with
    | zero => rfl
    | succ k => show (if tk y then _ else y) = y; rw [h']; rfl
  | succ i ih =>
    intro k y hk hj h
    cases k with
    | zero => omega
    | succ k =>
      have h0 : tk y = true := hj 0 (by omega)
      show (if tk y then adv tk k (nxt y) else y) = _
      rw [h0, if_pos rfl, ih k (nxt y) (by omega) (fun j hj' => by rw [itn_nxt]; exact hj (j + 1) (by omega)) (by rw [itn_nxt]; exact h), itn_nxt]
/-- There is one, among so few. -/
theorem adv_free (ps : List T3) (name y : List UInt8) (first : Bool) (hy : 0 < y.length) (hp : ps.length ≤ 255) : ∃ i, i ≤ 255 ∧ (∀ j, j < i → taken ps name (itn j y) first = true) ∧ taken ps name (itn i y) first = false := by
  apply Classical.byContradiction
  intro hn
  have hall : ∀ i, i ≤ 256 → ∀ j, j < i → taken ps name (itn j y) first = true := by
    intro i
    induction i with
    | zero => intro _ j hj; omega
    | succ i ih =>
      intro hi j hj
      by_cases c : j < i
      · exact ih (by omega) j c
      · obtain rfl : j = i := by omega
        cases h : taken ps name (itn j y) first with
        | true => rfl
        | false => exact absurd ⟨j, by omega, ih (by omega), h⟩ hn
  have := taken_few ps name y first hy 256 (Nat.le_refl _) (hall 256 (Nat.le_refl _))
  omega
def hitQ (name s : List UInt8) (first : Bool) (t : T3) : Bool := decide (t.n = name) && (decide (t.x.length = s.length) && decide ((if first then t.x else t.y) = s))
def told (first : Bool) (name s y : List UInt8) : T3 := if first then ⟨name, s, y⟩ else ⟨name, y, s⟩
def ans (first : Bool) (t : T3) : List UInt8 := if first then t.y else t.x
def freeY (st : St) (name s : List UInt8) (first : Bool) : List UInt8 := adv (fun y => taken st.ps name y (!first)) 255 (drawO st.seed s.length)
def prNew (st : St) (name s : List UInt8) (first : Bool) : St := ⟨st.seed.drop s.length, st.fs, st.ps ++ [told first name s (freeY st name s first)], st.bad || taken st.ps name (drawO st.seed s.length) (!first), st.cnt + 1⟩
/-- Forward, Backward. -/
def prOp (st : St) (name s : List UInt8) (first : Bool) : List UInt8 × St :=
  if s = [] then ([], st)
  else match st.ps.find? (hitQ name s first) with
    | some t => (ans first t, st)
    | none => (freeY st name s first, prNew st name s first)
theorem adv_len (tk : List UInt8 → Bool) (k : Nat) : ∀ y, (adv tk k y).length = y.length := by
  induction k with
  | zero => intro y; rfl
  | succ k ih =>
    intro y
    show (if tk y then adv tk k (nxt y) else y).length = _
    split
    · rw [ih, nxt_len]
    · rfl
theorem freeY_len (st : St) (name s : List UInt8) (first : Bool) : (freeY st name s first).length = s.length := by
  unfold freeY
  rw [adv_len, drawO_len]
end Go.Proofs.YtjklgmhaebjjaaaGreat.S11
namespace Go.Proofs.YtjklgmhaebjjaaaGreat.S11
open Go.RowKit
set_option linter.unusedVariables false
set_option linter.unusedSimpArgs false

/-- append of something: where the result lies. -/
theorem app_moved {P : Program} {w : World} {base : Nat} {t ty e : TypeId} {i : TypeInfo} {z : Value} {size bytes : Nat} (ht : P.underlying t = some (.slice e)) (hi : P.info? e = some i) (hz : i.zero = some z)
    (hsize : i.size = size) (hby : i.bytes = bytes) (hzs : z.cells.size = size) (hsz : 0 < size) {A : Option Addr} {n c : Nat} {xs : List Value} (hown : w.ownsRow base e size (.slice A n c) n xs)
    (ad : Addr) (m c2 : Nat) (news : List Value) (hm : 0 < m) (hl : news.length = m * size) (hnews : ∀ j u, news[j]? = some u → w.cell? (ad.add j) = some u) (h1 : ∀ u ∈ news, u.oneCell' = true) (h63 : n + m ≤ maxLen) (hbytes : (n + m) * bytes ≤ 140737488355328) (hbase : base ≤ w.heap.size) :
    ∃ A' c' w', (Builtin.append_ #[t, t] ty #[.slice A n c, .slice (some ad) m c2]).run P w = .ok (.slice A' (n + m) c') w' ∧ w'.ownsRow base e size (.slice A' (n + m) c') (n + m) (xs ++ news) ∧ w.grownBy w' (Value.slice A n c).ownBlock ∧ Moved w A A' := by
  obtain ⟨v', w', hrun, hown', hg, _⟩ := run_append_own (P := P) w base t ty e i z size bytes ht hi hz hsize hby hzs hsz _ _ _ hown ad m c2 news hl hnews h1 h63 hbytes hbase
  have hv : ∃ A' c', v' = .slice A' (n + m) c' := by
    rcases hown'.2 with ⟨_, h3⟩ | ⟨g, cap, cur, h1, _⟩
    · omega
    · exact ⟨some ⟨g, 0, none⟩, cap, h1⟩
  obtain ⟨A', c', rfl⟩ := hv
  refine ⟨A', c', w', hrun, hown', hg, ?_⟩
  rcases hown.2 with ⟨h1', h3⟩ | ⟨g, cap, cur, h1', hbg, hheap, hnc, hcm, hcs, htake⟩
  · simp only [Value.slice.injEq] at h1'
    obtain ⟨rfl, rfl, rfl⟩ := h1'
    have hx : xs = [] := List.eq_nil_of_length_eq_zero (by have := hown.1; omega)
    subst hx
    obtain ⟨v2, w2, hrun2, hown2, _, _⟩ := run_append_own (P := P) w w.heap.size t ty e i z size bytes ht hi hz hsize hby hzs hsz _ _ _ (World.ownsRow_nil w w.heap.size e size) ad m c2 news hl hnews h1 h63 hbytes (Nat.le_refl _)
    have e := hrun.symm.trans hrun2
    injection e with e _
    subst e
    rcases hown2.2 with ⟨h1, h3⟩ | ⟨g, cap, cur, h1, hb2, _⟩
    · omega
    · simp only [Value.slice.injEq] at h1
      exact .inr ⟨_, h1.1, hb2⟩
  · simp only [Value.slice.injEq] at h1'
    obtain ⟨rfl, _, rfl⟩ := h1'
    by_cases hroom : n + m ≤ c
    · have hr := run_append_room (P := P) w t ty e i ht hi g n c cur hheap ad m c2 news (by rw [hsize]; exact hl) hnews h1 hroom (by rw [hsize, hcs, hl, ← Nat.add_mul]; exact Nat.mul_le_mul_right _ hroom)
      have e := hrun.symm.trans hr
      injection e with e _
      simp only [Value.slice.injEq] at e
      exact .inl e.1
    · have holds : ∀ j u, xs[j]? = some u → w.cell? ((⟨g, 0, none⟩ : Addr).add j) = some u := hown.cells (g := g) rfl
      obtain ⟨v2, w2, hrun2, hown2, _⟩ := run_append_arg_grows (P := P) w t ty e i z size bytes ht hi hz hsize hby hzs hsz ⟨g, 0, none⟩ n c xs (by have := hown.1; omega) holds ad m c2 news hl hnews (by omega) h63 hbytes
      have e := hrun.symm.trans hrun2
      injection e with e _
      subst e
      rcases hown2.2 with ⟨h1, h3⟩ | ⟨g2, cap2, cur2, h1, hb2, _⟩
      · simp only [Value.slice.injEq] at h1
        omega
      · simp only [Value.slice.injEq] at h1
        exact .inr ⟨_, h1.1, hb2⟩
/-- A text in a cell. -/
def sv (l : List UInt8) : Value := .string ⟨l.toArray⟩
def tv (t : T3) : List Value := [sv t.n, sv t.x, sv t.y]
def tvs (ts : List T3) : List Value := ts.flatMap tv
theorem tvs_len (ts : List T3) : (tvs ts).length = ts.length * 3 := by
  induction ts with
  | nil => rfl
  | cons t ts ih => simp only [tvs, List.flatMap_cons, List.length_append, List.length_cons] at *; rw [ih]; simp [tv]; omega
theorem tvs_app (a b : List T3) : tvs (a ++ b) = tvs a ++ tvs b := by simp [tvs]
theorem tvs_one (ts : List T3) : ∀ u ∈ tvs ts, u.oneCell' = true := by
  intro u hu
  simp only [tvs, List.mem_flatMap] at hu
  obtain ⟨t, _, ht⟩ := hu
  simp only [tv, List.mem_cons, List.not_mem_nil, or_false] at ht
  rcases ht with rfl | rfl | rfl <;> rfl
theorem tvs_get (ts : List T3) (i : Nat) (h : i < ts.length) (j : Nat) (hj : j < 3) : (tvs ts)[3 * i + j]? = (tv ts[i])[j]? := by
  induction ts generalizing i with
  | nil => simp at h
  | cons t ts ih =>
    cases i with
    | zero =>
      simp only [tvs, List.flatMap_cons, Nat.mul_zero, Nat.zero_add, List.getElem_cons_zero]
      rw [List.getElem?_append_left (by simp [tv]; omega)]
    | succ i =>
      have := ih i (by simpa using h)
      simp only [tvs, List.flatMap_cons, List.getElem_cons_succ] at this ⊢
      rw [List.getElem?_append_right (by simp [tv]; omega), show 3 * (i + 1) + j - (tv t).length = 3 * i + j by simp [tv]; omega]
      exact this
theorem info53 : (Tryz.prog.info? 96).map (fun i => (i.zero, i.size, i.bytes)) = some (some (.agg #[.string ByteArray.empty, .string ByteArray.empty, .string ByteArray.empty]), 3, 48) := by kernel_rfl
/-- A row of what was told, owned. -/
def OwnR (w : World) (base : Nat) (A : Option Addr) (c : Nat) (ts : List T3) : Prop := w.ownsRow base 96 3 (.slice A ts.length c) ts.length (tvs ts)
section
variable {w w' : World} {base : Nat} {A : Option Addr} {c : Nat} {ts : List T3}
theorem OwnR.nil (w : World) (base : Nat) : OwnR w base none 0 [] := World.ownsRow_nil w base 96 3
theorem OwnR.form (h : OwnR w base A c ts) : (A = none ∧ ts = [] ∧ c = 0) ∨ ∃ g cur, A = some ⟨g, 0, none⟩ ∧ base ≤ g ∧ w.heap[g]? = some (.cells cur 96 (0, 0)) ∧ ts.length ≤ c ∧ cur.toList.take (ts.length * 3) = tvs ts := by
  rcases h.2 with ⟨h1, h2⟩ | ⟨g, cap, cur, h1, h2, h3, h4, h5, h6, h7⟩
  · simp only [Value.slice.injEq] at h1
    exact .inl ⟨h1.1, List.eq_nil_of_length_eq_zero h2, h1.2.2⟩
  · simp only [Value.slice.injEq] at h1
    obtain ⟨rfl, _, rfl⟩ := h1
    exact .inr ⟨g, cur, rfl, h2, h3, h4, h7⟩
theorem OwnR.le (h : OwnR w base A c ts) : ts.length ≤ c := by
  rcases h.form with ⟨_, rfl, _⟩ | ⟨_, _, _, _, _, h, _⟩
  · exact Nat.zero_le _
  · exact h
theorem OwnR.lt (h : OwnR w base A c ts) : ∀ x, A = some x → base ≤ x.block ∧ x.block < w.heap.size := by
  rintro x rfl
  rcases h.form with ⟨e, _⟩ | ⟨g, cur, e, hb, hh, _⟩
  · cases e
  · simp only [Option.some.injEq] at e
    subst e
    exact ⟨hb, lt_of_heap hh⟩
theorem OwnR.keep (h : OwnR w base A c ts) (hk : ∀ x, A = some x → w'.heap[x.block]? = w.heap[x.block]?) : OwnR w' base A c ts := by
  refine ⟨h.1, ?_⟩
  rcases h.2 with h1 | ⟨g, cap, cur, h1, h2, h3, r⟩
  · exact .inl h1
  · refine .inr ⟨g, cap, cur, h1, h2, ?_, r⟩
    simp only [Value.slice.injEq] at h1
    exact (hk _ h1.1).trans h3
/-- The cells of entry i. -/
theorem OwnR.at_ (h : OwnR w base A c ts) (i : Nat) (hi : i < ts.length) : ∃ g, A = some ⟨g, 0, none⟩ ∧ g < w.heap.size ∧ w.cell? ⟨g, i * 3, none⟩ = some (.string ⟨ts[i].n.toArray⟩) ∧ w.cell? ⟨g, i * 3 + 1, none⟩ = some (.string ⟨ts[i].x.toArray⟩) ∧ w.cell? ⟨g, i * 3 + 2, none⟩ = some (.string ⟨ts[i].y.toArray⟩) := by
  rcases h.form with ⟨_, rfl, _⟩ | ⟨g, cur, rfl, hb, hh, hc, ht⟩
  · simp at hi
  · have hg : ∀ j, j < 3 → w.cell? ⟨g, i * 3 + j, none⟩ = (tv ts[i])[j]? := fun j hj => by
      rw [Nat.mul_comm i 3, cell_of_row w g (3 * i + j) cur _ (0, 0) hh, ← tvs_get ts i hi j hj, ← ht, List.getElem?_take, if_pos (by omega)]
      simp
    exact ⟨g, rfl, lt_of_heap hh, hg 0 (by omega), hg 1 (by omega), hg 2 (by omega)⟩
end
theorem wpList_appT {w : World} {base : Nat} {A : Option Addr} {c n c2 g2 : Nat} {ts : List T3} {t : T3} {ops : Array Oper} {rest : List Oper} {o : Oper} {a : Act} {Q : Exit → Act → World → Prop} (hgd : o.guard = none) (s x : Operand) (ho : o.op = .call { callee := .builtin .append, args := #[s, x], argTypes := #[29, 29] })
    (hn : ts.length = n) (hs : a.eval s = .slice A n c) (h : OwnR w base A c ts) (hx : a.eval x = .slice (some ⟨g2, 0, none⟩) 1 c2) (h2 : w.heap[g2]? = some (.cells #[.string ⟨t.n.toArray⟩, .string ⟨t.x.toArray⟩, .string ⟨t.y.toArray⟩] 96 (0, 0))) (hl : n ≤ 100000) (hbase : base ≤ w.heap.size)
    (hk : ∀ A' c' w', OwnR w' base A' c' (ts ++ [t]) → w.grownBy w' (Value.slice A n c).ownBlock → Moved w A A' → wpList Tryz.prog ops Q rest (a.put o.dst (.slice A' (n + 1) c')) w') : wpList Tryz.prog ops Q (o :: rest) a w := by
  subst hn
  refine wpList_plain hgd fun K hK => ?_
  obtain ⟨i0, hi, hz0, hz1, hz2⟩ := info_parts info53
  have hcells : ∀ j u, (tv t)[j]? = some u → w.cell? ((⟨g2, 0, none⟩ : Addr).add j) = some u := by
    intro j u hu
    have hj : j < 3 := by have := (List.getElem?_eq_some_iff.1 hu).1; simpa [tv] using this
    have e : (⟨g2, 0, none⟩ : Addr).add j = ⟨g2, j, none⟩ := by by_cases h0 : j = 0 <;> simp [Addr.add, h0]
    rw [e, cell_of_row w g2 j _ _ (0, 0) h2, ← hu]
    match j, hj with
    | 0, _ => rfl
    | 1, _ => rfl
    | 2, _ => rfl
  obtain ⟨A', c', w', hrun, hown', hg, hm⟩ := app_moved (P := Tryz.prog) (ty := o.type) Tryz.underlying29 hi hz0 hz1 hz2 rfl (by omega) h ⟨g2, 0, none⟩ 1 c2 (tv t) (by omega) (by simp [tv]) hcells (fun u hu => tvs_one [t] u (by simpa [tvs] using hu)) (by unfold maxLen; omega) (by omega) hbase
  unfold Oper.wp execOp
  simp only [ho, resolve, invoke, builtin, Sem.run_bind, Sem.run_pure, Result.andThen_ok, List.map_toArray, List.map_cons, List.map_nil, hs, hx, hrun]
  refine hK _ _ (hk A' c' w' ?_ hg hm)
  unfold OwnR
  rw [tvs_app, List.length_append]
  have e : tvs [t] = tv t := by simp [tvs]
  rw [e]
  exact hown'
/-- The struct: its five cells. -/
def LzC (A : Option Addr) (n c : Nat) (Af : Option Addr) (nf cf : Nat) (Ap : Option Addr) (np cp : Nat) (bad : Bool) (cnt : Int) : Array Value := #[.slice A n c, .slice Af nf cf, .slice Ap np cp, .bool bad, .int .i64 cnt]
/-- The reference's tables st lie at block R, their rows at Af and Ap; the tape is somebody else's, below B. -/
def Rz (w : World) (B base R : Nat) (Af Ap : Option Addr) (st : St) : Prop :=
  base ≤ R ∧ Apart Af Ap ∧ ∃ A n c cf cp, w.heap[R]? = some (.cells (LzC A n c Af st.fs.length cf Ap st.ps.length cp st.bad (st.cnt : Int)) 31 (0, 0)) ∧ st.seed.length = n ∧ n ≤ c ∧ Rd w B A st.seed ∧ OwnR w base Af cf st.fs ∧ OwnR w base Ap cp st.ps
/-- Where they lie. -/
def RF (R : Nat) (Af Ap : Option Addr) (k : Nat) : Prop := k = R ∨ (∃ x, Af = some x ∧ x.block = k) ∨ ∃ x, Ap = some x ∧ x.block = k
/-- Nothing has turned but what F holds; there may be more. -/
structure Ch (F : Nat → Prop) (w w' : World) : Prop where
  os : w'.os = w.os
  tape : w'.tape = w.tape
  output : w'.output = w.output
  size : w.heap.size ≤ w'.heap.size
  block : ∀ k, k < w.heap.size → ¬ F k → w'.heap[k]? = w.heap[k]?
section
variable {F F' : Nat → Prop} {w w' w2 : World}
theorem Ch.refl (F : Nat → Prop) (w : World) : Ch F w w := ⟨rfl, rfl, rfl, Nat.le_refl _, fun _ _ _ => rfl⟩
theorem Ch.trans (h : Ch F w w') (h2 : Ch F w' w2) : Ch F w w2 :=
  ⟨h2.os.trans h.os, h2.tape.trans h.tape, h2.output.trans h.output, Nat.le_trans h.size h2.size, fun k hk hf => (h2.block k (Nat.lt_of_lt_of_le hk h.size) hf).trans (h.block k hk hf)⟩
/-- .. the second one may also turn what is new. -/
theorem Ch.then (h : Ch F w w') (h2 : Ch F' w' w2) (hF : ∀ k, k < w.heap.size → F' k → F k) : Ch F w w2 :=
  ⟨h2.os.trans h.os, h2.tape.trans h.tape, h2.output.trans h.output, Nat.le_trans h.size h2.size, fun k hk hf => (h2.block k (Nat.lt_of_lt_of_le hk h.size) (fun hf' => hf (hF k hk hf'))).trans (h.block k hk hf)⟩
theorem Ch.grown (h : Grown w w') : Ch F w w' := ⟨h.os, h.tape, h.output, h.size, fun k hk _ => h.block k hk⟩
theorem Ch.alloc (h : Ch F w w') (o : Obj) : Ch F w (w'.alloc o) := Ch.trans h (Ch.grown (alloc_below w' o))
theorem Ch.below {C : Nat} (h : Below C w w') : Ch (fun k => C ≤ k) w w' := ⟨h.os, h.tape, h.output, h.size, fun k _ hf => h.block k (by omega)⟩
theorem Ch.drew (h : Ch F w w') : Ch F w w'.drew := ⟨h.os, h.tape, h.output, h.size, h.block⟩
theorem Ch.setCell (h : Ch F w w') {p : Addr} (hp : F p.block ∨ w.heap.size ≤ p.block) (u : Value) : Ch F w (w'.setCell p u) := by
  refine ⟨h.os, h.tape, h.output, by simpa using h.size, fun k hk hf => ?_⟩
  rw [heap_setCell_other w' p k u (fun e => by subst e; rcases hp with hp | hp; exact hf hp; omega)]
  exact h.block k hk hf
theorem Ch.cell (h : Ch F w w') {p : Addr} (hp : p.block < w.heap.size) (hf : ¬ F p.block) : w'.cell? p = w.cell? p := World.cell?_of_block (w := w) (h.block _ hp hf)
end
theorem Rz.lt {w : World} {B base R : Nat} {Af Ap : Option Addr} {st : St} (h : Rz w B base R Af Ap st) : ∀ k, RF R Af Ap k → base ≤ k ∧ k < w.heap.size := by
  obtain ⟨hb, hap, A, n, c, cf, cp, hR, h1, h2, h3, h4, h5⟩ := h
  rintro k (rfl | ⟨x, hx, rfl⟩ | ⟨x, hx, rfl⟩)
  · exact ⟨hb, lt_of_heap hR⟩
  · exact h4.lt x hx
  · exact h5.lt x hx
/-- They stay where their blocks stay. -/
theorem Rz.keep {w w' : World} {B base R : Nat} {Af Ap : Option Addr} {st : St} (h : Rz w B base R Af Ap st) (hB : ∀ k, k < B → w'.heap[k]? = w.heap[k]?) (hk : ∀ k, RF R Af Ap k → w'.heap[k]? = w.heap[k]?) : Rz w' B base R Af Ap st := by
  obtain ⟨hb, hap, A, n, c, cf, cp, hR, h1, h2, h3, h4, h5⟩ := h
  exact ⟨hb, hap, A, n, c, cf, cp, (hk R (.inl rfl)).trans hR, h1, h2, h3.keep fun p hp => World.cell?_of_block (hB _ hp), h4.keep fun x hx => hk _ (.inr (.inl ⟨x, hx, rfl⟩)), h5.keep fun x hx => hk _ (.inr (.inr ⟨x, hx, rfl⟩))⟩
end Go.Proofs.YtjklgmhaebjjaaaGreat.S11
