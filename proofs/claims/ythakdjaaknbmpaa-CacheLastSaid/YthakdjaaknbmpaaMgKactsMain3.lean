/-
  A map's block as a partial function of its keys: look-ups and stores, for whatever keys the program's '==' tells apart. A map's block with its entries known, no two at one key: look-up, store, delete, clear, len.
-/
import Derived.Test.YthakdjaaknbmpaaMgKactsMain1
import Derived.MapKept
import Derived.ChangeMaps5
import Derived.OwnWalk
import Derived.MapFrom
namespace Go.Proofs.Ythakdjaaknbmpaa.Mp
open Go.RowKit
set_option linter.unusedVariables false
set_option linter.unusedSimpArgs false

section
variable {K V : Type} [DecidableEq K]
/-- The place of the first entry at a key, from i on, and what is there. -/
def fnd (k : K) : List (K × V) → Nat → Option (Nat × V)
  | [], _ => none
  | p :: ms, i => if k = p.1 then some (i, p.2) else fnd k ms (i + 1)
def look : List (K × V) → K → Option V
  | [], _ => none
  | p :: ms, k => if k = p.1 then some p.2 else look ms k
def upd : List (K × V) → K → V → List (K × V)
  | [], k, v => [(k, v)]
  | p :: ms, k, v => if k = p.1 then (k, v) :: ms else p :: upd ms k v
theorem fnd_look (k : K) : ∀ (ms : List (K × V)) (i : Nat), (fnd k ms i).map (·.2) = look ms k
  | [], _ => rfl
  | p :: ms, i => by
    unfold fnd look
    split
    · rfl
    · exact fnd_look k ms (i + 1)
theorem fnd_ge (k : K) : ∀ (ms : List (K × V)) (i : Nat) (q : Nat × V), fnd k ms i = some q → i ≤ q.1
  | [], _, _, h => by cases h
  | p :: ms, i, q, h => by
    unfold fnd at h
    split at h
    · cases h; exact Nat.le_refl _
    · have := fnd_ge k ms (i + 1) q h; omega
theorem look_upd (k : K) (v : V) (k' : K) : ∀ ms : List (K × V), look (upd ms k v) k' = if k' = k then some v else look ms k'
  | [] => by simp [upd, look]
  | p :: ms => by
    unfold upd
    by_cases h : k = p.1
    · rw [if_pos h]
      subst h
      simp only [look]
      by_cases h2 : k' = p.1
      · simp [h2]
      · simp [h2]
    · rw [if_neg h]
      simp only [look]
      rw [look_upd k v k' ms]
      by_cases h2 : k' = p.1
      · subst h2
        rw [if_pos rfl, if_neg (fun e => h e.symm), if_pos rfl]
      · simp [h2]
theorem upd_none (k : K) (v : V) : ∀ (ms : List (K × V)) (i : Nat), fnd k ms i = none → upd ms k v = ms ++ [(k, v)]
  | [], _, _ => rfl
  | p :: ms, i, h => by
    unfold fnd at h
    split at h
    · cases h
    · rename_i hn
      unfold upd
      rw [if_neg hn, upd_none k v ms (i + 1) h]
      rfl
variable (kv : K → Value) (enc : V → Value)
def ge (e : MapEntry) : Value × Value := (e.key, e.val)
def gm (p : K × V) : Value × Value := (kv p.1, enc p.2)
theorem upd_some (k : K) (v : V) : ∀ (ms : List (K × V)) (es : List MapEntry) (j i : Nat) (u : V), es.map ge = ms.map (gm kv enc) → fnd k ms j = some (i + j, u) →
    (es.modify i fun e => { e with key := kv k, val := enc v }).map ge = (upd ms k v).map (gm kv enc) ∧ (es[i]?).map (·.key) = some (kv k)
  | [], _, _, _, _, _, h => by cases h
  | p :: ms, [], _, _, _, h, _ => by simp at h
  | p :: ms, e :: es, j, i, u, h, hf => by
    simp only [List.map_cons, List.cons.injEq] at h
    unfold fnd at hf
    unfold upd
    split at hf
    · rename_i he
      simp only [Option.some.injEq, Prod.mk.injEq] at hf
      obtain rfl : i = 0 := by omega
      rw [if_pos he]
      refine ⟨by simp [ge, gm, h.2], ?_⟩
      have := congrArg (·.1) h.1
      simp only [ge, gm] at this
      simp [this, he]
    · rename_i he
      have hge := fnd_ge k ms (j + 1) _ hf
      obtain ⟨i', rfl⟩ : ∃ i', i = i' + 1 := ⟨i - 1, by simp at hge; omega⟩
      have ih := upd_some k v ms es (j + 1) i' u h.2 (by rw [hf]; congr 2; omega)
      rw [if_neg he]
      exact ⟨by simp [h.1, ih.1], by simpa using ih.2⟩
end

/-- Keys of the type kt, written kv: what '==' tells of them, and that they may stand in a map. -/
structure Keys (P : Program) (kt : TypeId) {K : Type} [DecidableEq K] (kv : K → Value) : Prop where
  check : ∀ (w : World) (em : Bool) (k : K), (Instr.checkKey em 10000 kt (kv k)).run P w = .ok () w
  find : ∀ (w : World) (k : K) {V : Type} (enc : V → Value) (es : List MapEntry) (ms : List (K × V)), es.map ge = ms.map (gm kv enc) → (Instr.findKey kt (kv k) es).run P w = .ok ((fnd k ms 0).map fun q => (q.1, enc q.2)) w
  stays : ∀ (w : World) (k : K), (Instr.keyThatStays (kv k) (kv k)).run P w = .ok (kv k) w

section
variable {P : Program} {kt t e : TypeId} {K V : Type} [DecidableEq K] {kv : K → Value} {enc : V → Value} {w w' : World} {b : Nat} {f : K → Option V}
/-- Block b is a map that answers f. -/
def Mp (kv : K → Value) (enc : V → Value) (w : World) (b : Nat) (f : K → Option V) : Prop :=
  ∃ es clock ms, w.heap[b]? = some (.map es clock) ∧ es.toList.map ge = ms.map (gm kv enc) ∧ ∀ k, f k = look ms k
def put (f : K → Option V) (k : K) (v : V) : K → Option V := fun k' => if k' = k then some v else f k'
theorem Mp.lt (h : Mp kv enc w b f) : b < w.heap.size := by
  obtain ⟨es, c, ms, h, _⟩ := h
  rcases Nat.lt_or_ge b w.heap.size with h1 | h1
  · exact h1
  · rw [Array.getElem?_eq_none h1] at h; cases h
theorem Mp.keep (h : Mp kv enc w b f) (hk : w'.heap[b]? = w.heap[b]?) : Mp kv enc w' b f := by
  obtain ⟨es, c, ms, h, r⟩ := h
  exact ⟨es, c, ms, hk.trans h, r⟩
theorem Mp.new (kv : K → Value) (enc : V → Value) (h : w.heap[b]? = some (.map #[] 0)) : Mp kv enc w b fun _ => none :=
  ⟨#[], 0, [], h, rfl, fun _ => rfl⟩
theorem Mp.cells (h : Mp kv enc w b f) {c : Array Value} {el : TypeId} {fz : Nat × Nat} {g : Nat} (hg : w.heap[g]? = some (.cells c el fz)) : b ≠ g := by
  rintro rfl
  obtain ⟨es, _, ms, h, _⟩ := h
  rw [h] at hg
  cases hg
/-- 'm[k]'. -/
theorem run_look (h : Mp kv enc w b f) (hK : Keys P kt kv) (ht : P.underlying t = some (.map kt e)) {z : Value} (hz : (zeroValue e).run P w = .ok z w) (c : Bool) (k : K) :
    (Instr.lookup t (.map (some b)) (kv k) c).run P w = .ok (if c then .tuple #[((f k).map enc).getD z, .bool (f k).isSome] else ((f k).map enc).getD z) w := by
  obtain ⟨es, clock, ms, hb, hes, hf⟩ := h
  have h1 := hK.find w k enc es.toList ms hes
  have h2 := fnd_look k ms 0
  rw [hf k, ← h2]
  cases hfn : fnd k ms 0 with
  | none =>
    rw [hfn] at h1
    simp [Instr.lookup, run_underlying ht, MapKept.run_getObj_map hb, hK.check w _ k, h1, hz, Result.andThen]
  | some q =>
    rw [hfn] at h1
    simp [Instr.lookup, run_underlying ht, MapKept.run_getObj_map hb, hK.check w _ k, h1, Result.andThen]
/-- 'm[k] = v'. -/
theorem run_upd (h : Mp kv enc w b f) (hK : Keys P kt kv) (ht : P.underlying t = some (.map kt e)) (k : K) (v : V) :
    ∃ w', (Instr.mapUpdate t (.map (some b)) (kv k) (enc v)).run P w = .ok () w' ∧ Mp kv enc w' b (put f k v) ∧ w.grownBy w' (some b) ∧ w'.heap.size = w.heap.size := by
  obtain ⟨es, clock, ms, hb, hes, hf⟩ := h
  have h1 := hK.find w k enc es.toList ms hes
  have hput : ∀ k', put f k v k' = look (upd ms k v) k' := fun k' => by rw [look_upd]; unfold put; rw [hf]
  have hgr : ∀ o : Obj, w.grownBy (ChangeMaps.setBlock w b o) (some b) := fun o => ⟨rfl, rfl, rfl, by simp [ChangeMaps.setBlock], fun i _ hi => ChangeMaps.heap_setBlock_other hb o (fun e => hi (by rw [e]))⟩
  have hsz : ∀ o : Obj, (ChangeMaps.setBlock w b o).heap.size = w.heap.size := fun o => by simp [ChangeMaps.setBlock]
  cases hfn : fnd k ms 0 with
  | none =>
    rw [hfn] at h1
    refine ⟨ChangeMaps.setBlock w b (.map (es.push { key := kv k, val := enc v, born := clock }) (clock + 1)), ?_, ⟨_, _, upd ms k v, ChangeMaps.heap_setBlock_same hb _, ?_, hput⟩, hgr _, hsz _⟩
    · simp [Instr.mapUpdate, run_underlying ht, MapKept.run_getObj_map hb, MapKept.run_setObj_map _ hb, hK.check w _ k, h1, Result.andThen, ChangeMaps.setBlock]
    · rw [upd_none k v ms 0 hfn]
      simp [hes, ge, gm]
  | some q =>
    rw [hfn] at h1
    obtain ⟨hm, hk⟩ := upd_some kv enc k v ms es.toList 0 q.1 q.2 hes hfn
    refine ⟨ChangeMaps.setBlock w b (.map (es.modify q.1 fun e => { e with key := kv k, val := enc v }) clock), ?_, ⟨_, _, upd ms k v, ChangeMaps.heap_setBlock_same hb _, ?_, hput⟩, hgr _, hsz _⟩
    · have hk' : ((es[q.1]?).map (·.key)).getD (kv k) = kv k := by
        rw [Array.getElem?_toList] at hk
        rw [hk]
        rfl
      simp [Instr.mapUpdate, run_underlying ht, MapKept.run_getObj_map hb, MapKept.run_setObj_map _ hb, hK.check w _ k, h1, Result.andThen, ChangeMaps.setBlock, hk', hK.stays w k]
    · rw [Array.toList_modify]
      exact hm
end
section
variable {P : Program} {kt t e : TypeId} {K V : Type} [DecidableEq K] {kv : K → Value} {enc : V → Value} {w : World} {b : Nat} {f : K → Option V} {o : Oper} {a : Act}
/-- 'm[k] = v' at the operation. -/
theorem wp_upd {KK : Act → World → Prop} {Q : Exit → Act → World → Prop} (m x y : Operand) (ho : o.op = Op.mapUpdate t m x y) (hK : Keys P kt kv) (ht : P.underlying t = some (.map kt e)) (h : Mp kv enc w b f) (k : K) (v : V)
    (hm : a.eval m = .map (some b)) (hx : a.eval x = kv k) (hy : a.eval y = enc v)
    (hk : ∀ w', Mp kv enc w' b (put f k v) → w.grownBy w' (some b) → w'.heap.size = w.heap.size → KK (a.put o.dst undef) w') : o.wp P a w KK Q := by
  obtain ⟨w', hrun, h1, h2, h3⟩ := run_upd h hK ht k v
  unfold Oper.wp
  simp [execOp, ho, hm, hx, hy, hrun, Result.andThen]
  exact hk w' h1 h2 h3
theorem wpList_upd {ops : Array Oper} {rest : List Oper} {Q : Exit → Act → World → Prop} (hgd : o.guard = none) (m x y : Operand) (ho : o.op = Op.mapUpdate t m x y) (hK : Keys P kt kv) (ht : P.underlying t = some (.map kt e)) (h : Mp kv enc w b f) (k : K) (v : V)
    (hm : a.eval m = .map (some b)) (hx : a.eval x = kv k) (hy : a.eval y = enc v)
    (hk : ∀ w', Mp kv enc w' b (put f k v) → w.grownBy w' (some b) → w'.heap.size = w.heap.size → wpList P ops Q rest (a.put o.dst undef) w') : wpList P ops Q (o :: rest) a w :=
  wpList_plain hgd fun _ hK' => wp_upd m x y ho hK ht h k v hm hx hy fun w' h1 h2 h3 => hK' _ _ (hk w' h1 h2 h3)
/-- 'm[k]' at the operation. -/
theorem wpList_look {ops : Array Oper} {rest : List Oper} {Q : Exit → Act → World → Prop} (hgd : o.guard = none) (c : Bool) (m x : Operand) (ho : o.op = Op.lookup t m x c) (hK : Keys P kt kv) (ht : P.underlying t = some (.map kt e)) {z : Value} (hz : (zeroValue e).run P w = .ok z w) (h : Mp kv enc w b f) (k : K)
    (hm : a.eval m = .map (some b)) (hx : a.eval x = kv k)
    (hk : wpList P ops Q rest (a.put o.dst (if c then .tuple #[((f k).map enc).getD z, .bool (f k).isSome] else ((f k).map enc).getD z)) w) : wpList P ops Q (o :: rest) a w := by
  refine wpList_plain hgd fun K' hK' => ?_
  have hrun := run_look h hK ht hz c k
  unfold Oper.wp
  simp only [execOp, ho, hm, hx, Sem.run_bind, hrun, Result.andThen_ok, Sem.run_pure]
  exact hK' _ _ hk
end
end Go.Proofs.Ythakdjaaknbmpaa.Mp
namespace Go.Proofs.Ythakdjaaknbmpaa.Mp
open Go.RowKit
set_option linter.unusedVariables false
set_option linter.unusedSimpArgs false
set_option linter.unusedSectionVars false

section
variable {K V : Type} [DecidableEq K]
def del : List (K × V) → K → List (K × V)
  | [], _ => []
  | p :: ms, k => if k = p.1 then ms else p :: del ms k
def ks (ms : List (K × V)) : List K := ms.map (·.1)
theorem look_none (k : K) : ∀ ms : List (K × V), k ∉ ks ms → look ms k = none
  | [], _ => rfl
  | p :: ms, h => by
    simp only [ks, List.map_cons, List.mem_cons, not_or] at h
    unfold look
    rw [if_neg h.1]
    exact look_none k ms h.2
theorem del_sub (k : K) : ∀ ms : List (K × V), (del ms k).Sublist ms
  | [] => .slnil
  | p :: ms => by
    unfold del
    split
    · exact List.sublist_cons_self _ _
    · exact (del_sub k ms).cons_cons _
theorem del_nodup (k : K) {ms : List (K × V)} (h : (ks ms).Nodup) : (ks (del ms k)).Nodup :=
  h.sublist ((del_sub k ms).map _)
theorem look_del (k k' : K) : ∀ ms : List (K × V), (ks ms).Nodup → look (del ms k) k' = if k' = k then none else look ms k'
  | [], _ => by simp [del, look]
  | p :: ms, h => by
    simp only [ks, List.map_cons, List.nodup_cons] at h
    unfold del
    by_cases h1 : k = p.1
    · rw [if_pos h1]
      by_cases h2 : k' = k
      · rw [if_pos h2, h2, h1]
        exact look_none _ ms h.1
      · rw [if_neg h2]
        conv => rhs; unfold look
        rw [if_neg (fun e => h2 (e.trans h1.symm))]
    · rw [if_neg h1]
      simp only [look]
      rw [look_del k k' ms h.2]
      by_cases h2 : k' = p.1
      · rw [if_pos h2, if_pos h2, if_neg (fun e => h1 (e.symm.trans h2))]
      · rw [if_neg h2, if_neg h2]
theorem upd_ks (k : K) (v : V) (x : K) : ∀ ms : List (K × V), x ∈ ks (upd ms k v) ↔ x = k ∨ x ∈ ks ms
  | [] => by simp [upd, ks]
  | p :: ms => by
    unfold upd
    by_cases h : k = p.1
    · rw [if_pos h]
      simp only [ks, List.map_cons, List.mem_cons]
      rw [← h]
      exact ⟨fun h => h.elim .inl fun h => .inr (.inr h), fun h => h.elim .inl id⟩
    · rw [if_neg h]
      have ih := upd_ks k v x ms
      simp only [ks, List.map_cons, List.mem_cons] at ih ⊢
      rw [ih]
      exact ⟨fun h => h.elim (fun h => .inr (.inl h)) fun h => h.elim .inl fun h => .inr (.inr h), fun h => h.elim (fun h => .inr (.inl h)) fun h => h.elim .inl fun h => .inr (.inr h)⟩
theorem upd_nodup (k : K) (v : V) : ∀ ms : List (K × V), (ks ms).Nodup → (ks (upd ms k v)).Nodup
  | [], _ => by simp [upd, ks]
  | p :: ms, h => by
    have h' := h
    simp only [ks, List.map_cons, List.nodup_cons] at h
    unfold upd
    by_cases h1 : k = p.1
    · rw [if_pos h1]
      simp only [ks, List.map_cons, List.nodup_cons]
      rw [h1]
      exact h
    · rw [if_neg h1]
      simp only [ks, List.map_cons, List.nodup_cons]
      refine ⟨fun hm => ?_, upd_nodup k v ms h.2⟩
      rcases (upd_ks k v p.1 ms).1 hm with e | e
      · exact h1 e.symm
      · exact h.1 e
theorem del_none (k : K) : ∀ (ms : List (K × V)) (i : Nat), fnd k ms i = none → del ms k = ms
  | [], _, _ => rfl
  | p :: ms, i, h => by
    unfold fnd at h
    split at h
    · cases h
    · rename_i hn
      unfold del
      rw [if_neg hn, del_none k ms (i + 1) h]
variable (kv : K → Value) (enc : V → Value)
theorem del_some (k : K) : ∀ (ms : List (K × V)) (es : List MapEntry) (j i : Nat) (u : V), es.map ge = ms.map (gm kv enc) → fnd k ms j = some (i + j, u) →
    (es.eraseIdx i).map ge = (del ms k).map (gm kv enc) ∧ i < es.length
  | [], _, _, _, _, _, h => by cases h
  | p :: ms, [], _, _, _, h, _ => by simp at h
  | p :: ms, e :: es, j, i, u, h, hf => by
    simp only [List.map_cons, List.cons.injEq] at h
    unfold fnd at hf
    unfold del
    split at hf
    · rename_i he
      simp only [Option.some.injEq, Prod.mk.injEq] at hf
      obtain rfl : i = 0 := by omega
      rw [if_pos he]
      exact ⟨by simpa using h.2, by simp⟩
    · rename_i he
      have hge := fnd_ge k ms (j + 1) _ hf
      obtain ⟨i', rfl⟩ : ∃ i', i = i' + 1 := ⟨i - 1, by simp at hge; omega⟩
      have ih := del_some k ms es (j + 1) i' u h.2 (by rw [hf]; congr 2; omega)
      rw [if_neg he]
      exact ⟨by simp [h.1, ih.1], by simpa using ih.2⟩
end

section
variable {P : Program} {kt t e : TypeId} {K V : Type} [DecidableEq K] {kv : K → Value} {enc : V → Value} {w w' : World} {b : Nat} {ms : List (K × V)}
/-- Block b is a map whose entries are ms, each key once. -/
def Mq (kv : K → Value) (enc : V → Value) (w : World) (b : Nat) (ms : List (K × V)) : Prop :=
  (∃ es clock, w.heap[b]? = some (.map es clock) ∧ es.toList.map ge = ms.map (gm kv enc)) ∧ (ks ms).Nodup
theorem Mq.mp (h : Mq kv enc w b ms) : Mp kv enc w b (look ms) := by
  obtain ⟨⟨es, c, h1, h2⟩, h3⟩ := h
  exact ⟨es, c, ms, h1, h2, fun _ => rfl⟩
theorem Mq.lt (h : Mq kv enc w b ms) : b < w.heap.size := h.mp.lt
theorem Mq.keep (h : Mq kv enc w b ms) (hk : w'.heap[b]? = w.heap[b]?) : Mq kv enc w' b ms := by
  obtain ⟨⟨es, c, h1, h2⟩, h3⟩ := h
  exact ⟨⟨es, c, hk.trans h1, h2⟩, h3⟩
theorem Mq.new (kv : K → Value) (enc : V → Value) (h : w.heap[b]? = some (.map #[] 0)) : Mq kv enc w b [] :=
  ⟨⟨#[], 0, h, rfl⟩, List.nodup_nil⟩
theorem grownSet {es : Array MapEntry} {c : Nat} (hb : w.heap[b]? = some (.map es c)) (o : Obj) : w.grownBy (ChangeMaps.setBlock w b o) (some b) :=
  ⟨rfl, rfl, rfl, by simp [ChangeMaps.setBlock], fun i _ hi => ChangeMaps.heap_setBlock_other hb o (fun e => hi (by rw [e]))⟩
/-- 'm[k] = v'. -/
theorem Mq.upd (h : Mq kv enc w b ms) (hK : Keys P kt kv) (ht : P.underlying t = some (.map kt e)) (k : K) (v : V) :
    ∃ w', (Instr.mapUpdate t (.map (some b)) (kv k) (enc v)).run P w = .ok () w' ∧ Mq kv enc w' b (upd ms k v) ∧ w.grownBy w' (some b) ∧ w'.heap.size = w.heap.size := by
  obtain ⟨⟨es, clock, hb, hes⟩, hnd⟩ := h
  have h1 := hK.find w k enc es.toList ms hes
  have hsz : ∀ o : Obj, (ChangeMaps.setBlock w b o).heap.size = w.heap.size := fun o => by simp [ChangeMaps.setBlock]
  cases hfn : fnd k ms 0 with
  | none =>
    rw [hfn] at h1
    refine ⟨ChangeMaps.setBlock w b (.map (es.push { key := kv k, val := enc v, born := clock }) (clock + 1)), ?_, ⟨⟨_, _, ChangeMaps.heap_setBlock_same hb _, ?_⟩, upd_nodup k v ms hnd⟩, grownSet hb _, hsz _⟩
    · simp [Instr.mapUpdate, run_underlying ht, MapKept.run_getObj_map hb, MapKept.run_setObj_map _ hb, hK.check w _ k, h1, Result.andThen, ChangeMaps.setBlock]
    · rw [upd_none k v ms 0 hfn]
      simp [hes, ge, gm]
  | some q =>
    rw [hfn] at h1
    obtain ⟨hm, hk⟩ := upd_some kv enc k v ms es.toList 0 q.1 q.2 hes hfn
    refine ⟨ChangeMaps.setBlock w b (.map (es.modify q.1 fun e => { e with key := kv k, val := enc v }) clock), ?_, ⟨⟨_, _, ChangeMaps.heap_setBlock_same hb _, ?_⟩, upd_nodup k v ms hnd⟩, grownSet hb _, hsz _⟩
    · have hk' : ((es[q.1]?).map (·.key)).getD (kv k) = kv k := by
        rw [Array.getElem?_toList] at hk
        rw [hk]
        rfl
      simp [Instr.mapUpdate, run_underlying ht, MapKept.run_getObj_map hb, MapKept.run_setObj_map _ hb, hK.check w _ k, h1, Result.andThen, ChangeMaps.setBlock, hk', hK.stays w k]
    · rw [Array.toList_modify]
      exact hm
/-- 'delete(m, k)'. -/
theorem Mq.del (h : Mq kv enc w b ms) (hK : Keys P kt kv) (ht : P.underlying t = some (.map kt e)) (k : K) (ty : TypeId) :
    ∃ w', (Builtin.delete_ #[t, kt] ty #[.map (some b), kv k]).run P w = .ok (.tuple #[]) w' ∧ Mq kv enc w' b (Mp.del ms k) ∧ w.grownBy w' (some b) ∧ w'.heap.size = w.heap.size := by
  obtain ⟨⟨es, clock, hb, hes⟩, hnd⟩ := h
  have h1 := hK.find w k enc es.toList ms hes
  have hsz : ∀ o : Obj, (ChangeMaps.setBlock w b o).heap.size = w.heap.size := fun o => by simp [ChangeMaps.setBlock]
  cases hfn : fnd k ms 0 with
  | none =>
    rw [hfn] at h1
    refine ⟨ChangeMaps.setBlock w b (.map es clock), ?_, ⟨⟨_, _, ChangeMaps.heap_setBlock_same hb _, ?_⟩, del_nodup k hnd⟩, grownSet hb _, hsz _⟩
    · simp [Builtin.delete_, run_underlying ht, MapKept.run_getObj_map hb, MapKept.run_setObj_map _ hb, hK.check w _ k, h1, Result.andThen, ChangeMaps.setBlock]
    · rw [del_none k ms 0 hfn]
      exact hes
  | some q =>
    rw [hfn] at h1
    obtain ⟨hm, hl⟩ := del_some kv enc k ms es.toList 0 q.1 q.2 hes hfn
    refine ⟨ChangeMaps.setBlock w b (.map (es.eraseIdxIfInBounds q.1) clock), ?_, ⟨⟨_, _, ChangeMaps.heap_setBlock_same hb _, ?_⟩, del_nodup k hnd⟩, grownSet hb _, hsz _⟩
    · simp [Builtin.delete_, run_underlying ht, MapKept.run_getObj_map hb, MapKept.run_setObj_map _ hb, hK.check w _ k, h1, Result.andThen, ChangeMaps.setBlock]
    · have hjs : q.1 < es.size := by simpa using hl
      have hsub : (es.eraseIdxIfInBounds q.1).toList = es.toList.eraseIdx q.1 := by
        unfold Array.eraseIdxIfInBounds
        rw [dif_pos hjs]
        simp
      rw [hsub]
      exact hm
/-- 'clear(m)'. -/
theorem Mq.clear (h : Mq kv enc w b ms) (ht : P.underlying t = some (.map kt e)) (ty : TypeId) :
    ∃ w', (Builtin.clear_ #[t] ty #[.map (some b)]).run P w = .ok (.tuple #[]) w' ∧ Mq kv enc w' b [] ∧ w.grownBy w' (some b) ∧ w'.heap.size = w.heap.size := by
  obtain ⟨⟨es, clock, hb, hes⟩, hnd⟩ := h
  refine ⟨ChangeMaps.setBlock w b (.map #[] clock), ?_, ⟨⟨_, _, ChangeMaps.heap_setBlock_same hb _, rfl⟩, List.nodup_nil⟩, grownSet hb _, by simp [ChangeMaps.setBlock]⟩
  simp [Builtin.clear_, run_underlying ht, MapKept.run_getObj_map hb, MapKept.run_setObj_map _ hb, Result.andThen, ChangeMaps.setBlock]
/-- 'len(m)'. -/
theorem Mq.len (h : Mq kv enc w b ms) (ht : P.underlying t = some (.map kt e)) (ty : TypeId) : (Builtin.len_ #[t] ty #[.map (some b)]).run P w = .ok (.int .i64 ms.length) w := by
  obtain ⟨⟨es, clock, hb, hes⟩, hnd⟩ := h
  have hl := congrArg List.length hes
  simp only [List.length_map, Array.length_toList] at hl
  simp [Builtin.len_, run_underlying ht, MapKept.run_getObj_map hb, Result.andThen, goInt, hl]
end
section
variable {P : Program} {kt t e : TypeId} {K V : Type} [DecidableEq K] {kv : K → Value} {enc : V → Value} {w : World} {b : Nat} {ms : List (K × V)} {o : Oper} {a : Act} {ops : Array Oper} {rest : List Oper} {Q : Exit → Act → World → Prop}
theorem wpList_store (hgd : o.guard = none) (m x y : Operand) (ho : o.op = Op.mapUpdate t m x y) (hK : Keys P kt kv) (ht : P.underlying t = some (.map kt e)) (h : Mq kv enc w b ms) (k : K) (v : V)
    (hm : a.eval m = .map (some b)) (hx : a.eval x = kv k) (hy : a.eval y = enc v)
    (hk : ∀ w', Mq kv enc w' b (upd ms k v) → w.grownBy w' (some b) → w'.heap.size = w.heap.size → wpList P ops Q rest (a.put o.dst undef) w') : wpList P ops Q (o :: rest) a w := by
  refine wpList_plain hgd fun K' hK' => ?_
  obtain ⟨w', hrun, h1, h2, h3⟩ := h.upd hK ht k v
  unfold Oper.wp
  simp [execOp, ho, hm, hx, hy, hrun, Result.andThen]
  exact hK' _ _ (hk w' h1 h2 h3)
theorem wpList_delete (hgd : o.guard = none) (m x : Operand) (ho : o.op = Op.call { callee := Callee.builtin Builtin.delete, args := #[m, x], argTypes := #[t, kt] }) (hK : Keys P kt kv) (ht : P.underlying t = some (.map kt e)) (h : Mq kv enc w b ms) (k : K)
    (hm : a.eval m = .map (some b)) (hx : a.eval x = kv k)
    (hk : ∀ w', Mq kv enc w' b (del ms k) → w.grownBy w' (some b) → w'.heap.size = w.heap.size → wpList P ops Q rest (a.put o.dst (.tuple #[])) w') : wpList P ops Q (o :: rest) a w := by
  refine wpList_plain hgd fun K' hK' => ?_
  obtain ⟨w', hrun, h1, h2, h3⟩ := h.del hK ht k o.type
  unfold Oper.wp
  simp [execOp, ho, resolve, invoke, builtin, hm, hx, hrun, Result.andThen]
  exact hK' _ _ (hk w' h1 h2 h3)
theorem wpList_clear (hgd : o.guard = none) (m : Operand) (ho : o.op = Op.call { callee := Callee.builtin Builtin.clear, args := #[m], argTypes := #[t] }) (ht : P.underlying t = some (.map kt e)) (h : Mq kv enc w b ms)
    (hm : a.eval m = .map (some b))
    (hk : ∀ w', Mq kv enc w' b [] → w.grownBy w' (some b) → w'.heap.size = w.heap.size → wpList P ops Q rest (a.put o.dst (.tuple #[])) w') : wpList P ops Q (o :: rest) a w := by
  refine wpList_plain hgd fun K' hK' => ?_
  obtain ⟨w', hrun, h1, h2, h3⟩ := h.clear ht o.type
  unfold Oper.wp
  simp [execOp, ho, resolve, invoke, builtin, hm, hrun, Result.andThen]
  exact hK' _ _ (hk w' h1 h2 h3)
theorem wpList_len (hgd : o.guard = none) (m : Operand) (ho : o.op = Op.call { callee := Callee.builtin Builtin.len, args := #[m], argTypes := #[t] }) (ht : P.underlying t = some (.map kt e)) (h : Mq kv enc w b ms)
    (hm : a.eval m = .map (some b)) (hk : wpList P ops Q rest (a.put o.dst (.int .i64 ms.length)) w) : wpList P ops Q (o :: rest) a w := by
  refine wpList_plain hgd fun K' hK' => ?_
  have hrun : (Builtin.len_ #[t] o.type #[.map (some b)]).run P w = .ok (.int .i64 ms.length) w := h.len ht o.type
  unfold Oper.wp
  simp [execOp, ho, resolve, invoke, builtin, hm, hrun, Result.andThen]
  exact hK' _ _ hk
end
end Go.Proofs.Ythakdjaaknbmpaa.Mp
