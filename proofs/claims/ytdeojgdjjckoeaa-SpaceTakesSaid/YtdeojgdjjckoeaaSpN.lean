/-
  A space on lists: what stays good; how many are free.
-/
import Derived.Test.YtdeojgdjjckoeaaSpL
namespace Go.Proofs.Ytdeojgdjjckoeaa.S15
open Cf
open Go.RowKit
set_option linter.unusedVariables false
set_option linter.unusedSimpArgs false

def spNew (f l : Int) : Sp := ⟨f, l, [], []⟩
/-- All is as it should be. -/
structure SpOk (s : Sp) : Prop where
  ord : s.used.Pairwise (· < ·)
  ur : ∀ x ∈ s.used, s.first ≤ x ∧ x < s.last
  gn : s.going.Nodup
  gr : ∀ x ∈ s.going, s.first ≤ x ∧ x < s.last
  dis : ∀ x ∈ s.going, x ∉ s.used
  f0 : 0 ≤ s.first
  fl : s.first < s.last
  l1 : s.last ≤ 65536
theorem spOk_new (f l : Int) (h0 : 0 ≤ f) (h1 : f < l) (h2 : l ≤ 65536) : SpOk (spNew f l) :=
  ⟨List.Pairwise.nil, fun x hx => by simp [spNew] at hx, List.Pairwise.nil, fun x hx => by simp [spNew] at hx, fun x hx => by simp [spNew] at hx, h0, h1, h2⟩
theorem mem_wo {l : List Int} {n x : Int} : x ∈ wo l n ↔ x ∈ l ∧ x ≠ n := by simp [wo]
theorem ord_wo {l : List Int} (h : l.Pairwise (· < ·)) (n : Int) : (wo l n).Pairwise (· < ·) := h.filter _
theorem lo_drop (l : List Int) (n : Int) : l.drop (lo l n).length = l.dropWhile fun x => decide (x < n) := by
  unfold lo
  induction l with
  | nil => rfl
  | cons a l ih =>
    rw [List.takeWhile_cons, List.dropWhile_cons]
    by_cases h : a < n
    · simp [h, ih]
    · simp [h]
theorem mem_ins {l : List Int} {n x : Int} : x ∈ ins l n ↔ x = n ∨ x ∈ l := by
  unfold ins
  rw [lo_drop]
  have h : x ∈ l ↔ x ∈ lo l n ∨ x ∈ l.dropWhile fun x => decide (x < n) := by
    rw [← List.mem_append]
    unfold lo
    rw [List.takeWhile_append_dropWhile]
  rw [List.mem_append, List.mem_cons, h]
  constructor
  · rintro (h1 | h1 | h1)
    · exact .inr (.inl h1)
    · exact .inl h1
    · exact .inr (.inr h1)
  · rintro (h1 | h1 | h1)
    · exact .inr (.inl h1)
    · exact .inl h1
    · exact .inr (.inr h1)
theorem lo_lt {l : List Int} {n x : Int} (h : x ∈ lo l n) : x < n := by
  have h2 := List.all_takeWhile (l := l) (p := fun x => decide (x < n))
  rw [List.all_eq_true] at h2
  exact of_decide_eq_true (h2 x h)
theorem hi_gt {l : List Int} (ho : l.Pairwise (· < ·)) {n x : Int} (hn : n ∉ l) (h : x ∈ l.dropWhile fun x => decide (x < n)) : n < x := by
  induction l with
  | nil => simp at h
  | cons a l ih =>
    rw [List.pairwise_cons] at ho
    rw [List.dropWhile_cons] at h
    by_cases ha : a < n
    · rw [if_pos (by simpa using ha)] at h
      exact ih ho.2 (fun e => hn (by simp [e])) h
    · rw [if_neg (by simpa using ha)] at h
      have hna : n < a := by
        have : a ≠ n := fun e => hn (by simp [e])
        omega
      rcases List.mem_cons.1 h with rfl | h1
      · exact hna
      · have := ho.1 x h1; omega
theorem ord_ins {l : List Int} (h : l.Pairwise (· < ·)) {n : Int} (hn : n ∉ l) : (ins l n).Pairwise (· < ·) := by
  unfold ins
  rw [lo_drop]
  refine List.pairwise_append.2 ⟨?_, ?_, ?_⟩
  · exact h.sublist (List.takeWhile_sublist _)
  · exact List.pairwise_cons.2 ⟨fun x hx => hi_gt h hn hx, h.sublist (List.dropWhile_sublist _)⟩
  · intro a ha b hb
    have h1 := lo_lt ha
    rcases List.mem_cons.1 hb with rfl | hb
    · exact h1
    · have := hi_gt h hn hb; omega
/-- Two rows in order that hold the same are the same. -/
theorem ord_ext {a b : List Int} (ha : a.Pairwise (· < ·)) (hb : b.Pairwise (· < ·)) (h : ∀ x, x ∈ a ↔ x ∈ b) : a = b := by
  induction a generalizing b with
  | nil =>
    cases b with
    | nil => rfl
    | cons y b => exact absurd ((h y).2 (by simp)) (by simp)
  | cons x a ih =>
    cases b with
    | nil => exact absurd ((h x).1 (by simp)) (by simp)
    | cons y b =>
      rw [List.pairwise_cons] at ha hb
      have hxy : x = y := by
        rcases List.mem_cons.1 ((h x).1 (by simp)) with e | e
        · exact e
        · rcases List.mem_cons.1 ((h y).2 (by simp)) with e2 | e2
          · exact e2.symm
          · have h1 := hb.1 x e; have h2 := ha.1 y e2; omega
      subst hxy
      rw [ih ha.2 hb.2 fun z => ?_]
      constructor
      · intro hz
        rcases List.mem_cons.1 ((h z).1 (by simp [hz])) with e | e
        · have := ha.1 z hz; omega
        · exact e
      · intro hz
        rcases List.mem_cons.1 ((h z).2 (by simp [hz])) with e | e
        · have := hb.1 z hz; omega
        · exact e
theorem mem_wof {l u : List Int} {x : Int} : x ∈ l.foldl wo u ↔ x ∈ u ∧ x ∉ l := by
  induction l generalizing u with
  | nil => simp
  | cons a l ih =>
    rw [List.foldl_cons, ih, mem_wo, List.mem_cons]
    constructor
    · rintro ⟨⟨h1, h2⟩, h3⟩; exact ⟨h1, fun h => h.elim h2 h3⟩
    · rintro ⟨h1, h2⟩; exact ⟨⟨h1, fun h => h2 (.inl h)⟩, fun h => h2 (.inr h)⟩
theorem ord_wof {l u : List Int} (h : u.Pairwise (· < ·)) : (l.foldl wo u).Pairwise (· < ·) := by
  induction l generalizing u with
  | nil => exact h
  | cons a l ih => exact ih (ord_wo h a)
theorem mem_insf {l u : List Int} {x : Int} : x ∈ l.foldl ins u ↔ x ∈ u ∨ x ∈ l := by
  induction l generalizing u with
  | nil => simp
  | cons a l ih =>
    rw [List.foldl_cons, ih, mem_ins, List.mem_cons]
    constructor
    · rintro ((h | h) | h)
      · exact .inr (.inl h)
      · exact .inl h
      · exact .inr (.inr h)
    · rintro (h | h | h)
      · exact .inl (.inr h)
      · exact .inl (.inl h)
      · exact .inr h
theorem ord_insf {l u : List Int} (h : u.Pairwise (· < ·)) (hn : l.Nodup) (hd : ∀ x ∈ l, x ∉ u) : (l.foldl ins u).Pairwise (· < ·) := by
  induction l generalizing u with
  | nil => exact h
  | cons a l ih =>
    rw [List.nodup_cons] at hn
    refine ih (ord_ins h (hd a (by simp))) hn.2 fun x hx hm => ?_
    rcases mem_ins.1 hm with e | e
    · exact hn.1 (e ▸ hx)
    · exact hd x (by simp [hx]) e
theorem tw_nodup (l : List Int) (k : Nat) (hk : k ≤ l.length) (h : tw l k = false) : (l.take k).Nodup := by
  induction k with
  | zero => simp
  | succ k ih =>
    unfold tw at h
    rw [Bool.or_eq_false_iff] at h
    rw [List.take_succ_eq_append_getElem hk, List.nodup_append]
    refine ⟨ih (by omega) h.1, by simp, fun a ha b hb e => ?_⟩
    simp only [List.mem_singleton] at hb
    have h2 := h.2
    rw [List.getD_eq_getElem?_getD, List.getElem?_eq_getElem hk] at h2
    simp only [Option.getD_some] at h2
    have : (l.take k).contains l[k] = true := by
      rw [List.contains_iff_mem, ← hb, ← e]; exact ha
    rw [h2] at this
    cases this
theorem twice_nodup {l : List Int} (h : twice l = false) : l.Nodup := by
  have := tw_nodup l l.length (Nat.le_refl _) h
  rwa [List.take_length] at this
theorem isFree_iff {s : Sp} {n : Int} : isFree s n = true ↔ (s.first ≤ n ∧ n < s.last) ∧ n ∉ s.used ∧ n ∉ s.going := by
  unfold isFree
  simp only [Bool.and_eq_true, decide_eq_true_eq, Bool.not_eq_true', List.contains_eq_mem, decide_eq_false_iff_not]
  constructor
  · rintro ⟨⟨⟨h1, h2⟩, h3⟩, h4⟩; exact ⟨⟨h1, h2⟩, h3, h4⟩
  · rintro ⟨⟨h1, h2⟩, h3, h4⟩; exact ⟨⟨⟨h1, h2⟩, h3⟩, h4⟩
theorem least_some {s : Sp} {n : Int} : ∀ (k i : Nat), least s i k = some n → isFree s n = true
  | 0, i, h => by simp [least] at h
  | k + 1, i, h => by
    unfold least at h
    split at h
    · rename_i hf
      simp only [Option.some.injEq] at h
      rw [← h]; exact hf
    · exact least_some k (i + 1) h
theorem least_none {s : Sp} : ∀ (k i : Nat), least s i k = none → ∀ j, j < k → isFree s (s.first + ((i + j : Nat) : Int)) = false
  | 0, i, h, j, hj => by omega
  | k + 1, i, h, j, hj => by
    unfold least at h
    split at h
    · cases h
    · rename_i hf
      cases j with
      | zero => simpa using hf
      | succ j =>
        have := least_none k (i + 1) h j (by omega)
        rw [show i + 1 + j = i + (j + 1) by omega] at this
        exact this
section
variable {s : Sp}
theorem SpOk.ins1 (h : SpOk s) {n : Int} (hf : isFree s n = true) : SpOk { s with used := ins s.used n } := by
  obtain ⟨hr, hu, hg⟩ := isFree_iff.1 hf
  refine { h with ord := ord_ins h.ord hu, ur := fun x hx => ?_, dis := fun x hx hm => ?_ }
  · rcases mem_ins.1 hx with rfl | hx
    · exact hr
    · exact h.ur x hx
  · rcases mem_ins.1 hm with rfl | hm
    · exact hg hx
    · exact h.dis x hx hm
theorem ok_take (h : SpOk s) : SpOk (spTake s).2.2 := by
  unfold spTake
  split
  · rename_i n hn
    exact h.ins1 (least_some _ _ hn)
  · exact h
theorem ok_use (h : SpOk s) (l : List Int) : SpOk (spUse s l).2 := by
  unfold spUse
  split
  · rename_i hc
    rw [Bool.and_eq_true, Bool.not_eq_true', List.all_eq_true] at hc
    have hf := fun x hx => isFree_iff.1 (hc.1 x hx)
    refine { h with ord := ord_insf h.ord (twice_nodup hc.2) (fun x hx => (hf x hx).2.1), ur := fun x hx => ?_, dis := fun x hx hm => ?_ }
    · rcases mem_insf.1 hx with hx | hx
      · exact h.ur x hx
      · exact (hf x hx).1
    · rcases mem_insf.1 hm with hm | hm
      · exact h.dis x hx hm
      · exact (hf x hm).2.2 hx
  · exact h
theorem ok_give (h : SpOk s) (l : List Int) : SpOk (spGive s l).2 := by
  unfold spGive
  split
  · rename_i hc
    rw [Bool.and_eq_true, Bool.not_eq_true', List.all_eq_true] at hc
    have hm : ∀ x ∈ l, x ∈ s.used := fun x hx => by have := hc.1 x hx; simpa using this
    refine { h with ord := ord_wof h.ord, ur := fun x hx => h.ur x (mem_wof.1 hx).1, gn := ?_, gr := fun x hx => ?_, dis := fun x hx hu => ?_ }
    · refine List.nodup_append.2 ⟨h.gn, twice_nodup hc.2, fun a ha b hb e => ?_⟩
      exact h.dis a ha (e ▸ hm b hb)
    · rcases List.mem_append.1 hx with hx | hx
      · exact h.gr x hx
      · exact h.ur x (hm x hx)
    · have h2 := mem_wof.1 hu
      rcases List.mem_append.1 hx with hx | hx
      · exact h.dis x hx h2.1
      · exact h2.2 hx
  · exact h
theorem ok_back (h : SpOk s) (l : List Int) : SpOk (spBack s l).2 := by
  unfold spBack
  split
  · exact { h with ord := ord_wof h.ord, ur := fun x hx => h.ur x (mem_wof.1 hx).1, dis := fun x hx hu => h.dis x hx (mem_wof.1 hu).1 }
  · exact h
theorem ok_settle (h : SpOk s) : SpOk (spSettle s) :=
  { h with gn := List.Pairwise.nil, gr := fun x hx => by simp [spSettle] at hx, dis := fun x hx => by simp [spSettle] at hx }
theorem ok_undo (h : SpOk s) (l : List Int) : SpOk (spUndo s l) := by
  refine { h with ord := ord_insf (ord_wof h.ord) h.gn (fun x hx hm => h.dis x hx (mem_wof.1 hm).1), ur := fun x hx => ?_, gn := List.Pairwise.nil, gr := fun x hx => by simp [spUndo] at hx, dis := fun x hx => by simp [spUndo] at hx }
  rcases mem_insf.1 hx with hx | hx
  · exact h.ur x (mem_wof.1 hx).1
  · exact h.gr x hx
theorem pigeonZ {α : Type} [DecidableEq α] (f : Nat → α) (i : Nat) : ∀ (ys : List α), (∀ j k, j < i → k < i → f j = f k → j = k) → (∀ j, j < i → f j ∈ ys) → i ≤ ys.length := by
  induction i with
  | zero => intro ys _ _; omega
  | succ i ih =>
    intro ys hinj hmem
    have hm := hmem i (by omega)
    have := ih (ys.erase (f i)) (fun j k hj hk e => hinj j k (by omega) (by omega) e) (fun j hj => by
      refine (List.mem_erase_of_ne ?_).2 (hmem j (by omega))
      intro e
      have := hinj j i (by omega) (by omega) e
      omega)
    rw [List.length_erase_of_mem hm] at this
    have := List.length_pos_of_mem hm
    omega
theorem nodup_all (h : SpOk s) : (s.used ++ s.going).Nodup :=
  List.nodup_append.2 ⟨h.ord.imp (fun hab => by omega), h.gn, fun a ha b hb e => h.dis b hb (e ▸ ha)⟩
/-- A nodup row within the range is no longer than it. -/
theorem within (f l : Int) (xs : List Int) (hn : xs.Nodup) (hr : ∀ x ∈ xs, f ≤ x ∧ x < l) : (xs.length : Int) ≤ max 0 (l - f) := by
  have h := pigeonZ (fun j => xs.getD j 0) xs.length ((List.range (l - f).toNat).map fun (j : Nat) => f + (j : Int)) (fun j k hj hk e => by
    simp only [List.getD_eq_getElem?_getD, List.getElem?_eq_getElem hj, List.getElem?_eq_getElem hk, Option.getD_some] at e
    rcases Nat.lt_trichotomy j k with h1 | h1 | h1
    · exact absurd e ((List.pairwise_iff_getElem.1 hn) j k hj hk h1)
    · exact h1
    · exact absurd e.symm ((List.pairwise_iff_getElem.1 hn) k j hk hj h1)) (fun j hj => by
    simp only [List.getD_eq_getElem?_getD, List.getElem?_eq_getElem hj, Option.getD_some]
    have := hr xs[j] (List.getElem_mem hj)
    exact List.mem_map.2 ⟨(xs[j] - f).toNat, List.mem_range.2 (by omega), by omega⟩)
  rw [List.length_map, List.length_range] at h
  omega
theorem free_nonneg (h : SpOk s) : 0 ≤ spFree s := by
  have := within s.first s.last (s.used ++ s.going) (nodup_all h) (fun x hx => by
    rcases List.mem_append.1 hx with hx | hx
    · exact h.ur x hx
    · exact h.gr x hx)
  rw [List.length_append] at this
  have := h.fl
  unfold spFree
  omega
theorem take_free (h : SpOk s) (hf : 0 < spFree s) : (spTake s).2.1 = 0 ∧ ∃ n, (spTake s).1 = n ∧ isFree s n = true ∧ (spTake s).2.2 = { s with used := ins s.used n } := by
  unfold spTake
  cases hl : least s 0 (s.last - s.first).toNat with
  | some n => exact ⟨rfl, n, rfl, least_some _ _ hl, rfl⟩
  | none =>
    have h1 := least_none _ _ hl
    have h2 := pigeonZ (fun (j : Nat) => s.first + (j : Int)) (s.last - s.first).toNat (s.used ++ s.going) (fun j k _ _ e => by omega) (fun j hj => by
      have h3 := h1 j hj
      rw [Nat.zero_add] at h3
      refine Classical.byContradiction fun hn => ?_
      rw [List.mem_append] at hn
      have : isFree s (s.first + (j : Int)) = true := isFree_iff.2 ⟨⟨by omega, by omega⟩, fun e => hn (.inl e), fun e => hn (.inr e)⟩
      rw [this] at h3
      cases h3)
    rw [List.length_append] at h2
    unfold spFree at hf
    omega
theorem take_full (h : SpOk s) (hf : spFree s = 0) : spTake s = (0, 12, s) := by
  unfold spTake
  cases hl : least s 0 (s.last - s.first).toNat with
  | none => rfl
  | some n =>
    have h2 := free_nonneg (h.ins1 (least_some _ _ hl))
    unfold spFree at h2 hf
    simp only [ins_len] at h2
    omega
theorem free_ins {n : Int} : spFree { s with used := ins s.used n } = spFree s - 1 := by
  unfold spFree
  simp only [ins_len]
  omega
theorem foldwo_len {l : List Int} : ∀ {u : List Int}, u.Nodup → l.Nodup → (∀ x ∈ l, x ∈ u) → (l.foldl wo u).length + l.length = u.length := by
  induction l with
  | nil => intro u _ _ _; simp
  | cons a l ih =>
    intro u hu hl hm
    rw [List.nodup_cons] at hl
    have h1 : (wo u a).length + 1 = u.length := by
      have ha := hm a (by simp)
      clear ih hm
      induction u with
      | nil => simp at ha
      | cons b u ih =>
        rw [List.nodup_cons] at hu
        unfold wo
        rw [List.filter_cons]
        by_cases hb : b = a
        · subst hb
          rw [if_neg (by simp)]
          have : u.filter (fun x => decide (x ≠ b)) = u := List.filter_eq_self.2 fun x hx => decide_eq_true fun e => hu.1 (e ▸ hx)
          rw [this]; simp
        · rw [if_pos (by simpa using hb)]
          have ha2 : a ∈ u := by rcases List.mem_cons.1 ha with e | e; exact absurd e.symm hb; exact e
          have := ih hu.2 ha2
          unfold wo at this
          rw [List.length_cons, List.length_cons]
          omega
    have := ih (u := wo u a) (hu.filter _) hl.2 (fun x hx => mem_wo.2 ⟨hm x (by simp [hx]), fun e => hl.1 (e ▸ hx)⟩)
    rw [List.foldl_cons, List.length_cons]
    omega
theorem free_give (h : SpOk s) (l : List Int) : spFree (spGive s l).2 = spFree s := by
  unfold spGive
  split
  · rename_i hc
    rw [Bool.and_eq_true, Bool.not_eq_true', List.all_eq_true] at hc
    have := foldwo_len (u := s.used) (h.ord.imp (fun hab => by omega)) (twice_nodup hc.2) (fun x hx => by have := hc.1 x hx; simpa using this)
    unfold spFree
    simp only [List.length_append]
    omega
  · rfl
end
end Go.Proofs.Ytdeojgdjjckoeaa.S15
