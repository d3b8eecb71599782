/-
  A space as a row of states, on lists: what the calls make of it.
-/
import Derived.Test.YtdeojgdjjckoeaaSpN
namespace Go.Proofs.Ytdeojgdjjckoeaa.S15
open Cf
open Go.RowKit
set_option linter.unusedVariables false
set_option linter.unusedSimpArgs false
/-- What a sector is: 0 free, 1 used, 2 released. -/
def sta (s : Sp) (n : Int) : Int := if n ∈ s.used then 1 else if n ∈ s.going then 2 else 0
def mvd (f : Int → Int) (l : List Int) (v : Int) : Int → Int := fun y => if y ∈ l then v else f y
def upd1 (f : Int → Int) (x v : Int) : Int → Int := fun y => if y = x then v else f y
def wid (s : Sp) : Nat := (s.last - s.first).toNat
/-- They are different, and each has this state. -/
def Good (f : Int → Int) (a : Int) (n : Nat) (fr : Int) (l : List Int) : Prop := l.Nodup ∧ ∀ x ∈ l, a ≤ x ∧ x < a + (n : Int) ∧ f x = fr
theorem sta_used {s : Sp} {n : Int} : sta s n = 1 ↔ n ∈ s.used := by unfold sta; split <;> (try split) <;> simp_all
theorem sta_going {s : Sp} (h : SpOk s) {n : Int} : sta s n = 2 ↔ n ∈ s.going := by
  unfold sta
  split
  · rename_i hu
    exact ⟨fun e => by omega, fun hg => absurd hu (h.dis n hg)⟩
  · split <;> simp_all
theorem sta_free {s : Sp} {n : Int} : sta s n = 0 ↔ n ∉ s.used ∧ n ∉ s.going := by unfold sta; split <;> (try split) <;> simp_all
theorem sta_three (s : Sp) (n : Int) : sta s n = 0 ∨ sta s n = 1 ∨ sta s n = 2 := by unfold sta; split <;> (try split) <;> simp
section
variable {s : Sp} {l : List Int}
theorem wid_cast (h : SpOk s) : (wid s : Int) = s.last - s.first := by have := h.fl; unfold wid; omega
theorem nodup_tw (l : List Int) (k : Nat) (hk : k ≤ l.length) (h : l.Nodup) : tw l k = false := by
  induction k with
  | zero => rfl
  | succ k ih =>
    unfold tw
    rw [ih (by omega), Bool.false_or]
    rw [List.getD_eq_getElem?_getD, List.getElem?_eq_getElem (by omega), Option.getD_some]
    rw [Bool.eq_false_iff]
    intro hc
    rw [List.contains_iff_mem] at hc
    obtain ⟨j, hj, e⟩ := List.getElem_of_mem hc
    rw [List.getElem_take] at e
    have hjk : j < k := by rw [List.length_take] at hj; omega
    exact absurd ((List.getElem_inj h).1 e) (by omega)
theorem nodup_twice (h : l.Nodup) : twice l = false := nodup_tw l l.length (Nat.le_refl _) h
theorem twice_iff : twice l = false ↔ l.Nodup := ⟨twice_nodup, nodup_twice⟩
theorem good_use (h : SpOk s) : (l.all (isFree s) && !twice l) = true ↔ Good (sta s) s.first (wid s) 0 l := by
  rw [Bool.and_eq_true, List.all_eq_true, Bool.not_eq_true', twice_iff]
  have hw := wid_cast h
  constructor
  · rintro ⟨h1, h2⟩
    refine ⟨h2, fun x hx => ?_⟩
    obtain ⟨⟨a, b⟩, c⟩ := isFree_iff.1 (h1 x hx)
    exact ⟨a, by omega, sta_free.2 c⟩
  · rintro ⟨h1, h2⟩
    refine ⟨fun x hx => ?_, h1⟩
    obtain ⟨a, b, c⟩ := h2 x hx
    exact isFree_iff.2 ⟨⟨a, by omega⟩, sta_free.1 c⟩
theorem good_give (h : SpOk s) : (l.all (s.used.contains ·) && !twice l) = true ↔ Good (sta s) s.first (wid s) 1 l := by
  rw [Bool.and_eq_true, List.all_eq_true, Bool.not_eq_true', twice_iff]
  have hw := wid_cast h
  constructor
  · rintro ⟨h1, h2⟩
    refine ⟨h2, fun x hx => ?_⟩
    have hu : x ∈ s.used := by have := h1 x hx; rwa [List.contains_iff_mem] at this
    obtain ⟨a, b⟩ := h.ur x hu
    exact ⟨a, by omega, sta_used.2 hu⟩
  · rintro ⟨h1, h2⟩
    refine ⟨fun x hx => ?_, h1⟩
    rw [List.contains_iff_mem]
    exact sta_used.1 (h2 x hx).2.2
theorem use_yes (h : SpOk s) (hg : Good (sta s) s.first (wid s) 0 l) : spUse s l = (0, { s with used := l.foldl ins s.used }) := by unfold spUse; rw [if_pos ((good_use h).2 hg)]
theorem use_no (h : SpOk s) (hg : ¬ Good (sta s) s.first (wid s) 0 l) : spUse s l = (2, s) := by unfold spUse; rw [if_neg (fun e => hg ((good_use h).1 e))]
theorem give_yes (h : SpOk s) (hg : Good (sta s) s.first (wid s) 1 l) : spGive s l = (0, { s with used := l.foldl wo s.used, going := s.going ++ l }) := by unfold spGive; rw [if_pos ((good_give h).2 hg)]
theorem give_no (h : SpOk s) (hg : ¬ Good (sta s) s.first (wid s) 1 l) : spGive s l = (2, s) := by unfold spGive; rw [if_neg (fun e => hg ((good_give h).1 e))]
theorem back_yes (h : SpOk s) (hg : Good (sta s) s.first (wid s) 1 l) : spBack s l = (0, { s with used := l.foldl wo s.used }) := by unfold spBack; rw [if_pos ((good_give h).2 hg)]
theorem back_no (h : SpOk s) (hg : ¬ Good (sta s) s.first (wid s) 1 l) : spBack s l = (2, s) := by unfold spBack; rw [if_neg (fun e => hg ((good_give h).1 e))]
theorem sta_use (y : Int) : sta { s with used := l.foldl ins s.used } y = mvd (sta s) l 1 y := by
  unfold sta mvd
  simp only [mem_insf]
  by_cases h1 : y ∈ l
  · simp [h1]
  · simp [h1, sta]
theorem sta_give (hl : ∀ x ∈ l, x ∈ s.used) (y : Int) : sta { s with used := l.foldl wo s.used, going := s.going ++ l } y = mvd (sta s) l 2 y := by
  unfold sta mvd
  simp only [mem_wof, List.mem_append]
  by_cases h1 : y ∈ l
  · simp [h1]
  · simp [h1, sta]
theorem sta_back (h : SpOk s) (hl : ∀ x ∈ l, x ∈ s.used) (y : Int) : sta { s with used := l.foldl wo s.used } y = mvd (sta s) l 0 y := by
  unfold sta mvd
  simp only [mem_wof]
  by_cases h1 : y ∈ l
  · have : y ∉ s.going := fun hg => h.dis y hg (hl y h1)
    simp [h1, this]
  · simp [h1, sta]
theorem sta_settle (y : Int) : sta (spSettle s) y = if sta s y = 2 then 0 else sta s y := by
  unfold sta spSettle
  by_cases h1 : y ∈ s.used
  · simp [h1]
  · by_cases h2 : y ∈ s.going <;> simp [h1, h2]
/-- Those of l that are used are free. -/
def fre (f : Int → Int) (l : List Int) : Int → Int := fun y => if y ∈ l ∧ f y = 1 then 0 else f y
theorem sta_undo (h : SpOk s) (y : Int) : sta (spUndo s l) y = if fre (sta s) l y = 2 then 1 else fre (sta s) l y := by
  unfold spUndo fre
  have e : sta { s with used := s.going.foldl ins (l.foldl wo s.used), going := [] } y = if (y ∈ s.used ∧ y ∉ l) ∨ y ∈ s.going then 1 else 0 := by
    unfold sta
    simp only [mem_insf, mem_wof, List.not_mem_nil, if_false]
  rw [e]
  by_cases h2 : y ∈ s.going
  · have h3 := (sta_going h).2 h2
    simp [h2, h3]
  · by_cases h1 : y ∈ s.used
    · have h3 := sta_used.2 h1
      by_cases h4 : y ∈ l <;> simp [h1, h2, h3, h4]
    · have h3 := sta_free.2 ⟨h1, h2⟩
      simp [h1, h2, h3]
theorem sta_take (n y : Int) : sta { s with used := ins s.used n } y = upd1 (sta s) n 1 y := by
  unfold sta upd1
  simp only [mem_ins]
  by_cases h1 : y = n
  · simp [h1]
  · simp [h1, sta]
theorem isFree_sta (h : SpOk s) {j : Nat} (hj : j < wid s) : isFree s (s.first + (j : Int)) = true ↔ sta s (s.first + (j : Int)) = 0 := by
  have := wid_cast h
  rw [isFree_iff, sta_free]
  exact ⟨fun h => h.2, fun h => ⟨⟨by omega, by omega⟩, h⟩⟩
theorem least_at {s : Sp} : ∀ (k i J : Nat), J < k → isFree s (s.first + ((i + J : Nat) : Int)) = true → (∀ j, j < J → isFree s (s.first + ((i + j : Nat) : Int)) = false) → least s i k = some (s.first + ((i + J : Nat) : Int))
  | 0, i, J, h, _, _ => by omega
  | k + 1, i, J, h, hf, hn => by
    unfold least
    cases J with
    | zero =>
      have : isFree s (s.first + (i : Int)) = true := by simpa using hf
      rw [if_pos this]; simp
    | succ J =>
      have h0 : isFree s (s.first + (i : Int)) = false := by simpa using hn 0 (by omega)
      rw [if_neg (by rw [h0]; simp)]
      have e : i + (J + 1) = (i + 1) + J := by omega
      rw [e] at hf ⊢
      exact least_at k (i + 1) J (by omega) hf fun j hj => by have := hn (j + 1) (by omega); rwa [show i + (j + 1) = (i + 1) + j by omega] at this
theorem least_no {s : Sp} : ∀ (k i : Nat), (∀ j, j < k → isFree s (s.first + ((i + j : Nat) : Int)) = false) → least s i k = none
  | 0, i, _ => rfl
  | k + 1, i, h => by
    unfold least
    have h0 : isFree s (s.first + (i : Int)) = false := by simpa using h 0 (by omega)
    rw [if_neg (by rw [h0]; simp)]
    exact least_no k (i + 1) fun j hj => by have := h (j + 1) (by omega); rwa [show i + (j + 1) = (i + 1) + j by omega] at this
theorem take_yes (h : SpOk s) {J : Nat} (hJ : J < wid s) (h0 : sta s (s.first + (J : Int)) = 0) (hn : ∀ j, j < J → sta s (s.first + (j : Int)) ≠ 0) : spTake s = (s.first + (J : Int), 0, { s with used := ins s.used (s.first + (J : Int)) }) := by
  have e := least_at (s := s) (wid s) 0 J hJ (by simpa using (isFree_sta h hJ).2 h0) (fun j hj => by
    rw [Bool.eq_false_iff]
    intro hc
    rw [Nat.zero_add] at hc
    exact hn j hj ((isFree_sta h (by omega)).1 hc))
  rw [Nat.zero_add] at e
  unfold spTake
  unfold wid at e
  rw [e]
theorem take_no (h : SpOk s) (hn : ∀ j, j < wid s → sta s (s.first + (j : Int)) ≠ 0) : spTake s = (0, 12, s) := by
  have e := least_no (s := s) (wid s) 0 (fun j hj => by
    rw [Bool.eq_false_iff]
    intro hc
    rw [Nat.zero_add] at hc
    exact hn j hj ((isFree_sta h hj).1 hc))
  unfold spTake
  unfold wid at e
  rw [e]
/-- The sectors in their order. -/
def secs (a : Int) (n : Nat) : List Int := (List.range n).map fun (i : Nat) => a + (i : Int)
theorem mem_secs {a : Int} {n : Nat} {x : Int} : x ∈ secs a n ↔ a ≤ x ∧ x < a + (n : Int) := by
  unfold secs
  simp only [List.mem_map, List.mem_range]
  constructor
  · rintro ⟨i, hi, rfl⟩; omega
  · rintro ⟨h1, h2⟩; exact ⟨(x - a).toNat, by omega, by omega⟩
theorem secs_ord (a : Int) (n : Nat) : (secs a n).Pairwise (· < ·) := by
  unfold secs
  rw [List.pairwise_map]
  exact List.pairwise_lt_range.imp fun h => by omega
theorem secs_succ (a : Int) (n : Nat) : secs a (n + 1) = secs a n ++ [a + (n : Int)] := by unfold secs; rw [List.range_succ, List.map_append]; rfl
theorem secs_nodup (a : Int) (n : Nat) : (secs a n).Nodup := (secs_ord a n).imp fun h => by omega
/-- The used ones. -/
def usd (f : Int → Int) (a : Int) (n : Nat) : List Int := (secs a n).filter fun y => decide (f y = 1)
theorem usd_succ (f : Int → Int) (a : Int) (n : Nat) : usd f a (n + 1) = if f (a + (n : Int)) = 1 then usd f a n ++ [a + (n : Int)] else usd f a n := by
  unfold usd
  rw [secs_succ, List.filter_append]
  by_cases h : f (a + (n : Int)) = 1 <;> simp [h]
theorem usd_len (f : Int → Int) (a : Int) (n : Nat) : (usd f a n).length ≤ n := by
  have := List.length_filter_le (fun y => decide (f y = 1)) (secs a n)
  unfold usd
  have e : (secs a n).length = n := by unfold secs; simp
  omega
theorem usd_all (h : SpOk s) : usd (sta s) s.first (wid s) = s.used := by
  refine ord_ext ((secs_ord _ _).filter _) h.ord fun x => ?_
  unfold usd
  rw [List.mem_filter, mem_secs, decide_eq_true_eq, sta_used, wid_cast h]
  exact ⟨fun h => h.2, fun hx => ⟨by have := h.ur x hx; omega, hx⟩⟩
theorem used_len (h : SpOk s) : s.used.length ≤ wid s := by rw [← usd_all h]; exact usd_len _ _ _
/-- How many are free. -/
theorem free_count (h : SpOk s) : (((secs s.first (wid s)).filter fun y => decide (sta s y = 0)).length : Int) = spFree s := by
  have e1 : (secs s.first (wid s)).length = wid s := by unfold secs; simp
  have e2 : ∀ L : List Int, L.length = (L.filter fun y => decide (sta s y = 0)).length + ((L.filter fun y => decide (sta s y = 1)).length + (L.filter fun y => decide (sta s y = 2)).length) := by
    intro L
    induction L with
    | nil => rfl
    | cons a L ih =>
      rcases sta_three s a with h0 | h0 | h0 <;> simp [h0] <;> omega
  have e3 := e2 (secs s.first (wid s))
  have e4 : ((secs s.first (wid s)).filter fun y => decide (sta s y = 1)).length = s.used.length := by
    have := usd_all h
    unfold usd at this
    rw [this]
  have e5 : ((secs s.first (wid s)).filter fun y => decide (sta s y = 2)).length = s.going.length := by
    have hp : ((secs s.first (wid s)).filter fun y => decide (sta s y = 2)).Perm s.going := by
      refine (List.perm_ext_iff_of_nodup ((secs_nodup _ _).filter _) h.gn).2 fun x => ?_
      rw [List.mem_filter, mem_secs, decide_eq_true_eq, sta_going h, wid_cast h]
      exact ⟨fun h => h.2, fun hx => ⟨by have := h.gr x hx; omega, hx⟩⟩
    exact hp.length_eq
  have e6 := wid_cast h
  unfold spFree
  omega
end
end Go.Proofs.Ytdeojgdjjckoeaa.S15
