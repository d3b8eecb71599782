/-
  The program's device on lists: where its pending writes lie; the latest one of each sector.
-/
import Derived.Test.YteigfpgdnfladaaDvK
namespace Go.Proofs.Yteigfpgdnfladaa.S13
set_option linter.unusedVariables false
set_option linter.unusedSimpArgs false

/-- A pending write: its block, its sector, its bytes. -/
abbrev Pw := Nat × Nat × List UInt8
/-- The block of the last one of a sector. -/
def lastB : Option Nat → List Pw → Nat → Option Nat
  | o, [], _ => o
  | o, p :: l, at_ => lastB (if p.2.1 = at_ then some p.1 else o) l at_
theorem lastB_snoc (o : Option Nat) (l : List Pw) (p : Pw) (at_ : Nat) : lastB o (l ++ [p]) at_ = if p.2.1 = at_ then some p.1 else lastB o l at_ := by
  induction l generalizing o with
  | nil => rfl
  | cons q l ih => exact ih _
theorem latest_snoc (s : List UInt8) (l : List (Nat × List UInt8)) (p : Nat × List UInt8) (at_ : Nat) : latest s (l ++ [p]) at_ = if p.1 = at_ then p.2 else latest s l at_ := by
  induction l generalizing s with
  | nil => rfl
  | cons q l ih => exact ih _
theorem snoc_ind {α : Type} {C : List α → Prop} (h0 : C []) (h1 : ∀ l p, C l → C (l ++ [p])) (l : List α) : C l := by
  have : ∀ m : List α, C m.reverse := by
    intro m
    induction m with
    | nil => exact h0
    | cons a m ih => rw [List.reverse_cons]; exact h1 _ _ ih
  have h := this l.reverse
  rwa [List.reverse_reverse] at h
theorem lastB_none (L : List Pw) (at_ : Nat) (h : ∀ p ∈ L, p.2.1 ≠ at_) : lastB none L at_ = none := by
  induction L using snoc_ind with
  | h0 => rfl
  | h1 l p ih =>
    rw [lastB_snoc, if_neg (h p (by simp))]
    exact ih fun q hq => h q (by simp [hq])
/-- What is seen, by the latest one's block. -/
theorem lastB_see (s : List UInt8) (L : List Pw) (at_ : Nat) :
    (lastB none L at_ = none ∧ latest s (L.map (·.2)) at_ = s) ∨ ∃ p ∈ L, lastB none L at_ = some p.1 ∧ p.2.1 = at_ ∧ latest s (L.map (·.2)) at_ = p.2.2 := by
  induction L using snoc_ind with
  | h0 => exact .inl ⟨rfl, rfl⟩
  | h1 l p ih =>
    rw [lastB_snoc, List.map_append, List.map_cons, List.map_nil, latest_snoc]
    by_cases h : p.2.1 = at_
    · rw [if_pos h, if_pos h]
      exact .inr ⟨p, by simp, rfl, h, rfl⟩
    · rw [if_neg h, if_neg h]
      rcases ih with h1 | ⟨q, hq, h1⟩
      · exact .inl h1
      · exact .inr ⟨q, by simp [hq], h1⟩
def keepW (a : Nat) (L : List Pw) : List Pw := L.filter fun p => decide (p.2.1 ≠ a)
theorem keepW_snoc (a : Nat) (l : List Pw) (p : Pw) : keepW a (l ++ [p]) = if p.2.1 = a then keepW a l else keepW a l ++ [p] := by
  unfold keepW
  rw [List.filter_append]
  by_cases h : p.2.1 = a <;> simp [h]
theorem lastB_keep (a : Nat) (L : List Pw) (at_ : Nat) : lastB none (keepW a L) at_ = if at_ = a then none else lastB none L at_ := by
  induction L using snoc_ind with
  | h0 => simp [keepW, lastB]
  | h1 l p ih =>
    rw [keepW_snoc, lastB_snoc]
    by_cases h : p.2.1 = a
    · rw [if_pos h, ih]
      by_cases h2 : at_ = a
      · rw [if_pos h2, if_pos h2]
      · rw [if_neg h2, if_neg h2, if_neg (by omega)]
    · rw [if_neg h, lastB_snoc, ih]
      by_cases h2 : at_ = a
      · rw [if_neg (by omega), if_pos h2, if_pos h2]
      · rw [if_neg h2, if_neg h2]
theorem keepW_map (a : Nat) (L : List Pw) : (keepW a L).map (·.2) = (L.map (·.2)).filter fun p => decide (p.1 ≠ a) := by
  unfold keepW
  rw [List.filter_map]
  rfl
theorem keepW_sub {a : Nat} {L : List Pw} {p : Pw} (h : p ∈ keepW a L) : p ∈ L := (List.mem_filter.1 h).1
/-- The row of the latest ones. -/
def latRow (n : Nat) (L : List Pw) : List (Option Nat) := (List.range n).map (lastB none L)
theorem latRow_len (n : Nat) (L : List Pw) : (latRow n L).length = n := by simp [latRow]
theorem latRow_nil (n : Nat) : latRow n [] = List.replicate n none := by
  apply List.ext_getElem
  · simp [latRow]
  · intro i h1 h2; simp [latRow, lastB]
theorem latRow_at (n : Nat) (L : List Pw) (i : Nat) (hi : i < n) : (latRow n L)[i]? = some (lastB none L i) := by
  simp [latRow, hi]
theorem latRow_snoc (n : Nat) (L : List Pw) (p : Pw) : latRow n (L ++ [p]) = (latRow n L).set p.2.1 (some p.1) := by
  apply List.ext_getElem
  · simp [latRow]
  · intro i h1 h2
    rw [List.getElem_set]
    simp only [latRow, List.getElem_map, List.getElem_range, lastB_snoc]
theorem latRow_keep (n : Nat) (L : List Pw) (a : Nat) : latRow n (keepW a L) = (latRow n L).set a none := by
  apply List.ext_getElem
  · simp [latRow]
  · intro i h1 h2
    rw [List.getElem_set]
    simp only [latRow, List.getElem_map, List.getElem_range, lastB_keep]
    by_cases h : i = a
    · rw [if_pos h, if_pos h.symm]
    · rw [if_neg h, if_neg (fun e => h e.symm)]
/-- All of the first k writes' sectors are cleared. -/
def wipe : List (Option Nat) → List Nat → List (Option Nat)
  | l, [] => l
  | l, a :: r => wipe (l.set a none) r
theorem wipe_len (l : List (Option Nat)) (r : List Nat) : (wipe l r).length = l.length := by
  induction r generalizing l with
  | nil => rfl
  | cons a r ih => show (wipe (l.set a none) r).length = _; rw [ih, List.length_set]
theorem wipe_snoc (l : List (Option Nat)) (r : List Nat) (a : Nat) : wipe l (r ++ [a]) = (wipe l r).set a none := by
  induction r generalizing l with
  | nil => rfl
  | cons b r ih => exact ih _
theorem wipe_at (l : List (Option Nat)) (r : List Nat) (i : Nat) : (wipe l r)[i]? = if i ∈ r then (if i < l.length then some none else none) else l[i]? := by
  induction r using snoc_ind with
  | h0 => simp [wipe]
  | h1 r a ih =>
    rw [wipe_snoc, List.getElem?_set, wipe_len]
    by_cases h : a = i
    · subst h; simp
    · rw [if_neg h, ih]
      by_cases hm : i ∈ r
      · rw [if_pos hm, if_pos (List.mem_append_left [a] hm)]
      · rw [if_neg hm, if_neg (fun e => by rcases List.mem_append.1 e with e | e; exact hm e; simp at e; exact h e.symm)]
theorem wipe_all (n : Nat) (L : List Pw) : wipe (latRow n L) (L.map (·.2.1)) = List.replicate n none := by
  apply List.ext_getElem?
  intro i
  rw [wipe_at, latRow_len]
  by_cases hi : i < n
  · by_cases hm : i ∈ L.map (·.2.1)
    · rw [if_pos hm, if_pos hi]; simp [hi]
    · rw [if_neg hm, latRow_at n L i hi, lastB_none L i (fun p hp e => hm (by rw [← e]; exact List.mem_map_of_mem (f := (·.2.1)) hp))]
      simp [hi]
  · rw [show (List.replicate n (none : Option Nat))[i]? = none by simp; omega, List.getElem?_eq_none (by rw [latRow_len]; omega)]
    simp [hi]
/-! ### rows of rows -/
theorem flat_len (k : List (List UInt8)) (h : ∀ s ∈ k, s.length = 512) : k.flatten.length = k.length * 512 := by
  induction k with
  | nil => rfl
  | cons s k ih => rw [List.flatten_cons, List.length_append, ih (fun q hq => h q (by simp [hq])), h s (by simp), List.length_cons]; omega
theorem flat_at (k : List (List UInt8)) (h : ∀ s ∈ k, s.length = 512) (i j : Nat) (hi : i < k.length) (hj : j < 512) : k.flatten[i * 512 + j]? = (k.getD i [])[j]? := by
  induction k generalizing i with
  | nil => simp at hi
  | cons s k ih =>
    have hs := h s (by simp)
    rw [List.flatten_cons]
    cases i with
    | zero => rw [List.getElem?_append_left (by omega)]; simp
    | succ i =>
      rw [List.getElem?_append_right (by omega), show (i + 1) * 512 + j - s.length = i * 512 + j by omega, ih (fun q hq => h q (by simp [hq])) i (by simpa using hi)]
      simp
set_option maxRecDepth 20000 in
theorem flat_set (k : List (List UInt8)) (h : ∀ s ∈ k, s.length = 512) (i : Nat) (hi : i < k.length) (b : List UInt8) (hb : b.length = 512) (m : Nat) :
    (k.set i b).flatten[m]? = if i * 512 ≤ m ∧ m < i * 512 + 512 then b[m - i * 512]? else k.flatten[m]? := by
  induction k generalizing i m with
  | nil => simp at hi
  | cons s k ih =>
    have hs := h s (by simp)
    cases i with
    | zero =>
      rw [List.set_cons_zero, List.flatten_cons, List.flatten_cons]
      by_cases hm : m < 512
      · rw [List.getElem?_append_left (by omega), if_pos (by omega)]; simp
      · rw [List.getElem?_append_right (by omega), List.getElem?_append_right (by omega), if_neg (by omega), hb, hs]
    | succ i =>
      rw [List.set_cons_succ, List.flatten_cons, List.flatten_cons]
      by_cases hm : m < 512
      · rw [List.getElem?_append_left (by omega), List.getElem?_append_left (by omega), if_neg (by omega)]
      · rw [List.getElem?_append_right (by omega), List.getElem?_append_right (by omega), ih (fun q hq => h q (by simp [hq])) i (by simpa using hi), hs]
        by_cases hc : i * 512 ≤ m - 512 ∧ m - 512 < i * 512 + 512
        · rw [if_pos hc, if_pos (by omega)]
          congr 1
          omega
        · rw [if_neg hc, if_neg (by omega)]
theorem flat_z (n : Nat) : (List.replicate n z512).flatten = List.replicate (n * 512) 0 := by
  induction n with
  | zero => rfl
  | succ n ih => rw [List.replicate_succ, List.flatten_cons, ih, show z512 = List.replicate 512 0 from rfl, List.replicate_append_replicate]; congr 1; omega
end Go.Proofs.Yteigfpgdnfladaa.S13
