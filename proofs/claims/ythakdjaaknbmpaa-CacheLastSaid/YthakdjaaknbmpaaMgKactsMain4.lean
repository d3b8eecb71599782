/-
  A ring of linked entries, as two functions: who comes next, who came before; one taken out, one put in. Keys that are ints.
-/
import Derived.Test.YthakdjaaknbmpaaMgKactsMain2
import Derived.Test.YthakdjaaknbmpaaMgKactsMain3
namespace Go.Proofs.Ythakdjaaknbmpaa.S14
open Go.RowKit
set_option linter.unusedVariables false
set_option linter.unusedSimpArgs false

def upd1 (f : Nat → Nat) (k v : Nat) : Nat → Nat := fun x => if x = k then v else f x
theorem upd1_same (f : Nat → Nat) (k v : Nat) : upd1 f k v k = v := if_pos rfl
theorem upd1_other (f : Nat → Nat) {k x : Nat} (v : Nat) (h : x ≠ k) : upd1 f k v x = f x := if_neg h
/-- From p over l to q by 'od', and back by 'nw'. -/
def pth (nw od : Nat → Nat) : Nat → List Nat → Nat → Prop
  | p, [], q => od p = q ∧ nw q = p
  | p, x :: l, q => od p = x ∧ nw x = p ∧ pth nw od x l q
def lst (p : Nat) : List Nat → Nat
  | [] => p
  | x :: l => lst x l
def fst1 (q : Nat) : List Nat → Nat
  | [] => q
  | x :: _ => x
section
variable {nw od nw' od' : Nat → Nat}
theorem pth_split : ∀ (a : List Nat) (p x q : Nat) (b : List Nat), pth nw od p (a ++ x :: b) q ↔ pth nw od p a x ∧ pth nw od x b q
  | [], p, x, q, b => by simp [pth, and_assoc]
  | y :: a, p, x, q, b => by
    have := pth_split a y x q b
    simp only [List.cons_append, pth, this, and_assoc]
theorem pth_first : ∀ (l : List Nat) (p q : Nat), pth nw od p l q → od p = fst1 q l
  | [], _, _, h => h.1
  | _ :: _, _, _, h => h.1
theorem pth_last : ∀ (l : List Nat) (p q : Nat), pth nw od p l q → nw q = lst p l
  | [], _, _, h => h.2
  | x :: l, _, q, h => pth_last l x q h.2.2
theorem lst_mem : ∀ (l : List Nat) (p : Nat), lst p l ∈ p :: l
  | [], _ => List.mem_cons_self
  | x :: l, p => List.mem_cons_of_mem _ (lst_mem l x)
theorem fst1_mem (q : Nat) (l : List Nat) : fst1 q l = q ∨ fst1 q l ∈ l := by
  cases l
  · exact .inl rfl
  · exact .inr List.mem_cons_self
theorem lst_snoc : ∀ (l : List Nat) (p x : Nat), lst p (l ++ [x]) = x
  | [], _, _ => rfl
  | y :: l, _, x => lst_snoc l y x
theorem pth_congr : ∀ (l : List Nat) (p q : Nat), pth nw od p l q → (∀ x ∈ p :: l, od' x = od x) → (∀ x, x ∈ l ∨ x = q → nw' x = nw x) → pth nw' od' p l q
  | [], p, q, h, h1, h2 => ⟨(h1 p List.mem_cons_self).trans h.1, (h2 q (.inr rfl)).trans h.2⟩
  | x :: l, p, q, h, h1, h2 => ⟨(h1 p List.mem_cons_self).trans h.1, (h2 x (.inl List.mem_cons_self)).trans h.2.1, pth_congr l x q h.2.2 (fun y hy => h1 y (List.mem_cons_of_mem _ hy)) (fun y hy => h2 y (hy.imp (List.mem_cons_of_mem _) id))⟩
theorem pth_to (q : Nat) : ∀ (a : List Nat) (p e : Nat), pth nw od p a e → (p :: a).Nodup → q ∉ a → pth (upd1 nw q (lst p a)) (upd1 od (lst p a) q) p a q
  | [], p, e, h, _, _ => ⟨upd1_same _ _ _, upd1_same _ _ _⟩
  | x :: a, p, e, h, hn, hq => by
    have hl := lst_mem a x
    have hp : p ≠ lst x a := fun e => (List.nodup_cons.1 hn).1 (e ▸ hl)
    have hx : x ≠ q := fun e => hq (e ▸ List.mem_cons_self)
    exact ⟨(upd1_other _ _ hp).trans h.1, (upd1_other _ _ hx).trans h.2.1, pth_to q a x e h.2.2 (List.nodup_cons.1 hn).2 (fun h => hq (List.mem_cons_of_mem _ h))⟩
/-- One is taken out. -/
theorem pth_leave {R e : Nat} {a b : List Nat} (h : pth nw od R (a ++ e :: b) R) (hn : (R :: (a ++ e :: b)).Nodup) : pth (upd1 nw (od e) (nw e)) (upd1 od (nw e) (od e)) R (a ++ b) R := by
  obtain ⟨h1, h2⟩ := (pth_split a R e R b).1 h
  rw [pth_first b e R h2, pth_last a R e h1]
  obtain ⟨hR, hn2⟩ := List.nodup_cons.1 hn
  rw [List.nodup_append] at hn2
  obtain ⟨na, nb, nab⟩ := hn2
  obtain ⟨neb, nb⟩ := List.nodup_cons.1 nb
  simp only [List.mem_append, List.mem_cons, not_or] at hR
  have nRa : (R :: a).Nodup := List.nodup_cons.2 ⟨hR.1, na⟩
  cases b with
  | nil =>
    rw [List.append_nil]
    exact pth_to R a R e h1 nRa hR.1
  | cons y b =>
    obtain ⟨_, _, h3⟩ := h2
    have hya : y ∉ a := fun hm => nab y hm y (by simp) rfl
    refine (pth_split a R y R b).2 ⟨pth_to y a R e h1 nRa hya, pth_congr b y R h3 (fun x hx => upd1_other _ _ ?_) (fun x hx => upd1_other _ _ ?_)⟩
    · intro e2
      rcases List.mem_cons.1 (lst_mem a R) with h5 | h5
      · rw [e2, h5] at hx
        exact hR.2.2 hx
      · exact nab _ h5 x (List.mem_cons_of_mem _ hx) e2.symm
    · rintro rfl
      rcases hx with hx | hx
      · exact (List.nodup_cons.1 nb).1 hx
      · exact hR.2.2 (hx ▸ List.mem_cons_self)
/-- One is put in. -/
theorem pth_lead {R e q : Nat} {l : List Nat} (h : pth nw od R l R) (hn : (R :: l).Nodup) (he : e ∉ R :: l) (hq : od R = q) : pth (upd1 (upd1 nw e R) q e) (upd1 (upd1 od e q) R e) R (e :: l) R := by
  subst hq
  have h1 := pth_first l R R h
  simp only [List.mem_cons, not_or] at he
  have hqe : e ≠ fst1 R l := by
    rcases fst1_mem R l with h2 | h2
    · rw [h2]; exact he.1
    · exact fun e2 => he.2 (e2 ▸ h2)
  rw [h1]
  refine ⟨upd1_same _ _ _, (upd1_other _ _ hqe).trans (upd1_same _ _ _), ?_⟩
  cases l with
  | nil => exact ⟨(upd1_other _ _ he.1).trans (upd1_same _ _ _), upd1_same _ _ _⟩
  | cons y l =>
    obtain ⟨_, h3, h4⟩ := h
    obtain ⟨hR, hn⟩ := List.nodup_cons.1 hn
    simp only [List.mem_cons, not_or] at hR he
    refine ⟨(upd1_other _ _ he.1).trans (upd1_same _ _ _), upd1_same _ _ _, pth_congr l y R h4 (fun x hx => ?_) (fun x hx => ?_)⟩
    · have x1 : x ≠ R := fun e2 => by subst e2; rcases List.mem_cons.1 hx with hx | hx; exact hR.1 hx; exact hR.2 hx
      have x2 : x ≠ e := fun e2 => by subst e2; rcases List.mem_cons.1 hx with hx | hx; exact he.2.1 hx; exact he.2.2 hx
      exact (upd1_other _ _ x1).trans (upd1_other _ _ x2)
    · have x1 : x ≠ y := fun e2 => by subst e2; rcases hx with hx | hx; exact (List.nodup_cons.1 hn).1 hx; exact hR.1 hx.symm
      have x2 : x ≠ e := fun e2 => by subst e2; rcases hx with hx | hx; exact he.2.2 hx; exact he.1 hx
      exact (upd1_other _ _ x1).trans (upd1_other _ _ x2)
end
/-- Keys that are ints. -/
def ik (n : Int) : Value := .int .i64 n
theorem findNow_ik (n : Int) {V : Type} (enc : V → Value) (s : IntKind) : ∀ (es : List MapEntry) (ms : List (Int × V)) (i : Nat), es.map Mp.ge = ms.map (Mp.gm ik enc) → Instr.findNow (.int s) (ik n) es i = some ((Mp.fnd n ms i).map fun q => (q.1, enc q.2))
  | [], [], i, _ => rfl
  | [], _ :: _, _, h => by simp at h
  | _ :: _, [], _, h => by simp at h
  | e :: es, p :: ms, i, h => by
    simp only [List.map_cons, List.cons.injEq] at h
    have hk : e.key = ik p.1 := congrArg (·.1) h.1
    have hv : e.val = enc p.2 := congrArg (·.2) h.1
    have ih := findNow_ik n enc s es ms (i + 1) h.2
    unfold Instr.findNow Mp.fnd
    rw [hk, hv]
    have hs : Instr.sameNow (.int s) (ik n) (ik p.1) = some (n == p.1) := by simp [Instr.sameNow, ik]
    rw [hs]
    by_cases c : n = p.1
    · subst c
      simp
    · have c2 : (n == p.1) = false := by simpa using c
      rw [c2, if_neg c]
      exact ih
theorem keys_int : Mp.Keys Try.prog 3 ik where
  check w em k := by
    unfold ik
    rw [Instr.checkKey]
    simp [run_underlying Try.underlying3, Result.andThen]
  find w k V enc es ms h := by
    unfold Instr.findKey
    simp only [Sem.run_bind, run_underlying Try.underlying3, Result.andThen_ok, findNow_ik k enc _ es ms 0 h]
    simp
  stays w k := by
    unfold Instr.keyThatStays ik
    have : Instr.sameBits 10000 (.int .i64 k) (.int .i64 k) = true := by simp [Instr.sameBits]
    rw [this]
    simp
section
variable {V : Type}
theorem upd_len (k : Int) (v : V) : ∀ ms : List (Int × V), Mp.look ms k = none → (Mp.upd ms k v).length = ms.length + 1
  | [], _ => rfl
  | p :: ms, h => by
    unfold Mp.look at h
    split at h
    · cases h
    · rename_i hn
      unfold Mp.upd
      rw [if_neg hn, List.length_cons, upd_len k v ms h, List.length_cons]
theorem del_len (k : Int) {v : V} : ∀ ms : List (Int × V), Mp.look ms k = some v → (Mp.del ms k).length + 1 = ms.length
  | [], h => by cases h
  | p :: ms, h => by
    unfold Mp.look at h
    unfold Mp.del
    split
    · rfl
    · rename_i hn
      rw [if_neg hn] at h
      rw [List.length_cons, del_len k ms h, List.length_cons]
end
end Go.Proofs.Ythakdjaaknbmpaa.S14
