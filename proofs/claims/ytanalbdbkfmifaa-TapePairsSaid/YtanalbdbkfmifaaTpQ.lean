/-
  Permutations are bijections: on lists.
-/
import Derived.Test.YtanalbdbkfmifaaTpL
namespace Go.Proofs.Ytanalbdbkfmifaa.S11
set_option linter.unusedVariables false
set_option linter.unusedSimpArgs false

/-- Of one name no two pairs share a text of a side; the two of a pair are of one length. -/
def Good (ps : List T3) : Prop := (∀ t ∈ ps, t.x.length = t.y.length) ∧ ps.Pairwise fun a b => a.n = b.n → a.x ≠ b.x ∧ a.y ≠ b.y
theorem good_nil : Good [] := ⟨by simp, List.Pairwise.nil⟩
def side (first : Bool) (t : T3) : List UInt8 := if first then t.x else t.y
theorem good_one {ps : List T3} (h : Good ps) {a b : T3} (ha : a ∈ ps) (hb : b ∈ ps) (hn : a.n = b.n) (hs : a.x = b.x ∨ a.y = b.y) : a.x = b.x ∧ a.y = b.y := by
  obtain ⟨i, hi, rfl⟩ := List.getElem_of_mem ha
  obtain ⟨j, hj, rfl⟩ := List.getElem_of_mem hb
  rcases Nat.lt_trichotomy i j with c | c | c
  · have := List.pairwise_iff_getElem.1 h.2 i j hi hj c hn
    rcases hs with e | e
    · exact absurd e this.1
    · exact absurd e this.2
  · subst c; exact ⟨rfl, rfl⟩
  · have := List.pairwise_iff_getElem.1 h.2 j i hj hi c hn.symm
    rcases hs with e | e
    · exact absurd e.symm this.1
    · exact absurd e.symm this.2
theorem side_len {ps : List T3} (h : Good ps) {t : T3} (ht : t ∈ ps) (first : Bool) : (side first t).length = t.x.length := by
  cases first
  · exact (h.1 t ht).symm
  · rfl
/-- What was told is told again. -/
theorem pr_again {st : St} (h : Good st.ps) {t : T3} (ht : t ∈ st.ps) (first : Bool) (hne : side first t ≠ []) : prOp st t.n (side first t) first = (ans first t, st) := by
  unfold prOp
  rw [if_neg hne]
  have hx : hitQ t.n (side first t) first t = true := by
    have := side_len h ht first
    simp only [hitQ, decide_true, Bool.true_and, Bool.and_eq_true, decide_eq_true_eq]
    refine ⟨this.symm, ?_⟩
    cases first <;> rfl
  cases hf : st.ps.find? (hitQ t.n (side first t) first) with
  | none => exact absurd (List.find?_eq_none.1 hf t ht) (by simp [hx])
  | some u =>
    have hu := List.mem_of_find?_eq_some hf
    have hq : hitQ t.n (side first t) first u = true := List.find?_some hf
    simp only [hitQ, Bool.and_eq_true, decide_eq_true_eq] at hq
    have e := good_one h hu ht hq.1 (by
      have := hq.2.2
      cases first
      · exact .inr this
      · exact .inl this)
    cases first
    · show (u.x, st) = (t.x, st); rw [e.1]
    · show (u.y, st) = (t.y, st); rw [e.2]
theorem told_side (first : Bool) (name s y : List UInt8) : side first (told first name s y) = s ∧ ans first (told first name s y) = y ∧ (told first name s y).n = name ∧ side (!first) (told first name s y) = y := by cases first <;> exact ⟨rfl, rfl, rfl, rfl⟩
/-- The text that is found is free. -/
theorem freeY_free (st : St) (name s : List UInt8) (first : Bool) (hs : s ≠ []) (hp : st.ps.length ≤ 255) : taken st.ps name (freeY st name s first) (!first) = false := by
  have hl : 0 < (drawO st.seed s.length).length := by rw [drawO_len]; exact List.length_pos_iff.2 hs
  obtain ⟨i, hi, h1, h2⟩ := adv_free st.ps name (drawO st.seed s.length) (!first) hl hp
  have e : freeY st name s first = itn i (drawO st.seed s.length) := adv_at (fun y => taken st.ps name y (!first)) i 255 _ hi h1 h2
  rw [e]
  exact h2
theorem pr_good {st : St} (h : Good st.ps) (name s : List UInt8) (first : Bool) (hp : st.ps.length ≤ 255) : Good (prOp st name s first).2.ps := by
  unfold prOp
  split
  · exact h
  · rename_i hs
    split
    · exact h
    · rename_i hf
      have hfree := freeY_free st name s first hs hp
      have hyl := freeY_len st name s first
      show Good (st.ps ++ [told first name s (freeY st name s first)])
      refine ⟨fun t ht => ?_, ?_⟩
      · rcases List.mem_append.1 ht with h1 | h1
        · exact h.1 t h1
        · simp only [List.mem_singleton] at h1
          subst h1
          cases first
          · exact hyl
          · exact hyl.symm
      · rw [List.pairwise_append]
        refine ⟨h.2, List.pairwise_singleton _ _, fun a ha b hb hn => ?_⟩
        simp only [List.mem_singleton] at hb
        subst hb
        have hq := List.find?_eq_none.1 hf a ha
        have ht : hitP name (freeY st name s first) (!first) a = false := by
          unfold taken at hfree
          rw [List.any_eq_false] at hfree
          simpa using hfree a ha
        have hal := h.1 a ha
        cases first
        · have hn' : a.n = name := hn
          simp only [hitQ, hn', decide_true, Bool.true_and, Bool.and_eq_true, decide_eq_true_eq, not_and, Bool.false_eq_true, if_false] at hq
          simp only [hitP, hn', decide_true, Bool.true_and, Bool.not_false, if_true, Bool.and_eq_false_imp, decide_eq_true_eq, decide_eq_false_iff_not] at ht
          refine ⟨fun e => ?_, fun e => ?_⟩
          · have e' : a.x = freeY st name s false := e
            exact ht e' (by rw [e'])
          · have e' : a.y = s := e
            exact hq (by rw [hal, e']) e'
        · have hn' : a.n = name := hn
          simp only [hitQ, hn', decide_true, Bool.true_and, Bool.and_eq_true, decide_eq_true_eq, not_and, if_true] at hq
          simp only [hitP, hn', decide_true, Bool.true_and, Bool.not_true, Bool.false_eq_true, if_false, Bool.and_eq_false_imp, decide_eq_true_eq, decide_eq_false_iff_not] at ht
          refine ⟨fun e => ?_, fun e => ?_⟩
          · have e' : a.x = s := e
            exact hq (by rw [e']) e'
          · have e' : a.y = freeY st name s true := e
            exact ht e' (by rw [hal, e'])
/-- Nothing that was told is forgotten. -/
theorem pr_keeps (st : St) (name s : List UInt8) (first : Bool) (t : T3) (ht : t ∈ st.ps) : t ∈ (prOp st name s first).2.ps := by
  unfold prOp
  split
  · exact ht
  · split
    · exact ht
    · exact List.mem_append_left _ ht
/-- What is told now. -/
theorem pr_told (st : St) (name s : List UInt8) (first : Bool) (hs : s ≠ []) : ∃ t ∈ (prOp st name s first).2.ps, t.n = name ∧ side first t = s ∧ ans first t = (prOp st name s first).1 := by
  unfold prOp
  rw [if_neg hs]
  split
  · rename_i u hf
    have hu := List.mem_of_find?_eq_some hf
    have hq : hitQ name s first u = true := List.find?_some hf
    simp only [hitQ, Bool.and_eq_true, decide_eq_true_eq] at hq
    exact ⟨u, hu, hq.1, hq.2.2, rfl⟩
  · refine ⟨told first name s (freeY st name s first), List.mem_append_right _ (by simp), ?_⟩
    have := told_side first name s (freeY st name s first)
    exact ⟨this.2.2.1, this.1, this.2.1⟩
theorem ans_side (first : Bool) (t : T3) : ans first t = side (!first) t := by cases first <;> rfl
theorem pr_len {st : St} (h : Good st.ps) (name s : List UInt8) (first : Bool) (hp : st.ps.length ≤ 255) : (prOp st name s first).1.length = s.length := by
  by_cases hs : s = []
  · subst hs; unfold prOp; rw [if_pos rfl]
  · obtain ⟨t, ht, _, h2, h3⟩ := pr_told st name s first hs
    have hg := pr_good h name s first hp
    rw [← h3, ans_side, side_len hg ht, ← h2, side_len hg ht]
end Go.Proofs.Ytanalbdbkfmifaa.S11
