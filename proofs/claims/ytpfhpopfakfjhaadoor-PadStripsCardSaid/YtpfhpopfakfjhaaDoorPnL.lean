/-
  What is left of padded octets behind their zeros: on lists.
-/
import Derived.Test.YtpfhpopfakfjhaaDoorPaL
import Derived.Test.YtpfhpopfakfjhaaDoorPaR
namespace Go.Proofs.YtpfhpopfakfjhaaDoor.S10
set_option linter.unusedVariables false
set_option linter.unusedSimpArgs false

/-- From place m on there are zeros, and no longer before it. -/
def TrimAt (b : List UInt8) (m : Nat) : Prop := m ≤ b.length ∧ (∀ j, m ≤ j → b.getD j 0 = 0) ∧ (0 < m → b.getD (m - 1) 0 ≠ 0)
def padB (m n : Nat) : Bool := decide (sizeI m 16 = (n : Int) ∨ sizeI m 32 = (n : Int))

theorem trim_parts {b : List UInt8} {m : Nat} (h : TrimAt b m) : b = b.take m ++ List.replicate (b.length - m) 0 := by
  obtain ⟨hm, hz, _⟩ := h
  apply List.ext_getElem
  · simp; omega
  · intro j h1 h2
    by_cases hj : j < m
    · rw [List.getElem_append_left (by simp; omega)]
      simp
    · rw [List.getElem_append_right (by simp; omega)]
      have := hz j (by omega)
      rw [List.getD_eq_getElem?_getD, List.getElem?_eq_getElem h1] at this
      simpa using this

theorem trim_fill {s : List UInt8} {k m : Nat} (hs : nameB s = true) (h : TrimAt (s ++ List.replicate k 0) m) : m = s.length := by
  obtain ⟨hm, hz, hl⟩ := h
  have hlen := name_len hs
  have hfit := name_fit hs
  rcases Nat.lt_trichotomy m s.length with h1 | h1 | h1
  · exfalso
    have := hz (s.length - 1) (by omega)
    rw [List.getD_eq_getElem?_getD, List.getElem?_append_left (by omega), List.getElem?_eq_getElem (by omega)] at this
    simp only [Option.getD_some] at this
    rw [List.all_eq_true] at hfit
    have hf := hfit _ (List.getElem_mem (by omega : s.length - 1 < s.length))
    rw [this] at hf
    exact absurd hf (by decide)
  · exact h1
  · exfalso
    have := hl (by omega)
    apply this
    rw [List.getD_eq_getElem?_getD, List.getElem?_append_right (by omega)]
    simp only [List.length_append, List.length_replicate] at hm
    rw [List.getElem?_replicate, if_pos (by omega)]
    rfl

theorem size_up (m u : Nat) (h1 : 1 ≤ m) (h2 : m ≤ 96) (hu : (u : Int) = 16 ∨ (u : Int) = 32) : sizeI m u = (upN m u : Nat) := by
  unfold sizeI
  rw [if_pos (by omega)]
  simp

theorem strip_trim {b : List UInt8} {m : Nat} (h : TrimAt b m) : stripB b = (nameB (b.take m) && padB m b.length) ∧ (stripB b = true → stripL b = b.take m) := by
  have hp := trim_parts h
  have hml : (b.take m).length = m := by have := h.1; simp; omega
  have key : stripB b = true ↔ (nameB (b.take m) && padB m b.length) = true := by
    constructor
    · intro hs
      have h1 := hs
      unfold stripB hitB at h1
      simp only [Bool.and_eq_true, Bool.or_eq_true, decide_eq_true_eq] at h1
      obtain ⟨hn, hf⟩ := h1
      obtain ⟨s, hse⟩ : ∃ s, cutZ b = s := ⟨_, rfl⟩
      rw [hse] at hn hf
      have hk : ∃ k, b = s ++ List.replicate k 0 := by
        rcases hf with hf | hf <;> exact ⟨_, hf.symm⟩
      obtain ⟨k, hk⟩ := hk
      have hm : m = s.length := trim_fill hn (hk ▸ h)
      have ht : b.take m = s := by rw [hk, hm]; simp
      have hl := name_len hn
      rw [ht, hn, Bool.true_and]
      unfold padB
      rw [decide_eq_true_eq]
      rcases hf with hf | hf
      · left
        rw [hm]
        have := size_up s.length 16 hl.1 hl.2 (.inl rfl)
        have e : b.length = upN s.length 16 := by rw [← hf]; exact fill_len16 s hl.1
        rw [e]; exact this
      · right
        rw [hm]
        have := size_up s.length 32 hl.1 hl.2 (.inr rfl)
        have e : b.length = upN s.length 32 := by rw [← hf]; exact fill_len32 s hl.1
        rw [e]; exact this
    · intro hs
      simp only [Bool.and_eq_true] at hs
      obtain ⟨hn, hpd⟩ := hs
      have hl := name_len hn
      rw [hml] at hl
      have hc : cutZ b = b.take m := by
        have := cut_zeros (b.take m) (b.length - m) (name_fit hn)
        rwa [← hp] at this
      unfold stripB hitB
      rw [hc, hn, Bool.true_and]
      simp only [Bool.or_eq_true, decide_eq_true_eq]
      unfold padB at hpd
      rw [decide_eq_true_eq] at hpd
      rcases hpd with hpd | hpd
      · left
        have e := size_up m 16 hl.1 hl.2 (.inl rfl)
        have e2 : upN m 16 = b.length := by
          have e : sizeI m 16 = (upN m 16 : Nat) := e
          omega
        unfold fillL
        rw [hml, e2]
        exact hp.symm
      · right
        have e := size_up m 32 hl.1 hl.2 (.inr rfl)
        have e2 : upN m 32 = b.length := by
          have e : sizeI m 32 = (upN m 32 : Nat) := e
          omega
        unfold fillL
        rw [hml, e2]
        exact hp.symm
  refine ⟨by rw [Bool.eq_iff_iff]; exact key, fun hs => ?_⟩
  have h2 := key.1 hs
  simp only [Bool.and_eq_true] at h2
  unfold stripL
  rw [if_pos hs]
  have := cut_zeros (b.take m) (b.length - m) (name_fit h2.1)
  rwa [← hp] at this
end Go.Proofs.YtpfhpopfakfjhaaDoor.S10
