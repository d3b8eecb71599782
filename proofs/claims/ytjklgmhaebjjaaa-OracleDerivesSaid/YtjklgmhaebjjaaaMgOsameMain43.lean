/-
  Two derivations by an ideal oracle, on lists.
-/
import Derived.Test.YtjklgmhaebjjaaaMgOsameMain36
import Derived.Test.YtjklgmhaebjjaaaMgOsameMain35
namespace Go.Proofs.Ytjklgmhaebjjaaa.S12
open S11
set_option linter.unusedVariables false
set_option linter.unusedSimpArgs false

/-- What the first block of a derivation is the MAC of. -/
def tx (c : UInt8) : List UInt8 := [] ++ preD c [] ++ [UInt8.ofNat (0 + 1)]
theorem tx_len (c : UInt8) : (tx c).length = 10 := rfl
theorem tx_inj {c d : UInt8} (h : tx c = tx d) : c = d := by
  unfold tx preD lbl at h
  simpa using h
theorem lay4_len (n : Int) : (layL n 4).length = 4 := layL_len n 4
theorem sealQ_len (k t : List UInt8) : (sealQ k t).length = 4 + k.length + t.length := by
  unfold sealQ
  rw [List.length_append, List.length_append, lay4_len]
theorem sealQ_two {k l a b : List UInt8} (hk : k.length = l.length) (h : sealQ k a = sealQ l b) : k = l ∧ a = b := by
  unfold sealQ at h
  rw [hk, List.append_assoc, List.append_assoc] at h
  exact List.append_inj (List.append_cancel_left h) hk
def der (st : St) (mat : List UInt8) (c : UInt8) : List UInt8 × St :=
  fnOp (fnOp st sealN (sealQ z64 mat) 64).2 sealN (sealQ (fnOp st sealN (sealQ z64 mat) 64).1 (tx c)) 64
theorem derive64 (st : St) (mat : List UInt8) (c : UInt8) : idealM.derive st mat c [] 64 = ((der st mat c).1.take 64, (der st mat c).2) := rfl
theorem fn_miss (st : St) (q : List UInt8) (h : ∀ t ∈ st.fs, t.x ≠ q) : fnOp st sealN q 64 = (drawO st.seed 64, fnNew st sealN q (drawO st.seed 64) 64) := by
  unfold fnOp
  have : st.fs.find? (hitF sealN q) = none := by
    rw [List.find?_eq_none]
    intro t ht
    simp only [hitF, Bool.and_eq_true, decide_eq_true_eq]
    exact fun hh => h t ht hh.2
  rw [this]
  rfl
theorem fn_hit1 (st : St) (q y : List UInt8) (r : List T3) (h : st.fs = ⟨sealN, q, y⟩ :: r) : fnOp st sealN q 64 = (y, st) := by
  unfold fnOp
  rw [h]
  simp [hitF]
theorem fn_hit2 (st : St) (q y : List UInt8) (t : T3) (r : List T3) (h : st.fs = t :: ⟨sealN, q, y⟩ :: r) (ht : t.x ≠ q) : fnOp st sealN q 64 = (y, st) := by
  unfold fnOp
  rw [h]
  simp [hitF, ht]
theorem drawO64 (s : List UInt8) : (drawO s 64).length = 64 := drawO_len s 64
theorem z64_len : z64.length = 64 := rfl

/-- The two derivations' states and answers. -/
theorem derives (seed m0 m1 : List UInt8) (c0 c1 : UInt8) (h0 : m0.length = 16) (h1 : m1.length = 16) :
    (der (emp0 seed) m0 c0).2.cnt = 2 ∧ (der (emp0 seed) m0 c0).1.length = 64 ∧ (der (der (emp0 seed) m0 c0).2 m1 c1).1.length = 64 ∧
    ((der (der (emp0 seed) m0 c0).2 m1 c1).2.bad = false →
      ((m0 = m1 ∧ c0 = c1) ∧ (der (der (emp0 seed) m0 c0).2 m1 c1).2.cnt = 2 ∧ (der (emp0 seed) m0 c0).1 = (der (der (emp0 seed) m0 c0).2 m1 c1).1) ∨
      (¬ (m0 = m1 ∧ c0 = c1) ∧ (der (der (emp0 seed) m0 c0).2 m1 c1).2.cnt ≠ 2 ∧ (der (emp0 seed) m0 c0).1 ≠ (der (der (emp0 seed) m0 c0).2 m1 c1).1)) := by
  obtain ⟨k0, hk0⟩ : ∃ k, k = drawO seed 64 := ⟨_, rfl⟩
  have lk0 : k0.length = 64 := by rw [hk0]; exact drawO64 _
  obtain ⟨s1, hs1⟩ : ∃ s, s = fnNew (emp0 seed) sealN (sealQ z64 m0) k0 64 := ⟨_, rfl⟩
  have e1 : fnOp (emp0 seed) sealN (sealQ z64 m0) 64 = (k0, s1) := by rw [fn_miss _ _ (fun t ht => by simp [emp0] at ht), hs1, hk0]; rfl
  have f1 : s1.fs = [⟨sealN, sealQ z64 m0, k0⟩] := by rw [hs1]; rfl
  have n1 : s1.cnt = 1 := by rw [hs1]; rfl
  obtain ⟨a, ha⟩ : ∃ k, k = drawO s1.seed 64 := ⟨_, rfl⟩
  have la : a.length = 64 := by rw [ha]; exact drawO64 _
  obtain ⟨s2, hs2⟩ : ∃ s, s = fnNew s1 sealN (sealQ k0 (tx c0)) a 64 := ⟨_, rfl⟩
  have lq0 : (sealQ z64 m0).length = 84 := by rw [sealQ_len, z64_len, h0]
  have lq1 : (sealQ k0 (tx c0)).length = 78 := by rw [sealQ_len, lk0, tx_len]
  have ne01 : sealQ z64 m0 ≠ sealQ k0 (tx c0) := fun e => by rw [e, lq1] at lq0; omega
  have e2 : fnOp s1 sealN (sealQ k0 (tx c0)) 64 = (a, s2) := by
    rw [fn_miss _ _ (fun t ht => by rw [f1] at ht; simp only [List.mem_singleton] at ht; subst ht; exact ne01), hs2, ha]
  have f2 : s2.fs = [⟨sealN, sealQ z64 m0, k0⟩, ⟨sealN, sealQ k0 (tx c0), a⟩] := by rw [hs2]; simp only [fnNew, f1]; rfl
  have n2 : s2.cnt = 2 := by rw [hs2]; simp only [fnNew, n1]
  have d1 : der (emp0 seed) m0 c0 = (a, s2) := by unfold der; rw [e1]; exact e2
  rw [d1]
  refine ⟨n2, la, ?_⟩
  show (der s2 m1 c1).1.length = 64 ∧ ((der s2 m1 c1).2.bad = false → ((m0 = m1 ∧ c0 = c1) ∧ (der s2 m1 c1).2.cnt = 2 ∧ a = (der s2 m1 c1).1) ∨ (¬ (m0 = m1 ∧ c0 = c1) ∧ (der s2 m1 c1).2.cnt ≠ 2 ∧ a ≠ (der s2 m1 c1).1))
  by_cases hm : m0 = m1
  · subst hm
    have e3 : fnOp s2 sealN (sealQ z64 m0) 64 = (k0, s2) := fn_hit1 s2 _ _ _ f2
    by_cases hc : c0 = c1
    · subst hc
      have d2 : der s2 m0 c0 = (a, s2) := by unfold der; rw [e3]; exact fn_hit2 s2 _ _ _ _ f2 ne01
      rw [d2]
      exact ⟨la, fun _ => .inl ⟨⟨rfl, rfl⟩, n2, rfl⟩⟩
    · have q3 : ∀ t ∈ s2.fs, t.x ≠ sealQ k0 (tx c1) := by
        intro t ht
        rw [f2] at ht
        simp only [List.mem_cons, List.not_mem_nil, or_false] at ht
        rcases ht with rfl | rfl
        · intro e
          have : (sealQ z64 m0).length = (sealQ k0 (tx c1)).length := congrArg List.length e
          rw [lq0, sealQ_len, lk0, tx_len] at this
          omega
        · exact fun e => hc (tx_inj (sealQ_two rfl e).2)
      have d2 : der s2 m0 c1 = (drawO s2.seed 64, fnNew s2 sealN (sealQ k0 (tx c1)) (drawO s2.seed 64) 64) := by unfold der; rw [e3]; exact fn_miss s2 _ q3
      rw [d2]
      refine ⟨drawO64 _, fun hb => .inr ⟨fun h => hc h.2, ?_, ?_⟩⟩
      · show s2.cnt + 1 ≠ 2
        omega
      · intro e
        have hb : (s2.bad || s2.fs.any (badF sealN (drawO s2.seed 64))) = false := hb
        rw [Bool.or_eq_false_iff, f2] at hb
        have := hb.2
        rw [show drawO s2.seed 64 = a from e.symm] at this
        simp [badF] at this
  · have q2 : ∀ t ∈ s2.fs, t.x ≠ sealQ z64 m1 := by
      intro t ht
      rw [f2] at ht
      simp only [List.mem_cons, List.not_mem_nil, or_false] at ht
      rcases ht with rfl | rfl
      · exact fun e => hm (sealQ_two rfl e).2
      · intro e
        have : (sealQ k0 (tx c0)).length = (sealQ z64 m1).length := congrArg List.length e
        rw [lq1, sealQ_len, z64_len, h1] at this
        omega
    obtain ⟨k1, hk1⟩ : ∃ k, k = drawO s2.seed 64 := ⟨_, rfl⟩
    have lk1 : k1.length = 64 := by rw [hk1]; exact drawO64 _
    obtain ⟨s3, hs3⟩ : ∃ s, s = fnNew s2 sealN (sealQ z64 m1) k1 64 := ⟨_, rfl⟩
    have e3 : fnOp s2 sealN (sealQ z64 m1) 64 = (k1, s3) := by rw [fn_miss _ _ q2, hs3, hk1]
    have f3 : s3.fs = [⟨sealN, sealQ z64 m0, k0⟩, ⟨sealN, sealQ k0 (tx c0), a⟩, ⟨sealN, sealQ z64 m1, k1⟩] := by rw [hs3]; simp only [fnNew, f2]; rfl
    have b3 : s3.bad = (s2.bad || s2.fs.any (badF sealN k1)) := by rw [hs3]; rfl
    have n3 : s3.cnt = 3 := by rw [hs3]; simp only [fnNew, n2]
    have dd : der s2 m1 c1 = fnOp s3 sealN (sealQ k1 (tx c1)) 64 := by unfold der; rw [e3]
    by_cases hk : k0 = k1
    · have bad : s3.bad = true := by
        rw [b3, f2, hk]
        simp [badF]
      have stay : (fnOp s3 sealN (sealQ k1 (tx c1)) 64).2.bad = true := by
        unfold fnOp
        split
        · exact bad
        · show (s3.bad || _) = true
          rw [bad]; rfl
      rw [dd]
      refine ⟨?_, fun hb => by rw [stay] at hb; cases hb⟩
      unfold fnOp
      split
      · rename_i t ht
        have hmem := List.mem_of_find?_eq_some ht
        rw [f3] at hmem
        simp only [List.mem_cons, List.not_mem_nil, or_false] at hmem
        rcases hmem with rfl | rfl | rfl
        · exact lk0
        · exact la
        · exact lk1
      · exact drawO64 _
    · have q4 : ∀ t ∈ s3.fs, t.x ≠ sealQ k1 (tx c1) := by
        intro t ht
        rw [f3] at ht
        simp only [List.mem_cons, List.not_mem_nil, or_false] at ht
        have l4 : (sealQ k1 (tx c1)).length = 78 := by rw [sealQ_len, lk1, tx_len]
        rcases ht with rfl | rfl | rfl
        · intro e
          have : (sealQ z64 m0).length = (sealQ k1 (tx c1)).length := congrArg List.length e
          omega
        · exact fun e => hk (sealQ_two (by rw [lk0, lk1]) e).1
        · intro e
          have : (sealQ z64 m1).length = (sealQ k1 (tx c1)).length := congrArg List.length e
          rw [sealQ_len, z64_len, h1] at this
          omega
      rw [dd, fn_miss s3 _ q4]
      refine ⟨drawO64 _, fun hb => .inr ⟨fun h => hm h.1, ?_, ?_⟩⟩
      · show s3.cnt + 1 ≠ 2
        omega
      · intro e
        have hb : (s3.bad || s3.fs.any (badF sealN (drawO s3.seed 64))) = false := hb
        rw [Bool.or_eq_false_iff, f3] at hb
        have := hb.2
        rw [show drawO s3.seed 64 = a from e.symm] at this
        simp [badF] at this
end Go.Proofs.Ytjklgmhaebjjaaa.S12
