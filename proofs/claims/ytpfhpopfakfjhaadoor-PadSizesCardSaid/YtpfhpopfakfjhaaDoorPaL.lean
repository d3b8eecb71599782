/-
  Names and how they are filled: on lists; without the program.
-/
namespace Go.Proofs.YtpfhpopfakfjhaaDoor.S10
set_option linter.unusedVariables false
set_option linter.unusedSimpArgs false

/-- A name's octet. -/
def fitB (c : UInt8) : Bool := decide (c ≠ 0 ∧ c ≠ 47)
/-- Is it a name? -/
def nameB (s : List UInt8) : Bool := s.all fitB && decide (1 ≤ s.length ∧ s.length ≤ 96) && decide (s ≠ [46]) && decide (s ≠ [46, 46])
/-- The length of n bytes that are filled by u. -/
def upN (n u : Nat) : Nat := (n + u - 1) / u * u
def fillL (s : List UInt8) (u : Nat) : List UInt8 := s ++ List.replicate (upN s.length u - s.length) 0
/-- What stands before the first nought. -/
def cutZ (b : List UInt8) : List UInt8 := b.takeWhile fun c => decide (c ≠ 0)
def hitB (b s : List UInt8) : Bool := nameB s && (decide (fillL s 16 = b) || decide (fillL s 32 = b))
def stripB (b : List UInt8) : Bool := hitB b (cutZ b)
def stripL (b : List UInt8) : List UInt8 := if stripB b then cutZ b else []

theorem up_16 (n : Nat) (h : 1 ≤ n) : n ≤ upN n 16 ∧ upN n 16 < n + 16 ∧ upN n 16 % 16 = 0 := by unfold upN; omega
theorem up_32 (n : Nat) (h : 1 ≤ n) : n ≤ upN n 32 ∧ upN n 32 < n + 32 ∧ upN n 32 % 32 = 0 := by unfold upN; omega
theorem up_wide (n : Nat) : upN n 16 ≤ upN n 32 := by unfold upN; omega
theorem up_mono16 (m n : Nat) (h : m ≤ n) : upN m 16 ≤ upN n 16 := by unfold upN; omega
theorem up_mono32 (m n : Nat) (h : m ≤ n) : upN m 32 ≤ upN n 32 := by unfold upN; omega
theorem name_len {s : List UInt8} (h : nameB s = true) : 1 ≤ s.length ∧ s.length ≤ 96 := by
  simp only [nameB, Bool.and_eq_true, decide_eq_true_eq] at h
  exact h.1.1.2
theorem name_fit {s : List UInt8} (h : nameB s = true) : s.all fitB = true := by
  simp only [nameB, Bool.and_eq_true] at h
  exact h.1.1.1
theorem fill_len16 (s : List UInt8) (h : 1 ≤ s.length) : (fillL s 16).length = upN s.length 16 := by
  have := up_16 s.length h
  simp [fillL]; omega
theorem fill_len32 (s : List UInt8) (h : 1 ≤ s.length) : (fillL s 32).length = upN s.length 32 := by
  have := up_32 s.length h
  simp [fillL]; omega
theorem cut_zeros (s : List UInt8) (k : Nat) (h : s.all fitB = true) : cutZ (s ++ List.replicate k 0) = s := by
  induction s with
  | nil => cases k <;> simp [cutZ, List.replicate_succ]
  | cons c s ih =>
    simp only [List.all_cons, Bool.and_eq_true] at h
    have hc : c ≠ 0 := by
      have := h.1
      simp only [fitB, decide_eq_true_eq] at this
      exact this.1
    have := ih h.2
    unfold cutZ at this ⊢
    rw [List.cons_append, List.takeWhile_cons, if_pos (by simpa using hc), this]
/-- A name's filled form: the name stands before its first nought. -/
theorem cut_fill (s : List UInt8) (u : Nat) (h : nameB s = true) : cutZ (fillL s u) = s := cut_zeros s _ (name_fit h)
theorem hit_cut {b s : List UInt8} (h : hitB b s = true) : cutZ b = s := by
  simp only [hitB, Bool.and_eq_true, Bool.or_eq_true, decide_eq_true_eq] at h
  rcases h.2 with rfl | rfl
  · exact cut_fill s 16 h.1
  · exact cut_fill s 32 h.1
theorem hit_strip {b s : List UInt8} (h : hitB b s = true) : stripB b = true ∧ stripL b = s := by
  have := hit_cut h
  have h2 : stripB b = true := by unfold stripB; rw [this]; exact h
  exact ⟨h2, by unfold stripL; rw [if_pos h2, this]⟩
theorem strip_hit {b : List UInt8} (h : stripB b = true) : hitB b (b.take (cutZ b).length) = true ∧ 1 ≤ (cutZ b).length ∧ (cutZ b).length ≤ 96 ∧ (cutZ b).length ≤ b.length := by
  have hp : cutZ b <+: b := List.takeWhile_prefix _
  have ht : b.take (cutZ b).length = cutZ b := (List.prefix_iff_eq_take.1 hp).symm
  have hn : nameB (cutZ b) = true := by
    have : hitB b (cutZ b) = true := h
    simp only [hitB, Bool.and_eq_true] at this
    exact this.1
  exact ⟨by rw [ht]; exact h, (name_len hn).1, (name_len hn).2, hp.length_le⟩
theorem strip_none {b : List UInt8} (h : ∀ j, 1 ≤ j → j ≤ 96 → j ≤ b.length → hitB b (b.take j) = false) : stripB b = false ∧ stripL b = [] := by
  have h2 : stripB b = false := by
    cases he : stripB b with
    | false => rfl
    | true =>
      obtain ⟨h3, h4, h5, h6⟩ := strip_hit he
      rw [h _ h4 h5 h6] at h3
      cases h3
  exact ⟨h2, by unfold stripL; rw [h2]; rfl⟩
theorem strip_fill16 (s : List UInt8) (h : nameB s = true) : stripB (fillL s 16) = true ∧ stripL (fillL s 16) = s := hit_strip (by simp [hitB, h])
theorem strip_fill32 (s : List UInt8) (h : nameB s = true) : stripB (fillL s 32) = true ∧ stripL (fillL s 32) = s := hit_strip (by simp [hitB, h])
theorem fill_inj16 (a b : List UInt8) (ha : nameB a = true) (hb : nameB b = true) : fillL a 16 = fillL b 16 ↔ a = b := by
  constructor
  · intro h
    rw [← cut_fill a 16 ha, h, cut_fill b 16 hb]
  · rintro rfl; rfl
/-- What is filled by 16 is a beginning of what is by 32. -/
theorem fill_begin (a : List UInt8) (h : 1 ≤ a.length) : (fillL a 32).take (upN a.length 16) = fillL a 16 := by
  have h1 := up_16 a.length h
  have h2 := up_32 a.length h
  have h3 := up_wide a.length
  unfold fillL
  rw [List.take_append, List.take_of_length_le h1.1, List.take_replicate, Nat.min_eq_left (by omega)]
theorem strip_nil : stripB [] = false ∧ stripL [] = [] := strip_none fun j h1 _ h3 => by simp at h3; omega
theorem example_fill : nameB [97, 98, 99] = true ∧ fillL [97, 98, 99] 16 = [97, 98, 99, 0, 0, 0, 0, 0, 0, 0, 0, 0, 0, 0, 0, 0] := by decide
theorem example_strip : stripB (List.replicate 16 0) = false := by decide
end Go.Proofs.YtpfhpopfakfjhaaDoor.S10
