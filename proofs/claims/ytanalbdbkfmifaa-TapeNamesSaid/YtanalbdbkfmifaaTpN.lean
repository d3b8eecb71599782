/-
  TapeNames out of the program's contracts.
-/
import Derived.Test.YtanalbdbkfmifaaTpA
import Derived.Test.YtanalbdbkfmifaaTpQ
import Derived.Test.YtanalbdbkfmifaaGrt
namespace Go.Proofs.Ytanalbdbkfmifaa.S11
open Go.RowKit
set_option linter.unusedVariables false
set_option linter.unusedSimpArgs false

theorem cutn_lh (W : World) (A : Option Addr) (m c d e : Nat) (h : d ≤ e) (h2 : e ≤ c) : (Instr.slice 22 (.slice A m c) (some (.int .i64 (d : Int))) (some (.int .i64 (e : Int))) none).run Try.prog W = .ok (.slice (if c = d then A else A.map (·.add d)) (e - d) (c - d)) W := by
  obtain ⟨i0, hi, hz0, hz1, hz2⟩ := info_parts info5
  have he : Try.prog.elem 22 = 5 := by kernel_rfl
  rw [run_slice_lh W 22 A m c (by rw [he]; exact Try.underlying22) .i64 .i64 (d : Int) (e : Int) (by omega) (by omega) (by omega), he]
  simp [sizeOf, typeInfo, hi, hz1, sliced, Result.andThen]
theorem cutn_h (W : World) (A : Option Addr) (m c d : Nat) (h : d ≤ c) : (Instr.slice 22 (.slice A m c) none (some (.int .i64 (d : Int))) none).run Try.prog W = .ok (.slice A d c) W := by
  obtain ⟨i0, hi, hz0, hz1, hz2⟩ := info_parts info5
  have he : Try.prog.elem 22 = 5 := by kernel_rfl
  rw [run_slice_h W 22 A m c (by rw [he]; exact Try.underlying22) .i64 (d : Int) (by omega) (by omega), he]
  cases A <;> simp [sizeOf, typeInfo, hi, hz1, sliced, Result.andThen, Addr.add]
/-- The tape with noughts behind it. -/
def padS (s : List UInt8) (t : Nat) : List UInt8 := s ++ List.replicate t 0
theorem gz_pad (s : List UInt8) (t i : Nat) : gz (padS s t) i = gz s i := by
  unfold gz padS
  simp only [List.getD_eq_getElem?_getD, List.getElem?_append, List.getElem?_replicate]
  by_cases h : i < s.length
  · rw [if_pos h]
  · rw [if_neg h, List.getElem?_eq_none (by omega)]
    split <;> rfl
theorem draw_cut (s : List UInt8) (t k m : Nat) (h : k + m ≤ (padS s t).length) : ((padS s t).drop k).take m = drawO (s.drop k) m := by
  apply List.ext_getElem
  · rw [List.length_take, List.length_drop, drawO_len]; omega
  · intro i h1 h2
    rw [drawO_len] at h2
    have e1 : ((padS s t).drop k).take m = ((padS s t).drop k).take m := rfl
    have e2 : (((padS s t).drop k).take m)[i] = gz (padS s t) (k + i) := by
      simp only [List.getElem_take, List.getElem_drop, gz, List.getD_eq_getElem?_getD]
      rw [List.getElem?_eq_getElem (by omega)]
      rfl
    rw [e2, gz_pad]
    simp [drawO, gz_drop]
section
variable (seed x : List UInt8)
def nA : List UInt8 := drawO seed x.length
def nB : List UInt8 := drawO (seed.drop x.length) x.length
def nC : List UInt8 := drawO (seed.drop (2 * x.length)) x.length
def nD : List UInt8 := drawO (seed.drop (3 * x.length)) (x.length + 1)
def n1 : St := ⟨seed.drop x.length, [], [⟨[112], x, nA seed x⟩], false, 1⟩
def n2 : St := ⟨seed.drop (2 * x.length), [⟨[112], x, nB seed x⟩], [⟨[112], x, nA seed x⟩], false, 2⟩
def n3 : St := ⟨seed.drop (3 * x.length), [⟨[112], x, nB seed x⟩], [⟨[112], x, nA seed x⟩, ⟨[113], x, nC seed x⟩], false, 3⟩
def n4 : St := ⟨seed.drop (4 * x.length + 1), [⟨[112], x, nB seed x⟩], [⟨[112], x, nA seed x⟩, ⟨[113], x, nC seed x⟩, ⟨[112], nD seed x, 7 :: x⟩], false, 4⟩
theorem free_none (st : St) (name s : List UInt8) (first : Bool) (h : taken st.ps name (drawO st.seed s.length) (!first) = false) : freeY st name s first = drawO st.seed s.length :=
  adv_at (fun y => taken st.ps name y (!first)) 0 255 _ (by omega) (fun j hj => by omega) h
theorem new_pr (st : St) (name s : List UInt8) (first : Bool) (hs : s ≠ []) (hf : st.ps.find? (hitQ name s first) = none) (h : taken st.ps name (drawO st.seed s.length) (!first) = false) :
    prOp st name s first = (drawO st.seed s.length, ⟨st.seed.drop s.length, st.fs, st.ps ++ [told first name s (drawO st.seed s.length)], st.bad || false, st.cnt + 1⟩) := by
  unfold prOp
  rw [if_neg hs, hf]
  show (freeY st name s first, prNew st name s first) = _
  unfold prNew
  rw [free_none st name s first h, h]
theorem nm1 (hx : x ≠ []) : prOp (emp seed) [112] x true = (nA seed x, n1 seed x) := by
  rw [new_pr _ _ _ _ hx rfl rfl]
  rfl
theorem nm2 : fnOp (n1 seed x) [112] x (x.length : Int) = (nB seed x, n2 seed x) := by
  have e : (2 * x.length) = x.length + x.length := by omega
  show (drawO (seed.drop x.length) (x.length : Int).toNat, fnNew (n1 seed x) [112] x (drawO (seed.drop x.length) (x.length : Int).toNat) (x.length : Int).toNat) = _
  rw [Int.toNat_natCast]
  unfold n2
  rw [e, ← List.drop_drop]
  rfl
theorem nm3 (hx : x ≠ []) : prOp (n2 seed x) [113] x true = (nC seed x, n3 seed x) := by
  rw [new_pr _ _ _ _ hx (by simp [n2, hitQ]) (by simp [n2, taken, hitP])]
  have e : (3 * x.length) = 2 * x.length + x.length := by omega
  unfold n3
  rw [e, ← List.drop_drop]
  rfl
theorem nm4 : prOp (n3 seed x) [112] (7 :: x) false = (nD seed x, n4 seed x) := by
  rw [new_pr _ _ _ _ (by simp) (by simp [n3, hitQ]) (by simp [n3, taken, hitP, drawO_len])]
  have e : (4 * x.length + 1) = 3 * x.length + (x.length + 1) := by omega
  unfold n4
  rw [e, ← List.drop_drop]
  rfl
theorem nGood (hx : x ≠ []) : Good (n4 seed x).ps := by
  have h1 := pr_good (st := emp seed) good_nil [112] x true (by show 0 ≤ 255; omega)
  rw [nm1 seed x hx] at h1
  have h2 : Good (n2 seed x).ps := h1
  have h3 := pr_good h2 [113] x true (by show 1 ≤ 255; omega)
  rw [nm3 seed x hx] at h3
  have h4 := pr_good h3 [112] (7 :: x) false (by show 2 ≤ 255; omega)
  rw [nm4 seed x] at h4
  exact h4
theorem nm5 (hx : x ≠ []) : prOp (n4 seed x) [112] x true = (nA seed x, n4 seed x) := pr_again (st := n4 seed x) (nGood seed x hx) (t := ⟨[112], x, nA seed x⟩) (by simp [n4]) true hx
theorem nm6 (hx : x ≠ []) : prOp (n4 seed x) [113] (nC seed x) false = (x, n4 seed x) := pr_again (st := n4 seed x) (nGood seed x hx) (t := ⟨[113], x, nC seed x⟩) (by simp [n4]) false (by
  intro e
  have : (nC seed x).length = x.length := drawO_len _ _
  have e' : nC seed x = [] := e
  rw [e'] at this
  exact hx (List.eq_nil_of_length_eq_zero this.symm))
end

set_option maxHeartbeats 8000000 in
set_option maxRecDepth 20000 in
theorem names_walk11 {Lz : Tab} (K : TapeOk Lz) (A : Option Addr) (n c : Nat) (seed : List UInt8) (X : Option Addr) (m d : Nat) (x : List UInt8) (w : World) (hA : Rd w w.heap.size A seed) (hn : seed.length = n) (hc : n ≤ c) (hX : Rd w w.heap.size X x) (hm : x.length = m) (hd : m ≤ d) :
    Calls Try.prog 6 #[.slice A n c, .slice X m d] w fun e w' => e = .returned (.bool true) ∧ Below w.heap.size w w' := by
  have HA := Lib.hid hA
  have HN := Lib.hid hn
  have HX := Lib.hid hX
  have HM := Lib.hid hm
  clear hA hn hX hm
  have early : ∀ (hno : (n : Int) > 300 ∨ m = 0 ∨ (m : Int) > 50), Calls Try.prog 6 #[.slice A n c, .slice X m d] w fun e w' => e = .returned (.bool true) ∧ Below w.heap.size w w' := by
    intro hno
    by_cases h1 : (n : Int) > 300
    · clear hno
      go_enter Try.func6, Try.ntmps6
      go_wp2_with fail
      refine (awakeT K w).mono ?_
      rintro e w1 ⟨rfl, hg1⟩
      go_wp2_with fail
      refine (awakeT K w1).mono ?_
      rintro e w2 ⟨rfl, hg2⟩
      have HG := Lib.hid (Grown.trans hg1 hg2)
      go_wp2
      go_ret
      exact ⟨rfl, HG.out⟩
    by_cases h2 : m = 0
    · subst h2
      clear hno
      go_enter Try.func6, Try.ntmps6
      go_wp2_with fail
      refine (awakeT K w).mono ?_
      rintro e w1 ⟨rfl, hg1⟩
      go_wp2_with fail
      refine (awakeT K w1).mono ?_
      rintro e w2 ⟨rfl, hg2⟩
      have HG := Lib.hid (Grown.trans hg1 hg2)
      go_wp2
      go_ret
      exact ⟨rfl, HG.out⟩
    have h3 : (m : Int) > 50 := by omega
    have b2 : ((m : Int) == 0) = false := by simp; omega
    clear hno
    go_enter Try.func6, Try.ntmps6
    go_wp2_with fail
    refine (awakeT K w).mono ?_
    rintro e w1 ⟨rfl, hg1⟩
    go_wp2_with fail
    refine (awakeT K w1).mono ?_
    rintro e w2 ⟨rfl, hg2⟩
    have HG := Lib.hid (Grown.trans hg1 hg2)
    go_wp2
    go_ret
    exact ⟨rfl, HG.out⟩
  by_cases h1 : (n : Int) > 300
  · exact early (.inl h1)
  by_cases h2 : m = 0
  · exact early (.inr (.inl h2))
  by_cases h3 : (m : Int) > 50
  · exact early (.inr (.inr h3))
  clear early
  have hx : x ≠ [] := fun e => h2 (by rw [← HM.out, e]; rfl)
  have HXN := Lib.hid hx
  have b2 : ((m : Int) == 0) = false := by simp; omega
  have hn3 : n ≤ 300 := by omega
  have hm5 : m ≤ 50 := by omega
  have hm0 : 1 ≤ m := by omega
  clear h2 hx
  go_enter Try.func6, Try.ntmps6
  go_wp2_with fail
  refine (awakeT K w).mono ?_
  rintro e w1 ⟨rfl, hg1⟩
  have G1 := Lib.hid hg1
  clear hg1
  go_wp2_with fail
  refine (K.new A n c seed w1 (HA.out.grow G1.out) HN.out hc (by omega)).mono ?_
  rintro e w2 ⟨G, F2, rfl, hl, hF, hg⟩
  have Z2 := Lib.hid (show Since Lz w w2 G F2 (emp seed) from ⟨hl, fun k hk => Nat.le_trans G1.out.size (hF k hk), Grown.trans G1.out hg⟩)
  clear hl hF hg G1
  go_wp2_with fail
  refine (K.forw w2 G F2 (emp seed) [112] X m d x Z2.out.1 (by simp [Few, emp]) (by simp) (by omega) HM.out hd (HX.out.grow Z2.out.2.2) (fun y hy hne hf => by have := Z2.out.2.1 _ hf; rcases HX.out with e | ⟨b5, o5, e, hb5, _⟩; exact hne e; rw [e] at hy; simp only [Option.some.injEq] at hy; subst hy; simp only at this; omega)).mono ?_
  rintro e w3 ⟨A3, n3, c3, F3, rfl, hl, hc2, hr, ha, hz, hf, hch⟩
  rw [nm1 seed x HXN.out] at hl hr ha hz
  obtain ⟨l3, hl3⟩ : ∃ l3, l3 = nA seed x := ⟨_, rfl⟩
  rw [← hl3] at hl hr
  have HL3 := Lib.hid hl3
  have Z3 := Lib.hid (Z2.out.step hz hf hch)
  have hcv := conv hr c3
  rw [hl] at hcv
  have HLn3 := Lib.hid hl
  clear hl hc2 hr ha hz hf hch hl3 Z2
  have hcx : ∀ V, Grown w V → (convert 22 9 (.slice X m d)).run Try.prog V = .ok (.string ⟨x.toArray⟩) V := fun V hV => conv_at HX.out HM.out d V hV
  have hcx3 := hcx w3 Z3.out.2.2
  go_wp2_with fail
  refine (K.func w3 G F3 (S11.n1 seed x) [112] x (m : Int) Z3.out.1 (by simp [Few, S11.n1]) (by simp) (by rw [HM.out]; omega) (by omega)).mono ?_
  rintro e w4 ⟨A4, n4, c4, F4, rfl, hl, hc2, hr, ha, hz, hf, hch⟩
  rw [show fnOp (S11.n1 seed x) [112] x (m : Int) = (nB seed x, S11.n2 seed x) by rw [← HM.out]; exact nm2 seed x] at hl hr ha hz
  obtain ⟨l4, hl4⟩ : ∃ l4, l4 = nB seed x := ⟨_, rfl⟩
  rw [← hl4] at hl hr
  have HL4 := Lib.hid hl4
  have Z4 := Lib.hid (Z3.out.step hz hf hch)
  have hcv := conv hr c4
  rw [hl] at hcv
  have HLn4 := Lib.hid hl
  clear hl hc2 hr ha hz hf hch hl4 Z3
  clear hcx3
  go_wp2_with fail
  refine (K.forw w4 G F4 (S11.n2 seed x) [113] X m d x Z4.out.1 (by simp [Few, S11.n2]) (by simp) (by omega) HM.out hd (HX.out.grow Z4.out.2.2) (fun y hy hne hf => by have := Z4.out.2.1 _ hf; rcases HX.out with e | ⟨b5, o5, e, hb5, _⟩; exact hne e; rw [e] at hy; simp only [Option.some.injEq] at hy; subst hy; simp only at this; omega)).mono ?_
  rintro e w5 ⟨A5, n5, c5, F5, rfl, hl, hc2, hr, ha, hz, hf, hch⟩
  rw [nm3 seed x HXN.out] at hl hr ha hz
  obtain ⟨l5, hl5⟩ : ∃ l5, l5 = nC seed x := ⟨_, rfl⟩
  rw [← hl5] at hl hr
  have HL5 := Lib.hid hl5
  have Z5 := Lib.hid (Z4.out.step hz hf hch)
  have hcv := conv hr c5
  rw [hl] at hcv
  have HLn5 := Lib.hid hl
  clear hl hc2 hr ha hz hf hch hl5 Z4
  obtain ⟨m1, hm1⟩ : ∃ m1, m1 = m + 1 := ⟨_, rfl⟩
  have HM1 := Lib.hid (show ((7 : UInt8) :: x).length = m1 by rw [List.length_cons, HM.out, hm1])
  have hm1b : m1 ≤ 51 := by omega
  have HFt := Lib.hid (show ∀ k, F5 k → k < w5.heap.size from K.foot w5 G F5 _ Z5.out.1)
  clear hm1
  go_wp2_with (first
    | (at_builtin
       refine wpList_app rfl (.tmp 48) (.tmp 49) rfl (base := w5.heap.size) (l := [7]) rfl (Own.lit w5 [7] (Nat.le_refl _) (by simp)) (l2 := x) (by rw [HM.out]; rfl) ((HX.out.grow Z5.out.2.2).grow (alloc_below w5 _)) (by rw [HM.out]; simp; omega) (by simp) (7 :: x) rfl ?_
       intro A6 c6 w6 ho6 hb6
       rw [HM1.out]
       have O6 := Lib.hid ho6
       have Z6 := Lib.hid (Z5.out.grow K (show Grown w5 w6 from Below.trans (alloc_below w5 _) hb6))
       clear ho6 hb6))
  refine (K.back w6 G F5 (S11.n3 seed x) [112] A6 m1 c6 (7 :: x) Z6.out.1 (by simp [Few, S11.n3]) (by simp) (by omega) HM1.out (by have := O6.out.le; rw [HM1.out] at this; exact this) O6.out.rd (fun y hy _ hf => by have h1 := (O6.out.lt y hy).1; have h2 := HFt.out _ hf; omega)).mono ?_
  rintro e w7 ⟨A7, n7, c7, F7, rfl, hl, hc2, hr, ha, hz, hf, hch⟩
  rw [nm4 seed x] at hl hr ha hz
  obtain ⟨l7, hl7⟩ : ∃ l7, l7 = nD seed x := ⟨_, rfl⟩
  rw [← hl7] at hl hr
  have HL7 := Lib.hid hl7
  have Z7 := Lib.hid (Z6.out.step hz hf hch)
  have hcv7 := conv hr c7
  rw [hl] at hcv7
  clear hl hc2 hr ha hz hf hch hl7 Z6 O6 Z5 HFt
  go_wp2_with fail
  obtain ⟨m4, hm4⟩ : ∃ m4, m4 = 4 * m := ⟨_, rfl⟩
  obtain ⟨m5, hm5q⟩ : ∃ m5, m5 = m4 + 1 := ⟨_, rfl⟩
  have e4 : (4 : Int) * (m : Int) = (m4 : Int) := by omega
  have e5 : (m4 : Int) + 1 = (m5 : Int) := by omega
  have hm4b : m4 ≤ 200 := by omega
  have HM4 := Lib.hid hm4
  have HM5 := Lib.hid hm5q
  have hm5b : m5 ≤ 201 := by omega
  clear hm4 hm5q hcv7
  go_loopw [10] (fun v10 wr => ∃ (B : Option Addr) (L cb t : Nat), v10 = .slice B L cb ∧ L ≤ cb ∧ L ≤ 300 ∧ Hid ((padS seed t).length = L) ∧ Hid (Rd wr wr.heap.size B (padS seed t)) ∧ Hid (∀ y, B = some y → padS seed t ≠ [] → ¬ F7 y.block) ∧ Hid (Since Lz w wr G F7 (S11.n4 seed x))) (fun v10 _ => m5 - (match v10 with | .slice _ L _ => L | _ => 0))
  case atStart => exact ⟨A, n, c, 0, rfl, hc, hn3, (by show (padS seed 0).length = n; simp [padS, HN.out]), (by show Rd w7 _ _ (padS seed 0); simp [padS]; exact HA.out.grow Z7.out.2.2), (fun y hy hne hf => by
    have h7 := Z7.out.2.1 _ hf
    rcases HA.out with e | ⟨b5, o5, e, hb5, _⟩
    · exact hne (by simp [padS, e])
    · rw [e] at hy; simp only [Option.some.injEq] at hy; subst hy; simp only at h7; omega), Z7.out⟩
  case round =>
    clear Z7
    obtain ⟨B, L, cb, t, rfl, hLc, hL3, HLp, HR, HBF, HZ⟩ := hrel
    by_cases hlt : L < m5
    · have bl : (L : Int) < (m5 : Int) := by omega
      have HP := Lib.hid (show padS seed t ++ [0] = padS seed (t + 1) by simp [padS, List.replicate_succ'])
      have HPl := Lib.hid (show (padS seed (t + 1)).length = L + 1 by rw [← HP.out, List.length_append, HLp.out]; rfl)
      go_wp2_with (first
        | (at_builtin
           refine wpList_app rfl (.tmp 61) (.tmp 62) rfl (base := wr.heap.size) (l := []) rfl (Own.lit wr [] (Nat.le_refl _) (by simp)) (l2 := padS seed t) (by rw [HLp.out]; rfl) (HR.out.grow (alloc_below wr _)) (by rw [HLp.out]; simp; omega) (by simp) (padS seed t) (by simp) ?_
           intro A8 c8 w8 ho8 hb8
           rw [HLp.out]
           have O8 := Lib.hid ho8
           have G8 := Lib.hid (show Below wr.heap.size wr w8 from Below.trans (alloc_below wr _) hb8)
           clear ho8 hb8)
        | (at_builtin
           refine wpList_app rfl (.tmp 63) (.tmp 64) rfl (base := wr.heap.size) (l := padS seed t) (by rw [HLp.out]; rfl) (O8.out.grow (alloc_below w8 _)) (l2 := [0]) rfl ((Row.new w8 [0]).rd (Nat.lt_succ_self _)) (by rw [HLp.out]; simp; omega) (by have := G8.out.size; simp; omega) (padS seed (t + 1)) HP.out ?_
           intro A9 c9 w9 ho9 hb9
           rw [HPl.out]
           have O9 := Lib.hid ho9
           have Z9 := Lib.hid (HZ.out.grow K (show Grown wr w9 from Below.trans (G8.out.alloc (by exact G8.out.size) _) hb9))
           clear ho9 hb9))
      go_roundw
      case rel => exact ⟨A9, L + 1, c9, t + 1, rfl, (by have := O9.out.le; rw [HPl.out] at this; exact this), by omega, HPl.out, O9.out.rd, (fun y hy _ hf => by have h1 := (O9.out.lt y hy).1; have h2 := K.foot wr G F7 _ HZ.out.1 _ hf; omega), Z9.out⟩
      case measure => simp; omega
    · have bl : ¬ (L : Int) < (m5 : Int) := by omega
      have hmm4 := HM4.out
      have hmm5 := HM5.out
      obtain ⟨m2, hm2⟩ : ∃ m2, m2 = 2 * m := ⟨_, rfl⟩
      obtain ⟨m3, hm3⟩ : ∃ m3, m3 = 3 * m := ⟨_, rfl⟩
      have hm1q : m1 = m + 1 := by have := HM1.out; rw [List.length_cons, HM.out] at this; omega
      have e2 : (2 : Int) * (m : Int) = (m2 : Int) := by omega
      have e3 : (3 : Int) * (m : Int) = (m3 : Int) := by omega
      have ew2 : IntKind.i64.wrap (m2 : Int) = (m2 : Int) := by rw [IntKind.wrap_i64]; omega
      have ew3 : IntKind.i64.wrap (m3 : Int) = (m3 : Int) := by rw [IntKind.wrap_i64]; omega
      have ew4 : IntKind.i64.wrap (m4 : Int) = (m4 : Int) := by rw [IntKind.wrap_i64]; omega
      have ew5 : IntKind.i64.wrap (m5 : Int) = (m5 : Int) := by rw [IntKind.wrap_i64]; omega
      have hs1 : ∀ V : World, (Instr.slice 22 (.slice B L cb) none (some (.int .i64 (m : Int))) none).run Try.prog V = .ok (.slice B m cb) V := fun V => cutn_h V B L cb m (by omega)
      have hl1 : (padS seed t).take m = l3 := by
        have := draw_cut seed t 0 m (by rw [HLp.out]; omega)
        rw [HL3.out]
        unfold nA
        rw [HM.out]
        simpa using this
      have hv1 : ∀ v, Rd v v.heap.size B (padS seed t) → (convert 22 9 (.slice B m cb)).run Try.prog v = .ok (.string ⟨l3.toArray⟩) v := fun v hv => by
        have h7 := conv (hv.take m) cb
        rw [hl1] at h7
        have h8 : l3.length = m := by rw [← hl1, List.length_take, HLp.out]; omega
        rw [h8] at h7
        exact h7
      obtain ⟨B2, hB2⟩ : ∃ B2, B2 = if cb = m then B else B.map (·.add m) := ⟨_, rfl⟩
      obtain ⟨d2, hd2⟩ : ∃ d2, d2 = cb - m := ⟨_, rfl⟩
      have hs2 : ∀ V : World, (Instr.slice 22 (.slice B L cb) (some (.int .i64 (m : Int))) (some (.int .i64 (m2 : Int))) none).run Try.prog V = .ok (.slice B2 m d2) V := fun V => by
        rw [hB2, hd2, cutn_lh V B L cb m m2 (by omega) (by omega), show m2 - m = m by omega]
      have hl2 : ((padS seed t).drop m).take m = l4 := by
        rw [draw_cut seed t m m (by rw [HLp.out]; omega), HL4.out]
        unfold nB
        rw [HM.out]
        try first | rfl | (congr 2 <;> omega)
      have hv2 : ∀ v, Rd v v.heap.size B (padS seed t) → (convert 22 9 (.slice B2 m d2)).run Try.prog v = .ok (.string ⟨l4.toArray⟩) v := fun v hv => by
        have h7 := conv ((hv.cut (k := m) (cap := cb) (by rw [HLp.out]; exact hLc)).take m) d2
        rw [hl2, ← hB2] at h7
        have h8 : l4.length = m := by rw [← hl2, List.length_take, List.length_drop, HLp.out]; omega
        rw [h8] at h7
        exact h7
      obtain ⟨B3, hB3⟩ : ∃ B3, B3 = if cb = m2 then B else B.map (·.add m2) := ⟨_, rfl⟩
      obtain ⟨d3, hd3⟩ : ∃ d3, d3 = cb - m2 := ⟨_, rfl⟩
      have hs3 : ∀ V : World, (Instr.slice 22 (.slice B L cb) (some (.int .i64 (m2 : Int))) (some (.int .i64 (m3 : Int))) none).run Try.prog V = .ok (.slice B3 m d3) V := fun V => by
        rw [hB3, hd3, cutn_lh V B L cb m2 m3 (by omega) (by omega), show m3 - m2 = m by omega]
      have hl3 : ((padS seed t).drop m2).take m = l5 := by
        rw [draw_cut seed t m2 m (by rw [HLp.out]; omega), HL5.out]
        unfold nC
        rw [HM.out]
        try first | rfl | (congr 2 <;> omega)
      have hv3 : ∀ v, Rd v v.heap.size B (padS seed t) → (convert 22 9 (.slice B3 m d3)).run Try.prog v = .ok (.string ⟨l5.toArray⟩) v := fun v hv => by
        have h7 := conv ((hv.cut (k := m2) (cap := cb) (by rw [HLp.out]; exact hLc)).take m) d3
        rw [hl3, ← hB3] at h7
        have h8 : l5.length = m := by rw [← hl3, List.length_take, List.length_drop, HLp.out]; omega
        rw [h8] at h7
        exact h7
      obtain ⟨B4, hB4⟩ : ∃ B4, B4 = if cb = m3 then B else B.map (·.add m3) := ⟨_, rfl⟩
      obtain ⟨d4, hd4⟩ : ∃ d4, d4 = cb - m3 := ⟨_, rfl⟩
      have hs4 : ∀ V : World, (Instr.slice 22 (.slice B L cb) (some (.int .i64 (m3 : Int))) (some (.int .i64 (m5 : Int))) none).run Try.prog V = .ok (.slice B4 m1 d4) V := fun V => by
        rw [hB4, hd4, cutn_lh V B L cb m3 m5 (by omega) (by omega), show m5 - m3 = m1 by omega]
      have hl4 : ((padS seed t).drop m3).take m1 = l7 := by
        rw [draw_cut seed t m3 m1 (by rw [HLp.out]; omega), HL7.out]
        unfold nD
        rw [HM.out]
        try first | rfl | (congr 2 <;> omega)
      have hv4 : ∀ v, Rd v v.heap.size B (padS seed t) → (convert 22 9 (.slice B4 m1 d4)).run Try.prog v = .ok (.string ⟨l7.toArray⟩) v := fun v hv => by
        have h7 := conv ((hv.cut (k := m3) (cap := cb) (by rw [HLp.out]; exact hLc)).take m1) d4
        rw [hl4, ← hB4] at h7
        have h8 : l7.length = m1 := by rw [← hl4, List.length_take, List.length_drop, HLp.out]; omega
        rw [h8] at h7
        exact h7
      have HS := Lib.hid (show ∀ v, Rd v v.heap.size B (padS seed t) → Grown w v → (fun v : World => (convert 22 9 (.slice B m cb)).run Try.prog v = .ok (.string ⟨l3.toArray⟩) v ∧ (convert 22 9 (.slice B2 m d2)).run Try.prog v = .ok (.string ⟨l4.toArray⟩) v ∧ (convert 22 9 (.slice B3 m d3)).run Try.prog v = .ok (.string ⟨l5.toArray⟩) v ∧ (convert 22 9 (.slice B4 m1 d4)).run Try.prog v = .ok (.string ⟨l7.toArray⟩) v ∧ (convert 22 9 (.slice X m d)).run Try.prog v = .ok (.string ⟨x.toArray⟩) v) v from fun v h1 h2 => ⟨hv1 v h1, hv2 v h1, hv3 v h1, hv4 v h1, conv_at HX.out HM.out d v h2⟩)
      have HC5 := Lib.hid (show l5.length = m by rw [HL5.out]; unfold nC; rw [drawO_len, HM.out])
      clear hB2 hB3 hB4 hd2 hd3 hd4 hl1 hl2 hl3 hl4 hm2 hm3 hm1q hmm4 hmm5 hv1 hv2 hv3 hv4
      go_wp2_with fail
      try simp only [Act.put, List.setIfInBounds_toArray, List.set_cons_zero, List.set_cons_succ]
      refine restS_begin (fun v : World => (convert 22 9 (.slice B m cb)).run Try.prog v = .ok (.string ⟨l3.toArray⟩) v ∧ (convert 22 9 (.slice B2 m d2)).run Try.prog v = .ok (.string ⟨l4.toArray⟩) v ∧ (convert 22 9 (.slice B3 m d3)).run Try.prog v = .ok (.string ⟨l5.toArray⟩) v ∧ (convert 22 9 (.slice B4 m1 d4)).run Try.prog v = .ok (.string ⟨l7.toArray⟩) v ∧ (convert 22 9 (.slice X m d)).run Try.prog v = .ok (.string ⟨x.toArray⟩) v) (by kernel_rfl) ?_
      have Z0 := Lib.hid (HZ.out.grow K (show Grown wr wr.drew from (Grown.refl wr).drew))
      have R0 := Lib.hid (show Rd wr.drew wr.drew.heap.size B (padS seed t) from HR.out)
      clear HZ HR
      generalize wr.drew = w0 at Z0 R0 ⊢
      have S0 := Lib.hid (HS.out w0 R0.out Z0.out.2.2)
      refine restS_take (i := 0) S0.out rfl (by kernel_rfl) (by kernel_rfl) (by kernel_rfl) (by rfl) (fun v hv => by obtain ⟨v1, v2, v3, v4, v5⟩ := hv; go_simp; try with_reducible rfl) ?_
      try simp only [Act.put, List.setIfInBounds_toArray, List.set_cons_zero, List.set_cons_succ]
      refine restS_take (i := 1) S0.out rfl (by kernel_rfl) (by kernel_rfl) (by kernel_rfl) (by rfl) (fun v hv => by obtain ⟨v1, v2, v3, v4, v5⟩ := hv; go_simp; try with_reducible rfl) ?_
      try simp only [Act.put, List.setIfInBounds_toArray, List.set_cons_zero, List.set_cons_succ]
      refine restS_take (i := 2) S0.out rfl (by kernel_rfl) (by kernel_rfl) (by kernel_rfl) (by rfl) (fun v hv => by obtain ⟨v1, v2, v3, v4, v5⟩ := hv; go_simp; try with_reducible rfl) ?_
      try simp only [Act.put, List.setIfInBounds_toArray, List.set_cons_zero, List.set_cons_succ]
      refine restS_take (i := 3) S0.out rfl (by kernel_rfl) (by kernel_rfl) (by kernel_rfl) (by rfl) (fun v hv => by obtain ⟨v1, v2, v3, v4, v5⟩ := hv; go_simp; try with_reducible rfl) ?_
      try simp only [Act.put, List.setIfInBounds_toArray, List.set_cons_zero, List.set_cons_succ]
      refine restS_take (i := 4) S0.out rfl (by kernel_rfl) (by kernel_rfl) (by kernel_rfl) (by rfl) (fun v hv => by obtain ⟨v1, v2, v3, v4, v5⟩ := hv; go_simp; try with_reducible rfl) ?_
      try simp only [Act.put, List.setIfInBounds_toArray, List.set_cons_zero, List.set_cons_succ]
      refine restS_take (i := 5) S0.out rfl (by kernel_rfl) (by kernel_rfl) (by kernel_rfl) (by rfl) (fun v hv => by obtain ⟨v1, v2, v3, v4, v5⟩ := hv; go_simp; try with_reducible rfl) ?_
      try simp only [Act.put, List.setIfInBounds_toArray, List.set_cons_zero, List.set_cons_succ]
      refine restS_take (i := 6) S0.out rfl (by kernel_rfl) (by kernel_rfl) (by kernel_rfl) (by rfl) (fun v hv => by obtain ⟨v1, v2, v3, v4, v5⟩ := hv; go_simp; try with_reducible rfl) ?_
      try simp only [Act.put, List.setIfInBounds_toArray, List.set_cons_zero, List.set_cons_succ]
      refine restS_take (i := 7) S0.out rfl (by kernel_rfl) (by kernel_rfl) (by kernel_rfl) (by rfl) (fun v hv => by obtain ⟨v1, v2, v3, v4, v5⟩ := hv; go_simp; try with_reducible rfl) ?_
      try simp only [Act.put, List.setIfInBounds_toArray, List.set_cons_zero, List.set_cons_succ]
      refine restS_take (i := 8) S0.out rfl (by kernel_rfl) (by kernel_rfl) (by kernel_rfl) (by rfl) (fun v hv => by obtain ⟨v1, v2, v3, v4, v5⟩ := hv; go_simp; try with_reducible rfl) ?_
      try simp only [Act.put, List.setIfInBounds_toArray, List.set_cons_zero, List.set_cons_succ]
      refine restS_take (i := 9) S0.out rfl (by kernel_rfl) (by kernel_rfl) (by kernel_rfl) (by rfl) (fun v hv => by obtain ⟨v1, v2, v3, v4, v5⟩ := hv; go_simp; try with_reducible rfl) ?_
      try simp only [Act.put, List.setIfInBounds_toArray, List.set_cons_zero, List.set_cons_succ]
      refine restS_take (i := 10) S0.out rfl (by kernel_rfl) (by kernel_rfl) (by kernel_rfl) (by rfl) (fun v hv => by obtain ⟨v1, v2, v3, v4, v5⟩ := hv; go_simp; try with_reducible rfl) ?_
      try simp only [Act.put, List.setIfInBounds_toArray, List.set_cons_zero, List.set_cons_succ]
      refine restS_take (i := 11) S0.out rfl (by kernel_rfl) (by kernel_rfl) (by kernel_rfl) (by rfl) (fun v hv => by obtain ⟨v1, v2, v3, v4, v5⟩ := hv; go_simp; try with_reducible rfl) ?_
      try simp only [Act.put, List.setIfInBounds_toArray, List.set_cons_zero, List.set_cons_succ]
      refine restS_take (i := 12) S0.out rfl (by kernel_rfl) (by kernel_rfl) (by kernel_rfl) (by rfl) (fun v hv => by obtain ⟨v1, v2, v3, v4, v5⟩ := hv; go_simp; try with_reducible rfl) ?_
      try simp only [Act.put, List.setIfInBounds_toArray, List.set_cons_zero, List.set_cons_succ]
      refine restS_take (i := 13) S0.out rfl (by kernel_rfl) (by kernel_rfl) (by kernel_rfl) (by rfl) (fun v hv => by obtain ⟨v1, v2, v3, v4, v5⟩ := hv; go_simp; try with_reducible rfl) ?_
      try simp only [Act.put, List.setIfInBounds_toArray, List.set_cons_zero, List.set_cons_succ]
      refine restS_take (i := 14) S0.out rfl (by kernel_rfl) (by kernel_rfl) (by kernel_rfl) (by rfl) (fun v hv => by obtain ⟨v1, v2, v3, v4, v5⟩ := hv; go_simp; try with_reducible rfl) ?_
      try simp only [Act.put, List.setIfInBounds_toArray, List.set_cons_zero, List.set_cons_succ]
      refine restS_take (i := 15) S0.out rfl (by kernel_rfl) (by kernel_rfl) (by kernel_rfl) (by rfl) (fun v hv => by obtain ⟨v1, v2, v3, v4, v5⟩ := hv; go_simp; try with_reducible rfl) ?_
      try simp only [Act.put, List.setIfInBounds_toArray, List.set_cons_zero, List.set_cons_succ]
      refine restS_take (i := 16) S0.out rfl (by kernel_rfl) (by kernel_rfl) (by kernel_rfl) (by rfl) (fun v hv => by obtain ⟨v1, v2, v3, v4, v5⟩ := hv; go_simp; try with_reducible rfl) ?_
      try simp only [Act.put, List.setIfInBounds_toArray, List.set_cons_zero, List.set_cons_succ]
      refine restS_take (i := 17) S0.out rfl (by kernel_rfl) (by kernel_rfl) (by kernel_rfl) (by rfl) (fun v hv => by obtain ⟨v1, v2, v3, v4, v5⟩ := hv; go_simp; try with_reducible rfl) ?_
      try simp only [Act.put, List.setIfInBounds_toArray, List.set_cons_zero, List.set_cons_succ]
      refine restS_take (i := 18) S0.out rfl (by kernel_rfl) (by kernel_rfl) (by kernel_rfl) (by rfl) (fun v hv => by obtain ⟨v1, v2, v3, v4, v5⟩ := hv; go_simp; try with_reducible rfl) ?_
      try simp only [Act.put, List.setIfInBounds_toArray, List.set_cons_zero, List.set_cons_succ]
      refine restS_take (i := 19) S0.out rfl (by kernel_rfl) (by kernel_rfl) (by kernel_rfl) (by rfl) (fun v hv => by obtain ⟨v1, v2, v3, v4, v5⟩ := hv; go_simp; try with_reducible rfl) ?_
      try simp only [Act.put, List.setIfInBounds_toArray, List.set_cons_zero, List.set_cons_succ]
      refine restS_take (i := 20) S0.out rfl (by kernel_rfl) (by kernel_rfl) (by kernel_rfl) (by rfl) (fun v hv => by obtain ⟨v1, v2, v3, v4, v5⟩ := hv; go_simp; try with_reducible rfl) ?_
      try simp only [Act.put, List.setIfInBounds_toArray, List.set_cons_zero, List.set_cons_succ]
      refine restS_take (i := 21) S0.out rfl (by kernel_rfl) (by kernel_rfl) (by kernel_rfl) (by rfl) (fun v hv => by obtain ⟨v1, v2, v3, v4, v5⟩ := hv; go_simp; try with_reducible rfl) ?_
      try simp only [Act.put, List.setIfInBounds_toArray, List.set_cons_zero, List.set_cons_succ]
      refine restS_take (i := 22) S0.out rfl (by kernel_rfl) (by kernel_rfl) (by kernel_rfl) (by rfl) (fun v hv => by obtain ⟨v1, v2, v3, v4, v5⟩ := hv; go_simp; try with_reducible rfl) ?_
      try simp only [Act.put, List.setIfInBounds_toArray, List.set_cons_zero, List.set_cons_succ]
      refine restS_take (i := 23) S0.out rfl (by kernel_rfl) (by kernel_rfl) (by kernel_rfl) (by rfl) (fun v hv => by obtain ⟨v1, v2, v3, v4, v5⟩ := hv; go_simp; try with_reducible rfl) ?_
      try simp only [Act.put, List.setIfInBounds_toArray, List.set_cons_zero, List.set_cons_succ]
      refine restS_take (i := 24) S0.out rfl (by kernel_rfl) (by kernel_rfl) (by kernel_rfl) (by rfl) (fun v hv => by obtain ⟨v1, v2, v3, v4, v5⟩ := hv; go_simp; try with_reducible rfl) ?_
      try simp only [Act.put, List.setIfInBounds_toArray, List.set_cons_zero, List.set_cons_succ]
      refine restS_take (i := 25) S0.out rfl (by kernel_rfl) (by kernel_rfl) (by kernel_rfl) (by rfl) (fun v hv => by obtain ⟨v1, v2, v3, v4, v5⟩ := hv; go_simp; try with_reducible rfl) ?_
      try simp only [Act.put, List.setIfInBounds_toArray, List.set_cons_zero, List.set_cons_succ]
      refine restS_take (i := 26) S0.out rfl (by kernel_rfl) (by kernel_rfl) (by kernel_rfl) (by rfl) (fun v hv => by obtain ⟨v1, v2, v3, v4, v5⟩ := hv; go_simp; try with_reducible rfl) ?_
      try simp only [Act.put, List.setIfInBounds_toArray, List.set_cons_zero, List.set_cons_succ]
      refine restS_take (i := 27) S0.out rfl (by kernel_rfl) (by kernel_rfl) (by kernel_rfl) (by rfl) (fun v hv => by obtain ⟨v1, v2, v3, v4, v5⟩ := hv; go_simp; try with_reducible rfl) ?_
      try simp only [Act.put, List.setIfInBounds_toArray, List.set_cons_zero, List.set_cons_succ]
      refine restS_take (i := 28) S0.out rfl (by kernel_rfl) (by kernel_rfl) (by kernel_rfl) (by rfl) (fun v hv => by obtain ⟨v1, v2, v3, v4, v5⟩ := hv; go_simp; try with_reducible rfl) ?_
      try simp only [Act.put, List.setIfInBounds_toArray, List.set_cons_zero, List.set_cons_succ]
      refine restS_take (i := 29) S0.out rfl (by kernel_rfl) (by kernel_rfl) (by kernel_rfl) (by rfl) (fun v hv => by obtain ⟨v1, v2, v3, v4, v5⟩ := hv; go_simp; try with_reducible rfl) ?_
      try simp only [Act.put, List.setIfInBounds_toArray, List.set_cons_zero, List.set_cons_succ]
      refine restS_take (i := 30) S0.out rfl (by kernel_rfl) (by kernel_rfl) (by kernel_rfl) (by rfl) (fun v hv => by obtain ⟨v1, v2, v3, v4, v5⟩ := hv; go_simp; try with_reducible rfl) ?_
      try simp only [Act.put, List.setIfInBounds_toArray, List.set_cons_zero, List.set_cons_succ]
      refine restS_take (i := 31) S0.out rfl (by kernel_rfl) (by kernel_rfl) (by kernel_rfl) (by rfl) (fun v hv => by obtain ⟨v1, v2, v3, v4, v5⟩ := hv; go_simp; try with_reducible rfl) ?_
      try simp only [Act.put, List.setIfInBounds_toArray, List.set_cons_zero, List.set_cons_succ]
      refine restS_take (i := 32) S0.out rfl (by kernel_rfl) (by kernel_rfl) (by kernel_rfl) (by rfl) (fun v hv => by obtain ⟨v1, v2, v3, v4, v5⟩ := hv; go_simp; try with_reducible rfl) ?_
      try simp only [Act.put, List.setIfInBounds_toArray, List.set_cons_zero, List.set_cons_succ]
      refine restS_take (i := 33) S0.out rfl (by kernel_rfl) (by kernel_rfl) (by kernel_rfl) (by rfl) (fun v hv => by obtain ⟨v1, v2, v3, v4, v5⟩ := hv; go_simp; try with_reducible rfl) ?_
      try simp only [Act.put, List.setIfInBounds_toArray, List.set_cons_zero, List.set_cons_succ]
      refine restS_take (i := 34) S0.out rfl (by kernel_rfl) (by kernel_rfl) (by kernel_rfl) (by rfl) (fun v hv => by obtain ⟨v1, v2, v3, v4, v5⟩ := hv; go_simp; try with_reducible rfl) ?_
      try simp only [Act.put, List.setIfInBounds_toArray, List.set_cons_zero, List.set_cons_succ]
      refine restS_take (i := 35) S0.out rfl (by kernel_rfl) (by kernel_rfl) (by kernel_rfl) (by rfl) (fun v hv => by obtain ⟨v1, v2, v3, v4, v5⟩ := hv; go_simp; try with_reducible rfl) ?_
      try simp only [Act.put, List.setIfInBounds_toArray, List.set_cons_zero, List.set_cons_succ]
      refine restS_take (i := 36) S0.out rfl (by kernel_rfl) (by kernel_rfl) (by kernel_rfl) (by rfl) (fun v hv => by obtain ⟨v1, v2, v3, v4, v5⟩ := hv; go_simp; try with_reducible rfl) ?_
      try simp only [Act.put, List.setIfInBounds_toArray, List.set_cons_zero, List.set_cons_succ]
      refine restS_take (i := 37) S0.out rfl (by kernel_rfl) (by kernel_rfl) (by kernel_rfl) (by rfl) (fun v hv => by obtain ⟨v1, v2, v3, v4, v5⟩ := hv; go_simp; try with_reducible rfl) ?_
      try simp only [Act.put, List.setIfInBounds_toArray, List.set_cons_zero, List.set_cons_succ]
      refine restS_take (i := 38) S0.out rfl (by kernel_rfl) (by kernel_rfl) (by kernel_rfl) (by rfl) (fun v hv => by obtain ⟨v1, v2, v3, v4, v5⟩ := hv; go_simp; try with_reducible rfl) ?_
      try simp only [Act.put, List.setIfInBounds_toArray, List.set_cons_zero, List.set_cons_succ]
      refine restS_take (i := 39) S0.out rfl (by kernel_rfl) (by kernel_rfl) (by kernel_rfl) (by rfl) (fun v hv => by obtain ⟨v1, v2, v3, v4, v5⟩ := hv; go_simp; try with_reducible rfl) ?_
      try simp only [Act.put, List.setIfInBounds_toArray, List.set_cons_zero, List.set_cons_succ]
      refine restS_take (i := 40) S0.out rfl (by kernel_rfl) (by kernel_rfl) (by kernel_rfl) (by rfl) (fun v hv => by obtain ⟨v1, v2, v3, v4, v5⟩ := hv; go_simp; try with_reducible rfl) ?_
      try simp only [Act.put, List.setIfInBounds_toArray, List.set_cons_zero, List.set_cons_succ]
      refine restS_lone (i := 41) rfl (by kernel_rfl) (by rfl) (fun K1 hK1 => ?_)
      go_simp
      refine (K.bad w0 G F7 (S11.n4 seed x) Z0.out.1).mono ?_
      rintro e w10 ⟨rfl, hg⟩
      have Z10 := Lib.hid (Z0.out.grow K hg)
      have R10 := Lib.hid (R0.out.grow hg)
      have S10 := Lib.hid (HS.out w10 R10.out Z10.out.2.2)
      refine hK1.out _ _ S10.out ?_
      clear hK1 K1 hg Z0 R0 S0
      try simp only [Act.put, List.setIfInBounds_toArray, List.set_cons_zero, List.set_cons_succ]
      refine restS_take (i := 42) S10.out rfl (by kernel_rfl) (by kernel_rfl) (by kernel_rfl) (by rfl) (fun v hv => by obtain ⟨v1, v2, v3, v4, v5⟩ := hv; go_simp; try with_reducible rfl) ?_
      try simp only [Act.put, List.setIfInBounds_toArray, List.set_cons_zero, List.set_cons_succ]
      refine restS_take (i := 43) S10.out rfl (by kernel_rfl) (by kernel_rfl) (by kernel_rfl) (by rfl) (fun v hv => by obtain ⟨v1, v2, v3, v4, v5⟩ := hv; go_simp; try with_reducible rfl) ?_
      try simp only [Act.put, List.setIfInBounds_toArray, List.set_cons_zero, List.set_cons_succ]
      refine restS_take (i := 44) S10.out rfl (by kernel_rfl) (by kernel_rfl) (by kernel_rfl) (by rfl) (fun v hv => by obtain ⟨v1, v2, v3, v4, v5⟩ := hv; go_simp; try with_reducible rfl) ?_
      try simp only [Act.put, List.setIfInBounds_toArray, List.set_cons_zero, List.set_cons_succ]
      refine restS_take (i := 45) S10.out rfl (by kernel_rfl) (by kernel_rfl) (by kernel_rfl) (by rfl) (fun v hv => by obtain ⟨v1, v2, v3, v4, v5⟩ := hv; go_simp; try with_reducible rfl) ?_
      try simp only [Act.put, List.setIfInBounds_toArray, List.set_cons_zero, List.set_cons_succ]
      refine restS_lone (i := 46) rfl (by kernel_rfl) (by rfl) (fun K1 hK1 => ?_)
      go_simp
      refine (K.count w10 G F7 (S11.n4 seed x) Z10.out.1).mono ?_
      rintro e w11 ⟨rfl, hg⟩
      have Z11 := Lib.hid (Z10.out.grow K hg)
      have R11 := Lib.hid (R10.out.grow hg)
      have S11w := Lib.hid (HS.out w11 R11.out Z11.out.2.2)
      refine hK1.out _ _ S11w.out ?_
      clear hK1 K1 hg Z10 R10 S10
      try simp only [Act.put, List.setIfInBounds_toArray, List.set_cons_zero, List.set_cons_succ]
      refine restS_take (i := 47) S11w.out rfl (by kernel_rfl) (by kernel_rfl) (by kernel_rfl) (by rfl) (fun v hv => by obtain ⟨v1, v2, v3, v4, v5⟩ := hv; go_simp; try with_reducible rfl) ?_
      try simp only [Act.put, List.setIfInBounds_toArray, List.set_cons_zero, List.set_cons_succ]
      refine restS_take (i := 48) S11w.out rfl (by kernel_rfl) (by kernel_rfl) (by kernel_rfl) (by rfl) (fun v hv => by obtain ⟨v1, v2, v3, v4, v5⟩ := hv; go_simp; try with_reducible rfl) ?_
      try simp only [Act.put, List.setIfInBounds_toArray, List.set_cons_zero, List.set_cons_succ]
      refine restS_take (i := 49) S11w.out rfl (by kernel_rfl) (by kernel_rfl) (by kernel_rfl) (by rfl) (fun v hv => by obtain ⟨v1, v2, v3, v4, v5⟩ := hv; go_simp; try with_reducible rfl) ?_
      try simp only [Act.put, List.setIfInBounds_toArray, List.set_cons_zero, List.set_cons_succ]
      refine restS_take (i := 50) S11w.out rfl (by kernel_rfl) (by kernel_rfl) (by kernel_rfl) (by rfl) (fun v hv => by obtain ⟨v1, v2, v3, v4, v5⟩ := hv; go_simp; try with_reducible rfl) ?_
      try simp only [Act.put, List.setIfInBounds_toArray, List.set_cons_zero, List.set_cons_succ]
      refine restS_take (i := 51) S11w.out rfl (by kernel_rfl) (by kernel_rfl) (by kernel_rfl) (by rfl) (fun v hv => by obtain ⟨v1, v2, v3, v4, v5⟩ := hv; go_simp; try with_reducible rfl) ?_
      try simp only [Act.put, List.setIfInBounds_toArray, List.set_cons_zero, List.set_cons_succ]
      have HB11 := HBF
      refine restS_take (i := 54) S11w.out rfl (by kernel_rfl) (by kernel_rfl) (by kernel_rfl) (by rfl) (fun v hv => by obtain ⟨v1, v2, v3, v4, v5⟩ := hv; go_simp; try with_reducible rfl) ?_
      try simp only [Act.put, List.setIfInBounds_toArray, List.set_cons_zero, List.set_cons_succ]
      refine restS_lone (i := 52) rfl (by kernel_rfl) (by rfl) (fun K1 hK1 => ?_)
      go_simp
      refine (K.forw w11 G F7 (S11.n4 seed x) [112] X m d x Z11.out.1 (by simp [Few, S11.n4]) (by simp) (by omega) HM.out hd (HX.out.grow Z11.out.2.2) (fun y hy hne hf => by have := Z11.out.2.1 _ hf; rcases HX.out with e | ⟨b5, o5, e, hb5, _⟩; exact hne e; rw [e] at hy; simp only [Option.some.injEq] at hy; subst hy; simp only at this; omega)).mono ?_
      rintro e w12 ⟨A12, k12, c12, F12, rfl, hl, hcc, hr, ha, hz, hf, hch⟩
      rw [nm5 seed x HXN.out, ← HL3.out] at hl hr hz
      have Z12 := Lib.hid (Z11.out.step hz hf hch)
      have R12 := Lib.hid (show Rd w12 w12.heap.size B (padS seed t) by
        rcases R11.out with e | ⟨b7, o7, e, hb7, hc7⟩
        · exact .inl e
        · by_cases hne : padS seed t = []
          · exact .inl hne
          · exact .inr ⟨b7, o7, e, Nat.lt_of_lt_of_le hb7 hch.size, fun j hj => (World.cell?_of_block (hch.block b7 hb7 (fun hf7 => HB11.out _ e hne hf7))).trans (hc7 j hj)⟩)
      have HB12 := Lib.hid (show ∀ y, B = some y → padS seed t ≠ [] → ¬ F12 y.block from fun y hy hne hf7 => by
        rcases hf _ hf7 with h8 | h8
        · exact HB11.out y hy hne h8
        · rcases R11.out with e | ⟨b7, o7, e, hb7, _⟩
          · exact hne e
          · rw [e] at hy; simp only [Option.some.injEq] at hy; subst hy; simp only at h8; omega)
      have S12 := Lib.hid (HS.out w12 R12.out Z12.out.2.2)
      have hcvr := conv hr c12
      rw [hl] at hcvr
      refine hK1.out _ _ S12.out ?_
      clear hK1 K1 hl hcc hr ha hz hf hch Z11 R11 S11w
      try simp only [Act.put, List.setIfInBounds_toArray, List.set_cons_zero, List.set_cons_succ]
      refine restS_lone (i := 53) rfl (by kernel_rfl) (by rfl) (fun K1 hK1 => ?_)
      go_simp
      refine hK1.out _ _ S12.out ?_
      clear hK1 K1 hcvr
      try simp only [Act.put, List.setIfInBounds_toArray, List.set_cons_zero, List.set_cons_succ]
      refine restS_take (i := 55) S12.out rfl (by kernel_rfl) (by kernel_rfl) (by kernel_rfl) (by rfl) (fun v hv => by obtain ⟨v1, v2, v3, v4, v5⟩ := hv; go_simp; try with_reducible rfl) ?_
      try simp only [Act.put, List.setIfInBounds_toArray, List.set_cons_zero, List.set_cons_succ]
      refine restS_take (i := 56) S12.out rfl (by kernel_rfl) (by kernel_rfl) (by kernel_rfl) (by rfl) (fun v hv => by obtain ⟨v1, v2, v3, v4, v5⟩ := hv; go_simp; try with_reducible rfl) ?_
      try simp only [Act.put, List.setIfInBounds_toArray, List.set_cons_zero, List.set_cons_succ]
      refine restS_take (i := 57) S12.out rfl (by kernel_rfl) (by kernel_rfl) (by kernel_rfl) (by rfl) (fun v hv => by obtain ⟨v1, v2, v3, v4, v5⟩ := hv; go_simp; try with_reducible rfl) ?_
      try simp only [Act.put, List.setIfInBounds_toArray, List.set_cons_zero, List.set_cons_succ]
      refine restS_take (i := 58) S12.out rfl (by kernel_rfl) (by kernel_rfl) (by kernel_rfl) (by rfl) (fun v hv => by obtain ⟨v1, v2, v3, v4, v5⟩ := hv; go_simp; try with_reducible rfl) ?_
      try simp only [Act.put, List.setIfInBounds_toArray, List.set_cons_zero, List.set_cons_succ]
      refine restS_take (i := 59) S12.out rfl (by kernel_rfl) (by kernel_rfl) (by kernel_rfl) (by rfl) (fun v hv => by obtain ⟨v1, v2, v3, v4, v5⟩ := hv; go_simp; try with_reducible rfl) ?_
      try simp only [Act.put, List.setIfInBounds_toArray, List.set_cons_zero, List.set_cons_succ]
      refine restS_take (i := 63) S12.out rfl (by kernel_rfl) (by kernel_rfl) (by kernel_rfl) (by rfl) (fun v hv => by obtain ⟨v1, v2, v3, v4, v5⟩ := hv; go_simp; try with_reducible rfl) ?_
      try simp only [Act.put, List.setIfInBounds_toArray, List.set_cons_zero, List.set_cons_succ]
      refine restS_take (i := 64) S12.out rfl (by kernel_rfl) (by kernel_rfl) (by kernel_rfl) (by rfl) (fun v hv => by obtain ⟨v1, v2, v3, v4, v5⟩ := hv; go_simp; try with_reducible rfl) ?_
      try simp only [Act.put, List.setIfInBounds_toArray, List.set_cons_zero, List.set_cons_succ]
      refine restS_lone (i := 60) rfl (by kernel_rfl) (by rfl) (fun K1 hK1 => ?_)
      obtain ⟨cc5, w13, hcvb, hcb, hbq, hg13⟩ := conv_bq w12 l5
      rw [HC5.out] at hcvb hcb
      obtain ⟨gb, hgb⟩ : ∃ gb, gb = w12.heap.size := ⟨_, rfl⟩
      have HFB := Lib.hid (show ∀ k, F12 k → k ≠ gb from fun k hk e => by have := K.foot w12 G F12 _ Z12.out.1 k hk; omega)
      have Rq := Lib.hid hbq.rd
      rw [← hgb] at hcvb
      rw [← hgb] at Rq
      have Z13 := Lib.hid (Z12.out.grow K hg13)
      have R13 := Lib.hid (R12.out.grow hg13)
      have S13 := Lib.hid (HS.out w13 R13.out Z13.out.2.2)
      have HB13 := HB12
      clear hgb
      go_simp
      refine hK1.out _ _ S13.out ?_
      clear hK1 K1 hcvb hbq hg13 Z12 R12 S12
      try simp only [Act.put, List.setIfInBounds_toArray, List.set_cons_zero, List.set_cons_succ]
      refine restS_lone (i := 61) rfl (by kernel_rfl) (by rfl) (fun K1 hK1 => ?_)
      go_simp
      refine (K.back w13 G F12 (S11.n4 seed x) [113] (some ⟨gb, 0, none⟩) m cc5 l5 Z13.out.1 (by simp [Few, S11.n4]) (by simp) (by omega) HC5.out hcb Rq.out (fun y hy _ hf => by simp only [Option.some.injEq] at hy; subst hy; exact HFB.out _ hf rfl)).mono ?_
      rintro e w14 ⟨A14, k14, c14, F14, rfl, hl, hcc, hr, ha, hz, hf, hch⟩
      rw [HL5.out, nm6 seed x HXN.out] at hl hr hz
      have Z14 := Lib.hid (Z13.out.step hz hf hch)
      have R14 := Lib.hid (show Rd w14 w14.heap.size B (padS seed t) by
        rcases R13.out with e | ⟨b7, o7, e, hb7, hc7⟩
        · exact .inl e
        · by_cases hne : padS seed t = []
          · exact .inl hne
          · exact .inr ⟨b7, o7, e, Nat.lt_of_lt_of_le hb7 hch.size, fun j hj => (World.cell?_of_block (hch.block b7 hb7 (fun hf7 => HB13.out _ e hne hf7))).trans (hc7 j hj)⟩)
      have HB14 := Lib.hid (show ∀ y, B = some y → padS seed t ≠ [] → ¬ F14 y.block from fun y hy hne hf7 => by
        rcases hf _ hf7 with h8 | h8
        · exact HB13.out y hy hne h8
        · rcases R13.out with e | ⟨b7, o7, e, hb7, _⟩
          · exact hne e
          · rw [e] at hy; simp only [Option.some.injEq] at hy; subst hy; simp only at h8; omega)
      have S14 := Lib.hid (HS.out w14 R14.out Z14.out.2.2)
      have hcvr := conv hr c14
      rw [hl] at hcvr
      refine hK1.out _ _ S14.out ?_
      clear hK1 K1 hl hcc hr ha hz hf hch Z13 R13 S13
      try simp only [Act.put, List.setIfInBounds_toArray, List.set_cons_zero, List.set_cons_succ]
      refine restS_lone (i := 62) rfl (by kernel_rfl) (by rfl) (fun K1 hK1 => ?_)
      go_simp
      refine hK1.out _ _ S14.out ?_
      clear hK1 K1 hcvr
      try simp only [Act.put, List.setIfInBounds_toArray, List.set_cons_zero, List.set_cons_succ]
      refine restS_take (i := 65) S14.out rfl (by kernel_rfl) (by kernel_rfl) (by kernel_rfl) (by rfl) (fun v hv => by obtain ⟨v1, v2, v3, v4, v5⟩ := hv; go_simp; try with_reducible rfl) ?_
      try simp only [Act.put, List.setIfInBounds_toArray, List.set_cons_zero, List.set_cons_succ]
      refine restS_take (i := 66) S14.out rfl (by kernel_rfl) (by kernel_rfl) (by kernel_rfl) (by rfl) (fun v hv => by obtain ⟨v1, v2, v3, v4, v5⟩ := hv; go_simp; try with_reducible rfl) ?_
      try simp only [Act.put, List.setIfInBounds_toArray, List.set_cons_zero, List.set_cons_succ]
      refine restS_take (i := 67) S14.out rfl (by kernel_rfl) (by kernel_rfl) (by kernel_rfl) (by rfl) (fun v hv => by obtain ⟨v1, v2, v3, v4, v5⟩ := hv; go_simp; try with_reducible rfl) ?_
      try simp only [Act.put, List.setIfInBounds_toArray, List.set_cons_zero, List.set_cons_succ]
      refine restS_done (by kernel_rfl) ?_
      have GF := Lib.hid Z14.out.2.2
      go_wp2
      go_ret
      exact ⟨rfl, GF.out⟩
end Go.Proofs.Ytanalbdbkfmifaa.S11
