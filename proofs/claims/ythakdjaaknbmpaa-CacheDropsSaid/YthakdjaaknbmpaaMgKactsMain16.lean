/-
  A cache and its device together, in memory; the reference's Read. The program's device on lists: where its pending writes lie; the latest one of each sector.
-/
import Derived.Test.YthakdjaaknbmpaaMgKactsMain15
import Derived.Test.YthakdjaaknbmpaaMgKactsMain12
namespace Go.Proofs.Ythakdjaaknbmpaa.S14
open S13
open Cf
open Go.RowKit
set_option linter.unusedVariables false
set_option linter.unusedSimpArgs false

/-- A cache in memory: at G, in the blocks F, of the device at H, with so much room; what it keeps. -/
abbrev CTab := World → Nat → (Nat → Prop) → Nat → Nat → Ka → Prop
structure CKept (C : CTab) : Prop where
  foot : ∀ w G F H room l, C w G F H room l → ∀ k, F k → k < w.heap.size
  keep : ∀ w w' G F H room l, C w G F H room l → (∀ k, F k → w'.heap[k]? = w.heap[k]?) → w.heap.size ≤ w'.heap.size → C w' G F H room l
structure DKept (D : DTab) : Prop where
  foot : ∀ w G F st, D w G F st → ∀ k, F k → k < w.heap.size
  keep : ∀ w w' G F st, D w G F st → (∀ k, F k → w'.heap[k]? = w.heap[k]?) → w.heap.size ≤ w'.heap.size → D w' G F st
/-- Both together. -/
def Cd (D : DTab) (C : CTab) (w : World) (G H : Nat) (F : Nat → Prop) (room : Nat) (l : Ka) (dv : Dv) : Prop := ∃ Fc Fd, C w G Fc H room l ∧ D w H Fd dv ∧ (∀ k, Fc k → ¬ Fd k) ∧ ∀ k, F k ↔ Fc k ∨ Fd k
def CdOn (D : DTab) (C : CTab) (w : World) (G H : Nat) (F : Nat → Prop) (room : Nat) (l' : Ka) (dv' : Dv) (w' : World) : Prop := ∃ F', Cd D C w' G H F' room l' dv' ∧ (∀ k, F' k → F k ∨ w.heap.size ≤ k) ∧ Ch F w w'
def ROn (C : CTab) (w : World) (G : Nat) (F : Nat → Prop) (H room : Nat) (l' : Ka) (w' : World) : Prop := ∃ F', C w' G F' H room l' ∧ (∀ k, F' k → F k ∨ w.heap.size ≤ k) ∧ Ch F w w'
section
variable {D : DTab} {C : CTab} {w w1 w' : World} {G H room : Nat} {F F1 : Nat → Prop} {l l' l2 : Ka} {dv dv' dv2 : Dv}
theorem Cd.foot (KC : CKept C) (KD : DKept D) (h : Cd D C w G H F room l dv) : ∀ k, F k → k < w.heap.size := by
  obtain ⟨Fc, Fd, hc, hd, _, hF⟩ := h
  intro k hk
  rcases (hF k).1 hk with h1 | h1
  · exact KC.foot _ _ _ _ _ _ hc k h1
  · exact KD.foot _ _ _ _ hd k h1
theorem Cd.keep (KC : CKept C) (KD : DKept D) (h : Cd D C w G H F room l dv) (hk : ∀ k, F k → w'.heap[k]? = w.heap[k]?) (hs : w.heap.size ≤ w'.heap.size) : Cd D C w' G H F room l dv := by
  obtain ⟨Fc, Fd, hc, hd, ha, hF⟩ := h
  exact ⟨Fc, Fd, KC.keep _ _ _ _ _ _ _ hc (fun k h1 => hk k ((hF k).2 (.inl h1))) hs, KD.keep _ _ _ _ _ hd (fun k h1 => hk k ((hF k).2 (.inr h1))) hs, ha, hF⟩
theorem Cd.grow (KC : CKept C) (KD : DKept D) (h : Cd D C w G H F room l dv) (hg : Grown w w') : Cd D C w' G H F room l dv := h.keep KC KD (fun k hk => hg.block k (h.foot KC KD k hk)) hg.size
theorem cdOn_grow (KC : CKept C) (KD : DKept D) (h : Cd D C w G H F room l dv) (hg : Grown w w') : CdOn D C w G H F room l dv w' := ⟨F, h.grow KC KD hg, fun k hk => .inl hk, Ch.grown hg⟩
/-- The device goes on, by whatever does not turn the cache's own blocks. -/
theorem cd_dev (KC : CKept C) {Fc Fd : Nat → Prop} (hc : C w G Fc H room l) (ha : ∀ k, Fc k → ¬ Fd k) (hF : ∀ k, F k ↔ Fc k ∨ Fd k) (h : DOn D w H Fd dv' w') : CdOn D C w G H F room l dv' w' := by
  obtain ⟨Fd', h1, h2, h3⟩ := h
  refine ⟨fun k => Fc k ∨ Fd' k, ⟨Fc, Fd', KC.keep _ _ _ _ _ _ _ hc (fun k hk => h3.block k (KC.foot _ _ _ _ _ _ hc k hk) (ha k hk)) h3.size, h1, fun k hk hd => ?_, fun k => Iff.rfl⟩, ?_, ?_⟩
  · rcases h2 k hd with h4 | h4
    · exact ha k hk h4
    · have := KC.foot _ _ _ _ _ _ hc k hk; omega
  · rintro k (hk | hk)
    · exact .inl ((hF k).2 (.inl hk))
    · rcases h2 k hk with h4 | h4
      · exact .inl ((hF k).2 (.inr h4))
      · exact .inr h4
  · exact Ch.then (Ch.refl F w) h3 (fun k _ hk => (hF k).2 (.inr hk))
/-- .. with both parts in sight. -/
theorem cd_both (KC : CKept C) {Fc Fd : Nat → Prop} (hc : C w G Fc H room l) (ha : ∀ k, Fc k → ¬ Fd k) (hF : ∀ k, F k ↔ Fc k ∨ Fd k) (h : DOn D w H Fd dv' w') : ∃ Fd', C w' G Fc H room l ∧ D w' H Fd' dv' ∧ (∀ k, Fc k → ¬ Fd' k) ∧ (∀ k, Fc k ∨ Fd' k → F k ∨ w.heap.size ≤ k) ∧ Ch F w w' := by
  obtain ⟨Fd', h1, h2, h3⟩ := h
  refine ⟨Fd', KC.keep _ _ _ _ _ _ _ hc (fun k hk => h3.block k (KC.foot _ _ _ _ _ _ hc k hk) (ha k hk)) h3.size, h1, fun k hk hd => ?_, ?_, ?_⟩
  · rcases h2 k hd with h4 | h4
    · exact ha k hk h4
    · have := KC.foot _ _ _ _ _ _ hc k hk; omega
  · rintro k (hk | hk)
    · exact .inl ((hF k).2 (.inl hk))
    · rcases h2 k hk with h4 | h4
      · exact .inl ((hF k).2 (.inr h4))
      · exact .inr h4
  · exact Ch.then (Ch.refl F w) h3 (fun k _ hk => (hF k).2 (.inr hk))
theorem cd_cac (KD : DKept D) {Fc Fd : Nat → Prop} (hd : D w H Fd dv) (ha : ∀ k, Fc k → ¬ Fd k) (hF : ∀ k, F k ↔ Fc k ∨ Fd k) (h : ROn C w G Fc H room l' w') : CdOn D C w G H F room l' dv w' := by
  obtain ⟨Fc', h1, h2, h3⟩ := h
  refine ⟨fun k => Fc' k ∨ Fd k, ⟨Fc', Fd, h1, KD.keep _ _ _ _ _ hd (fun k hk => h3.block k (KD.foot _ _ _ _ hd k hk) (fun hc => ha k hc hk)) h3.size, fun k hk hd' => ?_, fun k => Iff.rfl⟩, ?_, ?_⟩
  · rcases h2 k hk with h4 | h4
    · exact ha k h4 hd'
    · have := KD.foot _ _ _ _ hd k hd'; omega
  · rintro k (hk | hk)
    · rcases h2 k hk with h4 | h4
      · exact .inl ((hF k).2 (.inl h4))
      · exact .inr h4
    · exact .inl ((hF k).2 (.inr hk))
  · exact Ch.then (Ch.refl F w) h3 (fun k _ hk => (hF k).2 (.inl hk))
theorem cdOn_trans (h1 : ∀ k, F1 k → F k ∨ w.heap.size ≤ k) (h2 : Ch F w w1) (h3 : CdOn D C w1 G H F1 room l2 dv2 w') : CdOn D C w G H F room l2 dv2 w' := by
  obtain ⟨F2, h4, h5, h6⟩ := h3
  refine ⟨F2, h4, fun k hk => ?_, Ch.then h2 h6 (fun k hk hf => ?_)⟩
  · rcases h5 k hk with h7 | h7
    · exact h1 k h7
    · exact .inr (Nat.le_trans h2.size h7)
  · rcases h1 k hf with h7 | h7
    · exact h7
    · omega
end
/-- The reference's. -/
def RC (base : Nat) : CTab := fun w Q F R room l => ∃ Aa Aw, Qv w base Q R Aa Aw room l ∧ F = QF Q Aa Aw
theorem rcKept (base : Nat) : CKept (RC base) where
  foot := by
    rintro w G F H room l ⟨Aa, Aw, h, rfl⟩ k hk
    exact (h.lt k hk).2
  keep := by
    rintro w w' G F H room l ⟨Aa, Aw, h, rfl⟩ hk _
    exact ⟨Aa, Aw, h.keep hk, rfl⟩
theorem rdKept (base : Nat) : DKept (RD base) where
  foot := fun w G F st h k hk => (rd_foot h k hk).2
  keep := fun w w' G F st h hk _ => rd_keep h hk
theorem rOn {base Q R room : Nat} {w w' : World} {Aa Aw : Option Addr} {l' : Ka} (h : QOn base Q R w (QF Q Aa Aw) room l' w') : ROn (RC base) w Q (QF Q Aa Aw) R room l' w' := by
  obtain ⟨Ba, Bw, h1, h2, h3⟩ := h
  exact ⟨QF Q Ba Bw, ⟨Ba, Bw, h1, rfl⟩, h2, h3⟩
theorem find_cons (l : Ka) (n : Int) (k : Nat) (hk : k < l.length) : kaFind (l.drop k) n = if ((l[k].1 : Nat) : Int) = n then some l[k].2 else kaFind (l.drop (k + 1)) n := by
  unfold kaFind
  rw [List.drop_eq_getElem_cons hk, List.find?_cons]
  by_cases e : ((l[k].1 : Nat) : Int) = n <;> simp [e]
set_option maxRecDepth 20000 in
set_option maxHeartbeats 8000000 in
theorem qRead {base : Nat} {w : World} {Q R room i : Nat} {F : Nat → Prop} {l : Ka} {dv : Dv} (h : Cd (RD base) (RC base) w Q R F room l dv) (hk : KOk room dv.kept.length l) (hd : Ok dv i) (hi : i ≤ 1000) (hl : dv.kept.length ≤ 100) (hr : room < 9223372036854775808) (n : Int) :
    Calls Try.prog 14 #[.pointer (some ⟨Q, 0, none⟩), .int .i64 n] w fun e w' => e = .returned (.tuple #[sv (kaRead room l dv n).1, .int .i64 (kaRead room l dv n).2.1]) ∧ CdOn (RD base) (RC base) w Q R F room (kaRead room l dv n).2.2.1 (kaRead room l dv n).2.2.2 w' := by
  have HAll := Lib.hid h
  obtain ⟨Fc, Fd, ⟨Aa, Aw, hq, rfl⟩, hD, ha, hF⟩ := h
  have H := Lib.hid hq
  have HDv := Lib.hid hD
  have HAp := Lib.hid ha
  have HFF := Lib.hid hF
  have HOk := Lib.hid hd
  have HKo := Lib.hid hk
  have HL := Lib.hid hl
  obtain ⟨m, hm⟩ : ∃ m, m = l.length := ⟨_, rfl⟩
  have HM := Lib.hid hm
  have hml : m ≤ 100 := by rw [hm]; exact Nat.le_trans hk.few hl
  obtain ⟨ca, cw, l1, l2, q0, q1, q2, q3⟩ := hq.cells
  rw [← hm] at l1 l2 q2 q3
  clear hq hD ha hF hd hk hl hm q1
  go_enter Try.func14, Try.ntmps14
  go_wp2_with fail
  go_loopw [6] (fun v6 wr => ∃ (k : Nat), v6 = .int .i64 (k : Int) ∧ k ≤ m ∧ Hid (kaFind (l.drop k) n = kaFind l n) ∧ wr = w) (fun v6 _ => m - (intOf v6).toNat)
  case atStart => exact ⟨0, rfl, Nat.zero_le _, rfl, rfl⟩
  case round =>
    obtain ⟨k, rfl, hk, HFd, rfl⟩ := hrel
    by_cases hlt : k < m
    · have bk : (k : Int) < (m : Int) := by omega
      have hkl : k < l.length := by have := HM.out; omega
      obtain ⟨ga, rfl, hga, hca⟩ := H.out.atAt k hkl
      obtain ⟨gw, rfl, hgw, hcw⟩ := H.out.whatAt k hkl
      obtain ⟨pa, hpa⟩ : ∃ p, p = l[k].1 := ⟨_, rfl⟩
      obtain ⟨pw, hpw⟩ : ∃ p, p = l[k].2 := ⟨_, rfl⟩
      have hpl : pa ≤ 100000 := by rw [hpa]; have := HKo.out.key l[k] (List.getElem_mem hkl); have := HL.out; omega
      have HC := Lib.hid (find_cons l n k hkl)
      rw [← hpa, ← hpw] at HC
      rw [← hpa] at hca
      rw [← hpw] at hcw
      clear hpa hpw
      by_cases hq : (pa : Int) = n
      · have HFs := Lib.hid (show kaFind l n = some pw by rw [← HFd.out, HC.out, if_pos hq])
        subst hq
        have bq : ((pa : Int) == (pa : Int)) = true := by simp
        go_wp2_with fail
        refine (qUse H.out (by have := HM.out; omega) hr pa hpl pw).mono ?_
        rintro e w1 ⟨rfl, hq⟩
        have HE := Lib.hid (show kaRead room l dv (pa : Int) = (pw, 0, kaUse room l pa pw, dv) by unfold kaRead; rw [HFs.out]; rfl)
        have HO := Lib.hid (cd_cac (rdKept base) HDv.out HAp.out HFF.out (rOn hq))
        clear hq
        go_wp2
        go_ret2
        rw [HE.out]
        exact ⟨rfl, HO.out⟩
      · have HF2 := Lib.hid (show kaFind (l.drop (k + 1)) n = kaFind l n by rw [← HFd.out, HC.out, if_neg hq])
        have bq : ((pa : Int) == n) = false := by simp [hq]
        clear HFd HC hq
        go_wp2
        go_roundw
        case rel => exact ⟨k + 1, by simp, by omega, HF2.out, trivial⟩
        case measure => simp [intOf]; omega
    · have bk : ¬ (k : Int) < (m : Int) := by omega
      have HFs := Lib.hid (show kaFind l n = none by
        rw [← HFd.out, List.drop_eq_nil_of_le (by have := HM.out; omega)]
        rfl)
      clear HFd
      go_wp2_with fail
      refine (rRead HDv.out HOk.out hi HL.out n).mono ?_
      rintro e w1 ⟨rfl, hdo⟩
      have HB := Lib.hid (cd_both (C := RC base) (rcKept base) ⟨Aa, Aw, H.out, rfl⟩ HAp.out HFF.out hdo)
      have HO := Lib.hid (cd_dev (C := RC base) (rcKept base) ⟨Aa, Aw, H.out, rfl⟩ HAp.out HFF.out hdo)
      have HQ1 := Lib.hid (show Qv w1 base Q R Aa Aw room l by
        obtain ⟨Fd', h1, h2, h3⟩ := hdo
        exact H.out.keep (fun k hk => h3.block k (H.out.lt k hk).2 (HAp.out k hk)))
      obtain ⟨E, hE⟩ : ∃ E, E = (dvRead dv n).2.1 := ⟨_, rfl⟩
      obtain ⟨T, hT⟩ : ∃ T, T = (dvRead dv n).1 := ⟨_, rfl⟩
      rw [← hE, ← hT]
      have HE := Lib.hid hE
      have HT := Lib.hid hT
      clear hdo hE hT
      by_cases he : E = 0
      · have HR := Lib.hid (show kaRead room l dv n = (T, 0, kaUse room l n.toNat T, (dvRead dv n).2.2) by
          unfold kaRead
          rw [HFs.out]
          show (if _ then _ else _) = _
          rw [if_pos (by rw [← HE.out]; exact he), ← HT.out])
        have hn := read_ok (HE.out.symm.trans he)
        obtain ⟨t, rfl⟩ : ∃ t : Nat, n = (t : Int) := ⟨n.toNat, by omega⟩
        have ht : t ≤ 100000 := by have := HL.out; omega
        subst he
        clear hn
        obtain ⟨T8, hT8⟩ : ∃ T8, sv T = .string T8 := ⟨_, rfl⟩
        have HT8 := Lib.hid hT8
        rw [hT8]
        clear hT8
        go_wp2_with fail
        have := qUse HQ1.out (by have := HM.out; omega) hr t ht T
        rw [show Value.string ⟨T.toArray⟩ = Value.string T8 from HT8.out] at this
        refine this.mono ?_
        rintro e w2 ⟨rfl, hq⟩
        have HO2 := Lib.hid (show CdOn (RD base) (RC base) wr Q R F room (kaUse room l t T) (dvRead dv (t : Int)).2.2 w2 by
          obtain ⟨Fd', h1, h2, h3, h4, h5⟩ := HB.out
          exact cdOn_trans h4 h5 (cd_cac (F := fun k => QF Q Aa Aw k ∨ Fd' k) (rdKept base) h2 h3 (fun k => Iff.rfl) (rOn hq)))
        clear hq
        go_wp2
        go_ret2
        rw [HR.out]
        exact ⟨by rw [HT8.out]; rfl, HO2.out⟩
      · have HR := Lib.hid (show kaRead room l dv n = ([], E, l, (dvRead dv n).2.2) by
          unfold kaRead
          rw [HFs.out]
          show (if _ then _ else _) = _
          rw [if_neg (by rw [← HE.out]; exact he), ← HE.out])
        have be : (E != 0) = true := by rw [bne_iff_ne]; exact he
        clear he
        go_wp2
        go_ret2
        rw [HR.out]
        exact ⟨rfl, HO.out⟩
end Go.Proofs.Ythakdjaaknbmpaa.S14
namespace Go.Proofs.Ythakdjaaknbmpaa.S13
set_option linter.unusedVariables false
set_option linter.unusedSimpArgs false

/-- A pending write: its block, its sector, its bytes. -/
abbrev Pw := Nat × Nat × List UInt8
/-- The block of the last one of a sector. -/
def lastB : Option Nat → List Pw → Nat → Option Nat
  | o, [], _ => o
  | o, p :: l, at_ => lastB (if p.2.1 = at_ then some p.1 else o) l at_
theorem lastB_snoc (o : Option Nat) (l : List Pw) (p : Pw) (at_ : Nat) : lastB o (l ++ [p]) at_ = if p.2.1 = at_ then some p.1 else lastB o l at_ := by
  induction l generalizing o with
  | nil => rfl
  | cons q l ih => exact ih _
theorem latest_snoc (s : List UInt8) (l : List (Nat × List UInt8)) (p : Nat × List UInt8) (at_ : Nat) : latest s (l ++ [p]) at_ = if p.1 = at_ then p.2 else latest s l at_ := by
  induction l generalizing s with
  | nil => rfl
  | cons q l ih => exact ih _
theorem snoc_ind {α : Type} {C : List α → Prop} (h0 : C []) (h1 : ∀ l p, C l → C (l ++ [p])) (l : List α) : C l := by
  have : ∀ m : List α, C m.reverse := by
    intro m
    induction m with
    | nil => exact h0
    | cons a m ih => rw [List.reverse_cons]; exact h1 _ _ ih
  have h := this l.reverse
  rwa [List.reverse_reverse] at h
theorem lastB_none (L : List Pw) (at_ : Nat) (h : ∀ p ∈ L, p.2.1 ≠ at_) : lastB none L at_ = none := by
  induction L using snoc_ind with
  | h0 => rfl
  | h1 l p ih =>
    rw [lastB_snoc, if_neg (h p (by simp))]
    exact ih fun q hq => h q (by simp [hq])
/-- What is seen, by the latest one's block. -/
theorem lastB_see (s : List UInt8) (L : List Pw) (at_ : Nat) :
    (lastB none L at_ = none ∧ latest s (L.map (·.2)) at_ = s) ∨ ∃ p ∈ L, lastB none L at_ = some p.1 ∧ p.2.1 = at_ ∧ latest s (L.map (·.2)) at_ = p.2.2 := by
  induction L using snoc_ind with
  | h0 => exact .inl ⟨rfl, rfl⟩
  | h1 l p ih =>
    rw [lastB_snoc, List.map_append, List.map_cons, List.map_nil, latest_snoc]
    by_cases h : p.2.1 = at_
    · rw [if_pos h, if_pos h]
      exact .inr ⟨p, by simp, rfl, h, rfl⟩
    · rw [if_neg h, if_neg h]
      rcases ih with h1 | ⟨q, hq, h1⟩
      · exact .inl h1
      · exact .inr ⟨q, by simp [hq], h1⟩
def keepW (a : Nat) (L : List Pw) : List Pw := L.filter fun p => decide (p.2.1 ≠ a)
theorem keepW_snoc (a : Nat) (l : List Pw) (p : Pw) : keepW a (l ++ [p]) = if p.2.1 = a then keepW a l else keepW a l ++ [p] := by
  unfold keepW
  rw [List.filter_append]
  by_cases h : p.2.1 = a <;> simp [h]
theorem lastB_keep (a : Nat) (L : List Pw) (at_ : Nat) : lastB none (keepW a L) at_ = if at_ = a then none else lastB none L at_ := by
  induction L using snoc_ind with
  | h0 => simp [keepW, lastB]
  | h1 l p ih =>
    rw [keepW_snoc, lastB_snoc]
    by_cases h : p.2.1 = a
    · rw [if_pos h, ih]
      by_cases h2 : at_ = a
      · rw [if_pos h2, if_pos h2]
      · rw [if_neg h2, if_neg h2, if_neg (by omega)]
    · rw [if_neg h, lastB_snoc, ih]
      by_cases h2 : at_ = a
      · rw [if_neg (by omega), if_pos h2, if_pos h2]
      · rw [if_neg h2, if_neg h2]
theorem keepW_map (a : Nat) (L : List Pw) : (keepW a L).map (·.2) = (L.map (·.2)).filter fun p => decide (p.1 ≠ a) := by
  unfold keepW
  rw [List.filter_map]
  rfl
theorem keepW_sub {a : Nat} {L : List Pw} {p : Pw} (h : p ∈ keepW a L) : p ∈ L := (List.mem_filter.1 h).1
/-- The row of the latest ones. -/
def latRow (n : Nat) (L : List Pw) : List (Option Nat) := (List.range n).map (lastB none L)
theorem latRow_len (n : Nat) (L : List Pw) : (latRow n L).length = n := by simp [latRow]
theorem latRow_nil (n : Nat) : latRow n [] = List.replicate n none := by
  apply List.ext_getElem
  · simp [latRow]
  · intro i h1 h2; simp [latRow, lastB]
theorem latRow_at (n : Nat) (L : List Pw) (i : Nat) (hi : i < n) : (latRow n L)[i]? = some (lastB none L i) := by
  simp [latRow, hi]
theorem latRow_snoc (n : Nat) (L : List Pw) (p : Pw) : latRow n (L ++ [p]) = (latRow n L).set p.2.1 (some p.1) := by
  apply List.ext_getElem
  · simp [latRow]
  · intro i h1 h2
    rw [List.getElem_set]
    simp only [latRow, List.getElem_map, List.getElem_range, lastB_snoc]
theorem latRow_keep (n : Nat) (L : List Pw) (a : Nat) : latRow n (keepW a L) = (latRow n L).set a none := by
  apply List.ext_getElem
  · simp [latRow]
  · intro i h1 h2
    rw [List.getElem_set]
    simp only [latRow, List.getElem_map, List.getElem_range, lastB_keep]
    by_cases h : i = a
    · rw [if_pos h, if_pos h.symm]
    · rw [if_neg h, if_neg (fun e => h e.symm)]
/-- All of the first k writes' sectors are cleared. -/
def wipe : List (Option Nat) → List Nat → List (Option Nat)
  | l, [] => l
  | l, a :: r => wipe (l.set a none) r
theorem wipe_len (l : List (Option Nat)) (r : List Nat) : (wipe l r).length = l.length := by
  induction r generalizing l with
  | nil => rfl
  | cons a r ih => show (wipe (l.set a none) r).length = _; rw [ih, List.length_set]
theorem wipe_snoc (l : List (Option Nat)) (r : List Nat) (a : Nat) : wipe l (r ++ [a]) = (wipe l r).set a none := by
  induction r generalizing l with
  | nil => rfl
  | cons b r ih => exact ih _
theorem wipe_at (l : List (Option Nat)) (r : List Nat) (i : Nat) : (wipe l r)[i]? = if i ∈ r then (if i < l.length then some none else none) else l[i]? := by
  induction r using snoc_ind with
  | h0 => simp [wipe]
  | h1 r a ih =>
    rw [wipe_snoc, List.getElem?_set, wipe_len]
    by_cases h : a = i
    · subst h; simp
    · rw [if_neg h, ih]
      by_cases hm : i ∈ r
      · rw [if_pos hm, if_pos (List.mem_append_left [a] hm)]
      · rw [if_neg hm, if_neg (fun e => by rcases List.mem_append.1 e with e | e; exact hm e; simp at e; exact h e.symm)]
theorem wipe_all (n : Nat) (L : List Pw) : wipe (latRow n L) (L.map (·.2.1)) = List.replicate n none := by
  apply List.ext_getElem?
  intro i
  rw [wipe_at, latRow_len]
  by_cases hi : i < n
  · by_cases hm : i ∈ L.map (·.2.1)
    · rw [if_pos hm, if_pos hi]; simp [hi]
    · rw [if_neg hm, latRow_at n L i hi, lastB_none L i (fun p hp e => hm (by rw [← e]; exact List.mem_map_of_mem (f := (·.2.1)) hp))]
      simp [hi]
  · rw [show (List.replicate n (none : Option Nat))[i]? = none by simp; omega, List.getElem?_eq_none (by rw [latRow_len]; omega)]
    simp [hi]
/-! ### rows of rows -/
theorem flat_len (k : List (List UInt8)) (h : ∀ s ∈ k, s.length = 512) : k.flatten.length = k.length * 512 := by
  induction k with
  | nil => rfl
  | cons s k ih => rw [List.flatten_cons, List.length_append, ih (fun q hq => h q (by simp [hq])), h s (by simp), List.length_cons]; omega
theorem flat_at (k : List (List UInt8)) (h : ∀ s ∈ k, s.length = 512) (i j : Nat) (hi : i < k.length) (hj : j < 512) : k.flatten[i * 512 + j]? = (k.getD i [])[j]? := by
  induction k generalizing i with
  | nil => simp at hi
  | cons s k ih =>
    have hs := h s (by simp)
    rw [List.flatten_cons]
    cases i with
    | zero => rw [List.getElem?_append_left (by omega)]; simp
    | succ i =>
      rw [List.getElem?_append_right (by omega), show (i + 1) * 512 + j - s.length = i * 512 + j by omega, ih (fun q hq => h q (by simp [hq])) i (by simpa using hi)]
      simp
set_option maxRecDepth 20000 in
theorem flat_set (k : List (List UInt8)) (h : ∀ s ∈ k, s.length = 512) (i : Nat) (hi : i < k.length) (b : List UInt8) (hb : b.length = 512) (m : Nat) :
    (k.set i b).flatten[m]? = if i * 512 ≤ m ∧ m < i * 512 + 512 then b[m - i * 512]? else k.flatten[m]? := by
  induction k generalizing i m with
  | nil => simp at hi
  | cons s k ih =>
    have hs := h s (by simp)
    cases i with
    | zero =>
      rw [List.set_cons_zero, List.flatten_cons, List.flatten_cons]
      by_cases hm : m < 512
      · rw [List.getElem?_append_left (by omega), if_pos (by omega)]; simp
      · rw [List.getElem?_append_right (by omega), List.getElem?_append_right (by omega), if_neg (by omega), hb, hs]
    | succ i =>
      rw [List.set_cons_succ, List.flatten_cons, List.flatten_cons]
      by_cases hm : m < 512
      · rw [List.getElem?_append_left (by omega), List.getElem?_append_left (by omega), if_neg (by omega)]
      · rw [List.getElem?_append_right (by omega), List.getElem?_append_right (by omega), ih (fun q hq => h q (by simp [hq])) i (by simpa using hi), hs]
        by_cases hc : i * 512 ≤ m - 512 ∧ m - 512 < i * 512 + 512
        · rw [if_pos hc, if_pos (by omega)]
          congr 1
          omega
        · rw [if_neg hc, if_neg (by omega)]
theorem flat_z (n : Nat) : (List.replicate n z512).flatten = List.replicate (n * 512) 0 := by
  induction n with
  | zero => rfl
  | succ n ih => rw [List.replicate_succ, List.flatten_cons, ih, show z512 = List.replicate 512 0 from rfl, List.replicate_append_replicate]; congr 1; omega
end Go.Proofs.Ythakdjaaknbmpaa.S13
