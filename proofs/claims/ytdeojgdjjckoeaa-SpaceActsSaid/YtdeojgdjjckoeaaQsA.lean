/-
  Contracts of the program's space: moveAll, Settle, Undo.
-/
import Derived.Test.YtdeojgdjjckoeaaQsV
import Derived.Test.YtdeojgdjjckoeaaShelf
import Derived.Lib.IndexLaws
namespace Go.Proofs.Ytdeojgdjjckoeaa.S15
open Cf
open Go.RowKit
set_option linter.unusedVariables false
set_option linter.unusedSimpArgs false
theorem byte_eq {u v : Int} (hu : 0 ≤ u) (hu2 : u ≤ 2) (hv : 0 ≤ v) (hv2 : v ≤ 2) : UInt8.ofNat u.toNat = v.toNat.toUInt8 ↔ u = v := by
  have h1 : u = 0 ∨ u = 1 ∨ u = 2 := by omega
  have h2 : v = 0 ∨ v = 1 ∨ v = 2 := by omega
  rcases h1 with rfl | rfl | rfl <;> rcases h2 with rfl | rfl | rfl <;> decide
theorem idx_cases {xs : List Int} {fr : Int} (hx : ∀ (j : Nat) (h : j < xs.length), 0 ≤ xs[j] ∧ xs[j] ≤ 2) (f0 : 0 ≤ fr) (f2 : fr ≤ 2) :
    (Lib.indexByte (Lib.bytesOf xs) fr.toNat.toUInt8 = -1 ∧ ∀ (j : Nat) (h : j < xs.length), xs[j] ≠ fr) ∨ ∃ (J : Nat) (hJ : J < xs.length), Lib.indexByte (Lib.bytesOf xs) fr.toNat.toUInt8 = (J : Int) ∧ xs[J] = fr ∧ ∀ (j : Nat) (h : j < J), xs[j]'(by omega) ≠ fr := by
  have key : ∀ (j : Nat) (h : j < xs.length), (Lib.bytesOf xs)[j]? = some fr.toNat.toUInt8 ↔ xs[j] = fr := by
    intro j h
    unfold Lib.bytesOf
    rw [List.getElem?_map, List.getElem?_eq_getElem h]
    simp only [Option.map_some, Option.some.injEq]
    exact byte_eq (hx j h).1 (hx j h).2 f0 f2
  rcases (show Lib.indexByte (Lib.bytesOf xs) fr.toNat.toUInt8 < 0 ∨ 0 ≤ Lib.indexByte (Lib.bytesOf xs) fr.toNat.toUInt8 by omega) with hneg | hpos
  · have e : Lib.indexByte (Lib.bytesOf xs) fr.toNat.toUInt8 = -1 := by have := Lib.indexByte_ge (Lib.bytesOf xs) fr.toNat.toUInt8; omega
    exact .inl ⟨e, fun j h e2 => Lib.indexByte_none e j ((key j h).2 e2)⟩
  · obtain ⟨J, hJ⟩ : ∃ J : Nat, Lib.indexByte (Lib.bytesOf xs) fr.toNat.toUInt8 = (J : Int) := ⟨(Lib.indexByte (Lib.bytesOf xs) fr.toNat.toUInt8).toNat, by omega⟩
    obtain ⟨h1, h2⟩ := Lib.indexByte_some hJ
    have hl : J < xs.length := by
      have := (List.getElem?_eq_some_iff.1 h1).1
      unfold Lib.bytesOf at this
      rwa [List.length_map] at this
    exact .inr ⟨J, hl, hJ, (key J hl).1 h1, fun j h e => h2 j h ((key j (by omega)).2 e)⟩
theorem cutU (W : World) (A : Option Addr) (m c k : Nat) (h : k ≤ m) : (Instr.slice 47 (.slice A m c) (some (.int .i64 (k : Int))) none none).run Try.prog W = .ok (.slice (if c = k then A else A.map (·.add k)) (m - k) (c - k)) W := by
  obtain ⟨i0, hi, hz0, hz1, hz2⟩ := info_parts info5
  have he : Try.prog.elem 47 = 5 := by kernel_rfl
  rw [run_slice_l W 47 A m c (by rw [he]; exact Try.underlying47) .i64 (k : Int) (by omega) (by omega), he]
  simp [sizeOf, typeInfo, hi, hz1, sliced, Result.andThen]
section
variable {w w' : World} {G b n : Nat} {a : Int} {f g : Int → Int} {A : Option Addr} {m c : Nat} {l : List Int}
def fromK (g : Int → Int) (a : Int) (n k : Nat) : List Int := (List.range (n - k)).map fun (j : Nat) => g (a + ((k + j : Nat) : Int))
/-- The first one of this state, from the k-th sector on. -/
theorem index_any (h : QC w G b a n g) (k : Nat) (hk : k ≤ n) (ad : Addr) (had : k < n → ad = ⟨b, k, none⟩) (c : Nat) (fr : Int) (f0 : 0 ≤ fr) (f2 : fr ≤ 2) :
    Calls Try.prog 26 #[.slice (some ad) (n - k) c, .int .u8 fr] w fun e w' => w' = w ∧ ∃ v : Int, e = .returned (.int .i64 v) ∧ ((v = -1 ∧ ∀ j : Nat, k ≤ j → j < n → g (a + (j : Int)) ≠ fr) ∨ ∃ J : Nat, v = (J : Int) ∧ k + J < n ∧ g (a + ((k + J : Nat) : Int)) = fr ∧ ∀ j : Nat, k ≤ j → j < k + J → g (a + (j : Int)) ≠ fr) := by
  have hlen : (fromK g a n k).length = n - k := by unfold fromK; simp
  have hat : ∀ (j : Nat) (h : j < (fromK g a n k).length), (fromK g a n k)[j] = g (a + ((k + j : Nat) : Int)) := fun j h => by unfold fromK; simp
  refine (Sh.Try.bytes_IndexByte_at ad (n - k) c (fromK g a n k) fr w hlen fun i hi => ?_).mono ?_
  · have e := had (by omega)
    subst e
    have hil : i < (fromK g a n k).length := by rw [hlen]; exact hi
    rw [List.getD_eq_getElem?_getD, List.getElem?_eq_getElem hil, Option.getD_some, hat i hil]
    have := h.row (i := k + i) (by omega)
    by_cases h0 : i = 0
    · subst h0; simpa [Addr.add] using this
    · simpa [Addr.add, h0] using this
  · rintro e w1 ⟨rfl, rfl⟩
    refine ⟨rfl, _, rfl, ?_⟩
    rcases idx_cases (xs := fromK g a n k) (fr := fr) (fun j hj => by rw [hat j hj]; exact h.fv _ (by rw [hlen] at hj; omega)) f0 f2 with ⟨e, h1⟩ | ⟨J, hJ, e, h1, h2⟩
    · refine .inl ⟨e, fun j h1' h2' => ?_⟩
      have hjl : j - k < (fromK g a n k).length := by rw [hlen]; omega
      have := h1 (j - k) hjl
      rwa [hat _ hjl, show k + (j - k) = j by omega] at this
    · refine .inr ⟨J, e, by rw [hlen] at hJ; omega, by rwa [hat J hJ] at h1, fun j h1' h2' => ?_⟩
      have hjl : j - k < (fromK g a n k).length := by rw [hlen] at hJ ⊢; omega
      have := h2 (j - k) (by omega)
      rwa [hat _ hjl, show k + (j - k) = j by omega] at this
/-- All up to k are turned. -/
def turnK (f : Int → Int) (a : Int) (k : Nat) (fr to : Int) : Int → Int := fun y => if y < a + (k : Int) ∧ f y = fr then to else f y
theorem turnK_zero {f : Int → Int} {a fr to : Int} {y : Int} (h : a ≤ y) : turnK f a 0 fr to y = f y := by unfold turnK; rw [if_neg (by omega)]
theorem turnK_from {f : Int → Int} {a fr to : Int} {k j : Nat} (h : k ≤ j) : turnK f a k fr to (a + (j : Int)) = f (a + (j : Int)) := by unfold turnK; rw [if_neg (by omega)]
theorem turnK_next {f : Int → Int} {a fr to : Int} {k J : Nat} (hf : f (a + ((k + J : Nat) : Int)) = fr) (hn : ∀ j : Nat, k ≤ j → j < k + J → f (a + (j : Int)) ≠ fr) (i : Nat) :
    turnK f a (k + J + 1) fr to (a + (i : Int)) = upd1 (turnK f a k fr to) (a + ((k + J : Nat) : Int)) to (a + (i : Int)) := by
  unfold turnK upd1
  by_cases h1 : i = k + J
  · subst h1
    rw [if_pos ⟨by omega, hf⟩, if_pos rfl]
  · have hne : ¬ (a + (i : Int) = a + ((k + J : Nat) : Int)) := by omega
    rw [if_neg hne]
    show _ = if a + (i : Int) < a + (k : Int) ∧ f (a + (i : Int)) = fr then to else f (a + (i : Int))
    by_cases h2 : i < k
    · by_cases h3 : f (a + (i : Int)) = fr
      · rw [if_pos ⟨by omega, h3⟩, if_pos ⟨by omega, h3⟩]
      · rw [if_neg (fun e => h3 e.2), if_neg (fun e => h3 e.2)]
    · rw [if_neg (c := a + (i : Int) < a + (k : Int) ∧ f (a + (i : Int)) = fr) (fun e => by omega)]
      by_cases h4 : i < k + J
      · rw [if_neg (fun e => hn i (by omega) h4 e.2)]
      · rw [if_neg (fun e => by omega)]
theorem turnK_all {f : Int → Int} {a fr to : Int} {k n : Nat} (hn : ∀ j : Nat, k ≤ j → j < n → f (a + (j : Int)) ≠ fr) (i : Nat) (hi : i < n) :
    (if f (a + (i : Int)) = fr then to else f (a + (i : Int))) = turnK f a k fr to (a + (i : Int)) := by
  unfold turnK
  by_cases h1 : f (a + (i : Int)) = fr
  · have : i < k := by
      rcases Nat.lt_or_ge i k with h2 | h2
      · exact h2
      · exact absurd h1 (hn i h2 hi)
    rw [if_pos h1, if_pos ⟨by omega, h1⟩]
  · rw [if_neg h1, if_neg (fun e => h1 e.2)]
def slen : Value → Nat
  | .slice _ n _ => n
  | _ => 0
/-- Where the next one is. -/
def Nxt (f : Int → Int) (a : Int) (n k : Nat) (fr v : Int) : Prop := (v = -1 ∧ ∀ j : Nat, k ≤ j → j < n → f (a + (j : Int)) ≠ fr) ∨ ∃ J : Nat, v = (J : Int) ∧ k + J < n ∧ f (a + ((k + J : Nat) : Int)) = fr ∧ ∀ j : Nat, k ≤ j → j < k + J → f (a + (j : Int)) ≠ fr
theorem nxt_turn {f : Int → Int} {a fr to v : Int} {n k : Nat} (h : Nxt (turnK f a k fr to) a n k fr v) : Nxt f a n k fr v := by
  rcases h with ⟨e, h⟩ | ⟨J, e, h1, h2, h3⟩
  · exact .inl ⟨e, fun j a b => by have := h j a b; rwa [turnK_from a] at this⟩
  · exact .inr ⟨J, e, h1, by rwa [turnK_from (by omega)] at h2, fun j a b => by have := h3 j a b; rwa [turnK_from a] at this⟩
set_option maxRecDepth 20000 in
set_option maxHeartbeats 4000000 in
theorem moveAll_any (h : QC w G b a n f) (fr to : Int) (hft : fr ≠ to) (f0 : 0 ≤ fr) (f2 : fr ≤ 2) (t0 : 0 ≤ to) (t2 : to ≤ 2) :
    Calls Try.prog 34 #[.pointer (some ⟨G, 0, none⟩), .int .u8 fr, .int .u8 to] w fun e w' => e = .returned (.tuple #[]) ∧ QC w' G b a n (fun y => if f y = fr then to else f y) ∧ Ch (Bb b) w w' := by
  have H := Lib.hid h
  have s1 := h.c1
  have hn := h.a1
  have ha := h.a0
  have HI := Lib.hid (index_any h 0 (Nat.zero_le _) ⟨b, 0, none⟩ (fun _ => rfl) n fr f0 f2)
  clear h
  go_enter Try.func34, Try.ntmps34
  go_wp2_with fail
  refine HI.out.mono ?_
  rintro e w1 ⟨rfl, v, rfl, hv⟩
  have HV := Lib.hid (show Nxt f a n 0 fr v from hv)
  clear hv s1
  go_wp2
  go_loopw [6, 7] (fun v6 v7 wr => ∃ (k r : Nat) (ad : Addr) (v : Int), v6 = .slice (some ad) r r ∧ v7 = .int .i64 v ∧ k + r = n ∧ Hid (k < n → ad = ⟨b, k, none⟩) ∧ Hid (QC wr G b a n (turnK f a k fr to)) ∧ Hid (Nxt f a n k fr v) ∧ Hid (Ch (Bb b) w1 wr)) (fun v6 _ _ => slen v6)
  case atStart => exact ⟨0, n, ⟨b, 0, none⟩, v, rfl, rfl, by omega, (fun _ => rfl), H.out.congr (fun i hi => turnK_zero (by omega)), HV.out, Ch.refl _ _⟩
  case round =>
    obtain ⟨k, r, ad, v, rfl, rfl, hkr, HA, HQ, HX, HC⟩ := hrel
    rcases HX.out with ⟨rfl, hx⟩ | ⟨J, rfl, hJ, hf, hno⟩
    · have HL := Lib.hid hx
      clear hx
      have HE := Lib.hid (show QC wr G b a n (fun y => if f y = fr then to else f y) from HQ.out.congr fun i hi => turnK_all HL.out i hi)
      go_wp2
      refine bodyPost_end (results_none rfl _ _ _) rfl ⟨rfl, HE.out, HC.out⟩
    · have hkn : k < n := by omega
      have e := HA.out hkn
      subst e
      have HF := Lib.hid (And.intro hf hno)
      have HQn := Lib.hid (show QC (wr.setCell ⟨b, k + J, none⟩ (.int .u8 to)) G b a n (turnK f a (k + J + 1) fr to) from (HQ.out.set (i := k + J) hJ t0 t2).congr fun i hi => turnK_next hf hno i)
      have HCn := Lib.hid (show Ch (Bb b) w1 (wr.setCell ⟨b, k + J, none⟩ (.int .u8 to)) from HC.out.setCell (p := ⟨b, k + J, none⟩) (.inl rfl) _)
      have p1 := HQ.out.row (i := k + J) hJ
      have p2 := HQ.out.frozen (k + J)
      have bJ : (J : Int) < (r : Int) := by omega
      have bJ2 : J < r := by omega
      clear hf hno HA HX
      obtain ⟨r2, hr2⟩ : ∃ r2, r = (J + 1) + r2 := ⟨r - (J + 1), by omega⟩
      have h3 : r - (J + 1) = r2 := by omega
      obtain ⟨ad2, had2⟩ : ∃ ad2 : Addr, some ad2 = (if r = J + 1 then some (⟨b, k, none⟩ : Addr) else some ⟨b, k + (J + 1), none⟩) := by
        split
        · exact ⟨_, rfl⟩
        · exact ⟨_, rfl⟩
      have HA2 := Lib.hid (show k + J + 1 < n → ad2 = ⟨b, k + J + 1, none⟩ from fun h => by
        rw [if_neg (by omega)] at had2
        simp only [Option.some.injEq] at had2
        rw [had2, Nat.add_assoc])
      have HI2 := Lib.hid (index_any HQn.out (k + J + 1) (by omega) ad2 HA2.out r2 fr f0 f2)
      rw [show n - (k + J + 1) = r2 by omega] at HI2
      have hcut : ∀ V : World, (Instr.slice 47 (.slice (some ⟨b, k, none⟩) r r) (some (.int .i64 ((J : Int) + 1))) none none).run Try.prog V = .ok (.slice (some ad2) r2 r2) V := fun V => by
        have e := cutU V (some ⟨b, k, none⟩) r r (J + 1) (by omega)
        rw [h3] at e
        rw [had2]
        have e2 : ((J + 1 : Nat) : Int) = (J : Int) + 1 := by omega
        rw [e2] at e
        rw [e]
        simp [Addr.add]
      have HR2 := Lib.hid hr2
      clear h3 had2 hr2
      go_wp2_with fail
      refine HI2.out.mono ?_
      rintro e w2 ⟨rfl, v2, rfl, hv2⟩
      have HV2 := Lib.hid (nxt_turn (show Nxt (turnK f a (k + J + 1) fr to) a n (k + J + 1) fr v2 from hv2))
      clear hv2 p1 p2 HI2 bJ hcut
      go_wp2
      have hr2 := HR2.out
      exact ⟨⟨k + J + 1, r2, ad2, v2, rfl, rfl, by omega, HA2.out, HQn.out, HV2.out, HCn.out⟩, by simp [slen]; omega⟩
section
variable {s : Sp} {F : Nat → Prop}
theorem settle_any (h : Qz w G F s) (hs : SpOk s) : Calls Try.prog 16 #[.pointer (some ⟨G, 0, none⟩)] w fun e w' => e = .returned (.tuple #[]) ∧ SOn Qz w G F (spSettle s) w' := by
  obtain ⟨b, hq, hF⟩ := h
  have HM := Lib.hid (moveAll_any hq 2 0 (by omega) (by omega) (by omega) (by omega) (by omega))
  have HF := Lib.hid hF
  clear hq hF hs
  go_enter Try.func16, Try.ntmps16
  go_wp2_with fail
  refine HM.out.mono ?_
  rintro e w1 ⟨rfl, hq, hc⟩
  have E := Lib.hid (And.intro hq hc)
  clear hq hc
  go_wp2
  exact bodyPost_end (results_none rfl _ _ _) rfl ⟨rfl, son_of HF.out (E.out.1.congr fun i hi => sta_settle _) E.out.2⟩
theorem fre_nil (f : Int → Int) (y : Int) : fre f [] y = f y := by unfold fre; simp
theorem fre_step (f : Int → Int) (l : List Int) (i : Nat) (hi : i < l.length) (y : Int) : fre f (l.take (i + 1)) y = if fre f (l.take i) l[i] = 1 then upd1 (fre f (l.take i)) l[i] 0 y else fre f (l.take i) y := by
  unfold fre upd1
  rw [List.take_succ_eq_append_getElem hi]
  simp only [List.mem_append, List.mem_singleton]
  by_cases h1 : y = l[i]
  · subst h1
    by_cases h2 : l[i] ∈ l.take i <;> by_cases h3 : f l[i] = 1 <;> simp [h2, h3]
  · by_cases h2 : y ∈ l.take i <;> by_cases h3 : f y = 1 <;> simp [h1, h2, h3]
set_option maxRecDepth 20000 in
set_option maxHeartbeats 4000000 in
theorem undo_any (h : Qz w G F s) (hs : SpOk s) (hr : RdZ w w.heap.size A l) (hl : l.length = m) (hmc : m ≤ c) (hm : m ≤ 1000) (hI : Irs l) (hA : ∀ x, A = some x → l ≠ [] → ¬ F x.block) :
    Calls Try.prog 17 #[.pointer (some ⟨G, 0, none⟩), .slice A m c] w fun e w' => e = .returned (.tuple #[]) ∧ SOn Qz w G F (spUndo s l) w' := by
  obtain ⟨b, hq, hF⟩ := h
  obtain ⟨f, hf⟩ : ∃ f, f = sta s := ⟨_, rfl⟩
  obtain ⟨a, ha⟩ : ∃ a, a = s.first := ⟨_, rfl⟩
  obtain ⟨n, hn⟩ : ∃ n, n = wid s := ⟨_, rfl⟩
  rw [← hf, ← ha, ← hn] at hq
  have H := Lib.hid hq
  have HF := Lib.hid hF
  have HN := Lib.hid hl
  have HI := Lib.hid hI
  have HR := Lib.hid (show ∀ v : World, Ch (Bb b) w v → RdZ v v.heap.size A l from fun v hv => rdz_ch hr (rdz_ne hF hA) hv)
  have HE := Lib.hid (show ∀ v : World, QC v G b a n (fun y => if fre f l y = 2 then 1 else fre f l y) → Ch (Bb b) w v → SOn Qz w G F (spUndo s l) v from fun v h1 h2 => by
    rw [hf, ha, hn] at h1
    exact son_of hF (h1.congr fun i hi => sta_undo hs _) h2)
  clear hq hl hI hr hA hF hf ha hn hs
  go_enter Try.func17, Try.ntmps17
  go_wp2
  go_loopw [8] (fun v8 wr => ∃ i : Nat, v8 = .int .i64 (i : Int) ∧ i ≤ m ∧ Hid (QC wr G b a n (fre f (l.take i))) ∧ Hid (Ch (Bb b) w wr)) (fun v8 _ => m - (intOf v8).toNat)
  case atStart => exact ⟨0, rfl, Nat.zero_le _, H.out.congr (fun i hi => by rw [List.take_zero, fre_nil]), Ch.refl _ _⟩
  case round =>
    obtain ⟨i, rfl, hi, HQ, HC⟩ := hrel
    by_cases hlt : i < m
    · have bi : (i : Int) < (m : Int) := by omega
      have hil : i < l.length := by rw [HN.out]; exact hlt
      obtain ⟨k, off, hA, hb, hc⟩ := (HR.out wr HC.out).at_ hil
      obtain ⟨x, hx⟩ : ∃ x, x = l[i] := ⟨_, rfl⟩
      have HX := Lib.hid (is_any HQ.out x (by rw [hx]; exact HI.out _ (by simp)))
      rw [← hx] at hc
      have HXL := Lib.hid hx
      have HST := Lib.hid (fun y => fre_step f l i hil y)
      rw [← hx] at HST
      have hAE := Lib.hid hA
      subst hA
      clear hx
      go_wp2_with fail
      refine HX.out.mono ?_
      rintro e w1 ⟨rfl, hg1⟩
      have Q1 := Lib.hid (HQ.out.grow hg1)
      have C1 := Lib.hid (show Ch (Bb b) w w1 from HC.out.trans (Ch.grown hg1))
      clear hg1 hc
      by_cases hgd : a ≤ x ∧ x < a + (n : Int) ∧ fre f (l.take i) x = 1
      · have HS := Lib.hid (set_any Q1.out x 0 hgd.1 hgd.2.1 (by omega) (by omega))
        have HD := Lib.hid hgd
        rw [decide_eq_true hgd]
        clear hgd
        go_wp2_with fail
        refine HS.out.mono ?_
        rintro e w2 ⟨rfl, hq2, hc2⟩
        have Q2 := Lib.hid (show QC w2 G b a n (fre f (l.take (i + 1))) from hq2.congr (fun j hj => by rw [HST.out, if_pos HD.out.2.2]))
        have C2 := Lib.hid (show Ch (Bb b) w w2 from C1.out.trans hc2)
        clear hq2 hc2
        go_wp2
        exact ⟨⟨i + 1, by simp, by omega, Q2.out, C2.out⟩, by simp [intOf]; omega⟩
      · have Q2 := Lib.hid (show QC w1 G b a n (fre f (l.take (i + 1))) from Q1.out.congr (fun j hj => by
          rw [HST.out]
          split
          · rename_i h1
            have hne : ¬ (a + (j : Int) = x) := fun e => hgd ⟨by omega, by omega, h1⟩
            unfold upd1
            rw [if_neg hne]
          · rfl))
        rw [decide_eq_false hgd]
        clear hgd
        go_wp2
        exact ⟨⟨i + 1, by simp, by omega, Q2.out, C1.out⟩, by simp [intOf]; omega⟩
    · have bi : ¬ ((i : Int) < (m : Int)) := by omega
      have HT := Lib.hid (show l.take i = l from List.take_of_length_le (by rw [HN.out]; omega))
      have HQ2 := Lib.hid (show QC wr G b a n (fre f l) by have := HQ.out; rwa [HT.out] at this)
      have HM := Lib.hid (moveAll_any HQ2.out 2 1 (by omega) (by omega) (by omega) (by omega) (by omega))
      go_wp2_with fail
      refine HM.out.mono ?_
      rintro e w1 ⟨rfl, hq, hc⟩
      have E := Lib.hid (HE.out w1 hq (HC.out.trans hc))
      clear hq hc
      go_wp2
      exact bodyPost_end (results_none rfl _ _ _) rfl ⟨rfl, E.out⟩
end
end
end Go.Proofs.Ytdeojgdjjckoeaa.S15
