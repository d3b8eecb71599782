/-
  The two iterators over what waits: all of it; the chosen ones.
-/
import Derived.Test.YteigfpgdnfladaaDqJ
import Derived.Test.YteigfpgdnfladaaDqI
namespace Go.Proofs.Yteigfpgdnfladaa.S13
open Cf
open Go.RowKit Go.Shelf
set_option linter.unusedVariables false
set_option linter.unusedSimpArgs false
attribute [local go_sem] Oper.semAt_some

/-- The chosen ones. -/
def sel {α : Type} : List Bool → List α → List α
  | b :: c, x :: l => if b then x :: sel c l else sel c l
  | _, _ => []
theorem sel_snoc {α : Type} (c : List Bool) (l : List α) (b : Bool) (x : α) (h : c.length = l.length) : sel (c ++ [b]) (l ++ [x]) = if b then sel c l ++ [x] else sel c l := by
  induction c generalizing l with
  | nil =>
    obtain rfl : l = [] := List.eq_nil_of_length_eq_zero h.symm
    cases b <;> rfl
  | cons a c ih =>
    cases l with
    | nil => simp at h
    | cons y l =>
      have h2 := ih l (by simpa using h)
      show (if a then y :: sel (c ++ [b]) (l ++ [x]) else sel (c ++ [b]) (l ++ [x])) = _
      rw [h2]
      cases a <;> cases b <;> rfl
theorem sel_map {α β : Type} (f : α → β) (c : List Bool) (l : List α) : (sel c l).map f = sel c (l.map f) := by
  induction c generalizing l with
  | nil => cases l <;> rfl
  | cons a c ih =>
    cases l with
    | nil => rfl
    | cons y l => cases a <;> simp [sel, ih]
def flags (keep : List Int) (i n : Nat) : List Bool := (List.range' i n).map fun (k : Nat) => decide ((k : Int) ∈ keep)
theorem pick_sel (keep : List Int) : ∀ (i : Nat) (l : List (Nat × List UInt8)), pick keep i l = sel (flags keep i l.length) l
  | _, [] => by simp [pick, flags, sel]
  | i, p :: l => by
    have h := pick_sel keep (i + 1) l
    unfold flags at h ⊢
    rw [List.length_cons, List.range'_succ, List.map_cons]
    unfold pick sel
    rw [h]
    by_cases hk : (i : Int) ∈ keep <;> simp [hk]
theorem flags_len (keep : List Int) (i n : Nat) : (flags keep i n).length = n := by simp [flags]
theorem flags_at (keep : List Int) (n k : Nat) (hk : k < n) : (flags keep 0 n)[k]? = some (decide ((k : Int) ∈ keep)) := by simp [flags, hk]
theorem at_snoc {α : Type} (l : List α) (k : Nat) (h : k < l.length) : l.take (k + 1) = l.take k ++ [l[k]] := by
  rw [List.take_add_one, List.getElem?_eq_getElem h]; rfl
abbrev In (L : List Pw) := { p : Pw // p ∈ L }
def encW {L : List Pw} (p : In L) : Array Value := #[pv p.1.1]
set_option maxRecDepth 100000 in
set_option maxHeartbeats 2000000 in
theorem values1_in (n l Bs : Nat) (Ap : Option Addr) (len cap : Nat) (L : List Pw) (hlen : L.length = len) (hl : len ≤ 100000) (P : Nat → Prop) (J Jx : List (In L) → World → Prop)
    (hY : ∀ pre x W, J pre W → pre.length < len → YieldAt Fence.wide (n - 1) Try.prog l (encW x) W fun e W' =>
      (e = .returned (.bool true) ∧ J (pre ++ [x]) W' ∧ (∀ k, P k → W'.heap[k]? = W.heap[k]?)) ∨ (e = .returned (.bool false) ∧ Jx (pre ++ [x]) W'))
    (W : World) (hBs : W.cell? ⟨Bs, 0, none⟩ = some (.slice Ap len cap)) (hc : ∀ (j : Nat) (hj : j < L.length), ∃ b, Ap = some ⟨b, 0, none⟩ ∧ P b ∧ W.cell? ⟨b, j, none⟩ = some (pv L[j].1)) (h0 : J [] W) :
    CallsIn Fence.wide n Try.prog 43 #[.func (.yield l) #[] #[], .pointer (some ⟨Bs, 0, none⟩)] W fun e W' => (∃ v, e = .returned v) ∧
      (J L.attach W' ∨ (∃ pre : List (In L), Jx pre W')) := by
  have HLen := Lib.hid hlen
  have HC := Lib.hid hc
  have HY := Lib.hid hY
  clear hlen hc hY
  refine callsIn_of_wp Try.func43 rfl trivial ?_ rfl
  simp only [Try.ntmps43, List.size_toArray, List.length_cons, List.length_nil, Nat.reduceAdd, Nat.reduceSub, Array.replicate_succ, Array.replicate_zero, List.push_toArray, List.append_toArray, List.nil_append, List.cons_append]
  gi_wp2
  gi_loopw [7] (fun i wr => ∃ k : Nat, k ≤ len ∧ i = .int .i64 k ∧ J (L.attach.take k) wr ∧ Hid (∀ k, P k → wr.heap[k]? = W.heap[k]?))
    (fun i _ => len - (intOf i).toNat)
  case atStart => exact ⟨0, Nat.zero_le _, rfl, h0, fun _ _ => rfl⟩
  case round =>
    obtain ⟨k, hk, rfl, hJs, HN⟩ := hrel
    by_cases hlt : k < len
    · have hkL : k < L.length := by rw [HLen.out]; exact hlt
      obtain ⟨b, rfl, hP, hcell⟩ := HC.out k hkL
      obtain ⟨fn, tmps, assign, body, hy, hR⟩ := HY.out _ (⟨L[k], List.getElem_mem hkL⟩ : In L) wr hJs (by rw [List.length_take, List.length_attach]; omega)
      have hcx : wr.cell? ⟨b, k, none⟩ = some (.pointer (some ⟨L[k].1, 0, none⟩)) := (World.cell?_of_block (a := ⟨b, k, none⟩) (HN.out b hP)).trans hcell
      have bk : (k : Int) < (len : Int) := by omega
      unfold encW pv at hy
      dsimp only at hy
      clear hcell
      gi_wp2
      refine ⟨fun hd => (by cases hd), hR.mono ?_⟩
      rintro e W3 (⟨rfl, hJ3, hk3⟩ | ⟨rfl, hJx3⟩)
      · have HN3 := Lib.hid (show ∀ k, P k → W3.heap[k]? = W.heap[k]? from fun j hj => (hk3 j hj).trans (HN.out j hj))
        clear hk3 HN
        gi_wp2
        go_roundw
        case rel => exact ⟨k + 1, by omega, by simp, by rw [at_snoc _ k (by rw [List.length_attach]; exact hkL), List.getElem_attach]; exact hJ3, HN3.out⟩
        case measure => simp [intOf]; omega
      · gi_wp2
        refine bodyPost_ret (results_none rfl _ _ _) rfl ?_
        exact ⟨⟨_, rfl⟩, .inr ⟨_, hJx3⟩⟩
    · obtain rfl : k = len := by omega
      have bk : ¬ (k : Int) < (k : Int) := by omega
      gi_wp2
      go_end0
      exact ⟨⟨_, rfl⟩, .inl (by rw [List.take_of_length_le (by rw [List.length_attach, HLen.out]; exact Nat.le_refl _)] at hJs; exact hJs)⟩
set_option maxRecDepth 100000 in
set_option maxHeartbeats 4000000 in
theorem chosen1_in (n l Bg Bc Cb G : Nat) (Ap : Option Addr) (len cap : Nat) (L : List Pw) (hlen : L.length = len) (c : List Bool) (hcl : c.length = len) (hl : len ≤ 100000) (P : Nat → Prop) (hPb : P Bc) (hPc : P Cb) (J Jx : List (In L) → World → Prop)
    (hY : ∀ pre x W, J pre W → pre.length < len → YieldAt Fence.wide (n - 1) Try.prog l (encW x) W fun e W' =>
      (e = .returned (.bool true) ∧ J (pre ++ [x]) W' ∧ (∀ k, P k → W'.heap[k]? = W.heap[k]?)) ∨ (e = .returned (.bool false) ∧ Jx (pre ++ [x]) W'))
    (W : World) (hBg : W.cell? ⟨Bg, 0, none⟩ = some (.pointer (some ⟨G, 0, none⟩))) (hG : W.cell? ⟨G, 1, none⟩ = some (.slice Ap len cap)) (hBc : W.cell? ⟨Bc, 0, none⟩ = some (.slice (some ⟨Cb, 0, none⟩) len len))
    (hb : ∀ (j : Nat) (b : Bool), c[j]? = some b → W.cell? ⟨Cb, j, none⟩ = some (.bool b))
    (hc : ∀ (j : Nat) (hj : j < L.length), ∃ b, Ap = some ⟨b, 0, none⟩ ∧ P b ∧ W.cell? ⟨b, j, none⟩ = some (pv L[j].1)) (h0 : J [] W) :
    CallsIn Fence.wide n Try.prog 44 #[.func (.yield l) #[] #[], .pointer (some ⟨Bg, 0, none⟩), .pointer (some ⟨Bc, 0, none⟩)] W fun e W' => (∃ v, e = .returned v) ∧
      (J (sel c L.attach) W' ∨ (∃ pre : List (In L), Jx pre W')) := by
  have HLen := Lib.hid hlen
  have HCl := Lib.hid hcl
  have HC := Lib.hid hc
  have HB := Lib.hid hb
  have HY := Lib.hid hY
  have HBc := Lib.hid hBc
  clear hlen hc hY hcl hb hBc
  refine callsIn_of_wp Try.func44 rfl trivial ?_ rfl
  simp only [Try.ntmps44, List.size_toArray, List.length_cons, List.length_nil, Nat.reduceAdd, Nat.reduceSub, Array.replicate_succ, Array.replicate_zero, List.push_toArray, List.append_toArray, List.nil_append, List.cons_append]
  gi_wp2
  gi_loopw [11] (fun i wr => ∃ k : Nat, k ≤ len ∧ i = .int .i64 k ∧ J (sel (c.take k) (L.attach.take k)) wr ∧ Hid (∀ k, P k → wr.heap[k]? = W.heap[k]?))
    (fun i _ => len - (intOf i).toNat)
  case atStart => exact ⟨0, Nat.zero_le _, rfl, (by simpa [sel] using h0), fun _ _ => rfl⟩
  case round =>
    obtain ⟨k, hk, rfl, hJs, HN⟩ := hrel
    by_cases hlt : k < len
    · have hkL : k < L.length := by rw [HLen.out]; exact hlt
      have hkc : k < c.length := by rw [HCl.out]; exact hlt
      obtain ⟨b, rfl, hP, hcell⟩ := HC.out k hkL
      have hcx : wr.cell? ⟨b, k, none⟩ = some (.pointer (some ⟨L[k].1, 0, none⟩)) := (World.cell?_of_block (a := ⟨b, k, none⟩) (HN.out b hP)).trans hcell
      have hcc : wr.cell? ⟨Bc, 0, none⟩ = some (.slice (some ⟨Cb, 0, none⟩) len len) := (World.cell?_of_block (a := ⟨Bc, 0, none⟩) (HN.out Bc hPb)).trans HBc.out
      have hcb0 : wr.cell? ⟨Cb, k, none⟩ = some (.bool c[k]) := (World.cell?_of_block (a := ⟨Cb, k, none⟩) (HN.out Cb hPc)).trans (HB.out k c[k] (List.getElem?_eq_getElem hkc))
      have bk : (k : Int) < (len : Int) := by omega
      have HS := Lib.hid (sel_snoc (c.take k) (L.attach.take k) c[k] (⟨L[k], List.getElem_mem hkL⟩ : In L) (by rw [List.length_take, List.length_take, List.length_attach, HLen.out, HCl.out]))
      have HT := Lib.hid (show sel (c.take (k + 1)) (L.attach.take (k + 1)) = sel (c.take k ++ [c[k]]) (L.attach.take k ++ [(⟨L[k], List.getElem_mem hkL⟩ : In L)]) by rw [at_snoc c k hkc, at_snoc L.attach k (by rw [List.length_attach]; exact hkL), List.getElem_attach])
      have hsl : (sel (c.take k) (L.attach.take k)).length < len := by
        have hle : ∀ (c : List Bool) (l : List (In L)), (sel c l).length ≤ c.length := by
          intro c
          induction c with
          | nil => intro l; cases l <;> simp [sel]
          | cons a c ih => intro l; cases l with
            | nil => simp [sel]
            | cons y l => have := ih l; cases a <;> simp [sel] <;> omega
        have := hle (c.take k) (L.attach.take k)
        rw [List.length_take] at this
        omega
      have HSl := Lib.hid hsl
      clear hcell hsl
      cases hck : c[k] with
      | true =>
        rw [hck] at hcb0 HS HT
        rw [if_pos rfl] at HS
        obtain ⟨fn, tmps, assign, body, hy, hR⟩ := HY.out _ (⟨L[k], List.getElem_mem hkL⟩ : In L) wr hJs HSl.out
        unfold encW pv at hy
        dsimp only at hy
        clear hck
        gi_wp2
        refine ⟨fun hd => (by cases hd), hR.mono ?_⟩
        rintro e W3 (⟨rfl, hJ3, hk3⟩ | ⟨rfl, hJx3⟩)
        · have HN3 := Lib.hid (show ∀ k, P k → W3.heap[k]? = W.heap[k]? from fun j hj => (hk3 j hj).trans (HN.out j hj))
          clear hk3 HN
          gi_wp2
          go_roundw
          case rel => exact ⟨k + 1, by omega, by simp, by rw [HT.out, HS.out]; exact hJ3, HN3.out⟩
          case measure => simp [intOf]; omega
        · gi_wp2
          refine bodyPost_ret (results_none rfl _ _ _) rfl ?_
          exact ⟨⟨_, rfl⟩, .inr ⟨_, hJx3⟩⟩
      | false =>
        rw [hck] at hcb0 HS HT
        rw [if_neg (by decide)] at HS
        clear hck
        gi_wp2
        refine ⟨fun _ h => (by cases h), ?_⟩
        gi_wp2
        go_roundw
        case rel => exact ⟨k + 1, by omega, by simp, by rw [HT.out, HS.out]; exact hJs, HN.out⟩
        case measure => simp [intOf]; omega
    · obtain rfl : k = len := by omega
      have bk : ¬ (k : Int) < (k : Int) := by omega
      gi_wp2
      go_end0
      exact ⟨⟨_, rfl⟩, .inl (by rw [List.take_of_length_le (by rw [HCl.out]; exact Nat.le_refl _), List.take_of_length_le (by rw [List.length_attach, HLen.out]; exact Nat.le_refl _)] at hJs; exact hJs)⟩
end Go.Proofs.Yteigfpgdnfladaa.S13
