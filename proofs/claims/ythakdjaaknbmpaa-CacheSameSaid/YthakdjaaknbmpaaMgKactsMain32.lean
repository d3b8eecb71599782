/-
  The two iterators over what waits: all of it; the chosen ones. What hands the iterators back: Values, chosen.
-/
import Derived.Test.YthakdjaaknbmpaaMgKactsMain20
import Derived.Test.YthakdjaaknbmpaaMgKactsMain31
import Derived.Test.YthakdjaaknbmpaaMgKactsMain10
namespace Go.Proofs.Ythakdjaaknbmpaa.S13
open Cf
open Go.RowKit Go.Shelf
set_option linter.unusedVariables false
set_option linter.unusedSimpArgs false
attribute [local go_sem] Oper.semAt_some

/-- The chosen ones. -/
def sel {α : Type} : List Bool → List α → List α
  | b :: c, x :: l => if b then x :: sel c l else sel c l
  | _, _ => []
theorem sel_snoc {α : Type} (c : List Bool) (l : List α) (b : Bool) (x : α) (h : c.length = l.length) : sel (c ++ [b]) (l ++ [x]) = if b then sel c l ++ [x] else sel c l := by
  induction c generalizing l with
  | nil =>
    obtain rfl : l = [] := List.eq_nil_of_length_eq_zero h.symm
    cases b <;> rfl
  | cons a c ih =>
    cases l with
    | nil => simp at h
    | cons y l =>
      have h2 := ih l (by simpa using h)
      show (if a then y :: sel (c ++ [b]) (l ++ [x]) else sel (c ++ [b]) (l ++ [x])) = _
      rw [h2]
      cases a <;> cases b <;> rfl
theorem sel_map {α β : Type} (f : α → β) (c : List Bool) (l : List α) : (sel c l).map f = sel c (l.map f) := by
  induction c generalizing l with
  | nil => cases l <;> rfl
  | cons a c ih =>
    cases l with
    | nil => rfl
    | cons y l => cases a <;> simp [sel, ih]
def flags (keep : List Int) (i n : Nat) : List Bool := (List.range' i n).map fun (k : Nat) => decide ((k : Int) ∈ keep)
theorem pick_sel (keep : List Int) : ∀ (i : Nat) (l : List (Nat × List UInt8)), pick keep i l = sel (flags keep i l.length) l
  | _, [] => by simp [pick, flags, sel]
  | i, p :: l => by
    have h := pick_sel keep (i + 1) l
    unfold flags at h ⊢
    rw [List.length_cons, List.range'_succ, List.map_cons]
    unfold pick sel
    rw [h]
    by_cases hk : (i : Int) ∈ keep <;> simp [hk]
theorem flags_len (keep : List Int) (i n : Nat) : (flags keep i n).length = n := by simp [flags]
theorem flags_at (keep : List Int) (n k : Nat) (hk : k < n) : (flags keep 0 n)[k]? = some (decide ((k : Int) ∈ keep)) := by simp [flags, hk]
theorem at_snoc {α : Type} (l : List α) (k : Nat) (h : k < l.length) : l.take (k + 1) = l.take k ++ [l[k]] := by
  rw [List.take_add_one, List.getElem?_eq_getElem h]; rfl
abbrev In (L : List Pw) := { p : Pw // p ∈ L }
def encW {L : List Pw} (p : In L) : Array Value := #[pv p.1.1]
set_option maxRecDepth 100000 in
set_option maxHeartbeats 2000000 in
theorem values1_in (n l Bs : Nat) (Ap : Option Addr) (len cap : Nat) (L : List Pw) (hlen : L.length = len) (hl : len ≤ 100000) (P : Nat → Prop) (J Jx : List (In L) → World → Prop)
    (hY : ∀ pre x W, J pre W → pre.length < len → YieldAt Fence.wide (n - 1) Try.prog l (encW x) W fun e W' =>
      (e = .returned (.bool true) ∧ J (pre ++ [x]) W' ∧ (∀ k, P k → W'.heap[k]? = W.heap[k]?)) ∨ (e = .returned (.bool false) ∧ Jx (pre ++ [x]) W'))
    (W : World) (hBs : W.cell? ⟨Bs, 0, none⟩ = some (.slice Ap len cap)) (hc : ∀ (j : Nat) (hj : j < L.length), ∃ b, Ap = some ⟨b, 0, none⟩ ∧ P b ∧ W.cell? ⟨b, j, none⟩ = some (pv L[j].1)) (h0 : J [] W) :
    CallsIn Fence.wide n Try.prog 57 #[.func (.yield l) #[] #[], .pointer (some ⟨Bs, 0, none⟩)] W fun e W' => (∃ v, e = .returned v) ∧
      (J L.attach W' ∨ (∃ pre : List (In L), Jx pre W')) := by
  have HLen := Lib.hid hlen
  have HC := Lib.hid hc
  have HY := Lib.hid hY
  clear hlen hc hY
  refine callsIn_of_wp Try.func57 rfl trivial ?_ rfl
  simp only [Try.ntmps57, List.size_toArray, List.length_cons, List.length_nil, Nat.reduceAdd, Nat.reduceSub, Array.replicate_succ, Array.replicate_zero, List.push_toArray, List.append_toArray, List.nil_append, List.cons_append]
  gi_wp2
  gi_loopw [7] (fun i wr => ∃ k : Nat, k ≤ len ∧ i = .int .i64 k ∧ J (L.attach.take k) wr ∧ Hid (∀ k, P k → wr.heap[k]? = W.heap[k]?))
    (fun i _ => len - (intOf i).toNat)
  case atStart => exact ⟨0, Nat.zero_le _, rfl, h0, fun _ _ => rfl⟩
  case round =>
    obtain ⟨k, hk, rfl, hJs, HN⟩ := hrel
    by_cases hlt : k < len
    · have hkL : k < L.length := by rw [HLen.out]; exact hlt
      obtain ⟨b, rfl, hP, hcell⟩ := HC.out k hkL
      obtain ⟨fn, tmps, assign, body, hy, hR⟩ := HY.out _ (⟨L[k], List.getElem_mem hkL⟩ : In L) wr hJs (by rw [List.length_take, List.length_attach]; omega)
      have hcx : wr.cell? ⟨b, k, none⟩ = some (.pointer (some ⟨L[k].1, 0, none⟩)) := (World.cell?_of_block (a := ⟨b, k, none⟩) (HN.out b hP)).trans hcell
      have bk : (k : Int) < (len : Int) := by omega
      unfold encW pv at hy
      dsimp only at hy
      clear hcell
      gi_wp2
      refine ⟨fun hd => (by cases hd), hR.mono ?_⟩
      rintro e W3 (⟨rfl, hJ3, hk3⟩ | ⟨rfl, hJx3⟩)
      · have HN3 := Lib.hid (show ∀ k, P k → W3.heap[k]? = W.heap[k]? from fun j hj => (hk3 j hj).trans (HN.out j hj))
        clear hk3 HN
        gi_wp2
        go_roundw
        case rel => exact ⟨k + 1, by omega, by simp, by rw [at_snoc _ k (by rw [List.length_attach]; exact hkL), List.getElem_attach]; exact hJ3, HN3.out⟩
        case measure => simp [intOf]; omega
      · gi_wp2
        refine bodyPost_ret (results_none rfl _ _ _) rfl ?_
        exact ⟨⟨_, rfl⟩, .inr ⟨_, hJx3⟩⟩
    · obtain rfl : k = len := by omega
      have bk : ¬ (k : Int) < (k : Int) := by omega
      gi_wp2
      go_end0
      exact ⟨⟨_, rfl⟩, .inl (by rw [List.take_of_length_le (by rw [List.length_attach, HLen.out]; exact Nat.le_refl _)] at hJs; exact hJs)⟩
set_option maxRecDepth 100000 in
set_option maxHeartbeats 4000000 in
theorem chosen1_in (n l Bg Bc Cb G : Nat) (Ap : Option Addr) (len cap : Nat) (L : List Pw) (hlen : L.length = len) (c : List Bool) (hcl : c.length = len) (hl : len ≤ 100000) (P : Nat → Prop) (hPb : P Bc) (hPc : P Cb) (J Jx : List (In L) → World → Prop)
    (hY : ∀ pre x W, J pre W → pre.length < len → YieldAt Fence.wide (n - 1) Try.prog l (encW x) W fun e W' =>
      (e = .returned (.bool true) ∧ J (pre ++ [x]) W' ∧ (∀ k, P k → W'.heap[k]? = W.heap[k]?)) ∨ (e = .returned (.bool false) ∧ Jx (pre ++ [x]) W'))
    (W : World) (hBg : W.cell? ⟨Bg, 0, none⟩ = some (.pointer (some ⟨G, 0, none⟩))) (hG : W.cell? ⟨G, 1, none⟩ = some (.slice Ap len cap)) (hBc : W.cell? ⟨Bc, 0, none⟩ = some (.slice (some ⟨Cb, 0, none⟩) len len))
    (hb : ∀ (j : Nat) (b : Bool), c[j]? = some b → W.cell? ⟨Cb, j, none⟩ = some (.bool b))
    (hc : ∀ (j : Nat) (hj : j < L.length), ∃ b, Ap = some ⟨b, 0, none⟩ ∧ P b ∧ W.cell? ⟨b, j, none⟩ = some (pv L[j].1)) (h0 : J [] W) :
    CallsIn Fence.wide n Try.prog 58 #[.func (.yield l) #[] #[], .pointer (some ⟨Bg, 0, none⟩), .pointer (some ⟨Bc, 0, none⟩)] W fun e W' => (∃ v, e = .returned v) ∧
      (J (sel c L.attach) W' ∨ (∃ pre : List (In L), Jx pre W')) := by
  have HLen := Lib.hid hlen
  have HCl := Lib.hid hcl
  have HC := Lib.hid hc
  have HB := Lib.hid hb
  have HY := Lib.hid hY
  have HBc := Lib.hid hBc
  clear hlen hc hY hcl hb hBc
  refine callsIn_of_wp Try.func58 rfl trivial ?_ rfl
  simp only [Try.ntmps58, List.size_toArray, List.length_cons, List.length_nil, Nat.reduceAdd, Nat.reduceSub, Array.replicate_succ, Array.replicate_zero, List.push_toArray, List.append_toArray, List.nil_append, List.cons_append]
  gi_wp2
  gi_loopw [11] (fun i wr => ∃ k : Nat, k ≤ len ∧ i = .int .i64 k ∧ J (sel (c.take k) (L.attach.take k)) wr ∧ Hid (∀ k, P k → wr.heap[k]? = W.heap[k]?))
    (fun i _ => len - (intOf i).toNat)
  case atStart => exact ⟨0, Nat.zero_le _, rfl, (by simpa [sel] using h0), fun _ _ => rfl⟩
  case round =>
    obtain ⟨k, hk, rfl, hJs, HN⟩ := hrel
    by_cases hlt : k < len
    · have hkL : k < L.length := by rw [HLen.out]; exact hlt
      have hkc : k < c.length := by rw [HCl.out]; exact hlt
      obtain ⟨b, rfl, hP, hcell⟩ := HC.out k hkL
      have hcx : wr.cell? ⟨b, k, none⟩ = some (.pointer (some ⟨L[k].1, 0, none⟩)) := (World.cell?_of_block (a := ⟨b, k, none⟩) (HN.out b hP)).trans hcell
      have hcc : wr.cell? ⟨Bc, 0, none⟩ = some (.slice (some ⟨Cb, 0, none⟩) len len) := (World.cell?_of_block (a := ⟨Bc, 0, none⟩) (HN.out Bc hPb)).trans HBc.out
      have hcb0 : wr.cell? ⟨Cb, k, none⟩ = some (.bool c[k]) := (World.cell?_of_block (a := ⟨Cb, k, none⟩) (HN.out Cb hPc)).trans (HB.out k c[k] (List.getElem?_eq_getElem hkc))
      have bk : (k : Int) < (len : Int) := by omega
      have HS := Lib.hid (sel_snoc (c.take k) (L.attach.take k) c[k] (⟨L[k], List.getElem_mem hkL⟩ : In L) (by rw [List.length_take, List.length_take, List.length_attach, HLen.out, HCl.out]))
      have HT := Lib.hid (show sel (c.take (k + 1)) (L.attach.take (k + 1)) = sel (c.take k ++ [c[k]]) (L.attach.take k ++ [(⟨L[k], List.getElem_mem hkL⟩ : In L)]) by rw [at_snoc c k hkc, at_snoc L.attach k (by rw [List.length_attach]; exact hkL), List.getElem_attach])
      have hsl : (sel (c.take k) (L.attach.take k)).length < len := by
        have hle : ∀ (c : List Bool) (l : List (In L)), (sel c l).length ≤ c.length := by
          intro c
          induction c with
          | nil => intro l; cases l <;> simp [sel]
          | cons a c ih => intro l; cases l with
            | nil => simp [sel]
            | cons y l => have := ih l; cases a <;> simp [sel] <;> omega
        have := hle (c.take k) (L.attach.take k)
        rw [List.length_take] at this
        omega
      have HSl := Lib.hid hsl
      clear hcell hsl
      cases hck : c[k] with
      | true =>
        rw [hck] at hcb0 HS HT
        rw [if_pos rfl] at HS
        obtain ⟨fn, tmps, assign, body, hy, hR⟩ := HY.out _ (⟨L[k], List.getElem_mem hkL⟩ : In L) wr hJs HSl.out
        unfold encW pv at hy
        dsimp only at hy
        clear hck
        gi_wp2
        refine ⟨fun hd => (by cases hd), hR.mono ?_⟩
        rintro e W3 (⟨rfl, hJ3, hk3⟩ | ⟨rfl, hJx3⟩)
        · have HN3 := Lib.hid (show ∀ k, P k → W3.heap[k]? = W.heap[k]? from fun j hj => (hk3 j hj).trans (HN.out j hj))
          clear hk3 HN
          gi_wp2
          go_roundw
          case rel => exact ⟨k + 1, by omega, by simp, by rw [HT.out, HS.out]; exact hJ3, HN3.out⟩
          case measure => simp [intOf]; omega
        · gi_wp2
          refine bodyPost_ret (results_none rfl _ _ _) rfl ?_
          exact ⟨⟨_, rfl⟩, .inr ⟨_, hJx3⟩⟩
      | false =>
        rw [hck] at hcb0 HS HT
        rw [if_neg (by decide)] at HS
        clear hck
        gi_wp2
        refine ⟨fun _ h => (by cases h), ?_⟩
        gi_wp2
        go_roundw
        case rel => exact ⟨k + 1, by omega, by simp, by rw [HT.out, HS.out]; exact hJs, HN.out⟩
        case measure => simp [intOf]; omega
    · obtain rfl : k = len := by omega
      have bk : ¬ (k : Int) < (k : Int) := by omega
      gi_wp2
      go_end0
      exact ⟨⟨_, rfl⟩, .inl (by rw [List.take_of_length_le (by rw [HCl.out]; exact Nat.le_refl _), List.take_of_length_le (by rw [List.length_attach, HLen.out]; exact Nat.le_refl _)] at hJs; exact hJs)⟩
end Go.Proofs.Ythakdjaaknbmpaa.S13
namespace Go.Proofs.Ythakdjaaknbmpaa.S13
open Cf
open Go.RowKit
set_option linter.unusedVariables false
set_option linter.unusedSimpArgs false
def boolRow (s : List Int) (n : Nat) : List Value := (List.range n).map fun (j : Nat) => Value.bool (decide ((j : Int) ∈ s))
theorem boolRow_len (s : List Int) (n : Nat) : (boolRow s n).length = n := by simp [boolRow]
theorem boolRow_in (s : List Int) (n : Nat) (x : Nat) (hx : x < n) : boolRow (s ++ [(x : Int)]) n = (boolRow s n).set x (.bool true) := by
  apply List.ext_getElem
  · simp [boolRow]
  · intro i h1 h2
    rw [List.getElem_set]
    simp only [boolRow, List.getElem_map, List.getElem_range, List.mem_append, List.mem_singleton]
    by_cases h : x = i
    · subst h; simp
    · rw [if_neg h]
      have : ¬ (i : Int) = (x : Int) := by omega
      simp [this]
theorem boolRow_out (s : List Int) (n : Nat) (x : Int) (hx : x < 0 ∨ (n : Int) ≤ x) : boolRow (s ++ [x]) n = boolRow s n := by
  apply List.ext_getElem
  · simp [boolRow]
  · intro i h1 h2
    have hi : i < n := by simpa [boolRow] using h1
    simp only [boolRow, List.getElem_map, List.getElem_range, List.mem_append, List.mem_singleton]
    have : ¬ (i : Int) = x := by omega
    simp [this]
theorem boolRow_at (s : List Int) (n j : Nat) (hj : j < n) : (boolRow s n)[j]? = some (.bool (decide ((j : Int) ∈ s))) := by simp [boolRow, hj]
theorem boolRow_flags (s : List Int) (n : Nat) : boolRow s n = (flags s 0 n).map Value.bool := by
  apply List.ext_getElem
  · simp [boolRow, flags]
  · intro i h1 h2
    simp [boolRow, flags]
theorem boolRow_nil (n : Nat) : boolRow [] n = List.replicate n (.bool false) := by
  apply List.ext_getElem
  · simp [boolRow]
  · intro i h1 h2
    simp [boolRow]
theorem infoB : (Try.prog.info? 4).map (fun i => (i.zero, i.size, i.bytes)) = some (some (.bool false), 1, 1) := by kernel_rfl
theorem mkBool (n : Nat) (hn : n ≤ 100000) (W : World) : (Instr.makeSlice 98 (.int .i64 (n : Int)) (.int .i64 (n : Int))).run Try.prog W = .ok (.slice (some ⟨W.heap.size, 0, none⟩) n n) (W.alloc (.cells (boolRow [] n).toArray 4)) := by
  obtain ⟨i0, hi, hz0, hz1, hz2⟩ := info_parts infoB
  have hr := run_make (P := Try.prog) W 98 4 i0 _ Try.underlying98 hi hz0 .i64 .i64 (n : Int) (n : Int) (by omega) (by omega) (by rw [hz2]; omega) (by omega)
  simp only [Int.toNat_natCast, hz1, Nat.mul_one] at hr
  rw [hr]
  have : madeCells (Value.bool false).cells n = (boolRow [] n).toArray := by
    apply Array.toList_inj.1
    show (madeCells #[_] n).toList = _
    rw [toList_madeCells_one, boolRow_nil]
  rw [this]
/-- Where chosen's loop stands. -/
structure ChI (G np : Nat) (w wr : World) (s : List Int) : Prop where
  gr : Grown w wr
  bd : wr.cell? ⟨w.heap.size, 0, none⟩ = some (.pointer (some ⟨G, 0, none⟩))
  bx : wr.cell? ⟨w.heap.size + 1 + 1, 0, none⟩ = some (.slice (some ⟨w.heap.size + 1, 0, none⟩) np np)
  row : wr.heap[w.heap.size + 1]? = some (.cells (boolRow s np).toArray 4 (0, 0))
theorem ChI.set {G np : Nat} {w wr : World} {s : List Int} (h : ChI G np w wr s) (x : Nat) (hx : x < np) : ChI G np w (wr.setCell ⟨w.heap.size + 1, x, none⟩ (.bool true)) (s ++ [(x : Int)]) where
  gr := h.gr.setCell (p := ⟨w.heap.size + 1, x, none⟩) (by show w.heap.size ≤ w.heap.size + 1; omega) _
  bd := (World.cell?_of_block (a := ⟨w.heap.size, 0, none⟩) (heap_setCell_other wr ⟨w.heap.size + 1, x, none⟩ w.heap.size _ (by show w.heap.size ≠ w.heap.size + 1; omega))).trans h.bd
  bx := (World.cell?_of_block (a := ⟨w.heap.size + 1 + 1, 0, none⟩) (heap_setCell_other wr ⟨w.heap.size + 1, x, none⟩ (w.heap.size + 1 + 1) _ (by show w.heap.size + 1 + 1 ≠ w.heap.size + 1; omega))).trans h.bx
  row := by rw [heap_setCell_same wr (w.heap.size + 1) x _ _ _ h.row, boolRow_in s np x hx]; simp
theorem ChI.out_ {G np : Nat} {w wr : World} {s : List Int} (h : ChI G np w wr s) (x : Int) (hx : x < 0 ∨ (np : Int) ≤ x) : ChI G np w wr (s ++ [x]) :=
  { h with row := by rw [boolRow_out s np x hx]; exact h.row }
section
variable {w w' : World} {G Bd Bl : Nat} {Ap : Option Addr} {L : List Pw} {left : Int} {st : Dv} {i : Nat}
theorem values_any (w : World) (A : Option Addr) (n c : Nat) : Calls Try.prog 45 #[.slice A n c] w fun e w' =>
    e = .returned (.func (.func 57) #[] #[.pointer (some ⟨w.heap.size, 0, none⟩)]) ∧ w' = w.alloc (.cells #[.slice A n c] 63) := by
  go_enter Try.func45, Try.ntmps45
  go_wp2
  go_ret
  exact ⟨rfl, rfl⟩
set_option maxRecDepth 20000 in
set_option maxHeartbeats 2000000 in
theorem chosen_any (h : Pz w G Bd Bl Ap L left st) (hL : L.length ≤ 1000) (A : Option Addr) (m c : Nat) (keep : List Int) (hk : RdN w w.heap.size A keep) (hm : keep.length = m) (hm1 : m ≤ 1000) :
    Calls Try.prog 47 #[.pointer (some ⟨G, 0, none⟩), .slice A m c] w fun e w' =>
      e = .returned (.func (.func 58) #[] #[.pointer (some ⟨w.heap.size, 0, none⟩), .pointer (some ⟨w.heap.size + 2, 0, none⟩)]) ∧ Grown w w' ∧ w'.cell? ⟨w.heap.size, 0, none⟩ = some (.pointer (some ⟨G, 0, none⟩)) ∧
        w'.cell? ⟨w.heap.size + 2, 0, none⟩ = some (.slice (some ⟨w.heap.size + 1, 0, none⟩) L.length L.length) ∧ w'.heap[w.heap.size + 1]? = some (.cells (boolRow keep L.length).toArray 4 (0, 0)) := by
  have H := Lib.hid h
  have HK := Lib.hid hk
  have HM := Lib.hid hm
  obtain ⟨np, hnp⟩ : ∃ np, np = L.length := ⟨_, rfl⟩
  obtain ⟨cp, l1, c0, c1, c2, c3, c4⟩ := h.pr.cells
  rw [show (Ps.mk st.kept (L.map (·.1)) (latRow st.kept.length L) st.count left).row.length = np by rw [hnp]; exact List.length_map _] at c1
  rw [← hnp] at hL ⊢
  have hmk := mkBool np (by omega) (w.alloc (.cells #[.pointer (some ⟨G, 0, none⟩)] 24))
  rw [World.size_alloc] at hmk
  have hG1 : (w.alloc (.cells #[.pointer (some ⟨G, 0, none⟩)] 24)).cell? ⟨G, 1, none⟩ = some (.slice Ap np cp) := (World.cell?_of_block (a := ⟨G, 1, none⟩) ((alloc_below w _).block G (h.pr.lt G (.inl rfl)))).trans c1
  have GA := Lib.hid (alloc_below w (.cells #[.pointer (some ⟨G, 0, none⟩)] 24))
  have hcn := cellNew w (.pointer (some ⟨G, 0, none⟩)) 24
  have HCn := Lib.hid hcn
  clear h hk hm c0 c1 c2 c3 c4 l1 hnp
  go_enter Try.func47, Try.ntmps47
  go_wp2_with fail
  have I0 := Lib.hid (show ChI G np w (((w.alloc (.cells #[.pointer (some ⟨G, 0, none⟩)] 24)).alloc (.cells (boolRow [] np).toArray 4)).alloc (.cells #[.slice (some ⟨w.heap.size + 1, 0, none⟩) np np] 98)) [] from ⟨Grown.trans GA.out (Grown.trans (alloc_below _ _) (alloc_below _ _)),
    (World.cell?_of_block (a := ⟨w.heap.size, 0, none⟩) ((Grown.trans (alloc_below _ _) (alloc_below _ _)).block w.heap.size (by rw [World.size_alloc]; omega))).trans HCn.out,
    by have := cellNew ((w.alloc (.cells #[.pointer (some ⟨G, 0, none⟩)] 24)).alloc (.cells (boolRow [] np).toArray 4)) (.slice (some ⟨w.heap.size + 1, 0, none⟩) np np) 98; rw [World.size_alloc, World.size_alloc] at this; exact this,
    by rw [(alloc_below _ (.cells #[.slice (some ⟨w.heap.size + 1, 0, none⟩) np np] 98)).block (w.heap.size + 1) (by rw [World.size_alloc, World.size_alloc]; omega)]
       have := heap_alloc_new (w.alloc (.cells #[.pointer (some ⟨G, 0, none⟩)] 24)) (.cells (boolRow [] np).toArray 4)
       rw [World.size_alloc] at this; exact this⟩)
  generalize World.alloc (World.alloc _ _) _ = w3 at I0 ⊢
  clear hmk hG1 hcn HCn GA
  go_loopw [16] (fun v16 wr => ∃ (k : Nat), v16 = .int .i64 (k : Int) ∧ k ≤ m ∧ Hid (ChI G np w wr (keep.take k))) (fun v16 _ => m - (intOf v16).toNat)
  case atStart => exact ⟨0, rfl, Nat.zero_le _, I0.out⟩
  case round =>
    clear I0
    obtain ⟨k, rfl, hk, HI⟩ := hrel
    by_cases hlt : k < m
    · have bk : (k : Int) < (m : Int) := by omega
      have hkl : k < keep.length := by rw [HM.out]; exact hlt
      obtain ⟨b, off, hA, hb, hc⟩ : ∃ b off, A = some ⟨b, off, none⟩ ∧ b < w.heap.size ∧ ∀ j (h : j < keep.length), w.cell? ⟨b, off + j, none⟩ = some (.int .i64 keep[j]) := by
        rcases HK.out with e | e
        · rw [e] at hkl; simp at hkl
        · exact e
      obtain ⟨x, hx⟩ : ∃ x, x = keep[k] := ⟨_, rfl⟩
      have hcr : wr.cell? ⟨b, off + k, none⟩ = some (.int .i64 x) := (World.cell?_of_block (a := ⟨b, off + k, none⟩) (HI.out.gr.block b hb)).trans (by rw [hx]; exact hc k hkl)
      have HT := Lib.hid (show keep.take (k + 1) = keep.take k ++ [x] by rw [at_snoc keep k hkl, hx])
      have r2 : wr.cell? ⟨w.heap.size + 1 + 1, 0, none⟩ = some (.slice (some ⟨w.heap.size + 1, 0, none⟩) np np) := HI.out.bx
      subst hA
      clear hx hc hkl
      by_cases hx0 : x ≥ 0
      · by_cases hx1 : x < (np : Int)
        · obtain ⟨j, rfl⟩ : ∃ j : Nat, x = (j : Int) := ⟨x.toNat, by omega⟩
          have hrow := HI.out.row
          have r3 : wr.cell? ⟨w.heap.size + 1, j, none⟩ = some (.bool (decide ((j : Int) ∈ keep.take k))) := by rw [cell_of_row wr _ j _ _ (0, 0) hrow, List.getElem?_toArray]; exact boolRow_at _ np j (by omega)
          have r4 := frozen_of_row wr (w.heap.size + 1) j _ _ hrow
          have HI2 := Lib.hid (show ChI G np w (wr.setCell ⟨w.heap.size + 1, j, none⟩ (.bool true)) (keep.take (k + 1)) by rw [HT.out]; exact HI.out.set j (by omega))
          clear hrow
          go_wp2
          go_roundw
          case rel => exact ⟨k + 1, by simp, by omega, HI2.out⟩
          case measure => simp [intOf]; omega
        · have HI2 := Lib.hid (show ChI G np w wr (keep.take (k + 1)) by rw [HT.out]; exact HI.out.out_ x (.inr (by omega)))
          go_wp2
          go_roundw
          case rel => exact ⟨k + 1, by simp, by omega, HI2.out⟩
          case measure => simp [intOf]; omega
      · have HI2 := Lib.hid (show ChI G np w wr (keep.take (k + 1)) by rw [HT.out]; exact HI.out.out_ x (.inl (by omega)))
        go_wp2
        go_roundw
        case rel => exact ⟨k + 1, by simp, by omega, HI2.out⟩
        case measure => simp [intOf]; omega
    · have bk : ¬ (k : Int) < (m : Int) := by omega
      have HE := Lib.hid (show keep.take k = keep by rw [List.take_of_length_le (by rw [HM.out]; omega)])
      rw [HE.out] at HI
      go_wp2
      go_ret
      exact ⟨rfl, HI.out.gr, HI.out.bd, HI.out.bx, HI.out.row⟩
end
end Go.Proofs.Ythakdjaaknbmpaa.S13
