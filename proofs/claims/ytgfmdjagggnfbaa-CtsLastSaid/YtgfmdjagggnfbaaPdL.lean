/-
  The words of a key on lists, as the program's expand lays them; without the walk.
-/
import Derived.Test.YtgfmdjagggnfbaaPdG
import Derived.Test.YtgfmdjagggnfbaaPdT
import Derived.Deep.MidRow
import Derived.Laws.CopyOwn
namespace Go.Proofs.Ytgfmdjagggnfbaa.S7
open Go.RowKit
set_option linter.unusedVariables false
set_option linter.unusedSimpArgs false

/-- A list of four bytes, of which the first t are f's. -/
def qt (f : Nat → UInt8) (l : List UInt8) (t : Nat) : List UInt8 := (List.range 4).map fun i => if i < t then f i else gt l i
theorem qt_len (f : Nat → UInt8) (l : List UInt8) (t : Nat) : (qt f l t).length = 4 := by simp [qt]
theorem four_gt (l : List UInt8) (h : l.length = 4) : (List.range 4).map (gt l) = l := by
  match l, h with
  | [a, b, c, d], _ => rfl
theorem qt_zero (f : Nat → UInt8) (l : List UInt8) (h : l.length = 4) : qt f l 0 = l := Eq.trans (by simp [qt]) (four_gt l h)
theorem qt_all (f : Nat → UInt8) (l : List UInt8) : qt f l 4 = (List.range 4).map f := by
  apply List.map_congr_left
  intro i hi
  rw [if_pos (by simpa using hi)]
theorem qt_set (f : Nat → UInt8) (l : List UInt8) (t : Nat) : (qt f l t).set t (f t) = qt f l (t + 1) := by
  apply List.ext_getElem
  · simp [qt]
  · intro i h1 h2
    rw [List.getElem_set]
    simp only [qt, List.getElem_map, List.getElem_range]
    by_cases h : t = i
    · subst h; simp
    · rw [if_neg h]
      by_cases h3 : i < t
      · rw [if_pos h3, if_pos (by omega)]
      · rw [if_neg h3, if_neg (by omega)]
theorem gt_qt (f : Nat → UInt8) (l : List UInt8) (t i : Nat) (h : i < 4) : gt (qt f l t) i = if i < t then f i else gt l i := by simp [gt, qt, h]
theorem four (l : List UInt8) (h : l.length = 4) : l = [gt l 0, gt l 1, gt l 2, gt l 3] := (four_gt l h).symm
/-- The tables that lie behind the words. -/
def TT : List UInt8 := SB ++ SI
theorem SB_len : SB.length = 256 := by decide +kernel
theorem SI_len : SI.length = 256 := by decide +kernel
theorem TT_len : TT.length = 512 := by unfold TT; rw [List.length_append, SB_len, SI_len]
/-- The first words of a cipher, noughts behind them. -/
def wz (l : List UInt8) : List UInt8 := l ++ (List.replicate (240 - l.length) 0 ++ TT)
theorem wz_len (l : List UInt8) (h : l.length ≤ 240) : (wz l).length = 752 := by simp [wz, TT_len]; omega
theorem gt_wz (l : List UInt8) (i : Nat) (h : i < l.length) : gt (wz l) i = gt l i := by
  unfold wz gt
  simp [List.getD_eq_getElem?_getD, List.getElem?_append_left h]
theorem gt_TT (l : List UInt8) (hl : l.length ≤ 240) (j : Nat) : gt (wz l) (240 + j) = gt TT j := by
  unfold wz gt
  rw [← List.append_assoc]
  simp only [List.getD_eq_getElem?_getD]
  rw [List.getElem?_append_right (by simp; omega)]
  congr 2
  simp; omega
theorem gt_SB (j : Nat) (h : j < 256) : gt TT j = gt SB j := by
  unfold TT gt
  simp only [List.getD_eq_getElem?_getD]
  rw [List.getElem?_append_left (by rw [SB_len]; exact h)]
theorem gt_SI (j : Nat) : gt TT (256 + j) = gt SI j := by
  unfold TT gt
  simp only [List.getD_eq_getElem?_getD]
  rw [List.getElem?_append_right (by rw [SB_len]; omega), SB_len, Nat.add_sub_cancel_left]
/-- Four more bytes, one behind the other. -/
theorem wz_four (l : List UInt8) (a b c d : UInt8) (h : l.length + 4 ≤ 240) (p : Nat) (hp : p = l.length) :
    ((((wz l).set p a).set (p + 1) b).set (p + 2) c).set (p + 3) d = wz (l ++ [a, b, c, d]) := by
  obtain ⟨m, hm⟩ : ∃ m, 240 - l.length = m + 4 := ⟨240 - l.length - 4, by omega⟩
  have e : 240 - (l ++ [a, b, c, d]).length = m := by simp; omega
  unfold wz
  rw [e, hm, hp, List.set_append_right _ _ (by omega), List.set_append_right _ _ (by omega), List.set_append_right _ _ (by omega), List.set_append_right _ _ (by omega)]
  simp [List.replicate_succ]
theorem wz_splice (l x : List UInt8) (h : l.length + x.length ≤ 240) (p : Nat) (hp : p = l.length) : splice (wz l) p x = wz (l ++ x) := by
  unfold splice wz
  rw [hp, List.take_left, List.length_append, List.append_assoc]
  congr 2
  rw [List.drop_append, List.drop_eq_nil_of_le (by omega), List.nil_append, Nat.add_sub_cancel_left, List.drop_append, List.drop_replicate, List.length_replicate, show x.length - (240 - l.length) = 0 by omega, List.drop_zero, show 240 - l.length - x.length = 240 - (l.length + x.length) by omega]
theorem pw_next (m : Nat) : dbl (pw m) = pw (m + 1) := by
  show dbl (pw m) = mulB 2 (pw m)
  simp [mulB]
/-- The power that expand holds when it comes to word i. -/
def pwAt (i : Nat) : UInt8 := pw ((i + 7) / 8 - 1)
theorem pwAt_keep (i : Nat) (h : 8 ≤ i) (h8 : i % 8 ≠ 0) : pwAt (i + 1) = pwAt i := by unfold pwAt; congr 1; omega
theorem pwAt_next (i : Nat) (h : 8 ≤ i) (h8 : i % 8 = 0) : pwAt (i + 1) = dbl (pwAt i) := by unfold pwAt; rw [pw_next]; congr 1; omega
theorem pwAt_now (i : Nat) (h8 : i % 8 = 0) : pwAt i = pw (i / 8 - 1) := by unfold pwAt; congr 1; omega
def prv (w : List UInt8) (i : Nat) : List UInt8 := [gt w (4 * i - 4), gt w (4 * i - 3), gt w (4 * i - 2), gt w (4 * i - 1)]
def mpS (x : List UInt8) : List UInt8 := (List.range 4).map fun i => gt SB (gt x i).toNat
def xoL (x v : List UInt8) : List UInt8 := (List.range 4).map fun i => gt x i ^^^ gt v i
def old (w : List UInt8) (i : Nat) : List UInt8 := [gt w (4 * i - 32), gt w (4 * i - 32 + 1), gt w (4 * i - 32 + 2), gt w (4 * i - 32 + 3)]
def sF (x : List UInt8) (j : Nat) : UInt8 := gt SB (gt x j).toNat
def xF (x v : List UInt8) (j : Nat) : UInt8 := gt x j ^^^ gt v j
theorem word_of (w : List UInt8) (i : Nat) (x : List UInt8) (hx : x = nxt w i) : xoL x (old w i) = word w i := by
  subst hx
  apply List.map_congr_left
  intro k hk
  have hk4 : k < 4 := by simpa using hk
  rw [UInt8.xor_comm]
  congr 1
  match k, hk4 with
  | 0, _ | 1, _ | 2, _ | 3, _ => rfl
theorem nxt_c (w : List UInt8) (i : Nat) (h0 : i % 8 ≠ 0) (h4 : i % 8 ≠ 4) : prv w i = nxt w i := by unfold nxt; rw [if_neg h0, if_neg h4]; rfl
theorem nxt_b (w : List UInt8) (i : Nat) (h4 : i % 8 = 4) : (mpS (prv w i)).set 0 (gt (mpS (prv w i)) 0 ^^^ 0) = nxt w i := by
  unfold nxt
  rw [if_neg (by omega), if_pos h4]
  show [_ ^^^ 0, _, _, _] = _
  rw [UInt8.xor_zero]
  rfl
theorem nxt_a (w : List UInt8) (i : Nat) (h0 : i % 8 = 0) (x : List UInt8) (hx : x = [gt w (4 * i - 3), gt w (4 * i - 2), gt w (4 * i - 1), gt w (4 * i - 4)]) : (mpS x).set 0 (gt (mpS x) 0 ^^^ pw (i / 8 - 1)) = nxt w i := by
  subst hx
  unfold nxt
  rw [if_pos h0]
  rfl
/-- Where expand stands: l are the bytes of the words so far. -/
def Ex (w wr : World) (G : Nat) (l : List UInt8) : Prop := Below G w wr ∧ Bk wr G 44 (wz l)
theorem Ex.cell {w wr : World} {G : Nat} {l : List UInt8} (h : Ex w wr G l) (hl : l.length ≤ 240) (i : Nat) (hi : i < l.length) : wr.cell? ⟨G, i, none⟩ = some (.int .u8 ((gt l i).toNat : Int)) := by
  rw [h.2.cell i (by rw [wz_len l hl]; omega), gt_wz l i hi]
theorem Ex.s {w wr : World} {G : Nat} {l : List UInt8} (h : Ex w wr G l) (hl : l.length ≤ 240) (x : UInt8) : wr.cell? ⟨G, 240 + x.toNat, none⟩ = some (.int .u8 ((gt SB x.toNat).toNat : Int)) := by
  have hx := u8_lt x
  rw [h.2.cell (240 + x.toNat) (by rw [wz_len l hl]; omega), gt_TT l hl, gt_SB _ hx]
theorem Ex.alloc {w wr : World} {G : Nat} {l : List UInt8} (h : Ex w wr G l) (o : Obj) : Ex w (wr.alloc o) G l := ⟨h.1.alloc (by have := h.2.lt; omega) _, h.2.alloc _⟩
theorem Ex.far {w wr : World} {G : Nat} {l : List UInt8} (h : Ex w wr G l) {p : Addr} (hp : G < p.block) (v : Value) : Ex w (wr.setCell p v) G l := ⟨h.1.setCell (by omega) _, h.2.far (by omega) _⟩
theorem Ex.drew {w wr : World} {G : Nat} {l : List UInt8} (h : Ex w wr G l) : Ex w wr.drew G l := ⟨h.1.drew, h.2⟩
end Go.Proofs.Ytgfmdjagggnfbaa.S7
