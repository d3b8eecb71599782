/-
  Contracts of Fill (up to 2000), the reference's Fill, Cut and All.
-/
import Derived.Test.YtmcdidmfgjmhiaaAwk
import Derived.Laws.CopyOwn
namespace Go.Proofs.Ytmcdidmfgjmhiaa
open Go.RowKit
set_option linter.unusedVariables false

theorem size5 : (Try.prog.info? 5).map (·.size) = some 1 := by kernel_rfl

theorem Rd.src {w : World} {B : Nat} {A : Option Addr} {l : List UInt8} (h : Rd w B A l) (hp : 0 < (bvs l).length) : ∃ ad, A = some ad ∧ ∀ j v, (bvs l)[j]? = some v → w.cell? (ad.add j) = some v := by
  rcases h with rfl | ⟨b, off, rfl, hb, hc⟩
  · simp [bvs] at hp
  · refine ⟨_, rfl, fun j v hv => ?_⟩
    have hj : j < l.length := by
      have := (List.getElem?_eq_some_iff.1 hv).1
      simpa [bvs] using this
    have h3 := hc j hj
    simp [bvs, hj] at hv
    subst hv
    by_cases h0 : j = 0
    · subst h0; simpa [Addr.add] using h3
    · simpa [Addr.add, h0] using h3

/-- copy(out, src), out a row that the call made, at least as long. -/
theorem wpList_copyB {w : World} {ops : Array Oper} {rest : List Oper} {o : Oper} {a : Act} {Q : Exit → Act → World → Prop} (hgd : o.guard = none) (d s : Operand)
    (ho : o.op = .call { callee := .builtin .copy, args := #[d, s], argTypes := #[22, 22] }) {g m n c : Nat} {A : Option Addr} (hd : a.eval d = .slice (some ⟨g, 0, none⟩) m m) (hs : a.eval s = .slice A n c)
    {cur l : List UInt8} (hg : Row w g cur) (hm : cur.length = m) {B0 : Nat} (hr : Rd w B0 A l) (hn : l.length = n) (hle : n ≤ m) (B : Nat) (w0 : World) (hb : Below B w0 w) (hBg : B ≤ g)
    (h : ∀ w', Hid (Row w' g (l ++ cur.drop n)) → Hid (Below B w0 w') → wpList Try.prog ops Q rest (a.put o.dst (goInt n)) w') : wpList Try.prog ops Q (o :: rest) a w := by
  subst hm hn
  refine wpList_copy_splice hgd d s 22 22 ho 5 Try.underlying22 size5 _ _ _ _ _ _ hd hs g 0 (bvs cur) 5 hg (bvs l) (by rw [bvs_length]; exact (Nat.min_eq_left hle).symm) (fun hp => ⟨rfl, hr.src hp⟩) (by simp [bvs]; omega) (bvs_one l) B w0 hb hBg ?_
  intro w' h1 h2
  have e : splice (bvs cur) 0 (bvs l) = bvs (l ++ cur.drop l.length) := by simp [splice, bvs]
  rw [e] at h1
  have e2 : (bvs l).length = l.length := by simp [bvs]
  rw [e2]
  exact h w' h1 h2

def fillL (l : List UInt8) (m : Nat) : List UInt8 := l ++ List.replicate (m - l.length) 0
theorem fillL_len (l : List UInt8) (m : Nat) : (fillL l m).length = max l.length m := by simp [fillL]; omega

set_option maxHeartbeats 1000000 in
theorem fill_any (A : Option Addr) (n c : Nat) (l : List UInt8) (size : Int) (w : World) (h : Rd w w.heap.size A l) (hn : l.length = n) (hl : n ≤ 1000000) (hs : size ≤ 2000) :
    Calls Try.prog 17 #[.slice A n c, .int .i64 size] w (Makes w (fillL l size.toNat)) := by
  have Hn := Lib.hid hn
  have go : ∀ m : Nat, ((size < n ∧ m = n) ∨ ((n : Int) < size ∧ size = (m : Int)) ∨ (size = (m : Int) ∧ m = n)) → Calls Try.prog 17 #[.slice A n c, .int .i64 size] w (Makes w (fillL l size.toNat)) := by
    intro m hm
    have Hf := Lib.hid (show (fillL l size.toNat).length = m by rw [fillL_len, hn]; omega)
    have He := Lib.hid (show l ++ (List.replicate m (0 : UInt8)).drop n = fillL l size.toNat by
      unfold fillL
      rw [List.drop_replicate, hn]
      congr 2
      omega)
    have hmk := fun W => mk22 m (by omega) W
    have hnm : n ≤ m := by omega
    clear hn
    rcases hm with ⟨h1, rfl⟩ | ⟨h1, rfl⟩ | ⟨rfl, rfl⟩
    all_goals
      go_enter Try.func17, Try.ntmps17
      go_wp2_with (first
        | (with_reducible refine wpList_copyB rfl (.tmp 15) (.tmp 16) rfl rfl rfl (Row.new w (List.replicate m 0)) (by simp) (h.grow (alloc_below w _)) Hn.out hnm w.heap.size w (alloc_below w _) (Nat.le_refl _) ?_
           intro w1 hr1 hb1))
      go_ret
      have hr := hr1.out
      rw [He.out] at hr
      have ho := Own.row hr (Nat.le_refl _) (by rw [Hf.out]; omega)
      rw [Hf.out] at ho
      exact ⟨_, _, by rw [Hf.out]; rfl, ho, hb1.out⟩
  exact go (max size n).toNat (by omega)

theorem fillL_step (l : List UInt8) (t : Nat) : fillL l (l.length + t) ++ [0] = fillL l (l.length + (t + 1)) := by
  unfold fillL
  rw [List.append_assoc]
  congr 1
  rw [show l.length + t - l.length = t by omega, show l.length + (t + 1) - l.length = t + 1 by omega]
  exact (List.replicate_succ' ..).symm

/-- The head of the reference's loop. -/
def FillRel (w : World) (l : List UInt8) (size : Int) (v : Value) (wr : World) : Prop :=
  ∃ t m A c, v = .slice A m c ∧ l.length + t = m ∧ ((t : Int) = 0 ∨ (m : Int) ≤ size) ∧ m ≤ 1002000 ∧ Own wr w.heap.size A c (fillL l m) ∧ Below w.heap.size w wr

set_option maxHeartbeats 1000000 in
theorem refFill_any (A : Option Addr) (n c : Nat) (l : List UInt8) (size : Int) (w : World) (h : Rd w w.heap.size A l) (hn : l.length = n) (hl : n ≤ 1000000) (hs : size ≤ 2000) :
    Calls Try.prog 21 #[.slice A n c, .int .i64 size] w (Makes w (fillL l size.toNat)) := by
  have Hn := Lib.hid hn
  clear hn
  go_enter Try.func21, Try.ntmps21
  go_wp2_with (first
    | (at_builtin
       refine wpList_app rfl (.tmp 6) (.tmp 7) rfl (base := w.heap.size) (l := []) (c := 0) rfl (Own.lit w [] (Nat.le_refl _) (by simp)) (l2 := l) (by rw [Hn.out]; rfl) (h.grow (alloc_below w _)) (by have := Hn.out; simp; omega) (by simp) l (by simp) ?_
       intro A1 c1 w1 ho1 hb1
       have Ho1 := Lib.hid ho1
       have Hb1 := Lib.hid hb1
       clear ho1 hb1))
  go_loopw [5] (fun v wr => FillRel w l size v wr) (fun v _ => size.toNat - lenV v)
  case atStart =>
    refine ⟨0, l.length, A1, c1, rfl, rfl, .inl rfl, by have := Hn.out; omega, ?_, (alloc_below w _).trans Hb1.out⟩
    have : fillL l l.length = l := by simp [fillL]
    rw [this]
    exact Ho1.out
  case round =>
    obtain ⟨t, m, A2, c2, rfl, hm, ht, hm2, ho, hb⟩ := hrel
    have Hm := Lib.hid hm
    have Ho := Lib.hid ho
    have Hb := Lib.hid hb
    have Ht := Lib.hid ht
    have hB := Hb.out.size
    clear hm ho hb ht
    have Hf := Lib.hid (show (fillL l m).length = m by rw [fillL_len]; have := Hm.out; omega)
    by_cases hlt : (m : Int) < size
    · have Hs := Lib.hid (show fillL l m ++ [0] = fillL l (m + 1) by have := fillL_step l t; rw [← Nat.add_assoc, Hm.out] at this; exact this)
      have Hf2 := Lib.hid (show (fillL l (m + 1)).length = m + 1 by rw [fillL_len]; have := Hm.out; omega)
      go_wp2_with (first
        | (at_builtin
           refine wpList_app rfl (.tmp 13) (.tmp 14) rfl (base := w.heap.size) (l := fillL l m) (by rw [Hf.out]; rfl) (Ho.out.grow (alloc_below wr _)) (l2 := [0]) rfl ((Row.new wr [0]).rd (Nat.lt_succ_self _)) (by rw [Hf.out]; simp; omega) (by simp; omega) (fillL l (m + 1)) Hs.out ?_
           intro A3 c3 w3 ho3 hb3
           rw [Hf2.out]
           have Ho3 := Lib.hid ho3
           have Hb3 := Lib.hid hb3
           clear ho3 hb3))
      go_roundw
      case rel => exact ⟨t + 1, m + 1, A3, c3, rfl, by have := Hm.out; omega, .inr (by omega), by omega, Ho3.out, (Hb.out.alloc hB _).trans Hb3.out⟩
      case measure => simp [lenV]; omega
    · go_wp2
      go_ret
      have e : fillL l m = fillL l size.toNat := by
        unfold fillL
        congr 2
        have := Hm.out
        have := Ht.out
        omega
      refine ⟨A2, c2, ?_, e ▸ Ho.out, Hb.out⟩
      show Ending.returned (.slice A2 m c2) = _
      rw [← e, Hf.out]

end Go.Proofs.Ytmcdidmfgjmhiaa
