/-
  Contract of the program's Fill (up to 2000).
-/
import Derived.Test.YthakdjaaknbmpaaMgKactsMain5
import Derived.Test.YthakdjaaknbmpaaMgKactsMain26
import Derived.Laws.CopyOwn
namespace Go.Proofs.Ythakdjaaknbmpaa
open Go.RowKit
set_option linter.unusedVariables false

theorem size5 : (Try.prog.info? 5).map (·.size) = some 1 := by kernel_rfl

theorem Rd.src {w : World} {B : Nat} {A : Option Addr} {l : List UInt8} (h : Rd w B A l) (hp : 0 < (bvs l).length) : ∃ ad, A = some ad ∧ ∀ j v, (bvs l)[j]? = some v → w.cell? (ad.add j) = some v := by
  rcases h with rfl | ⟨b, off, rfl, hb, hc⟩
  · simp [bvs] at hp
  · refine ⟨_, rfl, fun j v hv => ?_⟩
    have hj : j < l.length := by
      have := (List.getElem?_eq_some_iff.1 hv).1
      simpa [bvs] using this
    have h3 := hc j hj
    simp [bvs, hj] at hv
    subst hv
    by_cases h0 : j = 0
    · subst h0; simpa [Addr.add] using h3
    · simpa [Addr.add, h0] using h3

/-- copy(out, src), out a row that the call made, at least as long. -/
theorem wpList_copyB {w : World} {ops : Array Oper} {rest : List Oper} {o : Oper} {a : Act} {Q : Exit → Act → World → Prop} (hgd : o.guard = none) (d s : Operand)
    (ho : o.op = .call { callee := .builtin .copy, args := #[d, s], argTypes := #[38, 38] }) {g m n c : Nat} {A : Option Addr} (hd : a.eval d = .slice (some ⟨g, 0, none⟩) m m) (hs : a.eval s = .slice A n c)
    {cur l : List UInt8} (hg : Row w g cur) (hm : cur.length = m) {B0 : Nat} (hr : Rd w B0 A l) (hn : l.length = n) (hle : n ≤ m) (B : Nat) (w0 : World) (hb : Below B w0 w) (hBg : B ≤ g)
    (h : ∀ w', Hid (Row w' g (l ++ cur.drop n)) → Hid (Below B w0 w') → wpList Try.prog ops Q rest (a.put o.dst (goInt n)) w') : wpList Try.prog ops Q (o :: rest) a w := by
  subst hm hn
  refine wpList_copy_splice hgd d s 38 38 ho 5 Try.underlying38 size5 _ _ _ _ _ _ hd hs g 0 (bvs cur) 5 hg (bvs l) (by rw [bvs_length]; exact (Nat.min_eq_left hle).symm) (fun hp => ⟨rfl, hr.src hp⟩) (by simp [bvs]; omega) (bvs_one l) B w0 hb hBg ?_
  intro w' h1 h2
  have e : splice (bvs cur) 0 (bvs l) = bvs (l ++ cur.drop l.length) := by simp [splice, bvs]
  rw [e] at h1
  have e2 : (bvs l).length = l.length := by simp [bvs]
  rw [e2]
  exact h w' h1 h2

def fillL (l : List UInt8) (m : Nat) : List UInt8 := l ++ List.replicate (m - l.length) 0
theorem fillL_len (l : List UInt8) (m : Nat) : (fillL l m).length = max l.length m := by simp [fillL]; omega

set_option maxHeartbeats 1000000 in
theorem fill_any (A : Option Addr) (n c : Nat) (l : List UInt8) (size : Int) (w : World) (h : Rd w w.heap.size A l) (hn : l.length = n) (hl : n ≤ 1000000) (hs : size ≤ 2000) :
    Calls Try.prog 35 #[.slice A n c, .int .i64 size] w (Makes w (fillL l size.toNat)) := by
  have Hn := Lib.hid hn
  have go : ∀ m : Nat, ((size < n ∧ m = n) ∨ ((n : Int) < size ∧ size = (m : Int)) ∨ (size = (m : Int) ∧ m = n)) → Calls Try.prog 35 #[.slice A n c, .int .i64 size] w (Makes w (fillL l size.toNat)) := by
    intro m hm
    have Hf := Lib.hid (show (fillL l size.toNat).length = m by rw [fillL_len, hn]; omega)
    have He := Lib.hid (show l ++ (List.replicate m (0 : UInt8)).drop n = fillL l size.toNat by
      unfold fillL
      rw [List.drop_replicate, hn]
      congr 2
      omega)
    have hmk := fun W => mk22 m (by omega) W
    have hnm : n ≤ m := by omega
    clear hn
    rcases hm with ⟨h1, rfl⟩ | ⟨h1, rfl⟩ | ⟨rfl, rfl⟩
    all_goals
      go_enter Try.func35, Try.ntmps35
      go_wp2_with (first
        | (with_reducible refine wpList_copyB rfl (.tmp 15) (.tmp 16) rfl rfl rfl (Row.new w (List.replicate m 0)) (by simp) (h.grow (alloc_below w _)) Hn.out hnm w.heap.size w (alloc_below w _) (Nat.le_refl _) ?_
           intro w1 hr1 hb1))
      go_ret
      have hr := hr1.out
      rw [He.out] at hr
      have ho := Own.row hr (Nat.le_refl _) (by rw [Hf.out]; omega)
      rw [Hf.out] at ho
      exact ⟨_, _, by rw [Hf.out]; rfl, ho, hb1.out⟩
  exact go (max size n).toNat (by omega)

end Go.Proofs.Ythakdjaaknbmpaa
