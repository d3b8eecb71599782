/-
  Contract of bytes.Repeat of one byte, 128 times.
-/
import Derived.Test.YtbofikghcoalbaaDoorApp
import Derived.Test.YtbofikghcoalbaaDoorGrs
import Derived.Test.YtbofikghcoalbaaDoorOfi
import Derived.Lib.MakeNoZero
namespace Go.Proofs.YtbofikghcoalbaaDoor
open Go.RowKit
set_option linter.unusedVariables false
set_option linter.unusedSimpArgs false

/-- A call that hands out bytes which may be read, and leaves what was there. -/
def Gives (w : World) (l : List UInt8) (e : Ending) (w' : World) : Prop := ∃ A c, e = .returned (.slice A l.length c) ∧ l.length ≤ c ∧ Rd w' w'.heap.size A l ∧ Grown w w'

theorem mul64_128 (w : World) : Calls Tryd.prog 37 #[.int .u64 1, .int .u64 128] w fun e w' => e = .returned (.tuple #[.int .u64 0, .int .u64 128]) ∧ w = w' := by
  go_enter Tryd.func37, Tryd.ntmps37
  go_wp2
  go_ret2
  exact ⟨rfl, rfl⟩
theorem mul_128 (w : World) : Calls Tryd.prog 32 #[.int .u64 1, .int .u64 128] w fun e w' => e = .returned (.tuple #[.int .u64 0, .int .u64 128]) ∧ w = w' := by
  go_enter Tryd.func32, Tryd.ntmps32
  go_wp2_with fail
  refine (mul64_128 w).mono ?_
  rintro e w' ⟨rfl, rfl⟩
  go_wp2
  go_ret2
  exact ⟨rfl, rfl⟩

theorem wp_copy_splice {P : Program} {o : Oper} {a : Act} {w : World} {K : Act → World → Prop} {Q : Exit → Act → World → Prop} (hgd : o.guard = none) (d s : Operand) (dT sT : TypeId)
    (ho : o.op = .call { callee := .builtin .copy, args := #[d, s], argTypes := #[dT, sT] }) (elem : TypeId) (hu : P.underlying dT = some (.slice elem)) (hsz : (P.info? elem).map (·.size) = some 1)
    (dp sp : Option Addr) (dLen dCap sLen sCap : Nat) (hd : a.eval d = .slice dp dLen dCap) (hs : a.eval s = .slice sp sLen sCap)
    (g off : Nat) (cur : List Value) (t : TypeId) (hg : w.heap[g]? = some (.cells cur.toArray t (0, 0))) (cs : List Value) (hn : cs.length = Nat.min sLen dLen)
    (hpos : 0 < cs.length → dp = some ⟨g, off, none⟩ ∧ ∃ ad, sp = some ad ∧ ∀ j v, cs[j]? = some v → w.cell? (ad.add j) = some v)
    (hfit : off + cs.length ≤ cur.length) (h1 : ∀ v ∈ cs, v.oneCell' = true) (B : Nat) (w0 : World) (hb : Below B w0 w) (hBg : B ≤ g)
    (h : ∀ w', Hid (w'.heap[g]? = some (.cells (splice cur off cs).toArray t (0, 0))) → Below B w0 w' → K (a.put o.dst (goInt cs.length)) w') : Oper.wp P o a w K Q := by
  have := step_copy_splice (P := P) (ops := #[]) (E := False) (Q := Q) hgd d s dT sT ho elem hu hsz dp sp dLen dCap sLen sCap hd hs g off cur t hg cs hn hpos hfit h1 B w0 hb hBg h
  rwa [if_pos (by simp [Region.wanted, hgd])] at this

/-- Where the loop stands: the buffer at g has room for 128, and its first k cells are x. -/
def RepIn (w wr : World) (x : UInt8) (k : Nat) : Prop :=
  ∃ cur : List Value, wr.heap[w.heap.size]? = some (.cells cur.toArray 5 (0, 0)) ∧ 128 ≤ cur.length ∧ cur.take k = bvs (List.replicate k x) ∧ Below w.heap.size w wr

theorem take_splice (cur : List Value) (k m : Nat) (x : UInt8) (h : cur.take k = bvs (List.replicate k x)) (hk : k + m ≤ cur.length) :
    (splice cur k (bvs (List.replicate m x))).take (k + m) = bvs (List.replicate (k + m) x) := by
  have e1 : (bvs (List.replicate m x)).length = m := by simp [bvs]
  have e2 : (bvs (List.replicate k x)).length = k := by simp [bvs]
  unfold splice
  rw [h, ← List.append_assoc]
  have e3 : (bvs (List.replicate k x) ++ bvs (List.replicate m x)).length = k + m := by simp [bvs]
  rw [← e3, List.take_left]
  simp [bvs]
theorem RepIn.cell {w wr : World} {x : UInt8} {k : Nat} (h : RepIn w wr x k) (j : Nat) (hj : j < k) : wr.cell? ⟨w.heap.size, j, none⟩ = some (bv x) := by
  obtain ⟨cur, h1, h2, h3, h4⟩ := h
  rw [cell_of_row wr _ j _ _ _ h1]
  have : (cur.take k)[j]? = (bvs (List.replicate k x))[j]? := by rw [h3]
  rw [List.getElem?_take, if_pos hj] at this
  simpa [bvs, hj] using this

theorem cut_tail (g k : Nat) (h1 : 1 ≤ k) (h2 : k < 128) (W : World) : (Instr.slice 22 (.slice (some ⟨g, 0, none⟩) 128 128) (some (.int .i64 (k : Int))) none none).run Tryd.prog W = .ok (.slice (some ⟨g, k, none⟩) (128 - k) (128 - k)) W := by
  obtain ⟨i0, hi, hz0, hz1, hz2⟩ := info_parts info5
  have ht' : Tryd.prog.underlying 22 = some (.slice (Tryd.prog.elem 22)) := by simp [Program.elem, Tryd.underlying22]
  have he : Tryd.prog.elem 22 = 5 := by simp [Program.elem, Tryd.underlying22]
  rw [run_slice_l W 22 _ _ _ ht' .i64 _ (by omega) (by omega), he]
  simp [sizeOf, typeInfo, hi, hz1, sliced, Addr.add, show ¬ (128 = k) by omega, show ¬ (k = 0) by omega]

set_option maxHeartbeats 2000000 in
set_option maxRecDepth 20000 in
theorem repeat_128 (A : Option Addr) (c : Nat) (x : UInt8) (w : World) (h : Rd w w.heap.size A [x]) :
    Calls Tryd.prog 24 #[.slice A 1 c, .int .i64 128] w (Gives w (List.replicate 128 x)) := by
  have H := Lib.hid h
  clear h
  obtain ⟨R, hR⟩ : ∃ R, R = List.replicate 128 x := ⟨_, rfl⟩
  rw [← hR]
  have HR := Lib.hid hR
  clear hR
  go_enter Tryd.func24, Tryd.ntmps24
  go_wp2_with fail
  refine (mul_128 w).mono ?_
  rintro e w' ⟨rfl, rfl⟩
  obtain ⟨cs, hrunM, hle, _⟩ := Lib.run_makeNoZero (P := Tryd.prog) w #[3] 22 5 Tryd.underlying22 128 (by omega)
  have hcall : (callFunc 33 #[.int .i64 128]).run Tryd.prog w = .ok (.value (.slice (some ⟨w.heap.size, 0, none⟩) 128 cs.size)) ((w.alloc (.cells cs 5)).drewN 2) := by
    rw [run_callFunc_extern Tryd.func33 (by kernel_rfl) (by kernel_rfl) (by kernel_rfl) (e := Extern.BytealgMakeNoZero.makeNoZero #[3] #[22]) (by kernel_rfl)]
    erw [hrunM]
    rfl
  have hle2 : (128 : Int) ≤ (cs.size : Int) := by omega
  clear hrunM
  have Hn := Lib.hid (show ((w.alloc (.cells cs 5)).drewN 2).heap[w.heap.size]? = some (.cells cs.toList.toArray 5 (0, 0)) from heap_alloc_new w _)
  have Hb0 := Lib.hid (show Below w.heap.size w ((w.alloc (.cells cs 5)).drewN 2) from below_drewN (alloc_below w _) 2)
  go_wp2_with (first
    | (refine wpList_copy_splice rfl (.tmp 58) (.tmp 59) 22 22 rfl 5 Tryd.underlying22 size5 _ _ _ _ _ _ rfl rfl w.heap.size 0 cs.toList 5 Hn.out (bvs [x]) rfl (fun hp => ⟨rfl, Rd.src (H.out.below Hb0.out) hp⟩) (by simp [bvs]; omega) (bvs_one _) w.heap.size w Hb0.out (Nat.le_refl _) ?_
       intro w1 hr1 hb1
       have Hb1 := Lib.hid hb1
       clear hb1
       rw [show goInt (bvs [x]).length = .int .i64 1 from rfl]))
  go_loopw [10] (fun v wr => ∃ k : Nat, 1 ≤ k ∧ k ≤ 128 ∧ v = .int .i64 (k : Int) ∧ Hid (RepIn w wr x k)) (fun v _ => 128 - (intOf v).toNat)
  case atStart =>
    refine ⟨1, by omega, by omega, rfl, ?_⟩
    refine ⟨_, hr1.out, by rw [length_splice _ _ _ (by simp [bvs]; omega)]; simpa using hle, ?_, Hb1.out⟩
    exact take_splice cs.toList 0 1 x (by simp [bvs]) (by simp; omega)
  case round =>
    obtain ⟨k, hk1, hk2, rfl, HI⟩ := hrel
    by_cases hlt : k < 128
    · obtain ⟨m, hm⟩ : ∃ m, m = Nat.min k (128 - k) := ⟨_, rfl⟩
      obtain ⟨cur, h1, h2, h3, h4⟩ := HI.out
      have H1 := Lib.hid h1
      have H2 := Lib.hid h2
      have H3 := Lib.hid h3
      have H4 := Lib.hid h4
      have hm2 : m ≤ 128 - k := by rw [hm]; exact Nat.min_le_right _ _
      have hm3 : m ≤ k := by rw [hm]; exact Nat.min_le_left _ _
      have hm4 : 1 ≤ m := by rw [hm]; exact Nat.le_min.2 ⟨hk1, by omega⟩
      have Hm := Lib.hid hm
      clear h1 h2 h3 h4 hm hcall hr1 Hn Hb0 Hb1
      have hkm : IntKind.i64.wrap ((k : Int) + (m : Int)) = (k : Int) + (m : Int) := by rw [IntKind.wrap_i64]; omega
      have hk3 : (k : Int) ≤ 128 := by omega
      have hs1 := (show ∀ W : World, (Instr.slice 22 (.slice (some ⟨w.heap.size, 0, none⟩) 128 128) (some (.int .i64 (k : Int))) none none).run Tryd.prog W = .ok (.slice (some ⟨w.heap.size, k, none⟩) (128 - k) (128 - k)) W from fun W => cut_tail _ _ hk1 hlt W)
      go_wp2_with fail
      refine restS_begin (fun _ => True) (by kernel_rfl) ?_
      refine restS_take (i := 0) trivial rfl (by kernel_rfl) (by kernel_rfl) (by kernel_rfl) (by rfl) (fun w' hg => by go_simp; try with_reducible rfl) ?_
      try simp only [Act.put, List.setIfInBounds_toArray, List.set_cons_zero, List.set_cons_succ]
      refine restS_take (i := 1) trivial rfl (by kernel_rfl) (by kernel_rfl) (by kernel_rfl) (by rfl) (fun w' hg => by go_simp; try with_reducible rfl) ?_
      try simp only [Act.put, List.setIfInBounds_toArray, List.set_cons_zero, List.set_cons_succ]
      refine restS_take (i := 2) trivial rfl (by kernel_rfl) (by kernel_rfl) (by kernel_rfl) (by rfl) (fun w' hg => by go_simp; try with_reducible rfl) ?_
      try simp only [Act.put, List.setIfInBounds_toArray, List.set_cons_zero, List.set_cons_succ]
      refine restS_take (i := 3) trivial rfl (by kernel_rfl) (by kernel_rfl) (by kernel_rfl) (by rfl) (fun w' hg => by go_simp; try with_reducible rfl) ?_
      try simp only [Act.put, List.setIfInBounds_toArray, List.set_cons_zero, List.set_cons_succ]
      refine restS_take (i := 4) trivial rfl (by kernel_rfl) (by kernel_rfl) (by kernel_rfl) (by rfl) (fun w' hg => by go_simp; try with_reducible rfl) ?_
      try simp only [Act.put, List.setIfInBounds_toArray, List.set_cons_zero, List.set_cons_succ]
      refine restS_take (i := 5) trivial rfl (by kernel_rfl) (by kernel_rfl) (by kernel_rfl) (by rfl) (fun w' hg => by go_simp; try with_reducible rfl) ?_
      try simp only [Act.put, List.setIfInBounds_toArray, List.set_cons_zero, List.set_cons_succ]
      refine restS_take (i := 6) trivial rfl (by kernel_rfl) (by kernel_rfl) (by kernel_rfl) (by rfl) (fun w' hg => by go_simp; try with_reducible rfl) ?_
      try simp only [Act.put, List.setIfInBounds_toArray, List.set_cons_zero, List.set_cons_succ]
      refine restS_lone (i := 7) rfl (by kernel_rfl) (by rfl) (fun K hK => ?_)
      refine wp_copy_splice rfl (.tmp 70) (.tmp 73) 22 22 rfl 5 Tryd.underlying22 size5 _ _ _ _ _ _ rfl rfl w.heap.size k cur 5 H1.out (bvs (List.replicate m x)) (by rw [bvs_length, List.length_replicate]; exact Hm.out) (fun hp => ⟨rfl, _, rfl, fun j v hv => ?_⟩) (by rw [bvs_length, List.length_replicate]; have := H2.out; omega) (bvs_one _) w.heap.size w H4.out.drew (Nat.le_refl _) ?_
      · have hj : j < m := by
          have := (List.getElem?_eq_some_iff.1 hv).1
          simpa [bvs] using this
        have e : v = bv x := by simp [bvs, hj] at hv; exact hv.symm
        rw [e, show (⟨w.heap.size, 0, none⟩ : Addr).add j = ⟨w.heap.size, j, none⟩ by by_cases h0 : j = 0 <;> simp [Addr.add, h0]]
        exact HI.out.cell j (by omega)
      intro w2 hr2 hb2
      refine hK.out _ _ trivial ?_
      clear hK K
      have Hb2 := Lib.hid hb2
      clear hb2
      rw [show goInt (bvs (List.replicate m x)).length = .int .i64 (m : Int) by rw [bvs_length, List.length_replicate]; rfl]
      try simp only [Act.put, List.setIfInBounds_toArray, List.set_cons_zero, List.set_cons_succ]
      refine restS_take (i := 8) trivial rfl (by kernel_rfl) (by kernel_rfl) (by kernel_rfl) (by rfl) (fun w' hg => by go_simp; try with_reducible rfl) ?_
      try simp only [Act.put, List.setIfInBounds_toArray, List.set_cons_zero, List.set_cons_succ]
      refine restS_take (i := 9) trivial rfl (by kernel_rfl) (by kernel_rfl) (by kernel_rfl) (by rfl) (fun w' hg => by go_simp; try with_reducible rfl) ?_
      try simp only [Act.put, List.setIfInBounds_toArray, List.set_cons_zero, List.set_cons_succ]
      refine restS_done (by kernel_rfl) ?_
      go_wp2
      go_roundw
      case rel =>
        refine ⟨k + m, by omega, by omega, by go_num, ?_⟩
        refine ⟨_, hr2.out, by rw [length_splice _ _ _ (by rw [bvs_length, List.length_replicate]; have := H2.out; omega)]; exact H2.out, ?_, Hb2.out⟩
        exact take_splice cur k m x H3.out (by have := H2.out; omega)
      case measure => simp [intOf]; omega
    · obtain rfl : k = 128 := by omega
      go_wp2
      go_ret
      have hc := HI.out.cell
      have HRl := HR.out
      obtain ⟨_, _, _, _, h4⟩ := HI.out
      have hlt : w.heap.size < wr.heap.size := World.block_lt_of_cell? wr _ (hc 0 (by omega))
      refine ⟨some ⟨w.heap.size, 0, none⟩, 128, by rw [HRl, List.length_replicate]; rfl, by rw [HRl, List.length_replicate]; omega, .inr ⟨_, _, rfl, hlt, fun j hj => ?_⟩, h4⟩
      subst HRl
      rw [List.length_replicate] at hj
      rw [Nat.zero_add, hc j hj, List.getElem_replicate]
end Go.Proofs.YtbofikghcoalbaaDoor
