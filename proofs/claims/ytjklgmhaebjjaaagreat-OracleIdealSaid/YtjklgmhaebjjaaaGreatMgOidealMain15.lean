/-
  Contract of the reference's Lay; what Lay and Number are to each other. A region that draws its order, walked in one order: S says what stays in every world that it may pass through.
-/
import Derived.Test.YtjklgmhaebjjaaaGreatMgOidealMain8
import Derived.Test.YtjklgmhaebjjaaaGreatMgOidealMain4
namespace Go.Proofs.YtjklgmhaebjjaaaGreat
open Go.RowKit
set_option linter.unusedVariables false

def uN (n : Int) (t : Nat) : Int := (n % 18446744073709551616) / 256 ^ t
theorem uN_zero (n : Int) : IntKind.u64.wrap n = uN n 0 := by rw [IntKind.wrap_u64]; simp [uN]
theorem uN_bd (n : Int) (t : Nat) : 0 ≤ uN n t ∧ uN n t < 18446744073709551616 := by
  unfold uN
  have h1 : 0 ≤ n % 18446744073709551616 := by omega
  have h2 : n % 18446744073709551616 < 18446744073709551616 := by omega
  have h3 : (0 : Int) < 256 ^ t := Int.pow_pos (by decide)
  exact ⟨Int.ediv_nonneg h1 (by omega), Int.lt_of_le_of_lt (Int.ediv_le_self _ h1) h2⟩
theorem uN_step (n : Int) (t : Nat) : uN n t / 256 = uN n (t + 1) := by
  unfold uN
  rw [Int.ediv_ediv_of_nonneg (by exact Int.le_of_lt (Int.pow_pos (by decide)))]
  rfl
theorem uN_byte (n : Int) (t : Nat) (ht : t < 8) : uN n t % 256 = ((byteOf n t).toNat : Int) := by
  have h := bv_byteOf n t
  unfold bv at h
  injection h with _ h
  rw [h]
  unfold uN
  rcases t with _ | _ | _ | _ | _ | _ | _ | _ | t
  all_goals first | omega | (simp; omega) | skip
theorem layL_succ (n : Int) (t : Nat) : [byteOf n t] ++ layL n t = layL n (t + 1) := by
  unfold layL
  rw [List.range_succ_eq_map]
  simp only [List.map_cons, List.map_map, List.singleton_append]
  congr 1
  apply List.map_congr_left
  intro j hj
  simp at hj
  simp [show t - (j + 1) = t - 1 - j by omega]

/-- The head of the loop. -/
def LayRel (w : World) (n : Int) (k : Nat) (v5 v6 v7 : Value) (wr : World) : Prop :=
  ∃ t m A c, t ≤ k ∧ v7 = .int .i64 (t : Nat) ∧ v5 = .int .u64 (uN n t) ∧ v6 = .slice A m c ∧ (layL n t).length = m ∧ Own wr w.heap.size A c (layL n t) ∧ Below w.heap.size w wr

set_option maxHeartbeats 1000000 in
theorem refLay_any (n size : Int) (k : Nat) (w : World) (hk : k ≤ 8) (h : (size < 0 ∧ k = 0) ∨ size = (k : Int) ∨ (8 < size ∧ k = 8)) :
    Calls Tryz.prog 29 #[.int .i64 n, .int .i64 size] w (Makes w (layL n k)) := by
  have h0 := uN_zero n
  rcases h with ⟨h1, rfl⟩ | rfl | ⟨h1, rfl⟩
  · go_enter Tryz.func29, Tryz.ntmps29
    go_wp2
    refine wp_loop_rounds 1 ?_
    rw [rounds_succ]
    go_wp2
    go_ret
    exact ⟨none, 0, rfl, Own.nil _ _, Below.refl _ _⟩
  · go_enter Tryz.func29, Tryz.ntmps29
    go_wp2
    clear h0
    go_loopw [5, 6, 7] (fun v5 v6 v7 wr => LayRel w n k v5 v6 v7 wr) (fun _ _ v7 _ => k - (intOf v7).toNat)
    case atStart => exact ⟨0, 0, none, 0, by omega, rfl, rfl, rfl, rfl, Own.nil _ _, Below.refl _ _⟩
    case round =>
      obtain ⟨t, m, A, c, ht, rfl, rfl, rfl, hm, ho, hb⟩ := hrel
      have Hm := Lib.hid hm
      have Ho := Lib.hid ho
      have Hb := Lib.hid hb
      have hB := Hb.out.size
      clear hm ho hb
      by_cases hlt : t < k
      · have hu := uN_bd n t
        have hs := uN_step n t
        have hy := uN_byte n t (by omega)
        have hlen : (1 : Nat) + (layL n t).length ≤ 4294967296 := by rw [layL_len]; omega
        obtain ⟨u, hu0⟩ : ∃ u, u = uN n t := ⟨_, rfl⟩
        rw [← hu0] at hu hs hy ⊢
        obtain ⟨u', hu1⟩ : ∃ u', u' = uN n (t + 1) := ⟨_, rfl⟩
        rw [← hu1] at hs
        obtain ⟨y, hy0⟩ : ∃ y, y = byteOf n t := ⟨_, rfl⟩
        rw [← hy0] at hy
        have Hu1 := Lib.hid hu1
        have Hy0 := Lib.hid hy0
        have hyl := u8_lt y
        clear hu0 hu1 hy0
        go_wp2_with (first
          | (at_builtin
             refine wpList_app rfl (.tmp 20) (.tmp 21) rfl (base := wr.heap.size) (l := [y]) (c := 1) rfl (Own.lit wr [y] (Nat.le_refl _) (by simp)) (l2 := layL n t) (by rw [Hm.out]; rfl) ((Ho.out.rd).grow (alloc_below wr _)) hlen (by simp) (layL n (t + 1)) (by rw [Hy0.out]; exact layL_succ n t) ?_
             intro A2 c2 w2 ho2 hb2
             have Ho2 := Lib.hid ho2
             have Hb2 := Lib.hid hb2
             clear ho2 hb2))
        go_roundw
        case rel => exact ⟨t + 1, _, A2, c2, by omega, by go_num, by rw [hs, Hu1.out], rfl, rfl, Ho2.out.less hB, (Hb.out.alloc hB _).trans (Hb2.out.mono hB)⟩
        case measure => simp [intOf]; omega
      · obtain rfl : t = k := by omega
        go_wp2
        go_ret
        refine ⟨A, c, ?_, Ho.out, Hb.out⟩
        show Ending.returned (.slice A m c) = _
        rw [Hm.out]
  · go_enter Tryz.func29, Tryz.ntmps29
    go_wp2
    clear h0
    go_loopw [5, 6, 7] (fun v5 v6 v7 wr => LayRel w n 8 v5 v6 v7 wr) (fun _ _ v7 _ => 8 - (intOf v7).toNat)
    case atStart => exact ⟨0, 0, none, 0, by omega, rfl, rfl, rfl, rfl, Own.nil _ _, Below.refl _ _⟩
    case round =>
      obtain ⟨t, m, A, c, ht, rfl, rfl, rfl, hm, ho, hb⟩ := hrel
      have Hm := Lib.hid hm
      have Ho := Lib.hid ho
      have Hb := Lib.hid hb
      have hB := Hb.out.size
      clear hm ho hb
      by_cases hlt : t < 8
      · have hu := uN_bd n t
        have hs := uN_step n t
        have hy := uN_byte n t (by omega)
        have hlen : (1 : Nat) + (layL n t).length ≤ 4294967296 := by rw [layL_len]; omega
        obtain ⟨u, hu0⟩ : ∃ u, u = uN n t := ⟨_, rfl⟩
        rw [← hu0] at hu hs hy ⊢
        obtain ⟨u', hu1⟩ : ∃ u', u' = uN n (t + 1) := ⟨_, rfl⟩
        rw [← hu1] at hs
        obtain ⟨y, hy0⟩ : ∃ y, y = byteOf n t := ⟨_, rfl⟩
        rw [← hy0] at hy
        have Hu1 := Lib.hid hu1
        have Hy0 := Lib.hid hy0
        have hyl := u8_lt y
        clear hu0 hu1 hy0
        go_wp2_with (first
          | (at_builtin
             refine wpList_app rfl (.tmp 20) (.tmp 21) rfl (base := wr.heap.size) (l := [y]) (c := 1) rfl (Own.lit wr [y] (Nat.le_refl _) (by simp)) (l2 := layL n t) (by rw [Hm.out]; rfl) ((Ho.out.rd).grow (alloc_below wr _)) hlen (by simp) (layL n (t + 1)) (by rw [Hy0.out]; exact layL_succ n t) ?_
             intro A2 c2 w2 ho2 hb2
             have Ho2 := Lib.hid ho2
             have Hb2 := Lib.hid hb2
             clear ho2 hb2))
        go_roundw
        case rel => exact ⟨t + 1, _, A2, c2, by omega, by go_num, by rw [hs, Hu1.out], rfl, rfl, Ho2.out.less hB, (Hb.out.alloc hB _).trans (Hb2.out.mono hB)⟩
        case measure => simp [intOf]; omega
      · obtain rfl : t = 8 := by omega
        go_wp2
        go_ret
        refine ⟨A, c, ?_, Ho.out, Hb.out⟩
        show Ending.returned (.slice A m c) = _
        rw [Hm.out]
end Go.Proofs.YtjklgmhaebjjaaaGreat
namespace Go.Proofs.YtjklgmhaebjjaaaGreat
open Go.RowKit
set_option linter.unusedVariables false

section
variable {P : Program} {ops : Array Oper} {Q : Exit → Act → World → Prop} {S : World → Prop}
def RestS (P : Program) (ops : Array Oper) (Q : Exit → Act → World → Prop) (S : World → Prop) (fuel : Nat) (listed : Array Bool) (a : Act) (w : World) : Prop :=
  wpAnyH P .any ops (NoPanic Q) S fuel listed a w
theorem restS_begin (S : World → Prop) {id : Nat} {a : Act} {w : World} (hm : P.follows .mixedOrders = true) (h : RestS P ops Q S ops.size (Array.replicate ops.size false) a w.drew) : (Code.region id ops true).wp P Q a w :=
  wp_region_noPanic (wp_region_any hm (wpAny_of_held _ _ _ _ h))
theorem restS_done {fuel : Nat} {listed : Array Bool} {a : Act} {w : World} (hr : Region.ready .any ops listed = []) (h : Q .normal a w) : RestS P ops Q S fuel listed a w :=
  wpAnyH_done hr (NoPanic.normal h) _
theorem restS_take {i : Nat} {d : Option Tmp} {op : Op} {ty : TypeId} {pos : String} {after : Array Edge} {guard : Option (Nat × Bool)} {v : Value} {fuel : Nat} {listed : Array Bool} {a : Act} {w : World} (hSw : S w) (hi : ops[i]? = some ⟨d, op, ty, pos, after, guard⟩)
    (hs : Region.noSelect ops = true) (hf : Region.free .any ops listed i = true) (hr : (Region.ready .any ops listed).contains i = true) (hwn : Region.wanted ⟨d, op, ty, pos, after, guard⟩ (yielded ops a.tmps) = true)
    (hy : ∀ w', S w' → (execOp a.eval ⟨d, op, ty, pos, after, guard⟩).run P w' = .ok (.value v) w') (h : RestS P ops Q S fuel (listed.setIfInBounds i true) (a.put d v) w) : RestS P ops Q S (fuel + 1) listed a w :=
  wpAnyH_take hi hs hf hr (fun _ _ _ h => h) (.inl ⟨hwn, hy⟩) hSw h
theorem restS_lone {i : Nat} {d : Option Tmp} {op : Op} {ty : TypeId} {pos : String} {after : Array Edge} {guard : Option (Nat × Bool)} {fuel : Nat} {listed : Array Bool} {a : Act} {w : World} (hi : ops[i]? = some ⟨d, op, ty, pos, after, guard⟩) (hr : Region.ready .any ops listed = [i]) (hwn : Region.wanted ⟨d, op, ty, pos, after, guard⟩ (yielded ops a.tmps) = true)
    (h : ∀ K : Act → World → Prop, Shut (∀ a' w', S w' → RestS P ops Q S fuel (listed.setIfInBounds i true) a' w' → K a' w') → Oper.wp P ⟨d, op, ty, pos, after, guard⟩ a w K (NoPanic Q)) : RestS P ops Q S (fuel + 1) listed a w := by
  refine wpAnyH_all hr (by simp) fun j hj => ?_
  simp only [List.mem_singleton] at hj
  subst hj
  unfold wpOp
  simp only [hi, hwn, if_true]
  refine .inl (h _ ?_)
  intro a' w' hg hrest
  exact ⟨hg, hrest⟩
end
end Go.Proofs.YtjklgmhaebjjaaaGreat
