/-
  A region that draws its order, in the body of a loop over a function. Contracts of the program's cache: the iterator over the ring, slices.Collect at it, Kept.
-/
import Derived.Test.YthakdjaaknbmpaaMgKactsMain9
import Derived.Test.YthakdjaaknbmpaaMgKactsMain19
import Derived.Deep.MidRow
import Derived.RangeFuncNested
import Derived.RangeFuncBound
import Derived.RangeFuncCalls
import Derived.RangeFuncLeaves
import Derived.RangeFuncBox
import Derived.Shelf.Abstract
import Derived.WalkKit
import Derived.OwnWalkIn
import Derived.TacticsInMore
import Derived.LoopNIn
import Derived.LoopIn
import Derived.Maps.AppendAt
namespace Go.Proofs.Ythakdjaaknbmpaa.Cf
open Go.RowKit
set_option linter.unusedVariables false
set_option linter.unusedSimpArgs false
section
variable {P : Program} {ops : Array Oper} {Q : Exit → Act → World → Prop} {l n : Nat}
def noDefer (o : Oper) : Bool := match o.op with | .defer _ => false | _ => true
theorem noDefer_ne {o : Oper} (h : noDefer o = true) : ∀ c, o.op ≠ .defer c := fun c e => by
  unfold noDefer at h
  rw [e] at h
  cases h
theorem opIn {o : Oper} (hnd : noDefer o = true) {a : Act} {w : World} {K : Act → World → Prop} (h : o.wp P a w K Q) : o.wpIn (Fence.wide.inRound l) n P a w K Q := by
  refine ⟨fun f _ => trivial, ?_⟩
  rw [Fence.inRound_round, Oper.semAt_some l a.eval o (noDefer_ne hnd)]
  unfold Oper.wp at h
  generalize (execOp a.eval o).run P w = r at h ⊢
  cases r with
  | ok x w' =>
    cases x <;> first
      | exact h
      | exact ⟨fun hd => (by cases hd), CallsIn.inRound l (callsIn_wide.2 h)⟩
      | exact ⟨fun hd => (by cases hd), fun c cs _ => let ⟨v, w', r, s⟩ := h c cs; ⟨v, w', r, stepsIn_wide.2 s⟩⟩
      | exact (h : False).elim
  | halt x w' => cases x <;> exact h
theorem anyIn (hno : ¬ LetsOut Q) (hnd : ∀ o ∈ ops, noDefer o = true) : ∀ (fuel : Nat) (listed : Array Bool) (a : Act) (w : World), wpAny P .any ops Q fuel listed a w → wpAnyIn (Fence.wide.inRound l) n P .any ops Q fuel listed a w
  | 0, _, _, _, h => h
  | fuel + 1, listed, a, w, h => by
    refine ⟨h.1, fun i hi => ?_⟩
    have h2 := h.2 i hi
    unfold wpOp at h2
    unfold wpOpIn
    split
    · rename_i he
      rw [he] at h2
      exact anyIn hno hnd fuel _ _ _ h2
    · rename_i o ho
      rw [ho] at h2
      simp only at h2
      split
      · rename_i hw
        rw [if_pos hw] at h2
        rcases h2 with h2 | h2
        · exact Oper.wpIn_mono (fun a' w' h3 => anyIn hno hnd fuel _ _ _ h3) (opIn (hnd o (Array.mem_of_getElem? ho)) h2)
        · exact absurd h2.2 hno
      · rename_i hw
        rw [if_neg hw] at h2
        exact ⟨fun f _ => trivial, anyIn hno hnd fuel _ _ _ h2⟩
/-- A load of a row, the same in every world that meets S. -/
theorem restS_range {S : World → Prop} {i : Nat} {d : Option Tmp} {op : Op} {ty : TypeId} {pos : String} {after : Array Edge} {guard : Option (Nat × Bool)} {fuel : Nat} {listed : Array Bool} {a : Act} {w : World} (hSw : S w) (hi : ops[i]? = some ⟨d, op, ty, pos, after, guard⟩)
    (hs : Region.noSelect ops = true) (hf : Region.free .any ops listed i = true) (hr : (Region.ready .any ops listed).contains i = true) (hwn : Region.wanted ⟨d, op, ty, pos, after, guard⟩ (yielded ops a.tmps) = true)
    (t : TypeId) (x : Operand) (ho : op = .load t x) (b o : Nat) (hx : a.eval x = .pointer (some ⟨b, o, none⟩)) (cs : List Value) (de : TypeDesc) (hS : ∀ w, S w → w.rangeAt b o cs)
    (hu : P.underlying t = some de) (hd : de.isRow = true) (hz : (P.info? t).map (·.size) = some cs.length)
    (h : RestS P ops Q S fuel (listed.setIfInBounds i true) (a.put d (.agg cs.toArray)) w) : RestS P ops Q S (fuel + 1) listed a w :=
  wpAnyH_take hi hs hf hr (fun _ _ _ h => h) (yieldsIf_load_mid hwn t x ho b o hx cs de hS hu hd hz) hSw h
theorem keepsSetCells (b : Nat) : ∀ (vs : List Value) (o : Nat) (W : World), KeepsOthers W (W.setCells b o vs)
  | [], _, W => KeepsOthers.refl W
  | v :: r, o, W => by rw [World.setCells]; exact (KeepsOthers.setCell W ⟨b, o, none⟩ v).trans (keepsSetCells b r (o + 1) _)
/-- Such a region, in a round. -/
theorem restS_round (S : World → Prop) {id : Nat} {a : Act} {w : World} (hm : P.follows .mixedOrders = true) (hno : ¬ LetsOut Q) (hnd : ops.all noDefer = true)
    (h : RestS P ops Q S ops.size (Array.replicate ops.size false) a w.drew) : (Code.region id ops true).wpIn (Fence.wide.inRound l) n P Q a w := by
  refine Go.wpIn_mono (wpIn_region_any hm ?_) NoPanic.imp
  exact anyIn (Q := NoPanic Q) (fun ⟨a, w, h⟩ => hno ⟨a, w, h⟩) (fun o ho => (Array.all_eq_true_iff_forall_mem.1 hnd) o ho) _ _ _ _ (wpAny_of_held _ _ _ _ h)
end
end Go.Proofs.Ythakdjaaknbmpaa.Cf
namespace Go.Proofs.Ythakdjaaknbmpaa.S14
open S13
open Cf
open Go.RowKit Go.Shelf
set_option linter.unusedVariables false
set_option linter.unusedSimpArgs false
attribute [local go_sem] Oper.semAt_some
def blkOf : Value → Nat
  | .pointer (some a) => a.block
  | _ => 0
def kint (es : List En) : List Int := es.map fun e => ((e.k : Nat) : Int)
def encI (x : Int) : Array Value := #[.int .i64 x]
theorem pth_at {nw od : Nat → Nat} : ∀ (l : List Nat) (p q : Nat), pth nw od p l q → ∀ k (hk : k < l.length), od l[k] = fst1 q (l.drop (k + 1))
  | x :: l, p, q, h, 0, _ => pth_first l x q h.2.2
  | x :: l, p, q, h, k + 1, hk => by
    have := pth_at l x q h.2.2 k (by simpa using hk)
    simpa using this
theorem idx_at : ∀ (l : List Nat), l.Nodup → ∀ (k : Nat) (hk : k < l.length), l.idxOf l[k] = k
  | x :: l, h, 0, _ => List.idxOf_cons_self
  | x :: l, h, k + 1, hk => by
    have h1 := List.nodup_cons.1 h
    have hk' : k < l.length := by simpa using hk
    have hne : (x == l[k]) = false := by
      rw [beq_eq_false_iff_ne]
      intro e
      exact h1.1 (by rw [e]; exact List.getElem_mem hk')
    rw [List.getElem_cons_succ, List.idxOf_cons, hne]
    show l.idxOf l[k] + 1 = k + 1
    rw [idx_at l h1.2 k hk']
theorem idx_fst {R : Nat} {l : List Nat} (h : (R :: l).Nodup) (k : Nat) (hk : k ≤ l.length) : l.idxOf (fst1 R (l.drop k)) = k := by
  rcases Nat.lt_or_ge k l.length with h1 | h1
  · rw [List.drop_eq_getElem_cons h1]
    exact idx_at l (List.nodup_cons.1 h).2 k h1
  · rw [List.drop_eq_nil_of_le h1]
    have : k = l.length := by omega
    rw [this]
    exact List.idxOf_eq_length (List.nodup_cons.1 h).1
theorem size_En0 : (Try.prog.info? 77).map (·.size) = some 4 := by kernel_rfl
theorem size_En : ∃ j, Try.prog.info? 77 = some j ∧ j.size = 4 := by
  have h := size_En0
  cases hi : Try.prog.info? 77 with
  | none => rw [hi] at h; cases h
  | some j => rw [hi] at h; exact ⟨j, rfl, by simpa using h⟩
theorem ne_ptr {V : World} {a b : Nat} {x y x2 y2 : Value} {n o n2 o2 : Nat} (h : a ≠ b) (ha : Nd V a x y n o) (hb : Nd V b x2 y2 n2 o2) : (binOp .neq 67 (.pointer (some ⟨a, 0, none⟩)) (.pointer (some ⟨b, 0, none⟩))).run Try.prog V = .ok (.bool true) V := by
  obtain ⟨j, hj, hj4⟩ := size_En
  have hs := run_sameAddr_other (P := Try.prog) (w := V) (a := ⟨a, 0, none⟩) (b := ⟨b, 0, none⟩) (fun e => h (by injection e)) ha hb
  have h : ∀ d : Nat, (Op.equalIn (d + 1) 67 (.pointer (some ⟨a, 0, none⟩)) (.pointer (some ⟨b, 0, none⟩))).run Try.prog V = .ok false V := fun d => by
    simp [Op.equalIn, run_underlying Try.underlying67, sizeOf, typeInfo, hj, hs, hj4]
  simp only [binOp]
  simp [Op.equal, Op.maxDepth, h 9999]
theorem eq_ptr1 (a : Addr) (V : World) : (binOp .neq 67 (.pointer (some a)) (.pointer (some a))).run Try.prog V = .ok (.bool false) V := by
  obtain ⟨j, hj, hj4⟩ := size_En
  have h : ∀ d : Nat, (Op.equalIn (d + 1) 67 (.pointer (some a)) (.pointer (some a))).run Try.prog V = .ok true V := fun d => by
    simp [Op.equalIn, run_underlying Try.underlying67, sizeOf, typeInfo, hj, run_sameAddr_same]
  simp only [binOp]
  simp [Op.equal, Op.maxDepth, h 9999]
set_option maxRecDepth 100000 in
set_option maxHeartbeats 2000000 in
theorem recent1_in (n l Bc n₀ G R : Nat) (nw od : Nat → Nat) (es : List En) (W : World) (hr : Rn W R nw od es) (hlt : ∀ k, RF R es k → k < n₀) (hb : Bc < n₀) (hg : G < n₀) (len : Nat) (hlen : es.length = len) (J Jx : List Int → World → Prop)
    (hY : ∀ pre x W, J pre W → pre.length < len → YieldAt Fence.wide (n - 1) Try.prog l (encI x) W fun e W' =>
      (e = .returned (.bool true) ∧ J (pre ++ [x]) W' ∧ Below n₀ W W') ∨ (e = .returned (.bool false) ∧ Jx (pre ++ [x]) W'))
    (hBc : W.cell? ⟨Bc, 0, none⟩ = some (.pointer (some ⟨G, 0, none⟩))) (hG : W.cell? ⟨G, 3, none⟩ = some (.pointer (some ⟨R, 0, none⟩))) (h0 : J [] W) :
    CallsIn Fence.wide n Try.prog 61 #[.func (.yield l) #[] #[], .pointer (some ⟨Bc, 0, none⟩)] W fun e W' => (∃ v, e = .returned v) ∧
      (J (kint es) W' ∨ (∃ pre : List Int, Jx pre W')) := by
  have HR := Lib.hid hr
  have HLt := Lib.hid hlt
  have HLen := Lib.hid hlen
  have HY := Lib.hid hY
  have HBc := Lib.hid hBc
  have HG := Lib.hid hG
  have HF := Lib.hid (pth_first _ _ _ hr.p)
  obtain ⟨r0, hr0⟩ : ∃ x, x = od R := ⟨_, rfl⟩
  have hR3 : W.cell? ⟨R, 3, none⟩ = some (.pointer (some ⟨r0, 0, none⟩)) := by rw [hr0]; exact hr.r.cells.2.2.2
  rw [← hr0] at HF
  clear hr hlt hlen hY hr0
  refine callsIn_of_wp Try.func61 rfl trivial ?_ rfl
  simp only [Try.ntmps61, List.size_toArray, List.length_cons, List.length_nil, Nat.reduceAdd, Nat.reduceSub, Array.replicate_succ, Array.replicate_zero, List.push_toArray, List.append_toArray, List.nil_append, List.cons_append]
  gi_wp2
  clear hBc hG hR3
  gi_loopw [3] (fun v wr => ∃ k : Nat, k ≤ len ∧ v = .pointer (some ⟨fst1 R ((bs es).drop k), 0, none⟩) ∧ J ((kint es).take k) wr ∧ Hid (Below n₀ W wr))
    (fun v _ => len - (bs es).idxOf (blkOf v))
  case atStart => exact ⟨0, Nat.zero_le _, by rw [HF.out]; rfl, h0, Below.refl _ _⟩
  case round =>
    obtain ⟨k, hk, rfl, hJs, HN⟩ := hrel
    have hBc : wr.cell? ⟨Bc, 0, none⟩ = some (.pointer (some ⟨G, 0, none⟩)) := (HN.out.cell (p := ⟨Bc, 0, none⟩) hb).trans HBc.out
    have hG : wr.cell? ⟨G, 3, none⟩ = some (.pointer (some ⟨R, 0, none⟩)) := (HN.out.cell (p := ⟨G, 3, none⟩) hg).trans HG.out
    by_cases hlt : k < len
    · have hkL : k < es.length := by rw [HLen.out]; exact hlt
      have hkB : k < (bs es).length := by rw [bs, List.length_map]; exact hkL
      have hfe : fst1 R ((bs es).drop k) = es[k].b := by
        rw [List.drop_eq_getElem_cons hkB]
        show (bs es)[k] = _
        simp [bs]
      have hem : es[k] ∈ es := List.getElem_mem hkL
      have hnd := HR.out.n _ hem
      have hbl0 : es[k].b < n₀ := HLt.out _ (.inr (mem_bs hem))
      have hne : es[k].b ≠ R := fun e => (List.nodup_cons.1 HR.out.nd).1 (by rw [← e]; exact mem_bs hem)
      have HNx := Lib.hid (show od es[k].b = fst1 R ((bs es).drop (k + 1)) by
        have := pth_at _ _ _ HR.out.p k hkB
        rw [← this]
        simp [bs])
      have HTk := Lib.hid (show (kint es).take (k + 1) = (kint es).take k ++ [((es[k].k : Nat) : Int)] by
        rw [List.take_add_one, List.getElem?_eq_getElem (by rw [kint, List.length_map]; exact hkL)]
        simp [kint])
      rw [hfe]
      have HFe := Lib.hid hfe
      obtain ⟨eb, heb⟩ : ∃ x, x = es[k].b := ⟨_, rfl⟩
      obtain ⟨ek, hek⟩ : ∃ x, x = ((es[k].k : Nat) : Int) := ⟨_, rfl⟩
      obtain ⟨eo, heo⟩ : ∃ x, x = od es[k].b := ⟨_, rfl⟩
      have hc0 : wr.cell? ⟨eb, 0, none⟩ = some (.int .i64 ek) := by rw [heb, hek]; exact (HN.out.cell (p := ⟨es[k].b, 0, none⟩) hbl0).trans hnd.cells.1
      have HC3 := Lib.hid (show W.cell? ⟨eb, 3, none⟩ = some (.pointer (some ⟨eo, 0, none⟩)) by rw [heb, heo]; exact hnd.cells.2.2.2)
      have hbl : eb < n₀ := by rw [heb]; exact hbl0
      rw [← heb] at hne HFe ⊢
      rw [← hek] at HTk
      rw [← heo] at HNx
      have hcmp := ne_ptr (V := wr) hne (show Nd wr eb (.int .i64 ek) (bvl es[k]) (nw eb) eo from (hnd.keep (HN.out.block _ hbl0) |> fun h => by rw [heb, hek, heo]; exact h)) (HR.out.r.keep (HN.out.block _ (HLt.out R (.inl rfl))))
      obtain ⟨fn, tmps, assign, body, hy, hR⟩ := HY.out _ ek wr hJs (by rw [List.length_take, kint, List.length_map]; omega)
      unfold encI at hy
      clear hfe hem hnd heb hek heo hkB hkL hbl0
      gi_wp2_with fail
      refine ⟨fun hd => (by cases hd), hR.mono ?_⟩
      rintro e W3 (⟨rfl, hJ3, hk3⟩ | ⟨rfl, hJx3⟩)
      · have HN3 := Lib.hid (HN.out.trans hk3)
        have hq3 : W3.cell? ⟨eb, 3, none⟩ = some (.pointer (some ⟨eo, 0, none⟩)) := (HN3.out.cell (p := ⟨eb, 3, none⟩) hbl).trans HC3.out
        clear hk3 HN hBc hG hcmp
        gi_wp2
        go_roundw
        case rel => exact ⟨k + 1, by omega, by rw [HNx.out], by rw [HTk.out]; exact hJ3, HN3.out⟩
        case measure =>
          have h1 := idx_fst HR.out.nd k (by rw [bs, List.length_map, HLen.out]; omega)
          have h2 := idx_fst HR.out.nd (k + 1) (by rw [bs, List.length_map, HLen.out]; omega)
          show len - (bs es).idxOf (blkOf (.pointer (some ⟨eo, 0, none⟩))) < len - (bs es).idxOf (blkOf (.pointer (some ⟨eb, 0, none⟩)))
          rw [HFe.out] at h1
          rw [← HNx.out] at h2
          show len - (bs es).idxOf eo < len - (bs es).idxOf eb
          rw [h1, h2]
          omega
      · gi_wp2
        refine bodyPost_ret (results_none rfl _ _ _) rfl ?_
        exact ⟨⟨_, rfl⟩, .inr ⟨_, hJx3⟩⟩
    · obtain rfl : k = len := by omega
      have hfe : fst1 R ((bs es).drop k) = R := by
        rw [List.drop_eq_nil_of_le (by rw [bs, List.length_map, HLen.out]; exact Nat.le_refl _)]
        rfl
      rw [hfe]
      have hcmp := eq_ptr1 ⟨R, 0, none⟩ wr
      clear hfe
      gi_wp2
      refine bodyPost_end (results_none rfl _ _ _) rfl ?_
      exact ⟨⟨_, rfl⟩, .inl (by rw [List.take_of_length_le (by rw [kint, List.length_map, HLen.out]; exact Nat.le_refl _)] at hJs; exact hJs)⟩
theorem recent_any (w : World) (G : Nat) : Calls Try.prog 53 #[.pointer (some ⟨G, 0, none⟩)] w fun e w' => e = .returned (.func (.func 61) #[] #[.pointer (some ⟨w.heap.size, 0, none⟩)]) ∧ w' = w.alloc (.cells #[.pointer (some ⟨G, 0, none⟩)] 28) := by
  go_enter Try.func53, Try.ntmps53
  go_wp2
  go_ret
  exact ⟨rfl, rfl⟩
theorem infoI1 : (Try.prog.info? 3).map (fun i => (i.zero, i.size, i.bytes)) = some (some (.int .i64 0), 1, 8) := by kernel_rfl
set_option maxRecDepth 100000 in
set_option maxHeartbeats 2000000 in
theorem seq_any (w : World) (n₀ gf : Nat) (lb : Array Value) (hn0 : n₀ ≤ w.heap.size) (eg : ∀ args w, (callFunc gf args).run Try.prog w = .ok (.enter gf args) w) (xs : List Int) (hxs : xs.length ≤ 1000)
    (hseq : SeqStopsK Fence.wide 6 Try.prog gf lb encI (Below n₀) (fun ys => ys = xs) (fun _ => True) xs.length w) :
    Calls Try.prog 60 #[.slice none 0 0, .func (.func gf) #[] lb] w fun e w' => ∃ v, e = .returned v ∧ w'.ownsRow w.heap.size 3 1 v xs.length (xs.map (Value.int .i64)) ∧ Grown w w' := by
  obtain ⟨i0, hi, hz0, hz1, hz2⟩ := info_parts infoI1
  refine callsIn_wide.1 (callsIn_of_wp_marks (F := Fence.wide) (n := 7) Try.func60 rfl trivial ?_ rfl)
  simp only [Try.ntmps60, List.size_toArray, List.length_cons, List.length_nil, Nat.reduceAdd, Nat.reduceSub, Array.replicate_succ, Array.replicate_zero, List.push_toArray, List.append_toArray, List.nil_append, List.cons_append]
  refine wpIn_wide.2 ?_
  go_wp2_with fail
  have bO := Boxed.new w 34 (.slice none 0 0)
  have hB0 : Below w.heap.size w (w.alloc (.cells #[.slice none 0 0] 34)) := (Below.refl _ w).alloc (Nat.le_refl _) _
  refine wpIn_wide.1 (wpIn_rangeFunc_ownG (F := Fence.wide) (n := 7) rfl (by omega) (gf := gf) (lb := lb) rfl trivial eg hseq belowK_t (belowK_b (by simp; omega)) hB0 (fun _ => rfl)
    (fun (pre : List Int) W => (∃ v, Boxed W w.heap.size 34 v ∧ W.ownsRow w.heap.size 3 1 v pre.length (pre.map (Value.int .i64)) ∧ True) ∧ Below w.heap.size w W)
    (fun _ _ _ => False)
    (OwnFrom.and (Own.from (holdsRow_own w.heap.size w.heap.size 34 3 1 (fun pre : List Int => pre.length) (fun pre : List Int => pre.map (Value.int .i64)) (fun (pre : List Int) v => True)) _) (ownFrom_below (Nat.le_refl _) (by simp)))
    (fun _ _ _ _ _ hs _ _ => hs)
    ⟨⟨_, bO, World.ownsRow_nil _ _ _ _, trivial⟩, hB0⟩
    (fun x => { tmps := #[.slice none 0 0, .func (.func gf) #[] lb, .pointer (some ⟨w.heap.size, 0, none⟩), undef, .slice none 0 0, .int .i64 x, .func (.func gf) #[] lb, .int .i64 x, undef, undef, undef, undef, undef], defers := [] }) ?assign ?body ?done ?stop)
  case assign =>
    intro l x W K hK
    unfold encI
    gi_wp2
    exact hK
  case stop =>
    rintro D c pre W _ _ hx
    exact hx.elim
  case body =>
    rintro l pre x W ⟨⟨v, hv, hrow, _⟩, hB⟩ hlt
    have hc := hv.cell
    gi_wp2_with (gi_at_builtin; refine wpListIn_append_own _ rfl _ _ 34 rfl w.heap.size 3 i0 (.int .i64 0) 1 8 Try.underlying34 hi hz0 hz1 hz2 rfl (by decide) _ _ _ rfl (hrow.alloc _) ⟨W.heap.size, 0, none⟩ 1 1 [.int .i64 x] rfl rfl (cell_one_new _ _ _) (by simp [Value.oneCell']) (by unfold maxLen; omega) (by omega) (by have := hB.size; simp; omega) ?_; intro v' w1 hown' hgrow _; obtain ⟨g', cap', rfl⟩ := ownsRow_succ hown'; obtain ⟨hv1, hv2, hr2, hk2, hb2⟩ := hv.appended (by decide) hrow hB.size (Nat.le_refl _) hown' hgrow; have hc1 := hv1.cell; have hf1 := hv1.frozen)
    exact ⟨hk2.from _, hb2.mono hn0, ⟨_, hv2, by simpa using hr2, trivial⟩, hB.trans hb2⟩
  case done =>
    rintro D ys W hD rfl ⟨⟨v, hv, hrow, _⟩, hB⟩ hK
    have hc := hv.cell
    go_wp2
    refine ⟨by simp, .inl ⟨_, _, rfl, run_takeDeferred hK, ?_⟩⟩
    exact ⟨_, results_tmp rfl _ _ _, v, rfl, ownsRow_putObj hrow _ hK rfl, hB.trans (belowK_b (w := w) (Nat.le_refl _) W D _ _ (by simp at hD; omega) hK rfl rfl)⟩
theorem collect_any (w : World) (n₀ gf : Nat) (lb : Array Value) (hn0 : n₀ ≤ w.heap.size) (eg : ∀ args w, (callFunc gf args).run Try.prog w = .ok (.enter gf args) w) (xs : List Int) (hxs : xs.length ≤ 1000)
    (hseq : SeqStopsK Fence.wide 6 Try.prog gf lb encI (Below n₀) (fun ys => ys = xs) (fun _ => True) xs.length w) :
    Calls Try.prog 52 #[.func (.func gf) #[] lb] w fun e w' => ∃ v, e = .returned v ∧ w'.ownsRow w.heap.size 3 1 v xs.length (xs.map (Value.int .i64)) ∧ Grown w w' := by
  have HS := Lib.hid (seq_any w n₀ gf lb hn0 eg xs hxs hseq)
  clear hseq eg hn0
  go_enter Try.func52, Try.ntmps52
  go_wp2_with fail
  refine HS.out.mono ?_
  rintro e w1 ⟨v, rfl, ho, hg⟩
  have HO := Lib.hid ho
  have HG := Lib.hid hg
  clear ho hg HS
  go_wp2
  go_ret
  exact ⟨v, rfl, HO.out, HG.out⟩
theorem rdN_own {w : World} {base : Nat} {v : Value} {xs : List Int} (h : w.ownsRow base 3 1 v xs.length (xs.map (Value.int .i64))) : ∃ A c, v = .slice A xs.length c ∧ xs.length ≤ c ∧ RdN w w.heap.size A xs := by
  rcases h.2 with ⟨rfl, h2⟩ | ⟨g, cap, cur, rfl, h2, h3, h4, h5, h6, h7⟩
  · have : xs = [] := List.eq_nil_of_length_eq_zero h2
    subst this
    exact ⟨none, 0, rfl, Nat.le_refl _, .inl rfl⟩
  · refine ⟨_, cap, rfl, h4, .inr ⟨g, 0, rfl, lt_of_heap h3, fun j hj => ?_⟩⟩
    rw [Nat.zero_add, cell_of_row w g j cur _ (0, 0) h3]
    rw [Nat.mul_one] at h7
    have h8 : (cur.toList.take xs.length)[j]? = (xs.map (Value.int .i64))[j]? := by rw [h7]
    rw [List.getElem?_take, if_pos hj, List.getElem?_map, List.getElem?_eq_getElem hj] at h8
    rw [Array.getElem?_toList] at h8
    exact h8
set_option maxRecDepth 20000 in
theorem kept_any {w : World} {G H R M room : Nat} {nw od : Nat → Nat} {es : List En} {ms : List (Int × Nat)} (h : Kz w G H R M room nw od es ms) (hl : es.length ≤ 1000) :
    Calls Try.prog 27 #[.pointer (some ⟨G, 0, none⟩)] w fun e w' => ∃ A m c, e = .returned (.slice A m c) ∧ es.length = m ∧ m ≤ c ∧ RdN w' w'.heap.size A (kint es) ∧ Grown w w' := by
  have HZ := Lib.hid h
  have HL := Lib.hid hl
  clear h hl
  go_enter Try.func27, Try.ntmps27
  go_wp2_with fail
  refine (recent_any w G).mono ?_
  rintro e w1 ⟨rfl, rfl⟩
  have G1 := Lib.hid (alloc_below w (.cells #[.pointer (some ⟨G, 0, none⟩)] 28))
  have N1 := Lib.hid (heap_alloc_new w (.cells #[.pointer (some ⟨G, 0, none⟩)] 28))
  have S1 := Lib.hid (World.size_alloc w (.cells #[.pointer (some ⟨G, 0, none⟩)] 28))
  generalize w.alloc _ = w1 at G1 N1 S1 ⊢
  have HZ1 := Lib.hid (HZ.out.grow G1.out)
  go_wp2_with fail
  have hkl : (kint es).length = es.length := by simp [kint]
  refine (collect_any w1 w1.heap.size 61 #[.pointer (some ⟨w.heap.size, 0, none⟩)] (Nat.le_refl _) (enters_of Try.func61 (by kernel_rfl) rfl) (kint es) (by rw [hkl]; exact HL.out) (fun l J Jx W hW _ _ hY h0 => by
    have hz := HZ1.out.grow (show Grown w1 W from hW)
    refine (recent1_in 6 l w.heap.size w1.heap.size G R nw od es W hz.r (fun k hk => HZ1.out.r.lt (.inl hk)) (by have := S1.out; omega) (HZ1.out.lt G (.inl rfl)) es.length rfl J Jx (by rw [hkl] at hY; exact hY) ((hW.cell (p := ⟨w.heap.size, 0, none⟩) (by have := S1.out; show w.heap.size < _; omega)).trans (cell_of_row w1 w.heap.size 0 _ _ (0, 0) N1.out)) hz.cells.2.2.2 h0).mono ?_
    rintro e W' ⟨h1, h2 | ⟨pre, h2⟩⟩
    · exact ⟨h1, .inl ⟨_, rfl, h2⟩⟩
    · exact ⟨h1, .inr ⟨pre, trivial, h2⟩⟩)).mono ?_
  rintro e w2 ⟨v, rfl, ho, hg⟩
  obtain ⟨A, c, rfl, h1, h2⟩ := rdN_own ho
  rw [hkl] at h1 ⊢
  have HR := Lib.hid h2
  have HG := Lib.hid (Grown.trans G1.out hg)
  have HC := Lib.hid h1
  clear ho hg h1 h2 hkl
  go_wp2
  go_ret
  exact ⟨A, es.length, c, rfl, rfl, HC.out, HR.out, HG.out⟩
end Go.Proofs.Ythakdjaaknbmpaa.S14
