/-
  Contract of the reference's Encrypt.
-/
import Derived.Test.YtgfmdjagggnfbaaAeK
import Derived.StillTailTactics
import Derived.Deep.WholeRow
namespace Go.Proofs.Ytgfmdjagggnfbaa.S7
open Go.RowKit
set_option linter.unusedVariables false
set_option linter.unusedSimpArgs false

/-- The first t bytes are f's. -/
def pt (f : Nat → UInt8) (l : List UInt8) (t : Nat) : List UInt8 := mk fun i => if i < t then f i else gt l i
theorem pt_len (f : Nat → UInt8) (l : List UInt8) (t : Nat) : (pt f l t).length = 16 := mk_len _
theorem pt_zero (f : Nat → UInt8) (l : List UInt8) (h : l.length = 16) : pt f l 0 = l := by
  refine Eq.trans (mk_congr fun i hi => ?_) (mk_gt l h)
  simp
theorem pt_all (f : Nat → UInt8) (l : List UInt8) : pt f l 16 = mk f := mk_congr fun i hi => by simp [hi]
theorem pt_set (f : Nat → UInt8) (l : List UInt8) (t : Nat) : (pt f l t).set t (f t) = pt f l (t + 1) := by
  apply List.ext_getElem
  · simp [pt, mk]
  · intro i h1 h2
    have hi : i < 16 := by simpa [pt, mk] using h2
    rw [List.getElem_set]
    simp only [pt, mk, List.getElem_map, List.getElem_range]
    by_cases h : t = i
    · subst h; simp
    · rw [if_neg h]
      by_cases h3 : i < t
      · rw [if_pos h3, if_pos (by omega)]
      · rw [if_neg h3, if_neg (by omega)]
theorem gt_pt (f : Nat → UInt8) (l : List UInt8) (t i : Nat) (h : i < 16) : gt (pt f l t) i = if i < t then f i else gt l i := gt_mk _ i h

/-- Block g is an array of 16 numbers that are bytes. -/
def Arr (w : World) (g : Nat) (l : List UInt8) : Prop := w.heap[g]? = some (.cells (I.bvs l).toArray 66 (0, 0))
section
variable {w w' : World} {g : Nat} {l : List UInt8}
theorem Arr.cell (h : Arr w g l) (i : Nat) (hi : i < l.length) : w.cell? ⟨g, i, none⟩ = some (.int .i64 ((gt l i).toNat : Int)) := by
  rw [cell_of_row w g i _ 66 (0, 0) h]; simp [I.bvs, I.bv, gt, hi]
theorem Arr.free (h : Arr w g l) (i : Nat) : w.frozen? ⟨g, i, none⟩ = false := frozen_of_row w g i _ 66 h
theorem Arr.put (h : Arr w g l) (i : Nat) (x : UInt8) : Arr (w.setCell ⟨g, i, none⟩ (.int .i64 (x.toNat : Int))) g (l.set i x) := by
  unfold Arr at *
  rw [heap_setCell_same w g i _ 66 _ h]
  simp [I.bvs, I.bv, List.map_set]
theorem Arr.far (h : Arr w g l) {p : Addr} (hp : g ≠ p.block) (u : Value) : Arr (w.setCell p u) g l := (Below.heap_setCell w p u g hp).trans h
theorem Arr.lt (h : Arr w g l) : g < w.heap.size := lt_of_heap h
theorem Arr.alloc (h : Arr w g l) (o : Obj) : Arr (w.alloc o) g l := (Below.heap_alloc w o g h.lt).trans h
theorem Arr.drew (h : Arr w g l) : Arr w.drew g l := h
end
def zs16 : List UInt8 := List.replicate 16 0

/-- Where a round stands: x and y. -/
def YIn (w2 wr : World) (gx gy : Nat) (X Y : List UInt8) : Prop := Below gx w2 wr ∧ Arr wr gx X ∧ Arr wr gy Y
/-- Where Encrypt stands between two rounds. -/
def EncIn (w2 wr : World) (W b : List UInt8) (gx : Nat) (v7 : Value) : Prop := ∃ n r : Nat, v7 = .int .i64 (r : Int) ∧ 1 ≤ r ∧ r ≤ 15 ∧ Hid (r = n + 1) ∧ Hid (Below gx w2 wr ∧ Arr wr gx (encS W b n))
theorem setRow_at {w : World} {g : Nat} {old cs : Array Value} {t : TypeId} {f : Nat × Nat} (h : w.heap[g]? = some (.cells old t f)) : (w.setRow g cs).heap[g]? = some (.cells cs t f) := setRow_heap w g old cs t f h
theorem Below.setRow' {B : Nat} {a w : World} (h : Below B a w) {g : Nat} (hg : B ≤ g) (cs : Array Value) : Below B a (w.setRow g cs) :=
  ⟨h.os, h.tape, h.output, Nat.le_trans h.size (by simp [World.setRow]), fun k hk => (setRow_other w g k cs (by omega)).trans (h.block k hk)⟩
section
variable {P : Program} {W : World} {ops : Array Oper} {rest : List Oper} {o : Oper} {a : Act} {Q : Exit → Act → World → Prop}
theorem wpList_load_row (hgd : o.guard = none) (t : TypeId) (x : Operand) (ho : o.op = .load t x) {g : Nat} {cs : Array Value} {t' : TypeId} {fr : Nat × Nat} (d : TypeDesc) (hx : a.eval x = .pointer (some ⟨g, 0, none⟩)) (hg : W.heap[g]? = some (.cells cs t' fr))
    (hu : P.underlying t = some d) (hd : d.isRow = true) (hi : (P.info? t).map (·.size) = some cs.size)
    (h : wpList P ops Q rest (a.put o.dst (.agg cs)) W) : wpList P ops Q (o :: rest) a W := by
  refine wpList_plain hgd fun K hK => ?_
  have hl := run_loadVar_row (P := P) W g t' t cs fr d hg hu (by cases d <;> simp_all) hi
  unfold Oper.wp execOp
  simp only [ho, hx, Instr.loadAt, Instr.sureAddr, Sem.run_bind, Sem.run_pure, Result.andThen_ok, hl]
  exact hK _ _ h
theorem wpList_store_row (hgd : o.guard = none) (t : TypeId) (x y : Operand) (ho : o.op = .store t x y) {g : Nat} {old cs : Array Value} {t' : TypeId} (hx : a.eval x = .pointer (some ⟨g, 0, none⟩)) (hy : a.eval y = .agg cs)
    (hg : W.heap[g]? = some (.cells old t' (0, 0))) (hi : (P.info? t).map (·.size) = some cs.size) (hs : old.size = cs.size) (h1 : cs.all (·.oneCell') = true)
    (h : wpList P ops Q rest (a.put o.dst undef) (W.setRow g cs)) : wpList P ops Q (o :: rest) a W := by
  refine wpList_plain hgd fun K hK => ?_
  have hr := run_storeVar_row (P := P) W g t' t old cs hg hi hs h1
  unfold Oper.wp execOp
  simp only [ho, hx, hy, Instr.storeAt, Instr.sureAddr, Sem.run_bind, Sem.run_pure, Result.andThen_ok, hr]
  exact hK _ _ h
theorem ret_row {fn : Func} {p : Tmp} {t : TypeId} (hr : fn.results = #[.cell p t]) {R : Ending → World → Prop} {tm : Array Value} {g : Nat} {cs : Array Value} {t' : TypeId} {fr : Nat × Nat} (d : TypeDesc) (hp : tm.getD p undef = .pointer (some ⟨g, 0, none⟩)) (hg : W.heap[g]? = some (.cells cs t' fr))
    (hu : P.underlying t = some d) (hd : d.isRow = true) (hi : (P.info? t).map (·.size) = some cs.size) (h : R (.returned (.agg cs)) W) : bodyPost P fn R .ret { tmps := tm, defers := [] } W :=
  bodyPost_ret (v := .agg cs) (results_cell_row hr tm W g t' cs fr d hp hg hu (by cases d <;> simp_all) hi) rfl h
end
theorem xor_i64 (a b : UInt8) : bits .xor .i64 (a.toNat : Int) (b.toNat : Int) = ((a ^^^ b).toNat : Int) := by
  rw [UInt8.toNat_xor]
  exact bits_xor_i64 _ _ (by have := u8_lt a; omega) (by have := u8_lt b; omega)
theorem t2_byte (x : UInt8) (w : World) : Calls Try.prog 32 #[.int .i64 2, .int .i64 (x.toNat : Int)] w fun e w' => e = .returned (.int .i64 ((mulB 2 x).toNat : Int)) ∧ w' = w := by
  rw [← times2 x]
  exact times_any 2 x.toNat (by omega) x.toNat_lt w
theorem t3_byte (x : UInt8) (w : World) : Calls Try.prog 32 #[.int .i64 3, .int .i64 (x.toNat : Int)] w fun e w' => e = .returned (.int .i64 ((mulB 3 x).toNat : Int)) ∧ w' = w := by
  rw [← times3 x]
  exact times_any 3 x.toNat (by omega) x.toNat_lt w
/-- One byte of the mixed block. -/
def mixF (Y : List UInt8) (i : Nat) : UInt8 := mixB (gt Y (col i 0)) (gt Y (col i 1)) (gt Y (col i 2)) (gt Y (col i 3))
theorem mix_nums (cc m kk : Nat) (h : cc = 4 * m) (hc : cc < 16) (hk : kk < 4) :
    cc + kk < 16 ∧ cc + (kk + 1) % 4 < 16 ∧ cc + (kk + 2) % 4 < 16 ∧ cc + (kk + 3) % 4 < 16 ∧ cc + (kk + 1) % 4 = col (cc + kk) 1 ∧ cc + (kk + 2) % 4 = col (cc + kk) 2 ∧ cc + (kk + 3) % 4 = col (cc + kk) 3 := by
  unfold col
  subst h
  refine ⟨by omega, by omega, by omega, by omega, by omega, by omega, by omega⟩
theorem wrap_small (n : Nat) (h : n < 1000) : IntKind.i64.wrap (n : Int) = (n : Int) := by rw [IntKind.wrap_i64]; omega
theorem add_cast {a b c : Nat} (h : c = a + b) : (a : Int) + (b : Int) = (c : Int) := by rw [h]; rfl
theorem lt_cast {a b : Nat} (h : a < b) : (a : Int) < (b : Int) := Int.ofNat_lt.2 h
def MixIn (w2 wr : World) (gx gy : Nat) (Y : List UInt8) (v10 : Value) : Prop := ∃ m cc : Nat, v10 = .int .i64 (cc : Int) ∧ cc ≤ 16 ∧ Hid (cc = 4 * m) ∧ Hid (YIn w2 wr gx gy Y (pt (mixF Y) Y cc))
/-- Block g is an array of 16 bytes. -/
def ArrB (w : World) (g : Nat) (l : List UInt8) : Prop := w.heap[g]? = some (.cells (bvs l).toArray 37 (0, 0))
section
variable {w w' : World} {g : Nat} {l : List UInt8}
theorem ArrB.cell (h : ArrB w g l) (i : Nat) (hi : i < l.length) : w.cell? ⟨g, i, none⟩ = some (.int .u8 ((gt l i).toNat : Int)) := by
  rw [cell_of_row w g i _ 37 (0, 0) h]; simp [bvs, bv, gt, hi]
theorem ArrB.free (h : ArrB w g l) (i : Nat) : w.frozen? ⟨g, i, none⟩ = false := frozen_of_row w g i _ 37 h
theorem ArrB.put (h : ArrB w g l) (i : Nat) (x : UInt8) : ArrB (w.setCell ⟨g, i, none⟩ (.int .u8 (x.toNat : Int))) g (l.set i x) := by
  unfold ArrB at *
  rw [heap_setCell_same w g i _ 37 _ h]
  simp [bvs, bv, List.map_set]
end
/-- Where the last loop stands: x and out. -/
def ZIn (w2 wr : World) (gx gz : Nat) (X Y : List UInt8) : Prop := Below gx w2 wr ∧ Arr wr gx X ∧ ArrB wr gz Y
theorem i16I : (Try.prog.info? 66).map (·.size) = some 16 := by kernel_rfl
theorem u16I : Try.prog.underlying 66 = some (.array 16 3) := by kernel_rfl
theorem i16B : (Try.prog.info? 37).map (·.size) = some 16 := by kernel_rfl
theorem u16B : Try.prog.underlying 37 = some (.array 16 5) := by kernel_rfl

set_option maxHeartbeats 4000000 in
set_option maxRecDepth 20000 in
theorem refEnc_any (A : Option Addr) (c : Nat) (W b : List UInt8) (w : World) (h : I.Rd w w.heap.size A W) (hW : W.length = 240) (hb : b.length = 16) :
    Calls Try.prog 18 #[.slice A 240 c, .agg (bvs b).toArray] w fun e w' => e = .returned (.agg (bvs (encL W b)).toArray) ∧ Grown w w' := by
  obtain ⟨ad, off, rfl, hadB, hcW⟩ : ∃ a off, A = some ⟨a, off, none⟩ ∧ a < w.heap.size ∧ ∀ j, j < 240 → w.cell? ⟨a, off + j, none⟩ = some (.int .i64 ((gt W j).toNat : Int)) := by
    rcases h with rfl | ⟨a, off, e, ha, hc⟩
    · simp at hW
    · exact ⟨a, off, e, ha, fun j hj => by rw [hc j (by omega)]; simp [I.bv, gt, show j < W.length by omega]⟩
  have HCW := Lib.hid hcW
  have HW := Lib.hid hW
  have Hb := Lib.hid hb
  obtain ⟨B, hB⟩ : ∃ B, B = (bvs b).toArray := ⟨_, rfl⟩
  have HB := Lib.hid hB
  rw [← hB]
  clear h hW hb hB hcW
  go_enter Try.func18, Try.ntmps18
  go_wp2
  have hs1 : (w.alloc (.cells B 37)).heap.size = w.heap.size + 1 := by simp
  have hO2 := heap_alloc_new (w.alloc (.cells B 37)) (.cells (List.replicate 16 (Value.int .u8 0)).toArray 37)
  rw [hs1] at hO2
  have hB2 : ((w.alloc (.cells B 37)).alloc (.cells (List.replicate 16 (Value.int .u8 0)).toArray 37)).heap[w.heap.size]? = some (.cells B 37) := (Below.heap_alloc _ _ _ (by rw [hs1]; omega)).trans (heap_alloc_new w _)
  have hG2 : Grown w ((w.alloc (.cells B 37)).alloc (.cells (List.replicate 16 (Value.int .u8 0)).toArray 37)) := Grown.trans (alloc_below w _) (alloc_below _ _)
  have hs2 : ((w.alloc (.cells B 37)).alloc (.cells (List.replicate 16 (Value.int .u8 0)).toArray 37)).heap.size = w.heap.size + 1 + 1 := by simp
  simp only [List.replicate] at hO2 hB2 hG2 hs2
  generalize (w.alloc (.cells B 37)).alloc _ = w2 at hO2 hB2 hG2 hs2 ⊢
  have hX0 : Arr (w2.alloc (.cells (I.bvs zs16).toArray 66)) w2.heap.size zs16 := heap_alloc_new w2 _
  have hX0b : Below w2.heap.size w2 (w2.alloc (.cells (I.bvs zs16).toArray 66)) := alloc_below w2 _
  obtain ⟨gb, hgb⟩ : ∃ g, g = w.heap.size := ⟨_, rfl⟩
  rw [← hgb] at hO2 hB2 hs2 hadB ⊢
  obtain ⟨gx, hgx⟩ : ∃ g, g = w2.heap.size := ⟨_, rfl⟩
  rw [← hgx] at hX0 hX0b hs2
  rw [← hs2]
  have hbx : gb + 1 < gx := by omega
  have HGB := Lib.hid hgb
  have HG2 := Lib.hid hG2
  have HB2 := Lib.hid hB2
  have HO2 := Lib.hid hO2
  have HX0 := Lib.hid (show Below gx w2 (w2.alloc (.cells (I.bvs zs16).toArray 66)) ∧ Arr (w2.alloc (.cells (I.bvs zs16).toArray 66)) gx (pt (fun i => gt b i ^^^ gt W i) zs16 0) from ⟨hX0b, by rw [pt_zero _ _ rfl]; exact hX0⟩)
  rw [show (I.bvs zs16).toArray = #[Value.int .i64 0, Value.int .i64 0, Value.int .i64 0, Value.int .i64 0, Value.int .i64 0, Value.int .i64 0, Value.int .i64 0, Value.int .i64 0, Value.int .i64 0, Value.int .i64 0, Value.int .i64 0, Value.int .i64 0, Value.int .i64 0, Value.int .i64 0, Value.int .i64 0, Value.int .i64 0] from rfl] at HX0
  generalize w2.alloc _ = w3 at HX0 ⊢
  clear hs1 hs2 hO2 hB2 hG2 hX0 hX0b hgx hgb
  go_loopw [6] (fun v6 wr => ∃ t : Nat, t ≤ 16 ∧ v6 = .int .i64 (t : Int) ∧ Hid (Below gx w2 wr ∧ Arr wr gx (pt (fun i => gt b i ^^^ gt W i) zs16 t))) (fun v6 _ => 16 - (intOf v6).toNat)
  case atStart => exact ⟨0, by omega, rfl, HX0.out⟩
  case round =>
    obtain ⟨t, ht, rfl, HX⟩ := hrel
    by_cases hlt : t < 16
    · obtain ⟨p, hp⟩ : ∃ p, p = gt b t := ⟨_, rfl⟩
      obtain ⟨q, hq⟩ : ∃ q, q = gt W t := ⟨_, rfl⟩
      obtain ⟨z, hz⟩ : ∃ z, z = p ^^^ q := ⟨_, rfl⟩
      have hcp : wr.cell? ⟨gb, t, none⟩ = some (.int .u8 (p.toNat : Int)) := by
        rw [HX.out.1.cell (p := ⟨gb, t, none⟩) (by show gb < gx; omega), cell_of_row w2 gb t _ _ _ HB2.out, HB.out, hp]
        simp [bvs, bv, gt, show t < b.length by rw [Hb.out]; omega]
      have hcq : wr.cell? ⟨ad, off + t, none⟩ = some (.int .i64 (q.toNat : Int)) := by
        rw [HX.out.1.cell (p := ⟨ad, off + t, none⟩) (by show ad < gx; omega), Below.cell HG2.out (p := ⟨ad, off + t, none⟩) (by show ad < w.heap.size; rw [← HGB.out]; exact hadB), HCW.out t (by omega), hq]
      have hxz : bits .xor .i64 (p.toNat : Int) (q.toNat : Int) = (z.toNat : Int) := by rw [hz, UInt8.toNat_xor]; exact bits_xor_i64 _ _ (by have := u8_lt p; omega) (by have := u8_lt q; omega)
      have hpl := u8_lt p
      have bt : (t : Int) < 16 := by omega
      have bt2 : (t : Int) < 240 := by omega
      have hxc := HX.out.2.cell t (by rw [pt_len]; omega)
      have hxf := HX.out.2.free t
      have HZ := Lib.hid (show z = (fun i => gt b i ^^^ gt W i) t by rw [hz, hp, hq])
      have wp1 : IntKind.i64.wrap (p.toNat : Int) = (p.toNat : Int) := by rw [IntKind.wrap_i64]; omega
      clear hp hq hz
      go_wp2
      go_still_tail 10, (by kernel_rfl)
      change wpList _ _ _ _ _ wr.drew
      clear hcp hcq hxz wp1 hxc hxf
      have HX1 := Lib.hid (show Below gx w2 wr.drew ∧ Arr wr.drew gx (pt (fun i => gt b i ^^^ gt W i) zs16 t) from ⟨HX.out.1.drew, HX.out.2⟩)
      clear HX
      generalize wr.drew = w4 at HX1 ⊢
      have hxc := HX1.out.2.cell t (by rw [pt_len]; omega)
      have hxf := HX1.out.2.free t
      go_wp2
      go_roundw
      case rel => exact ⟨t + 1, by omega, by go_num, HX1.out.1.setCell (Nat.le_refl _) _, (by rw [← pt_set, ← HZ.out]; exact HX1.out.2.put t z)⟩
      case measure => simp [intOf]; omega
    · have HX1 := Lib.hid (show Below gx w2 wr ∧ Arr wr gx (encS W b 0) by
        refine ⟨HX.out.1, ?_⟩
        have := HX.out.2
        rw [show t = 16 by omega, pt_all] at this
        exact this)
      clear HX HX0
      go_wp2
      try simp only [show decide ((t : Int) < 16) = false by simp; omega]
      go_loopw [7] (fun v7 wr => EncIn w2 wr W b gx v7) (fun v7 _ => 15 - (intOf v7).toNat)
      case atStart => exact ⟨0, 1, rfl, by omega, by omega, rfl, HX1.out⟩
      case round =>
        clear HX1
        obtain ⟨n, r, rfl, hr1, hr15, Hr, HX⟩ := hrel
        by_cases hrl : r ≤ 14
        · obtain ⟨X, hX⟩ : ∃ X, X = encS W b n := ⟨_, rfl⟩
          rw [← hX] at HX
          have HXl := Lib.hid (show X.length = 16 by rw [hX]; exact encS_len _ _ _)
          have HXe := Lib.hid hX
          clear hX
          go_wp2
          have hY0 : YIn w2 (wr.alloc (.cells (I.bvs zs16).toArray 66)) gx wr.heap.size X (pt (fun i => sB (gt X (shf i))) zs16 0) :=
            ⟨HX.out.1.alloc (Nat.le_of_lt HX.out.2.lt) _, HX.out.2.alloc _, by rw [pt_zero _ _ rfl]; exact heap_alloc_new wr _⟩
          have hgy : gx < wr.heap.size := HX.out.2.lt
          have HY := Lib.hid hY0
          rw [show (I.bvs zs16).toArray = #[Value.int .i64 0, Value.int .i64 0, Value.int .i64 0, Value.int .i64 0, Value.int .i64 0, Value.int .i64 0, Value.int .i64 0, Value.int .i64 0, Value.int .i64 0, Value.int .i64 0, Value.int .i64 0, Value.int .i64 0, Value.int .i64 0, Value.int .i64 0, Value.int .i64 0, Value.int .i64 0] from rfl] at HY
          clear hY0 HX
          generalize hgy0 : wr.heap.size = gy at HY hgy ⊢
          clear hgy0
          generalize wr.alloc _ = w5 at HY ⊢
          try simp only [show decide ((r : Int) ≤ 14) = true by simp; omega]
          go_loopw [9] (fun v9 wr => ∃ t : Nat, t ≤ 16 ∧ v9 = .int .i64 (t : Int) ∧ Hid (YIn w2 wr gx gy X (pt (fun i => sB (gt X (shf i))) zs16 t))) (fun v9 _ => 16 - (intOf v9).toNat)
          case atStart => exact ⟨0, by omega, rfl, HY.out⟩
          case round =>
            clear HY
            obtain ⟨s, hs, rfl, HY⟩ := hrel
            by_cases hls : s < 16
            · obtain ⟨j, hj⟩ : ∃ j, j = shf s := ⟨_, rfl⟩
              have hjl : j < 16 := by rw [hj]; exact shf_lt s
              have hj1 : ((s : Int) + 4 * ((s : Int) % 4)) % 16 = (j : Int) := by rw [hj]; unfold shf; omega
              obtain ⟨p, hp⟩ : ∃ p, p = gt X j := ⟨_, rfl⟩
              have hcp : wr.cell? ⟨gx, j, none⟩ = some (.int .i64 (p.toNat : Int)) := by rw [hp]; exact HY.out.2.1.cell j (by rw [HXl.out]; exact hjl)
              have hyc := HY.out.2.2.cell s (by rw [pt_len]; omega)
              have hyf := HY.out.2.2.free s
              have HZ := Lib.hid (show sB p = (fun i => sB (gt X (shf i))) s by rw [hp, hj])
              clear hj hp
              go_wp2_with fail
              refine (s_byte p _).mono ?_
              rintro e w6 ⟨rfl, rfl⟩
              obtain ⟨z, hz⟩ : ∃ z, z = sB p := ⟨_, rfl⟩
              rw [← hz]
              rw [← hz] at HZ
              clear hz
              go_wp2
              go_roundw
              case rel => exact ⟨s + 1, by omega, by go_num, HY.out.1.setCell (Nat.le_of_lt hgy) _, HY.out.2.1.far (by show gx ≠ gy; omega) _, (by rw [← pt_set, ← HZ.out]; exact HY.out.2.2.put s z)⟩
              case measure => simp [intOf]; omega
            · have HY2 := Lib.hid (show YIn w2 wr gx gy X (subS X) by have := HY.out; rw [show s = 16 by omega, pt_all] at this; exact this)
              clear HY
              by_cases hr14 : r < 14
              · have HiZ := Lib.hid (show (Try.prog.info? 66).map (·.size) = some (I.bvs (subS X)).toArray.size by rw [show (I.bvs (subS X)).toArray.size = 16 by simp [I.bvs, subS_len]]; exact i16I)
                have HoZ := Lib.hid (show (I.bvs (subS X)).toArray.all (·.oneCell') = true from all_oneCell_toArray (I.bvs_one _))
                have HsZ := Lib.hid (show (I.bvs X).toArray.size = (I.bvs (subS X)).toArray.size by simp [I.bvs, subS_len, HXl.out])
                obtain ⟨D, hD⟩ : ∃ D, D = (I.bvs (subS X)).toArray := ⟨_, rfl⟩
                rw [← hD] at HiZ HoZ HsZ
                have HgZ := Lib.hid (show wr.heap[gy]? = some (.cells D 66 (0, 0)) by rw [hD]; exact HY2.out.2.2)
                have HD := Lib.hid hD
                clear hD
                go_wp2_with (first
                  | (refine wpList_load_row rfl 66 (.tmp 8) rfl _ rfl HgZ.out u16I rfl HiZ.out ?_)
                  | (refine wpList_store_row rfl 66 (.tmp 5) (.tmp 51) rfl rfl rfl HY2.out.2.1 HiZ.out HsZ.out HoZ.out ?_))
                have HYm := Lib.hid (show YIn w2 (wr.setRow gx D) gx gy (subS X) (pt (fun i => mixB (gt (subS X) (col i 0)) (gt (subS X) (col i 1)) (gt (subS X) (col i 2)) (gt (subS X) (col i 3))) (subS X) 0) by
                  refine ⟨Below.setRow' HY2.out.1 (Nat.le_refl _) _, ?_, ?_⟩
                  · unfold Arr; rw [← HD.out]; exact setRow_at HY2.out.2.1
                  · rw [pt_zero _ _ (subS_len X)]; exact (setRow_other wr gx gy D (by omega)).trans HY2.out.2.2)
                have HE := Lib.hid (show encS W b (n + 1) = mk (fun i => gt (mixS (subS X)) i ^^^ gt W (16 * r + i)) by
                  show rndE W (n + 1) (encS W b n) = _
                  unfold rndE
                  rw [← Hr.out, if_pos hr14, ← HXe.out]
                  rfl)
                clear HiZ HoZ HsZ HgZ HD HY2
                generalize wr.setRow gx D = w6 at HYm ⊢
                try simp only [show decide ((s : Int) < 16) = false by simp; omega, show decide ((r : Int) < 14) = true by simp; omega]
                obtain ⟨Y, hY⟩ : ∃ Y, Y = subS X := ⟨_, rfl⟩
                rw [← hY] at HYm HE
                have HYl := Lib.hid (show Y.length = 16 by rw [hY]; exact subS_len X)
                clear hY
                go_loopw [10] (fun v10 wr => MixIn w2 wr gx gy Y v10) (fun v10 _ => 16 - (intOf v10).toNat)
                case atStart => exact ⟨0, 0, rfl, by omega, rfl, HYm.out⟩
                case round =>
                  clear HYm
                  obtain ⟨m, cc, rfl, hcc, Hcm, HYm⟩ := hrel
                  by_cases hlc : cc < 16
                  · go_wp2
                    try simp only [show decide ((cc : Int) < 16) = true by simp; omega]
                    go_loopw [11] (fun v11 wr => ∃ kk : Nat, kk ≤ 4 ∧ v11 = .int .i64 (kk : Int) ∧ Hid (YIn w2 wr gx gy Y (pt (mixF Y) Y (cc + kk)))) (fun v11 _ => 4 - (intOf v11).toNat)
                    case atStart => exact ⟨0, by omega, rfl, HYm.out⟩
                    case round =>
                      clear HYm
                      obtain ⟨kk, hkk, rfl, HYm⟩ := hrel
                      by_cases hlk : kk < 4
                      · obtain ⟨n0, n1, n2, n3, c1, c2, c3⟩ := mix_nums cc m kk Hcm.out hlc hlk
                        obtain ⟨i0, hi0⟩ : ∃ x, x = cc + kk := ⟨_, rfl⟩
                        obtain ⟨a1, ha1⟩ : ∃ x, x = kk + 1 := ⟨_, rfl⟩
                        obtain ⟨a2, ha2⟩ : ∃ x, x = kk + 2 := ⟨_, rfl⟩
                        obtain ⟨a3, ha3⟩ : ∃ x, x = kk + 3 := ⟨_, rfl⟩
                        rw [← hi0] at n0 c1 c2 c3
                        rw [← ha1] at n1 c1
                        rw [← ha2] at n2 c2
                        rw [← ha3] at n3 c3
                        have f1 : IntKind.i64.wrap (a1 : Int) = (a1 : Int) := wrap_small a1 (by omega)
                        have f2 : IntKind.i64.wrap (a2 : Int) = (a2 : Int) := wrap_small a2 (by omega)
                        have f3 : IntKind.i64.wrap (a3 : Int) = (a3 : Int) := wrap_small a3 (by omega)
                        obtain ⟨b1, hb1⟩ : ∃ x, x = a1 % 4 := ⟨_, rfl⟩
                        obtain ⟨b2, hb2⟩ : ∃ x, x = a2 % 4 := ⟨_, rfl⟩
                        obtain ⟨b3, hb3⟩ : ∃ x, x = a3 % 4 := ⟨_, rfl⟩
                        rw [← hb1] at n1 c1
                        rw [← hb2] at n2 c2
                        rw [← hb3] at n3 c3
                        obtain ⟨i1, hi1⟩ : ∃ x, x = cc + b1 := ⟨_, rfl⟩
                        obtain ⟨i2, hi2⟩ : ∃ x, x = cc + b2 := ⟨_, rfl⟩
                        obtain ⟨i3, hi3⟩ : ∃ x, x = cc + b3 := ⟨_, rfl⟩
                        rw [← hi1] at n1 c1
                        rw [← hi2] at n2 c2
                        rw [← hi3] at n3 c3
                        have c0 : i0 = col i0 0 := (col_zero i0).symm
                        have e0 : (cc : Int) + (kk : Int) = (i0 : Int) := add_cast hi0
                        have f0 : IntKind.i64.wrap (i0 : Int) = (i0 : Int) := wrap_small i0 (by omega)
                        have e1 : (kk : Int) + 1 = (a1 : Int) := add_cast ha1
                        have g1 : (a1 : Int).tmod 4 = (b1 : Int) := by rw [hb1]; rfl
                        have h1 : (cc : Int) + (b1 : Int) = (i1 : Int) := add_cast hi1
                        have k1 : IntKind.i64.wrap (i1 : Int) = (i1 : Int) := wrap_small i1 (by omega)
                        have e2 : (kk : Int) + 2 = (a2 : Int) := add_cast ha2
                        have g2 : (a2 : Int).tmod 4 = (b2 : Int) := by rw [hb2]; rfl
                        have h2 : (cc : Int) + (b2 : Int) = (i2 : Int) := add_cast hi2
                        have k2 : IntKind.i64.wrap (i2 : Int) = (i2 : Int) := wrap_small i2 (by omega)
                        have e3 : (kk : Int) + 3 = (a3 : Int) := add_cast ha3
                        have g3 : (a3 : Int).tmod 4 = (b3 : Int) := by rw [hb3]; rfl
                        have h3 : (cc : Int) + (b3 : Int) = (i3 : Int) := add_cast hi3
                        have k3 : IntKind.i64.wrap (i3 : Int) = (i3 : Int) := wrap_small i3 (by omega)
                        have l0 : (i0 : Int) < 16 := lt_cast n0
                        have l1 : (i1 : Int) < 16 := lt_cast n1
                        have l2 : (i2 : Int) < 16 := lt_cast n2
                        have l3 : (i3 : Int) < 16 := lt_cast n3
                        obtain ⟨p0, hp0⟩ : ∃ x, x = gt Y i0 := ⟨_, rfl⟩
                        obtain ⟨p1, hp1⟩ : ∃ x, x = gt Y i1 := ⟨_, rfl⟩
                        obtain ⟨p2, hp2⟩ : ∃ x, x = gt Y i2 := ⟨_, rfl⟩
                        obtain ⟨p3, hp3⟩ : ∃ x, x = gt Y i3 := ⟨_, rfl⟩
                        have d0 : wr.cell? ⟨gx, i0, none⟩ = some (.int .i64 (p0.toNat : Int)) := by rw [hp0]; exact HYm.out.2.1.cell i0 (by rw [HYl.out]; exact n0)
                        have d1 : wr.cell? ⟨gx, i1, none⟩ = some (.int .i64 (p1.toNat : Int)) := by rw [hp1]; exact HYm.out.2.1.cell i1 (by rw [HYl.out]; exact n1)
                        have d2 : wr.cell? ⟨gx, i2, none⟩ = some (.int .i64 (p2.toNat : Int)) := by rw [hp2]; exact HYm.out.2.1.cell i2 (by rw [HYl.out]; exact n2)
                        have d3 : wr.cell? ⟨gx, i3, none⟩ = some (.int .i64 (p3.toNat : Int)) := by rw [hp3]; exact HYm.out.2.1.cell i3 (by rw [HYl.out]; exact n3)
                        obtain ⟨z0, hz0⟩ : ∃ x, x = mulB 2 p0 := ⟨_, rfl⟩
                        obtain ⟨z1, hz1⟩ : ∃ x, x = mulB 3 p1 := ⟨_, rfl⟩
                        obtain ⟨y1, hy1⟩ : ∃ x, x = z0 ^^^ z1 := ⟨_, rfl⟩
                        obtain ⟨y2, hy2⟩ : ∃ x, x = y1 ^^^ p2 := ⟨_, rfl⟩
                        obtain ⟨z, hz⟩ : ∃ x, x = y2 ^^^ p3 := ⟨_, rfl⟩
                        have HZm := Lib.hid (show z = mixF Y i0 by unfold mixF mixB; rw [hz, hy2, hy1, hz0, hz1, hp0, hp1, hp2, hp3, ← c0, ← c1, ← c2, ← c3])
                        have q1 : bits .xor .i64 (z0.toNat : Int) (z1.toNat : Int) = (y1.toNat : Int) := by rw [hy1]; exact xor_i64 z0 z1
                        have q2 : bits .xor .i64 (y1.toNat : Int) (p2.toNat : Int) = (y2.toNat : Int) := by rw [hy2]; exact xor_i64 y1 p2
                        have q3 : bits .xor .i64 (y2.toNat : Int) (p3.toNat : Int) = (z.toNat : Int) := by rw [hz]; exact xor_i64 y2 p3
                        have C2 := Lib.hid (show Calls Try.prog 32 #[.int .i64 2, .int .i64 (p0.toNat : Int)] wr.drew (fun e w'' => e = .returned (.int .i64 (z0.toNat : Int)) ∧ w'' = wr.drew) by rw [hz0]; exact t2_byte p0 wr.drew)
                        have C3 := Lib.hid (show Calls Try.prog 32 #[.int .i64 3, .int .i64 (p1.toNat : Int)] wr.drew (fun e w'' => e = .returned (.int .i64 (z1.toNat : Int)) ∧ w'' = wr.drew) by rw [hz1]; exact t3_byte p1 wr.drew)
                        have HI0 := Lib.hid hi0
                        have hi16 : i0 < 16 := n0
                        have HA1 := Lib.hid ha1
                        clear hi0 ha1 ha2 ha3 hb1 hb2 hb3 hi1 hi2 hi3 c0 c1 c2 c3 n0 n1 n2 n3 hp0 hp1 hp2 hp3 hz0 hz1 hy1 hy2 hz
                        go_wp2
                        refine wp_region_still_tail 34 (by kernel_rfl) (by kernel_rfl) ?_
                        simp only [List.take_succ_cons, List.take_zero, List.drop_succ_cons, List.drop_zero]
                        repeat still_step
                        still_call C2.out
                        repeat still_step
                        still_call C3.out
                        repeat still_step
                        refine wpStill_nil ?_
                        change wpList _ _ _ _ _ wr.drew
                        clear d0 d1 d2 d3 q1 q2 q3 C2 C3 f0 f1 f2 f3 g1 g2 g3 h1 h2 h3 k1 k2 k3 e2 e3 l1 l2 l3
                        have HY1 := Lib.hid (show YIn w2 wr.drew gx gy Y (pt (mixF Y) Y i0) from ⟨HYm.out.1.drew, HYm.out.2.1, by rw [HI0.out]; exact HYm.out.2.2⟩)
                        clear HYm
                        generalize wr.drew = w4 at HY1 ⊢
                        have hyc := HY1.out.2.2.cell i0 (by rw [pt_len]; exact hi16)
                        have hyf := HY1.out.2.2.free i0
                        go_wp2
                        go_roundw
                        case rel => exact ⟨kk + 1, by omega, (by show Value.int .i64 (a1 : Int) = .int .i64 ((kk + 1 : Nat) : Int); rw [HA1.out]), HY1.out.1.setCell (Nat.le_of_lt hgy) _, HY1.out.2.1.far (by show gx ≠ gy; omega) _, (by rw [show cc + (kk + 1) = i0 + 1 by have := HI0.out; omega, ← pt_set, ← HZm.out]; exact HY1.out.2.2.put i0 z)⟩
                        case measure => simp [intOf]; omega
                      · have HY1 := Lib.hid (show YIn w2 wr gx gy Y (pt (mixF Y) Y (cc + 4)) by have := HYm.out; rw [show kk = 4 by omega] at this; exact this)
                        clear HYm
                        go_wp2
                        go_roundw
                        case rel => exact ⟨m + 1, cc + 4, by go_num, by have := Hcm.out; omega, (by show cc + 4 = 4 * (m + 1); have := Hcm.out; omega), HY1.out⟩
                        case measure => simp [intOf]; omega
                  · have HY := Lib.hid (show YIn w2 wr gx gy Y (mixS Y) by have := HYm.out; rw [show cc = 16 by omega, pt_all] at this; exact this)
                    clear HYm
                    obtain ⟨Z, hZ⟩ : ∃ Z, Z = mixS Y := ⟨_, rfl⟩
                    rw [← hZ] at HE HY
                    have HZl := Lib.hid (show Z.length = 16 by rw [hZ]; exact mixS_len Y)
                    have HX0l := HYl
                    obtain ⟨X0, hX0⟩ : ∃ X0, X0 = Y := ⟨_, rfl⟩
                    rw [← hX0] at HX0l HY
                    clear hZ hX0
                    go_wp2
                    try simp only [show decide ((cc : Int) < 16) = false by simp; omega]
                    go_loopw [12] (fun v12 wr => ∃ t : Nat, t ≤ 16 ∧ v12 = .int .i64 (t : Int) ∧ Hid (YIn w2 wr gx gy (pt (fun i => gt Z i ^^^ gt W (16 * r + i)) X0 t) Z)) (fun v12 _ => 16 - (intOf v12).toNat)
                    case atStart => exact ⟨0, by omega, rfl, by show YIn _ _ _ _ _ _; rw [pt_zero _ _ HX0l.out]; exact HY.out⟩
                    case round =>
                      clear HY
                      obtain ⟨s, hs, rfl, HY⟩ := hrel
                      by_cases hls : s < 16
                      · obtain ⟨Q, hQ⟩ : ∃ Q, Q = 16 * r + s := ⟨_, rfl⟩
                        obtain ⟨R, hR⟩ : ∃ R, R = 16 * r := ⟨_, rfl⟩
                        obtain ⟨p, hp⟩ : ∃ p, p = gt Z s := ⟨_, rfl⟩
                        obtain ⟨q, hq⟩ : ∃ q, q = gt W Q := ⟨_, rfl⟩
                        obtain ⟨z, hz⟩ : ∃ z, z = p ^^^ q := ⟨_, rfl⟩
                        have hQ2 : Q < 240 := by omega
                        have hcp : wr.cell? ⟨gy, s, none⟩ = some (.int .i64 (p.toNat : Int)) := by rw [hp]; exact HY.out.2.2.cell s (by rw [HZl.out]; exact hls)
                        have hcq : wr.cell? ⟨ad, off + Q, none⟩ = some (.int .i64 (q.toNat : Int)) := by
                          rw [HY.out.1.cell (p := ⟨ad, off + Q, none⟩) (by show ad < gx; omega), Below.cell HG2.out (p := ⟨ad, off + Q, none⟩) (by show ad < w.heap.size; rw [← HGB.out]; exact hadB), HCW.out Q hQ2, hq]
                        have hxz : bits .xor .i64 (p.toNat : Int) (q.toNat : Int) = (z.toNat : Int) := by rw [hz, UInt8.toNat_xor]; exact bits_xor_i64 _ _ (by have := u8_lt p; omega) (by have := u8_lt q; omega)
                        have bs : (s : Int) < 16 := by omega
                        have bQ : (Q : Int) < 240 := by omega
                        have e1 : 16 * (r : Int) = (R : Int) := by omega
                        have e2 : IntKind.i64.wrap (R : Int) = (R : Int) := by rw [IntKind.wrap_i64]; omega
                        have e3 : (R : Int) + (s : Int) = (Q : Int) := by omega
                        have e4 : IntKind.i64.wrap (Q : Int) = (Q : Int) := by rw [IntKind.wrap_i64]; omega
                        have HZ2 := Lib.hid (show z = (fun i => gt Z i ^^^ gt W (16 * r + i)) s by rw [hz, hp, hq, hQ])
                        clear hp hq hz hQ hR
                        go_wp2
                        go_still_tail 12, (by kernel_rfl)
                        change wpList _ _ _ _ _ wr.drew
                        clear hcp hcq hxz e1 e2 e3 e4 bQ
                        have HY1 := Lib.hid (show YIn w2 wr.drew gx gy (pt (fun i => gt Z i ^^^ gt W (16 * r + i)) X0 s) Z from ⟨HY.out.1.drew, HY.out.2.1, HY.out.2.2⟩)
                        clear HY
                        generalize wr.drew = w4 at HY1 ⊢
                        have hxc := HY1.out.2.1.cell s (by rw [pt_len]; omega)
                        have hxf := HY1.out.2.1.free s
                        go_wp2
                        go_roundw
                        case rel => exact ⟨s + 1, by omega, by go_num, HY1.out.1.setCell (Nat.le_refl _) _, (by rw [← pt_set, ← HZ2.out]; exact HY1.out.2.1.put s z), HY1.out.2.2.far (by show gy ≠ gx; omega) _⟩
                        case measure => simp [intOf]; omega
                      · have HX9 := Lib.hid (show Below gx w2 wr ∧ Arr wr gx (encS W b (n + 1)) by
                          refine ⟨HY.out.1, ?_⟩
                          have := HY.out.2.1
                          rw [show s = 16 by omega, pt_all] at this
                          rw [show encS W b (n + 1) = mk (fun i => gt Z i ^^^ gt W (16 * r + i)) from HE.out]
                          exact this)
                        clear HY
                        go_wp2
                        go_roundw
                        case rel => exact ⟨n + 1, r + 1, by go_num, by omega, by omega, (by show r + 1 = n + 1 + 1; rw [Hr.out]), HX9.out⟩
                        case measure => simp [intOf]; omega
              · have HE := Lib.hid (show encS W b (n + 1) = mk (fun i => gt (subS X) i ^^^ gt W (16 * r + i)) by
                  show rndE W (n + 1) (encS W b n) = _
                  unfold rndE
                  rw [← Hr.out, if_neg hr14, ← HXe.out]
                  rfl)
                obtain ⟨Z, hZ⟩ : ∃ Z, Z = subS X := ⟨_, rfl⟩
                rw [← hZ] at HE HY2
                have HZl := Lib.hid (show Z.length = 16 by rw [hZ]; exact subS_len X)
                have HX0l := HXl
                obtain ⟨X0, hX0⟩ : ∃ X0, X0 = X := ⟨_, rfl⟩
                rw [← hX0] at HX0l HY2
                clear hZ hX0
                have HY := HY2
                clear HY2
                go_wp2
                try simp only [show decide ((s : Int) < 16) = false by simp; omega, show decide ((r : Int) < 14) = false by simp; omega]
                go_loopw [12] (fun v12 wr => ∃ t : Nat, t ≤ 16 ∧ v12 = .int .i64 (t : Int) ∧ Hid (YIn w2 wr gx gy (pt (fun i => gt Z i ^^^ gt W (16 * r + i)) X0 t) Z)) (fun v12 _ => 16 - (intOf v12).toNat)
                case atStart => exact ⟨0, by omega, rfl, by show YIn _ _ _ _ _ _; rw [pt_zero _ _ HX0l.out]; exact HY.out⟩
                case round =>
                  clear HY
                  obtain ⟨s, hs, rfl, HY⟩ := hrel
                  by_cases hls : s < 16
                  · obtain ⟨Q, hQ⟩ : ∃ Q, Q = 16 * r + s := ⟨_, rfl⟩
                    obtain ⟨R, hR⟩ : ∃ R, R = 16 * r := ⟨_, rfl⟩
                    obtain ⟨p, hp⟩ : ∃ p, p = gt Z s := ⟨_, rfl⟩
                    obtain ⟨q, hq⟩ : ∃ q, q = gt W Q := ⟨_, rfl⟩
                    obtain ⟨z, hz⟩ : ∃ z, z = p ^^^ q := ⟨_, rfl⟩
                    have hQ2 : Q < 240 := by omega
                    have hcp : wr.cell? ⟨gy, s, none⟩ = some (.int .i64 (p.toNat : Int)) := by rw [hp]; exact HY.out.2.2.cell s (by rw [HZl.out]; exact hls)
                    have hcq : wr.cell? ⟨ad, off + Q, none⟩ = some (.int .i64 (q.toNat : Int)) := by
                      rw [HY.out.1.cell (p := ⟨ad, off + Q, none⟩) (by show ad < gx; omega), Below.cell HG2.out (p := ⟨ad, off + Q, none⟩) (by show ad < w.heap.size; rw [← HGB.out]; exact hadB), HCW.out Q hQ2, hq]
                    have hxz : bits .xor .i64 (p.toNat : Int) (q.toNat : Int) = (z.toNat : Int) := by rw [hz, UInt8.toNat_xor]; exact bits_xor_i64 _ _ (by have := u8_lt p; omega) (by have := u8_lt q; omega)
                    have bs : (s : Int) < 16 := by omega
                    have bQ : (Q : Int) < 240 := by omega
                    have e1 : 16 * (r : Int) = (R : Int) := by omega
                    have e2 : IntKind.i64.wrap (R : Int) = (R : Int) := by rw [IntKind.wrap_i64]; omega
                    have e3 : (R : Int) + (s : Int) = (Q : Int) := by omega
                    have e4 : IntKind.i64.wrap (Q : Int) = (Q : Int) := by rw [IntKind.wrap_i64]; omega
                    have HZ2 := Lib.hid (show z = (fun i => gt Z i ^^^ gt W (16 * r + i)) s by rw [hz, hp, hq, hQ])
                    clear hp hq hz hQ hR
                    go_wp2
                    go_still_tail 12, (by kernel_rfl)
                    change wpList _ _ _ _ _ wr.drew
                    clear hcp hcq hxz e1 e2 e3 e4 bQ
                    have HY1 := Lib.hid (show YIn w2 wr.drew gx gy (pt (fun i => gt Z i ^^^ gt W (16 * r + i)) X0 s) Z from ⟨HY.out.1.drew, HY.out.2.1, HY.out.2.2⟩)
                    clear HY
                    generalize wr.drew = w4 at HY1 ⊢
                    have hxc := HY1.out.2.1.cell s (by rw [pt_len]; omega)
                    have hxf := HY1.out.2.1.free s
                    go_wp2
                    go_roundw
                    case rel => exact ⟨s + 1, by omega, by go_num, HY1.out.1.setCell (Nat.le_refl _) _, (by rw [← pt_set, ← HZ2.out]; exact HY1.out.2.1.put s z), HY1.out.2.2.far (by show gy ≠ gx; omega) _⟩
                    case measure => simp [intOf]; omega
                  · have HX9 := Lib.hid (show Below gx w2 wr ∧ Arr wr gx (encS W b (n + 1)) by
                      refine ⟨HY.out.1, ?_⟩
                      have := HY.out.2.1
                      rw [show s = 16 by omega, pt_all] at this
                      rw [show encS W b (n + 1) = mk (fun i => gt Z i ^^^ gt W (16 * r + i)) from HE.out]
                      exact this)
                    clear HY
                    go_wp2
                    go_roundw
                    case rel => exact ⟨n + 1, r + 1, by go_num, by omega, by omega, (by show r + 1 = n + 1 + 1; rw [Hr.out]), HX9.out⟩
                    case measure => simp [intOf]; omega
        · have HX9 := Lib.hid (show Below gx w2 wr ∧ Arr wr gx (encL W b) by have := HX.out; rw [show n = 14 by have := Hr.out; omega] at this; exact this)
          clear HX
          go_wp2
          try simp only [show decide ((r : Int) ≤ 14) = false by simp; omega]
          obtain ⟨E, hE⟩ : ∃ E, E = encL W b := ⟨_, rfl⟩
          rw [← hE] at HX9
          have HEl := Lib.hid (show E.length = 16 by rw [hE]; exact encL_len W b)
          have HEe := Lib.hid hE
          have hZ0 : ZIn w2 (wr.alloc (.cells (bvs zs16).toArray 37)) gx wr.heap.size E (pt (gt E) zs16 0) :=
            ⟨HX9.out.1.alloc (Nat.le_of_lt HX9.out.2.lt) _, HX9.out.2.alloc _, by rw [pt_zero _ _ rfl]; exact heap_alloc_new wr _⟩
          have hgz : gx < wr.heap.size := HX9.out.2.lt
          have HZ := Lib.hid hZ0
          rw [show (bvs zs16).toArray = #[Value.int .u8 0, Value.int .u8 0, Value.int .u8 0, Value.int .u8 0, Value.int .u8 0, Value.int .u8 0, Value.int .u8 0, Value.int .u8 0, Value.int .u8 0, Value.int .u8 0, Value.int .u8 0, Value.int .u8 0, Value.int .u8 0, Value.int .u8 0, Value.int .u8 0, Value.int .u8 0] from rfl] at HZ
          clear hZ0 HX9 hE
          generalize hgz0 : wr.heap.size = gz at HZ hgz ⊢
          clear hgz0
          generalize wr.alloc _ = w5 at HZ ⊢
          go_loopw [14] (fun v14 wr => ∃ t : Nat, t ≤ 16 ∧ v14 = .int .i64 (t : Int) ∧ Hid (ZIn w2 wr gx gz E (pt (gt E) zs16 t))) (fun v14 _ => 16 - (intOf v14).toNat)
          case atStart => exact ⟨0, by omega, rfl, HZ.out⟩
          case round =>
            clear HZ
            obtain ⟨s, hs, rfl, HZ⟩ := hrel
            by_cases hls : s < 16
            · obtain ⟨p, hp⟩ : ∃ p, p = gt E s := ⟨_, rfl⟩
              have hcp : wr.cell? ⟨gx, s, none⟩ = some (.int .i64 (p.toNat : Int)) := by rw [hp]; exact HZ.out.2.1.cell s (by rw [HEl.out]; exact hls)
              have hpl := u8_lt p
              have hzc := HZ.out.2.2.cell s (by rw [pt_len]; omega)
              have hzf := HZ.out.2.2.free s
              have Hp := Lib.hid hp
              clear hp
              go_wp2
              go_roundw
              case rel => exact ⟨s + 1, by omega, by go_num, HZ.out.1.setCell (Nat.le_of_lt hgz) _, HZ.out.2.1.far (by show gx ≠ gz; omega) _, (by rw [← pt_set, ← Hp.out]; exact HZ.out.2.2.put s p)⟩
              case measure => simp [intOf]; omega
            · have HZ2 := Lib.hid (show ArrB wr gz E by have := HZ.out.2.2; rw [show s = 16 by omega, pt_all, mk_gt E HEl.out] at this; exact this)
              have HB9 := Lib.hid HZ.out.1
              clear HZ
              obtain ⟨D, hD⟩ : ∃ D, D = (bvs E).toArray := ⟨_, rfl⟩
              have hDs : D.size = 16 := by rw [hD]; simp [bvs, HEl.out]
              have HgZ := Lib.hid (show wr.heap[gz]? = some (.cells D 37 (0, 0)) by rw [hD]; exact HZ2.out)
              have HiD := Lib.hid (show (Try.prog.info? 37).map (·.size) = some D.size by rw [hDs]; exact i16B)
              have HoD := Lib.hid (show D.all (·.oneCell') = true by rw [hD]; exact all_oneCell_toArray (bvs_one _))
              have HO9 := Lib.hid (((HB9.out.block (gb + 1) hbx)).trans HO2.out)
              have HDs := Lib.hid hDs
              have HD := Lib.hid hD
              clear hD hDs HZ2
              go_wp2_with (first
                | (refine wpList_load_row rfl 37 (.tmp 13) rfl _ rfl HgZ.out u16B rfl HiD.out ?_)
                | (refine wpList_store_row rfl 37 (.tmp 4) (.tmp 122) rfl rfl rfl HO9.out HiD.out (by rw [HDs.out]; rfl) HoD.out ?_))
              refine ret_row rfl _ rfl (setRow_at HO9.out) u16B rfl HiD.out ⟨by rw [HD.out, HEe.out], ?_⟩
              have h1 : Below w.heap.size w wr := Below.trans HG2.out (HB9.out.mono (by rw [← HGB.out]; omega))
              exact Below.setRow' h1 (by rw [← HGB.out]; omega) _
end Go.Proofs.Ytgfmdjagggnfbaa.S7
