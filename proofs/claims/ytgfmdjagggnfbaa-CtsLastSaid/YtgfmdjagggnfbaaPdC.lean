/-
  The frame of a function that takes a block of 16 bytes and returns one; contract of the program's replace.
-/
import Derived.Test.YtgfmdjagggnfbaaPdB
namespace Go.Proofs.Ytgfmdjagggnfbaa.S7
open Go.RowKit
set_option linter.unusedVariables false
set_option linter.unusedSimpArgs false

/-- Where such a function stands: the boxed argument holds L, the result's cell is there. -/
def Fr (w wr : World) (L : List UInt8) : Prop := Below w.heap.size w wr ∧ Bk wr w.heap.size 37 L ∧ Bk wr (w.heap.size + 1) 37 zs16
section
variable {w wr w' : World} {L : List UInt8}
theorem Fr.start (w : World) (b : List UInt8) {B : Array Value} (hB : B = (bvs b).toArray) {Z : Array Value} (hZ : Z = (bvs zs16).toArray) : Fr w ((w.alloc (.cells B 37)).alloc (.cells Z 37)) b := by
  subst hB hZ
  exact ⟨two_grown w _ _, first_new w _ _, two_new w _ _⟩
theorem Fr.drew (h : Fr w wr L) : Fr w wr.drew L := ⟨h.1.drew, h.2.1, h.2.2⟩
theorem Fr.drewN (h : Fr w wr L) (n : Nat) : Fr w (wr.drewN n) L := by
  induction n generalizing wr with
  | zero => exact h
  | succ n ih => exact (ih h).drew
theorem Fr.put (h : Fr w wr L) (i : Nat) (x : UInt8) : Fr w (wr.setCell ⟨w.heap.size, i, none⟩ (.int .u8 (x.toNat : Int))) (L.set i x) :=
  ⟨h.1.setCell (Nat.le_refl _) _, h.2.1.put i x, h.2.2.far (by show w.heap.size + 1 ≠ w.heap.size; omega) _⟩
theorem Fr.grow (h : Fr w wr L) (hg : Grown wr w') : Fr w w' L := ⟨h.1.trans (hg.mono h.1.size), h.2.1.grow hg, h.2.2.grow hg⟩
theorem Fr.alloc (h : Fr w wr L) (o : Obj) : Fr w (wr.alloc o) L := h.grow (alloc_below wr o)
theorem Fr.cell (h : Fr w wr L) (i : Nat) (hi : i < L.length) : wr.cell? ⟨w.heap.size, i, none⟩ = some (.int .u8 ((gt L i).toNat : Int)) := h.2.1.cell i hi
theorem Fr.free (h : Fr w wr L) (i : Nat) : wr.frozen? ⟨w.heap.size, i, none⟩ = false := h.2.1.free i
theorem Fr.size (h : Fr w wr L) : w.heap.size + 1 < wr.heap.size := h.2.2.lt
/-- The boxed argument is stored anew. -/
theorem Fr.row (h : Fr w wr L) (M : List UInt8) : Fr w (wr.setRow w.heap.size (bvs M).toArray) M :=
  ⟨Below.setRow' h.1 (Nat.le_refl _) _, setRow_at h.2.1, (setRow_other _ _ _ _ (by omega)).trans h.2.2⟩
end
theorem size16 {L : List UInt8} (h : L.length = 16) : (Try.prog.info? 37).map (·.size) = some (bvs L).toArray.size := by rw [show (bvs L).toArray.size = 16 by simp [bvs, h]]; exact i16B
theorem one16 (L : List UInt8) : (bvs L).toArray.all (·.oneCell') = true := all_oneCell_toArray (bvs_one L)
theorem info8 : (Try.prog.info? 5).map (·.size) = some 1 := by kernel_rfl
section
variable {P : Program} {W w : World} {ops : Array Oper} {rest : List Oper} {o : Oper} {a : Act} {Q : Exit → Act → World → Prop}
/-- The boxed argument, loaded. -/
theorem wpList_load_fr (hgd : o.guard = none) (x : Operand) (ho : o.op = .load 37 x) (hx : a.eval x = .pointer (some ⟨w.heap.size, 0, none⟩)) {L : List UInt8} (h : Fr w W L) (hL : L.length = 16)
    (hk : wpList Try.prog ops Q rest (a.put o.dst (.agg (bvs L).toArray)) W) : wpList Try.prog ops Q (o :: rest) a W :=
  wpList_load_row hgd 37 x ho _ hx h.2.1 u16B rfl (size16 hL) hk
/-- The boxed argument, stored. -/
theorem wpList_store_fr (hgd : o.guard = none) (x y : Operand) (ho : o.op = .store 37 x y) (hx : a.eval x = .pointer (some ⟨w.heap.size, 0, none⟩)) {L M : List UInt8} (hy : a.eval y = .agg (bvs M).toArray) (h : Fr w W L) (hL : L.length = 16) (hM : M.length = 16)
    (hk : ∀ W', Fr w W' M → wpList Try.prog ops Q rest (a.put o.dst undef) W') : wpList Try.prog ops Q (o :: rest) a W :=
  wpList_store_row hgd 37 x y ho hx hy h.2.1 (size16 hM) (by simp [bvs, hL, hM]) (one16 M) (hk _ (h.row M))
/-- The result, stored: what is left of the frame. -/
def Done (w W : World) (M : List UInt8) : Prop := Grown w W ∧ Bk W (w.heap.size + 1) 37 M
theorem wpList_store_res (hgd : o.guard = none) (x y : Operand) (ho : o.op = .store 37 x y) (hx : a.eval x = .pointer (some ⟨w.heap.size + 1, 0, none⟩)) {L M : List UInt8} (hy : a.eval y = .agg (bvs M).toArray) (h : Fr w W L) (hM : M.length = 16)
    (hk : ∀ W', Done w W' M → wpList Try.prog ops Q rest (a.put o.dst undef) W') : wpList Try.prog ops Q (o :: rest) a W :=
  wpList_store_row hgd 37 x y ho hx hy h.2.2 (size16 hM) (by simp [bvs, hM]; rfl) (one16 M) (hk _ ⟨Below.setRow' h.1 (by omega) _, setRow_at h.2.2⟩)
theorem ret_fr {fn : Func} {p : Tmp} (hr : fn.results = #[.cell p 37]) {R : Ending → World → Prop} {tm : Array Value} (hp : tm.getD p undef = .pointer (some ⟨w.heap.size + 1, 0, none⟩)) {M : List UInt8} (h : Done w W M) (hM : M.length = 16)
    (hk : R (.returned (.agg (bvs M).toArray)) W) : bodyPost Try.prog fn R .ret { tmps := tm, defers := [] } W :=
  ret_row hr _ hp h.2 u16B rfl (size16 hM) hk
/-- A byte of the boxed argument, stored. -/
theorem wpList_cell_fr (hgd : o.guard = none) (x y : Operand) (ho : o.op = .store 5 x y) {L : List UInt8} {i : Nat} {z : UInt8} (hx : a.eval x = .pointer (some ⟨w.heap.size, i, none⟩)) (hy : a.eval y = .int .u8 (z.toNat : Int)) (h : Fr w W L) (hi : i < L.length)
    (hk : wpList Try.prog ops Q rest (a.put o.dst undef) (W.setCell ⟨w.heap.size, i, none⟩ (.int .u8 (z.toNat : Int)))) : wpList Try.prog ops Q (o :: rest) a W := by
  refine wpList_plain hgd fun K hK => ?_
  have hc := h.cell i hi
  have hf := h.free i
  have hs : (storeVar 5 ⟨w.heap.size, i, none⟩ (.int .u8 (z.toNat : Int))).run Try.prog W = .ok () (W.setCell ⟨w.heap.size, i, none⟩ (.int .u8 (z.toNat : Int))) := by
    have hsz := info8
    cases hq : Try.prog.info? 5 with
    | none => simp [hq] at hsz
    | some i0 =>
      have hs1 : i0.size = 1 := by simpa [hq] using hsz
      have hst : (store ((⟨w.heap.size, i, none⟩ : Addr).add 0) (.int .u8 (z.toNat : Int))).run Try.prog W = .ok () (W.setCell ⟨w.heap.size, i, none⟩ (.int .u8 (z.toNat : Int))) := by
        rw [show (⟨w.heap.size, i, none⟩ : Addr).add 0 = ⟨w.heap.size, i, none⟩ from Addr.add_mid _ _ _, run_store Try.prog W _ _ _ rfl, hc]
        simp [hf]
      simp [storeVar, sizeOf, typeInfo, hq, Value.cells, hs1, storeCells, hst]
  unfold Oper.wp execOp
  simp only [ho, hx, hy, Instr.storeAt, Instr.sureAddr, Sem.run_bind, Sem.run_pure, Result.andThen_ok, hs]
  exact hK _ _ hk
theorem wpList_put_fr (hgd : o.guard = none) (x y : Operand) (ho : o.op = .store 5 x y) {L : List UInt8} {i : Nat} {z : UInt8} (hx : a.eval x = .pointer (some ⟨w.heap.size, i, none⟩)) (hy : a.eval y = .int .u8 (z.toNat : Int)) (h : Fr w W L) (hi : i < L.length)
    (hk : ∀ W', Fr w W' (L.set i z) → wpList Try.prog ops Q rest (a.put o.dst undef) W') : wpList Try.prog ops Q (o :: rest) a W :=
  wpList_cell_fr hgd x y ho hx hy h hi (hk _ (h.put i z))
end
theorem idxB {l : List UInt8} {n : Nat} {t : TypeId} (hu : Try.prog.underlying t = some (.array n 5)) (hn : l.length = n) (i : Nat) (hi : i < n) (w : World) :
    (Instr.index t (.agg (bvs l).toArray) (.int .i64 (i : Int))).run Try.prog w = .ok (.int .u8 ((gt l i).toNat : Int)) w := by
  obtain ⟨i0, hi0, hz0, hz1, hz2⟩ := info_parts info5
  simp [Instr.index, asIntOf, run_underlying hu, part, isAgg, run_underlying Try.underlying5, sizeOf, typeInfo, hi0, hz1, bvs, bv, hi, hn, gt]
/-- A table of 256 bytes lies at offset O of block G. -/
def Tb (w : World) (G O : Nat) (T : List UInt8) : Prop := ∀ j, j < 256 → w.cell? ⟨G, O + j, none⟩ = some (.int .u8 ((gt T j).toNat : Int))
def repF (T b : List UInt8) (i : Nat) : UInt8 := gt T (gt b i).toNat

set_option maxHeartbeats 4000000 in
set_option maxRecDepth 20000 in
theorem replace_any (T b : List UInt8) (hb : b.length = 16) (G O : Nat) (w : World) (hG : G < w.heap.size) (hT : Tb w G O T) :
    Calls Try.prog 21 #[.agg (bvs b).toArray, .pointer (some ⟨G, O, none⟩)] w fun e w' => e = .returned (.agg (bvs (repS T b)).toArray) ∧ Grown w w' := by
  have Hb := Lib.hid hb
  have HT := Lib.hid hT
  have H0 := Lib.hid (Fr.start w b rfl (Z := (bvs zs16).toArray) rfl)
  rw [show (bvs zs16).toArray = #[Value.int .u8 0, Value.int .u8 0, Value.int .u8 0, Value.int .u8 0, Value.int .u8 0, Value.int .u8 0, Value.int .u8 0, Value.int .u8 0, Value.int .u8 0, Value.int .u8 0, Value.int .u8 0, Value.int .u8 0, Value.int .u8 0, Value.int .u8 0, Value.int .u8 0, Value.int .u8 0] from rfl] at H0
  clear hb hT
  go_enter Try.func21, Try.ntmps21
  go_wp2_with (first
    | (refine wpList_load_fr rfl (.tmp 2) rfl rfl H0.out Hb.out ?_))
  generalize (w.alloc _).alloc _ = w3 at H0 ⊢
  have H1 := Lib.hid (show Fr w w3 (pt (repF T b) b 0) by rw [pt_zero _ _ Hb.out]; exact H0.out)
  clear H0
  go_loopw [8] (fun v8 wr => ∃ t : Nat, t ≤ 16 ∧ v8 = .int .i64 (t : Int) ∧ Hid (Fr w wr (pt (repF T b) b t))) (fun v8 _ => 16 - (intOf v8).toNat)
  case atStart => exact ⟨0, by omega, rfl, H1.out⟩
  case round =>
    clear H1
    obtain ⟨t, ht, rfl, H⟩ := hrel
    by_cases hlt : t < 16
    · obtain ⟨x, hx⟩ : ∃ x, x = gt b t := ⟨_, rfl⟩
      obtain ⟨z, hz⟩ : ∃ z, z = gt T x.toNat := ⟨_, rfl⟩
      have hix : ∀ W : World, (Instr.index 37 (.agg (bvs b).toArray) (.int .i64 (t : Int))).run Try.prog W = .ok (.int .u8 (x.toNat : Int)) W := fun W => by rw [hx]; exact idxB u16B Hb.out t hlt W
      have hxl := u8_lt x
      have hc : wr.cell? ⟨G, O + x.toNat, none⟩ = some (.int .u8 (z.toNat : Int)) := by
        rw [H.out.1.cell (p := ⟨G, O + x.toNat, none⟩) hG, hz]; exact HT.out x.toNat hxl
      have hyc := H.out.cell t (by rw [pt_len]; omega)
      have hyf := H.out.free t
      have HZ := Lib.hid (show z = repF T b t by unfold repF; rw [hz, hx])
      have bt : (t : Int) < 16 := by omega
      clear hx hz
      go_wp2
      go_roundw
      case rel => exact ⟨t + 1, by omega, by go_num, (by rw [← pt_set, ← HZ.out]; exact H.out.put t z)⟩
      case measure => simp [intOf]; omega
    · have H2 := Lib.hid (show Fr w wr (repS T b) by have := H.out; rw [show t = 16 by omega, pt_all] at this; exact this)
      have bt : ¬ (t : Int) < 16 := by omega
      have HR := Lib.hid (show (repS T b).length = 16 from mk_len _)
      obtain ⟨R, hR⟩ : ∃ R, R = repS T b := ⟨_, rfl⟩
      rw [← hR] at H2 HR
      have HE := Lib.hid hR
      clear H hR
      go_wp2_with (first
        | (refine wpList_load_fr rfl (.tmp 2) rfl rfl H2.out HR.out ?_)
        | (refine wpList_store_res rfl (.tmp 4) (.tmp 20) rfl rfl rfl H2.out HR.out ?_
           intro w9 h9
           have H9 := Lib.hid h9
           clear h9))
      exact ret_fr rfl rfl H9.out HR.out ⟨by rw [HE.out], H9.out.1⟩
end Go.Proofs.Ytgfmdjagggnfbaa.S7
