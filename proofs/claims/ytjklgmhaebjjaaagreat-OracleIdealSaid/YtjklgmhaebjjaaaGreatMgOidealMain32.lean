/-
  Acts of the law: Derive. May it be a unit? The reference.
-/
import Derived.Test.YtjklgmhaebjjaaaGreatMgOidealMain31
namespace Go.Proofs.YtjklgmhaebjjaaaGreat.S12
open S11
open Go.RowKit
set_option linter.unusedVariables false
set_option linter.unusedSimpArgs false

/-- What an act of the law reads: the pair of oracles, the act. -/
def Fx (P G R ba : Nat) (n number : Int) (Vk Vx : Value) (v : World) : Prop :=
  v.cell? ⟨P, 0, none⟩ = some (.pointer (some ⟨G, 0, none⟩)) ∧ v.cell? ⟨P, 1, none⟩ = some (.pointer (some ⟨R, 0, none⟩)) ∧ v.cell? ⟨ba, 1, none⟩ = some (.int .i64 n) ∧ v.cell? ⟨ba, 2, none⟩ = some (.int .i64 number) ∧ v.cell? ⟨ba, 3, none⟩ = some Vk ∧ v.cell? ⟨ba, 4, none⟩ = some Vx
/-- The act lies at block ba, which is our own. -/
structure Ax (B : Nat) (F F2 : Nat → Prop) (ba : Nat) (n number : Int) (Vk Vx : Value) (v : World) : Prop where
  c1 : v.cell? ⟨ba, 1, none⟩ = some (.int .i64 n)
  c2 : v.cell? ⟨ba, 2, none⟩ = some (.int .i64 number)
  c3 : v.cell? ⟨ba, 3, none⟩ = some Vk
  c4 : v.cell? ⟨ba, 4, none⟩ = some Vx
  loc : Loc v B F F2 ba
section
variable {M : Mod} {O Q : Ob M} {B P G R ba : Nat} {w w' : World} {F F2 F' : Nat → Prop} {st st2 : M.σ} {n number : Int} {Vk Vx : Value}
theorem byte_of (n : Int) : ∃ c : UInt8, IntKind.u8.wrap n = (c.toNat : Int) := by
  refine ⟨UInt8.ofNat (n % 256).toNat, ?_⟩
  have h1 : 0 ≤ n % 256 := by omega
  have h2 : n % 256 < 256 := by omega
  have e : IntKind.u8.wrap n = n % 256 := by unfold IntKind.wrap; simp [IntKind.bits, IntKind.signed]
  rw [e, UInt8.toNat_ofNat']
  omega
theorem Ax.same {F2' : Nat → Prop} (h : Ax B F F2 ba n number Vk Vx w) (hb : w'.heap[ba]? = w.heap[ba]?) (hl : Loc w' B F' F2' ba) : Ax B F' F2' ba n number Vk Vx w' :=
  ⟨(World.cell?_of_block (a := ⟨ba, 1, none⟩) hb).trans h.c1, (World.cell?_of_block (a := ⟨ba, 2, none⟩) hb).trans h.c2, (World.cell?_of_block (a := ⟨ba, 3, none⟩) hb).trans h.c3, (World.cell?_of_block (a := ⟨ba, 4, none⟩) hb).trans h.c4, hl⟩
theorem Ax.grow (h : Ax B F F2 ba n number Vk Vx w) (hg : Grown w w') : Ax B F F2 ba n number Vk Vx w' := h.same (hg.block ba h.loc.1) (h.loc.grow hg.size)
theorem Ax.stepP (h : Ax B F F2 ba n number Vk Vx w) (h2 : ∀ k, F' k → F k ∨ w.heap.size ≤ k) (hc : Ch F w w') : Ax B F' F2 ba n number Vk Vx w' := h.same (hc.block ba h.loc.1 h.loc.2.1) (h.loc.stepP h2 hc.size)
theorem Ax.stepR (h : Ax B F F2 ba n number Vk Vx w) (h2 : ∀ k, F' k → F2 k ∨ w.heap.size ≤ k) (hc : Ch F2 w w') : Ax B F F' ba n number Vk Vx w' := h.same (hc.block ba h.loc.1 h.loc.2.2.1) (h.loc.stepR h2 hc.size)
theorem Ax.row (h : Ax B F F2 ba n number Vk Vx w) {g : Nat} (hg : ba ≠ g) (cs : Array Value) : Ax B F F2 ba n number Vk Vx (w.setRow g cs) := h.same (setRow_other hg) (h.loc.grow (by simp [World.setRow]))
theorem Two.fx (h : Two M O Q B P G R w F F2 st st2) (ha : Ax B F F2 ba n number Vk Vx w) : Fx P G R ba n number Vk Vx w := ⟨h.cP, h.cR, ha.c1, ha.c2, ha.c3, ha.c4⟩
/-- The act in a new block. -/
theorem Two.act (KP : Kept B O) (KR : Kept B Q) (h : Two M O Q B P G R w F F2 st st2) (kind : Int) : Ax B F F2 w.heap.size n number Vk Vx (w.alloc (.cells #[.int .i64 kind, .int .i64 n, .int .i64 number, Vk, Vx] 38)) := by
  have hc := fun j => cell_of_row _ w.heap.size j _ 38 (0, 0) (heap_alloc_new w (.cells #[.int .i64 kind, .int .i64 n, .int .i64 number, Vk, Vx] 38))
  exact ⟨by rw [hc 1]; rfl, by rw [hc 2]; rfl, by rw [hc 3]; rfl, by rw [hc 4]; rfl, (h.locNew KP KR _).1⟩
end

set_option maxHeartbeats 4000000 in
set_option maxRecDepth 20000 in
theorem does_deriveNo {M : Mod} {O Q : Ob M} {B P G R : Nat} (KP : ProgOk M B O) (KR : RefOk M B Q) (w : World) (F F2 : Nat → Prop) (st : M.σ) (i : Nat) (h : Two M O Q B P G R w F F2 st st) (hi : M.num st i) (hi2 : i ≤ 190) (n number : Int) (Ak : Option Addr) (nk ck : Nat) (key : List UInt8) (Ax1 : Option Addr) (nx cx : Nat) (X : List UInt8) (hk : Rd w B Ak key) (hkl : key.length = nk) (hkc : nk ≤ ck) (hk2 : nk ≤ 100) (hx : Rd w B Ax1 X) (hxl : X.length = nx) (hxc : nx ≤ cx) (hx2 : nx ≤ 1100) (hn1 : -9223372036854775808 ≤ n) (hn2 : n < 9223372036854775808) (hn : n < 0 ∨ 16320 < n) :
    Calls Tryz.prog 8 #[.pointer (some ⟨P, 0, none⟩), .agg #[.int .i64 1, .int .i64 n, .int .i64 number, .slice Ak nk ck, .slice Ax1 nx cx]] w (Does M O Q B P G R w st) := by
  obtain ⟨ctx, hctx⟩ : ∃ c : UInt8, IntKind.u8.wrap number = (c.toNat : Int) := byte_of number
  have H0 := Lib.hid h
  have HI := Lib.hid hi
  have HBw := Lib.hid h.bw
  have HK := Lib.hid hk
  have HX := Lib.hid hx
  have HKl := Lib.hid hkl
  have HXl := Lib.hid hxl
  have AA := Lib.hid (h.act KP.toKept KR.toKept (n := n) (number := number) (Vk := .slice Ak nk ck) (Vx := .slice Ax1 nx cx) 1)
  have TA := Lib.hid (h.grow KP.toKept KR.toKept (alloc_below w (.cells #[.int .i64 1, .int .i64 n, .int .i64 number, .slice Ak nk ck, .slice Ax1 nx cx] 38)))
  have GA := Lib.hid (alloc_below w (.cells #[.int .i64 1, .int .i64 n, .int .i64 number, .slice Ak nk ck, .slice Ax1 nx cx] 38))
  clear h hi hk hx hkl hxl
  go_enter Tryz.func8, Tryz.ntmps8
  go_wp2_with fail
  obtain ⟨ba, hba⟩ : ∃ ba, ba = w.heap.size := ⟨_, rfl⟩
  rw [← hba] at AA ⊢
  generalize w.alloc _ = wa at TA GA AA ⊢
  have HBa := Lib.hid hba
  have KA := Lib.hid (HK.out.below (Below.mono GA.out HBw.out))
  have XA := Lib.hid (HX.out.below (Below.mono GA.out HBw.out))
  have CA := Lib.hid (show Below B w wa from Below.mono GA.out HBw.out)
  clear H0 HK HX GA hba
  try simp only [Act.put, List.setIfInBounds_toArray, List.set_cons_zero, List.set_cons_succ]
  refine restS_begin (Fx P G R ba n number (.slice Ak nk ck) (.slice Ax1 nx cx)) (by kernel_rfl) ?_
  have T0 := Lib.hid (TA.out.grow KP.toKept KR.toKept (show Grown wa wa.drew from (Below.refl _ wa).drew))
  have A0 := Lib.hid (AA.out.grow (show Grown wa wa.drew from (Below.refl _ wa).drew))
  have K0 := Lib.hid (show Rd wa.drew B Ak key from KA.out)
  have X0 := Lib.hid (show Rd wa.drew B Ax1 X from XA.out)
  have C0 := Lib.hid (show Below B w wa.drew from CA.out.drew)
  clear TA AA KA XA CA
  generalize wa.drew = w0 at T0 A0 K0 X0 C0 ⊢
  have S0 := Lib.hid (T0.out.fx A0.out)
  refine restS_take (i := 0) S0.out rfl (by kernel_rfl) (by kernel_rfl) (by kernel_rfl) (by rfl) (fun v hv => by obtain ⟨v1, v2, v3, v4, v5, v6⟩ := hv; go_simp; try with_reducible rfl) ?_
  try simp only [Act.put, List.setIfInBounds_toArray, List.set_cons_zero, List.set_cons_succ]
  refine restS_take (i := 1) S0.out rfl (by kernel_rfl) (by kernel_rfl) (by kernel_rfl) (by rfl) (fun v hv => by obtain ⟨v1, v2, v3, v4, v5, v6⟩ := hv; go_simp; try with_reducible rfl) ?_
  try simp only [Act.put, List.setIfInBounds_toArray, List.set_cons_zero, List.set_cons_succ]
  refine restS_take (i := 2) S0.out rfl (by kernel_rfl) (by kernel_rfl) (by kernel_rfl) (by rfl) (fun v hv => by obtain ⟨v1, v2, v3, v4, v5, v6⟩ := hv; go_simp; try with_reducible rfl) ?_
  try simp only [Act.put, List.setIfInBounds_toArray, List.set_cons_zero, List.set_cons_succ]
  refine restS_take (i := 3) S0.out rfl (by kernel_rfl) (by kernel_rfl) (by kernel_rfl) (by rfl) (fun v hv => by obtain ⟨v1, v2, v3, v4, v5, v6⟩ := hv; go_simp; try with_reducible rfl) ?_
  try simp only [Act.put, List.setIfInBounds_toArray, List.set_cons_zero, List.set_cons_succ]
  refine restS_take (i := 4) S0.out rfl (by kernel_rfl) (by kernel_rfl) (by kernel_rfl) (by rfl) (fun v hv => by obtain ⟨v1, v2, v3, v4, v5, v6⟩ := hv; go_simp; try with_reducible rfl) ?_
  try simp only [Act.put, List.setIfInBounds_toArray, List.set_cons_zero, List.set_cons_succ]
  refine restS_take (i := 5) S0.out rfl (by kernel_rfl) (by kernel_rfl) (by kernel_rfl) (by rfl) (fun v hv => by obtain ⟨v1, v2, v3, v4, v5, v6⟩ := hv; go_simp; try with_reducible rfl) ?_
  try simp only [Act.put, List.setIfInBounds_toArray, List.set_cons_zero, List.set_cons_succ]
  refine restS_take (i := 6) S0.out rfl (by kernel_rfl) (by kernel_rfl) (by kernel_rfl) (by rfl) (fun v hv => by obtain ⟨v1, v2, v3, v4, v5, v6⟩ := hv; go_simp; try with_reducible rfl) ?_
  try simp only [Act.put, List.setIfInBounds_toArray, List.set_cons_zero, List.set_cons_succ]
  refine restS_take (i := 7) S0.out rfl (by kernel_rfl) (by kernel_rfl) (by kernel_rfl) (by rfl) (fun v hv => by obtain ⟨v1, v2, v3, v4, v5, v6⟩ := hv; go_simp; try with_reducible rfl) ?_
  try simp only [Act.put, List.setIfInBounds_toArray, List.set_cons_zero, List.set_cons_succ]
  refine restS_take (i := 8) S0.out rfl (by kernel_rfl) (by kernel_rfl) (by kernel_rfl) (by rfl) (fun v hv => by obtain ⟨v1, v2, v3, v4, v5, v6⟩ := hv; go_simp; try with_reducible rfl) ?_
  try simp only [Act.put, List.setIfInBounds_toArray, List.set_cons_zero, List.set_cons_succ]
  refine restS_take (i := 9) S0.out rfl (by kernel_rfl) (by kernel_rfl) (by kernel_rfl) (by rfl) (fun v hv => by obtain ⟨v1, v2, v3, v4, v5, v6⟩ := hv; go_simp; try with_reducible rfl) ?_
  try simp only [Act.put, List.setIfInBounds_toArray, List.set_cons_zero, List.set_cons_succ]
  refine restS_take (i := 10) S0.out rfl (by kernel_rfl) (by kernel_rfl) (by kernel_rfl) (by rfl) (fun v hv => by obtain ⟨v1, v2, v3, v4, v5, v6⟩ := hv; go_simp; try with_reducible rfl) ?_
  try simp only [Act.put, List.setIfInBounds_toArray, List.set_cons_zero, List.set_cons_succ]
  refine restS_take (i := 11) S0.out rfl (by kernel_rfl) (by kernel_rfl) (by kernel_rfl) (by rfl) (fun v hv => by obtain ⟨v1, v2, v3, v4, v5, v6⟩ := hv; go_simp; try with_reducible rfl) ?_
  try simp only [Act.put, List.setIfInBounds_toArray, List.set_cons_zero, List.set_cons_succ]
  refine restS_take (i := 12) S0.out rfl (by kernel_rfl) (by kernel_rfl) (by kernel_rfl) (by rfl) (fun v hv => by obtain ⟨v1, v2, v3, v4, v5, v6⟩ := hv; go_simp; try with_reducible rfl) ?_
  try simp only [Act.put, List.setIfInBounds_toArray, List.set_cons_zero, List.set_cons_succ]
  refine restS_lone (i := 13) rfl (by kernel_rfl) (by rfl) (fun K hK => ?_)
  go_simp
  refine (KP.deriveNo w0 G F st Ak nk ck key ctx Ax1 nx cx X n T0.out.p (T0.out.besP K0.out HKl.out hkc) (by omega) (T0.out.besP X0.out HXl.out hxc) (by omega) hn1 hn2 hn).mono ?_
  rintro e w1 ⟨A3, c3, rfl, F', hO, hF', hC⟩
  have T1 := Lib.hid (T0.out.stepP KP.toKept KR.toKept hO hF' hC)
  have A1 := Lib.hid (A0.out.stepP hF' hC)
  have C1 := Lib.hid (Below.trans C0.out (ch_below hC T0.out.pB T0.out.bw))
  have S1 := Lib.hid (T1.out.fx A1.out)
  clear hO hF' hC
  refine hK.out _ _ S1.out ?_
  clear hK K
  try simp only [Act.put, List.setIfInBounds_toArray, List.set_cons_zero, List.set_cons_succ]
  refine restS_take (i := 14) S1.out rfl (by kernel_rfl) (by kernel_rfl) (by kernel_rfl) (by rfl) (fun v hv => by obtain ⟨v1, v2, v3, v4, v5, v6⟩ := hv; go_simp; try with_reducible rfl) ?_
  try simp only [Act.put, List.setIfInBounds_toArray, List.set_cons_zero, List.set_cons_succ]
  refine restS_take (i := 15) S1.out rfl (by kernel_rfl) (by kernel_rfl) (by kernel_rfl) (by rfl) (fun v hv => by obtain ⟨v1, v2, v3, v4, v5, v6⟩ := hv; go_simp; try with_reducible rfl) ?_
  try simp only [Act.put, List.setIfInBounds_toArray, List.set_cons_zero, List.set_cons_succ]
  refine restS_take (i := 16) S1.out rfl (by kernel_rfl) (by kernel_rfl) (by kernel_rfl) (by rfl) (fun v hv => by obtain ⟨v1, v2, v3, v4, v5, v6⟩ := hv; go_simp; try with_reducible rfl) ?_
  try simp only [Act.put, List.setIfInBounds_toArray, List.set_cons_zero, List.set_cons_succ]
  refine restS_take (i := 17) S1.out rfl (by kernel_rfl) (by kernel_rfl) (by kernel_rfl) (by rfl) (fun v hv => by obtain ⟨v1, v2, v3, v4, v5, v6⟩ := hv; go_simp; try with_reducible rfl) ?_
  try simp only [Act.put, List.setIfInBounds_toArray, List.set_cons_zero, List.set_cons_succ]
  refine restS_take (i := 18) S1.out rfl (by kernel_rfl) (by kernel_rfl) (by kernel_rfl) (by rfl) (fun v hv => by obtain ⟨v1, v2, v3, v4, v5, v6⟩ := hv; go_simp; try with_reducible rfl) ?_
  try simp only [Act.put, List.setIfInBounds_toArray, List.set_cons_zero, List.set_cons_succ]
  refine restS_done (by kernel_rfl) ?_
  have hc1 := A1.out.c1
  rcases hn with hn | hn
  · go_wp2_with fail
    go_ret
    exact ⟨by simp, F', F2, T1.out, C1.out⟩
  · have hn0 : ¬ n < 0 := by omega
    go_wp2_with fail
    go_ret
    exact ⟨by simp, F', F2, T1.out, C1.out⟩

set_option maxHeartbeats 4000000 in
set_option maxRecDepth 20000 in
theorem does_derive {M : Mod} {O Q : Ob M} {B P G R : Nat} (KP : ProgOk M B O) (KR : RefOk M B Q) (w : World) (F F2 : Nat → Prop) (st : M.σ) (i : Nat) (h : Two M O Q B P G R w F F2 st st) (hi : M.num st i) (hi2 : i ≤ 190) (n number : Int) (Ak : Option Addr) (nk ck : Nat) (key : List UInt8) (Ax1 : Option Addr) (nx cx : Nat) (X : List UInt8) (hk : Rd w B Ak key) (hkl : key.length = nk) (hkc : nk ≤ ck) (hk2 : nk ≤ 100) (hx : Rd w B Ax1 X) (hxl : X.length = nx) (hxc : nx ≤ cx) (hx2 : nx ≤ 1100) (hn1 : 0 ≤ n) (hn2 : n ≤ 200) :
    Calls Tryz.prog 8 #[.pointer (some ⟨P, 0, none⟩), .agg #[.int .i64 1, .int .i64 n, .int .i64 number, .slice Ak nk ck, .slice Ax1 nx cx]] w fun e w' => ∃ st', M.num st' (i + 5) ∧ Does M O Q B P G R w st' e w' := by
  obtain ⟨ctx, hctx⟩ : ∃ c : UInt8, IntKind.u8.wrap number = (c.toNat : Int) := byte_of number
  obtain ⟨m, rfl⟩ : ∃ m : Nat, n = m := ⟨n.toNat, by omega⟩
  have hm : m ≤ 200 := by omega
  have H0 := Lib.hid h
  have HI := Lib.hid hi
  have HBw := Lib.hid h.bw
  have HK := Lib.hid hk
  have HX := Lib.hid hx
  have HKl := Lib.hid hkl
  have HXl := Lib.hid hxl
  have AA := Lib.hid (h.act KP.toKept KR.toKept (n := (m : Int)) (number := number) (Vk := .slice Ak nk ck) (Vx := .slice Ax1 nx cx) 1)
  have TA := Lib.hid (h.grow KP.toKept KR.toKept (alloc_below w (.cells #[.int .i64 1, .int .i64 (m : Int), .int .i64 number, .slice Ak nk ck, .slice Ax1 nx cx] 38)))
  have GA := Lib.hid (alloc_below w (.cells #[.int .i64 1, .int .i64 (m : Int), .int .i64 number, .slice Ak nk ck, .slice Ax1 nx cx] 38))
  clear h hi hk hx hkl hxl
  go_enter Tryz.func8, Tryz.ntmps8
  go_wp2_with fail
  obtain ⟨ba, hba⟩ : ∃ ba, ba = w.heap.size := ⟨_, rfl⟩
  rw [← hba] at AA ⊢
  generalize w.alloc _ = wa at TA GA AA ⊢
  have HBa := Lib.hid hba
  have KA := Lib.hid (HK.out.below (Below.mono GA.out HBw.out))
  have XA := Lib.hid (HX.out.below (Below.mono GA.out HBw.out))
  have CA := Lib.hid (show Below B w wa from Below.mono GA.out HBw.out)
  clear H0 HK HX GA hba
  try simp only [Act.put, List.setIfInBounds_toArray, List.set_cons_zero, List.set_cons_succ]
  refine restS_begin (Fx P G R ba (m : Int) number (.slice Ak nk ck) (.slice Ax1 nx cx)) (by kernel_rfl) ?_
  have T0 := Lib.hid (TA.out.grow KP.toKept KR.toKept (show Grown wa wa.drew from (Below.refl _ wa).drew))
  have A0 := Lib.hid (AA.out.grow (show Grown wa wa.drew from (Below.refl _ wa).drew))
  have K0 := Lib.hid (show Rd wa.drew B Ak key from KA.out)
  have X0 := Lib.hid (show Rd wa.drew B Ax1 X from XA.out)
  have C0 := Lib.hid (show Below B w wa.drew from CA.out.drew)
  clear TA AA KA XA CA
  generalize wa.drew = w0 at T0 A0 K0 X0 C0 ⊢
  have S0 := Lib.hid (T0.out.fx A0.out)
  refine restS_take (i := 0) S0.out rfl (by kernel_rfl) (by kernel_rfl) (by kernel_rfl) (by rfl) (fun v hv => by obtain ⟨v1, v2, v3, v4, v5, v6⟩ := hv; go_simp; try with_reducible rfl) ?_
  try simp only [Act.put, List.setIfInBounds_toArray, List.set_cons_zero, List.set_cons_succ]
  refine restS_take (i := 1) S0.out rfl (by kernel_rfl) (by kernel_rfl) (by kernel_rfl) (by rfl) (fun v hv => by obtain ⟨v1, v2, v3, v4, v5, v6⟩ := hv; go_simp; try with_reducible rfl) ?_
  try simp only [Act.put, List.setIfInBounds_toArray, List.set_cons_zero, List.set_cons_succ]
  refine restS_take (i := 2) S0.out rfl (by kernel_rfl) (by kernel_rfl) (by kernel_rfl) (by rfl) (fun v hv => by obtain ⟨v1, v2, v3, v4, v5, v6⟩ := hv; go_simp; try with_reducible rfl) ?_
  try simp only [Act.put, List.setIfInBounds_toArray, List.set_cons_zero, List.set_cons_succ]
  refine restS_take (i := 3) S0.out rfl (by kernel_rfl) (by kernel_rfl) (by kernel_rfl) (by rfl) (fun v hv => by obtain ⟨v1, v2, v3, v4, v5, v6⟩ := hv; go_simp; try with_reducible rfl) ?_
  try simp only [Act.put, List.setIfInBounds_toArray, List.set_cons_zero, List.set_cons_succ]
  refine restS_take (i := 4) S0.out rfl (by kernel_rfl) (by kernel_rfl) (by kernel_rfl) (by rfl) (fun v hv => by obtain ⟨v1, v2, v3, v4, v5, v6⟩ := hv; go_simp; try with_reducible rfl) ?_
  try simp only [Act.put, List.setIfInBounds_toArray, List.set_cons_zero, List.set_cons_succ]
  refine restS_take (i := 5) S0.out rfl (by kernel_rfl) (by kernel_rfl) (by kernel_rfl) (by rfl) (fun v hv => by obtain ⟨v1, v2, v3, v4, v5, v6⟩ := hv; go_simp; try with_reducible rfl) ?_
  try simp only [Act.put, List.setIfInBounds_toArray, List.set_cons_zero, List.set_cons_succ]
  refine restS_take (i := 6) S0.out rfl (by kernel_rfl) (by kernel_rfl) (by kernel_rfl) (by rfl) (fun v hv => by obtain ⟨v1, v2, v3, v4, v5, v6⟩ := hv; go_simp; try with_reducible rfl) ?_
  try simp only [Act.put, List.setIfInBounds_toArray, List.set_cons_zero, List.set_cons_succ]
  refine restS_take (i := 7) S0.out rfl (by kernel_rfl) (by kernel_rfl) (by kernel_rfl) (by rfl) (fun v hv => by obtain ⟨v1, v2, v3, v4, v5, v6⟩ := hv; go_simp; try with_reducible rfl) ?_
  try simp only [Act.put, List.setIfInBounds_toArray, List.set_cons_zero, List.set_cons_succ]
  refine restS_take (i := 8) S0.out rfl (by kernel_rfl) (by kernel_rfl) (by kernel_rfl) (by rfl) (fun v hv => by obtain ⟨v1, v2, v3, v4, v5, v6⟩ := hv; go_simp; try with_reducible rfl) ?_
  try simp only [Act.put, List.setIfInBounds_toArray, List.set_cons_zero, List.set_cons_succ]
  refine restS_take (i := 9) S0.out rfl (by kernel_rfl) (by kernel_rfl) (by kernel_rfl) (by rfl) (fun v hv => by obtain ⟨v1, v2, v3, v4, v5, v6⟩ := hv; go_simp; try with_reducible rfl) ?_
  try simp only [Act.put, List.setIfInBounds_toArray, List.set_cons_zero, List.set_cons_succ]
  refine restS_take (i := 10) S0.out rfl (by kernel_rfl) (by kernel_rfl) (by kernel_rfl) (by rfl) (fun v hv => by obtain ⟨v1, v2, v3, v4, v5, v6⟩ := hv; go_simp; try with_reducible rfl) ?_
  try simp only [Act.put, List.setIfInBounds_toArray, List.set_cons_zero, List.set_cons_succ]
  refine restS_take (i := 11) S0.out rfl (by kernel_rfl) (by kernel_rfl) (by kernel_rfl) (by rfl) (fun v hv => by obtain ⟨v1, v2, v3, v4, v5, v6⟩ := hv; go_simp; try with_reducible rfl) ?_
  try simp only [Act.put, List.setIfInBounds_toArray, List.set_cons_zero, List.set_cons_succ]
  refine restS_take (i := 12) S0.out rfl (by kernel_rfl) (by kernel_rfl) (by kernel_rfl) (by rfl) (fun v hv => by obtain ⟨v1, v2, v3, v4, v5, v6⟩ := hv; go_simp; try with_reducible rfl) ?_
  try simp only [Act.put, List.setIfInBounds_toArray, List.set_cons_zero, List.set_cons_succ]
  refine restS_lone (i := 13) rfl (by kernel_rfl) (by rfl) (fun K hK => ?_)
  go_simp
  refine (KP.derive w0 G F st i Ak nk ck key ctx Ax1 nx cx X m T0.out.p HI.out (by omega) (T0.out.besP K0.out HKl.out hkc) (by omega) (T0.out.besP X0.out HXl.out hxc) (by omega) hm).mono ?_
  rintro e w1 ⟨A3, c3, rfl, hc3, hr3, hnw3, F', hO, hF', hC, _⟩
  obtain ⟨Y, hY⟩ : ∃ Y, Y = (M.derive st key ctx X m).1 := ⟨_, rfl⟩
  obtain ⟨st', hst'⟩ : ∃ s, s = (M.derive st key ctx X m).2 := ⟨_, rfl⟩
  rw [← hst'] at hO
  rw [← hY] at hr3
  have HY := Lib.hid hY
  have HS := Lib.hid hst'
  have HYl := Lib.hid (show Y.length = m by rw [hY]; exact M.derive_len HI.out hi2 key ctx X m hm)
  have HNm := Lib.hid (show M.num st' (i + 5) by rw [hst']; exact M.derive_num HI.out hi2 key ctx X m hm)
  have T1 := Lib.hid (T0.out.stepP KP.toKept KR.toKept hO hF' hC)
  have A1 := Lib.hid (A0.out.stepP hF' hC)
  have C1 := Lib.hid (Below.trans C0.out (ch_below hC T0.out.pB T0.out.bw))
  have K1 := Lib.hid (K0.out.below (ch_below hC T0.out.pB T0.out.bw))
  have X1 := Lib.hid (X0.out.below (ch_below hC T0.out.pB T0.out.bw))
  have S1 := Lib.hid (T1.out.fx A1.out)
  have R3 := Lib.hid hr3
  have O3 := Lib.hid (show Off F2 A3 Y from fun x hx _ hf => by
    have h1 := hnw3 x hx
    have h2 := KR.foot w0 R F2 st T0.out.r _ hf
    omega)
  clear hO hF' hC hY hst' hr3 hnw3
  refine hK.out _ _ S1.out ?_
  clear hK K
  try simp only [Act.put, List.setIfInBounds_toArray, List.set_cons_zero, List.set_cons_succ]
  refine restS_take (i := 14) S1.out rfl (by kernel_rfl) (by kernel_rfl) (by kernel_rfl) (by rfl) (fun v hv => by obtain ⟨v1, v2, v3, v4, v5, v6⟩ := hv; go_simp; try with_reducible rfl) ?_
  try simp only [Act.put, List.setIfInBounds_toArray, List.set_cons_zero, List.set_cons_succ]
  refine restS_take (i := 15) S1.out rfl (by kernel_rfl) (by kernel_rfl) (by kernel_rfl) (by rfl) (fun v hv => by obtain ⟨v1, v2, v3, v4, v5, v6⟩ := hv; go_simp; try with_reducible rfl) ?_
  try simp only [Act.put, List.setIfInBounds_toArray, List.set_cons_zero, List.set_cons_succ]
  refine restS_take (i := 16) S1.out rfl (by kernel_rfl) (by kernel_rfl) (by kernel_rfl) (by rfl) (fun v hv => by obtain ⟨v1, v2, v3, v4, v5, v6⟩ := hv; go_simp; try with_reducible rfl) ?_
  try simp only [Act.put, List.setIfInBounds_toArray, List.set_cons_zero, List.set_cons_succ]
  refine restS_take (i := 17) S1.out rfl (by kernel_rfl) (by kernel_rfl) (by kernel_rfl) (by rfl) (fun v hv => by obtain ⟨v1, v2, v3, v4, v5, v6⟩ := hv; go_simp; try with_reducible rfl) ?_
  try simp only [Act.put, List.setIfInBounds_toArray, List.set_cons_zero, List.set_cons_succ]
  refine restS_take (i := 18) S1.out rfl (by kernel_rfl) (by kernel_rfl) (by kernel_rfl) (by rfl) (fun v hv => by obtain ⟨v1, v2, v3, v4, v5, v6⟩ := hv; go_simp; try with_reducible rfl) ?_
  try simp only [Act.put, List.setIfInBounds_toArray, List.set_cons_zero, List.set_cons_succ]
  refine restS_done (by kernel_rfl) ?_
  have hc1 := A1.out.c1
  have hnn : ¬ (m : Int) < 0 := by omega
  have hn3 : ¬ (16320 : Int) < (m : Int) := by omega
  go_wp2_with fail
  clear hc1
  obtain ⟨SY, hSY⟩ : ∃ S : ByteArray, S = ⟨Y.toArray⟩ := ⟨_, rfl⟩
  have HSY := Lib.hid hSY
  clear hSY
  have HCv := Lib.hid (show ∀ v, Ch F2 w1 v → (convert 22 9 (.slice A3 m c3)).run Tryz.prog v = .ok (.string SY) v from fun v hv => by
    have := conv (rd_ch R3.out O3.out hv) c3
    rw [HYl.out] at this
    rw [HSY.out]; exact this)
  try simp only [Act.put, List.setIfInBounds_toArray, List.set_cons_zero, List.set_cons_succ]
  refine restS_begin (fun v : World => Fx P G R ba (m : Int) number (.slice Ak nk ck) (.slice Ax1 nx cx) v ∧ (convert 22 9 (.slice A3 m c3)).run Tryz.prog v = .ok (.string SY) v) (by kernel_rfl) ?_
  have GD := Lib.hid (show Grown w1 w1.drew from (Below.refl _ w1).drew)
  have T2 := Lib.hid (T1.out.grow KP.toKept KR.toKept GD.out)
  have A2 := Lib.hid (A1.out.grow GD.out)
  have K2 := Lib.hid (show Rd w1.drew B Ak key from K1.out)
  have X2 := Lib.hid (show Rd w1.drew B Ax1 X from X1.out)
  have C2 := Lib.hid (show Below B w w1.drew from C1.out.drew)
  generalize w1.drew = w2 at GD T2 A2 K2 X2 C2 ⊢
  have S2 := Lib.hid (show Fx P G R ba (m : Int) number (.slice Ak nk ck) (.slice Ax1 nx cx) w2 ∧ (convert 22 9 (.slice A3 m c3)).run Tryz.prog w2 = .ok (.string SY) w2 from ⟨T2.out.fx A2.out, HCv.out w2 (Ch.grown GD.out)⟩)
  clear T1 A1 K1 X1 C1 S1
  refine restS_take (i := 0) S2.out rfl (by kernel_rfl) (by kernel_rfl) (by kernel_rfl) (by rfl) (fun v hv => by obtain ⟨⟨v1, v2, v3, v4, v5, v6⟩, v7⟩ := hv; go_simp; try with_reducible rfl) ?_
  try simp only [Act.put, List.setIfInBounds_toArray, List.set_cons_zero, List.set_cons_succ]
  refine restS_take (i := 1) S2.out rfl (by kernel_rfl) (by kernel_rfl) (by kernel_rfl) (by rfl) (fun v hv => by obtain ⟨⟨v1, v2, v3, v4, v5, v6⟩, v7⟩ := hv; go_simp; try with_reducible rfl) ?_
  try simp only [Act.put, List.setIfInBounds_toArray, List.set_cons_zero, List.set_cons_succ]
  refine restS_take (i := 2) S2.out rfl (by kernel_rfl) (by kernel_rfl) (by kernel_rfl) (by rfl) (fun v hv => by obtain ⟨⟨v1, v2, v3, v4, v5, v6⟩, v7⟩ := hv; go_simp; try with_reducible rfl) ?_
  try simp only [Act.put, List.setIfInBounds_toArray, List.set_cons_zero, List.set_cons_succ]
  refine restS_take (i := 3) S2.out rfl (by kernel_rfl) (by kernel_rfl) (by kernel_rfl) (by rfl) (fun v hv => by obtain ⟨⟨v1, v2, v3, v4, v5, v6⟩, v7⟩ := hv; go_simp; try with_reducible rfl) ?_
  try simp only [Act.put, List.setIfInBounds_toArray, List.set_cons_zero, List.set_cons_succ]
  refine restS_take (i := 4) S2.out rfl (by kernel_rfl) (by kernel_rfl) (by kernel_rfl) (by rfl) (fun v hv => by obtain ⟨⟨v1, v2, v3, v4, v5, v6⟩, v7⟩ := hv; go_simp; try with_reducible rfl) ?_
  try simp only [Act.put, List.setIfInBounds_toArray, List.set_cons_zero, List.set_cons_succ]
  refine restS_take (i := 5) S2.out rfl (by kernel_rfl) (by kernel_rfl) (by kernel_rfl) (by rfl) (fun v hv => by obtain ⟨⟨v1, v2, v3, v4, v5, v6⟩, v7⟩ := hv; go_simp; try with_reducible rfl) ?_
  try simp only [Act.put, List.setIfInBounds_toArray, List.set_cons_zero, List.set_cons_succ]
  refine restS_take (i := 6) S2.out rfl (by kernel_rfl) (by kernel_rfl) (by kernel_rfl) (by rfl) (fun v hv => by obtain ⟨⟨v1, v2, v3, v4, v5, v6⟩, v7⟩ := hv; go_simp; try with_reducible rfl) ?_
  try simp only [Act.put, List.setIfInBounds_toArray, List.set_cons_zero, List.set_cons_succ]
  refine restS_take (i := 7) S2.out rfl (by kernel_rfl) (by kernel_rfl) (by kernel_rfl) (by rfl) (fun v hv => by obtain ⟨⟨v1, v2, v3, v4, v5, v6⟩, v7⟩ := hv; go_simp; try with_reducible rfl) ?_
  try simp only [Act.put, List.setIfInBounds_toArray, List.set_cons_zero, List.set_cons_succ]
  refine restS_take (i := 8) S2.out rfl (by kernel_rfl) (by kernel_rfl) (by kernel_rfl) (by rfl) (fun v hv => by obtain ⟨⟨v1, v2, v3, v4, v5, v6⟩, v7⟩ := hv; go_simp; try with_reducible rfl) ?_
  try simp only [Act.put, List.setIfInBounds_toArray, List.set_cons_zero, List.set_cons_succ]
  refine restS_take (i := 9) S2.out rfl (by kernel_rfl) (by kernel_rfl) (by kernel_rfl) (by rfl) (fun v hv => by obtain ⟨⟨v1, v2, v3, v4, v5, v6⟩, v7⟩ := hv; go_simp; try with_reducible rfl) ?_
  try simp only [Act.put, List.setIfInBounds_toArray, List.set_cons_zero, List.set_cons_succ]
  refine restS_take (i := 10) S2.out rfl (by kernel_rfl) (by kernel_rfl) (by kernel_rfl) (by rfl) (fun v hv => by obtain ⟨⟨v1, v2, v3, v4, v5, v6⟩, v7⟩ := hv; go_simp; try with_reducible rfl) ?_
  try simp only [Act.put, List.setIfInBounds_toArray, List.set_cons_zero, List.set_cons_succ]
  refine restS_take (i := 11) S2.out rfl (by kernel_rfl) (by kernel_rfl) (by kernel_rfl) (by rfl) (fun v hv => by obtain ⟨⟨v1, v2, v3, v4, v5, v6⟩, v7⟩ := hv; go_simp; try with_reducible rfl) ?_
  try simp only [Act.put, List.setIfInBounds_toArray, List.set_cons_zero, List.set_cons_succ]
  refine restS_take (i := 12) S2.out rfl (by kernel_rfl) (by kernel_rfl) (by kernel_rfl) (by rfl) (fun v hv => by obtain ⟨⟨v1, v2, v3, v4, v5, v6⟩, v7⟩ := hv; go_simp; try with_reducible rfl) ?_
  try simp only [Act.put, List.setIfInBounds_toArray, List.set_cons_zero, List.set_cons_succ]
  refine restS_take (i := 13) S2.out rfl (by kernel_rfl) (by kernel_rfl) (by kernel_rfl) (by rfl) (fun v hv => by obtain ⟨⟨v1, v2, v3, v4, v5, v6⟩, v7⟩ := hv; go_simp; try with_reducible rfl) ?_
  try simp only [Act.put, List.setIfInBounds_toArray, List.set_cons_zero, List.set_cons_succ]
  refine restS_take (i := 14) S2.out rfl (by kernel_rfl) (by kernel_rfl) (by kernel_rfl) (by rfl) (fun v hv => by obtain ⟨⟨v1, v2, v3, v4, v5, v6⟩, v7⟩ := hv; go_simp; try with_reducible rfl) ?_
  try simp only [Act.put, List.setIfInBounds_toArray, List.set_cons_zero, List.set_cons_succ]
  refine restS_take (i := 15) S2.out rfl (by kernel_rfl) (by kernel_rfl) (by kernel_rfl) (by rfl) (fun v hv => by obtain ⟨⟨v1, v2, v3, v4, v5, v6⟩, v7⟩ := hv; go_simp; try with_reducible rfl) ?_
  try simp only [Act.put, List.setIfInBounds_toArray, List.set_cons_zero, List.set_cons_succ]
  refine restS_take (i := 16) S2.out rfl (by kernel_rfl) (by kernel_rfl) (by kernel_rfl) (by rfl) (fun v hv => by obtain ⟨⟨v1, v2, v3, v4, v5, v6⟩, v7⟩ := hv; go_simp; try with_reducible rfl) ?_
  try simp only [Act.put, List.setIfInBounds_toArray, List.set_cons_zero, List.set_cons_succ]
  refine restS_lone (i := 17) rfl (by kernel_rfl) (by rfl) (fun K hK => ?_)
  go_simp
  refine (refDerive_any KR w2 R F2 st i Ak nk ck key ctx Ax1 nx cx X m T2.out.bw T2.out.r HI.out hi2 (T2.out.besR K2.out HKl.out hkc) (by omega) (T2.out.besR X2.out HXl.out hxc) (by omega) hm).mono ?_
  rintro e w5 ⟨rfl, F5, hO, hF5, hC⟩
  rw [← HS.out] at hO
  have T5 := Lib.hid (T2.out.stepR KP.toKept KR.toKept hO hF5 hC)
  have A5 := Lib.hid (A2.out.stepR hF5 hC)
  have C5 := Lib.hid (Below.trans C2.out (ch_below hC T2.out.rB T2.out.bw))
  have S5 := Lib.hid (show Fx P G R ba (m : Int) number (.slice Ak nk ck) (.slice Ax1 nx cx) w5 ∧ (convert 22 9 (.slice A3 m c3)).run Tryz.prog w5 = .ok (.string SY) w5 from ⟨T5.out.fx A5.out, HCv.out w5 (Ch.trans (Ch.grown GD.out) hC)⟩)
  clear hO hF5 hC
  rw [← HY.out, ← HSY.out]
  refine hK.out _ _ S5.out ?_
  clear hK K
  try simp only [Act.put, List.setIfInBounds_toArray, List.set_cons_zero, List.set_cons_succ]
  refine restS_take (i := 18) S5.out rfl (by kernel_rfl) (by kernel_rfl) (by kernel_rfl) (by rfl) (fun v hv => by obtain ⟨⟨v1, v2, v3, v4, v5, v6⟩, v7⟩ := hv; go_simp; try with_reducible rfl) ?_
  try simp only [Act.put, List.setIfInBounds_toArray, List.set_cons_zero, List.set_cons_succ]
  refine restS_take (i := 19) S5.out rfl (by kernel_rfl) (by kernel_rfl) (by kernel_rfl) (by rfl) (fun v hv => by obtain ⟨⟨v1, v2, v3, v4, v5, v6⟩, v7⟩ := hv; go_simp; try with_reducible rfl) ?_
  try simp only [Act.put, List.setIfInBounds_toArray, List.set_cons_zero, List.set_cons_succ]
  refine restS_take (i := 20) S5.out rfl (by kernel_rfl) (by kernel_rfl) (by kernel_rfl) (by rfl) (fun v hv => by obtain ⟨⟨v1, v2, v3, v4, v5, v6⟩, v7⟩ := hv; go_simp; try with_reducible rfl) ?_
  try simp only [Act.put, List.setIfInBounds_toArray, List.set_cons_zero, List.set_cons_succ]
  refine restS_done (by kernel_rfl) ?_
  go_wp2_with fail
  go_ret
  exact ⟨st', HNm.out, by simp, F', F5, T5.out, C5.out⟩
end Go.Proofs.YtjklgmhaebjjaaaGreat.S12
namespace Go.Proofs.YtjklgmhaebjjaaaGreat.S12
open S11
open Go.RowKit
set_option linter.unusedVariables false
set_option linter.unusedSimpArgs false

theorem ne_of16 {b : List UInt8} {n : Nat} (h : b.length = n) (hn : 16 ≤ n) : b ≠ [] := by
  intro e
  rw [e] at h
  simp at h
  omega
/-- May it be a unit? -/
def rightB (nk : Nat) (number : Int) (nx : Nat) : Bool := decide (nk = 64 ∧ 0 ≤ number ∧ 16 ≤ nx ∧ nx ≤ 1024 ∧ nx % 16 = 0)
theorem refRight_any (Ak : Option Addr) (nk ck : Nat) (number : Int) (Ax1 : Option Addr) (nx cx : Nat) (w : World) (h1 : nk ≤ 100) (h2 : nx ≤ 1100) :
    Calls Tryz.prog 22 #[.slice Ak nk ck, .int .i64 number, .slice Ax1 nx cx] w fun e w' => e = .returned (.bool (rightB nk number nx)) ∧ w' = w := by
  by_cases e1 : nk = 64
  · subst e1
    by_cases e2 : 0 ≤ number
    · by_cases e3 : 16 ≤ nx
      · have b3 : (16 : Int) ≤ (nx : Int) := by omega
        by_cases e4 : nx ≤ 1024
        · have b4 : (nx : Int) ≤ 1024 := by omega
          have e : rightB 64 number nx = decide ((nx : Int) % 16 = 0) := by
            unfold rightB
            exact decide_eq_decide.2 (by omega)
          by_cases e5 : nx % 16 = 0
          · have b5 : ((nx : Int) % 16 == 0) = true := by simp; omega
            have HE := Lib.hid (show rightB 64 number nx = true by rw [e]; exact decide_eq_true (by omega))
            clear e
            go_enter Tryz.func22, Tryz.ntmps22
            go_wp2
            go_ret
            rw [HE.out]
            exact ⟨by simp, rfl⟩
          · have b5 : ((nx : Int) % 16 == 0) = false := beq_eq_false_iff_ne.2 (by omega)
            have HE := Lib.hid (show rightB 64 number nx = false by rw [e]; exact decide_eq_false (by omega))
            clear e
            go_enter Tryz.func22, Tryz.ntmps22
            go_wp2
            go_ret
            rw [HE.out]
            exact ⟨by simp, rfl⟩
        · have b4 : ¬ (nx : Int) ≤ 1024 := by omega
          have HE := Lib.hid (show rightB 64 number nx = false from decide_eq_false (by omega))
          go_enter Tryz.func22, Tryz.ntmps22
          go_wp2
          go_ret
          rw [HE.out]
          exact ⟨rfl, rfl⟩
      · have b3 : ¬ (16 : Int) ≤ (nx : Int) := by omega
        have HE := Lib.hid (show rightB 64 number nx = false from decide_eq_false (by omega))
        go_enter Tryz.func22, Tryz.ntmps22
        go_wp2
        go_ret
        rw [HE.out]
        exact ⟨rfl, rfl⟩
    · have HE := Lib.hid (show rightB 64 number nx = false from decide_eq_false (by omega))
      go_enter Tryz.func22, Tryz.ntmps22
      go_wp2
      go_ret
      rw [HE.out]
      exact ⟨rfl, rfl⟩
  · have b1 : ((nk : Int) == 64) = false := beq_eq_false_iff_ne.2 (by omega)
    have HE := Lib.hid (show rightB nk number nx = false from decide_eq_false (by omega))
    go_enter Tryz.func22, Tryz.ntmps22
    go_wp2
    go_ret
    rw [HE.out]
    exact ⟨rfl, rfl⟩
end Go.Proofs.YtjklgmhaebjjaaaGreat.S12
