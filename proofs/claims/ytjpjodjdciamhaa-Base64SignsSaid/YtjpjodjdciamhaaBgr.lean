/-
  Contract of base64's groupOf, for two, three and four characters.
-/
import Derived.Test.YtjpjodjdciamhaaBag
import Derived.Laws.Externs
import Derived.Laws.ResultCell
namespace Go.Proofs.Ytjpjodjdciamhaa
open Go.RowKit
set_option linter.unusedVariables false
set_option linter.unusedSimpArgs false

theorem first_all64 : ∀ n : Fin 256, firstIdx abc (UInt8.ofNat n.1) = ixS (UInt8.ofNat n.1) := by decide +kernel
theorem first_ixS (c : UInt8) : firstIdx abc c = ixS c := by
  have := first_all64 ⟨c.toNat, u8_lt c⟩
  simpa using this
theorem ext_abc (c : UInt8) (W : World) : (callFunc 19 #[.string abc, .int .u8 (c.toNat : Int)]).run Try.prog W = .ok (.value (.int .i64 (ixS c))) W := by
  rw [run_callFunc_extern (fn := Try.f19) (e := Extern.BytealgIndexByte.indexByte) Try.func19 (by kernel_rfl) (by kernel_rfl) (by kernel_rfl) (by kernel_rfl), run_indexByte_string]
  have h1 : firstIdx abc (((c.toNat : Int)).toNat.toUInt8) = ixS c := by
    rw [← first_ixS]
    simp
  rw [h1]
  rfl
set_option maxHeartbeats 400000 in
theorem index_abc (c : UInt8) (w : World) : Calls Try.prog 17 #[.string abc, .int .u8 (c.toNat : Int)] w fun e w' => e = .returned (.int .i64 (ixS c)) ∧ w = w' := by
  have hx := fun W => ext_abc c W
  go_enter Try.func17, Try.ntmps17
  go_wp2
  go_ret
  exact ⟨rfl, rfl⟩
theorem ixs2 (s : List UInt8) (i : Nat) (hi : i < s.length) (W : World) : (Instr.index 9 (.string { data := s.toArray }) (.int .i64 (i : Int))).run Try.prog W = .ok (.int .u8 ((s.getD i 0).toNat : Int)) W := by
  rw [run_index_string W 9 _ .i64 (i : Int) Try.underlying9]
  have h1 : 0 ≤ (i : Int) ∧ (i : Int) < ((⟨s.toArray⟩ : ByteArray).size : Int) := ⟨by omega, by show (i : Int) < ((s.toArray).size : Int); simp; omega⟩
  rw [dif_pos h1]
  have e : s.getD i 0 = s[i] := by simp [hi]
  rw [e]
  rfl
theorem or_to (a b : Nat) (k : Nat) (ha : a % 2 ^ k = 0) (hb : b < 2 ^ k) (h : a + b < 9223372036854775808) : bits .or .i64 (a : Int) (b : Int) = ((a + b : Nat) : Int) := by
  rw [bits_or_i64 _ _ (by omega) (by omega), nat_join k a b ha hb]
theorem info35 : (Try.prog.info? 35).map (·.size) = some 3 := by kernel_rfl
theorem under35 : Try.prog.underlying 35 = some (.array 3 5) := by kernel_rfl
def IsZ (x : UInt8) : Prop := (x.toNat : Int) = 0
theorem toNat_small (n : Nat) (h : n < 256) : (UInt8.ofNat n).toNat = n := by rw [UInt8.toNat_ofNat']; omega
theorem old_block (w : World) (o o2 : Obj) : ((w.alloc o).alloc o2).heap[w.heap.size]? = some o := (Below.heap_alloc _ o2 _ (by simp)).trans (heap_alloc_new w o)
theorem two_below (w : World) (o o2 : Obj) : Below w.heap.size w ((w.alloc o).alloc o2) := ((Below.refl _ _).alloc (Nat.le_refl _) _).alloc (by simp) _
/-- groupOf's return: the group lies in a block of its own. -/
theorem ret_grp {R : Ending → World → Prop} {tm : Array Value} {W : World} {g : Nat} {cs : Array Value} {b : Bool} (hp : tm.getD 2 undef = .pointer (some ⟨g, 0, none⟩)) (hb : tm.getD 3 undef = .bool b)
    (hg : W.heap[g]? = some (.cells cs 35 (0, 0))) (hc : cs.size = 3) (h : R (.returned (.tuple #[.agg cs, .bool b])) W) : bodyPost Try.prog Try.f15 R .ret { tmps := tm, defers := [] } W := by
  refine bodyPost_ret (v := .tuple #[.agg cs, .bool b]) ?_ rfl h
  rw [results_cell_tmp (p := 2) (u := 3) (ty := 35) rfl, hp, hb]
  have hl := run_loadVar_row (P := Try.prog) W g 35 35 cs (0, 0) (.array 3 5) hg under35 (by rfl) (by rw [info35, hc])
  simp [asAddr, hl]
/-- What groupOf says of s. -/
def Grp (w : World) (s : List UInt8) (e : Ending) (w' : World) : Prop :=
  (Dec s ∧ ∃ x y z : UInt8, e = .returned (.tuple #[.agg #[.int .u8 (x.toNat : Int), .int .u8 (y.toNat : Int), .int .u8 (z.toNat : Int)], .bool true]) ∧ [x, y, z].take (s.length - 1) = outL s ∧ Below w.heap.size w w') ∨
  (¬ Dec s ∧ e = .returned (.tuple #[.agg #[.int .u8 0, .int .u8 0, .int .u8 0], .bool false]) ∧ Below w.heap.size w w')

set_option maxHeartbeats 4000000 in
theorem grp4 (c0 c1 c2 c3 : UInt8) (w : World) : Calls Try.prog 15 #[.string { data := #[c0, c1, c2, c3] }] w (Grp w [c0, c1, c2, c3]) := by
  obtain ⟨n0, hn0⟩ : ∃ n0 : Nat, n0 = nb c0 := ⟨_, rfl⟩
  have l0 : n0 < 64 := by rw [hn0]; exact nb_lt c0
  have Hn0 := Lib.hid hn0
  clear hn0
  obtain ⟨V1, hV1⟩ : ∃ V : Nat, V = 0 + n0 * 262144 := ⟨_, rfl⟩
  have hor1 : (n0 : Int) * 262144 = (V1 : Int) := by omega
  have hor0 : bits .or .i64 0 (V1 : Int) = (V1 : Int) := by have := or_to 0 V1 24 (by omega) (by omega) (by omega); simpa using this
  have i0 : ∀ W : World, (Instr.index 9 (.string { data := #[c0, c1, c2, c3] }) (.int .i64 0)).run Try.prog W = .ok (.int .u8 (c0.toNat : Int)) W := ixs2 [c0, c1, c2, c3] 0 (by simp)
  obtain ⟨n1, hn1⟩ : ∃ n1 : Nat, n1 = nb c1 := ⟨_, rfl⟩
  have l1 : n1 < 64 := by rw [hn1]; exact nb_lt c1
  have Hn1 := Lib.hid hn1
  clear hn1
  obtain ⟨V2, hV2⟩ : ∃ V : Nat, V = V1 + n1 * 4096 := ⟨_, rfl⟩
  have hor2 : bits .or .i64 (V1 : Int) ((n1 : Int) * 4096) = (V2 : Int) := by
    have := or_to V1 (n1 * 4096) 18 (by omega) (by omega) (by omega)
    rw [hV2]
    simpa using this
  have i1 : ∀ W : World, (Instr.index 9 (.string { data := #[c0, c1, c2, c3] }) (.int .i64 1)).run Try.prog W = .ok (.int .u8 (c1.toNat : Int)) W := ixs2 [c0, c1, c2, c3] 1 (by simp)
  obtain ⟨n2, hn2⟩ : ∃ n2 : Nat, n2 = nb c2 := ⟨_, rfl⟩
  have l2 : n2 < 64 := by rw [hn2]; exact nb_lt c2
  have Hn2 := Lib.hid hn2
  clear hn2
  obtain ⟨V3, hV3⟩ : ∃ V : Nat, V = V2 + n2 * 64 := ⟨_, rfl⟩
  have hor3 : bits .or .i64 (V2 : Int) ((n2 : Int) * 64) = (V3 : Int) := by
    have := or_to V2 (n2 * 64) 12 (by omega) (by omega) (by omega)
    rw [hV3]
    simpa using this
  have i2 : ∀ W : World, (Instr.index 9 (.string { data := #[c0, c1, c2, c3] }) (.int .i64 2)).run Try.prog W = .ok (.int .u8 (c2.toNat : Int)) W := ixs2 [c0, c1, c2, c3] 2 (by simp)
  obtain ⟨n3, hn3⟩ : ∃ n3 : Nat, n3 = nb c3 := ⟨_, rfl⟩
  have l3 : n3 < 64 := by rw [hn3]; exact nb_lt c3
  have Hn3 := Lib.hid hn3
  clear hn3
  obtain ⟨V4, hV4⟩ : ∃ V : Nat, V = V3 + n3 * 1 := ⟨_, rfl⟩
  have hor4 : bits .or .i64 (V3 : Int) (n3 : Int) = (V4 : Int) := by
    have := or_to V3 (n3 * 1) 6 (by omega) (by omega) (by omega)
    rw [hV4]
    simpa using this
  have i3 : ∀ W : World, (Instr.index 9 (.string { data := #[c0, c1, c2, c3] }) (.int .i64 3)).run Try.prog W = .ok (.int .u8 (c3.toNat : Int)) W := ixs2 [c0, c1, c2, c3] 3 (by simp)
  have HV1 := Lib.hid hV1
  have HV2 := Lib.hid hV2
  have HV3 := Lib.hid hV3
  have HV4 := Lib.hid hV4
  clear hV1 hV2 hV3 hV4
  go_enter Try.func15, Try.ntmps15
  go_wp2
  go_loop [4, 12] (fun b i => (i = .int .i64 0 ∧ b = .int .i64 0) ∨ (i = .int .i64 1 ∧ b = .int .i64 (V1 : Int) ∧ Hid (Ok c0)) ∨ (i = .int .i64 2 ∧ b = .int .i64 (V2 : Int) ∧ Hid (Ok c0) ∧ Hid (Ok c1)) ∨ (i = .int .i64 3 ∧ b = .int .i64 (V3 : Int) ∧ Hid (Ok c0) ∧ Hid (Ok c1) ∧ Hid (Ok c2)) ∨ (i = .int .i64 4 ∧ b = .int .i64 (V4 : Int) ∧ Hid (Ok c0) ∧ Hid (Ok c1) ∧ Hid (Ok c2) ∧ Hid (Ok c3))) (fun _ i => 4 - (intOf i).toNat)
  case atStart => exact .inl ⟨rfl, rfl⟩
  case round =>
    rcases hrel with ⟨rfl, rfl⟩ | ⟨rfl, rfl, k0⟩ | ⟨rfl, rfl, k0, k1⟩ | ⟨rfl, rfl, k0, k1, k2⟩ | ⟨rfl, rfl, k0, k1, k2, k3⟩
    · by_cases hok : Ok c0
      · have hix : ixS c0 = (n0 : Int) := by rw [Hn0.out]; unfold nb; unfold Ok at hok; omega
        have Hok := Lib.hid hok
        clear hok
        go_wp2_with fail
        refine (index_abc c0 _).mono ?_
        rintro e w5 ⟨rfl, rfl⟩
        rw [hix]
        clear hix
        go_wp2
        go_round
        case rel => exact .inr (.inl ⟨rfl, rfl, Hok.out⟩)
        case measure => simp [intOf]
      · have hix : ixS c0 = -1 := by have := (atN_bd c0 64).1; unfold Ok ixS at hok; unfold ixS; omega
        have Hok := Lib.hid hok
        clear hok
        go_wp2_with fail
        refine (index_abc c0 _).mono ?_
        rintro e w5 ⟨rfl, rfl⟩
        rw [hix]
        clear hix
        go_wp2
        refine ret_grp (g := w.heap.size) rfl rfl (heap_alloc_new w _) rfl ?_
        refine .inr ⟨fun hd => Hok.out ?_, rfl, alloc_below w _⟩
        exact ((dec_four c0 c1 c2 c3 []).1 hd).1
    · by_cases hok : Ok c1
      · have hix : ixS c1 = (n1 : Int) := by rw [Hn1.out]; unfold nb; unfold Ok at hok; omega
        have Hok := Lib.hid hok
        clear hok
        go_wp2_with fail
        refine (index_abc c1 _).mono ?_
        rintro e w5 ⟨rfl, rfl⟩
        rw [hix]
        clear hix
        go_wp2
        go_round
        case rel => exact .inr (.inr (.inl ⟨rfl, rfl, k0, Hok.out⟩))
        case measure => simp [intOf]
      · have hix : ixS c1 = -1 := by have := (atN_bd c1 64).1; unfold Ok ixS at hok; unfold ixS; omega
        have Hok := Lib.hid hok
        clear hok
        go_wp2_with fail
        refine (index_abc c1 _).mono ?_
        rintro e w5 ⟨rfl, rfl⟩
        rw [hix]
        clear hix
        go_wp2
        refine ret_grp (g := w.heap.size) rfl rfl (heap_alloc_new w _) rfl ?_
        refine .inr ⟨fun hd => Hok.out ?_, rfl, alloc_below w _⟩
        exact ((dec_four c0 c1 c2 c3 []).1 hd).2.1
    · by_cases hok : Ok c2
      · have hix : ixS c2 = (n2 : Int) := by rw [Hn2.out]; unfold nb; unfold Ok at hok; omega
        have Hok := Lib.hid hok
        clear hok
        go_wp2_with fail
        refine (index_abc c2 _).mono ?_
        rintro e w5 ⟨rfl, rfl⟩
        rw [hix]
        clear hix
        go_wp2
        go_round
        case rel => exact .inr (.inr (.inr (.inl ⟨rfl, rfl, k0, k1, Hok.out⟩)))
        case measure => simp [intOf]
      · have hix : ixS c2 = -1 := by have := (atN_bd c2 64).1; unfold Ok ixS at hok; unfold ixS; omega
        have Hok := Lib.hid hok
        clear hok
        go_wp2_with fail
        refine (index_abc c2 _).mono ?_
        rintro e w5 ⟨rfl, rfl⟩
        rw [hix]
        clear hix
        go_wp2
        refine ret_grp (g := w.heap.size) rfl rfl (heap_alloc_new w _) rfl ?_
        refine .inr ⟨fun hd => Hok.out ?_, rfl, alloc_below w _⟩
        exact ((dec_four c0 c1 c2 c3 []).1 hd).2.2.1
    · by_cases hok : Ok c3
      · have hix : ixS c3 = (n3 : Int) := by rw [Hn3.out]; unfold nb; unfold Ok at hok; omega
        have Hok := Lib.hid hok
        clear hok
        go_wp2_with fail
        refine (index_abc c3 _).mono ?_
        rintro e w5 ⟨rfl, rfl⟩
        rw [hix]
        clear hix
        go_wp2
        go_round
        case rel => exact .inr (.inr (.inr (.inr (⟨rfl, rfl, k0, k1, k2, Hok.out⟩))))
        case measure => simp [intOf]
      · have hix : ixS c3 = -1 := by have := (atN_bd c3 64).1; unfold Ok ixS at hok; unfold ixS; omega
        have Hok := Lib.hid hok
        clear hok
        go_wp2_with fail
        refine (index_abc c3 _).mono ?_
        rintro e w5 ⟨rfl, rfl⟩
        rw [hix]
        clear hix
        go_wp2
        refine ret_grp (g := w.heap.size) rfl rfl (heap_alloc_new w _) rfl ?_
        refine .inr ⟨fun hd => Hok.out ?_, rfl, alloc_below w _⟩
        exact ((dec_four c0 c1 c2 c3 []).1 hd).2.2.2.1
    · obtain ⟨x, hdx⟩ : ∃ x : UInt8, x = B0 n0 n1 := ⟨_, rfl⟩
      have hx : (V4 : Int) / 65536 % 256 = (x.toNat : Int) := by have e0 := HV1.out; have e1 := HV2.out; have e2 := HV3.out; have e3 := HV4.out; rw [hdx, B0_n n0 n1 l0 l1]; omega
      have Dx := Lib.hid hdx
      obtain ⟨y, hdy⟩ : ∃ y : UInt8, y = B1 n1 n2 := ⟨_, rfl⟩
      have hy : (V4 : Int) / 256 % 256 = (y.toNat : Int) := by have e0 := HV1.out; have e1 := HV2.out; have e2 := HV3.out; have e3 := HV4.out; rw [hdy, B1_n n1 n2 l1 l2]; omega
      have Dy := Lib.hid hdy
      obtain ⟨z, hdz⟩ : ∃ z : UInt8, z = B2 n2 n3 := ⟨_, rfl⟩
      have hz : (V4 : Int) % 256 = (z.toNat : Int) := by have e0 := HV1.out; have e1 := HV2.out; have e2 := HV3.out; have e3 := HV4.out; rw [hdz, B2_n n2 n3 l2 l3]; omega
      have Dz := Lib.hid hdz
      clear hdx hdy hdz
      go_wp2
      go_loop [44] (fun i => i = .int .i64 0) (fun i => 0)
      case atStart => exact rfl
      case round =>
        subst hrel
        go_wp2
        refine ret_grp (g := w.heap.size) rfl rfl (old_block w _ _) rfl ?_
        refine .inl ⟨(dec_four c0 c1 c2 c3 []).2 ⟨k0.out, k1.out, k2.out, k3.out, dec_nil⟩, x, y, z, rfl, ?_, two_below w _ _⟩
        rw [out_four, out_nil, Dx.out, Dy.out, Dz.out, Hn0.out, Hn1.out, Hn2.out, Hn3.out]
        rfl

set_option maxHeartbeats 4000000 in
theorem grp3 (c0 c1 c2 : UInt8) (w : World) : Calls Try.prog 15 #[.string { data := #[c0, c1, c2] }] w (Grp w [c0, c1, c2]) := by
  obtain ⟨n0, hn0⟩ : ∃ n0 : Nat, n0 = nb c0 := ⟨_, rfl⟩
  have l0 : n0 < 64 := by rw [hn0]; exact nb_lt c0
  have Hn0 := Lib.hid hn0
  clear hn0
  obtain ⟨V1, hV1⟩ : ∃ V : Nat, V = 0 + n0 * 262144 := ⟨_, rfl⟩
  have hor1 : (n0 : Int) * 262144 = (V1 : Int) := by omega
  have hor0 : bits .or .i64 0 (V1 : Int) = (V1 : Int) := by have := or_to 0 V1 24 (by omega) (by omega) (by omega); simpa using this
  have i0 : ∀ W : World, (Instr.index 9 (.string { data := #[c0, c1, c2] }) (.int .i64 0)).run Try.prog W = .ok (.int .u8 (c0.toNat : Int)) W := ixs2 [c0, c1, c2] 0 (by simp)
  obtain ⟨n1, hn1⟩ : ∃ n1 : Nat, n1 = nb c1 := ⟨_, rfl⟩
  have l1 : n1 < 64 := by rw [hn1]; exact nb_lt c1
  have Hn1 := Lib.hid hn1
  clear hn1
  obtain ⟨V2, hV2⟩ : ∃ V : Nat, V = V1 + n1 * 4096 := ⟨_, rfl⟩
  have hor2 : bits .or .i64 (V1 : Int) ((n1 : Int) * 4096) = (V2 : Int) := by
    have := or_to V1 (n1 * 4096) 18 (by omega) (by omega) (by omega)
    rw [hV2]
    simpa using this
  have i1 : ∀ W : World, (Instr.index 9 (.string { data := #[c0, c1, c2] }) (.int .i64 1)).run Try.prog W = .ok (.int .u8 (c1.toNat : Int)) W := ixs2 [c0, c1, c2] 1 (by simp)
  obtain ⟨n2, hn2⟩ : ∃ n2 : Nat, n2 = nb c2 := ⟨_, rfl⟩
  have l2 : n2 < 64 := by rw [hn2]; exact nb_lt c2
  have Hn2 := Lib.hid hn2
  clear hn2
  obtain ⟨V3, hV3⟩ : ∃ V : Nat, V = V2 + n2 * 64 := ⟨_, rfl⟩
  have hor3 : bits .or .i64 (V2 : Int) ((n2 : Int) * 64) = (V3 : Int) := by
    have := or_to V2 (n2 * 64) 12 (by omega) (by omega) (by omega)
    rw [hV3]
    simpa using this
  have i2 : ∀ W : World, (Instr.index 9 (.string { data := #[c0, c1, c2] }) (.int .i64 2)).run Try.prog W = .ok (.int .u8 (c2.toNat : Int)) W := ixs2 [c0, c1, c2] 2 (by simp)
  have HV1 := Lib.hid hV1
  have HV2 := Lib.hid hV2
  have HV3 := Lib.hid hV3
  clear hV1 hV2 hV3
  go_enter Try.func15, Try.ntmps15
  go_wp2
  go_loop [4, 12] (fun b i => (i = .int .i64 0 ∧ b = .int .i64 0) ∨ (i = .int .i64 1 ∧ b = .int .i64 (V1 : Int) ∧ Hid (Ok c0)) ∨ (i = .int .i64 2 ∧ b = .int .i64 (V2 : Int) ∧ Hid (Ok c0) ∧ Hid (Ok c1)) ∨ (i = .int .i64 3 ∧ b = .int .i64 (V3 : Int) ∧ Hid (Ok c0) ∧ Hid (Ok c1) ∧ Hid (Ok c2))) (fun _ i => 3 - (intOf i).toNat)
  case atStart => exact .inl ⟨rfl, rfl⟩
  case round =>
    rcases hrel with ⟨rfl, rfl⟩ | ⟨rfl, rfl, k0⟩ | ⟨rfl, rfl, k0, k1⟩ | ⟨rfl, rfl, k0, k1, k2⟩
    · by_cases hok : Ok c0
      · have hix : ixS c0 = (n0 : Int) := by rw [Hn0.out]; unfold nb; unfold Ok at hok; omega
        have Hok := Lib.hid hok
        clear hok
        go_wp2_with fail
        refine (index_abc c0 _).mono ?_
        rintro e w5 ⟨rfl, rfl⟩
        rw [hix]
        clear hix
        go_wp2
        go_round
        case rel => exact .inr (.inl ⟨rfl, rfl, Hok.out⟩)
        case measure => simp [intOf]
      · have hix : ixS c0 = -1 := by have := (atN_bd c0 64).1; unfold Ok ixS at hok; unfold ixS; omega
        have Hok := Lib.hid hok
        clear hok
        go_wp2_with fail
        refine (index_abc c0 _).mono ?_
        rintro e w5 ⟨rfl, rfl⟩
        rw [hix]
        clear hix
        go_wp2
        refine ret_grp (g := w.heap.size) rfl rfl (heap_alloc_new w _) rfl ?_
        refine .inr ⟨fun hd => Hok.out ?_, rfl, alloc_below w _⟩
        exact ((dec_three c0 c1 c2).1 hd).1
    · by_cases hok : Ok c1
      · have hix : ixS c1 = (n1 : Int) := by rw [Hn1.out]; unfold nb; unfold Ok at hok; omega
        have Hok := Lib.hid hok
        clear hok
        go_wp2_with fail
        refine (index_abc c1 _).mono ?_
        rintro e w5 ⟨rfl, rfl⟩
        rw [hix]
        clear hix
        go_wp2
        go_round
        case rel => exact .inr (.inr (.inl ⟨rfl, rfl, k0, Hok.out⟩))
        case measure => simp [intOf]
      · have hix : ixS c1 = -1 := by have := (atN_bd c1 64).1; unfold Ok ixS at hok; unfold ixS; omega
        have Hok := Lib.hid hok
        clear hok
        go_wp2_with fail
        refine (index_abc c1 _).mono ?_
        rintro e w5 ⟨rfl, rfl⟩
        rw [hix]
        clear hix
        go_wp2
        refine ret_grp (g := w.heap.size) rfl rfl (heap_alloc_new w _) rfl ?_
        refine .inr ⟨fun hd => Hok.out ?_, rfl, alloc_below w _⟩
        exact ((dec_three c0 c1 c2).1 hd).2.1
    · by_cases hok : Ok c2
      · have hix : ixS c2 = (n2 : Int) := by rw [Hn2.out]; unfold nb; unfold Ok at hok; omega
        have Hok := Lib.hid hok
        clear hok
        go_wp2_with fail
        refine (index_abc c2 _).mono ?_
        rintro e w5 ⟨rfl, rfl⟩
        rw [hix]
        clear hix
        go_wp2
        go_round
        case rel => exact .inr (.inr (.inr (⟨rfl, rfl, k0, k1, Hok.out⟩)))
        case measure => simp [intOf]
      · have hix : ixS c2 = -1 := by have := (atN_bd c2 64).1; unfold Ok ixS at hok; unfold ixS; omega
        have Hok := Lib.hid hok
        clear hok
        go_wp2_with fail
        refine (index_abc c2 _).mono ?_
        rintro e w5 ⟨rfl, rfl⟩
        rw [hix]
        clear hix
        go_wp2
        refine ret_grp (g := w.heap.size) rfl rfl (heap_alloc_new w _) rfl ?_
        refine .inr ⟨fun hd => Hok.out ?_, rfl, alloc_below w _⟩
        exact ((dec_three c0 c1 c2).1 hd).2.2.1
    · obtain ⟨x, hdx⟩ : ∃ x : UInt8, x = B0 n0 n1 := ⟨_, rfl⟩
      have hx : (V3 : Int) / 65536 % 256 = (x.toNat : Int) := by have e0 := HV1.out; have e1 := HV2.out; have e2 := HV3.out; rw [hdx, B0_n n0 n1 l0 l1]; omega
      have Dx := Lib.hid hdx
      obtain ⟨y, hdy⟩ : ∃ y : UInt8, y = B1 n1 n2 := ⟨_, rfl⟩
      have hy : (V3 : Int) / 256 % 256 = (y.toNat : Int) := by have e0 := HV1.out; have e1 := HV2.out; have e2 := HV3.out; rw [hdy, B1_n n1 n2 l1 l2]; omega
      have Dy := Lib.hid hdy
      obtain ⟨z, hdz⟩ : ∃ z : UInt8, z = UInt8.ofNat (n2 % 4 * 64) := ⟨_, rfl⟩
      have hz : (V3 : Int) % 256 = (z.toNat : Int) := by have e0 := HV1.out; have e1 := HV2.out; have e2 := HV3.out; rw [hdz, toNat_small _ (by omega)]; omega
      have Dz := Lib.hid hdz
      clear hdx hdy hdz
      by_cases hq : z = 0
      · subst hq
        replace hz : (V3 : Int) % 256 = 0 := hz
        go_wp2
        go_loop [44] (fun i => i = .int .i64 0 ∨ i = .int .i64 1) (fun i => 1 - (intOf i).toNat)
        case atStart => exact .inl rfl
        case round =>
          rcases hrel with rfl | rfl
          · go_wp2
            go_round
            case rel => exact .inr (rfl)
            case measure => simp [intOf]
          · go_wp2
            refine ret_grp (g := w.heap.size) rfl rfl (old_block w _ _) rfl ?_
            refine .inl ⟨(dec_three c0 c1 c2).2 ⟨k0.out, k1.out, k2.out, ?_⟩, x, y, 0, rfl, ?_, two_below w _ _⟩
            · have hz := congrArg UInt8.toNat Dz.out
              rw [toNat_small _ (by omega)] at hz
              rw [← Hn2.out]
              simp at hz
              omega
            · rw [out_three, Dx.out, Dy.out, Hn0.out, Hn1.out, Hn2.out]
              rfl
      · have Hq := Lib.hid hq
        have hq2 : ¬ (z.toNat : Int) = 0 := fun h => hq (UInt8.toNat.inj (by simpa using h))
        clear hq
        go_wp2
        go_loop [44] (fun i => i = .int .i64 0) (fun i => 0)
        case atStart => exact rfl
        case round =>
          subst hrel
          go_wp2
          refine ret_grp (g := w.heap.size) rfl rfl (old_block w _ _) rfl ?_
          refine .inr ⟨fun hd => Hq.out ?_, rfl, two_below w _ _⟩
          have h3 := ((dec_three c0 c1 c2).1 hd).2.2.2
          rw [← Hn2.out] at h3
          rw [Dz.out, h3]
          rfl

set_option maxHeartbeats 4000000 in
theorem grp2 (c0 c1 : UInt8) (w : World) : Calls Try.prog 15 #[.string { data := #[c0, c1] }] w (Grp w [c0, c1]) := by
  obtain ⟨n0, hn0⟩ : ∃ n0 : Nat, n0 = nb c0 := ⟨_, rfl⟩
  have l0 : n0 < 64 := by rw [hn0]; exact nb_lt c0
  have Hn0 := Lib.hid hn0
  clear hn0
  obtain ⟨V1, hV1⟩ : ∃ V : Nat, V = 0 + n0 * 262144 := ⟨_, rfl⟩
  have hor1 : (n0 : Int) * 262144 = (V1 : Int) := by omega
  have hor0 : bits .or .i64 0 (V1 : Int) = (V1 : Int) := by have := or_to 0 V1 24 (by omega) (by omega) (by omega); simpa using this
  have i0 : ∀ W : World, (Instr.index 9 (.string { data := #[c0, c1] }) (.int .i64 0)).run Try.prog W = .ok (.int .u8 (c0.toNat : Int)) W := ixs2 [c0, c1] 0 (by simp)
  obtain ⟨n1, hn1⟩ : ∃ n1 : Nat, n1 = nb c1 := ⟨_, rfl⟩
  have l1 : n1 < 64 := by rw [hn1]; exact nb_lt c1
  have Hn1 := Lib.hid hn1
  clear hn1
  obtain ⟨V2, hV2⟩ : ∃ V : Nat, V = V1 + n1 * 4096 := ⟨_, rfl⟩
  have hor2 : bits .or .i64 (V1 : Int) ((n1 : Int) * 4096) = (V2 : Int) := by
    have := or_to V1 (n1 * 4096) 18 (by omega) (by omega) (by omega)
    rw [hV2]
    simpa using this
  have i1 : ∀ W : World, (Instr.index 9 (.string { data := #[c0, c1] }) (.int .i64 1)).run Try.prog W = .ok (.int .u8 (c1.toNat : Int)) W := ixs2 [c0, c1] 1 (by simp)
  have HV1 := Lib.hid hV1
  have HV2 := Lib.hid hV2
  clear hV1 hV2
  go_enter Try.func15, Try.ntmps15
  go_wp2
  go_loop [4, 12] (fun b i => (i = .int .i64 0 ∧ b = .int .i64 0) ∨ (i = .int .i64 1 ∧ b = .int .i64 (V1 : Int) ∧ Hid (Ok c0)) ∨ (i = .int .i64 2 ∧ b = .int .i64 (V2 : Int) ∧ Hid (Ok c0) ∧ Hid (Ok c1))) (fun _ i => 2 - (intOf i).toNat)
  case atStart => exact .inl ⟨rfl, rfl⟩
  case round =>
    rcases hrel with ⟨rfl, rfl⟩ | ⟨rfl, rfl, k0⟩ | ⟨rfl, rfl, k0, k1⟩
    · by_cases hok : Ok c0
      · have hix : ixS c0 = (n0 : Int) := by rw [Hn0.out]; unfold nb; unfold Ok at hok; omega
        have Hok := Lib.hid hok
        clear hok
        go_wp2_with fail
        refine (index_abc c0 _).mono ?_
        rintro e w5 ⟨rfl, rfl⟩
        rw [hix]
        clear hix
        go_wp2
        go_round
        case rel => exact .inr (.inl ⟨rfl, rfl, Hok.out⟩)
        case measure => simp [intOf]
      · have hix : ixS c0 = -1 := by have := (atN_bd c0 64).1; unfold Ok ixS at hok; unfold ixS; omega
        have Hok := Lib.hid hok
        clear hok
        go_wp2_with fail
        refine (index_abc c0 _).mono ?_
        rintro e w5 ⟨rfl, rfl⟩
        rw [hix]
        clear hix
        go_wp2
        refine ret_grp (g := w.heap.size) rfl rfl (heap_alloc_new w _) rfl ?_
        refine .inr ⟨fun hd => Hok.out ?_, rfl, alloc_below w _⟩
        exact ((dec_two c0 c1).1 hd).1
    · by_cases hok : Ok c1
      · have hix : ixS c1 = (n1 : Int) := by rw [Hn1.out]; unfold nb; unfold Ok at hok; omega
        have Hok := Lib.hid hok
        clear hok
        go_wp2_with fail
        refine (index_abc c1 _).mono ?_
        rintro e w5 ⟨rfl, rfl⟩
        rw [hix]
        clear hix
        go_wp2
        go_round
        case rel => exact .inr (.inr (⟨rfl, rfl, k0, Hok.out⟩))
        case measure => simp [intOf]
      · have hix : ixS c1 = -1 := by have := (atN_bd c1 64).1; unfold Ok ixS at hok; unfold ixS; omega
        have Hok := Lib.hid hok
        clear hok
        go_wp2_with fail
        refine (index_abc c1 _).mono ?_
        rintro e w5 ⟨rfl, rfl⟩
        rw [hix]
        clear hix
        go_wp2
        refine ret_grp (g := w.heap.size) rfl rfl (heap_alloc_new w _) rfl ?_
        refine .inr ⟨fun hd => Hok.out ?_, rfl, alloc_below w _⟩
        exact ((dec_two c0 c1).1 hd).2.1
    · obtain ⟨x, hdx⟩ : ∃ x : UInt8, x = B0 n0 n1 := ⟨_, rfl⟩
      have hx : (V2 : Int) / 65536 % 256 = (x.toNat : Int) := by have e0 := HV1.out; have e1 := HV2.out; rw [hdx, B0_n n0 n1 l0 l1]; omega
      have Dx := Lib.hid hdx
      obtain ⟨y, hdy⟩ : ∃ y : UInt8, y = UInt8.ofNat (n1 % 16 * 16) := ⟨_, rfl⟩
      have hy : (V2 : Int) / 256 % 256 = (y.toNat : Int) := by have e0 := HV1.out; have e1 := HV2.out; rw [hdy, toNat_small _ (by omega)]; omega
      have Dy := Lib.hid hdy
      obtain ⟨z, hdz⟩ : ∃ z : UInt8, z = 0 := ⟨_, rfl⟩
      have hz : (V2 : Int) % 256 = (z.toNat : Int) := by have e0 := HV1.out; have e1 := HV2.out; rw [hdz, UInt8.toNat_zero]; omega
      have Dz := Lib.hid hdz
      clear hdx hdy hdz
      obtain rfl : z = 0 := Dz.out
      replace hz : (V2 : Int) % 256 = 0 := hz
      by_cases hq : y = 0
      · subst hq
        replace hy : (V2 : Int) / 256 % 256 = 0 := hy
        go_wp2
        go_loop [44] (fun i => i = .int .i64 0 ∨ i = .int .i64 1 ∨ i = .int .i64 2) (fun i => 2 - (intOf i).toNat)
        case atStart => exact .inl rfl
        case round =>
          rcases hrel with rfl | rfl | rfl
          · go_wp2
            go_round
            case rel => exact .inr (.inl rfl)
            case measure => simp [intOf]
          · go_wp2
            go_round
            case rel => exact .inr (.inr (rfl))
            case measure => simp [intOf]
          · go_wp2
            refine ret_grp (g := w.heap.size) rfl rfl (old_block w _ _) rfl ?_
            refine .inl ⟨(dec_two c0 c1).2 ⟨k0.out, k1.out, ?_⟩, x, 0, 0, rfl, ?_, two_below w _ _⟩
            · have hz := congrArg UInt8.toNat Dy.out
              rw [toNat_small _ (by omega)] at hz
              rw [← Hn1.out]
              simp at hz
              omega
            · rw [out_two, Dx.out, Hn0.out, Hn1.out]
              rfl
      · have Hq := Lib.hid hq
        have hq2 : ¬ (y.toNat : Int) = 0 := fun h => hq (UInt8.toNat.inj (by simpa using h))
        clear hq
        go_wp2
        go_loop [44] (fun i => i = .int .i64 0) (fun i => 0)
        case atStart => exact rfl
        case round =>
          subst hrel
          go_wp2
          refine ret_grp (g := w.heap.size) rfl rfl (old_block w _ _) rfl ?_
          refine .inr ⟨fun hd => Hq.out ?_, rfl, two_below w _ _⟩
          have h3 := ((dec_two c0 c1).1 hd).2.2
          rw [← Hn1.out] at h3
          rw [Dy.out, h3]
          rfl
end Go.Proofs.Ytjpjodjdciamhaa
