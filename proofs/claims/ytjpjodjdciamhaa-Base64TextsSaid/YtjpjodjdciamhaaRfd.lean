/-
  Contract of the reference's base64 Decode.
-/
import Derived.Test.YtjpjodjdciamhaaRfe
namespace Go.Proofs.Ytjpjodjdciamhaa
open Go.RowKit
set_option linter.unusedVariables false
set_option linter.unusedSimpArgs false

/-- The number of a sign among the first n; -1: none. -/
def atN (c : UInt8) : Nat → Int
  | 0 => -1
  | n + 1 => if sg n = c then (n : Int) else atN c n
def ixS (c : UInt8) : Int := atN c 64
theorem atN_bd (c : UInt8) (n : Nat) : -1 ≤ atN c n ∧ atN c n < (n : Int) := by
  induction n with
  | zero => simp [atN]
  | succ n ih => rw [atN]; split <;> omega
def sixBits (n : Nat) : List Int := (List.range 6).map fun j => ((n / (32 / 2 ^ j) % 2 : Nat) : Int)
theorem sixBits_len (n : Nat) : (sixBits n).length = 6 := by simp [sixBits]
def dbits (s : List UInt8) : List Int := s.flatMap fun c => sixBits (ixS c).toNat
theorem dbits_len (s : List UInt8) : (dbits s).length = 6 * s.length := by
  induction s with
  | nil => rfl
  | cons x l ih => simp only [dbits, List.flatMap_cons, List.length_append, sixBits_len, List.length_cons] at *; omega
theorem dbits_take (s : List UInt8) (k : Nat) (h : k < s.length) : dbits (s.take k) ++ sixBits (ixS s[k]).toNat = dbits (s.take (k + 1)) := by
  rw [take_snoc s k h]; simp only [dbits, List.flatMap_append, List.flatMap_cons, List.flatMap_nil, List.append_nil]
theorem dbits_bits (s : List UInt8) : IsBits (dbits s) := by
  intro k
  have key : ∀ b ∈ dbits s, 0 ≤ b ∧ b ≤ 1 := by
    intro b hb
    simp only [dbits, sixBits, List.mem_flatMap, List.mem_map] at hb
    obtain ⟨x, _, j, _, rfl⟩ := hb
    omega
  rcases mem_getD (dbits s) k with h | h
  · exact key _ h
  · omega
theorem d_pos6 : ∀ j : Fin 6, 1 ≤ 32 / 2 ^ j.1 := by decide
def outL (s : List UInt8) : List UInt8 := (List.range (6 * s.length / 8)).map fun q => UInt8.ofNat (nK (dbits s) (8 * q) 8).toNat
theorem outL_len (s : List UInt8) : (outL s).length = 6 * s.length / 8 := by simp [outL]
/-- s is the signs of some bytes. -/
def Dec (s : List UInt8) : Prop := (∀ k, k < s.length → 0 ≤ ixS (s.getD k 0)) ∧ encL (outL s) = s
def TwoD (w : World) (s : List UInt8) (e : Ending) (w' : World) : Prop :=
  (Dec s ∧ ∃ A c, e = .returned (.tuple #[.slice A (outL s).length c, .bool true]) ∧ Own w' w.heap.size A c (outL s) ∧ Below w.heap.size w w') ∨
  (¬ Dec s ∧ e = .returned (.tuple #[.slice none 0 0, .bool false]) ∧ Below w.heap.size w w')
theorem slice1 (s : List UInt8) (i : Nat) (hi : i < s.length) (W : World) : (Instr.slice 9 (.string { data := s.toArray }) (some (.int .i64 (i : Int))) (some (.int .i64 ((i : Int) + 1))) none).run Try.prog W = .ok (.string { data := #[s.getD i 0] }) W := by
  have hsz : ((⟨s.toArray⟩ : ByteArray).size) = s.length := by show s.toArray.size = _; simp
  have e : (⟨s.toArray⟩ : ByteArray).extract i (i + 1) = { data := #[s.getD i 0] } := by
    apply ByteArray.ext
    rw [ByteArray.data_extract]
    apply Array.ext'
    simp [hi]
    rw [List.drop_eq_getElem_cons hi]
    rfl
  rw [run_slice_string W 9 _ .i64 .i64 (i : Int) ((i : Int) + 1) Try.underlying9 (by omega) (by omega) (by rw [hsz]; omega), ← e]
  rfl

set_option maxHeartbeats 4000000 in
theorem decode_any (s : List UInt8) (n : Nat) (w : World) (hn : s.length = n) (hl : n ≤ 100000) :
    Calls Try.prog 13 #[.string { data := s.toArray }] w (TwoD w s) := by
  have Hn := Lib.hid hn
  go_enter Try.func13, Try.ntmps13
  go_wp2
  go_loopw [4, 5] (fun v i wr => ∃ (k : Nat) (A1 : Option Addr) (c1 : Nat), k ≤ n ∧ i = .int .i64 k ∧ v = .slice A1 (6 * k) c1 ∧ Hid (∀ j, j < k → 0 ≤ ixS (s.getD j 0)) ∧ Hid (OwnI wr w.heap.size A1 c1 (dbits (s.take k))) ∧ Hid (Below w.heap.size w wr)) (fun _ i _ => n - (intOf i).toNat)
  case atStart => exact ⟨0, none, 0, by omega, rfl, rfl, (fun j hj => by omega), OwnI.nil _ _, Below.refl _ _⟩
  case round =>
    obtain ⟨k, A1, c1, hk, rfl, rfl, Hg, Ho, Hb⟩ := hrel
    by_cases hlt : k < n
    · have hkl : k < s.length := by rw [Hn.out]; exact hlt
      obtain ⟨x, hx⟩ : ∃ x, s.getD k 0 = x := ⟨_, rfl⟩
      have hsx : s[k] = x := by rw [← hx]; simp [hkl]
      have hsl : ∀ W : World, (Instr.slice 9 (.string { data := s.toArray }) (some (.int .i64 (k : Int))) (some (.int .i64 ((k : Int) + 1))) none).run Try.prog W = .ok (.string { data := #[x] }) W := fun W => by
        have := slice1 s k hkl W
        rwa [hx] at this
      have Hbt := Lib.hid (show dbits (s.take k) ++ sixBits (ixS x).toNat = dbits (s.take (k + 1)) by rw [← hsx]; exact dbits_take s k hkl)
      have Hpl := Lib.hid (show (dbits (s.take k)).length = 6 * k by rw [dbits_len]; simp; omega)
      have Hx := Lib.hid hx
      clear hx hsx
      obtain ⟨wo, hwo⟩ : ∃ wo : World, wo = wr := ⟨_, rfl⟩
      subst hwo
      go_wp2
      go_loopw [6, 7] (fun a i wr => ∃ (m : Nat) (N : Int), m ≤ 64 ∧ i = .int .i64 m ∧ a = .int .i64 N ∧ Hid (N = atN x m) ∧ Hid (Below wo.heap.size wo wr)) (fun _ i _ => 64 - (intOf i).toNat)
      case atStart => exact ⟨0, -1, by omega, rfl, rfl, rfl, Below.refl _ _⟩
      case round =>
        obtain ⟨m, N, hm, rfl, rfl, HN, Hw⟩ := hrel
        by_cases hm64 : m < 64
        · obtain ⟨y, hy⟩ : ∃ y, sg m = y := ⟨_, rfl⟩
          have hsgn := fun W => sign_any m W hm64
          rw [hy] at hsgn
          have Hsgn := Lib.hid hsgn
          have Hy := Lib.hid hy
          clear hsgn hy
          have hw1 : IntKind.i64.wrap ((k : Int) + 1) = (k : Int) + 1 := IntWalk.i64_in _ (by omega)
          go_wp2
          refine rest_start (by kernel_rfl) fun v2 hv2 => ?_
          replace Hw := Lib.hid (Below.trans Hw.out (hv2.mono Hw.out.size))
          clear hv2
          by_cases hyx : y = x
          · have HN2 := Lib.hid (show (m : Int) = atN x (m + 1) by rw [atN, Hy.out, if_pos hyx])
            subst hyx
            refine rest_take (i := 0) rfl (by kernel_rfl) (by kernel_rfl) (by kernel_rfl) (by rfl) (fun w' hg => by go_simp; try with_reducible rfl) ?_
            try simp only [Act.put, List.setIfInBounds_toArray, List.set_cons_zero, List.set_cons_succ]
            refine rest_take (i := 2) rfl (by kernel_rfl) (by kernel_rfl) (by kernel_rfl) (by rfl) (fun w' hg => by go_simp; try with_reducible rfl) ?_
            try simp only [Act.put, List.setIfInBounds_toArray, List.set_cons_zero, List.set_cons_succ]
            refine rest_take (i := 3) rfl (by kernel_rfl) (by kernel_rfl) (by kernel_rfl) (by rfl) (fun w' hg => by go_simp; try with_reducible rfl) ?_
            try simp only [Act.put, List.setIfInBounds_toArray, List.set_cons_zero, List.set_cons_succ]
            refine rest_take (i := 4) rfl (by kernel_rfl) (by kernel_rfl) (by kernel_rfl) (by rfl) (fun w' hg => by go_simp; try with_reducible rfl) ?_
            try simp only [Act.put, List.setIfInBounds_toArray, List.set_cons_zero, List.set_cons_succ]
            refine rest_take (i := 5) rfl (by kernel_rfl) (by kernel_rfl) (by kernel_rfl) (by rfl) (fun w' hg => by go_simp; try with_reducible rfl) ?_
            try simp only [Act.put, List.setIfInBounds_toArray, List.set_cons_zero, List.set_cons_succ]
            refine rest_take (i := 6) rfl (by kernel_rfl) (by kernel_rfl) (by kernel_rfl) (by rfl) (fun w' hg => by go_simp; try with_reducible rfl) ?_
            try simp only [Act.put, List.setIfInBounds_toArray, List.set_cons_zero, List.set_cons_succ]
            refine rest_lone (i := 1) rfl (by kernel_rfl) (by rfl) (fun K hK => ?_)
            go_simp
            refine (Hsgn.out _).mono ?_
            rintro e v3 ⟨rfl, hb3⟩
            refine hK.out _ _ hb3 ?_
            replace Hw := Lib.hid (Below.trans Hw.out (hb3.mono Hw.out.size))
            clear hb3
            clear hK K
            try simp only [Act.put, List.setIfInBounds_toArray, List.set_cons_zero, List.set_cons_succ]
            refine rest_take (i := 7) rfl (by kernel_rfl) (by kernel_rfl) (by kernel_rfl) (by rfl) (fun w' hg => by go_simp; try with_reducible rfl) ?_
            try simp only [Act.put, List.setIfInBounds_toArray, List.set_cons_zero, List.set_cons_succ]
            refine rest_done (by kernel_rfl) ?_
            go_wp2
            go_roundw
            case rel => exact ⟨m + 1, m, by omega, by go_num, rfl, HN2.out, Hw.out⟩
            case measure => simp [intOf]; omega
          · have HN2 := Lib.hid (show N = atN x (m + 1) by rw [atN, Hy.out, if_neg hyx, HN.out])
            have hne : (y == x) = false := by rw [beq_eq_false_iff_ne]; exact hyx
            refine rest_take (i := 0) rfl (by kernel_rfl) (by kernel_rfl) (by kernel_rfl) (by rfl) (fun w' hg => by go_simp; try with_reducible rfl) ?_
            try simp only [Act.put, List.setIfInBounds_toArray, List.set_cons_zero, List.set_cons_succ]
            refine rest_take (i := 2) rfl (by kernel_rfl) (by kernel_rfl) (by kernel_rfl) (by rfl) (fun w' hg => by go_simp; try with_reducible rfl) ?_
            try simp only [Act.put, List.setIfInBounds_toArray, List.set_cons_zero, List.set_cons_succ]
            refine rest_take (i := 3) rfl (by kernel_rfl) (by kernel_rfl) (by kernel_rfl) (by rfl) (fun w' hg => by go_simp; try with_reducible rfl) ?_
            try simp only [Act.put, List.setIfInBounds_toArray, List.set_cons_zero, List.set_cons_succ]
            refine rest_take (i := 4) rfl (by kernel_rfl) (by kernel_rfl) (by kernel_rfl) (by rfl) (fun w' hg => by go_simp; try with_reducible rfl) ?_
            try simp only [Act.put, List.setIfInBounds_toArray, List.set_cons_zero, List.set_cons_succ]
            refine rest_take (i := 5) rfl (by kernel_rfl) (by kernel_rfl) (by kernel_rfl) (by rfl) (fun w' hg => by go_simp; try with_reducible rfl) ?_
            try simp only [Act.put, List.setIfInBounds_toArray, List.set_cons_zero, List.set_cons_succ]
            refine rest_take (i := 6) rfl (by kernel_rfl) (by kernel_rfl) (by kernel_rfl) (by rfl) (fun w' hg => by go_simp; try with_reducible rfl) ?_
            try simp only [Act.put, List.setIfInBounds_toArray, List.set_cons_zero, List.set_cons_succ]
            refine rest_lone (i := 1) rfl (by kernel_rfl) (by rfl) (fun K hK => ?_)
            go_simp
            refine (Hsgn.out _).mono ?_
            rintro e v3 ⟨rfl, hb3⟩
            refine hK.out _ _ hb3 ?_
            replace Hw := Lib.hid (Below.trans Hw.out (hb3.mono Hw.out.size))
            clear hb3
            clear hK K
            try simp only [Act.put, List.setIfInBounds_toArray, List.set_cons_zero, List.set_cons_succ]
            refine rest_take (i := 7) rfl (by kernel_rfl) (by kernel_rfl) (by kernel_rfl) (by rfl) (fun w' hg => by go_simp; try with_reducible rfl) ?_
            try simp only [Act.put, List.setIfInBounds_toArray, List.set_cons_zero, List.set_cons_succ]
            refine rest_done (by kernel_rfl) ?_
            go_wp2
            go_roundw
            case rel => exact ⟨m + 1, N, by omega, by go_num, rfl, HN2.out, Hw.out⟩
            case measure => simp [intOf]; omega
        · obtain rfl : m = 64 := by omega
          have hNb := atN_bd x 64
          rw [← HN.out] at hNb
          have HN' : Hid (N = ixS x) := HN.out
          replace Ho := Lib.hid (Ho.out.grow Hw.out)
          replace Hb := Lib.hid (Below.trans Hb.out (Hw.out.mono Hb.out.size))
          clear HN hsl Hw
          rw [show ((64 : Nat) : Int) = 64 from rfl]
          by_cases hN0 : N < 0
          · go_wp2
            go_ret2
            refine .inr ⟨fun hD => ?_, rfl, Hb.out⟩
            have := hD.1 k hkl
            rw [Hx.out, ← HN'.out] at this
            omega
          · obtain ⟨v, rfl⟩ : ∃ v : Nat, N = (v : Int) := ⟨N.toNat, by omega⟩
            have hv : v < 64 := by omega
            have Hgk := Lib.hid (show 0 ≤ ixS (s.getD k 0) by rw [Hx.out, ← HN'.out]; omega)
            have Hbt2 := Lib.hid (show dbits (s.take k) ++ sixBits v = dbits (s.take (k + 1)) by have := Hbt.out; rwa [← HN'.out, Int.toNat_natCast] at this)
            have hv0 : decide ((v : Int) < 0) = false := by rw [decide_eq_false_iff_not]; omega
            clear hNb hN0 Hbt HN'
            obtain ⟨wp, hwp⟩ : ∃ wp : World, wp = wr := ⟨_, rfl⟩
            subst hwp
            go_wp2
            go_loopw [4, 8] (fun b d wr => ∃ (j dj : Nat) (A2 : Option Addr) (c2 : Nat), j ≤ 6 ∧ Hid (dj = 32 / 2 ^ j) ∧ d = .int .i64 dj ∧ b = .slice A2 (6 * k + j) c2 ∧ Hid (OwnI wr w.heap.size A2 c2 (dbits (s.take k) ++ (sixBits v).take j)) ∧ Hid (Below w.heap.size w wr)) (fun _ d _ => (intOf d).toNat)
            case atStart => exact ⟨0, 32, A1, c1, by omega, rfl, rfl, rfl, (by show OwnI _ _ _ _ _; simpa using Ho.out), Hb.out⟩
            case round =>
              clear Ho Hb
              obtain ⟨j, dj, A2, c2, hj, Hd, rfl, rfl, Ho, Hb⟩ := hrel
              have hB := Hb.out.size
              by_cases hj6 : j < 6
              · have hd1 : 1 ≤ dj := by rw [Hd.out]; exact d_pos6 ⟨j, hj6⟩
                have hd2 : dj ≤ 32 := by rw [Hd.out]; exact Nat.div_le_self _ _
                have Hd2 := Lib.hid (show dj / 2 = 32 / 2 ^ (j + 1) by rw [Hd.out, Nat.div_div_eq_div_mul, Nat.pow_succ])
                have hjb : j < (sixBits v).length := by rw [sixBits_len]; exact hj6
                obtain ⟨u, hu⟩ : ∃ u : Nat, u = v / dj := ⟨_, rfl⟩
                have hqv : (v : Int) / (dj : Int) = (u : Int) := by rw [hu]; exact (Int.natCast_ediv _ _).symm
                have hul : u ≤ 255 := by rw [hu]; exact Nat.le_trans (Nat.div_le_self _ _) (by omega)
                have Hv := Lib.hid (show (u : Int) % 2 = (sixBits v)[j] by
                  simp only [sixBits, List.getElem_map, List.getElem_range]
                  rw [hu, Hd.out]
                  omega)
                clear hu
                have Hst := Lib.hid (show (dbits (s.take k) ++ (sixBits v).take j) ++ [(sixBits v)[j]] = dbits (s.take k) ++ (sixBits v).take (j + 1) by
                  rw [List.take_succ_eq_append_getElem hjb, List.append_assoc])
                have Hlen := Lib.hid (show (dbits (s.take k) ++ (sixBits v).take j).length = 6 * k + j by rw [List.length_append, Hpl.out, List.length_take, sixBits_len]; omega)
                go_wp2_with (first
                  | (at_builtin
                     refine wpList_appI rfl (.tmp 38) (.tmp 43) rfl (base := w.heap.size) rfl Hlen.out (Ho.out.grow (alloc_below wr _)) rfl (y := (u : Int) % 2) (by simp) (by omega) (by simp; omega) ?_
                     intro A3 c3 w3 ho3 hb3
                     have Ho3 := Lib.hid ho3
                     have Hb3 := Lib.hid hb3
                     clear ho3 hb3))
                go_roundw
                case rel =>
                  refine ⟨j + 1, dj / 2, A3, c3, by omega, Hd2.out, ?_, rfl, ?_, (Hb.out.alloc hB _).trans Hb3.out⟩
                  · apply int_eq; omega
                  · show OwnI _ _ _ _ _
                    have := Ho3.out
                    rw [Hv.out, Hst.out] at this
                    exact this
                case measure => simp [intOf]; omega
              · obtain rfl : j = 6 := by omega
                have hd0 : dj = 0 := by rw [Hd.out]
                subst hd0
                go_wp2
                go_roundw
                case rel =>
                  refine ⟨k + 1, A2, c2, by omega, by go_num, ?_, (fun j hj => ?_), ?_, Hb.out⟩
                  · rw [show 6 * (k + 1) = 6 * k + 6 by omega]
                  · by_cases e : j = k
                    · subst e; exact Hgk.out
                    · exact Hg.out j (by omega)
                  · show OwnI _ _ _ _ _
                    have := Ho.out
                    rw [show (sixBits v).take 6 = sixBits v from List.take_of_length_le (by rw [sixBits_len]; omega), Hbt2.out] at this
                    exact this
                case measure => simp [intOf]; omega
    · obtain rfl : k = n := by omega
      have ho := Ho.out
      rw [List.take_of_length_le (by have := Hn.out; omega)] at ho
      have Hz := Lib.hid (show (dbits s).length = 6 * k by rw [dbits_len, Hn.out])
      replace Ho := Lib.hid ho
      have Hbits := Lib.hid (dbits_bits s)
      have Hol := Lib.hid (show (outL s).length = 6 * k / 8 by rw [outL_len, Hn.out])
      clear ho
      obtain ⟨wo, hwo⟩ : ∃ wo : World, wo = wr := ⟨_, rfl⟩
      subst hwo
      go_wp2
      go_loopw [9, 10] (fun v i wr => ∃ (q : Nat) (A2 : Option Addr) (c2 : Nat), 8 * q ≤ 6 * k ∧ i = .int .i64 (8 * (q : Int)) ∧ v = .slice A2 q c2 ∧ Hid (Own wr wo.heap.size A2 c2 ((outL s).take q)) ∧ Hid (Below wo.heap.size wo wr)) (fun _ i _ => 6 * k + 8 - (intOf i).toNat)
      case atStart => exact ⟨0, none, 0, by omega, rfl, rfl, Own.nil _ _, Below.refl _ _⟩
      case round =>
        obtain ⟨q, A2, c2, hq, rfl, rfl, Ho2, Hw⟩ := hrel
        have hBw := Hw.out.size
        by_cases hq2 : 8 * q + 8 ≤ 6 * k
        · obtain ⟨wp, hwp⟩ : ∃ wp : World, wp = wr := ⟨_, rfl⟩
          subst hwp
          have Hcell := Lib.hid (fun (t : Nat) (ht : t < (dbits s).length) => (Ho.out.grow Hw.out).at_ ht)
          go_wp2
          go_loop [11, 12] (fun n i => ∃ (j : Nat) (N : Int), j ≤ 8 ∧ i = .int .i64 (8 * (q : Int) + j) ∧ n = .int .i64 N ∧ Hid (N = nK (dbits s) (8 * q) j)) (fun _ i => 8 * q + 8 - (intOf i).toNat)
          case atStart => exact ⟨0, 0, by omega, by go_num, rfl, rfl⟩
          case round =>
            obtain ⟨j, N, hj, rfl, rfl, HN⟩ := hrel
            have hNb := nK_bd (dbits s) Hbits.out (8 * q) j (by omega)
            rw [← HN.out] at hNb
            have hN2 : 0 ≤ N ∧ N < 256 := by
              refine ⟨hNb.1, ?_⟩
              have h2 : (2 : Int) ^ j ≤ 2 ^ 8 := by
                have : (2 : Nat) ^ j ≤ 2 ^ 8 := Nat.pow_le_pow_right (by omega) (by omega)
                exact_mod_cast this
              omega
            clear hNb
            by_cases hj8 : j < 8
            · have hin : 8 * q + j < 6 * k := by omega
              obtain ⟨g, rfl, _, _, hc⟩ := Hcell.out (8 * q + j) (by rw [Hz.out]; exact hin)
              obtain ⟨y, hy⟩ : ∃ y, (dbits s)[8 * q + j]'(by rw [Hz.out]; exact hin) = y := ⟨_, rfl⟩
              rw [hy] at hc
              have hyb : 0 ≤ y ∧ y ≤ 1 := by
                have := Hbits.out (8 * q + j)
                rw [show (dbits s).getD (8 * q + j) 0 = y by rw [← hy]; simp [show 8 * q + j < (dbits s).length by rw [Hz.out]; exact hin]] at this
                exact this
              have HN2 := Lib.hid (show N * 2 + y = nK (dbits s) (8 * q) (j + 1) by
                rw [nK, HN.out, ← hy]; simp [show 8 * q + j < (dbits s).length by rw [Hz.out]; exact hin])
              clear hy
              go_wp2
              go_round
              case rel => exact ⟨j + 1, N * 2 + y, by omega, by go_num, rfl, HN2.out⟩
              case measure => simp [intOf]; omega
            · obtain rfl : j = 8 := by omega
              obtain ⟨m, rfl⟩ : ∃ m : Nat, N = (m : Int) := ⟨N.toNat, by omega⟩
              have hqo : q < (outL s).length := by rw [Hol.out]; omega
              obtain ⟨v, hv⟩ : ∃ v, (outL s)[q] = v := ⟨_, rfl⟩
              have hvn : (m : Int) = (v.toNat : Int) := by
                rw [← hv]
                simp only [outL, List.getElem_map, List.getElem_range]
                rw [← HN.out, Int.toNat_natCast, UInt8.toNat_ofNat']
                omega
              have hvl := u8_lt v
              have Hst := Lib.hid (show (outL s).take q ++ [v] = (outL s).take (q + 1) by rw [← hv]; exact (take_snoc (outL s) q hqo).symm)
              have Htk := Lib.hid (show ((outL s).take q).length = q by simp; omega)
              have Htk1 := Lib.hid (show ((outL s).take (q + 1)).length = q + 1 by simp; omega)
              clear hv hqo
              go_wp2_with (first
                | (at_builtin
                   refine wpList_app rfl (.tmp 66) (.tmp 69) rfl (base := wo.heap.size) (l := (outL s).take q) (by rw [Htk.out]; rfl) (Ho2.out.grow (alloc_below wp _)) (l2 := [v]) rfl ((Row.new wp [v]).rd (Nat.lt_succ_self _)) (by rw [Htk.out]; simp; omega) (by simp; omega) ((outL s).take (q + 1)) Hst.out ?_
                   intro A3 c3 w3 ho3 hb3
                   rw [Htk1.out]
                   have Ho3 := Lib.hid ho3
                   have Hb3 := Lib.hid hb3
                   clear ho3 hb3))
              go_roundw
              case rel => exact ⟨q + 1, A3, c3, by omega, by apply int_eq; omega, rfl, Ho3.out, (Hw.out.alloc hBw _).trans Hb3.out⟩
              case measure => simp [intOf]; omega
        · have hqe : q = 6 * k / 8 := by omega
          have ho2 := Ho2.out
          rw [List.take_of_length_le (by rw [Hol.out]; omega)] at ho2
          have Hq := Lib.hid (show (outL s).length = q by rw [Hol.out, hqe])
          have hw2 := Below.trans Hb.out (Hw.out.mono Hb.out.size)
          have Hw2 := Lib.hid hw2
          have X2 := Lib.hid ho2
          clear ho2 hw2 Ho2 hqe
          go_wp2_with fail
          refine (encode_any _ _ _ (outL s) _ X2.out.rd Hq.out (by have := Hol.out; have := Hq.out; omega)).mono ?_
          rintro e w7 ⟨rfl, hb7⟩
          have Hw7 := Lib.hid (Below.trans Hw2.out (hb7.mono Hw2.out.size))
          have X7 := Lib.hid (X2.out.grow hb7)
          clear hb7
          by_cases he : encL (outL s) = s
          · rw [he]
            have He := Lib.hid he
            clear he
            go_wp2
            go_ret2
            refine .inl ⟨⟨fun j hj => Hg.out j (by rw [Hn.out] at hj; exact hj), He.out⟩, A2, c2, by rw [Hq.out]; rfl, X7.out.less Hb.out.size, Hw7.out⟩
          · have hne : (encL (outL s) == s) = false := by rw [beq_eq_false_iff_ne]; exact he
            have hne2 : (encL (outL s) != s) = true := by simpa using he
            go_wp2
            go_ret2
            exact .inr ⟨fun hD => he hD.2, rfl, Hw7.out⟩
end Go.Proofs.Ytjpjodjdciamhaa
