/-
  law14's awake. CacheDrops, out of what is asked of the program.
-/
import Derived.Test.YthakdjaaknbmpaaMgKactsMain23
namespace Go.Proofs.Ythakdjaaknbmpaa.S14
open S13
open Cf
open Go.RowKit
set_option linter.unusedVariables false
set_option linter.unusedSimpArgs false

theorem eq_ptr (a : Addr) (V : World) : (binOp .eql 24 (.pointer (some a)) (.pointer (some a))).run Try.prog V = .ok (.bool true) V := by
  obtain ⟨j, hj⟩ : ∃ j, Try.prog.info? 65 = some j := Option.isSome_iff_exists.1 (by kernel_rfl)
  have h : ∀ d : Nat, (Op.equalIn (d + 1) 24 (.pointer (some a)) (.pointer (some a))).run Try.prog V = .ok true V := fun d => by
    simp [Op.equalIn, run_underlying Try.underlying24, sizeOf, typeInfo, hj, run_sameAddr_same]
  simp only [binOp]
  simp [Op.equal, Op.maxDepth, h 9999]
section
variable {D : DTab} {C : CTab}
/-- Read, of a cache that was made behind w0. -/
theorem rd1 (K : DevOk D) (KC : CacheOk D C) {w w1 : World} {G H k room i : Nat} {F : Nat → Prop} {l : Ka} {dv : Dv} (Z : CSince D C w w1 G H F room l dv) (hn : KNum k room l dv i) (hi : i ≤ 1000) (hk : k ≤ 100) (hr : room < 9223372036854775808) (n : Int) (h1 : -9223372036854775808 ≤ n) (h2 : n < 9223372036854775808) :
    Calls Try.prog 13 #[.pointer (some ⟨G, 0, none⟩), .int .i64 n] w1 fun e w' =>
      ∃ A m c, e = .returned (.tuple #[.slice A m c, .int .i64 (kaRead room l dv n).2.1]) ∧ (kaRead room l dv n).1.length = m ∧ m ≤ c ∧ OwA w' w1.heap.size A c (kaRead room l dv n).1 ∧ ∃ F', CSince D C w w' G H F' room (kaRead room l dv n).2.2.1 (kaRead room l dv n).2.2.2 ∧ (∀ x, A = some x → ¬ F' x.block) ∧ Below w.heap.size w1 w' := by
  refine (KC.read w1 G H F room l dv i n Z.1 (by rw [hn.len]; exact hn.ko) hn.ok hi (by rw [hn.len]; exact hk) hr).mono ?_
  rintro e w' ⟨A, m, c, rfl, hm, hc, ho, F', hcd, hF, hch, hx⟩
  have hb : Below w.heap.size w1 w' := Ch.belowB hch Z.2.1 Z.2.2.size
  refine ⟨A, m, c, rfl, hm, hc, ho, F', ⟨hcd, fun k hk => ?_, Below.trans Z.2.2 hb⟩, hx, hb⟩
  rcases hF k hk with h4 | h4
  · exact Z.2.1 k h4
  · exact Nat.le_trans Z.2.2.size h4
/-- Write of a text that was made behind the cache. -/
theorem wr1 (K : DevOk D) (KC : CacheOk D C) {w w1 w2 : World} {G H k room i : Nat} {F : Nat → Prop} {l : Ka} {dv : Dv} (Z : CSince D C w w1 G H F room l dv) (hn : KNum k room l dv i) (hi : i ≤ 1000) (hk : k ≤ 100) (hr : room < 9223372036854775808) (n : Int) (h1 : -9223372036854775808 ≤ n) (h2 : n < 9223372036854775808)
    (hg : Grown w1 w2) {g m : Nat} {b : List UInt8} (hb : Rd w2 w2.heap.size (some ⟨g, 0, none⟩) b) (hgl : w1.heap.size ≤ g) (hm : b.length = m) (hm2 : m ≤ 1000) :
    Calls Try.prog 11 #[.pointer (some ⟨G, 0, none⟩), .int .i64 n, .slice (some ⟨g, 0, none⟩) m m] w2 fun e w' =>
      e = .returned (.int .i64 (kaWrite room l dv n b).1) ∧ ∃ F', CSince D C w w' G H F' room (kaWrite room l dv n b).2.1 (kaWrite room l dv n b).2.2 := by
  have Z2 := Z.grow KC.kept (devKp K) hg
  refine (KC.write w2 G H F room l dv i n _ m m b Z2.1 (by rw [hn.len]; exact hn.ko) hn.ok hi (by rw [hn.len]; exact hk) hr hb hm (Nat.le_refl _) hm2 (fun x hx _ hf => ?_)).mono ?_
  · simp only [Option.some.injEq] at hx
    subst hx
    have := Z.1.foot KC.kept (devKp K) _ hf
    simp at this
    omega
  rintro e w' ⟨rfl, h⟩
  exact ⟨rfl, Z2.step h⟩
def b0 : Ka × Dv := ((kaRead 1 [] (dvNew 3) 0).2.2.1, (kaRead 1 [] (dvNew 3) 0).2.2.2)
def b1 : Ka × Dv := ((kaRead 1 b0.1 b0.2 1).2.2.1, (kaRead 1 b0.1 b0.2 1).2.2.2)
set_option maxRecDepth 20000 in
set_option maxHeartbeats 4000000 in
theorem awakeC (K : DevOk D) (KC : CacheOk D C) (w : World) : Calls Try.prog 7 #[] w fun e w' => e = .returned (.bool true) ∧ Grown w w' := by
  have KK := Lib.hid K
  have KKC := Lib.hid KC
  go_enter Try.func7, Try.ntmps7
  go_wp2_with fail
  refine (K.new w 3 (by omega) (by omega)).mono ?_
  rintro e w1 ⟨H, FD, rfl, hd, hF, hg⟩
  have Z1 := Lib.hid (show DSince D w w1 H FD (dvNew 3) from ⟨hd, hF, hg⟩)
  clear hd hF hg K KC
  go_wp2_with fail
  refine (KKC.out.new w1 H FD (dvNew 3) 1 Z1.out.1 (by omega)).mono ?_
  rintro e w2 ⟨G, F, rfl, hc, hF, hg⟩
  have Z2 := Lib.hid (CSince.make KKC.out.kept (devKp KK.out) Z1.out hc hF hg)
  clear hc hF hg Z1
  go_wp2_with fail
  refine (rd1 KK.out KKC.out Z2.out (knum_new 3 1) (by omega) (by omega) (by omega) 0 (by omega) (by omega)).mono ?_
  rintro e w3 ⟨A3, m3, c3, rfl, _, _, _, F3, hz, _, _⟩
  have Z3 := Lib.hid (show CSince D C w w3 G H F3 1 b0.1 b0.2 from hz)
  have N3 := Lib.hid (show KNum 3 1 b0.1 b0.2 0 from (knum_new 3 1).read 0)
  obtain ⟨E3, hE3⟩ : ∃ E, E = (kaRead 1 [] (dvNew 3) 0).2.1 := ⟨_, rfl⟩
  rw [← hE3]
  clear hz Z2 hE3
  go_wp2_with fail
  refine (rd1 KK.out KKC.out Z3.out N3.out (by omega) (by omega) (by omega) 1 (by omega) (by omega)).mono ?_
  rintro e w4 ⟨A4, m4, c4, rfl, _, _, _, F4, hz, _, _⟩
  have Z4 := Lib.hid (show CSince D C w w4 G H F4 1 b1.1 b1.2 from hz)
  have N4 := Lib.hid (show KNum 3 1 b1.1 b1.2 0 from N3.out.read 1)
  obtain ⟨E4, hE4⟩ : ∃ E, E = (kaRead 1 b0.1 b0.2 1).2.1 := ⟨_, rfl⟩
  rw [← hE4]
  clear hz Z3 hE4 N3
  go_wp2_with fail
  refine (KKC.out.keeps w4 G H F4 1 b1.1 b1.2 Z4.out.1 (by rw [N4.out.len]; exact N4.out.ko) (by rw [N4.out.len]; omega)).mono ?_
  rintro e w5 ⟨A5, m5, c5, rfl, hm5, hc5, hr5, hg5⟩
  have Z5 := Lib.hid (Z4.out.grow KKC.out.kept (devKp KK.out) hg5)
  have R5 := Lib.hid hr5
  have M5 := Lib.hid (show m5 = 1 by rw [← hm5]; decide +kernel)
  have hk5 : keys b1.1 = [1] := by decide +kernel
  rw [hk5] at R5
  obtain rfl := M5.out
  clear hm5 hr5 hg5 Z4 N4 hk5 M5
  go_wp2_with fail
  have ga := Lib.hid (alloc_below w5 (.cells #[.int .i64 1] 3))
  refine (S15.refInts_any (l := [1]) (l2 := [1]) (c := c5) (c2 := 1) (n := 1) (n2 := 1) (show S15.RdZ _ _ A5 [1] from ?_) rfl (by omega) (show S15.RdZ _ _ _ [1] from .inr ⟨w5.heap.size, 0, rfl, by simp, fun j hj => ?_⟩) rfl (by omega)).mono ?_
  · rcases R5.out with e | ⟨b, off, e, hb, hc⟩
    · cases e
    · exact .inr ⟨b, off, e, Nat.lt_of_lt_of_le hb ga.out.size, fun j hj => (ga.out.cell (p := ⟨b, off + j, none⟩) hb).trans (hc j hj)⟩
  · obtain rfl : j = 0 := by simp at hj; omega
    exact cellNew w5 _ _
  rintro e w6 ⟨rfl, hg6⟩
  have Z6 := Lib.hid (Z5.out.grow KKC.out.kept (devKp KK.out) (Grown.trans ga.out hg6))
  clear hg6 ga Z5 R5
  go_wp2_with fail
  refine (KKC.out.dev w6 G H F4 1 b1.1 b1.2 Z6.out.1).mono ?_
  rintro e w7 ⟨rfl, hg7⟩
  have G7 := Lib.hid (Grown.trans Z6.out.2.2 hg7)
  clear hg7 Z6
  have hpe := fun V : World => eq_ptr ⟨H, 0, none⟩ V
  go_wp2
  go_ret
  exact ⟨rfl, G7.out⟩
end
end Go.Proofs.Ythakdjaaknbmpaa.S14
namespace Go.Proofs.Ythakdjaaknbmpaa.S14
open S13
open Cf
open Go.RowKit
set_option linter.unusedVariables false
set_option linter.unusedSimpArgs false

def cw : Nat → Ka × Dv
  | 0 => ([], dvNew 4)
  | i + 1 => (kaWrite 4 (cw i).1 (cw i).2 (i : Int) [UInt8.ofNat (i + 1)]).2
def dvT (k : Nat) : Dv := (dvTamper (cw 4).2 (k : Int) [99]).2
/-- What is kept when it is read: nothing, all but the sector, all. -/
def lM (k mode : Nat) : Ka := if mode = 0 then [] else if mode = 1 then kaDrop (cw 4).1 (k : Int) else (cw 4).1
def rM (k mode : Nat) := kaRead 4 (lM k mode) (dvT k) (k : Int)
theorem rM_all : ∀ k, k < 4 → ∀ mode, mode < 3 → (rM k mode).2.1 = 0 ∧ (rM k mode).1.length = 512 ∧ (rM k mode).1.headD 0 = (if mode = 2 then UInt8.ofNat (k + 1) else 99) := by decide +kernel
theorem cw_num (i : Nat) (hi : i ≤ 4) : KNum 4 4 (cw i).1 (cw i).2 i := by
  induction i with
  | zero => exact knum_new 4 4
  | succ i ih => exact (ih (by omega)).write _ _
section
variable {D : DTab} {C : CTab}
/-- Tamper, with a text that was made behind the cache. -/
theorem tm1 (K : DevOk D) (KC : CacheOk D C) {w w1 w2 : World} {G H k room i : Nat} {F : Nat → Prop} {l : Ka} {dv : Dv} (Z : CSince D C w w1 G H F room l dv) (hn : KNum k room l dv i) (hi : i ≤ 1000) (hk : k ≤ 100) (n : Int)
    (hg : Grown w1 w2) {g m : Nat} {b : List UInt8} (hb : Rd w2 w2.heap.size (some ⟨g, 0, none⟩) b) (hgl : w1.heap.size ≤ g) (hm : b.length = m) (hm2 : m ≤ 1000) :
    Calls Try.prog 24 #[.pointer (some ⟨H, 0, none⟩), .int .i64 n, .slice (some ⟨g, 0, none⟩) m m] w2 fun e w' =>
      e = .returned (.int .i64 (dvTamper dv n b).1) ∧ ∃ F', CSince D C w w' G H F' room l (dvTamper dv n b).2 := by
  have Z2 := Z.grow KC.kept (devKp K) hg
  have hft := Z.1.foot KC.kept (devKp K)
  obtain ⟨Fc, Fd, hc, hd, ha, hF⟩ := Z2.1
  refine (K.tamper w2 H Fd dv i n _ m m b hd hn.ok hi (by rw [hn.len]; exact hk) hb hm (Nat.le_refl _) hm2 (fun x hx _ hf => ?_)).mono ?_
  · simp only [Option.some.injEq] at hx
    subst hx
    have := hft _ ((hF _).2 (.inr hf))
    simp at this
    omega
  rintro e w' ⟨rfl, h⟩
  exact ⟨rfl, Z2.step (cd_dev KC.kept hc ha hF h)⟩
theorem KNum.tamper {k room : Nat} {l : Ka} {dv : Dv} {i : Nat} (h : KNum k room l dv i) (n : Int) (b : List UInt8) : KNum k room l (dvTamper dv n b).2 i := ⟨h.ko, ok_tamper h.ok n b, (len_tamper dv n b).trans h.len⟩
theorem KNum.drop {k room : Nat} {l : Ka} {dv : Dv} {i : Nat} (h : KNum k room l dv i) (n : Int) : KNum k room (kaDrop l n) dv i := ⟨h.ko.drop n, h.ok, h.len⟩
theorem KNum.nil {k room : Nat} {l : Ka} {dv : Dv} {i : Nat} (h : KNum k room l dv i) : KNum k room [] dv i := ⟨kok_nil _ _, h.ok, h.len⟩
set_option maxRecDepth 20000 in
set_option maxHeartbeats 8000000 in
theorem drops_walk (K : DevOk D) (KC : CacheOk D C) (a : Nat) (ha : a < 256) (all drops : Bool) (w : World) :
    Calls Try.prog 6 #[.int .u8 (a : Int), .bool all, .bool drops] w fun e w' => e = .returned (.bool true) ∧ Below w.heap.size w w' := by
  have KK := Lib.hid K
  have KKC := Lib.hid KC
  clear K KC
  go_enter Try.func6, Try.ntmps6
  go_wp2_with fail
  refine (awakeC KK.out KKC.out w).mono ?_
  rintro e w0 ⟨rfl, hg0⟩
  have G0 := Lib.hid hg0
  clear hg0
  go_wp2_with fail
  refine (KK.out.new w0 4 (by omega) (by omega)).mono ?_
  rintro e w1 ⟨H, FD, rfl, hd, hF, hg⟩
  have Z1 := Lib.hid (show DSince D w0 w1 H FD (dvNew 4) from ⟨hd, hF, hg⟩)
  clear hd hF hg
  go_wp2_with fail
  refine (KKC.out.new w1 H FD (dvNew 4) 4 Z1.out.1 (by omega)).mono ?_
  rintro e w2 ⟨G, F, rfl, hc, hF, hg⟩
  have Z2 := Lib.hid (CSince.make KKC.out.kept (devKp KK.out) Z1.out hc hF hg)
  clear hc hF hg Z1
  obtain ⟨k, hk⟩ : ∃ k : Nat, k = a % 4 := ⟨_, rfl⟩
  have hk4 : k < 4 := by omega
  have hkm : (a : Int) % 4 = (k : Int) := by omega
  have Hk := Lib.hid hk
  clear hk
  go_wp2_with fail
  rw [hkm]
  have HKm := Lib.hid hkm
  clear hkm
  go_loopw [12] (fun v12 wr => ∃ (i : Nat) (F : Nat → Prop), v12 = .int .i64 (i : Int) ∧ i ≤ 4 ∧ Hid (CSince D C w0 wr G H F 4 (cw i).1 (cw i).2)) (fun v12 _ => 4 - (intOf v12).toNat)
  case atStart => exact ⟨0, _, rfl, Nat.zero_le _, Z2.out⟩
  case round =>
    clear Z2
    obtain ⟨i, F, rfl, hi, HZ⟩ := hrel
    by_cases hlt : i < 4
    · have bi : (i : Int) < 4 := by omega
      have HW := Lib.hid (show IntKind.u8.wrap ((i : Int) + 1) = ((UInt8.ofNat (i + 1)).toNat : Int) by
        rw [UInt8.toNat_ofNat']
        have e : IntKind.u8.wrap ((i : Int) + 1) = ((i : Int) + 1) % 256 := rfl
        rw [e]
        omega)
      obtain ⟨x, hx⟩ : ∃ x, x = UInt8.ofNat (i + 1) := ⟨_, rfl⟩
      have hw8 := HW.out
      rw [← hx] at hw8
      have HX := Lib.hid hx
      clear HW hx
      go_wp2_with fail
      refine (S14.wr1 KK.out KKC.out HZ.out (cw_num i hi) (by omega) (by omega) (by omega) (i : Int) (by omega) (by omega) (alloc_below wr _) (m := 1) (b := [x]) ((Row.new wr [x]).rd (by simp)) (Nat.le_refl _) rfl (by omega)).mono ?_
      rintro e w3 ⟨rfl, F3, hz⟩
      have Z3 := Lib.hid (show CSince D C w0 w3 G H F3 4 (cw (i + 1)).1 (cw (i + 1)).2 by
        show CSince D C w0 w3 G H F3 4 (kaWrite 4 (cw i).1 (cw i).2 (i : Int) [UInt8.ofNat (i + 1)]).2.1 (kaWrite 4 (cw i).1 (cw i).2 (i : Int) [UInt8.ofNat (i + 1)]).2.2
        rw [← HX.out]
        exact hz)
      clear hz hw8
      go_wp2
      go_roundw
      case rel => exact ⟨i + 1, F3, by simp, by omega, Z3.out⟩
      case measure => simp [intOf]; omega
    · have bi : ¬ (i : Int) < 4 := by omega
      obtain rfl : i = 4 := by omega
      clear hlt hi bi
      go_wp2_with fail
      refine (tm1 KK.out KKC.out HZ.out (cw_num 4 (by omega)) (by omega) (by omega) (k : Int) (alloc_below wr _) (m := 1) (b := [99]) ((Row.new wr [99]).rd (by simp)) (Nat.le_refl _) rfl (by omega)).mono ?_
      rintro e w4 ⟨rfl, F4, hz⟩
      have Z4 := Lib.hid (show CSince D C w0 w4 G H F4 4 (cw 4).1 (dvT k) from hz)
      have N4 := Lib.hid (show KNum 4 4 (cw 4).1 (dvT k) 4 from (cw_num 4 (by omega)).tamper _ _)
      obtain ⟨E4, hE4⟩ : ∃ E, E = (dvTamper (cw 4).2 (k : Int) [99]).1 := ⟨_, rfl⟩
      rw [← hE4]
      clear hz hE4 HZ
      have hwk : IntKind.u8.wrap ((k : Int) + 1) = (k : Int) + 1 := by
        have e : IntKind.u8.wrap ((k : Int) + 1) = ((k : Int) + 1) % 256 := rfl
        rw [e]
        omega
      cases drops
      · have Z5 := Lib.hid (show CSince D C w0 w4 G H F4 4 (lM k 2) (dvT k) from Z4.out)
        have N5 := Lib.hid (show KNum 4 4 (lM k 2) (dvT k) 4 from N4.out)
        clear Z4 N4
        go_wp2_with fail
        refine (rd1 KK.out KKC.out Z5.out N5.out (by omega) (by omega) (by omega) (k : Int) (by omega) (by omega)).mono ?_
        rintro e w6 ⟨A, m, c, rfl, hm, hc, ho, F6, hz, hx, hb⟩
        have HO := Lib.hid ho
        have HB := Lib.hid (show Below w.heap.size w w6 from Grown.trans G0.out hz.2.2)
        obtain ⟨f1, f2, f3⟩ := rM_all k hk4 2 (by omega)
        rw [show (kaRead 4 (lM k 2) (dvT k) (k : Int)).2.1 = 0 from f1]
        obtain rfl : m = 512 := hm.symm.trans f2
        obtain ⟨L, hL⟩ : ∃ L, L = (kaRead 4 (lM k 2) (dvT k) (k : Int)).1 := ⟨_, rfl⟩
        rw [← hL] at HO
        have f2' : L.length = 512 := by rw [hL]; exact f2
        have f3' : L.headD 0 = (UInt8.ofNat (k + 1)) := by rw [hL]; exact f3
        obtain ⟨b, o, hA, hcell⟩ : ∃ b o, A = some ⟨b, o, none⟩ ∧ w6.cell? ⟨b, o, none⟩ = some (bv (UInt8.ofNat (k + 1))) := by
          rcases HO.out.rd with e | ⟨b, o, e, _, hc2⟩
          · rw [e] at f2'; cases f2'
          · refine ⟨b, o, e, ?_⟩
            have h3 := hc2 0 (by omega)
            rw [← f3']
            cases L with
            | nil => cases f2'
            | cons x r => exact h3
        subst hA
        have hv : bv ((UInt8.ofNat (k + 1))) = .int .u8 ((k : Int) + 1) := by rw [bv, UInt8.toNat_ofNat']; congr 1
        rw [hv] at hcell
        clear hm hz hx hb ho f1 f2 f3 hL f2' f3' hv HO
        go_wp2
        go_ret
        exact ⟨rfl, HB.out⟩
      · cases all
        · go_wp2_with fail
          have Z9 := Lib.hid (Z4.out.grow KKC.out.kept (devKp KK.out) (alloc_below w4 (.cells #[.int .i64 (k : Int)] 3)))
          refine (KKC.out.drop _ G H F4 4 (cw 4).1 (dvT k) (k : Int) (some ⟨w4.heap.size, 0, none⟩) 1 Z9.out.1 (by rw [N4.out.len]; exact N4.out.ko) (by rw [N4.out.len]; omega) (.inr ⟨_, 0, rfl, by simp, fun j hj => ?_⟩) (Nat.le_refl _) (fun x hx hf => ?_)).mono ?_
          · obtain rfl : j = 0 := by simp at hj; omega
            exact cellNew w4 _ _
          · simp only [Option.some.injEq] at hx
            subst hx
            have := Z4.out.1.foot KKC.out.kept (devKp KK.out) _ hf
            simp at this
          rintro e w5 ⟨rfl, hz⟩
          obtain ⟨F5, hz5⟩ := Z9.out.step hz
          have Z5 := Lib.hid (show CSince D C w0 w5 G H F5 4 (lM k 1) (dvT k) from hz5)
          have N5 := Lib.hid (show KNum 4 4 (lM k 1) (dvT k) 4 from N4.out.drop _)
          clear hz hz5 Z4 N4 Z9
          go_wp2_with fail
          refine (rd1 KK.out KKC.out Z5.out N5.out (by omega) (by omega) (by omega) (k : Int) (by omega) (by omega)).mono ?_
          rintro e w6 ⟨A, m, c, rfl, hm, hc, ho, F6, hz, hx, hb⟩
          have HO := Lib.hid ho
          have HB := Lib.hid (show Below w.heap.size w w6 from Grown.trans G0.out hz.2.2)
          obtain ⟨f1, f2, f3⟩ := rM_all k hk4 1 (by omega)
          rw [show (kaRead 4 (lM k 1) (dvT k) (k : Int)).2.1 = 0 from f1]
          obtain rfl : m = 512 := hm.symm.trans f2
          obtain ⟨L, hL⟩ : ∃ L, L = (kaRead 4 (lM k 1) (dvT k) (k : Int)).1 := ⟨_, rfl⟩
          rw [← hL] at HO
          have f2' : L.length = 512 := by rw [hL]; exact f2
          have f3' : L.headD 0 = (99 : UInt8) := by rw [hL]; exact f3
          obtain ⟨b, o, hA, hcell⟩ : ∃ b o, A = some ⟨b, o, none⟩ ∧ w6.cell? ⟨b, o, none⟩ = some (bv (99 : UInt8)) := by
            rcases HO.out.rd with e | ⟨b, o, e, _, hc2⟩
            · rw [e] at f2'; cases f2'
            · refine ⟨b, o, e, ?_⟩
              have h3 := hc2 0 (by omega)
              rw [← f3']
              cases L with
              | nil => cases f2'
              | cons x r => exact h3
          subst hA
          have hv : bv ((99 : UInt8)) = .int .u8 (99) := rfl
          rw [hv] at hcell
          clear hm hz hx hb ho f1 f2 f3 hL f2' f3' hv HO
          go_wp2
          go_ret
          exact ⟨rfl, HB.out⟩
        · go_wp2_with fail
          refine (KKC.out.clear w4 G H F4 4 (cw 4).1 (dvT k) Z4.out.1 (by rw [N4.out.len]; exact N4.out.ko) (by rw [N4.out.len]; omega)).mono ?_
          rintro e w5 ⟨rfl, hz⟩
          obtain ⟨F5, hz5⟩ := Z4.out.step hz
          have Z5 := Lib.hid (show CSince D C w0 w5 G H F5 4 (lM k 0) (dvT k) from hz5)
          have N5 := Lib.hid (show KNum 4 4 (lM k 0) (dvT k) 4 from N4.out.nil)
          clear hz hz5 Z4 N4
          go_wp2_with fail
          refine (rd1 KK.out KKC.out Z5.out N5.out (by omega) (by omega) (by omega) (k : Int) (by omega) (by omega)).mono ?_
          rintro e w6 ⟨A, m, c, rfl, hm, hc, ho, F6, hz, hx, hb⟩
          have HO := Lib.hid ho
          have HB := Lib.hid (show Below w.heap.size w w6 from Grown.trans G0.out hz.2.2)
          obtain ⟨f1, f2, f3⟩ := rM_all k hk4 0 (by omega)
          rw [show (kaRead 4 (lM k 0) (dvT k) (k : Int)).2.1 = 0 from f1]
          obtain rfl : m = 512 := hm.symm.trans f2
          obtain ⟨L, hL⟩ : ∃ L, L = (kaRead 4 (lM k 0) (dvT k) (k : Int)).1 := ⟨_, rfl⟩
          rw [← hL] at HO
          have f2' : L.length = 512 := by rw [hL]; exact f2
          have f3' : L.headD 0 = (99 : UInt8) := by rw [hL]; exact f3
          obtain ⟨b, o, hA, hcell⟩ : ∃ b o, A = some ⟨b, o, none⟩ ∧ w6.cell? ⟨b, o, none⟩ = some (bv (99 : UInt8)) := by
            rcases HO.out.rd with e | ⟨b, o, e, _, hc2⟩
            · rw [e] at f2'; cases f2'
            · refine ⟨b, o, e, ?_⟩
              have h3 := hc2 0 (by omega)
              rw [← f3']
              cases L with
              | nil => cases f2'
              | cons x r => exact h3
          subst hA
          have hv : bv ((99 : UInt8)) = .int .u8 (99) := rfl
          rw [hv] at hcell
          clear hm hz hx hb ho f1 f2 f3 hL f2' f3' hv HO
          go_wp2
          go_ret
          exact ⟨rfl, HB.out⟩
end
end Go.Proofs.Ythakdjaaknbmpaa.S14
