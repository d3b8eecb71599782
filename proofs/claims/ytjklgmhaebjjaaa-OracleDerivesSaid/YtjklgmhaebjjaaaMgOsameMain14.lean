/-
  The reference's blocks, units and nonces, in an ideal oracle. The program's query: the key's length, the key, the pieces.
-/
import Derived.Test.YtjklgmhaebjjaaaMgOsameMain13
import Derived.Test.YtjklgmhaebjjaaaMgOsameMain10
import Derived.Lib.Hide
namespace Go.Proofs.Ytjklgmhaebjjaaa.S12
open S11
open Go.RowKit
set_option linter.unusedVariables false
set_option linter.unusedSimpArgs false

def blockQ (key : List UInt8) : List UInt8 := [98, 108, 111, 99, 107] ++ key
def unitQ (key : List UInt8) (number : Int) : List UInt8 := [117, 110, 105, 116] ++ key ++ layL number 8
theorem cut16 (W : World) (g : Nat) : (Instr.sliceAt 25 (.pointer (some ⟨g, 0, none⟩)) none none none).run Try.prog W = .ok (.slice (some ⟨g, 0, none⟩) 16 16) W := by
  have i5 : (Try.prog.info? 5).map (·.size) = some 1 := by kernel_rfl
  have u16 : Try.prog.underlying 25 = some (.array 16 5) := by kernel_rfl
  go_simp
  done

end Go.Proofs.Ytjklgmhaebjjaaa.S12
namespace Go.Proofs.Ytjklgmhaebjjaaa.S12
open S11
open Go.RowKit
set_option linter.unusedVariables false
set_option linter.unusedSimpArgs false

theorem flat_take (ls : List (List UInt8)) (i : Nat) (h : i < ls.length) : (ls.take i).flatten ++ ls[i] = (ls.take (i + 1)).flatten := by
  rw [List.take_succ_eq_append_getElem h, List.flatten_append]; simp
theorem flat_le (ls : List (List UInt8)) (i : Nat) : (ls.take i).flatten.length ≤ ls.flatten.length := by
  have h := List.take_append_drop i ls
  have h2 : ls.flatten.length = (ls.take i).flatten.length + (ls.drop i).flatten.length := by
    rw [← List.length_append, ← List.flatten_append, h]
  omega
theorem Bl.at_ {w w' : World} {B b : Nat} {l : List UInt8} {p : Value} (h : Lib.BuilderAt 103 5 B b p (bvs l) w) (hg : Grown w w') : Lib.BuilderAt 103 5 B b p (bvs l) w' := by
  have hlt := h.lt
  obtain ⟨h0, v, h1, h2, h3⟩ := h
  refine ⟨h0, v, (hg.block b hlt).trans h1, ⟨h2.1, ?_⟩, h3⟩
  rcases h2.2 with e | ⟨g, cap, cur, e1, e2, e3, r⟩
  · exact .inl e
  · exact .inr ⟨g, cap, cur, e1, e2, (hg.block g (lt_of_heap e3)).trans e3, r⟩
theorem Bl.grow {w w' : World} {B b : Nat} {l : List UInt8} (h : Bl w B b l) (hg : Grown w w') : Bl w' B b l := by
  rcases h with h | h
  · exact .inl (Bl.at_ h hg)
  · exact .inr (Bl.at_ h hg)
theorem strB (w : World) (B b : Nat) (l : List UInt8) (h : Bl w B b l) (hB : B ≤ w.heap.size) :
    Calls Try.prog 51 #[.pointer (some ⟨b, 0, none⟩)] w fun e w' => e = .returned (.string ⟨l.toArray⟩) ∧ Below B w w' := Sh.Try.Builder_String_any B b l w h hB
set_option maxHeartbeats 4000000 in
theorem query_any {w : World} {A1 A2 : Option Addr} {n1 c1 n2 c2 : Nat} {key : List UInt8} {ls : List (List UInt8)} (hk : Rd w w.heap.size A1 key) (hkn : key.length = n1) (hk2 : n1 ≤ 2000) (hl : RdL w w.heap.size A2 ls) (hln : ls.length = n2) (hl2 : n2 ≤ 10) (hfl : ls.flatten.length ≤ 2500) :
    Calls Try.prog 45 #[.slice A1 n1 c1, .slice A2 n2 c2] w fun e w' => e = .returned (.string ⟨(sealQ key ls.flatten).toArray⟩) ∧ Grown w w' := by
  have HK := Lib.hid hk
  have HKN := Lib.hid hkn
  have HL := Lib.hid hl
  have HLN := Lib.hid hln
  have HFL := Lib.hid hfl
  have HK2 := Lib.hid hk2
  clear hk hkn hl hln hfl hk2
  go_enter Try.func45, Try.ntmps45
  go_wp2_with fail
  have FB := Lib.hid (show Bl (w.alloc (.cells #[.pointer none, .slice none 0 0] 103)) w.heap.size w.heap.size [] from Lib.fresh_isBuilder _ _ w)
  have G0 := Lib.hid (alloc_below w (.cells #[.pointer none, .slice none 0 0] 103))
  have S0 := Lib.hid (show (w.alloc (.cells #[.pointer none, .slice none 0 0] 103)).heap.size = w.heap.size + 1 by simp)
  generalize w.alloc _ = w0 at FB G0 S0 ⊢
  obtain ⟨b, hb⟩ : ∃ b, b = w.heap.size := ⟨_, rfl⟩
  have HBe := Lib.hid hb
  rw [← hb] at FB S0 ⊢
  clear hb
  refine (lay_any (n1 : Int) 4 4 w0 (by omega) (.inr (.inl rfl))).mono ?_
  rintro e w1 ⟨A3, c3, rfl, ho, hb1⟩
  rw [layL_len]
  have FB1 := Lib.hid (FB.out.grow hb1)
  have G1 := Lib.hid (show Below w.heap.size w w1 from Below.trans G0.out (Below.mono hb1 (by have := S0.out; have := HBe.out; omega)))
  have RO := Lib.hid (show Rd w1 w1.heap.size A3 (layL (n1 : Int) 4) from ho.rd)
  have AO := Lib.hid (show ∀ x, A3 = some x → layL (n1 : Int) 4 ≠ [] → x.block ≠ b from fun x hx _ => by have := (ho.lt x hx).1; have := S0.out; omega)
  have SB1 := Lib.hid (show b ≤ w1.heap.size by have := hb1.size; have := S0.out; omega)
  clear ho hb1 FB G0
  go_wp2_with fail
  refine (write_any FB1.out RO.out (layL_len _ _) AO.out (by simp) SB1.out).mono ?_
  rintro e w2 ⟨rfl, hb2, hbel⟩
  have FB2 := Lib.hid hb2
  have G2 := Lib.hid (show Below w.heap.size w w2 from Below.trans G1.out (Below.mono hbel (by have := HBe.out; omega)))
  have SB2 := Lib.hid (show b ≤ w2.heap.size from Nat.le_trans SB1.out hbel.size)
  clear hb2 hbel FB1 G1 RO AO SB1
  go_wp2_with fail
  have off : ∀ (A : Option Addr) (m : List UInt8), Rd w w.heap.size A m → ∀ x, A = some x → m ≠ [] → x.block ≠ b := fun A m hr x hx hm e => by
    rcases hr with h1 | ⟨g, off, h2, h3, _⟩
    · exact hm h1
    · rw [h2] at hx
      simp only [Option.some.injEq] at hx
      subst hx
      have := HBe.out
      simp only at e
      omega
  have OFF := Lib.hid off
  clear off
  refine (write_any FB2.out ((HK.out.below G2.out).more G2.out.size) HKN.out (OFF.out _ _ HK.out) (by rw [List.nil_append, layL_len]; have := HK2.out; omega) SB2.out).mono ?_
  rintro e w3 ⟨rfl, hb3, hbel⟩
  have FB3 := Lib.hid (show Bl w3 b b (layL (n1 : Int) 4 ++ key ++ (ls.take 0).flatten) by rw [List.take_zero, List.flatten_nil, List.append_nil]; exact hb3)
  have G3 := Lib.hid (show Below w.heap.size w w3 from Below.trans G2.out (Below.mono hbel (by have := HBe.out; omega)))
  have SB3 := Lib.hid (show b ≤ w3.heap.size from Nat.le_trans SB2.out hbel.size)
  clear hb3 hbel FB2 G2 SB2
  go_wp2
  go_loopw [7, 16] (fun v7 v16 wr => ∃ i : Nat, v16 = .int .i64 (i : Int) ∧ i ≤ n2 ∧ Hid (Bl wr b b (layL (n1 : Int) 4 ++ key ++ (ls.take i).flatten)) ∧ Hid (Below w.heap.size w wr) ∧ Hid (b ≤ wr.heap.size)) (fun _ v16 _ => n2 - (intOf v16).toNat)
  case atStart => exact ⟨0, rfl, Nat.zero_le _, FB3, G3, SB3⟩
  case round =>
    obtain ⟨i, rfl, hi, FBi, Gi, SBi⟩ := hrel
    clear FB3 G3 SB3
    by_cases hlt : i < n2
    · have hlt2 : i < ls.length := by rw [HLN.out]; exact hlt
      obtain ⟨pb, po, pA, pc, rfl, hpb, hcell, hle, hrd⟩ := HL.out.at_ hlt2
      have bi : ((i : Int) + 1) ≤ 10 := by omega
      have q : wr.cell? ⟨pb, po + i, none⟩ = some (.slice pA ls[i].length pc) := (Gi.out.cell (p := ⟨pb, po + i, none⟩) hpb).trans hcell
      obtain ⟨m, hm⟩ : ∃ m, m = ls[i] := ⟨_, rfl⟩
      rw [← hm] at q hle hrd
      have HM := Lib.hid hm
      have HRD := Lib.hid hrd
      have HS := Lib.hid (show (ls.take i).flatten ++ m = (ls.take (i + 1)).flatten by rw [hm]; exact flat_take ls i hlt2)
      have HSl := Lib.hid (show ((ls.take i).flatten ++ m).length ≤ 2500 by rw [HS.out]; exact Nat.le_trans (flat_le ls _) HFL.out)
      clear HM hm hcell hle hrd hlt2
      obtain ⟨k, hk⟩ : ∃ k, k = m.length := ⟨_, rfl⟩
      rw [← hk] at q
      have HKm := Lib.hid hk
      clear hk
      go_wp2_with fail
      refine (write_any FBi.out ((HRD.out.below Gi.out).more Gi.out.size) HKm.out.symm (OFF.out _ _ HRD.out) (by have := HSl.out; have := HKN.out; have := HK2.out; simp only [List.length_append, layL_len] at *; have := HKm.out; omega) SBi.out).mono ?_
      rintro e w4 ⟨rfl, hb4, hbel⟩
      have FB4 := Lib.hid (show Bl w4 b b (layL (n1 : Int) 4 ++ key ++ (ls.take (i + 1)).flatten) by rw [← HS.out, ← List.append_assoc]; exact hb4)
      have G4 := Lib.hid (show Below w.heap.size w w4 from Below.trans Gi.out (Below.mono hbel (by have := HBe.out; omega)))
      have SB4 := Lib.hid (show b ≤ w4.heap.size from Nat.le_trans SBi.out hbel.size)
      clear hb4 hbel FBi Gi SBi
      go_wp2
      go_roundw
      case rel => exact ⟨i + 1, rfl, by omega, FB4, G4, SB4⟩
      case measure => simp [intOf]; omega
    · obtain rfl : i = n2 := by omega
      have HT := Lib.hid (show layL (n1 : Int) 4 ++ key ++ (ls.take i).flatten = sealQ key ls.flatten by rw [List.take_of_length_le (by rw [HLN.out]; exact Nat.le_refl _)]; unfold sealQ; rw [HKN.out])
      have FB5 := Lib.hid (show Bl wr b b (sealQ key ls.flatten) by rw [← HT.out]; exact FBi.out)
      obtain ⟨q, hq⟩ : ∃ q, q = sealQ key ls.flatten := ⟨_, rfl⟩
      rw [← hq] at FB5
      have HQ := Lib.hid hq
      clear hq HT FBi
      go_wp2_with fail
      refine (strB wr b b q FB5.out SBi.out).mono ?_
      rintro e w4 ⟨rfl, hbel⟩
      have G4 := Lib.hid (show Below w.heap.size w w4 from Below.trans Gi.out (Below.mono hbel (by have := HBe.out; omega)))
      clear hbel
      go_wp2
      go_ret
      exact ⟨by rw [HQ.out]; rfl, G4.out⟩
end Go.Proofs.Ytjklgmhaebjjaaa.S12
