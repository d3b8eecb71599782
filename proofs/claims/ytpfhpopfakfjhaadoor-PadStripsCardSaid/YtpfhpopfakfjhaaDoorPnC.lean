/-
  strings.ContainsAny of a text of any octets and the two that no name has.
-/
import Derived.Test.YtpfhpopfakfjhaaDoorPnB
import Derived.Test.YtpfhpopfakfjhaaDoorApp
import Derived.Lib.RuneCount
namespace Go.Proofs.YtpfhpopfakfjhaaDoor.S10
open Go.RowKit
set_option linter.unusedVariables false
set_option linter.unusedSimpArgs false

/-- What IndexAny answers: no more is asked than whether it found any. -/
def Finds (w : World) (l : List UInt8) (e : Ending) (w' : World) : Prop := ∃ v : Int, e = .returned (.int .i64 v) ∧ decide (0 ≤ v) = !l.all fitB ∧ Grown w w'

set_option maxHeartbeats 4000000 in
set_option maxRecDepth 1000000 in
theorem index_short (l : List UInt8) (n : Nat) (w : World) (hn : l.length = n) (h8 : n ≤ 8) :
    Calls Tryd.prog 22 #[.string { data := l.toArray }, .string { data := #[0, 47] }] w (Finds w l) := by
  obtain ⟨S, hS⟩ : ∃ S : ByteArray, S = { data := l.toArray } := ⟨_, rfl⟩
  have hSn : S.size = n := by rw [hS, ← hn]; rfl
  have HS := Lib.hid hS
  have HN := Lib.hid hn
  rw [← hS]
  clear hS hn
  have h8z : decide ((8 : Int) < (n : Int)) = false := decide_eq_false (by omega)
  go_enter Tryd.func22, Tryd.ntmps22
  go_wp2_with fail
  refine (Sh.Tryd.strings_shouldUseASCIISet _ _).mono ?_
  rintro e w1 ⟨rfl, rfl⟩
  rw [h8z]
  go_wp2_with fail
  go_loopw [9, 10] (fun _ _ wr => Grown w1 wr ∧ ∃ p : Nat, wr.heap[w1.heap.size]? = some (.stringIter S p) ∧ Free l p) (fun _ _ wr => n - posOf wr w1.heap.size)
  case atStart => exact ⟨iter_below w1 S 0, 0, World.iter_heap w1 S 0, Free.zero l⟩
  case round =>
    obtain ⟨hg, p, hp, hfr⟩ := hrel
    have HG := Lib.hid hg
    have HP := Lib.hid hp
    have HF := Lib.hid hfr
    have hb : w1.heap.size < wr.heap.size := lt_of_heap hp
    clear hg hp hfr
    by_cases hlt : p < n
    · have hlt' : p < l.length := by rw [HN.out]; exact hlt
      obtain ⟨c, hc⟩ : ∃ c, l[p] = c := ⟨_, rfl⟩
      obtain ⟨r, hr⟩ : ∃ r, (Utf8.decode S p).1 = r := ⟨_, rfl⟩
      obtain ⟨k, hk⟩ : ∃ k, (Utf8.decode S p).2 = k := ⟨_, rfl⟩
      obtain ⟨V, hV⟩ : ∃ V, turn wr w1.heap.size (.stringIter S (p + k)) = V := ⟨_, rfl⟩
      have hnx := next_any HP.out (by rw [hSn]; exact hlt) 0
      rw [hr, hk, hV] at hnx
      have HV := Lib.hid (show Grown w1 V by rw [← hV]; exact turn_grown HG.out (Nat.le_refl _))
      have HVp := Lib.hid (show V.heap[w1.heap.size]? = some (.stringIter S (p + k)) by rw [← hV]; exact turn_at hb)
      have HW := Lib.hid (show 1 ≤ k by rw [← hk]; exact Lib.decode_width_pos S p (by rw [hSn]; exact hlt))
      have HPo := Lib.hid (posOf_at HP.out)
      have hcS : S.get! (p + 0) = c := by rw [HS.out, ← hc]; exact get_list l p hlt'
      have hlo : c.toNat < 128 → r = c.toNat ∧ k = 1 := fun h => by
        have hd := decode_ascii S p (by rw [hSn]; exact hlt) (by rw [← get_at, hcS]; exact h)
        rw [← hr, ← hk, hd]
        exact ⟨by rw [← get_at, hcS], rfl⟩
      have hhi : 128 ≤ c.toNat → 128 ≤ r := fun h => by
        rw [← hr]
        exact (decode_high S p (by rw [hSn]; exact hlt) (by rw [← get_at, hcS]; exact h)).1
      have hle : r ≤ 2147483647 := by rw [← hr]; exact decode_le S p
      have HFk := Lib.hid (show (128 ≤ c.toNat ∨ (k = 1 ∧ fitB c = true)) → Free l (p + k) from fun h => by
        rcases h with h | ⟨rfl, h⟩
        · have := HF.out.wide hlt' (by rw [hc]; exact h)
          rw [← HS.out, hk] at this
          exact this
        · exact HF.out.one hlt' (by rw [hc]; exact h))
      have HNo := Lib.hid (show fitB c = false → l.all fitB = false from fun h => unfree hlt' (by rw [hc]; exact h))
      clear hV hr hk hcS hc
      -- what IndexRune answers
      have HR : ∃ v : Int, Calls Tryd.prog 27 #[.string { data := #[0, 47] }, .int .i32 (r : Int)] V (fun e w' => e = .returned (.int .i64 v) ∧ Grown V w') ∧ (0 ≤ v ↔ fitB c = false) := by
        by_cases ha : c.toNat < 128
        · obtain ⟨rfl, _⟩ := hlo ha
          refine ⟨Lib.indexByte [0, 47] c, ?_, among c⟩
          have h1 := Sh.Tryd.strings_IndexRune_ascii { data := #[0, 47] } (c.toNat : Int) V (by omega) (by omega)
          rw [show ((c.toNat : Int)).toNat.toUInt8 = c by simp] at h1
          exact h1.mono fun e w' h => ⟨h.1, h.2 ▸ Grown.refl _⟩
        · refine ⟨-1, ?_, by simp [fit_high c (by omega)]⟩
          have h1 := hhi (by omega)
          by_cases hb : (r : Int) = 65533
          · rw [hb]; exact rune_bad V
          · exact rune_high r V (by omega) (by omega) hb
      obtain ⟨v, HC, hv⟩ := HR
      have HC := Lib.hid HC
      have Hlo := Lib.hid hlo
      clear hlo hhi hle
      cases hf : fitB c with
      | true =>
        have hvn : ¬ 0 ≤ v := by rw [hv, hf]; simp
        have HFn := Lib.hid (HFk.out (by
          by_cases ha : c.toNat < 128
          · exact .inr ⟨(Hlo.out ha).2, hf⟩
          · exact .inl (by omega)))
        clear hv HFk HNo Hlo
        go_wp2_with fail
        refine HC.out.mono ?_
        rintro e w3 ⟨rfl, hg3⟩
        have HG3 := Lib.hid (HV.out.trans hg3)
        have HP3 := Lib.hid ((hg3.block _ (lt_of_heap HVp.out)).trans HVp.out)
        clear hg3
        go_wp2_with fail
        go_roundw
        case rel => exact ⟨HG3.out, p + k, HP3.out, HFn.out⟩
        case measure =>
          rw [posOf_at HP3.out, HPo.out]
          have := HW.out
          omega
      | false =>
        have hvn : 0 ≤ v := hv.2 hf
        have HA := Lib.hid (HNo.out hf)
        clear hv HFk HNo Hlo
        go_wp2_with fail
        refine HC.out.mono ?_
        rintro e w3 ⟨rfl, hg3⟩
        have HG3 := Lib.hid (HV.out.trans hg3)
        clear hg3
        go_wp2_with fail
        go_ret
        exact ⟨_, rfl, by rw [HA.out]; simp, HG3.out⟩
    · have hnx := next_end HP.out (by rw [hSn]; exact hlt) 0
      have HA := Lib.hid (HF.out.all (by rw [HN.out]; omega))
      go_wp2_with fail
      go_ret
      exact ⟨_, rfl, by rw [HA.out]; rfl, HG.out⟩

/-- A text of more than eight octets. -/
theorem index_long (l : List UInt8) (n : Nat) (w : World) (hn : l.length = n) (h8 : 8 < n) (hm : n ≤ 1000) :
    Calls Tryd.prog 22 #[.string { data := l.toArray }, .string { data := #[0, 47] }] w (Finds w l) := by
  have hz : ∀ v : World, (zeroValue 52).run Tryd.prog v = .ok (.agg (Array.replicate 256 (.bool false))) v := (zero_of_info (P := Tryd.prog) (t := 52) (n := 256) (by kernel_rfl)).1
  have hs : ({ data := l.toArray } : ByteArray).size = n := by rw [← hn]; rfl
  refine (Sh.Tryd.strings_IndexAny_long hz { data := l.toArray } { data := #[0, 47] } w (by decide) (by omega) (by omega) (by decide) ?_).mono ?_
  · intro j b hb
    have hb : ([0, 47] : List UInt8)[j]? = some b := hb
    rcases j with _ | _ | j
    · simp at hb; subst hb; decide
    · simp at hb; subst hb; decide
    · simp at hb
  · rintro e w' ⟨rfl, rfl⟩
    refine ⟨_, rfl, ?_, ((Below.refl _ _).alloc (Nat.le_refl _) _).alloc (by simp) _⟩
    have := among_any l
    cases ha : l.all fitB with
    | true => rw [ha] at this; simp at this; simpa using this
    | false => exact decide_eq_true (this.2 ha)

set_option maxHeartbeats 1000000 in
/-- Does the text hold one of the two? -/
theorem contains_any (l : List UInt8) (n : Nat) (w : World) (hn : l.length = n) (hm : n ≤ 1000) :
    Calls Tryd.prog 18 #[.string { data := l.toArray }, .string { data := #[0, 47] }] w fun e w' => e = .returned (.bool (!l.all fitB)) ∧ Grown w w' := by
  have HI : Calls Tryd.prog 22 #[.string { data := l.toArray }, .string { data := #[0, 47] }] w (Finds w l) := by
    by_cases h8 : n ≤ 8
    · exact index_short l n w hn h8
    · exact index_long l n w hn (by omega) hm
  go_enter Tryd.func18, Tryd.ntmps18
  go_wp2_with fail
  refine HI.mono ?_
  rintro e w1 ⟨v, rfl, hv, hg⟩
  go_wp2_with fail
  go_ret
  exact ⟨by rw [← hv]; rfl, hg⟩
end Go.Proofs.YtpfhpopfakfjhaaDoor.S10
