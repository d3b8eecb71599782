/-
  SpaceUndo's walk.
-/
import Derived.Test.YtdeojgdjjckoeaaSpT
import Derived.Test.YtdeojgdjjckoeaaSpJ
namespace Go.Proofs.Ytdeojgdjjckoeaa.S15
open Cf
open Go.RowKit
set_option linter.unusedVariables false
set_option linter.unusedSimpArgs false
/-- A row of truths that came in. -/
def RdB (w : World) (B : Nat) (A : Option Addr) (l : List Bool) : Prop := l = [] ∨ ∃ b off, A = some ⟨b, off, none⟩ ∧ b < B ∧ ∀ j (h : j < l.length), w.cell? ⟨b, off + j, none⟩ = some (.bool l[j])
theorem RdB.at_ {w : World} {B : Nat} {A : Option Addr} {l : List Bool} (h : RdB w B A l) {k : Nat} (hk : k < l.length) : ∃ b off, A = some ⟨b, off, none⟩ ∧ b < B ∧ w.cell? ⟨b, off + k, none⟩ = some (.bool l[k]) := by
  rcases h with rfl | ⟨b, off, e, hb, hc⟩
  · simp at hk
  · exact ⟨b, off, e, hb, hc k hk⟩
/-- g of the ones that were used are released, the ones of T are taken. -/
structure Und (was : List Int) (g : Nat) (T : List Int) (s : Sp) : Prop where
  ok : SpOk s
  ord : was.Pairwise (· < ·)
  ends : s.first = 0 ∧ s.last = 40
  going : s.going = was.take g
  used : ∀ x, x ∈ s.used ↔ x ∈ was.drop g ∨ x ∈ T
  tw : ∀ x ∈ T, x ∉ was
  gl : g ≤ was.length
section
variable {was T : List Int} {g : Nat} {s : Sp}
theorem Und.start (h : SpOk s) (he : s.first = 0 ∧ s.last = 40) (hg : s.going = []) : Und s.used 0 [] s where
  ok := h
  ord := h.ord
  ends := he
  going := hg
  used x := by simp
  tw x hx := by simp at hx
  gl := Nat.zero_le _
theorem Und.take (h : Und was g T s) : (spTake s).2.1 ≠ 0 ∧ spTake s = (0, 12, s) ∨ ∃ n, spTake s = (n, 0, (spTake s).2.2) ∧ 0 ≤ n ∧ n < 40 ∧ Und was g (T ++ [n]) (spTake s).2.2 := by
  by_cases hf : spFree s = 0
  · refine .inl ⟨?_, take_full h.ok hf⟩
    rw [take_full h.ok hf]
    simp
  · have := free_nonneg h.ok
    obtain ⟨e0, n, e1, e2, e3⟩ := take_free h.ok (by omega)
    have hi := isFree_iff.1 e2
    rw [h.ends.1, h.ends.2, h.going, h.used] at hi
    refine .inr ⟨n, ?_, hi.1.1, hi.1.2, ?_⟩
    · rw [← e1, ← e0]
    · have ho := ok_take h.ok
      rw [e3] at ho ⊢
      exact { ok := ho, ord := h.ord, ends := h.ends, going := h.going, gl := h.gl,
              used := fun x => by
                show x ∈ ins s.used n ↔ _
                rw [mem_ins, h.used, List.mem_append, List.mem_singleton]
                constructor
                · rintro (e | e | e)
                  · exact .inr (.inr e)
                  · exact .inl e
                  · exact .inr (.inl e)
                · rintro (e | e | e)
                  · exact .inr (.inl e)
                  · exact .inr (.inr e)
                  · exact .inl e
              tw := fun x hx => by
                rcases List.mem_append.1 hx with e | e
                · exact h.tw x e
                · rw [List.mem_singleton.1 e]
                  intro hw
                  rw [← List.take_append_drop g was, List.mem_append] at hw
                  rcases hw with hw | hw
                  · exact hi.2.2 hw
                  · exact hi.2.1 (.inl hw) }
theorem Und.give (h : Und was g T s) (hg : g < was.length) : spGive s [was[g]] = (0, (spGive s [was[g]]).2) ∧ Und was (g + 1) T (spGive s [was[g]]).2 := by
  have hd : was.drop g = was[g] :: was.drop (g + 1) := List.drop_eq_getElem_cons hg
  have hu : was[g] ∈ s.used := (h.used _).2 (.inl (by rw [hd]; exact List.mem_cons_self))
  have he : spGive s [was[g]] = (0, { s with used := wo s.used was[g], going := s.going ++ [was[g]] }) := by
    unfold spGive
    rw [if_pos]
    · rfl
    · simp [hu, twice, S15.tw]
  have ho := ok_give h.ok [was[g]]
  rw [he] at ho
  rw [he]
  refine ⟨rfl, { ok := ho, ord := h.ord, ends := h.ends, going := ?_, used := fun x => ?_, tw := h.tw, gl := hg }⟩
  · show s.going ++ _ = _
    rw [h.going, List.take_succ_eq_append_getElem hg]
  · show x ∈ wo s.used was[g] ↔ _
    rw [mem_wo, h.used, hd, List.mem_cons]
    have hn : was[g] ∉ was.drop (g + 1) := by
      have hp := h.ord
      rw [← List.take_append_drop g was, hd, List.pairwise_append] at hp
      have hp := List.pairwise_cons.1 hp.2.1
      intro hm
      have := hp.1 _ hm
      omega
    constructor
    · rintro ⟨(e | e) | e, hne⟩
      · exact absurd e hne
      · exact .inl e
      · exact .inr e
    · rintro (e | e)
      · exact ⟨.inl (.inr e), fun e2 => hn (e2 ▸ e)⟩
      · exact ⟨.inr e, fun e2 => h.tw x e (e2 ▸ List.getElem_mem hg)⟩
theorem Und.undo (h : Und was g T s) : SpOk (spUndo s T) ∧ (spUndo s T).used = was ∧ spFree (spUndo s T) = 40 - (was.length : Int) := by
  have ho := ok_undo h.ok T
  have hu : (spUndo s T).used = was := by
    refine ord_ext ho.ord h.ord fun x => ?_
    show x ∈ s.going.foldl ins (T.foldl wo s.used) ↔ _
    rw [mem_insf, mem_wof, h.used, h.going]
    have hw : x ∈ was ↔ x ∈ was.take g ∨ x ∈ was.drop g := by rw [← List.mem_append, List.take_append_drop]
    constructor
    · rintro (⟨e | e, hn⟩ | e)
      · exact hw.2 (.inr e)
      · exact absurd e hn
      · exact hw.2 (.inl e)
    · intro e
      rcases hw.1 e with e1 | e1
      · exact .inr e1
      · exact .inl ⟨.inl e1, fun e2 => h.tw x e2 e⟩
  refine ⟨ho, hu, ?_⟩
  have h1 := free_eq (spUndo s T)
  rw [hu] at h1
  have e0 : (spUndo s T).going = [] := rfl
  have e1 : (spUndo s T).first = 0 := h.ends.1
  have e2 : (spUndo s T).last = 40 := h.ends.2
  rw [e0, e1, e2] at h1
  simp at h1
  omega
theorem Und.len (h : Und was g T s) : was.length ≤ 40 := by
  have := h.undo
  have := free_nonneg this.1
  omega
theorem Und.irs (h : Und was g T s) : Irs T := fun x hx => by
  have := h.ok.ur x ((h.used x).2 (.inr hx))
  rw [h.ends.1, h.ends.2] at this
  unfold Ir
  omega
theorem use_going (s : Sp) (l : List Int) : (spUse s l).2.going = s.going ∧ (spUse s l).2.first = s.first ∧ (spUse s l).2.last = s.last := by
  unfold spUse
  split <;> exact ⟨rfl, rfl, rfl⟩
end
/-- The space, the row that it was, the row that is taken. -/
structure Um (D : STab) (w0 : World) (was : List Int) (A : Option Addr) (T : List Int) (At : Option Addr) (ct : Nat) (w : World) (G : Nat) (F : Nat → Prop) (s : Sp) : Prop where
  sp : SSince D w0 w G F s
  rd : RdZ w w.heap.size A was
  off : ∀ x, A = some x → was ≠ [] → ¬ F x.block
  ow : OwZ w w0.heap.size At ct T
  oft : ∀ x, At = some x → ¬ F x.block
  two : ∀ x, At = some x → ∀ y, A = some y → was ≠ [] → x.block ≠ y.block
section
variable {D : STab} {w0 w w' : World} {was T : List Int} {A At : Option Addr} {ct G : Nat} {F F' : Nat → Prop} {s s' : Sp}
theorem RdZ.blk {B : Nat} {l : List Int} (h : RdZ w B A l) (hl : l ≠ []) : ∀ x, A = some x → x.block < B := by
  rcases h with h | ⟨b, off, rfl, hb, _⟩
  · exact absurd h hl
  · intro x hx
    simp only [Option.some.injEq] at hx
    subst hx
    exact hb
theorem Um.grow (K : SpaceOk D) (h : Um D w0 was A T At ct w G F s) (hg : Grown w w') : Um D w0 was A T At ct w' G F s :=
  ⟨h.sp.grow K hg, h.rd.grow hg, h.off, h.ow.grow hg, h.oft, h.two⟩
theorem Um.step (h : Um D w0 was A T At ct w G F s) (h1 : SSince D w0 w' G F' s') (h2 : ∀ k, F' k → F k ∨ w.heap.size ≤ k) (h3 : Ch F w w') : Um D w0 was A T At ct w' G F' s' where
  sp := h1
  rd := rdZ_ch h.rd h3 h.off
  off x hx hl hf := by
    rcases h2 _ hf with h4 | h4
    · exact h.off x hx hl h4
    · have := h.rd.blk hl x hx; omega
  ow := Ow.keep h.ow fun x hx => h3.block x.block (Ow.lt h.ow x hx).2 (h.oft x hx)
  oft x hx hf := by
    rcases h2 _ hf with h4 | h4
    · exact h.oft x hx h4
    · have := (Ow.lt h.ow x hx).2; omega
  two := h.two
/-- One more that is taken. -/
theorem Um.app (K : SpaceOk D) (h : Um D w0 was A T At ct w G F s) {n : Int} {A' : Option Addr} {c' nt : Nat} (ho : OwZ w' w0.heap.size A' c' (T ++ [n])) (hg : w.grownBy w' (Value.slice At nt ct).ownBlock) (hm : Moved w At A') : Um D w0 was A (T ++ [n]) A' c' w' G F s := by
  have hk : ∀ k, k < w.heap.size → (∀ x, At = some x → x.block ≠ k) → w'.heap[k]? = w.heap[k]? := fun k hk hne => hg.block k hk fun e => by
    obtain ⟨y, hy, hyk⟩ := own_blk e
    exact hne y hy hyk
  refine ⟨⟨K.keep w w' G F s h.sp.1 (fun k hf => hk k (K.foot w G F s h.sp.1 k hf) fun x hx e => h.oft x hx (e ▸ hf)) hg.size, h.sp.2.1, ?_⟩, ?_, h.off, ho, fun x hx hf => ?_, fun x hx y hy hl e => ?_⟩
  · refine ⟨hg.os.trans h.sp.2.2.os, hg.tape.trans h.sp.2.2.tape, hg.output.trans h.sp.2.2.output, Nat.le_trans h.sp.2.2.size hg.size, fun k hk0 => (hk k (Nat.lt_of_lt_of_le hk0 h.sp.2.2.size) fun x hx e => ?_).trans (h.sp.2.2.block k hk0)⟩
    have := (Ow.lt h.ow x hx).1
    omega
  · rcases h.rd with e | ⟨b, off, e, hb, hc⟩
    · exact .inl e
    · by_cases hl : was = []
      · exact .inl hl
      · exact .inr ⟨b, off, e, Nat.lt_of_lt_of_le hb hg.size, fun j hj => (World.cell?_of_block (a := ⟨b, off + j, none⟩) (hk b hb fun x hx => h.two x hx _ e hl)).trans (hc j hj)⟩
  · rcases moved_or hm x hx with h4 | h4
    · exact h.oft x h4 hf
    · have := K.foot w G F s h.sp.1 _ hf; omega
  · rcases moved_or hm x hx with h4 | h4
    · exact h.two x h4 y hy hl e
    · have := h.rd.blk hl y hy; omega
set_option maxHeartbeats 8000000 in
theorem undo_walk (K : SpaceOk D) (A : Option Addr) (m c : Nat) (ul : List UInt8) (A2 : Option Addr) (m2 c2 : Nat) (steps : List Bool) (w : World) (hA : Rd w w.heap.size A ul) (hm : ul.length = m) (hA2 : RdB w w.heap.size A2 steps) (hm2 : steps.length = m2) :
    Calls Try.prog 5 #[.slice A m c, .slice A2 m2 c2] w fun e w' => e = .returned (.bool true) ∧ Below w.heap.size w w' := by
  have KK := Lib.hid K
  have HA := Lib.hid hA
  have HM := Lib.hid hm
  have HA2 := Lib.hid hA2
  have HM2 := Lib.hid hm2
  clear K hA hm hA2 hm2
  go_enter Try.func5, Try.ntmps5
  go_wp2_with fail
  refine (awakeSp KK.out w).mono ?_
  rintro e w0 ⟨rfl, hg0⟩
  have G0 := Lib.hid hg0
  clear hg0
  by_cases h1 : 20 < m
  · have b1 : (m : Int) > 20 := by omega
    go_wp2_with fail
    refine (awakeSp KK.out w0).mono ?_
    rintro e wz ⟨rfl, hgz⟩
    have GZ := Lib.hid (Grown.trans G0.out hgz)
    clear hgz
    go_wp2
    go_ret
    exact ⟨rfl, GZ.out⟩
  have b1 : ¬ (m : Int) > 20 := by omega
  have hm20 : m ≤ 20 := by omega
  clear h1
  by_cases h2 : 30 < m2
  · have b2 : (m2 : Int) > 30 := by omega
    go_wp2_with fail
    refine (awakeSp KK.out w0).mono ?_
    rintro e wz ⟨rfl, hgz⟩
    have GZ := Lib.hid (Grown.trans G0.out hgz)
    clear hgz
    go_wp2
    go_ret
    exact ⟨rfl, GZ.out⟩
  have b2 : ¬ (m2 : Int) > 30 := by omega
  have hm30 : m2 ≤ 30 := by omega
  clear h2
  go_wp2_with fail
  refine (KK.out.new w0 0 40 (by omega) (by omega) (by omega)).mono ?_
  rintro e w1 ⟨G, F, rfl, hd, hF, hg⟩
  have Z1 := Lib.hid (show SSince D w w1 G F (spNew 0 40) from ⟨hd, fun k hk => Nat.le_trans G0.out.size (hF k hk), Grown.trans G0.out hg⟩)
  have O1 := Lib.hid (spOk_new 0 40 (by omega) (by omega) (by omega))
  clear hd hF hg G0
  go_wp2_with fail
  go_loopw [7] (fun v7 wr => ∃ (i : Nat) (s : Sp) (F : Nat → Prop), v7 = .int .i64 (i : Int) ∧ i ≤ m ∧ Hid (SpOk s) ∧ Hid (s.first = 0 ∧ s.last = 40) ∧ Hid (s.going = []) ∧ Hid (SSince D w wr G F s)) (fun v7 _ => m - (intOf v7).toNat)
  case atStart => exact ⟨0, _, F, rfl, Nat.zero_le _, O1.out, ⟨rfl, rfl⟩, rfl, Z1.out⟩
  case round =>
    clear Z1 O1
    obtain ⟨i, s, F, rfl, hi, HO, HB, HGo, HZ⟩ := hrel
    by_cases hlt : i < m
    · have bi : (i : Int) < (m : Int) := by omega
      have hia : i < ul.length := by rw [HM.out]; exact hlt
      obtain ⟨x, hx⟩ : ∃ x, x = ul[i] := ⟨_, rfl⟩
      obtain ⟨b5, o5, rfl, hb5, hcw⟩ := HA.out.at_ hia
      have hcx : wr.cell? ⟨b5, o5 + i, none⟩ = some (.int .u8 (x.toNat : Int)) := by rw [HZ.out.2.2.cell (p := ⟨b5, o5 + i, none⟩) hb5, hx]; exact hcw
      have hx256 := u8_lt x
      obtain ⟨q, hq⟩ : ∃ q, q = x.toNat := ⟨_, rfl⟩
      rw [← hq] at hcx hx256
      obtain ⟨a, ha⟩ : ∃ a, a = q % 40 := ⟨_, rfl⟩
      have hat : ((q : Int).tmod 40) = (a : Int) := by rw [Int.tmod_eq_emod_of_nonneg (by omega), ha]; omega
      have hak : a < 40 := by rw [ha]; exact Nat.mod_lt _ (by omega)
      clear hx hcw hia ha hq
      go_wp2_with fail
      refine (use1 KK.out HZ.out HO.out (a : Int) (by unfold Ir; omega) _).mono ?_
      rintro e w5 ⟨rfl, F5, hz⟩
      have hgo := use_going s [(a : Int)]
      have OO := Lib.hid (ok_use HO.out [(a : Int)])
      have ZZ := Lib.hid hz
      obtain ⟨v2, hv2⟩ : ∃ v, v = (spUse s [(a : Int)]).1 := ⟨_, rfl⟩
      rw [← hv2]
      obtain ⟨s1, hs1⟩ : ∃ s1, s1 = (spUse s [(a : Int)]).2 := ⟨_, rfl⟩
      rw [← hs1] at OO ZZ hgo
      have LL := Lib.hid (show s1.first = 0 ∧ s1.last = 40 by rw [hgo.2.1, hgo.2.2]; exact HB.out)
      have GG := Lib.hid (show s1.going = [] by rw [hgo.1]; exact HGo.out)
      clear hz hgo hs1 hv2 HZ HO HB HGo hcx
      go_wp2
      exact ⟨⟨i + 1, s1, F5, by simp, by omega, OO.out, LL.out, GG.out, ZZ.out⟩, by simp [intOf]; omega⟩
    · have bi : ¬ (i : Int) < (m : Int) := by omega
      obtain ⟨was, hwas⟩ : ∃ was, was = s.used := ⟨_, rfl⟩
      obtain ⟨n, hn⟩ : ∃ n, n = was.length := ⟨_, rfl⟩
      have U0 := Lib.hid (show Und was 0 [] s by rw [hwas]; exact Und.start HO.out HB.out HGo.out)
      have HN := Lib.hid hn
      have hn40 : n ≤ 40 := by rw [hn]; exact U0.out.len
      have HW := Lib.hid hwas
      clear hwas hn hlt hi HA HM HB HGo
      go_wp2_with fail
      refine (KK.out.used wr G F s HZ.out.1 HO.out).mono ?_
      rintro e wu ⟨Aw, mu, cw, rfl, hmu, hcu, hrd, hgu, hfr⟩
      obtain rfl : mu = n := by rw [HN.out, HW.out]; exact hmu.symm
      rw [← HW.out] at hrd hfr
      have M0 := Lib.hid (show Um D w was Aw [] none 0 wu G F s from ⟨HZ.out.grow KK.out hgu, hrd, fun x hx hl hf => by
        have h1 := hfr x hx hl
        have h2 := KK.out.foot wr G F s HZ.out.1 _ hf
        omega, OwZ.nil _ _, (fun x hx => by cases hx), (fun x hx => by cases hx)⟩)
      clear hgu HZ HO HW hmu hrd hfr
      go_wp2_with fail
      go_loopw [9, 10, 11] (fun v9 v10 v11 wr => ∃ (j g nt ct cl : Nat) (T : List Int) (At Al : Option Addr) (s : Sp) (F : Nat → Prop), v9 = .slice At nt ct ∧ v10 = .slice Al (mu - g) cl ∧ v11 = .int .i64 (j : Int) ∧ j ≤ m2 ∧ g ≤ mu ∧ nt ≤ j ∧ mu - g ≤ cl ∧ Hid (T.length = nt) ∧ Hid (Und was g T s) ∧ Hid (Um D w was Aw T At ct wr G F s) ∧ Hid (∀ W : World, RdZ W W.heap.size Aw was → RdZ W W.heap.size Al (was.drop g))) (fun _ _ v11 _ => m2 - (intOf v11).toNat)
      case atStart => exact ⟨0, 0, 0, 0, cw, [], none, Aw, s, F, rfl, rfl, rfl, Nat.zero_le _, Nat.zero_le _, Nat.zero_le _, hcu, rfl, U0.out, M0.out, (fun W h => h)⟩
      case round =>
        clear U0 M0
        obtain ⟨j, g, nt, ct, cl, T, At, Al, s, F, rfl, rfl, rfl, hj, hg, hnt, hcl, HT, HU, HM, HL⟩ := hrel
        by_cases hlt : j < m2
        · have bj : (j : Int) < (m2 : Int) := by omega
          have hia : j < steps.length := by rw [HM2.out]; exact hlt
          obtain ⟨x, hx⟩ : ∃ x, x = steps[j] := ⟨_, rfl⟩
          obtain ⟨b5, o5, rfl, hb5, hcw⟩ := HA2.out.at_ hia
          have hcx : wr.cell? ⟨b5, o5 + j, none⟩ = some (.bool x) := by rw [HM.out.sp.2.2.cell (p := ⟨b5, o5 + j, none⟩) hb5, hx]; exact hcw
          clear hx hcw hia
          cases x with
          | true =>
            have HT1 := Lib.hid HU.out.take
            go_wp2_with fail
            refine (KK.out.take wr G F s HM.out.sp.1 HU.out.ok).mono ?_
            rintro e w5 ⟨rfl, h1⟩
            obtain ⟨F5, hz, hz2, hz3⟩ := HM.out.sp.step h1
            have M5 := Lib.hid (HM.out.step hz hz2 hz3)
            clear h1 hz hz2 hz3 HM hcx
            rcases HT1.out with ⟨_, hf⟩ | ⟨x, hf, hx0, hx1, hu⟩
            · rw [hf] at M5 ⊢
              clear HT1 hf
              go_wp2_with fail
              exact ⟨⟨j + 1, g, nt, ct, cl, T, At, Al, s, F5, rfl, rfl, by simp, by omega, hg, by omega, hcl, HT.out, HU.out, M5.out, HL.out⟩, by simp [intOf]; omega⟩
            · obtain ⟨s1, hs1⟩ : ∃ s1, s1 = (spTake s).2.2 := ⟨_, rfl⟩
              rw [← hs1] at M5 hf hu
              rw [hf]
              have U5 := Lib.hid hu
              clear HT1 hf hu hs1
              obtain ⟨i0, hi0, hz0, hz01, hz02⟩ := info_parts infoZ
              have hb5w := M5.out.sp.2.2.size
              have ha5 := (alloc_below w5 (.cells #[.int .i64 x] 3)).size
              go_wp2_with (first
                | (at_builtin
                   refine wpList_appOw (e := 3) Try.underlying30 hi0 hz0 hz01 hz02 rfl (by decide) rfl (.tmp 68) (.tmp 70) rfl (base := w.heap.size) (n := nt) (vs := T.map zv) (u := zv x) (by rw [List.length_map]; exact HT.out) rfl (OwZ.grow M5.out.ow (alloc_below w5 _)) rfl (cell_of_row _ _ 0 _ _ (0, 0) (heap_alloc_new w5 _)) rfl (by omega) (by omega) ?_
                   intro A8 c8 w8 ho8 hg8 hm8
                   have M8 := Lib.hid ((M5.out.grow KK.out (alloc_below w5 (.cells #[.int .i64 x] 3))).app KK.out (n := x) (A' := A8) (c' := c8) (nt := nt) (by unfold OwZ; rw [List.map_append]; exact ho8) hg8 hm8)
                   clear ho8 hg8 hm8 M5))
              exact ⟨⟨j + 1, g, nt + 1, c8, cl, T ++ [x], A8, Al, s1, F5, rfl, rfl, by simp, by omega, hg, by omega, hcl, Lib.hid (by rw [List.length_append, HT.out]; rfl), U5.out, M8.out, HL.out⟩, by simp [intOf]; omega⟩
          | false =>
            by_cases hg1 : g < mu
            · have bg : ((mu - g : Nat) : Int) > 0 := by omega
              have hgw : g < was.length := by rw [← HN.out]; exact hg1
              have HG1 := Lib.hid (HU.out.give hgw)
              have hd := HL.out wr HM.out.rd
              obtain ⟨bl, ol, rfl, hbl, hcl0⟩ := hd.at_ (k := 0) (by rw [List.length_drop]; omega)
              obtain ⟨x, hx⟩ : ∃ x, x = was[g] := ⟨_, rfl⟩
              have hcy : wr.cell? ⟨bl, ol, none⟩ = some (.int .i64 x) := by rw [hx]; simpa using hcl0
              have hxr : Ir x := by
                have h1 := HU.out.ok.ur x ((HU.out.used x).2 (.inl (by rw [hx, List.drop_eq_getElem_cons hgw]; exact List.mem_cons_self)))
                rw [HU.out.ends.1, HU.out.ends.2] at h1
                unfold Ir
                omega
              rw [← hx] at HG1
              obtain ⟨A7, hA7⟩ : ∃ A7, A7 = (if cl = 1 then some (⟨bl, ol, none⟩ : Addr) else (some (⟨bl, ol, none⟩ : Addr)).map (·.add 1)) := ⟨_, rfl⟩
              have hcut : ∀ V : World, (Instr.slice 30 (.slice (some ⟨bl, ol, none⟩) (mu - g) cl) (some (.int .i64 1)) none none).run Try.prog V = .ok (.slice A7 (mu - (g + 1)) (cl - 1)) V := fun V => by
                rw [hA7, ← Nat.sub_sub]
                exact cutZ V (some ⟨bl, ol, none⟩) (mu - g) cl 1 (by omega)
              have HL7 := Lib.hid (show ∀ W : World, RdZ W W.heap.size Aw was → RdZ W W.heap.size A7 (was.drop (g + 1)) from fun W h => by
                have h1 := (HL.out W h).cut (k := 1) (cap := cl) (by rw [List.length_drop, ← HN.out]; exact hcl)
                rw [List.drop_drop] at h1
                rw [hA7]
                exact h1)
              clear hcl0 hd hx hgw hA7
              go_wp2_with fail
              refine (give1 KK.out HM.out.sp HU.out.ok x hxr _).mono ?_
              rintro e w5 ⟨rfl, F5, hz, hz2, hz3⟩
              have M5 := Lib.hid ((HM.out.grow KK.out (alloc_below wr (.cells #[.int .i64 x] 3))).step hz hz2 hz3)
              rw [HG1.out.1]
              have U5 := Lib.hid HG1.out.2
              clear hz hz2 hz3 HM hcy hcx
              go_wp2_with fail
              exact ⟨⟨j + 1, g + 1, nt, ct, cl - 1, T, At, A7, _, F5, rfl, rfl, by simp, by omega, by omega, by omega, by omega, HT.out, U5.out, M5.out, HL7.out⟩, by simp [intOf]; omega⟩
            · have bg : ¬ ((mu - g : Nat) : Int) > 0 := by omega
              go_wp2_with fail
              exact ⟨⟨j + 1, g, nt, ct, cl, T, At, Al, s, F, rfl, rfl, by simp, by omega, hg, by omega, hcl, HT.out, HU.out, HM.out, HL.out⟩, by simp [intOf]; omega⟩
        · have bj : ¬ (j : Int) < (m2 : Int) := by omega
          go_wp2_with fail
          refine (KK.out.undo wr G F s At nt ct T HM.out.sp.1 HU.out.ok HM.out.ow.rd HT.out (by rw [← HT.out]; exact HM.out.ow.le) (by omega) HU.out.irs (fun x hx _ => HM.out.oft x hx)).mono ?_
          rintro e w5 ⟨rfl, h1⟩
          obtain ⟨F5, hz, hz2, hz3⟩ := HM.out.sp.step h1
          have M5 := Lib.hid (HM.out.step hz hz2 hz3)
          have UU := Lib.hid HU.out.undo
          obtain ⟨s1, hs1⟩ : ∃ s1, s1 = spUndo s T := ⟨_, rfl⟩
          rw [← hs1] at M5 UU
          clear h1 hz hz2 hz3 HM hs1 HL HU
          go_wp2_with fail
          refine (KK.out.used w5 G F5 s1 M5.out.sp.1 UU.out.1).mono ?_
          rintro e wv ⟨Av, mv, cv, rfl, hmv, hcv, hrv, hgv, _⟩
          rw [UU.out.2.1] at hmv hrv
          obtain rfl : mu = mv := by rw [HN.out]; exact hmv
          have M6 := Lib.hid (M5.out.grow KK.out hgv)
          have RV := Lib.hid hrv
          clear hmv hrv hgv M5
          go_wp2_with fail
          refine (refInts_any RV.out HN.out.symm (by omega) M6.out.rd HN.out.symm (by omega)).mono ?_
          rintro e w7 ⟨rfl, hg7⟩
          have M7 := Lib.hid (M6.out.grow KK.out hg7)
          rw [decide_eq_true (rfl : was = was)]
          clear hg7 M6 RV
          go_wp2_with fail
          refine (KK.out.free w7 G F5 s1 M7.out.sp.1 UU.out.1).mono ?_
          rintro e w8 ⟨rfl, hg8⟩
          rw [UU.out.2.2, ← HN.out]
          have M8 := Lib.hid (M7.out.grow KK.out hg8)
          clear hg8 M7
          go_wp2
          go_ret
          exact ⟨rfl, M8.out.sp.2.2⟩
end
end Go.Proofs.Ytdeojgdjjckoeaa.S15
