/-
  The reference's cache: Write. A space on lists: the used sectors in order, the released ones; without the program.
-/
import Derived.Test.YthakdjaaknbmpaaMgKactsMain16
import Derived.Test.YthakdjaaknbmpaaMgKactsMain8
namespace Go.Proofs.Ythakdjaaknbmpaa.S14
open S13
open Cf
open Go.RowKit
set_option linter.unusedVariables false
set_option linter.unusedSimpArgs false

set_option maxRecDepth 20000 in
set_option maxHeartbeats 8000000 in
theorem qWrite {base : Nat} {w : World} {Q R room i : Nat} {F : Nat → Prop} {l : Ka} {dv : Dv} (h : Cd (RD base) (RC base) w Q R F room l dv) (hk : KOk room dv.kept.length l) (hd : Ok dv i) (hi : i ≤ 1000) (hl : dv.kept.length ≤ 100) (hr : room < 9223372036854775808) (n : Int)
    (A2 : Option Addr) (n2 c2 : Nat) (b : List UInt8) (hb : Rd w w.heap.size A2 b) (hn2 : b.length = n2) (hn2b : n2 ≤ 1000) (hoff : ∀ x, A2 = some x → b ≠ [] → ¬ F x.block) :
    Calls Try.prog 12 #[.pointer (some ⟨Q, 0, none⟩), .int .i64 n, .slice A2 n2 c2] w fun e w' => e = .returned (.int .i64 (kaWrite room l dv n b).1) ∧ CdOn (RD base) (RC base) w Q R F room (kaWrite room l dv n b).2.1 (kaWrite room l dv n b).2.2 w' := by
  obtain ⟨Fc, Fd, ⟨Aa, Aw, hq, rfl⟩, hD, ha, hF⟩ := h
  have H := Lib.hid hq
  have HDv := Lib.hid hD
  have HAp := Lib.hid ha
  have HFF := Lib.hid hF
  have HOk := Lib.hid hd
  have HKo := Lib.hid hk
  have HL := Lib.hid hl
  have HBr := Lib.hid hb
  have HBl := Lib.hid hn2
  have HOff := Lib.hid (show ∀ x, A2 = some x → b ≠ [] → ¬ Fd x.block from fun x hx hne hf => hoff x hx hne ((hF _).2 (.inr hf)))
  have HOffQ := Lib.hid (show ∀ x, A2 = some x → b ≠ [] → ¬ QF Q Aa Aw x.block from fun x hx hne hf => hoff x hx hne ((hF _).2 (.inl hf)))
  have hml : l.length ≤ 100 := Nat.le_trans hk.few hl
  obtain ⟨ca, cw, l1, l2, q0, q1, q2, q3⟩ := hq.cells
  clear hq hD ha hF hd hk hl hb hn2 hoff q1 q2 q3 l1 l2
  go_enter Try.func12, Try.ntmps12
  go_wp2_with fail
  refine (rWrite HDv.out HOk.out hi HL.out n A2 n2 c2 b HBr.out HBl.out hn2b HOff.out).mono ?_
  rintro e w1 ⟨rfl, hdo⟩
  have HB := Lib.hid (cd_both (C := RC base) (rcKept base) ⟨Aa, Aw, H.out, rfl⟩ HAp.out HFF.out hdo)
  have HO := Lib.hid (cd_dev (C := RC base) (rcKept base) ⟨Aa, Aw, H.out, rfl⟩ HAp.out HFF.out hdo)
  have HQ1 := Lib.hid (show Qv w1 base Q R Aa Aw room l by
    obtain ⟨Fd', h1, h2, h3⟩ := hdo
    exact H.out.keep (fun k hk => h3.block k (H.out.lt k hk).2 (HAp.out k hk)))
  have HB1 := Lib.hid (show Rd w1 w1.heap.size A2 b by
    obtain ⟨Fd', h1, h2, h3⟩ := hdo
    exact rd_ch13 HBr.out h3 HOff.out)
  obtain ⟨E, hE⟩ : ∃ E, E = (dvWrite dv n b).1 := ⟨_, rfl⟩
  rw [← hE]
  have HE := Lib.hid hE
  clear hdo hE
  by_cases he : E = 0
  · have HR := Lib.hid (show kaWrite room l dv n b = (0, kaUse room l n.toNat (pad512 b), (dvWrite dv n b).2) by
      unfold kaWrite
      rw [if_pos (by rw [← HE.out]; exact he)])
    have hn := write_ok (HE.out.symm.trans he)
    obtain ⟨t, rfl⟩ : ∃ t : Nat, n = (t : Int) := ⟨n.toNat, by omega⟩
    have ht : t ≤ 100000 := by have := HL.out; omega
    have hbl5 : n2 ≤ 512 := by rw [← HBl.out]; exact hn.2.2
    subst he
    obtain ⟨z, hz⟩ : ∃ z, z = 512 - n2 := ⟨_, rfl⟩
    have hz2 : (512 : Int) - (n2 : Int) = (z : Int) := by omega
    have HPd := Lib.hid (show pad512 b = b ++ List.replicate z 0 by unfold pad512; rw [HBl.out, hz])
    have hzle : z ≤ 512 := by omega
    clear hn hz
    go_wp2_with fail
    have GD := Lib.hid (show Grown w1 w1.drew from (Below.refl _ w1).drew)
    have H1 := Lib.hid (HQ1.out.grow GD.out)
    have B1 := Lib.hid (show Rd w1.drew w1.drew.heap.size A2 b from HB1.out)
    generalize hwd : w1.drew = wd at GD H1 B1
    obtain ⟨SB, hSB⟩ : ∃ S : ByteArray, S = ⟨b.toArray⟩ := ⟨_, rfl⟩
    have HSB := Lib.hid hSB
    clear hSB
    have SV := Lib.hid (show (convert 38 9 (.slice A2 n2 c2)).run Try.prog wd = .ok (.string SB) wd from by
      have := conv B1.out c2
      rw [HBl.out] at this
      rw [HSB.out]; exact this)
    refine restS_begin (fun v : World => (convert 38 9 (.slice A2 n2 c2)).run Try.prog v = .ok (.string SB) v) (by kernel_rfl) ?_
    rw [hwd]
    clear hwd
    have hwz : IntKind.i64.wrap (z : Int) = (z : Int) := by rw [IntKind.wrap_i64]; omega
    refine restS_take (i := 0) SV.out rfl (by kernel_rfl) (by kernel_rfl) (by kernel_rfl) (by rfl) (fun v hv => by obtain v2 := hv; go_simp; try with_reducible rfl) ?_
    try simp only [Act.put, List.setIfInBounds_toArray, List.set_cons_zero, List.set_cons_succ]
    refine restS_take (i := 1) SV.out rfl (by kernel_rfl) (by kernel_rfl) (by kernel_rfl) (by rfl) (fun v hv => by obtain v2 := hv; go_simp; try with_reducible rfl) ?_
    try simp only [Act.put, List.setIfInBounds_toArray, List.set_cons_zero, List.set_cons_succ]
    refine restS_take (i := 2) SV.out rfl (by kernel_rfl) (by kernel_rfl) (by kernel_rfl) (by rfl) (fun v hv => by obtain v2 := hv; go_simp; try with_reducible rfl) ?_
    try simp only [Act.put, List.setIfInBounds_toArray, List.set_cons_zero, List.set_cons_succ]
    refine restS_take (i := 3) SV.out rfl (by kernel_rfl) (by kernel_rfl) (by kernel_rfl) (by rfl) (fun v hv => by obtain v2 := hv; go_simp; try with_reducible rfl) ?_
    try simp only [Act.put, List.setIfInBounds_toArray, List.set_cons_zero, List.set_cons_succ]
    refine restS_take (i := 4) SV.out rfl (by kernel_rfl) (by kernel_rfl) (by kernel_rfl) (by rfl) (fun v hv => by obtain v2 := hv; go_simp; try with_reducible rfl) ?_
    try simp only [Act.put, List.setIfInBounds_toArray, List.set_cons_zero, List.set_cons_succ]
    refine restS_take (i := 5) SV.out rfl (by kernel_rfl) (by kernel_rfl) (by kernel_rfl) (by rfl) (fun v hv => by obtain v2 := hv; go_simp; try with_reducible rfl) ?_
    try simp only [Act.put, List.setIfInBounds_toArray, List.set_cons_zero, List.set_cons_succ]
    refine restS_take (i := 6) SV.out rfl (by kernel_rfl) (by kernel_rfl) (by kernel_rfl) (by rfl) (fun v hv => by obtain v2 := hv; go_simp; try with_reducible rfl) ?_
    try simp only [Act.put, List.setIfInBounds_toArray, List.set_cons_zero, List.set_cons_succ]
    have hmk := mk22 z (by omega)
    refine restS_lone (i := 7) rfl (by kernel_rfl) (by rfl) (fun K hK => ?_)
    go_simp
    clear hmk
    have GA := Lib.hid (alloc_below wd (.cells (bvs (List.replicate z 0)).toArray 5))
    have RA := Lib.hid ((Row.new wd (List.replicate z (0 : UInt8))).rd (B := (wd.alloc (.cells (bvs (List.replicate z 0)).toArray 5)).heap.size) (by simp))
    have H2 := Lib.hid (H1.out.grow GA.out)
    have B2 := Lib.hid (B1.out.grow GA.out)
    obtain ⟨gz, hgz⟩ : ∃ g, g = wd.heap.size := ⟨_, rfl⟩
    have Hgz := Lib.hid (show ∀ k, QF Q Aa Aw k → k ≠ gz from fun k hk e => by have := (H1.out.lt k hk).2; omega)
    rw [← hgz] at RA ⊢
    clear hgz H1 B1
    generalize wd.alloc _ = w2 at GA RA H2 B2 ⊢
    obtain ⟨SZ, hSZ⟩ : ∃ S : ByteArray, S = ⟨(List.replicate z (0 : UInt8)).toArray⟩ := ⟨_, rfl⟩
    have HSZ := Lib.hid hSZ
    clear hSZ
    obtain ⟨PS, hPS⟩ : ∃ P : ByteArray, P = ⟨(pad512 b).toArray⟩ := ⟨_, rfl⟩
    have HPS := Lib.hid hPS
    have hadd : ∀ V : World, (Op.stringOp .add SB SZ).run Try.prog V = .ok (.string PS) V := fun V => by
      rw [hPS, HPd.out, HSB.out, HSZ.out]
      exact addS b (List.replicate z 0) (by rw [HBl.out, List.length_replicate]; omega) V
    clear hPS
    have SW := Lib.hid (show (convert 38 9 (.slice A2 n2 c2)).run Try.prog w2 = .ok (.string SB) w2 ∧ (convert 38 9 (.slice (some ⟨gz, 0, none⟩) z z)).run Try.prog w2 = .ok (.string SZ) w2 from by
      refine ⟨?_, ?_⟩
      · have := conv B2.out c2
        rw [HBl.out] at this
        rw [HSB.out]; exact this
      · have := conv RA.out z
        rw [List.length_replicate] at this
        rw [HSZ.out]; exact this)
    refine hK.out _ _ SW.out.1 ?_
    clear hK K
    try simp only [Act.put, List.setIfInBounds_toArray, List.set_cons_zero, List.set_cons_succ]
    refine restS_mono (S' := fun v => (convert 38 9 (.slice A2 n2 c2)).run Try.prog v = .ok (.string SB) v ∧ (convert 38 9 (.slice (some ⟨gz, 0, none⟩) z z)).run Try.prog v = .ok (.string SZ) v) (fun _ hv => hv.1) ?_
    refine restS_take (i := 8) SW.out rfl (by kernel_rfl) (by kernel_rfl) (by kernel_rfl) (by rfl) (fun v hv => by obtain ⟨v2, v3⟩ := hv; go_simp; try with_reducible rfl) ?_
    try simp only [Act.put, List.setIfInBounds_toArray, List.set_cons_zero, List.set_cons_succ]
    refine restS_take (i := 9) SW.out rfl (by kernel_rfl) (by kernel_rfl) (by kernel_rfl) (by rfl) (fun v hv => by obtain ⟨v2, v3⟩ := hv; go_simp; try with_reducible rfl) ?_
    try simp only [Act.put, List.setIfInBounds_toArray, List.set_cons_zero, List.set_cons_succ]
    refine restS_lone (i := 10) rfl (by kernel_rfl) (by rfl) (fun K hK => ?_)
    go_simp
    have hu := qUse H2.out (by omega) hr t ht (pad512 b)
    rw [show Value.string ⟨(pad512 b).toArray⟩ = Value.string PS by rw [HPS.out]] at hu
    refine hu.mono ?_
    rintro e w3 ⟨rfl, hq⟩
    have S3 := Lib.hid (show (convert 38 9 (.slice A2 n2 c2)).run Try.prog w3 = .ok (.string SB) w3 ∧ (convert 38 9 (.slice (some ⟨gz, 0, none⟩) z z)).run Try.prog w3 = .ok (.string SZ) w3 from by
      obtain ⟨_, _, _, _, hc⟩ := hq
      refine ⟨?_, ?_⟩
      · have := conv (rd_ch13 B2.out hc HOffQ.out) c2
        rw [HBl.out] at this
        rw [HSB.out]; exact this
      · have := conv (rd_ch13 RA.out hc (fun x hx _ hf => by
          simp only [Option.some.injEq] at hx
          subst hx
          exact Hgz.out _ hf rfl)) z
        rw [List.length_replicate] at this
        rw [HSZ.out]; exact this)
    have HO2 := Lib.hid (show CdOn (RD base) (RC base) w Q R F room (kaUse room l t (pad512 b)) (dvWrite dv (t : Int) b).2 w3 by
      obtain ⟨Fd', h1, h2, h3, h4, h5⟩ := HB.out
      have hg := Grown.trans GD.out GA.out
      refine cdOn_trans (fun k hk => ?_) (Ch.trans h5 (Ch.grown hg)) (cd_cac (F := fun k => QF Q Aa Aw k ∨ Fd' k) (rdKept base) ((rdKept base).keep _ _ _ _ _ h2 (fun k hk => hg.block k ((rdKept base).foot _ _ _ _ h2 k hk)) hg.size) h3 (fun k => Iff.rfl) (rOn hq))
      exact h4 k hk)
    clear hq
    refine hK.out _ _ S3.out ?_
    clear hK K
    try simp only [Act.put, List.setIfInBounds_toArray, List.set_cons_zero, List.set_cons_succ]
    refine restS_done (by kernel_rfl) ?_
    clear SV SW S3 hadd hwz hz2
    go_wp2
    go_ret
    rw [HR.out]
    exact ⟨rfl, HO2.out⟩
  · have HR := Lib.hid (show kaWrite room l dv n b = (E, l, (dvWrite dv n b).2) by
      unfold kaWrite
      rw [if_neg (by rw [← HE.out]; exact he), ← HE.out])
    have be : (E == 0) = false := by simpa using he
    clear he
    go_wp2
    go_ret
    rw [HR.out]
    exact ⟨rfl, HO.out⟩
end Go.Proofs.Ythakdjaaknbmpaa.S14
namespace Go.Proofs.Ythakdjaaknbmpaa.S15
open Cf
open Go.RowKit
set_option linter.unusedVariables false
set_option linter.unusedSimpArgs false

structure Sp where
  first : Int
  last : Int
  used : List Int
  going : List Int
def wo (l : List Int) (n : Int) : List Int := l.filter fun x => decide (x ≠ n)
def lo (l : List Int) (n : Int) : List Int := l.takeWhile fun x => decide (x < n)
def ins (l : List Int) (n : Int) : List Int := lo l n ++ n :: l.drop (lo l n).length
def isFree (s : Sp) (n : Int) : Bool := decide (s.first ≤ n) && decide (n < s.last) && !s.used.contains n && !s.going.contains n
/-- Is one told twice, among the first k? -/
def tw (l : List Int) : Nat → Bool
  | 0 => false
  | k + 1 => tw l k || (l.take k).contains (l.getD k 0)
def twice (l : List Int) : Bool := tw l l.length
def spFree (s : Sp) : Int := s.last - s.first - s.used.length - s.going.length
/-- The least free one from first + i on, among k. -/
def least (s : Sp) : Nat → Nat → Option Int
  | _, 0 => none
  | i, k + 1 => if isFree s (s.first + i) then some (s.first + i) else least s (i + 1) k
def spTake (s : Sp) : Int × Int × Sp :=
  match least s 0 (s.last - s.first).toNat with
  | some n => (n, 0, { s with used := ins s.used n })
  | none => (0, 12, s)
def spUse (s : Sp) (l : List Int) : Int × Sp :=
  if l.all (isFree s) && !twice l then (0, { s with used := l.foldl ins s.used }) else (2, s)
def spGive (s : Sp) (l : List Int) : Int × Sp :=
  if l.all (s.used.contains ·) && !twice l then (0, { s with used := l.foldl wo s.used, going := s.going ++ l }) else (2, s)
def spBack (s : Sp) (l : List Int) : Int × Sp :=
  if l.all (s.used.contains ·) && !twice l then (0, { s with used := l.foldl wo s.used }) else (2, s)
def spSettle (s : Sp) : Sp := { s with going := [] }
def spUndo (s : Sp) (l : List Int) : Sp := { s with used := s.going.foldl ins (l.foldl wo s.used), going := [] }
theorem wo_len (l : List Int) (n : Int) : (wo l n).length ≤ l.length := List.length_filter_le _ _
theorem lo_len (l : List Int) (n : Int) : (lo l n).length ≤ l.length := (List.takeWhile_sublist _).length_le
theorem ins_len (l : List Int) (n : Int) : (ins l n).length = l.length + 1 := by
  have := lo_len l n
  unfold ins
  simp
  omega
theorem wo_app (a b : List Int) (n : Int) : wo (a ++ b) n = wo a n ++ wo b n := by simp [wo]
/-- A row of numbers: it may be read. -/
def zv (n : Int) : Value := .int .i64 n
def RdZ (w : World) (B : Nat) (A : Option Addr) (l : List Int) : Prop := l = [] ∨ ∃ b off, A = some ⟨b, off, none⟩ ∧ b < B ∧ ∀ j (h : j < l.length), w.cell? ⟨b, off + j, none⟩ = some (.int .i64 l[j])
/-- .. it is owned. -/
def OwZ (w : World) (base : Nat) (A : Option Addr) (c : Nat) (l : List Int) : Prop := Ow w base 3 A c (l.map zv)
section
variable {w w' : World} {base B c : Nat} {A : Option Addr} {l : List Int}
theorem RdZ.keep (h : RdZ w B A l) (hk : ∀ p : Addr, p.block < B → w'.cell? p = w.cell? p) : RdZ w' B A l := by
  rcases h with h | ⟨b, off, e, hb, hc⟩
  · exact .inl h
  · exact .inr ⟨b, off, e, hb, fun j hj => (hk _ hb).trans (hc j hj)⟩
theorem RdZ.grow (h : RdZ w w.heap.size A l) (hg : Grown w w') : RdZ w' w'.heap.size A l := by
  rcases h with h | ⟨b, off, e, hb, hc⟩
  · exact .inl h
  · exact .inr ⟨b, off, e, Nat.lt_of_lt_of_le hb hg.size, fun j hj => (hg.cell (p := ⟨b, off + j, none⟩) hb).trans (hc j hj)⟩
theorem RdZ.take (h : RdZ w B A l) (k : Nat) : RdZ w B A (l.take k) := by
  rcases h with rfl | ⟨b, off, e, hb, hc⟩
  · exact .inl (by simp)
  · exact .inr ⟨b, off, e, hb, fun j hj => by simp at hj; rw [hc j (by omega)]; simp⟩
theorem RdZ.at_ (h : RdZ w B A l) {k : Nat} (hk : k < l.length) : ∃ b off, A = some ⟨b, off, none⟩ ∧ b < B ∧ w.cell? ⟨b, off + k, none⟩ = some (.int .i64 l[k]) := by
  rcases h with rfl | ⟨b, off, e, hb, hc⟩
  · simp at hk
  · exact ⟨b, off, e, hb, hc k hk⟩
theorem OwZ.nil (w : World) (base : Nat) : OwZ w base none 0 [] := Ow.nil _ _ _
theorem OwZ.rd (h : OwZ w base A c l) : RdZ w w.heap.size A l := by
  by_cases hl : l = []
  · exact .inl hl
  · have hp : 0 < (l.map zv).length := by rw [List.length_map]; exact List.length_pos_iff.2 hl
    obtain ⟨g, hg, _, hgl, _⟩ := Ow.at_ h 0 hp
    refine .inr ⟨g, 0, hg, hgl, fun j hj => ?_⟩
    obtain ⟨g', hg', _, _, hc, _⟩ := Ow.at_ h j (by rw [List.length_map]; exact hj)
    rw [hg] at hg'
    simp only [Option.some.injEq, Addr.mk.injEq] at hg'
    rw [← hg'.1] at hc
    rw [Nat.zero_add, hc]
    simp [zv]
theorem OwZ.le (h : OwZ w base A c l) : l.length ≤ c := by have := Ow.le h; rwa [List.length_map] at this
theorem OwZ.grow (h : OwZ w base A c l) (hg : Grown w w') : OwZ w' base A c l := Ow.keep h fun x hx => hg.block x.block (Ow.lt h x hx).2
end
theorem infoZ : (Try.prog.info? 3).map (fun i => (i.zero, i.size, i.bytes)) = some (some (.int .i64 0), 1, 8) := by kernel_rfl
end Go.Proofs.Ythakdjaaknbmpaa.S15
