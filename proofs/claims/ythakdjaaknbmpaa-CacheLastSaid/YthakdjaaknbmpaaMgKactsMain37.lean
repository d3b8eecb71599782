/-
  CacheLast, out of what is asked of the program. A cache of a device that is on, on lists: it answers as the device; two objects side by side and a block that neither touches.
-/
import Derived.Test.YthakdjaaknbmpaaMgKactsMain36
namespace Go.Proofs.Ythakdjaaknbmpaa.S14
open S13
open Cf
open Go.RowKit
set_option linter.unusedVariables false
set_option linter.unusedSimpArgs false

def wantN (room : Nat) (want : List Int) (k : Nat) : List Int := ((k : Int) :: want.filter (fun p => decide (p ≠ (k : Int)))).take room
theorem keys_drop (l : Ka) (n : Int) : keys (kaDrop l n) = (keys l).filter (fun p => decide (p ≠ n)) := by
  unfold keys kaDrop
  rw [List.filter_map]
  rfl
theorem keys_use (room : Nat) (l : Ka) (k : Nat) (s : List UInt8) : keys (kaUse room l k s) = wantN room (keys l) k := by
  unfold kaUse wantN
  rw [← keys_drop]
  unfold keys
  rw [List.map_take]
  rfl
theorem inR_of {dv : Dv} {k : Nat} (h : k < dv.kept.length) : inR dv (k : Int) := ⟨by omega, by omega⟩
theorem isOn_of {dv : Dv} (h : dv.calls = -1) : isOn dv = true := by unfold isOn; rw [h]; rfl
theorem tick_of {dv : Dv} (h : dv.calls = -1) : tick dv = dv := by unfold tick; rw [if_neg (by rw [h]; omega)]
theorem read_on {dv : Dv} {k : Nat} (h : dv.calls = -1) (hk : k < dv.kept.length) : dvRead dv (k : Int) = (see dv k, 0, dv) := by
  unfold dvRead
  rw [if_neg (not_not_intro (inR_of hk)), if_pos (isOn_of h), tick_of h]
  rfl
theorem write_on {dv : Dv} {k : Nat} {b : List UInt8} (h : dv.calls = -1) (hk : k < dv.kept.length) (hb : b.length ≤ 512) : dvWrite dv (k : Int) b = (0, { dv with pend := dv.pend ++ [(k, pad512 b)] }) := by
  unfold dvWrite
  rw [if_neg (by
    rintro (h1 | h1)
    · exact h1 (inR_of hk)
    · omega), if_pos (isOn_of h), tick_of h]
  rfl
theorem keys_read {room : Nat} {l : Ka} {dv : Dv} {k : Nat} (h : dv.calls = -1) (hk : k < dv.kept.length) : keys (kaRead room l dv (k : Int)).2.2.1 = wantN room (keys l) k ∧ (kaRead room l dv (k : Int)).2.2.2.calls = -1 := by
  unfold kaRead
  split
  · exact ⟨keys_use _ _ _ _, h⟩
  · rw [read_on h hk]
    exact ⟨keys_use _ _ _ _, h⟩
theorem keys_write {room : Nat} {l : Ka} {dv : Dv} {k : Nat} {b : List UInt8} (h : dv.calls = -1) (hk : k < dv.kept.length) (hb : b.length ≤ 512) : keys (kaWrite room l dv (k : Int) b).2.1 = wantN room (keys l) k ∧ (kaWrite room l dv (k : Int) b).2.2.calls = -1 := by
  unfold kaWrite
  rw [write_on h hk hb]
  exact ⟨keys_use _ _ _ _, h⟩
theorem keys_len (l : Ka) : (keys l).length = l.length := List.length_map _
section
variable {D : DTab} {C : CTab}
theorem rd2 (K : DevOk D) (KC : CacheOk D C) {w w1 : World} {G H k room i : Nat} {F : Nat → Prop} {l : Ka} {dv : Dv} (Z : CSince D C w w1 G H F room l dv) (hn : KNum k room l dv i) (hi : i ≤ 1000) (hk : k ≤ 100) (hr : room < 9223372036854775808) (n : Int) (h1 : -9223372036854775808 ≤ n) (h2 : n < 9223372036854775808) :
    Calls Try.prog 13 #[.pointer (some ⟨G, 0, none⟩), .int .i64 n] w1 fun e w' =>
      ∃ A m c, e = .returned (.tuple #[.slice A m c, .int .i64 (kaRead room l dv n).2.1]) ∧ (kaRead room l dv n).1.length = m ∧ m ≤ c ∧ OwA w' w1.heap.size A c (kaRead room l dv n).1 ∧ ∃ F', CSince D C w w' G H F' room (kaRead room l dv n).2.2.1 (kaRead room l dv n).2.2.2 ∧ (∀ k, F' k → F k ∨ w1.heap.size ≤ k) ∧ Ch F w1 w' ∧ ∀ x, A = some x → ¬ F' x.block := by
  refine (KC.read w1 G H F room l dv i n Z.1 (by rw [hn.len]; exact hn.ko) hn.ok hi (by rw [hn.len]; exact hk) hr).mono ?_
  rintro e w' ⟨A, m, c, rfl, hm, hc, ho, F', hcd, hF, hch, hx⟩
  have hb : Below w.heap.size w1 w' := Ch.belowB hch Z.2.1 Z.2.2.size
  refine ⟨A, m, c, rfl, hm, hc, ho, F', ⟨hcd, fun k hk => ?_, Below.trans Z.2.2 hb⟩, hF, hch, hx⟩
  rcases hF k hk with h4 | h4
  · exact Z.2.1 k h4
  · exact Nat.le_trans Z.2.2.size h4
theorem wr2 (K : DevOk D) (KC : CacheOk D C) {w w1 w2 : World} {G H k room i : Nat} {F : Nat → Prop} {l : Ka} {dv : Dv} (Z : CSince D C w w1 G H F room l dv) (hn : KNum k room l dv i) (hi : i ≤ 1000) (hk : k ≤ 100) (hr : room < 9223372036854775808) (n : Int) (h1 : -9223372036854775808 ≤ n) (h2 : n < 9223372036854775808)
    (hg : Grown w1 w2) {g m : Nat} {b : List UInt8} (hb : Rd w2 w2.heap.size (some ⟨g, 0, none⟩) b) (hgl : w1.heap.size ≤ g) (hm : b.length = m) (hm2 : m ≤ 1000) :
    Calls Try.prog 11 #[.pointer (some ⟨G, 0, none⟩), .int .i64 n, .slice (some ⟨g, 0, none⟩) m m] w2 fun e w' =>
      e = .returned (.int .i64 (kaWrite room l dv n b).1) ∧ ∃ F', CSince D C w w' G H F' room (kaWrite room l dv n b).2.1 (kaWrite room l dv n b).2.2 ∧ (∀ k, F' k → F k ∨ w1.heap.size ≤ k) ∧ Ch F w1 w' := by
  have Z2 := Z.grow KC.kept (devKp K) hg
  refine (KC.write w2 G H F room l dv i n _ m m b Z2.1 (by rw [hn.len]; exact hn.ko) hn.ok hi (by rw [hn.len]; exact hk) hr hb hm (Nat.le_refl _) hm2 (fun x hx _ hf => ?_)).mono ?_
  · simp only [Option.some.injEq] at hx
    subst hx
    have := Z.1.foot KC.kept (devKp K) _ hf
    simp at this
    omega
  rintro e w' ⟨rfl, F', ha, hb, hc⟩
  refine ⟨rfl, F', ⟨ha, fun k hk => ?_, chSince Z2.2.2 hc Z2.2.1⟩, fun k hk => ?_, Ch.trans (Ch.grown hg) hc⟩
  · rcases hb k hk with h4 | h4
    · exact Z2.2.1 k h4
    · exact Nat.le_trans Z2.2.2.size h4
  · rcases hb k hk with h4 | h4
    · exact .inl h4
    · exact .inr (Nat.le_trans hg.size h4)
/-- A row of numbers beside the cache. -/
def BesZ (w : World) (F : Nat → Prop) (A : Option Addr) (l : List Int) : Prop := S15.RdZ w w.heap.size A l ∧ ∀ x, A = some x → l ≠ [] → ¬ F x.block
theorem BesZ.on {w w' : World} {F F' : Nat → Prop} {A : Option Addr} {l : List Int} (h : BesZ w F A l) (hF : ∀ k, F' k → F k ∨ w.heap.size ≤ k) (hc : Ch F w w') : BesZ w' F' A l := by
  by_cases hl : l = []
  · exact ⟨.inl hl, fun _ _ e => absurd hl e⟩
  obtain ⟨h1, h2⟩ := h
  rcases h1 with e | ⟨b, off, e, hb, hcl⟩
  · exact absurd e hl
  · refine ⟨.inr ⟨b, off, e, Nat.lt_of_lt_of_le hb hc.size, fun j hj => (hc.cell (p := ⟨b, off + j, none⟩) hb (h2 ⟨b, off, none⟩ e hl)).trans (hcl j hj)⟩, fun x hx _ hf => ?_⟩
    rcases hF _ hf with h4 | h4
    · exact h2 x hx hl h4
    · rw [hx] at e
      simp only [Option.some.injEq] at e
      subst e
      simp at h4
      omega
theorem BesZ.grow {w w' : World} {F : Nat → Prop} {A : Option Addr} {l : List Int} (h : BesZ w F A l) (hg : Grown w w') : BesZ w' F A l := ⟨h.1.grow hg, h.2⟩
end
end Go.Proofs.Ythakdjaaknbmpaa.S14
namespace Go.Proofs.Ythakdjaaknbmpaa.S14
open S13
open Cf
open Go.RowKit
set_option linter.unusedVariables false
set_option linter.unusedSimpArgs false

theorem latest_app (k : Nat) (t : List UInt8) (j : Nat) : ∀ (l : List (Nat × List UInt8)) (s : List UInt8), latest s (l ++ [(k, t)]) j = if k = j then t else latest s l j
  | [], s => rfl
  | p :: l, s => latest_app k t j l _
theorem see_put (dv : Dv) (k : Nat) (t : List UInt8) (j : Nat) : see { dv with pend := dv.pend ++ [(k, t)] } j = if k = j then t else see dv j := latest_app k t j dv.pend _
/-- What is kept is what the device would say. -/
def Coh (l : Ka) (dv : Dv) : Prop := ∀ p ∈ l, p.2 = see dv p.1
theorem Coh.use {l : Ka} {dv : Dv} (h : Coh l dv) (room k : Nat) : Coh (kaUse room l k (see dv k)) dv := fun p hp => by
  rcases List.mem_cons.1 (List.mem_of_mem_take hp) with rfl | hp
  · rfl
  · exact h p (drop_sub l _ p hp).1
theorem Coh.put {l : Ka} {dv : Dv} (h : Coh l dv) (room k : Nat) (t : List UInt8) : Coh (kaUse room l k t) { dv with pend := dv.pend ++ [(k, t)] } := fun p hp => by
  rw [see_put]
  rcases List.mem_cons.1 (List.mem_of_mem_take hp) with rfl | hp
  · rw [if_pos rfl]
  · have h1 := drop_sub l _ p hp
    rw [if_neg (fun e => h1.2 (by rw [e]))]
    exact h p h1.1
theorem read_off {dv : Dv} {n : Int} (h : ¬ inR dv n) : dvRead dv n = ([], 2, dv) := by unfold dvRead; rw [if_pos h]
theorem read_same {room : Nat} {l : Ka} {dv : Dv} (hk : KOk room dv.kept.length l) (hc : dv.calls = -1) (h : Coh l dv) (n : Int) :
    (kaRead room l dv n).1 = (dvRead dv n).1 ∧ (kaRead room l dv n).2.1 = (dvRead dv n).2.1 ∧ (kaRead room l dv n).2.2.2 = dv ∧ (dvRead dv n).2.2 = dv ∧ Coh (kaRead room l dv n).2.2.1 dv := by
  by_cases hr : inR dv n
  · obtain ⟨k, rfl⟩ : ∃ k : Nat, n = (k : Int) := ⟨n.toNat, by have := hr.1; omega⟩
    have hk2 : k < dv.kept.length := by have := hr.2; omega
    have hd := read_on hc hk2
    unfold kaRead
    split
    · rename_i s hs
      obtain ⟨p, hp, e, rfl⟩ := find_some hs
      have e2 : p.2 = see dv k := by rw [h p hp]; congr 1; omega
      rw [hd, e2]
      exact ⟨rfl, rfl, rfl, rfl, h.use room k⟩
    · rw [hd]
      exact ⟨rfl, rfl, rfl, rfl, h.use room k⟩
  · have hd := read_off hr
    unfold kaRead
    split
    · rename_i s hs
      obtain ⟨p, hp, e, rfl⟩ := find_some hs
      exact absurd (show inR dv n from ⟨by omega, by have := hk.key p hp; omega⟩) hr
    · rw [hd]
      exact ⟨rfl, rfl, rfl, rfl, h⟩
theorem write_same {room : Nat} {l : Ka} {dv : Dv} (hc : dv.calls = -1) (h : Coh l dv) (n : Int) (b : List UInt8) :
    (kaWrite room l dv n b).1 = (dvWrite dv n b).1 ∧ (kaWrite room l dv n b).2.2 = (dvWrite dv n b).2 ∧ Coh (kaWrite room l dv n b).2.1 (dvWrite dv n b).2 ∧ (dvWrite dv n b).2.calls = -1 := by
  by_cases hr : ¬ inR dv n ∨ 512 < b.length
  · have hd : dvWrite dv n b = (2, dv) := by unfold dvWrite; rw [if_pos hr]
    unfold kaWrite
    rw [hd]
    exact ⟨rfl, rfl, h, hc⟩
  · have h1 : inR dv n := Classical.byContradiction fun e => hr (.inl e)
    obtain ⟨k, rfl⟩ : ∃ k : Nat, n = (k : Int) := ⟨n.toNat, by have := h1.1; omega⟩
    have hd := write_on (b := b) hc (show k < dv.kept.length by have := h1.2; omega) (Nat.le_of_not_lt fun e => hr (.inr e))
    unfold kaWrite
    rw [hd]
    exact ⟨rfl, rfl, h.put room k (pad512 b), hc⟩
/-- What keeps an object: it speaks of its footprint alone. -/
def Keeps (P : World → (Nat → Prop) → Prop) : Prop := ∀ w w' F, P w F → (∀ k, F k → w'.heap[k]? = w.heap[k]?) → w.heap.size ≤ w'.heap.size → P w' F
/-- Two objects that were made behind w0, side by side. -/
structure Sd (P Q : World → (Nat → Prop) → Prop) (w0 w : World) (F F2 : Nat → Prop) : Prop where
  p : P w F
  q : Q w F2
  pf : ∀ k, F k → w0.heap.size ≤ k ∧ k < w.heap.size
  qf : ∀ k, F2 k → w0.heap.size ≤ k ∧ k < w.heap.size
  ap : ∀ k, F k → ¬ F2 k
  gr : Grown w0 w
section
variable {P P' Q : World → (Nat → Prop) → Prop} {w0 w w' : World} {F F2 F' : Nat → Prop}
theorem Sd.swap (h : Sd P Q w0 w F F2) : Sd Q P w0 w F2 F := ⟨h.q, h.p, h.qf, h.pf, fun k h1 h2 => h.ap k h2 h1, h.gr⟩
theorem Sd.grow (KP : Keeps P) (KQ : Keeps Q) (h : Sd P Q w0 w F F2) (hg : Grown w w') : Sd P Q w0 w' F F2 :=
  { p := KP w w' F h.p (fun k hk => hg.block k (h.pf k hk).2) hg.size
    q := KQ w w' F2 h.q (fun k hk => hg.block k (h.qf k hk).2) hg.size
    pf := fun k hk => ⟨(h.pf k hk).1, Nat.lt_of_lt_of_le (h.pf k hk).2 hg.size⟩
    qf := fun k hk => ⟨(h.qf k hk).1, Nat.lt_of_lt_of_le (h.qf k hk).2 hg.size⟩
    ap := h.ap
    gr := h.gr.trans hg }
/-- The first one goes on. -/
theorem Sd.step (KQ : Keeps Q) (h : Sd P Q w0 w F F2) (ha : P' w' F') (hf : ∀ k, F' k → k < w'.heap.size) (hb : ∀ k, F' k → F k ∨ w.heap.size ≤ k) (hc : Ch F w w') : Sd P' Q w0 w' F' F2 ∧ ∀ a o, Bs w F F2 a o → Bs w' F' F2 a o := by
  refine ⟨⟨ha, KQ w w' F2 h.q (fun k hk => hc.block k (h.qf k hk).2 (fun hk1 => h.ap k hk1 hk)) hc.size, fun k hk => ⟨?_, hf k hk⟩, fun k hk => ⟨(h.qf k hk).1, Nat.lt_of_lt_of_le (h.qf k hk).2 hc.size⟩, fun k hk hk2 => ?_, chSince h.gr hc (fun k hk => (h.pf k hk).1)⟩, fun a o hbs => ⟨(hc.block a (lt_of_heap hbs.1) hbs.2.1).trans hbs.1, fun hf => ?_, hbs.2.2⟩⟩
  · rcases hb k hk with h4 | h4
    · exact (h.pf k h4).1
    · exact Nat.le_trans h.gr.size h4
  · rcases hb k hk with h4 | h4
    · exact h.ap k h4 hk2
    · have := (h.qf k hk2).2; omega
  · rcases hb a hf with h4 | h4
    · exact hbs.2.1 h4
    · have := lt_of_heap hbs.1; omega
theorem Bs.swap {a : Nat} {o : Obj} (h : Bs w F F2 a o) : Bs w F2 F a o := ⟨h.1, h.2.2, h.2.1⟩
theorem bsNew (h : Sd P Q w0 w F F2) (o : Obj) : Bs (w.alloc o) F F2 w.heap.size o :=
  ⟨heap_alloc_new w o, fun hf => by have := (h.pf _ hf).2; omega, fun hf => by have := (h.qf _ hf).2; omega⟩
end
/-- A cache with its device as an object; a device alone. -/
def Pc (D : DTab) (C : CTab) (G H room : Nat) (l : Ka) (dv : Dv) (w : World) (F : Nat → Prop) : Prop := Cd D C w G H F room l dv
def Pd (D : DTab) (X : Nat) (dv : Dv) (w : World) (F : Nat → Prop) : Prop := D w X F dv
theorem pcKeeps {D : DTab} {C : CTab} (KC : CKept C) (KD : DKept D) (G H room : Nat) (l : Ka) (dv : Dv) : Keeps (Pc D C G H room l dv) := fun w w' F h hk hs => Cd.keep KC KD h hk hs
theorem pdKeeps {D : DTab} (KD : DKept D) (X : Nat) (dv : Dv) : Keeps (Pd D X dv) := fun w w' F h hk hs => KD.keep w w' X F dv h hk hs
end Go.Proofs.Ythakdjaaknbmpaa.S14
