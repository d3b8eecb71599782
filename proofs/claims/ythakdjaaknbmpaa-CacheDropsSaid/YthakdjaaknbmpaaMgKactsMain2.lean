/-
  A device on lists: what is kept, what waits, the counter, the calls that are left. Caches on lists: what is kept, the newest first; without the program.
-/
import Derived.Test.YthakdjaaknbmpaaMgKactsMain1
namespace Go.Proofs.Ythakdjaaknbmpaa.S13
set_option linter.unusedVariables false
set_option linter.unusedSimpArgs false

/-- A device. -/
structure Dv where
  kept : List (List UInt8)
  pend : List (Nat × List UInt8)
  count : Int
  calls : Int
def z512 : List UInt8 := List.replicate 512 0
theorem z512_len : z512.length = 512 := List.length_replicate
def dvNew (n : Nat) : Dv := ⟨List.replicate n z512, [], 0, -1⟩
/-- With zeros behind it. -/
def pad512 (b : List UInt8) : List UInt8 := b ++ List.replicate (512 - b.length) 0
theorem pad512_len (b : List UInt8) (h : b.length ≤ 512) : (pad512 b).length = 512 := by simp [pad512]; omega
/-- Is the power on? It counts a call. -/
def isOn (st : Dv) : Bool := decide (st.calls ≠ 0)
def tick (st : Dv) : Dv := if 0 < st.calls then { st with calls := st.calls - 1 } else st
/-- A sector, by the latest writes. -/
def latest (s : List UInt8) : List (Nat × List UInt8) → Nat → List UInt8
  | [], _ => s
  | p :: l, at_ => latest (if p.1 = at_ then p.2 else s) l at_
def see (st : Dv) (at_ : Nat) : List UInt8 := latest (st.kept.getD at_ []) st.pend at_
/-- All of these writes. -/
def lay (kept : List (List UInt8)) (l : List (Nat × List UInt8)) : List (List UInt8) := l.foldl (fun k p => k.set p.1 p.2) kept
def inR (st : Dv) (at_ : Int) : Prop := 0 ≤ at_ ∧ at_ < (st.kept.length : Int)
instance (st : Dv) (at_ : Int) : Decidable (inR st at_) := by unfold inR; exact inferInstance
def dvRead (st : Dv) (at_ : Int) : List UInt8 × Int × Dv :=
  if ¬ inR st at_ then ([], 2, st) else if isOn st then (see st at_.toNat, 0, tick st) else ([], 10, st)
def dvWrite (st : Dv) (at_ : Int) (b : List UInt8) : Int × Dv :=
  if ¬ inR st at_ ∨ 512 < b.length then (2, st) else if isOn st then (0, { tick st with pend := st.pend ++ [(at_.toNat, pad512 b)] }) else (10, st)
def dvFlush (st : Dv) : Int × Dv :=
  if isOn st then (0, { tick st with kept := lay st.kept st.pend, pend := [] }) else (10, st)
def maxCount : Int := 281474976710656
def dvRaise (st : Dv) : Int × Dv :=
  if isOn st then if maxCount ≤ st.count then (11, tick st) else (0, { tick st with count := st.count + 1 }) else (10, st)
def dvWear (st : Dv) (n : Int) : Dv := { st with count := max st.count (min n maxCount) }
def dvLimit (st : Dv) (n : Int) : Dv := { st with calls := if n < 0 then -1 else n }
/-- Those of the writes that are kept, numbered from i on. -/
def pick (keep : List Int) : Nat → List (Nat × List UInt8) → List (Nat × List UInt8)
  | _, [] => []
  | i, p :: l => if (i : Int) ∈ keep then p :: pick keep (i + 1) l else pick keep (i + 1) l
def dvCrash (st : Dv) (keep : List Int) : Int × Dv :=
  (((pick keep 0 st.pend).length : Int), { st with kept := lay st.kept (pick keep 0 st.pend), pend := [], calls := -1 })
def dvTamper (st : Dv) (at_ : Int) (b : List UInt8) : Int × Dv :=
  if ¬ inR st at_ ∨ 512 < b.length then (2, st) else (0, { st with kept := st.kept.set at_.toNat (pad512 b), pend := st.pend.filter fun p => decide (p.1 ≠ at_.toNat) })
/-- All sectors. -/
def image (st : Dv) : List UInt8 := ((List.range st.kept.length).map (see st)).flatten

theorem lay_len (kept : List (List UInt8)) (l : List (Nat × List UInt8)) : (lay kept l).length = kept.length := by
  induction l generalizing kept with
  | nil => rfl
  | cons p l ih => show (lay (kept.set p.1 p.2) l).length = _; rw [ih, List.length_set]
/-- All is as it should be. -/
structure Ok (st : Dv) (i : Nat) : Prop where
  kept : ∀ l ∈ st.kept, l.length = 512
  pend : ∀ p ∈ st.pend, p.1 < st.kept.length ∧ p.2.length = 512
  few : st.pend.length ≤ i
  c0 : 0 ≤ st.count
  c1 : st.count ≤ maxCount
  k0 : -1 ≤ st.calls
  k1 : st.calls < 9223372036854775808
theorem ok_new (n : Nat) : Ok (dvNew n) 0 where
  kept l hl := by
    have := (List.mem_replicate.1 hl).2
    rw [this]; exact z512_len
  pend p hp := absurd hp (by simp [dvNew])
  few := Nat.le_refl _
  c0 := by simp [dvNew]
  c1 := by simp [dvNew, maxCount]
  k0 := by simp [dvNew]
  k1 := by simp [dvNew]
theorem tick_pend (st : Dv) : (tick st).pend = st.pend := by unfold tick; split <;> rfl
theorem tick_kept (st : Dv) : (tick st).kept = st.kept := by unfold tick; split <;> rfl
theorem tick_count (st : Dv) : (tick st).count = st.count := by unfold tick; split <;> rfl
section
variable {st : Dv} {i : Nat}
theorem Ok.tick (h : Ok st i) : Ok (tick st) i := by
  unfold S13.tick
  split
  · exact { h with k0 := by show -1 ≤ st.calls - 1; omega, k1 := by show st.calls - 1 < _; have := h.k1; omega }
  · exact h
theorem Ok.up (h : Ok st i) {j : Nat} (hj : i ≤ j) : Ok st j := { h with few := Nat.le_trans h.few hj }
theorem latest_len (l : List (Nat × List UInt8)) (s : List UInt8) (at_ : Nat) (hs : s.length = 512) (hl : ∀ p ∈ l, p.2.length = 512) : (latest s l at_).length = 512 := by
  induction l generalizing s with
  | nil => exact hs
  | cons p l ih =>
    refine ih _ ?_ (fun q hq => hl q (by simp [hq]))
    split
    · exact hl p (by simp)
    · exact hs
theorem see_len (h : Ok st i) {at_ : Nat} (ha : at_ < st.kept.length) : (see st at_).length = 512 := by
  refine latest_len _ _ _ ?_ (fun p hp => (h.pend p hp).2)
  rw [List.getD_eq_getElem?_getD, List.getElem?_eq_getElem ha]
  exact h.kept _ (List.getElem_mem _)
theorem lay_mem (l : List (Nat × List UInt8)) (kept : List (List UInt8)) (hk : ∀ s ∈ kept, s.length = 512) (hl : ∀ p ∈ l, p.2.length = 512) : ∀ s ∈ lay kept l, s.length = 512 := by
  induction l generalizing kept with
  | nil => exact hk
  | cons p l ih =>
    refine ih (kept.set p.1 p.2) (fun s hs => ?_) (fun q hq => hl q (by simp [hq]))
    rcases List.mem_or_eq_of_mem_set hs with h | h
    · exact hk s h
    · rw [h]; exact hl p (by simp)
theorem pick_sub (keep : List Int) : ∀ (k : Nat) (l : List (Nat × List UInt8)), ∀ p ∈ pick keep k l, p ∈ l
  | _, [], p, hp => hp
  | k, q :: l, p, hp => by
    unfold pick at hp
    split at hp
    · rcases List.mem_cons.1 hp with h | h
      · rw [h]; simp
      · exact List.mem_cons_of_mem _ (pick_sub keep (k + 1) l p h)
    · exact List.mem_cons_of_mem _ (pick_sub keep (k + 1) l p hp)
theorem ok_write (h : Ok st i) (at_ : Int) (b : List UInt8) : Ok (dvWrite st at_ b).2 (i + 1) := by
  unfold dvWrite
  split
  · exact h.up (by omega)
  · rename_i hc
    split
    · have ht := h.tick
      have hin : inR st at_ := Classical.byContradiction fun hh => hc (.inl hh)
      have hb : b.length ≤ 512 := by
        rcases Nat.lt_or_ge 512 b.length with h1 | h1
        · exact absurd (.inr h1) hc
        · exact h1
      refine { ht with pend := fun p hp => ?_, few := ?_ }
      · show p.1 < (S13.tick st).kept.length ∧ _
        rw [tick_kept]
        rcases List.mem_append.1 hp with hp | hp
        · exact h.pend p hp
        · simp only [List.mem_singleton] at hp
          subst hp
          exact ⟨by have := hin.1; have := hin.2; show at_.toNat < _; omega, pad512_len b hb⟩
      · show (st.pend ++ _).length ≤ _
        have := h.few
        simp
        omega
    · exact h.up (by omega)
theorem ok_flush (h : Ok st i) : Ok (dvFlush st).2 i := by
  unfold dvFlush
  split
  · have ht := h.tick
    refine { ht with kept := fun l hl => ?_, pend := fun p hp => absurd hp (by simp), few := Nat.zero_le _ }
    exact lay_mem _ _ h.kept (fun p hp => (h.pend p hp).2) l hl
  · exact h
theorem ok_raise (h : Ok st i) : Ok (dvRaise st).2 i := by
  unfold dvRaise
  split
  · split
    · exact h.tick
    · rename_i hc
      have ht := h.tick
      refine { ht with c0 := ?_, c1 := ?_ }
      · show 0 ≤ st.count + 1; have := h.c0; omega
      · show st.count + 1 ≤ maxCount; omega
  · exact h
theorem ok_wear (h : Ok st i) (n : Int) : Ok (dvWear st n) i := by
  have h0 := h.c0
  have h1 := h.c1
  refine { h with c0 := ?_, c1 := ?_ }
  · show 0 ≤ max st.count (min n maxCount); omega
  · show max st.count (min n maxCount) ≤ maxCount; omega
theorem ok_limit (h : Ok st i) (n : Int) (hn : n < 9223372036854775808) : Ok (dvLimit st n) i := by
  refine { h with k0 := ?_, k1 := ?_ }
  · show -1 ≤ (if n < 0 then -1 else n); split <;> omega
  · show (if n < 0 then -1 else n) < 9223372036854775808; split <;> omega
theorem ok_crash (h : Ok st i) (keep : List Int) : Ok (dvCrash st keep).2 i := by
  refine { h with kept := fun l hl => ?_, pend := fun p hp => absurd hp (by simp [dvCrash]), few := Nat.zero_le _, k0 := ?_, k1 := ?_ }
  · exact lay_mem _ _ h.kept (fun p hp => (h.pend p (pick_sub _ _ _ p hp)).2) l hl
  · show (-1 : Int) ≤ -1; omega
  · show (-1 : Int) < _; omega
theorem ok_tamper (h : Ok st i) (at_ : Int) (b : List UInt8) : Ok (dvTamper st at_ b).2 i := by
  unfold dvTamper
  split
  · exact h
  · rename_i hc
    have hb : b.length ≤ 512 := by
      rcases Nat.lt_or_ge 512 b.length with h1 | h1
      · exact absurd (.inr h1) hc
      · exact h1
    refine { h with kept := fun l hl => ?_, pend := fun p hp => ?_, few := ?_ }
    · rcases List.mem_or_eq_of_mem_set hl with h1 | h1
      · exact h.kept l h1
      · rw [h1]; exact pad512_len b hb
    · show p.1 < (st.kept.set _ _).length ∧ _
      rw [List.length_set]
      exact h.pend p (List.mem_filter.1 hp).1
    · exact Nat.le_trans (List.length_filter_le _ _) h.few
theorem ok_read (h : Ok st i) (at_ : Int) : Ok (dvRead st at_).2.2 i := by
  unfold dvRead
  split
  · exact h
  · split
    · exact h.tick
    · exact h
end
end Go.Proofs.Ythakdjaaknbmpaa.S13
namespace Go.Proofs.Ythakdjaaknbmpaa.S14
open S13
open Go.RowKit
set_option linter.unusedVariables false
set_option linter.unusedSimpArgs false

/-- Sectors and what is kept of them, the newest first. -/
abbrev Ka := List (Nat × List UInt8)
def kaDrop (l : Ka) (n : Int) : Ka := l.filter fun p => decide ((p.1 : Int) ≠ n)
def kaUse (room : Nat) (l : Ka) (n : Nat) (s : List UInt8) : Ka := ((n, s) :: kaDrop l (n : Int)).take room
def kaFind (l : Ka) (n : Int) : Option (List UInt8) := (l.find? fun p => decide ((p.1 : Int) = n)).map (·.2)
/-- Read: what is read, the error, what is kept then, the device then. -/
def kaRead (room : Nat) (l : Ka) (dv : Dv) (n : Int) : List UInt8 × Int × Ka × Dv :=
  match kaFind l n with
  | some s => (s, 0, kaUse room l n.toNat s, dv)
  | none => if (dvRead dv n).2.1 = 0 then ((dvRead dv n).1, 0, kaUse room l n.toNat (dvRead dv n).1, (dvRead dv n).2.2) else ([], (dvRead dv n).2.1, l, (dvRead dv n).2.2)
def kaWrite (room : Nat) (l : Ka) (dv : Dv) (n : Int) (b : List UInt8) : Int × Ka × Dv :=
  if (dvWrite dv n b).1 = 0 then (0, kaUse room l n.toNat (pad512 b), (dvWrite dv n b).2) else ((dvWrite dv n b).1, l, (dvWrite dv n b).2)
/-- A cache is as such: of a device with k sectors. -/
structure KOk (room k : Nat) (l : Ka) : Prop where
  room : l.length ≤ room
  nd : (l.map (·.1)).Nodup
  key : ∀ p ∈ l, p.1 < k
  len : ∀ p ∈ l, p.2.length = 512
section
variable {room k : Nat} {l : Ka} {dv : Dv} {i : Nat}
theorem kok_nil (room k : Nat) : KOk room k [] := ⟨Nat.zero_le _, List.nodup_nil, fun p h => by simp at h, fun p h => by simp at h⟩
theorem drop_sub (l : Ka) (n : Int) : ∀ p ∈ kaDrop l n, p ∈ l ∧ (p.1 : Int) ≠ n := fun p h => by
  have := List.mem_filter.1 h
  exact ⟨this.1, by simpa using this.2⟩
theorem KOk.drop (h : KOk room k l) (n : Int) : KOk room k (kaDrop l n) where
  room := Nat.le_trans (List.length_filter_le _ _) h.room
  nd := (List.Sublist.map _ List.filter_sublist).nodup h.nd
  key := fun p hp => h.key p (drop_sub l n p hp).1
  len := fun p hp => h.len p (drop_sub l n p hp).1
theorem KOk.use (h : KOk room k l) (n : Nat) (s : List UInt8) (hn : n < k) (hs : s.length = 512) : KOk room k (kaUse room l n s) where
  room := by unfold kaUse; rw [List.length_take]; exact Nat.min_le_left _ _
  nd := by
    unfold kaUse
    refine (List.Sublist.map _ (List.take_sublist _ _)).nodup ?_
    rw [List.map_cons, List.nodup_cons]
    refine ⟨fun hm => ?_, (h.drop (n : Int)).nd⟩
    obtain ⟨p, hp, e⟩ := List.mem_map.1 hm
    exact (drop_sub l n p hp).2 (by rw [e])
  key := fun p hp => by
    rcases List.mem_cons.1 (List.mem_of_mem_take hp) with rfl | hp
    · exact hn
    · exact h.key p (drop_sub l n p hp).1
  len := fun p hp => by
    rcases List.mem_cons.1 (List.mem_of_mem_take hp) with rfl | hp
    · exact hs
    · exact h.len p (drop_sub l n p hp).1
theorem fewer : ∀ (k : Nat) (xs : List Nat), xs.Nodup → (∀ x ∈ xs, x < k) → xs.length ≤ k
  | 0, xs, _, h => by
    cases xs with
    | nil => exact Nat.le_refl _
    | cons x r => exact absurd (h x List.mem_cons_self) (by omega)
  | k + 1, xs, hn, h => by
    have h2 := fewer k (xs.erase k) (hn.erase k) (fun x hx => by
      have h3 := (List.Nodup.mem_erase_iff hn).1 hx
      have := h x h3.2
      have := h3.1
      omega)
    rw [List.length_erase] at h2
    split at h2 <;> omega
/-- There are at most so many as the device has sectors. -/
theorem KOk.few (h : KOk room k l) : l.length ≤ k := by
  have := fewer k (l.map (·.1)) h.nd (fun x hx => by
    obtain ⟨p, hp, rfl⟩ := List.mem_map.1 hx
    exact h.key p hp)
  simpa using this
theorem find_some {n : Int} {s : List UInt8} (h : kaFind l n = some s) : ∃ p ∈ l, (p.1 : Int) = n ∧ p.2 = s := by
  unfold kaFind at h
  obtain ⟨p, hp, rfl⟩ := Option.map_eq_some_iff.1 h
  exact ⟨p, List.mem_of_find?_eq_some hp, by simpa using List.find?_some hp, rfl⟩
theorem read_ok {n : Int} (h : (dvRead dv n).2.1 = 0) : 0 ≤ n ∧ n < (dv.kept.length : Int) := by
  unfold dvRead at h
  by_cases hr : inR dv n
  · exact hr
  · rw [if_pos hr] at h
    exact absurd h (by simp)
theorem write_ok {n : Int} {b : List UInt8} (h : (dvWrite dv n b).1 = 0) : 0 ≤ n ∧ n < (dv.kept.length : Int) ∧ b.length ≤ 512 := by
  unfold dvWrite at h
  by_cases hr : ¬ inR dv n ∨ 512 < b.length
  · rw [if_pos hr] at h
    exact absurd h (by simp)
  · have h1 : inR dv n := Classical.byContradiction fun e => hr (.inl e)
    exact ⟨h1.1, h1.2, Nat.le_of_not_lt fun e => hr (.inr e)⟩
theorem read_len {n : Int} (hk : Ok dv i) (h : (dvRead dv n).2.1 = 0) : (dvRead dv n).1.length = 512 := by
  have h1 := read_ok h
  unfold dvRead at h ⊢
  rw [if_neg (not_not_intro (show inR dv n from h1))] at h ⊢
  split
  · exact see_len hk (by omega)
  · rename_i h2
    rw [if_neg h2] at h
    exact absurd h (by simp)
theorem kok_read (h : KOk room dv.kept.length l) (hk : Ok dv i) (n : Int) : KOk room dv.kept.length (kaRead room l dv n).2.2.1 := by
  unfold kaRead
  split
  · rename_i s hs
    obtain ⟨p, hp, e, rfl⟩ := find_some hs
    exact h.use _ _ (by have := h.key p hp; omega) (h.len p hp)
  · split
    · rename_i h1
      have h2 := read_ok h1
      exact h.use _ _ (by omega) (read_len hk h1)
    · exact h
theorem kok_write (h : KOk room dv.kept.length l) (n : Int) (b : List UInt8) : KOk room dv.kept.length (kaWrite room l dv n b).2.1 := by
  unfold kaWrite
  split
  · rename_i h1
    have h2 := write_ok h1
    exact h.use _ _ (by omega) (pad512_len b h2.2.2)
  · exact h
end
end Go.Proofs.Ythakdjaaknbmpaa.S14
