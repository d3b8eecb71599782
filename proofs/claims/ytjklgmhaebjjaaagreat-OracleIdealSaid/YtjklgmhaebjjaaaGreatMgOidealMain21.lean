/-
  Lazy tables as maps: what the program's four maps hold, on lists and functions; without the program. What this program takes from Go: strings.Clone, bytes.Clone (off the shelf).
-/
import Derived.Test.YtjklgmhaebjjaaaGreatMgOidealMain20
import Derived.Test.YtjklgmhaebjjaaaGreatMgOidealMain1
namespace Go.Proofs.YtjklgmhaebjjaaaGreat.S11
set_option linter.unusedVariables false
set_option linter.unusedSimpArgs false

theorem itn_add (a b : Nat) (y : List UInt8) : itn a (itn b y) = itn (a + b) y := by
  induction a with
  | zero => simp [itn]
  | succ a ih => rw [show a + 1 + b = (a + b) + 1 by omega]; show nxt _ = nxt _; rw [ih]
/-- What the map of answers holds. -/
def Fa (fs : List T3) (f : Ky → Option (List UInt8)) : Prop := ∀ n q, f (n, q) = (fs.find? (hitF n q)).map (·.y)
/-- .. the set of given answers. -/
def Fg (fs : List T3) (g : Ky → Option Unit) : Prop := ∀ n y, (g (n, y)).isSome = fs.any (badF n y)
theorem Fa.nil : Fa [] fun _ => none := fun _ _ => rfl
theorem Fg.nil : Fg [] fun _ => none := fun _ _ => rfl
theorem Fa.put {fs : List T3} {f : Ky → Option (List UInt8)} (h : Fa fs f) {n q : List UInt8} (hn : f (n, q) = none) (y : List UInt8) : Fa (fs ++ [⟨n, q, y⟩]) (Mp.put f (n, q) y) := by
  intro n' q'
  have h0 := h n' q'
  unfold Mp.put
  rw [List.find?_append]
  by_cases e : (n', q') = (n, q)
  · rw [if_pos e]
    rw [e, hn] at h0
    have e1 : n' = n := congrArg (·.1) e
    have e2 : q' = q := congrArg (·.2) e
    subst e1; subst e2
    have h1 : fs.find? (hitF n' q') = none := by
      cases hf : fs.find? (hitF n' q') with
      | none => rfl
      | some t => rw [hf] at h0; cases h0
    rw [h1]
    simp [hitF]
  · rw [if_neg e, h0]
    cases hf : fs.find? (hitF n' q') with
    | some t => rfl
    | none =>
      have : hitF n' q' ⟨n, q, y⟩ = false := by
        unfold hitF
        by_cases c1 : n = n'
        · by_cases c2 : q = q'
          · exact absurd (by rw [c1, c2]) e
          · simp [c2]
        · simp [c1]
      simp [this]
theorem Fg.put {fs : List T3} {g : Ky → Option Unit} (h : Fg fs g) (n q y : List UInt8) : Fg (fs ++ [⟨n, q, y⟩]) (Mp.put g (n, y) ()) := by
  intro n' y'
  unfold Mp.put
  rw [List.any_append]
  by_cases e : (n', y') = (n, y)
  · rw [if_pos e]
    have e1 : n' = n := congrArg (·.1) e
    have e2 : y' = y := congrArg (·.2) e
    subst e1; subst e2
    simp [badF]
  · rw [if_neg e, h n' y']
    have : badF n' y' ⟨n, q, y⟩ = false := by
      unfold badF
      by_cases c1 : n = n'
      · by_cases c2 : y = y'
        · exact absurd (by rw [c1, c2]) e
        · simp [c2]
      · simp [c1]
    simp [this]
def key (c : Bool) (t : T3) : List UInt8 := if c then t.x else t.y
def Wfp (ps : List T3) : Prop := ∀ t ∈ ps, t.x.length = t.y.length ∧ t.x ≠ []
/-- What a side holds: partners; and where to go on searching. -/
structure Side (ps : List T3) (c : Bool) (f : Ky → Option Ky) : Prop where
  val : ∀ n s, (f (n, s)).map (·.1) = (ps.find? (hitQ n s c)).map (ans c)
  skip : ∀ n s p k, f (n, s) = some (p, k) → k = [] ∨ ∃ i, 1 ≤ i ∧ k = itn i s ∧ ∀ j, j < i → (f (n, itn j s)).isSome = true
theorem Side.nil (c : Bool) : Side [] c fun _ => none := ⟨fun _ _ => rfl, fun _ _ _ _ h => by cases h⟩
theorem taken_find (ps : List T3) (n s : List UInt8) (c : Bool) : taken ps n s c = (ps.find? (hitQ n s c)).isSome := by
  unfold taken
  induction ps with
  | nil => rfl
  | cons t ps ih =>
    have hpq : hitP n s c t = hitQ n s c t := by
      unfold hitP hitQ
      rw [Bool.and_comm (decide ((if c then t.x else t.y) = s))]
    rw [List.any_cons, List.find?_cons, hpq, ih]
    cases hitQ n s c t <;> simp
theorem Side.has {ps : List T3} {c : Bool} {f : Ky → Option Ky} (h : Side ps c f) (n s : List UInt8) : (f (n, s)).isSome = taken ps n s c := by
  rw [taken_find]
  have := h.val n s
  cases h1 : f (n, s) <;> cases h2 : ps.find? (hitQ n s c) <;> simp_all
theorem put_some {f : Ky → Option Ky} {k : Ky} {v : Ky} {k' : Ky} (h : (f k').isSome = true) : (Mp.put f k v k').isSome = true := by
  unfold Mp.put
  split
  · rfl
  · exact h
/-- A pair more. -/
theorem Side.add {ps : List T3} {c : Bool} {f : Ky → Option Ky} (h : Side ps c f) (t : T3) (hl : t.x.length = t.y.length) (hn : f (t.n, key c t) = none) : Side (ps ++ [t]) c (Mp.put f (t.n, key c t) (ans c t, [])) := by
  have hkl : t.x.length = (key c t).length := by unfold key; cases c <;> simp [hl]
  refine ⟨fun n s => ?_, fun n s p k hf => ?_⟩
  · have h0 := h.val n s
    rw [List.find?_append]
    by_cases e : (n, s) = (t.n, key c t)
    · have e1 : n = t.n := congrArg (·.1) e
      have e2 : s = key c t := congrArg (·.2) e
      subst e1; subst e2
      rw [hn] at h0
      have h1 : ps.find? (hitQ t.n (key c t) c) = none := by
        cases hf : ps.find? (hitQ t.n (key c t) c) with
        | none => rfl
        | some t => rw [hf] at h0; cases h0
      have h2 : hitQ t.n (key c t) c t = true := by
        unfold hitQ
        have : (if c = true then t.x else t.y) = key c t := rfl
        rw [this]
        simp [hkl]
      rw [h1]
      simp [Mp.put, h2]
    · have h2 : hitQ n s c t = false := by
        unfold hitQ
        have : (if c = true then t.x else t.y) = key c t := rfl
        rw [this]
        by_cases c1 : t.n = n
        · by_cases c2 : key c t = s
          · exact absurd (by rw [c1, c2]) e
          · simp [c2]
        · simp [c1]
      simp only [Mp.put, if_neg e, h0]
      cases hf : ps.find? (hitQ n s c) with
      | some t => rfl
      | none => simp [h2]
  · by_cases e : (n, s) = (t.n, key c t)
    · unfold Mp.put at hf
      rw [if_pos e] at hf
      injection hf with hf
      injection hf with _ hf
      exact .inl hf.symm
    · unfold Mp.put at hf
      rw [if_neg e] at hf
      rcases h.skip n s p k hf with h1 | ⟨i, hi, hk, hj⟩
      · exact .inl h1
      · exact .inr ⟨i, hi, hk, fun j hj' => put_some (hj j hj')⟩
/-- Another place to go on searching. -/
theorem Side.hop {ps : List T3} {c : Bool} {f : Ky → Option Ky} (h : Side ps c f) {n s p k0 k : List UInt8} (hf : f (n, s) = some (p, k0)) (i : Nat) (hi : 1 ≤ i) (hk : k = itn i s) (hj : ∀ j, j < i → taken ps n (itn j s) c = true) : Side ps c (Mp.put f (n, s) (p, k)) := by
  refine ⟨fun n' s' => ?_, fun n' s' p' k' hf' => ?_⟩
  · rw [← h.val n' s']
    unfold Mp.put
    by_cases e : (n', s') = (n, s)
    · rw [if_pos e, e, hf]; rfl
    · rw [if_neg e]
  · by_cases e : (n', s') = (n, s)
    · unfold Mp.put at hf'
      rw [if_pos e] at hf'
      injection hf' with hf'
      injection hf' with _ hf'
      have e1 : n' = n := congrArg (·.1) e
      have e2 : s' = s := congrArg (·.2) e
      subst e1; subst e2
      exact .inr ⟨i, hi, by rw [← hf', hk], fun j hj' => put_some (by rw [h.has]; exact hj j hj')⟩
    · unfold Mp.put at hf'
      rw [if_neg e] at hf'
      rcases h.skip n' s' p' k' hf' with h1 | ⟨i, hi, hk, hj⟩
      · exact .inl h1
      · exact .inr ⟨i, hi, hk, fun j hj' => put_some (hj j hj')⟩
/-- What the program's tables hold. -/
structure Tab4 (st : St) (fa : Ky → Option (List UInt8)) (fg : Ky → Option Unit) (ff fb : Ky → Option Ky) : Prop where
  a : Fa st.fs fa
  g : Fg st.fs fg
  f : Side st.ps true ff
  b : Side st.ps false fb
  w : Wfp st.ps
theorem Tab4.nil (seed : List UInt8) : Tab4 (emp seed) (fun _ => none) (fun _ => none) (fun _ => none) (fun _ => none) :=
  ⟨Fa.nil, Fg.nil, Side.nil true, Side.nil false, fun t h => by cases h⟩
/-- How far the search has come; the texts passed; a text that is passed next. -/
theorem go_on {ps : List T3} {c : Bool} {f : Ky → Option Ky} (h : Side ps c f) {n y p k : List UInt8} (hy : 0 < y.length) (hps : ps.length ≤ 200) {i : Nat} (hi : ∀ j, j < i → taken ps n (itn j y) c = true) (hf : f (n, itn i y) = some (p, k)) :
    ∃ i', i < i' ∧ i' ≤ 200 ∧ (if k = [] then nxt (itn i y) else k) = itn i' y ∧ ∀ j, j < i' → taken ps n (itn j y) c = true := by
  have hii : taken ps n (itn i y) c = true := by rw [← h.has, hf]; rfl
  have few : ∀ i', (∀ j, j < i' → taken ps n (itn j y) c = true) → i' ≤ 200 := fun i' hj => by
    rcases Nat.lt_or_ge 256 i' with h1 | h1
    · have := taken_few ps n y c hy 256 (Nat.le_refl _) (fun j h2 => hj j (by omega)); omega
    · have := taken_few ps n y c hy i' h1 hj; omega
  have one : ∀ j, j < i + 1 → taken ps n (itn j y) c = true := fun j hj => by
    rcases Nat.lt_or_ge j i with h1 | h1
    · exact hi j h1
    · obtain rfl : j = i := by omega
      exact hii
  by_cases hk : k = []
  · exact ⟨i + 1, by omega, few _ one, by rw [if_pos hk]; rfl, one⟩
  · rcases h.skip n _ p k hf with h1 | ⟨m, hm, hkm, hj⟩
    · exact absurd h1 hk
    · have all : ∀ j, j < m + i → taken ps n (itn j y) c = true := fun j hj' => by
        rcases Nat.lt_or_ge j i with h1 | h1
        · exact hi j h1
        · have := hj (j - i) (by omega)
          rw [itn_add, h.has, show j - i + i = j by omega] at this
          exact this
      exact ⟨m + i, by omega, few _ all, by rw [if_neg hk, hkm, itn_add], all⟩
end Go.Proofs.YtjklgmhaebjjaaaGreat.S11
namespace Go.Proofs.YtjklgmhaebjjaaaGreat.S11
open Go.RowKit
set_option linter.unusedVariables false
set_option linter.unusedSimpArgs false

theorem clone_S (S : ByteArray) (w : World) (h : S.size ≤ 10000) : Calls Tryz.prog 82 #[.string S] w fun e w' => e = .returned (.string S) ∧ Grown w w' := by
  go_enter Tryz.func82, Tryz.ntmps82
  go_wp2_with fail
  refine (Sh.Tryz.stringslite_Clone S w (by omega)).mono ?_
  rintro e w2 ⟨rfl, hb⟩
  go_wp2
  go_ret
  exact ⟨rfl, hb⟩
theorem clone_any (s : List UInt8) (w : World) (h : s.length ≤ 10000) : Calls Tryz.prog 82 #[.string ⟨s.toArray⟩] w fun e w' => e = .returned (.string ⟨s.toArray⟩) ∧ Grown w w' :=
  clone_S ⟨s.toArray⟩ w (by show s.toArray.size ≤ 10000; simpa using h)
theorem bclone_any (A : Option Addr) (n c : Nat) (l : List UInt8) (w : World) (hl : l.length = n) (hn : n ≤ 100000) (hr : Rd w w.heap.size A l) :
    Calls Tryz.prog 37 #[.slice A n c] w fun e w' => ∃ A' c', e = .returned (.slice A' n c') ∧ Own w' w.heap.size A' c' l ∧ Grown w w' := by
  subst hl
  cases A with
  | none =>
    have hl0 : l = [] := by
      rcases hr with h | ⟨b, off, e, _⟩
      · exact h
      · cases e
    subst hl0
    refine (Sh.Tryz.bytes_Clone_nil 0 c w).mono ?_
    rintro e w2 ⟨rfl, hw⟩
    exact ⟨none, 0, rfl, Own.nil _ _, by rw [hw]; exact Grown.refl _⟩
  | some ad =>
    refine (Sh.Tryz.bytes_Clone_at ad l.length c (l.map fun x => (x.toNat : Int)) w (by simp) (by omega) ?_).mono ?_
    · intro i hi
      rcases hr with h | ⟨b, off, e, hb, hc⟩
      · subst h; simp at hi
      · simp only [Option.some.injEq] at e
        subst e
        have h3 := hc i hi
        have e2 : (⟨b, off, none⟩ : Addr).add i = ⟨b, off + i, none⟩ := by by_cases h0 : i = 0 <;> simp [Addr.add, h0]
        rw [e2, h3]
        simp [bv, List.getD_eq_getElem?_getD, hi]
    · rintro e w2 ⟨v', rfl, ho, hne, hb⟩
      have hv : ∃ A' c', v' = .slice A' l.length c' := by
        rcases ho.2 with ⟨h1, h3⟩ | ⟨g, cap, cur, h1, _⟩
        · exact ⟨none, 0, by rw [h1, h3]⟩
        · exact ⟨some ⟨g, 0, none⟩, cap, h1⟩
      obtain ⟨A', c', rfl⟩ := hv
      refine ⟨A', c', rfl, ?_, hb⟩
      unfold Own
      have e : bvs l = (l.map fun x => (x.toNat : Int)).map (Value.int .u8) := by simp [bvs, bv]
      rw [e]
      exact ho
end Go.Proofs.YtjklgmhaebjjaaaGreat.S11
