/-
  What the laws of oracle ask of the program's oracle and of the reference's, whatever the answers are: a model of them; what two footprints share. Permutations are bijections: on lists.
-/
import Derived.Test.YtjklgmhaebjjaaaGreatMgOidealMain17
import Derived.Test.YtjklgmhaebjjaaaGreatMgOidealMain6
import Derived.Test.YtjklgmhaebjjaaaGreatMgOidealMain9
namespace Go.Proofs.YtjklgmhaebjjaaaGreat.S12
open S11
open Go.RowKit
set_option linter.unusedVariables false
set_option linter.unusedSimpArgs false

/-- What an oracle answers, and what it then is. num: at most so many questions ahead, and all is as it should be. -/
structure Mod where
  σ : Type
  num : σ → Nat → Prop
  mac : σ → List UInt8 → List UInt8 → List UInt8 × σ
  tag : σ → List UInt8 → List UInt8 → List UInt8 × σ
  enc : σ → List UInt8 → List UInt8 → List UInt8 × σ
  dec : σ → List UInt8 → List UInt8 → List UInt8 × σ
  unit : σ → List UInt8 → Int → List UInt8 → List UInt8 × σ
  ununit : σ → List UInt8 → Int → List UInt8 → List UInt8 × σ
  nonce : σ → List UInt8 × σ
  bad : σ → Bool
  cnt : σ → Nat
  num_up : ∀ st i j, num st i → i ≤ j → j ≤ 250 → num st j
  num_mac : ∀ st i k t, num st i → i < 250 → num (mac st k t).2 (i + 1)
  num_tag : ∀ st i k t, num st i → i < 250 → num (tag st k t).2 (i + 1)
  num_enc : ∀ st i k b, num st i → i < 250 → num (enc st k b).2 (i + 1)
  num_unit : ∀ st i k n b, num st i → i < 250 → num (unit st k n b).2 (i + 1)
  num_nonce : ∀ st i, num st i → i < 250 → num (nonce st).2 (i + 1)
  len_mac : ∀ st i k t, num st i → (mac st k t).1.length = 64
  len_tag : ∀ st i k t, num st i → (tag st k t).1.length = 32
  len_enc : ∀ st i k b, num st i → b.length = 16 → (enc st k b).1.length = 16
  len_unit : ∀ st i k n b, num st i → (unit st k n b).1.length = b.length
  len_nonce : ∀ st i, num st i → (nonce st).1.length = 16
  dec_enc : ∀ st i k b, num st i → b.length = 16 → dec (enc st k b).2 k (enc st k b).1 = (b, (enc st k b).2)
  un_unit : ∀ st i k n b, num st i → b ≠ [] → ununit (unit st k n b).2 k n (unit st k n b).1 = (b, (unit st k n b).2)

/-- Derive's blocks: the last one, all of them, what the oracle then is. -/
def Mod.drv (M : Mod) (st : M.σ) (key pre : List UInt8) : Nat → List UInt8 × List UInt8 × M.σ
  | 0 => ([], [], st)
  | j + 1 => ((M.mac (M.drv st key pre j).2.2 key ((M.drv st key pre j).1 ++ pre ++ [UInt8.ofNat (j + 1)])).1,
      (M.drv st key pre j).2.1 ++ (M.mac (M.drv st key pre j).2.2 key ((M.drv st key pre j).1 ++ pre ++ [UInt8.ofNat (j + 1)])).1,
      (M.mac (M.drv st key pre j).2.2 key ((M.drv st key pre j).1 ++ pre ++ [UInt8.ofNat (j + 1)])).2)
def lbl : List UInt8 := [116, 117, 114, 110, 107, 101, 121, 0]
def preD (ctx : UInt8) (info : List UInt8) : List UInt8 := lbl ++ [ctx] ++ info
def z64 : List UInt8 := List.replicate 64 0
def Mod.derive (M : Mod) (st : M.σ) (mat : List UInt8) (ctx : UInt8) (info : List UInt8) (n : Nat) : List UInt8 × M.σ :=
  ((M.drv (M.mac st z64 mat).2 (M.mac st z64 mat).1 (preD ctx info) ((n + 63) / 64)).2.1.take n, (M.drv (M.mac st z64 mat).2 (M.mac st z64 mat).1 (preD ctx info) ((n + 63) / 64)).2.2)
theorem Mod.drv_num (M : Mod) {st : M.σ} {i : Nat} (h : M.num st i) (key pre : List UInt8) (j : Nat) (hj : i + j ≤ 250) : M.num (M.drv st key pre j).2.2 (i + j) := by
  induction j with
  | zero => exact h
  | succ j ih =>
    have hlt : i + j < 250 := by omega
    exact M.num_mac _ _ _ _ (ih (by omega)) hlt
theorem Mod.drv_len (M : Mod) {st : M.σ} {i : Nat} (h : M.num st i) (key pre : List UInt8) (j : Nat) (hj : i + j ≤ 250) : (M.drv st key pre j).2.1.length = 64 * j ∧ (M.drv st key pre j).1.length ≤ 64 := by
  induction j with
  | zero => exact ⟨rfl, Nat.zero_le _⟩
  | succ j ih =>
    have ih := ih (by omega)
    have hl := M.len_mac _ _ key ((M.drv st key pre j).1 ++ pre ++ [UInt8.ofNat (j + 1)]) (M.drv_num h key pre j (by omega))
    refine ⟨?_, by show (M.mac _ _ _).1.length ≤ 64; omega⟩
    show (_ ++ (M.mac _ _ _).1).length = _
    rw [List.length_append, hl, ih.1]
    omega
theorem Mod.derive_num (M : Mod) {st : M.σ} {i : Nat} (h : M.num st i) (hi : i ≤ 190) (mat : List UInt8) (ctx : UInt8) (info : List UInt8) (n : Nat) (hn : n ≤ 200) : M.num (M.derive st mat ctx info n).2 (i + 5) :=
  M.num_up _ _ _ (M.drv_num (M.num_mac st i z64 mat h (by omega)) _ _ _ (by omega)) (by omega) (by omega)
theorem Mod.derive_len (M : Mod) {st : M.σ} {i : Nat} (h : M.num st i) (hi : i ≤ 190) (mat : List UInt8) (ctx : UInt8) (info : List UInt8) (n : Nat) (hn : n ≤ 200) : (M.derive st mat ctx info n).1.length = n := by
  have := (M.drv_len (M.num_mac st i z64 mat h (by omega)) (M.mac st z64 mat).1 (preD ctx info) ((n + 63) / 64) (by omega)).1
  show (List.take n _).length = n
  rw [List.length_take, this]
  omega

/-- An object in memory: at block G, with the footprint F, in the state st. -/
def Ob (M : Mod) := World → Nat → (Nat → Prop) → M.σ → Prop
/-- It has gone on: only its footprint and new memory have turned. -/
def Onw {M : Mod} (O : Ob M) (w : World) (G : Nat) (F : Nat → Prop) (st' : M.σ) (w' : World) : Prop := ∃ F', O w' G F' st' ∧ (∀ k, F' k → F k ∨ w.heap.size ≤ k) ∧ Ch F w w'
/-- What every such object keeps; it may read what lies below B. -/
structure Kept {M : Mod} (B : Nat) (O : Ob M) : Prop where
  foot : ∀ w G F st, O w G F st → ∀ k, F k → k < w.heap.size
  keep : ∀ w w' G F st, O w G F st → (∀ k, F k ∨ k < B → w'.heap[k]? = w.heap[k]?) → w.heap.size ≤ w'.heap.size → O w' G F st
theorem Kept.grow {M : Mod} {B : Nat} {O : Ob M} (K : Kept B O) {w w' : World} {G : Nat} {F : Nat → Prop} {st : M.σ} (h : O w G F st) (hB : B ≤ w.heap.size) (hg : Grown w w') : O w' G F st :=
  K.keep w w' G F st h (fun k hk => hg.block k (by rcases hk with hk | hk; exact K.foot w G F st h k hk; omega)) hg.size
/-- Bytes at A, beside F. -/
def Bes (w : World) (F : Nat → Prop) (A : Option Addr) (n c : Nat) (l : List UInt8) : Prop := Rd w w.heap.size A l ∧ l.length = n ∧ n ≤ c ∧ Off F A l
/-- Pieces at A, beside F. -/
def BesL (w : World) (F : Nat → Prop) (A : Option Addr) (n c : Nat) (ls : List (List UInt8)) : Prop :=
  RdL w w.heap.size A ls ∧ ls.length = n ∧ n ≤ c ∧ (ls ≠ [] → ∃ b off, A = some ⟨b, off, none⟩ ∧ ¬ F b ∧ ∀ j (h : j < ls.length), ∃ A' c', w.cell? ⟨b, off + j, none⟩ = some (.slice A' ls[j].length c') ∧ Off F A' ls[j])
theorem Bes.ch {w w' : World} {F : Nat → Prop} {A : Option Addr} {n c : Nat} {l : List UInt8} (h : Bes w F A n c l) (hc : Ch F w w') : Rd w' w'.heap.size A l := rd_ch h.1 h.2.2.2 hc
theorem Bes.grow {w w' : World} {F : Nat → Prop} {A : Option Addr} {n c : Nat} {l : List UInt8} (h : Bes w F A n c l) (hg : Grown w w') : Bes w' F A n c l := ⟨h.1.grow hg, h.2⟩
/-- It stays beside the footprint that has gone on. -/
theorem Bes.on {w w' : World} {F F' : Nat → Prop} {A : Option Addr} {n c : Nat} {l : List UInt8} (h : Bes w F A n c l) (hF : ∀ k, F' k → F k ∨ w.heap.size ≤ k) (hc : Ch F w w') : Bes w' F' A n c l := by
  refine ⟨h.ch hc, h.2.1, h.2.2.1, fun x hx hl hf => ?_⟩
  rcases hF _ hf with h1 | h1
  · exact h.2.2.2 x hx hl h1
  · rcases h.1 with e | ⟨b, off, e, hb, _⟩
    · exact hl e
    · rw [hx] at e
      simp only [Option.some.injEq] at e
      subst e
      simp at h1
      omega

/-- What is asked of the reference's oracle. -/
structure RefOk (M : Mod) (B : Nat) (O : Ob M) : Prop extends Kept B O where
  mac : ∀ w R F st i A1 n1 c1 key A2 n2 c2 text, O w R F st → M.num st i → i ≤ 200 → Bes w F A1 n1 c1 key → n1 ≤ 2000 → Bes w F A2 n2 c2 text → n2 ≤ 2000 →
    Calls Tryz.prog 15 #[.pointer (some ⟨R, 0, none⟩), .slice A1 n1 c1, .slice A2 n2 c2] w fun e w' => e = .returned (.string ⟨(M.mac st key text).1.toArray⟩) ∧ Onw O w R F (M.mac st key text).2 w'
  tag : ∀ w R F st i A1 n1 c1 key A2 n2 c2 text, O w R F st → M.num st i → i ≤ 200 → Bes w F A1 n1 c1 key → n1 ≤ 2000 → Bes w F A2 n2 c2 text → n2 ≤ 2000 →
    Calls Tryz.prog 16 #[.pointer (some ⟨R, 0, none⟩), .slice A1 n1 c1, .slice A2 n2 c2] w fun e w' => e = .returned (.string ⟨(M.tag st key text).1.toArray⟩) ∧ Onw O w R F (M.tag st key text).2 w'
  enc : ∀ w R F st i A1 n1 c1 key b, O w R F st → M.num st i → i ≤ 200 → Bes w F A1 n1 c1 key → n1 = 32 → b.length = 16 →
    Calls Tryz.prog 20 #[.pointer (some ⟨R, 0, none⟩), .slice A1 n1 c1, .agg (bvs b).toArray] w fun e w' => e = .returned (.string ⟨(M.enc st key b).1.toArray⟩) ∧ Onw O w R F (M.enc st key b).2 w'
  unit : ∀ w R F st i A1 n1 c1 key number A2 n2 c2 b, O w R F st → M.num st i → i ≤ 200 → Bes w F A1 n1 c1 key → n1 = 64 → 0 ≤ number → number < 9223372036854775808 → Bes w F A2 n2 c2 b → 16 ≤ n2 → n2 ≤ 100 → n2 % 16 = 0 →
    Calls Tryz.prog 24 #[.pointer (some ⟨R, 0, none⟩), .slice A1 n1 c1, .int .i64 number, .slice A2 n2 c2] w fun e w' => e = .returned (.string ⟨(M.unit st key number b).1.toArray⟩) ∧ Onw O w R F (M.unit st key number b).2 w'
  nonce : ∀ w R F st i, O w R F st → M.num st i → i ≤ 200 →
    Calls Tryz.prog 26 #[.pointer (some ⟨R, 0, none⟩)] w fun e w' => e = .returned (.string ⟨(M.nonce st).1.toArray⟩) ∧ Onw O w R F (M.nonce st).2 w'

/-- Whether this seat's program decrypts blocks (its text has a body here). -/
def hasDec : Prop := True
/-- A cipher behind the interface: how its methods are found. -/
structure Ifc (T : TypeId) (v : Value) (fe fd : FuncId) (re rd : Value) : Prop where
  ne : ∀ (k : Nat) (V : World), (nilAhead (k + 1) T v "Encrypt").run Tryz.prog V = .ok (some false) V
  nd : ∀ (k : Nat) (V : World), (nilAhead (k + 1) T v "Decrypt").run Tryz.prog V = .ok (some false) V
  me : ∀ (k : Nat) (V : World), (method (k + 1) T v "Encrypt").run Tryz.prog V = .ok (fe, re) V
  md : ∀ (k : Nat) (V : World), (method (k + 1) T v "Decrypt").run Tryz.prog V = .ok (fd, rd) V
  ce : ∀ (args : Array Value) (V : World), (callFunc fe args).run Tryz.prog V = .ok (.enter fe args) V
  cd : hasDec → ∀ (args : Array Value) (V : World), (callFunc fd args).run Tryz.prog V = .ok (.enter fd args) V
/-- What is asked of the program's oracle; a cipher of it has a footprint of its own, which it only reads. -/
structure ProgOk (M : Mod) (B : Nat) (O : Ob M) : Prop extends Kept B O where
  mac : ∀ w G F st i A1 n1 c1 key A2 n2 c2 ls, O w G F st → M.num st i → i ≤ 200 → Bes w F A1 n1 c1 key → n1 ≤ 2000 → BesL w F A2 n2 c2 ls → n2 ≤ 10 → ls.flatten.length ≤ 2000 →
    Calls Tryz.prog 12 #[.pointer (some ⟨G, 0, none⟩), .slice A1 n1 c1, .slice A2 n2 c2] w fun e w' => e = .returned (.agg (bvs (M.mac st key ls.flatten).1).toArray) ∧ Onw O w G F (M.mac st key ls.flatten).2 w'
  tag : ∀ w G F st i A1 n1 c1 key A2 n2 c2 ls, O w G F st → M.num st i → i ≤ 200 → Bes w F A1 n1 c1 key → n1 ≤ 2000 → BesL w F A2 n2 c2 ls → n2 ≤ 10 → ls.flatten.length ≤ 2000 →
    Calls Tryz.prog 14 #[.pointer (some ⟨G, 0, none⟩), .slice A1 n1 c1, .slice A2 n2 c2] w fun e w' => e = .returned (.agg (bvs (M.tag st key ls.flatten).1).toArray) ∧ Onw O w G F (M.tag st key ls.flatten).2 w'
  derive : ∀ w G F st i A1 n1 c1 mat (ctx : UInt8) A2 n2 c2 info (n : Nat), O w G F st → M.num st i → i ≤ 190 → Bes w F A1 n1 c1 mat → n1 ≤ 2000 → Bes w F A2 n2 c2 info → n2 ≤ 2000 → n ≤ 200 →
    Calls Tryz.prog 17 #[.pointer (some ⟨G, 0, none⟩), .slice A1 n1 c1, .int .u8 (ctx.toNat : Int), .slice A2 n2 c2, .int .i64 (n : Int)] w fun e w' =>
      ∃ A c, e = .returned (.tuple #[.slice A n c, .bool true]) ∧ n ≤ c ∧ Rd w' w'.heap.size A (M.derive st mat ctx info n).1 ∧ (∀ x, A = some x → w.heap.size ≤ x.block) ∧
        ∃ F', O w' G F' (M.derive st mat ctx info n).2 ∧ (∀ k, F' k → F k ∨ w.heap.size ≤ k) ∧ Ch F w w' ∧ Off F' A (M.derive st mat ctx info n).1
  deriveNo : ∀ w G F st A1 n1 c1 mat (ctx : UInt8) A2 n2 c2 info (n : Int), O w G F st → Bes w F A1 n1 c1 mat → n1 ≤ 2000 → Bes w F A2 n2 c2 info → n2 ≤ 2000 → -9223372036854775808 ≤ n → n < 9223372036854775808 → (n < 0 ∨ 16320 < n) →
    Calls Tryz.prog 17 #[.pointer (some ⟨G, 0, none⟩), .slice A1 n1 c1, .int .u8 (ctx.toNat : Int), .slice A2 n2 c2, .int .i64 n] w fun e w' =>
      ∃ A c, e = .returned (.tuple #[.slice A 0 c, .bool false]) ∧ Onw O w G F st w'
  block : ∀ w G F st i A1 n1 c1 key, O w G F st → M.num st i → i ≤ 200 → Bes w F A1 n1 c1 key → n1 = 32 →
    Calls Tryz.prog 19 #[.pointer (some ⟨G, 0, none⟩), .slice A1 n1 c1] w fun e w' =>
      ∃ (T : TypeId) (v : Value) (fe fd : FuncId) (re rd : Value) (FB : Nat → Prop), e = .returned (.tuple #[.iface T v, .int .i64 0]) ∧ Ifc T v fe fd re rd ∧ (∃ F', O w' G F' st ∧ (∀ k, F' k → F k ∨ w.heap.size ≤ k) ∧ Ch F w w' ∧ ∀ k, FB k → ¬ F' k) ∧ (∀ k, FB k → w.heap.size ≤ k ∧ k < w'.heap.size) ∧
        ∀ w2 F2 st2 i2, O w2 G F2 st2 → M.num st2 i2 → i2 ≤ 200 → (∀ k, FB k → w2.heap[k]? = w'.heap[k]?) → w'.heap.size ≤ w2.heap.size → (∀ k, FB k → ¬ F2 k) →
          (∀ b, b.length = 16 → Calls Tryz.prog fe #[re, .agg (bvs b).toArray] w2 fun e w3 => e = .returned (.agg (bvs (M.enc st2 key b).1).toArray) ∧ Onw O w2 G F2 (M.enc st2 key b).2 w3) ∧
          (hasDec → ∀ b, b.length = 16 → Calls Tryz.prog fd #[rd, .agg (bvs b).toArray] w2 fun e w3 => e = .returned (.agg (bvs (M.dec st2 key b).1).toArray) ∧ Onw O w2 G F2 (M.dec st2 key b).2 w3)
  blockNo : ∀ w G F st A1 n1 c1 key, O w G F st → Bes w F A1 n1 c1 key → n1 ≠ 32 → n1 ≤ 2000 →
    Calls Tryz.prog 19 #[.pointer (some ⟨G, 0, none⟩), .slice A1 n1 c1] w fun e w' => e = .returned (.tuple #[.nilIface, .int .i64 2]) ∧ Onw O w G F st w'
  unit : ∀ w G F st i A1 n1 c1 key number A2 n2 c2 b, O w G F st → M.num st i → i ≤ 200 → Bes w F A1 n1 c1 key → n1 = 64 → 0 ≤ number → number < 9223372036854775808 → Bes w F A2 n2 c2 b → 16 ≤ n2 → n2 ≤ 100 → n2 % 16 = 0 →
    Calls Tryz.prog 21 #[.pointer (some ⟨G, 0, none⟩), .slice A1 n1 c1, .int .i64 number, .slice A2 n2 c2] w fun e w' =>
      ∃ A c, e = .returned (.tuple #[.slice A n2 c, .int .i64 0]) ∧ n2 ≤ c ∧ Rd w' w'.heap.size A (M.unit st key number b).1 ∧ (∀ x, A = some x → w.heap.size ≤ x.block) ∧
        ∃ F', O w' G F' (M.unit st key number b).2 ∧ (∀ k, F' k → F k ∨ w.heap.size ≤ k) ∧ Ch F w w' ∧ Off F' A (M.unit st key number b).1
  ununit : ∀ w G F st i A1 n1 c1 key number A2 n2 c2 b, O w G F st → M.num st i → i ≤ 200 → Bes w F A1 n1 c1 key → n1 = 64 → 0 ≤ number → number < 9223372036854775808 → Bes w F A2 n2 c2 b → 16 ≤ n2 → n2 ≤ 100 → n2 % 16 = 0 →
    Calls Tryz.prog 23 #[.pointer (some ⟨G, 0, none⟩), .slice A1 n1 c1, .int .i64 number, .slice A2 n2 c2] w fun e w' =>
      ∃ A c, e = .returned (.tuple #[.slice A n2 c, .int .i64 0]) ∧ n2 ≤ c ∧ (M.ununit st key number b).1.length = n2 ∧ Rd w' w'.heap.size A (M.ununit st key number b).1 ∧ (∀ x, A = some x → w.heap.size ≤ x.block) ∧ Onw O w G F (M.ununit st key number b).2 w'
  unitNo : ∀ w G F st A1 n1 c1 key number A2 n2 c2 b, O w G F st → Bes w F A1 n1 c1 key → n1 ≤ 2000 → -9223372036854775808 ≤ number → number < 9223372036854775808 → Bes w F A2 n2 c2 b → n2 ≤ 2000 → ¬ (n1 = 64 ∧ 0 ≤ number ∧ 16 ≤ n2 ∧ n2 ≤ 1024 ∧ n2 % 16 = 0) →
    Calls Tryz.prog 21 #[.pointer (some ⟨G, 0, none⟩), .slice A1 n1 c1, .int .i64 number, .slice A2 n2 c2] w fun e w' => ∃ A c, e = .returned (.tuple #[.slice A 0 c, .int .i64 2]) ∧ Onw O w G F st w'
  ununitNo : ∀ w G F st A1 n1 c1 key number A2 n2 c2 b, O w G F st → Bes w F A1 n1 c1 key → n1 ≤ 2000 → -9223372036854775808 ≤ number → number < 9223372036854775808 → Bes w F A2 n2 c2 b → n2 ≤ 2000 → ¬ (n1 = 64 ∧ 0 ≤ number ∧ 16 ≤ n2 ∧ n2 ≤ 1024 ∧ n2 % 16 = 0) →
    Calls Tryz.prog 23 #[.pointer (some ⟨G, 0, none⟩), .slice A1 n1 c1, .int .i64 number, .slice A2 n2 c2] w fun e w' => ∃ A n c, e = .returned (.tuple #[.slice A n c, .int .i64 2]) ∧ Onw O w G F st w'
  nonce : ∀ w G F st i, O w G F st → M.num st i → i ≤ 200 →
    Calls Tryz.prog 25 #[.pointer (some ⟨G, 0, none⟩)] w fun e w' => e = .returned (.agg (bvs (M.nonce st).1).toArray) ∧ Onw O w G F (M.nonce st).2 w'
  bad : ∀ w G F st, O w G F st → Calls Tryz.prog 9 #[.pointer (some ⟨G, 0, none⟩)] w fun e w' => e = .returned (.bool (M.bad st)) ∧ Grown w w'
  queries : ∀ w G F st i, O w G F st → M.num st i → i ≤ 200 → Calls Tryz.prog 10 #[.pointer (some ⟨G, 0, none⟩)] w fun e w' => e = .returned (.int .i64 (M.cnt st : Int)) ∧ Grown w w'
end Go.Proofs.YtjklgmhaebjjaaaGreat.S12
namespace Go.Proofs.YtjklgmhaebjjaaaGreat.S11
set_option linter.unusedVariables false
set_option linter.unusedSimpArgs false

/-- Of one name no two pairs share a text of a side; the two of a pair are of one length. -/
def Good (ps : List T3) : Prop := (∀ t ∈ ps, t.x.length = t.y.length) ∧ ps.Pairwise fun a b => a.n = b.n → a.x ≠ b.x ∧ a.y ≠ b.y
theorem good_nil : Good [] := ⟨by simp, List.Pairwise.nil⟩
def side (first : Bool) (t : T3) : List UInt8 := if first then t.x else t.y
theorem good_one {ps : List T3} (h : Good ps) {a b : T3} (ha : a ∈ ps) (hb : b ∈ ps) (hn : a.n = b.n) (hs : a.x = b.x ∨ a.y = b.y) : a.x = b.x ∧ a.y = b.y := by
  obtain ⟨i, hi, rfl⟩ := List.getElem_of_mem ha
  obtain ⟨j, hj, rfl⟩ := List.getElem_of_mem hb
  rcases Nat.lt_trichotomy i j with c | c | c
  · have := List.pairwise_iff_getElem.1 h.2 i j hi hj c hn
    rcases hs with e | e
    · exact absurd e this.1
    · exact absurd e this.2
  · subst c; exact ⟨rfl, rfl⟩
  · have := List.pairwise_iff_getElem.1 h.2 j i hj hi c hn.symm
    rcases hs with e | e
    · exact absurd e.symm this.1
    · exact absurd e.symm this.2
theorem side_len {ps : List T3} (h : Good ps) {t : T3} (ht : t ∈ ps) (first : Bool) : (side first t).length = t.x.length := by
  cases first
  · exact (h.1 t ht).symm
  · rfl
/-- What was told is told again. -/
theorem pr_again {st : St} (h : Good st.ps) {t : T3} (ht : t ∈ st.ps) (first : Bool) (hne : side first t ≠ []) : prOp st t.n (side first t) first = (ans first t, st) := by
  unfold prOp
  rw [if_neg hne]
  have hx : hitQ t.n (side first t) first t = true := by
    have := side_len h ht first
    simp only [hitQ, decide_true, Bool.true_and, Bool.and_eq_true, decide_eq_true_eq]
    refine ⟨this.symm, ?_⟩
    cases first <;> rfl
  cases hf : st.ps.find? (hitQ t.n (side first t) first) with
  | none => exact absurd (List.find?_eq_none.1 hf t ht) (by simp [hx])
  | some u =>
    have hu := List.mem_of_find?_eq_some hf
    have hq : hitQ t.n (side first t) first u = true := List.find?_some hf
    simp only [hitQ, Bool.and_eq_true, decide_eq_true_eq] at hq
    have e := good_one h hu ht hq.1 (by
      have := hq.2.2
      cases first
      · exact .inr this
      · exact .inl this)
    cases first
    · show (u.x, st) = (t.x, st); rw [e.1]
    · show (u.y, st) = (t.y, st); rw [e.2]
theorem told_side (first : Bool) (name s y : List UInt8) : side first (told first name s y) = s ∧ ans first (told first name s y) = y ∧ (told first name s y).n = name ∧ side (!first) (told first name s y) = y := by cases first <;> exact ⟨rfl, rfl, rfl, rfl⟩
/-- The text that is found is free. -/
theorem freeY_free (st : St) (name s : List UInt8) (first : Bool) (hs : s ≠ []) (hp : st.ps.length ≤ 255) : taken st.ps name (freeY st name s first) (!first) = false := by
  have hl : 0 < (drawO st.seed s.length).length := by rw [drawO_len]; exact List.length_pos_iff.2 hs
  obtain ⟨i, hi, h1, h2⟩ := adv_free st.ps name (drawO st.seed s.length) (!first) hl hp
  have e : freeY st name s first = itn i (drawO st.seed s.length) := adv_at (fun y => taken st.ps name y (!first)) i 255 _ hi h1 h2
  rw [e]
  exact h2
theorem pr_good {st : St} (h : Good st.ps) (name s : List UInt8) (first : Bool) (hp : st.ps.length ≤ 255) : Good (prOp st name s first).2.ps := by
  unfold prOp
  split
  · exact h
  · rename_i hs
    split
    · exact h
    · rename_i hf
      have hfree := freeY_free st name s first hs hp
      have hyl := freeY_len st name s first
      show Good (st.ps ++ [told first name s (freeY st name s first)])
      refine ⟨fun t ht => ?_, ?_⟩
      · rcases List.mem_append.1 ht with h1 | h1
        · exact h.1 t h1
        · simp only [List.mem_singleton] at h1
          subst h1
          cases first
          · exact hyl
          · exact hyl.symm
      · rw [List.pairwise_append]
        refine ⟨h.2, List.pairwise_singleton _ _, fun a ha b hb hn => ?_⟩
        simp only [List.mem_singleton] at hb
        subst hb
        have hq := List.find?_eq_none.1 hf a ha
        have ht : hitP name (freeY st name s first) (!first) a = false := by
          unfold taken at hfree
          rw [List.any_eq_false] at hfree
          simpa using hfree a ha
        have hal := h.1 a ha
        cases first
        · have hn' : a.n = name := hn
          simp only [hitQ, hn', decide_true, Bool.true_and, Bool.and_eq_true, decide_eq_true_eq, not_and, Bool.false_eq_true, if_false] at hq
          simp only [hitP, hn', decide_true, Bool.true_and, Bool.not_false, if_true, Bool.and_eq_false_imp, decide_eq_true_eq, decide_eq_false_iff_not] at ht
          refine ⟨fun e => ?_, fun e => ?_⟩
          · have e' : a.x = freeY st name s false := e
            exact ht e' (by rw [e'])
          · have e' : a.y = s := e
            exact hq (by rw [hal, e']) e'
        · have hn' : a.n = name := hn
          simp only [hitQ, hn', decide_true, Bool.true_and, Bool.and_eq_true, decide_eq_true_eq, not_and, if_true] at hq
          simp only [hitP, hn', decide_true, Bool.true_and, Bool.not_true, Bool.false_eq_true, if_false, Bool.and_eq_false_imp, decide_eq_true_eq, decide_eq_false_iff_not] at ht
          refine ⟨fun e => ?_, fun e => ?_⟩
          · have e' : a.x = s := e
            exact hq (by rw [e']) e'
          · have e' : a.y = freeY st name s true := e
            exact ht e' (by rw [hal, e'])
/-- Nothing that was told is forgotten. -/
theorem pr_keeps (st : St) (name s : List UInt8) (first : Bool) (t : T3) (ht : t ∈ st.ps) : t ∈ (prOp st name s first).2.ps := by
  unfold prOp
  split
  · exact ht
  · split
    · exact ht
    · exact List.mem_append_left _ ht
/-- What is told now. -/
theorem pr_told (st : St) (name s : List UInt8) (first : Bool) (hs : s ≠ []) : ∃ t ∈ (prOp st name s first).2.ps, t.n = name ∧ side first t = s ∧ ans first t = (prOp st name s first).1 := by
  unfold prOp
  rw [if_neg hs]
  split
  · rename_i u hf
    have hu := List.mem_of_find?_eq_some hf
    have hq : hitQ name s first u = true := List.find?_some hf
    simp only [hitQ, Bool.and_eq_true, decide_eq_true_eq] at hq
    exact ⟨u, hu, hq.1, hq.2.2, rfl⟩
  · refine ⟨told first name s (freeY st name s first), List.mem_append_right _ (by simp), ?_⟩
    have := told_side first name s (freeY st name s first)
    exact ⟨this.2.2.1, this.1, this.2.1⟩
theorem ans_side (first : Bool) (t : T3) : ans first t = side (!first) t := by cases first <;> rfl
theorem pr_len {st : St} (h : Good st.ps) (name s : List UInt8) (first : Bool) (hp : st.ps.length ≤ 255) : (prOp st name s first).1.length = s.length := by
  by_cases hs : s = []
  · subst hs; unfold prOp; rw [if_pos rfl]
  · obtain ⟨t, ht, _, h2, h3⟩ := pr_told st name s first hs
    have hg := pr_good h name s first hp
    rw [← h3, ans_side, side_len hg ht, ← h2, side_len hg ht]
end Go.Proofs.YtjklgmhaebjjaaaGreat.S11
