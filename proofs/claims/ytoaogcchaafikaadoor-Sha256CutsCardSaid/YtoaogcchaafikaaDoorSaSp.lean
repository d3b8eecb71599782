/-
  SHA-256 as plain functions on words, and how the model's numbers are words.
-/
import Derived.Test.YtoaogcchaafikaaDoorMath
import Derived.Laws.BitsAllLaws
namespace Go.Proofs.YtoaogcchaafikaaDoor.S3
open Go.RowKit
set_option linter.unusedVariables false
set_option linter.unusedSimpArgs false

/-- A word turned to the right; shifted to the right. -/
def sr (x : UInt32) (n : Nat) : UInt32 := UInt32.ofNat (x.toNat / 2 ^ n)
def sl (x : UInt32) (n : Nat) : UInt32 := UInt32.ofNat (x.toNat * 2 ^ n)
/-- The operations of words under names of their own. -/
def wx (x y : UInt32) : UInt32 := x ^^^ y
def wa (x y : UInt32) : UInt32 := x &&& y
def wo (x y : UInt32) : UInt32 := x ||| y
def wn (x : UInt32) : UInt32 := ~~~x
def wp (x y : UInt32) : UInt32 := x + y
def rr (x : UInt32) (n : Nat) : UInt32 := wo (sr x n) (sl x (32 - n))
def s0 (x : UInt32) : UInt32 := wx (wx (rr x 7) (rr x 18)) (sr x 3)
def s1 (x : UInt32) : UInt32 := wx (wx (rr x 17) (rr x 19)) (sr x 10)
def S0 (x : UInt32) : UInt32 := wx (wx (rr x 2) (rr x 13)) (rr x 22)
def S1 (x : UInt32) : UInt32 := wx (wx (rr x 6) (rr x 11)) (rr x 25)
def ch (e f g : UInt32) : UInt32 := wx (wa e f) (wa (wn e) g)
def maj (a b c : UInt32) : UInt32 := wx (wx (wa a b) (wa a c)) (wa b c)
/-- Word i of a block. -/
def pw (l : List UInt8) (i : Nat) : Nat → Nat
  | 0 => 0
  | j + 1 => pw l i j * 256 + (l.getD (4 * i + j) 0).toNat
def w0 (l : List UInt8) (i : Nat) : UInt32 := UInt32.ofNat (pw l i 4)
theorem pw_lt (l : List UInt8) (i j : Nat) : pw l i j < 256 ^ j := by
  induction j with
  | zero => simp [pw]
  | succ j ih =>
    have := (l.getD (4 * i + j) 0).toNat_lt
    rw [pw, Nat.pow_succ]
    omega
/-- The first t words of a block, extended. -/
def wl (l : List UInt8) : Nat → List UInt32
  | 0 => []
  | t + 1 => wl l t ++ [if t < 16 then w0 l t else wp (wp (wp (s1 ((wl l t).getD (t - 2) 0)) ((wl l t).getD (t - 7) 0)) (s0 ((wl l t).getD (t - 15) 0))) ((wl l t).getD (t - 16) 0)]
def K : List UInt32 := [1116352408, 1899447441, 3049323471, 3921009573, 961987163, 1508970993, 2453635748, 2870763221, 3624381080, 310598401, 607225278, 1426881987, 1925078388, 2162078206, 2614888103, 3248222580, 3835390401, 4022224774, 264347078, 604807628, 770255983, 1249150122, 1555081692, 1996064986, 2554220882, 2821834349, 2952996808, 3210313671, 3336571891, 3584528711, 113926993, 338241895, 666307205, 773529912, 1294757372, 1396182291, 1695183700, 1986661051, 2177026350, 2456956037, 2730485921, 2820302411, 3259730800, 3345764771, 3516065817, 3600352804, 4094571909, 275423344, 430227734, 506948616, 659060556, 883997877, 958139571, 1322822218, 1537002063, 1747873779, 1955562222, 2024104815, 2227730452, 2361852424, 2428436474, 2756734187, 3204031479, 3329325298]
/-- The value: eight words. -/
structure St where
  a : UInt32
  b : UInt32
  c : UInt32
  d : UInt32
  e : UInt32
  f : UInt32
  g : UInt32
  h : UInt32
  deriving DecidableEq
def H0 : St := ⟨1779033703, 3144134277, 1013904242, 2773480762, 1359893119, 2600822924, 528734635, 1541459225⟩
def St.l (s : St) : List UInt32 := [s.a, s.b, s.c, s.d, s.e, s.f, s.g, s.h]
def t1 (s : St) (k w : UInt32) : UInt32 := wp (wp (wp (wp s.h (S1 s.e)) (ch s.e s.f s.g)) k) w
def t2 (s : St) : UInt32 := wp (S0 s.a) (maj s.a s.b s.c)
def rnd (s : St) (k w : UInt32) : St := ⟨wp (t1 s k w) (t2 s), s.a, s.b, s.c, wp s.d (t1 s k w), s.e, s.f, s.g⟩
def rnds (ws : List UInt32) (s : St) : Nat → St
  | 0 => s
  | t + 1 => rnd (rnds ws s t) (K.getD t 0) (ws.getD t 0)
def plus (s r : St) : St := ⟨wp s.a r.a, wp s.b r.b, wp s.c r.c, wp s.d r.d, wp s.e r.e, wp s.f r.f, wp s.g r.g, wp s.h r.h⟩
/-- The value behind a block. -/
def blk (s : St) (l : List UInt8) : St := plus s (rnds (wl l 64) s 64)
theorem wl_len (l : List UInt8) (t : Nat) : (wl l t).length = t := by
  induction t with
  | zero => rfl
  | succ t ih => rw [wl, List.length_append, ih]; rfl
theorem lt (x : UInt32) : x.toNat < 4294967296 := x.toNat_lt
theorem toNat_of (n : Nat) (h : n < 4294967296) : (UInt32.ofNat n).toNat = n := by rw [UInt32.toNat_ofNat']; omega
theorem sr_toNat (x : UInt32) (n : Nat) : (sr x n).toNat = x.toNat / 2 ^ n := toNat_of _ (Nat.lt_of_le_of_lt (Nat.div_le_self _ _) (lt x))
theorem sl_toNat (x : UInt32) (n : Nat) : (sl x n).toNat = x.toNat * 2 ^ n % 4294967296 := by
  unfold sl
  rw [UInt32.toNat_ofNat']
theorem sh_r {P : Program} (x : UInt32) (n : Nat) (h : n < 32) (k : IntKind) (W : World) : (Op.shift .shr .u32 (x.toNat : Int) k (n : Int)).run P W = .ok (.int .u32 ((sr x n).toNat : Int)) W := by
  have e : min ((n : Int)).toNat (IntKind.bits .u32) = n := by
    show min n 32 = n
    omega
  unfold Op.shift
  rw [if_neg (by omega), e, sr_toNat]
  simp only [Sem.run_pure]
  congr 2
  rw [Int.fdiv_eq_ediv_of_nonneg _ (by exact Int.pow_nonneg (by omega))]
  norm_cast
theorem sh_l {P : Program} (x : UInt32) (n : Nat) (h : n < 32) (k : IntKind) (W : World) : (Op.shift .shl .u32 (x.toNat : Int) k (n : Int)).run P W = .ok (.int .u32 ((sl x n).toNat : Int)) W := by
  have e : min ((n : Int)).toNat (IntKind.bits .u32) = n := by
    show min n 32 = n
    omega
  unfold Op.shift
  have e2 : IntKind.wrap .u32 ((x.toNat : Int) * 2 ^ n) = ((x.toNat * 2 ^ n % 4294967296 : Nat) : Int) := by
    have e3 : (x.toNat : Int) * 2 ^ n = ((x.toNat * 2 ^ n : Nat) : Int) := by norm_cast
    rw [IntKind.wrap_u32, e3]
    generalize x.toNat * 2 ^ n = y
    omega
  rw [if_neg (by omega), e, sl_toNat]
  simp only [Sem.run_pure, e2]
theorem i_sr (x : UInt32) (n : Nat) : (x.toNat : Int) / 2 ^ n = ((sr x n).toNat : Int) := by rw [sr_toNat]; norm_cast
theorem i_sl (x : UInt32) (n : Nat) : IntKind.wrap .u32 ((x.toNat : Int) * 2 ^ n) = ((sl x n).toNat : Int) := by
  have e3 : (x.toNat : Int) * 2 ^ n = ((x.toNat * 2 ^ n : Nat) : Int) := by norm_cast
  rw [IntKind.wrap_u32, e3, sl_toNat]
  generalize x.toNat * 2 ^ n = y
  omega
theorem i_xor (x y : UInt32) : bits .xor .u32 (x.toNat : Int) (y.toNat : Int) = ((wx x y).toNat : Int) := by rw [u32_xor_nat _ _ (lt x) (lt y)]; unfold wx; rw [UInt32.toNat_xor]
theorem i_and (x y : UInt32) : bits .and .u32 (x.toNat : Int) (y.toNat : Int) = ((wa x y).toNat : Int) := by rw [u32_and_nat _ _ (lt x) (lt y)]; unfold wa; rw [UInt32.toNat_and]
theorem i_or (x y : UInt32) : bits .or .u32 (x.toNat : Int) (y.toNat : Int) = ((wo x y).toNat : Int) := by rw [u32_or_nat _ _ (lt x) (lt y)]; unfold wo; rw [UInt32.toNat_or]
theorem i_add (x y : UInt32) : ((x.toNat : Int) + (y.toNat : Int)) % 4294967296 = ((wp x y).toNat : Int) := by unfold wp; rw [UInt32.toNat_add]; omega
theorem i_addw (x y : UInt32) : IntKind.wrap .u32 ((x.toNat : Int) + (y.toNat : Int)) = ((wp x y).toNat : Int) := by rw [IntKind.wrap_u32, i_add]
theorem i_notw (x : UInt32) : bits .xor .u32 (IntKind.max .u32) (x.toNat : Int) = ((wn x).toNat : Int) := by
  have e : IntKind.max .u32 = ((4294967295 : Nat) : Int) := rfl
  rw [e, u32_xor_nat _ _ (by omega) (lt x)]
  refine congrArg (fun n : Nat => (n : Int)) ?_
  show _ = (~~~x.toBitVec).toNat
  rw [BitVec.not_def, BitVec.toNat_xor, BitVec.toNat_allOnes]
  rfl
theorem i_not (x : UInt32) : (4294967295 - (x.toNat : Int)) = ((wn x).toNat : Int) := by
  have := lt x
  unfold wn
  rw [UInt32.toNat_not]
  have e : UInt32.size = 4294967296 := rfl
  omega
end Go.Proofs.YtoaogcchaafikaaDoor.S3
