/-
  SHA-512 as plain functions on words, and how the model's numbers are words.
-/
import Derived.Test.YtbofikghcoalbaaDoorMath
import Derived.Laws.BitsAllLaws
namespace Go.Proofs.YtbofikghcoalbaaDoor.S4
open Go.RowKit
set_option linter.unusedVariables false
set_option linter.unusedSimpArgs false

/-- A word turned to the right; shifted to the right. -/
def sr (x : UInt64) (n : Nat) : UInt64 := UInt64.ofNat (x.toNat / 2 ^ n)
def sl (x : UInt64) (n : Nat) : UInt64 := UInt64.ofNat (x.toNat * 2 ^ n)
/-- The operations of words under names of their own. -/
def wx (x y : UInt64) : UInt64 := x ^^^ y
def wa (x y : UInt64) : UInt64 := x &&& y
def wo (x y : UInt64) : UInt64 := x ||| y
def wn (x : UInt64) : UInt64 := ~~~x
def wp (x y : UInt64) : UInt64 := x + y
def rr (x : UInt64) (n : Nat) : UInt64 := wo (sr x n) (sl x (64 - n))
def s0 (x : UInt64) : UInt64 := wx (wx (rr x 1) (rr x 8)) (sr x 7)
def s1 (x : UInt64) : UInt64 := wx (wx (rr x 19) (rr x 61)) (sr x 6)
def S0 (x : UInt64) : UInt64 := wx (wx (rr x 28) (rr x 34)) (rr x 39)
def S1 (x : UInt64) : UInt64 := wx (wx (rr x 14) (rr x 18)) (rr x 41)
def ch (e f g : UInt64) : UInt64 := wx (wa e f) (wa (wn e) g)
def maj (a b c : UInt64) : UInt64 := wx (wx (wa a b) (wa a c)) (wa b c)
/-- Word i of a block. -/
def pw (l : List UInt8) (i : Nat) : Nat → Nat
  | 0 => 0
  | j + 1 => pw l i j * 256 + (l.getD (8 * i + j) 0).toNat
def w0 (l : List UInt8) (i : Nat) : UInt64 := UInt64.ofNat (pw l i 8)
theorem pw_lt (l : List UInt8) (i j : Nat) : pw l i j < 256 ^ j := by
  induction j with
  | zero => simp [pw]
  | succ j ih =>
    have := (l.getD (8 * i + j) 0).toNat_lt
    rw [pw, Nat.pow_succ]
    omega
/-- The first t words of a block, extended. -/
def wl (l : List UInt8) : Nat → List UInt64
  | 0 => []
  | t + 1 => wl l t ++ [if t < 16 then w0 l t else wp (wp (wp (s1 ((wl l t).getD (t - 2) 0)) ((wl l t).getD (t - 7) 0)) (s0 ((wl l t).getD (t - 15) 0))) ((wl l t).getD (t - 16) 0)]
def K : List UInt64 := [4794697086780616226, 8158064640168781261, 13096744586834688815, 16840607885511220156, 4131703408338449720, 6480981068601479193, 10538285296894168987, 12329834152419229976, 15566598209576043074, 1334009975649890238, 2608012711638119052, 6128411473006802146, 8268148722764581231, 9286055187155687089, 11230858885718282805, 13951009754708518548, 16472876342353939154, 17275323862435702243, 1135362057144423861, 2597628984639134821, 3308224258029322869, 5365058923640841347, 6679025012923562964, 8573033837759648693, 10970295158949994411, 12119686244451234320, 12683024718118986047, 13788192230050041572, 14330467153632333762, 15395433587784984357, 489312712824947311, 1452737877330783856, 2861767655752347644, 3322285676063803686, 5560940570517711597, 5996557281743188959, 7280758554555802590, 8532644243296465576, 9350256976987008742, 10552545826968843579, 11727347734174303076, 12113106623233404929, 14000437183269869457, 14369950271660146224, 15101387698204529176, 15463397548674623760, 17586052441742319658, 1182934255886127544, 1847814050463011016, 2177327727835720531, 2830643537854262169, 3796741975233480872, 4115178125766777443, 5681478168544905931, 6601373596472566643, 7507060721942968483, 8399075790359081724, 8693463985226723168, 9568029438360202098, 10144078919501101548, 10430055236837252648, 11840083180663258601, 13761210420658862357, 14299343276471374635, 14566680578165727644, 15097957966210449927, 16922976911328602910, 17689382322260857208, 500013540394364858, 748580250866718886, 1242879168328830382, 1977374033974150939, 2944078676154940804, 3659926193048069267, 4368137639120453308, 4836135668995329356, 5532061633213252278, 6448918945643986474, 6902733635092675308, 7801388544844847127]
/-- The value: eight words. -/
structure St where
  a : UInt64
  b : UInt64
  c : UInt64
  d : UInt64
  e : UInt64
  f : UInt64
  g : UInt64
  h : UInt64
  deriving DecidableEq
def H0 : St := ⟨7640891576956012808, 13503953896175478587, 4354685564936845355, 11912009170470909681, 5840696475078001361, 11170449401992604703, 2270897969802886507, 6620516959819538809⟩
def St.l (s : St) : List UInt64 := [s.a, s.b, s.c, s.d, s.e, s.f, s.g, s.h]
def t1 (s : St) (k w : UInt64) : UInt64 := wp (wp (wp (wp s.h (S1 s.e)) (ch s.e s.f s.g)) k) w
def t2 (s : St) : UInt64 := wp (S0 s.a) (maj s.a s.b s.c)
def rnd (s : St) (k w : UInt64) : St := ⟨wp (t1 s k w) (t2 s), s.a, s.b, s.c, wp s.d (t1 s k w), s.e, s.f, s.g⟩
def rnds (ws : List UInt64) (s : St) : Nat → St
  | 0 => s
  | t + 1 => rnd (rnds ws s t) (K.getD t 0) (ws.getD t 0)
def plus (s r : St) : St := ⟨wp s.a r.a, wp s.b r.b, wp s.c r.c, wp s.d r.d, wp s.e r.e, wp s.f r.f, wp s.g r.g, wp s.h r.h⟩
/-- The value behind a block. -/
def blk (s : St) (l : List UInt8) : St := plus s (rnds (wl l 80) s 80)
theorem wl_len (l : List UInt8) (t : Nat) : (wl l t).length = t := by
  induction t with
  | zero => rfl
  | succ t ih => rw [wl, List.length_append, ih]; rfl
theorem lt (x : UInt64) : x.toNat < 18446744073709551616 := x.toNat_lt
theorem toNat_of (n : Nat) (h : n < 18446744073709551616) : (UInt64.ofNat n).toNat = n := by rw [UInt64.toNat_ofNat']; omega
theorem sr_toNat (x : UInt64) (n : Nat) : (sr x n).toNat = x.toNat / 2 ^ n := toNat_of _ (Nat.lt_of_le_of_lt (Nat.div_le_self _ _) (lt x))
theorem sl_toNat (x : UInt64) (n : Nat) : (sl x n).toNat = x.toNat * 2 ^ n % 18446744073709551616 := by
  unfold sl
  rw [UInt64.toNat_ofNat']
theorem sh_r {P : Program} (x : UInt64) (n : Nat) (h : n < 64) (k : IntKind) (W : World) : (Op.shift .shr .u64 (x.toNat : Int) k (n : Int)).run P W = .ok (.int .u64 ((sr x n).toNat : Int)) W := by
  have e : min ((n : Int)).toNat (IntKind.bits .u64) = n := by
    show min n 64 = n
    omega
  unfold Op.shift
  rw [if_neg (by omega), e, sr_toNat]
  simp only [Sem.run_pure]
  congr 2
  rw [Int.fdiv_eq_ediv_of_nonneg _ (by exact Int.pow_nonneg (by omega))]
  norm_cast
theorem sh_l {P : Program} (x : UInt64) (n : Nat) (h : n < 64) (k : IntKind) (W : World) : (Op.shift .shl .u64 (x.toNat : Int) k (n : Int)).run P W = .ok (.int .u64 ((sl x n).toNat : Int)) W := by
  have e : min ((n : Int)).toNat (IntKind.bits .u64) = n := by
    show min n 64 = n
    omega
  unfold Op.shift
  have e2 : IntKind.wrap .u64 ((x.toNat : Int) * 2 ^ n) = ((x.toNat * 2 ^ n % 18446744073709551616 : Nat) : Int) := by
    have e3 : (x.toNat : Int) * 2 ^ n = ((x.toNat * 2 ^ n : Nat) : Int) := by norm_cast
    rw [IntKind.wrap_u64, e3]
    generalize x.toNat * 2 ^ n = y
    omega
  rw [if_neg (by omega), e, sl_toNat]
  simp only [Sem.run_pure, e2]
theorem i_sr (x : UInt64) (n : Nat) : (x.toNat : Int) / 2 ^ n = ((sr x n).toNat : Int) := by rw [sr_toNat]; norm_cast
theorem i_sl (x : UInt64) (n : Nat) : IntKind.wrap .u64 ((x.toNat : Int) * 2 ^ n) = ((sl x n).toNat : Int) := by
  have e3 : (x.toNat : Int) * 2 ^ n = ((x.toNat * 2 ^ n : Nat) : Int) := by norm_cast
  rw [IntKind.wrap_u64, e3, sl_toNat]
  generalize x.toNat * 2 ^ n = y
  omega
theorem i_xor (x y : UInt64) : bits .xor .u64 (x.toNat : Int) (y.toNat : Int) = ((wx x y).toNat : Int) := by rw [u64_xor_nat _ _ (lt x) (lt y)]; unfold wx; rw [UInt64.toNat_xor]
theorem i_and (x y : UInt64) : bits .and .u64 (x.toNat : Int) (y.toNat : Int) = ((wa x y).toNat : Int) := by rw [u64_and_nat _ _ (lt x) (lt y)]; unfold wa; rw [UInt64.toNat_and]
theorem i_or (x y : UInt64) : bits .or .u64 (x.toNat : Int) (y.toNat : Int) = ((wo x y).toNat : Int) := by rw [u64_or_nat _ _ (lt x) (lt y)]; unfold wo; rw [UInt64.toNat_or]
theorem i_add (x y : UInt64) : ((x.toNat : Int) + (y.toNat : Int)) % 18446744073709551616 = ((wp x y).toNat : Int) := by unfold wp; rw [UInt64.toNat_add]; omega
theorem i_addw (x y : UInt64) : IntKind.wrap .u64 ((x.toNat : Int) + (y.toNat : Int)) = ((wp x y).toNat : Int) := by rw [IntKind.wrap_u64, i_add]
theorem i_notw (x : UInt64) : bits .xor .u64 (IntKind.max .u64) (x.toNat : Int) = ((wn x).toNat : Int) := by
  have e : IntKind.max .u64 = ((18446744073709551615 : Nat) : Int) := rfl
  rw [e, u64_xor_nat _ _ (by omega) (lt x)]
  refine congrArg (fun n : Nat => (n : Int)) ?_
  show _ = (~~~x.toBitVec).toNat
  rw [BitVec.not_def, BitVec.toNat_xor, BitVec.toNat_allOnes]
  rfl
theorem i_not (x : UInt64) : (18446744073709551615 - (x.toNat : Int)) = ((wn x).toNat : Int) := by
  have := lt x
  unfold wn
  rw [UInt64.toNat_not]
  have e : UInt64.size = 18446744073709551616 := rfl
  omega
end Go.Proofs.YtbofikghcoalbaaDoor.S4
