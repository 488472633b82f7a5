/- Plain facts about the sum of 24 bits, bytes as bits; nothing of the program stands here. -/
import Derived.Test.YtlefchholkkkfaaCrcMath
namespace Go.Proofs.Ytlefchholkkkfaa
open Go.RowKit

def bitsN (n : Nat) : List Bool := [n.testBit 7, n.testBit 6, n.testBit 5, n.testBit 4, n.testBit 3, n.testBit 2, n.testBit 1, n.testBit 0]
def bitsB (b : UInt8) : List Bool := bitsN b.toNat
def bitsL (l : List UInt8) : List Bool := l.flatMap bitsB
theorem bitsB_length (b : UInt8) : (bitsB b).length = 8 := rfl
theorem bitsL_length (l : List UInt8) : (bitsL l).length = 8 * l.length := by
  induction l with
  | nil => rfl
  | cons b l ih =>
    show (bitsB b ++ bitsL l).length = _
    rw [List.length_append, ih, bitsB_length, List.length_cons]
    omega
theorem bitsL_append (s t : List UInt8) : bitsL (s ++ t) = bitsL s ++ bitsL t := List.flatMap_append

theorem worth_byte_all : ∀ n : Fin 256, worth 23 (bitsN n.val) = n.val * 65536 := by decide +kernel
theorem worth_byte (b : UInt8) : worth 23 (bitsB b) = b.toNat * 65536 := worth_byte_all ⟨b.toNat, b.toNat_lt⟩
theorem stepB_feeds (c : Nat) (b : UInt8) (h : c < 16777216) : stepB c b = feeds c (bitsB b) := by
  rw [feeds_eq _ c h (by rw [bitsB_length]; omega), worth_byte]
  rfl
theorem feed_lt (c : Nat) (b : Bool) (h : c < 16777216) : feed c b < 16777216 := turn1_lt _ (xor_lt24 h (bitV_lt24 b 23 (by omega)))
theorem feeds_lt (l : List Bool) : ∀ c, c < 16777216 → feeds c l < 16777216 := by
  induction l with
  | nil => exact fun c h => h
  | cons b l ih => exact fun c h => ih _ (feed_lt c b h)
theorem feeds_append (c : Nat) (x y : List Bool) : feeds c (x ++ y) = feeds (feeds c x) y := List.foldl_append
theorem stepB_lt (c : Nat) (b : UInt8) (h : c < 16777216) : stepB c b < 16777216 := by rw [stepB_feeds c b h]; exact feeds_lt _ c h
theorem goN_cons (c : Nat) (b : UInt8) (l : List UInt8) : goN c (b :: l) = goN (stepB c b) l := by simp only [goN, List.foldl_cons]
theorem goN_lt (l : List UInt8) : ∀ c, c < 16777216 → goN c l < 16777216 := by
  induction l with
  | nil => exact fun c h => h
  | cons b l ih => intro c h; rw [goN_cons]; exact ih _ (stepB_lt c b h)
theorem goN_feeds (l : List UInt8) : ∀ c, c < 16777216 → goN c l = feeds c (bitsL l) := by
  induction l with
  | nil => exact fun c _ => rfl
  | cons b l ih =>
    intro c h
    show _ = feeds c (bitsB b ++ bitsL l)
    rw [goN_cons, feeds_append, ← stepB_feeds c b h]
    exact ih _ (stepB_lt c b h)

/-! ### the sum goes bit by bit -/
def xorBits (x y : List Bool) : List Bool := List.zipWith (· ^^ ·) x y
theorem bitV_xor (a b : Bool) (k : Nat) : bitV (a ^^ b) k = bitV a k ^^^ bitV b k := by cases a <;> cases b <;> simp [bitV]
theorem xor_four (a b c d : Nat) : (a ^^^ b) ^^^ (c ^^^ d) = (a ^^^ c) ^^^ (b ^^^ d) := by
  rw [Nat.xor_assoc, Nat.xor_assoc, ← Nat.xor_assoc b, Nat.xor_comm b, Nat.xor_assoc c]
theorem feed_xor (a b : Nat) (x y : Bool) (ha : a < 16777216) (hb : b < 16777216) : feed (a ^^^ b) (x ^^ y) = feed a x ^^^ feed b y := by
  unfold feed
  rw [bitV_xor, xor_four, turn1_xor _ _ (xor_lt24 ha (bitV_lt24 x 23 (by omega))) (xor_lt24 hb (bitV_lt24 y 23 (by omega)))]
theorem feeds_xor : ∀ (x y : List Bool) (a b : Nat), x.length = y.length → a < 16777216 → b < 16777216 → feeds (a ^^^ b) (xorBits x y) = feeds a x ^^^ feeds b y
  | [], [], _, _, _, _, _ => rfl
  | p :: x, q :: y, a, b, h, ha, hb => by
    show feeds (feed (a ^^^ b) (p ^^ q)) (xorBits x y) = _
    rw [feed_xor a b p q ha hb, feeds_xor x y _ _ (by simpa using h) (feed_lt a p ha) (feed_lt b q hb)]
    rfl
  | [], _ :: _, _, _, h, _, _ => by simp at h
  | _ :: _, [], _, _, h, _, _ => by simp at h
theorem feeds_noughts : ∀ (n c : Nat), feeds c (List.replicate n false) = turnN n c
  | 0, _ => rfl
  | n + 1, c => by
    show feeds (turn1 (c ^^^ 0)) (List.replicate n false) = _
    rw [Nat.xor_zero, feeds_noughts n]
    rfl
theorem xorBits_lt {a b : Nat} (ha : a < 16777216) (hb : b < 16777216) : a ^^^ b < 16777216 := xor_lt24 ha hb
/-- texts' sums are like just if what parts them comes to nought -/
theorem feeds_like (c : Nat) (hc : c < 16777216) (x y : List Bool) (h : x.length = y.length) : feeds c x = feeds c y ↔ feeds 0 (xorBits x y) = 0 := by
  have e := feeds_xor x y c c h hc hc
  rw [Nat.xor_self] at e
  rw [e]
  exact ⟨fun h => by rw [h, Nat.xor_self], fun h => xor_zero_eq h⟩
/-- a run of 24 bits at most, noughts ahead of it and behind it -/
theorem feeds_run (i j : Nat) (l : List Bool) (h : l.length ≤ 24) : feeds 0 (List.replicate i false ++ (l ++ List.replicate j false)) = 0 ↔ l = List.replicate l.length false := by
  rw [feeds_append, feeds_noughts, turnN_0, feeds_append, feeds_noughts]
  refine ⟨fun h0 => ?_, fun h0 => ?_⟩
  · have h1 := turnN_zero _ _ h0
    rw [feeds_eq l 0 (by omega) h, Nat.zero_xor] at h1
    exact worth_zero l 23 (by omega) (turnN_zero _ _ h1)
  · rw [h0, feeds_noughts, turnN_0, turnN_0]

/-! ### bytes put together -/
theorem bitsB_xor (a b : UInt8) : bitsB (a ^^^ b) = xorBits (bitsB a) (bitsB b) := by
  show bitsN (a ^^^ b).toNat = _
  rw [UInt8.toNat_xor]
  simp only [bitsN, Nat.testBit_xor]
  rfl
theorem xorBits_append (a b c d : List Bool) (h : a.length = c.length) : xorBits (a ++ b) (c ++ d) = xorBits a c ++ xorBits b d := List.zipWith_append h
theorem bitsL_xor : ∀ (a b : List UInt8), a.length = b.length → bitsL (List.zipWith (· ^^^ ·) a b) = xorBits (bitsL a) (bitsL b)
  | [], [], _ => rfl
  | x :: a, y :: b, h => by
    show bitsB (x ^^^ y) ++ bitsL (List.zipWith (· ^^^ ·) a b) = xorBits (bitsB x ++ bitsL a) (bitsB y ++ bitsL b)
    rw [bitsB_xor, bitsL_xor a b (by simpa using h), xorBits_append _ _ _ _ (by rw [bitsB_length, bitsB_length])]
  | [], _ :: _, h => by simp at h
  | _ :: _, [], h => by simp at h
theorem goN_xor (a b : List UInt8) (c d : Nat) (h : a.length = b.length) (hc : c < 16777216) (hd : d < 16777216) : goN (c ^^^ d) (List.zipWith (· ^^^ ·) a b) = goN c a ^^^ goN d b := by
  rw [goN_feeds _ _ (xor_lt24 hc hd), bitsL_xor a b h, feeds_xor _ _ _ _ (by rw [bitsL_length, bitsL_length, h]) hc hd, goN_feeds a c hc, goN_feeds b d hd]
theorem goN_inj (l : List UInt8) {a b : Nat} (ha : a < 16777216) (hb : b < 16777216) : goN a l = goN b l ↔ a = b := by
  refine ⟨fun h => ?_, fun h => by rw [h]⟩
  rw [goN_feeds l a ha, goN_feeds l b hb] at h
  have e := feeds_xor (bitsL l) (bitsL l) a b rfl ha hb
  rw [h, Nat.xor_self] at e
  have hz : xorBits (bitsL l) (bitsL l) = List.replicate (bitsL l).length false := by
    generalize bitsL l = x
    induction x with
    | nil => rfl
    | cons p x ih =>
      show (p ^^ p) :: xorBits x x = _
      rw [ih, Bool.xor_self]
      rfl
  rw [hz, feeds_noughts] at e
  exact xor_zero_eq (turnN_zero _ _ e)

/-! ### three bytes behind a sum -/
theorem worth_append : ∀ (x y : List Bool) (k : Nat), worth (k + x.length) (x ++ y) = worth (k + x.length) x ^^^ worth k y
  | [], y, k => by simp [worth]
  | b :: x, y, k => by
    simp only [List.length_cons, List.cons_append, worth]
    rw [show k + (x.length + 1) - 1 = k + x.length by omega, worth_append x y k, Nat.xor_assoc]
theorem worth_mid_all : ∀ n : Fin 256, worth 15 (bitsN n.val) = n.val * 256 := by decide +kernel
theorem worth_low_all : ∀ n : Fin 256, worth 7 (bitsN n.val) = n.val := by decide +kernel
theorem worth_three (a b c : UInt8) : worth 23 (bitsL [a, b, c]) = a.toNat * 65536 + b.toNat * 256 + c.toNat := by
  have h1 := worth_byte a
  have h2 : worth 15 (bitsB b) = b.toNat * 256 := worth_mid_all ⟨b.toNat, b.toNat_lt⟩
  have h3 : worth 7 (bitsB c) = c.toNat := worth_low_all ⟨c.toNat, c.toNat_lt⟩
  have e : bitsL [a, b, c] = bitsB a ++ (bitsB b ++ bitsB c) := by simp [bitsL]
  have e1 := worth_append (bitsB a) (bitsB b ++ bitsB c) 15
  have e2 := worth_append (bitsB b) (bitsB c) 7
  rw [bitsB_length] at e1 e2
  rw [e, e1, e2, h1, h2, h3]
  have ha := a.toNat_lt
  have hb := b.toNat_lt
  have hc := c.toNat_lt
  have f1 : b.toNat * 256 ^^^ c.toNat = b.toNat * 256 + c.toNat := by
    have := Nat.two_pow_add_eq_or_of_lt (i := 8) (b := c.toNat) (by omega) b.toNat
    rw [show b.toNat * 256 = 2 ^ 8 * b.toNat by omega, this]
    apply Nat.eq_of_testBit_eq
    intro i
    rw [Nat.testBit_xor, Nat.testBit_or, Nat.testBit_two_pow_mul]
    by_cases hi : 8 ≤ i
    · rw [Nat.testBit_lt_two_pow (x := c.toNat) (Nat.lt_of_lt_of_le (by omega) (Nat.pow_le_pow_right (n := 2) (by omega) hi))]
      simp
    · simp [hi]
  have f2 : a.toNat * 65536 ^^^ (b.toNat * 256 + c.toNat) = a.toNat * 65536 + (b.toNat * 256 + c.toNat) := by
    have := Nat.two_pow_add_eq_or_of_lt (i := 16) (b := b.toNat * 256 + c.toNat) (by omega) a.toNat
    rw [show a.toNat * 65536 = 2 ^ 16 * a.toNat by omega, this]
    apply Nat.eq_of_testBit_eq
    intro i
    rw [Nat.testBit_xor, Nat.testBit_or, Nat.testBit_two_pow_mul]
    by_cases hi : 16 ≤ i
    · rw [Nat.testBit_lt_two_pow (x := b.toNat * 256 + c.toNat) (Nat.lt_of_lt_of_le (by omega) (Nat.pow_le_pow_right (n := 2) (by omega) hi))]
      simp
    · simp [hi]
  rw [f1, f2]
  omega
theorem goN_three (c : Nat) (h : c < 16777216) (x y z : UInt8) : goN c [x, y, z] = 0 ↔ c = x.toNat * 65536 + y.toNat * 256 + z.toNat := by
  have hl : (bitsL [x, y, z]).length = 24 := by rw [bitsL_length]; rfl
  rw [goN_feeds _ c h, feeds_eq _ c h (by omega), worth_three]
  refine ⟨fun h0 => xor_zero_eq (turnN_zero _ _ h0), fun h0 => ?_⟩
  rw [← h0, Nat.xor_self, turnN_0]
end Go.Proofs.Ytlefchholkkkfaa
