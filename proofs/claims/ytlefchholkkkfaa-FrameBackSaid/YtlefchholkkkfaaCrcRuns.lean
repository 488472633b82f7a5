/- Plain facts about the sum of 24 bits: runs that were turned. Nothing of the program stands here. -/
import Derived.Test.YtlefchholkkkfaaCrcBits
namespace Go.Proofs.Ytlefchholkkkfaa
open Go.RowKit

theorem bitsB_zero : bitsB 0 = List.replicate 8 false := by decide
theorem bitsL_noughts (n : Nat) : bitsL (List.replicate n 0) = List.replicate (8 * n) false := by
  induction n with
  | zero => rfl
  | succ n ih =>
    show bitsB 0 ++ bitsL (List.replicate n 0) = _
    rw [ih, bitsB_zero, List.replicate_append_replicate]
    congr 1
    omega
theorem bitsB_none {b : UInt8} (h : bitsB b = List.replicate 8 false) : b = 0 := by
  have h1 := worth_byte b
  rw [h] at h1
  have h2 : worth 23 (List.replicate 8 false) = 0 := by decide
  have h3 : b.toNat = 0 := by omega
  exact UInt8.toNat_inj.1 h3
theorem bitsL_none : ∀ (l : List UInt8), bitsL l = List.replicate (8 * l.length) false → l = List.replicate l.length 0
  | [], _ => rfl
  | b :: l, h => by
    have h' : bitsB b ++ bitsL l = List.replicate 8 false ++ List.replicate (8 * l.length) false := by
      rw [List.replicate_append_replicate, show 8 + 8 * l.length = 8 * (b :: l).length by simp; omega]
      exact h
    obtain ⟨h1, h2⟩ := List.append_inj h' (by rw [bitsB_length]; simp)
    have h3 := bitsL_none l h2
    rw [bitsB_none h1]
    conv => lhs; rw [h3]
    rfl

/-- bytes that part two texts, three at most and one behind the other -/
theorem goN_run (c : Nat) (hc : c < 16777216) (x s : List UInt8) (hl : x.length = s.length) (i j : Nat) (d : List UInt8) (hd : d.length ≤ 3)
    (h : List.zipWith (· ^^^ ·) x s = List.replicate i 0 ++ (d ++ List.replicate j 0)) : goN c x = goN c s ↔ d = List.replicate d.length 0 := by
  rw [goN_feeds x c hc, goN_feeds s c hc, feeds_like c hc _ _ (by rw [bitsL_length, bitsL_length, hl]), ← bitsL_xor x s hl, h, bitsL_append, bitsL_append, bitsL_noughts, bitsL_noughts,
    feeds_run _ _ _ (by rw [bitsL_length]; omega), bitsL_length]
  exact ⟨fun h0 => bitsL_none d h0, fun h0 => by rw [h0, bitsL_noughts]; simp⟩

theorem xorL_same (l : List UInt8) : List.zipWith (· ^^^ ·) l l = List.replicate l.length 0 := by
  apply List.ext_getElem
  · simp
  · intro k h1 h2
    simp
theorem u8_back (x a : UInt8) : x ^^^ a ^^^ x = a := by rw [UInt8.xor_comm x a, UInt8.xor_assoc, UInt8.xor_self, UInt8.xor_zero]
/-- one byte, or two that follow one another -/
theorem goN_two (c : Nat) (hc : c < 16777216) (s : List UInt8) (i : Nat) (a b : UInt8) (hi : i + 1 < s.length) :
    goN c ((s.set i (s[i] ^^^ a)).set (i + 1) (s[i + 1] ^^^ b)) = goN c s ↔ a = 0 ∧ b = 0 := by
  have e : List.zipWith (· ^^^ ·) ((s.set i (s[i] ^^^ a)).set (i + 1) (s[i + 1] ^^^ b)) s = List.replicate i 0 ++ ([a, b] ++ List.replicate (s.length - (i + 2)) 0) := by
    apply List.ext_getElem
    · simp; omega
    · intro k h1 h2
      simp only [List.getElem_zipWith, List.getElem_set, List.getElem_append, List.length_replicate, List.getElem_replicate]
      by_cases h3 : k < i
      · simp [h3, show ¬ i + 1 = k by omega, show ¬ i = k by omega]
      · by_cases h4 : k = i
        · subst h4
          simp [u8_back]
        · by_cases h5 : k = i + 1
          · subst h5
            simp [u8_back, show ¬ i + 1 < i by omega]
          · simp [h3, show ¬ i + 1 = k by omega, show ¬ i = k by omega, show ¬ k - i < 2 by omega]
  rw [goN_run c hc _ s (by simp) i _ [a, b] (by simp) e]
  simp [List.replicate_succ]
theorem goN_last (c : Nat) (hc : c < 16777216) (s : List UInt8) (i : Nat) (a : UInt8) (hi : i < s.length) : goN c (s.set i (s[i] ^^^ a)) = goN c s ↔ a = 0 := by
  have e : List.zipWith (· ^^^ ·) (s.set i (s[i] ^^^ a)) s = List.replicate i 0 ++ ([a] ++ List.replicate (s.length - (i + 1)) 0) := by
    apply List.ext_getElem
    · simp; omega
    · intro k h1 h2
      simp only [List.getElem_zipWith, List.getElem_set, List.getElem_append, List.length_replicate, List.getElem_replicate]
      by_cases h3 : k < i
      · simp [h3, show ¬ i = k by omega]
      · by_cases h4 : k = i
        · subst h4
          simp [u8_back]
        · simp [h3, show ¬ i = k by omega, show ¬ k - i < 1 by omega]
  rw [goN_run c hc _ s (by simp) i _ [a] (by simp) e]
  simp [List.replicate_succ]

/-! ### bits that were turned -/
/-- bit number p of a text, the highest of a byte first -/
def bitAt (l : List UInt8) (p : Nat) : Bool := (bitsL l).getD p false
theorem bitsL_getD : ∀ (l : List UInt8) (p : Nat), (bitsL l).getD p false = (bitsB (l.getD (p / 8) 0)).getD (p % 8) false
  | [], p => by
    show ([] : List Bool).getD p false = (bitsB 0).getD (p % 8) false
    rw [bitsB_zero, List.getD, List.getD, List.getElem?_replicate]
    split <;> rfl
  | b :: l, p => by
    show (bitsB b ++ bitsL l).getD p false = _
    by_cases h : p < 8
    · rw [show p / 8 = 0 by omega, show p % 8 = p by omega, List.getD, List.getElem?_append_left (by rw [bitsB_length]; omega)]
      rfl
    · rw [List.getD, List.getElem?_append_right (by rw [bitsB_length]; omega), bitsB_length]
      have := bitsL_getD l (p - 8)
      rw [List.getD] at this
      rw [this, show (p - 8) / 8 = p / 8 - 1 by omega, show (p - 8) % 8 = p % 8 by omega]
      congr 2
      obtain ⟨k, hk⟩ : ∃ k, p / 8 = k + 1 := ⟨p / 8 - 1, by omega⟩
      rw [hk]
      rfl
theorem bitsB_at (b : UInt8) (k : Nat) (h : k < 8) : (bitsB b).getD k false = b.toNat.testBit (7 - k) := by
  match k, h with
  | 0, _ => rfl
  | 1, _ => rfl
  | 2, _ => rfl
  | 3, _ => rfl
  | 4, _ => rfl
  | 5, _ => rfl
  | 6, _ => rfl
  | 7, _ => rfl
theorem bitAt_eq (l : List UInt8) (p : Nat) : bitAt l p = (l.getD (p / 8) 0).toNat.testBit (7 - p % 8) := by
  unfold bitAt
  rw [bitsL_getD, bitsB_at _ _ (Nat.mod_lt _ (by omega))]
/-- the byte that turns bit k -/
def maskB (k : Nat) : UInt8 := UInt8.ofNat (2 ^ (7 - k))
theorem mask_at (k j : Nat) (hk : k < 8) (hj : j < 8) : (maskB k).toNat.testBit (7 - j) = decide (j = k) := by
  have : ∀ k j : Fin 8, (maskB k.val).toNat.testBit (7 - j.val) = decide (j.val = k.val) := by decide
  exact this ⟨k, hk⟩ ⟨j, hj⟩
/-- one bit more is turned -/
theorem bitAt_flip (l : List UInt8) (k p : Nat) (hk : k / 8 < l.length) : bitAt (l.set (k / 8) (l[k / 8] ^^^ maskB (k % 8))) p = (bitAt l p ^^ decide (p = k)) := by
  rw [bitAt_eq, bitAt_eq]
  by_cases h : p / 8 = k / 8
  · have e1 : (l.set (k / 8) (l[k / 8] ^^^ maskB (k % 8))).getD (p / 8) 0 = l[k / 8] ^^^ maskB (k % 8) := by simp [h, List.getD, hk]
    have e2 : l.getD (p / 8) 0 = l[k / 8] := by simp [h, List.getD, hk]
    rw [e1, e2, UInt8.toNat_xor, Nat.testBit_xor, mask_at _ _ (Nat.mod_lt _ (by omega)) (Nat.mod_lt _ (by omega))]
    congr 1
    rw [decide_eq_decide]
    omega
  · have e1 : (l.set (k / 8) (l[k / 8] ^^^ maskB (k % 8))).getD (p / 8) 0 = l.getD (p / 8) 0 := by
      simp only [List.getD]
      rw [List.getElem?_set_ne (by omega)]
    have e2 : decide (p = k) = false := by
      rw [decide_eq_false_iff_not]
      omega
    rw [e1, e2, Bool.xor_false]
/-- a run of 24 bits at most that was turned is told -/
theorem goN_bits (c : Nat) (hc : c < 16777216) (x s : List UInt8) (hl : x.length = s.length) (i m : Nat) (g : Nat → Bool) (hm : m ≤ 24) (him : i + m ≤ 8 * s.length)
    (h : ∀ p, p < 8 * s.length → bitAt x p = (bitAt s p ^^ (decide (i ≤ p) && (decide (p < i + m) && g (p - i))))) :
    goN c x = goN c s ↔ ∀ k, k < m → g k = false := by
  have hlx : (bitsL x).length = 8 * s.length := by rw [bitsL_length, hl]
  have hls : (bitsL s).length = 8 * s.length := bitsL_length s
  have e : xorBits (bitsL x) (bitsL s) = List.replicate i false ++ ((List.range m).map g ++ List.replicate (8 * s.length - (i + m)) false) := by
    apply List.ext_getElem
    · simp [xorBits, hlx, hls]; omega
    · intro p h1 h2
      have hp : p < 8 * s.length := by simp [xorBits, hlx, hls] at h1; exact h1
      have hb := h p hp
      unfold bitAt at hb
      have g1 : (bitsL x).getD p false = (bitsL x)[p]'(by omega) := by simp [List.getD, hlx, hp]
      have g2 : (bitsL s).getD p false = (bitsL s)[p]'(by omega) := by simp [List.getD, hls, hp]
      rw [g1, g2] at hb
      simp only [xorBits, List.getElem_zipWith]
      rw [hb]
      simp only [List.getElem_append, List.length_replicate, List.getElem_replicate, List.getElem_map, List.getElem_range, List.length_map, List.length_range]
      by_cases h3 : p < i
      · simp [h3, show ¬ i ≤ p by omega]
      · by_cases h4 : p < i + m
        · simp [h3, h4, show i ≤ p by omega, show p - i < m by omega]
          cases (bitsL s)[p]'(by omega) <;> simp
        · simp [h3, h4, show i ≤ p by omega, show ¬ p - i < m by omega]
  rw [goN_feeds x c hc, goN_feeds s c hc, feeds_like c hc _ _ (by rw [hlx, hls]), e, feeds_run _ _ _ (by simp; omega)]
  simp only [List.length_map, List.length_range]
  refine ⟨fun h0 k hk => ?_, fun h0 => ?_⟩
  · have := congrArg (fun l => l.getD k false) h0
    simpa [List.getD, hk] using this
  · apply List.ext_getElem
    · simp
    · intro k h1 h2
      simp only [List.getElem_map, List.getElem_range, List.getElem_replicate]
      exact h0 k (by simpa using h1)
end Go.Proofs.Ytlefchholkkkfaa
