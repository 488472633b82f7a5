/- Plain facts: a run of bits of a text that is turned. Nothing of the program stands here. -/
import Derived.Test.YtlefchholkkkfaaCrcRuns
namespace Go.Proofs.Ytlefchholkkkfaa
open Go.RowKit

/-- a text lt that was l, of the bits from F on so many turned as m says -/
def RunAt (l lt : List UInt8) (F m t : Nat) : Prop :=
  lt.length = l.length ∧ ∀ p, p < 8 * l.length → bitAt lt p = (bitAt l p ^^ (decide (F ≤ p) && (decide (p < F + t) && m.testBit (23 - (p - F)))))
theorem RunAt.start (l : List UInt8) (F m : Nat) : RunAt l l F m 0 := ⟨rfl, fun p _ => by
  have : (decide (F ≤ p) && (decide (p < F + 0) && m.testBit (23 - (p - F)))) = false := by
    by_cases h : F ≤ p
    · simp [show ¬ p < F by omega]
    · simp [h]
  rw [this, Bool.xor_false]⟩
theorem runs_more (F m t p : Nat) : (decide (F ≤ p) && (decide (p < F + (t + 1)) && m.testBit (23 - (p - F)))) =
    ((decide (F ≤ p) && (decide (p < F + t) && m.testBit (23 - (p - F)))) ^^ (decide (p = F + t) && m.testBit (23 - t))) := by
  by_cases h : p = F + t
  · subst h
    simp
  · by_cases h1 : F ≤ p
    · by_cases h2 : p < F + t
      · simp [h, h1, h2, show p < F + (t + 1) by omega]
      · simp [h, h2, show ¬ p < F + (t + 1) by omega]
    · simp [h, h1]
theorem RunAt.not {l lt : List UInt8} {F m t : Nat} (h : RunAt l lt F m t) (hm : m.testBit (23 - t) = false) : RunAt l lt F m (t + 1) :=
  ⟨h.1, fun p hp => by rw [runs_more, hm, Bool.and_false, Bool.xor_false]; exact h.2 p hp⟩
theorem RunAt.yes {l lt : List UInt8} {F m t : Nat} (h : RunAt l lt F m t) (hm : m.testBit (23 - t) = true) (hi : (F + t) / 8 < lt.length) :
    RunAt l (lt.set ((F + t) / 8) (lt[(F + t) / 8] ^^^ maskB ((F + t) % 8))) F m (t + 1) :=
  ⟨by rw [List.length_set, h.1], fun p hp => by rw [runs_more, hm, Bool.and_true, bitAt_flip lt (F + t) p hi, h.2 p hp, Bool.xor_assoc]⟩
/-- was any turned? -/
def anyOf (m t : Nat) : Bool := (List.range t).any fun k => m.testBit (23 - k)
theorem anyOf_more (m t : Nat) : anyOf m (t + 1) = (anyOf m t || m.testBit (23 - t)) := by simp [anyOf, List.range_succ]
theorem anyOf_iff (m t : Nat) : anyOf m t = false ↔ ∀ k, k < t → m.testBit (23 - k) = false := by simp [anyOf]
theorem run_told {l lt : List UInt8} {F m t : Nat} (h : RunAt l lt F m t) (ht : t ≤ 24) (hF : F + t ≤ 8 * l.length) (c : Nat) (hc : c < 16777216) : goN c lt = goN c l ↔ anyOf m t = false :=
  (goN_bits c hc lt l h.1 F t (fun k => m.testBit (23 - k)) ht hF h.2).trans (anyOf_iff m t).symm

theorem bit_form (m k : Nat) : (((1 + (m : Int)) / 2 ^ k).tmod 2 == 1) = (1 + m).testBit k := by
  have e : ((1 + (m : Int)) / 2 ^ k) = (((1 + m) / 2 ^ k : Nat) : Int) := by
    rw [Int.natCast_ediv, Int.natCast_pow]
    rfl
  rw [e, Int.tmod_eq_emod_of_nonneg (Int.natCast_nonneg _), Nat.testBit_eq_decide_div_mod_eq, Bool.eq_iff_iff, beq_iff_eq, decide_eq_true_eq]
  omega
theorem mask_form (r : Nat) (h : r < 8) : (128 : Int) / 2 ^ r = ((maskB r).toNat : Int) := by
  have : ∀ r : Fin 8, (128 : Int) / 2 ^ r.val = ((maskB r.val).toNat : Int) := by decide
  exact this ⟨r, h⟩

/-- where none was turned the text is what it was -/
theorem RunAt.same {l lt : List UInt8} {F m t : Nat} (h : RunAt l lt F m t) (h0 : anyOf m t = false) : lt = l := by
  refine List.ext_getElem h.1 fun i h1 h2 => UInt8.toNat_inj.1 (Nat.eq_of_testBit_eq fun j => ?_)
  by_cases hj : j < 8
  · have hp := h.2 (8 * i + (7 - j)) (by omega)
    have e : (decide (F ≤ 8 * i + (7 - j)) && (decide (8 * i + (7 - j) < F + t) && m.testBit (23 - (8 * i + (7 - j) - F)))) = false := by
      by_cases a : F ≤ 8 * i + (7 - j)
      · by_cases b : 8 * i + (7 - j) < F + t
        · rw [(anyOf_iff m t).1 h0 (8 * i + (7 - j) - F) (by omega)]
          simp
        · simp [b]
      · simp [a]
    rw [e, Bool.xor_false, bitAt_eq, bitAt_eq, show (8 * i + (7 - j)) / 8 = i by omega, show 7 - (8 * i + (7 - j)) % 8 = j by omega] at hp
    rwa [List.getD_eq_getElem?_getD, List.getD_eq_getElem?_getD, List.getElem?_eq_getElem h1, List.getElem?_eq_getElem h2] at hp
  · have hb : ∀ x : UInt8, x.toNat.testBit j = false := fun x => Nat.testBit_lt_two_pow (Nat.lt_of_lt_of_le x.toNat_lt (Nat.pow_le_pow_right (n := 2) (i := 8) (by omega) (by omega)))
    rw [hb, hb]
end Go.Proofs.Ytlefchholkkkfaa
