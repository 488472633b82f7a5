/- The statements of layer 2: walks, continued: bits that were turned. -/
import Derived.Test.YtfbcinfhgnphaaaCrcLawsE
namespace Go.Proofs.Ytfbcinfhgnphaaa
open Go.RowKit Go.ChangeShapes Go.WideShapes

/-- a text lt that was l, of the bits from F on so many turned as m says -/
def RunAt (l lt : List UInt8) (F m t : Nat) : Prop :=
  lt.length = l.length ∧ ∀ p, p < 8 * l.length → bitAt lt p = (bitAt l p ^^ (decide (F ≤ p) && (decide (p < F + t) && m.testBit (23 - (p - F)))))
theorem RunAt.start (l : List UInt8) (F m : Nat) : RunAt l l F m 0 := ⟨rfl, fun p _ => by
  have : (decide (F ≤ p) && (decide (p < F + 0) && m.testBit (23 - (p - F)))) = false := by
    by_cases h : F ≤ p
    · simp [show ¬ p < F by omega]
    · simp [h]
  rw [this, Bool.xor_false]⟩
theorem runs_more (F m t p : Nat) : (decide (F ≤ p) && (decide (p < F + (t + 1)) && m.testBit (23 - (p - F)))) =
    ((decide (F ≤ p) && (decide (p < F + t) && m.testBit (23 - (p - F)))) ^^ (decide (p = F + t) && m.testBit (23 - t))) := by
  by_cases h : p = F + t
  · subst h
    simp
  · by_cases h1 : F ≤ p
    · by_cases h2 : p < F + t
      · simp [h, h1, h2, show p < F + (t + 1) by omega]
      · simp [h, h2, show ¬ p < F + (t + 1) by omega]
    · simp [h, h1]
theorem RunAt.not {l lt : List UInt8} {F m t : Nat} (h : RunAt l lt F m t) (hm : m.testBit (23 - t) = false) : RunAt l lt F m (t + 1) :=
  ⟨h.1, fun p hp => by rw [runs_more, hm, Bool.and_false, Bool.xor_false]; exact h.2 p hp⟩
theorem RunAt.yes {l lt : List UInt8} {F m t : Nat} (h : RunAt l lt F m t) (hm : m.testBit (23 - t) = true) (hi : (F + t) / 8 < lt.length) :
    RunAt l (lt.set ((F + t) / 8) (lt[(F + t) / 8] ^^^ maskB ((F + t) % 8))) F m (t + 1) :=
  ⟨by rw [List.length_set, h.1], fun p hp => by rw [runs_more, hm, Bool.and_true, bitAt_flip lt (F + t) p hi, h.2 p hp, Bool.xor_assoc]⟩
/-- was any turned? -/
def anyOf (m t : Nat) : Bool := (List.range t).any fun k => m.testBit (23 - k)
theorem anyOf_more (m t : Nat) : anyOf m (t + 1) = (anyOf m t || m.testBit (23 - t)) := by simp [anyOf, List.range_succ]
theorem anyOf_iff (m t : Nat) : anyOf m t = false ↔ ∀ k, k < t → m.testBit (23 - k) = false := by simp [anyOf]
theorem run_told {l lt : List UInt8} {F m t : Nat} (h : RunAt l lt F m t) (ht : t ≤ 24) (hF : F + t ≤ 8 * l.length) (c : Nat) (hc : c < 16777216) : goN c lt = goN c l ↔ anyOf m t = false :=
  (goN_bits c hc lt l h.1 F t (fun k => m.testBit (23 - k)) ht hF h.2).trans (anyOf_iff m t).symm

theorem runs_told {p q : Nat} {D : Bool} (h : p = q ↔ D = false) : ((p : Int) != (q : Int)) = D := by
  rw [bne, nat_beq]
  cases D with
  | false => simp [h.2 rfl]
  | true =>
    have : ¬ p = q := fun e => by simpa using h.1 e
    simp [this]
theorem bit_form (m k : Nat) : (((1 + (m : Int)) / 2 ^ k).tmod 2 == 1) = (1 + m).testBit k := by
  have e : ((1 + (m : Int)) / 2 ^ k) = (((1 + m) / 2 ^ k : Nat) : Int) := by
    rw [Int.natCast_ediv, Int.natCast_pow]
    rfl
  rw [e, Int.tmod_eq_emod_of_nonneg (Int.natCast_nonneg _), Nat.testBit_eq_decide_div_mod_eq, Bool.eq_iff_iff, beq_iff_eq, decide_eq_true_eq]
  omega
theorem mask_form (r : Nat) (h : r < 8) : (128 : Int) / 2 ^ r = ((maskB r).toNat : Int) := by
  have : ∀ r : Fin 8, (128 : Int) / 2 ^ r.val = ((maskB r.val).toNat : Int) := by decide
  exact this ⟨r, h⟩

set_option maxRecDepth 100000 in
set_option maxHeartbeats 1600000 in
/-- CrcRuns -/
theorem crcRuns_any (s : ByteArray) (f0 m0 : Int) (w : World) (hf : (Lit.int .i64 f0).wf = true) (hm : (Lit.int .i64 m0).wf = true) (hs : s.size ≤ 140737488351232) :
    Holds Try.prog 5 #[.string s, .int .i64 f0, .int .i64 m0] w := by
  obtain ⟨l, hl⟩ : ∃ l, s.data.toList = l := ⟨_, rfl⟩
  have hll : l.length = s.size := by rw [← hl]; rfl
  unfold Holds
  by_cases h0 : s.size = 0
  · go_enter Try.func5, Try.ntmps5
    go_wp2_with fail
    refine (awake02 _).mono ?_
    rintro e w1 ⟨rfl, rfl⟩
    go_wp2
    go_ret
    exact ⟨rfl, Below.refl _ _⟩
  · go_enter Try.func5, Try.ntmps5
    go_wp2_with fail
    refine (awake02 _).mono ?_
    rintro e w1 ⟨rfl, rfl⟩
    go_wp2_with fail
    refine (pick02 m0 16777215 _ hm (by omega) (by omega)).mono ?_
    rintro e w2 ⟨m1, hm1, rfl, rfl⟩
    go_wp2_with (refine wpList_strbytes 9 28 5 rfl _ rfl Try.underlying9 Try.underlying28 Try.underlying5 _ rfl ?_; intro w1 cap hz1 hb1 hrow1 hcap1)
    refine (pick02 f0 (8 * s.size) _ hf (by omega) (by omega)).mono ?_
    rintro e w2 ⟨F, hF, rfl, rfl⟩
    rw [hl] at hrow1
    clear hm hf hm1
    go_wp2
    go_loopw [11, 12] (fun v i wr => ∃ (t : Nat) (lt : List UInt8) (D : Bool), t ≤ 24 ∧ i = .int .i64 t ∧ v = .bool D ∧ D = anyOf (1 + m1) t ∧ (t = 0 ∨ F + t ≤ 8 * s.size) ∧ RunAt l lt F (1 + m1) t ∧ Below w.heap.size w wr ∧ Row wr w.heap.size (lt.map byteV)) (fun _ i _ => 24 - (intOf i).toNat)
    case atStart => exact ⟨0, l, false, by omega, rfl, rfl, rfl, Or.inl rfl, RunAt.start _ _ _, hb1, hrow1⟩
    case round =>
      obtain ⟨t, lt, D, ht, rfl, rfl, hD, hFt, hrun, hbr, hrow⟩ := hrel
      have hltl : lt.length = s.size := by rw [hrun.1, hll]
      have HD := Lib.hid hD
      have HRUN := Lib.hid hrun
      clear hD hrun
      by_cases hlt : t < 24 ∧ F + t < 8 * s.size
      · obtain ⟨g1, g2⟩ := hlt
        have d1 : decide ((t : Int) < 24) = true := by simp; omega
        have d2 : decide ((F : Int) + t < 8 * s.size) = true := by simp; omega
        have eb := bit_form m1 (23 - t)
        cases hb : (1 + m1).testBit (23 - t) with
        | false =>
          rw [hb] at eb
          have HB := Lib.hid hb
          clear hb
          go_wp2
          go_roundw
          case rel => exact ⟨t + 1, lt, D, by omega, by go_num, rfl, by rw [anyOf_more, HB.out, Bool.or_false]; exact HD.out, Or.inr (by omega), HRUN.out.not HB.out, hbr, hrow⟩
          case measure => simp [intOf]; omega
        | true =>
          rw [hb] at eb
          have HB := Lib.hid hb
          clear hb
          obtain ⟨q, hq⟩ : ∃ q : Nat, (F + t) / 8 = q := ⟨_, rfl⟩
          obtain ⟨r, hr⟩ : ∃ r : Nat, (F + t) % 8 = r := ⟨_, rfl⟩
          have hq8 : q < lt.length := by omega
          have hr8 : r < 8 := by omega
          have eq1 : ((F : Int) + t) / 8 = (q : Int) := by omega
          have er1 : ((F : Int) + t) % 8 = (r : Int) := by omega
          have em : (128 : Int) / 2 ^ r = ((maskB r).toNat : Int) := mask_form r hr8
          have ct := row_at hrow q hq8
          have ft := hrow.free (j := q) (by simp; exact hq8)
          have hset := hrow.turned q hq8 (maskB r)
          have hrun2 : RunAt l (lt.set q (lt[q] ^^^ maskB r)) F (1 + m1) (t + 1) := by
            have := HRUN.out.yes HB.out (by rw [hq]; exact hq8)
            simp only [hq, hr] at this
            exact this
          have HR2 := Lib.hid hrun2
          have iq : (q : Int) < s.size := by omega
          clear hrun2 hq hr
          go_wp2
          go_region
          go_wp2
          go_roundw
          case rel => exact ⟨t + 1, _, true, by omega, by go_num, rfl, by rw [anyOf_more, HB.out, Bool.or_true], Or.inr (by omega), HR2.out, (hbr.setCell (by exact Nat.le_refl _) _).drew, hset⟩
          case measure => simp [intOf]; omega
      · have hFt2 : F + t ≤ 8 * l.length := by omega
        have told := run_told HRUN.out ht hFt2 firstSum firstSum_lt
        obtain ⟨st, hst⟩ : ∃ st : ByteArray, st = ⟨lt.toArray⟩ := ⟨_, rfl⟩
        have hconv := run_row_string 28 9 5 hrow hltl Try.underlying28 Try.underlying5 Try.underlying9 cap
        rw [← hst] at hconv
        have hbs : bsOf st = lt := by rw [hst]
        have hsz : st.size = s.size := by rw [← hltl, ← hbs]; rfl
        obtain ⟨p, hp⟩ : ∃ p : Nat, goN firstSum lt = p := ⟨_, rfl⟩
        obtain ⟨q, hq⟩ : ∃ q : Nat, goN firstSum l = q := ⟨_, rfl⟩
        have C1 := Lib.hid (fun w' => crc_sum_val st w' (p : Int) (by omega) (by rw [hbs, hp]))
        have C2 := Lib.hid (fun w' => crc_sum_val s w' (q : Int) (by omega) (by rw [← hq, ← hl]))
        rw [hp, hq, ← HD.out] at told
        have HT := Lib.hid told
        clear told hp hq hbs hst
        have d12 : decide ((t : Int) < 24) = false ∨ (decide ((t : Int) < 24) = true ∧ decide ((F : Int) + t < 8 * s.size) = false) := by
          by_cases h : t < 24
          · exact Or.inr ⟨by simp; omega, by simp; omega⟩
          · exact Or.inl (by simp; omega)
        rcases d12 with d1 | ⟨d1, d2⟩
        all_goals
          clear hlt
          go_wp2_with fail
          refine (C1.out _).mono ?_
          rintro e w3 ⟨rfl, rfl⟩
          go_wp2_with fail
          refine (C2.out _).mono ?_
          rintro e w3 ⟨rfl, rfl⟩
          go_wp2
          go_ret
          refine ⟨?_, hbr⟩
          have e := runs_told HT.out
          simp [e]
end Go.Proofs.Ytfbcinfhgnphaaa
