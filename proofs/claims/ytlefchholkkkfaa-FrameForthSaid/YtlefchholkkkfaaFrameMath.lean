/- Plain facts about frames. Nothing of the program stands here. -/
import Derived.Test.YtlefchholkkkfaaRunAt
namespace Go.Proofs.Ytlefchholkkkfaa
open Go.RowKit

def sum0 : Nat := 11994318
theorem sum0_lt : sum0 < 16777216 := by decide
def headL (n : Nat) : List UInt8 := [87, 76, UInt8.ofNat (n % 256), UInt8.ofNat (n / 256)]
def tailL (c : Nat) : List UInt8 := [UInt8.ofNat (c / 65536), UInt8.ofNat (c / 256 % 256), UInt8.ofNat (c % 256)]
def bodyL (p : List UInt8) : List UInt8 := headL p.length ++ p
def frameL (p : List UInt8) : List UInt8 := bodyL p ++ tailL (goN sum0 (bodyL p))
def frO (p : List UInt8) : Option (List UInt8) := if p.length ≤ 800 then some (frameL p) else none
def midL (s : List UInt8) : List UInt8 := (s.drop 4).take (s.length - 7)
def openO (s : List UInt8) : Option (List UInt8) := if 7 ≤ s.length ∧ s.length ≤ 807 ∧ frameL (midL s) = s then some (midL s) else none

theorem small8 (n : Nat) (h : n < 256) : (UInt8.ofNat n).toNat = n := by simp; omega
theorem bodyL_length (p : List UInt8) : (bodyL p).length = p.length + 4 := by simp [bodyL, headL]
theorem frameL_length (p : List UInt8) : (frameL p).length = p.length + 7 := by
  unfold frameL
  rw [List.length_append, bodyL_length]
  rfl
theorem frameL_mid (p : List UInt8) : midL (frameL p) = p := by
  unfold midL
  rw [frameL_length, show p.length + 7 - 7 = p.length by omega]
  unfold frameL bodyL
  rw [List.append_assoc, List.drop_left' (show (headL p.length).length = 4 from rfl), List.take_left]
theorem open_frame (p : List UInt8) (h : p.length ≤ 800) : openO (frameL p) = some p := by
  unfold openO
  rw [frameL_mid, frameL_length]
  rw [if_pos ⟨by omega, by omega, rfl⟩]
theorem open_iff (s p : List UInt8) : openO s = some p ↔ frO p = some s := by
  unfold openO frO
  constructor
  · intro h
    split at h
    · rename_i hc
      have e := Option.some.inj h
      have h3 := hc.2.2
      rw [e] at h3
      have := frameL_length p
      rw [h3] at this
      rw [if_pos (by omega), h3]
    · cases h
  · intro h
    split at h
    · rename_i hc
      obtain rfl := Option.some.inj h
      exact open_frame p hc
    · cases h
theorem open_is (s p : List UInt8) (h : openO s = some p) : frameL p = s ∧ p.length ≤ 800 := by
  have := (open_iff s p).1 h
  unfold frO at this
  split at this
  · rename_i hc
    exact ⟨Option.some.inj this, hc⟩
  · cases this
/-- the sum of a whole frame is nought -/
theorem frame_sum (p : List UInt8) : goN sum0 (frameL p) = 0 := by
  have hl := goN_lt (bodyL p) sum0 sum0_lt
  unfold frameL
  rw [goN_append, tailL, goN_three _ hl, small8 _ (by omega), small8 _ (by omega), small8 _ (by omega)]
  omega
/-- a frame's first four bytes tell how long it is -/
theorem head_tells (p q : List UInt8) (hp : p.length ≤ 800) (hq : q.length ≤ 800) (n : Nat) (hn : 4 ≤ n) (h : (frameL p).take n = (frameL q).take n) : p.length = q.length := by
  have h1 := congrArg (List.take 4) h
  rw [List.take_take, List.take_take, Nat.min_eq_left hn] at h1
  unfold frameL bodyL at h1
  rw [List.append_assoc, List.append_assoc, List.take_left' (show (headL p.length).length = 4 from rfl), List.take_left' (show (headL q.length).length = 4 from rfl)] at h1
  simp only [headL, List.cons.injEq] at h1
  obtain ⟨_, _, a, b, _⟩ := h1
  have a2 := congrArg UInt8.toNat a
  have b2 := congrArg UInt8.toNat b
  rw [small8 _ (by omega), small8 _ (by omega)] at a2 b2
  omega
theorem frame_inj (p q : List UInt8) (h : frameL p = frameL q) : p = q := by
  rw [← frameL_mid p, h, frameL_mid]
/-- of two frames none begins the other, unless they are one -/
theorem frames_begin (p q : List UInt8) (hp : p.length ≤ 800) (hq : q.length ≤ 800) : (frameL p).take (min (p.length + 7) (q.length + 7)) = (frameL q).take (min (p.length + 7) (q.length + 7)) ↔ p = q := by
  refine ⟨fun h => ?_, fun h => by rw [h]⟩
  have hl := head_tells p q hp hq _ (by omega) h
  rw [hl, Nat.min_self, List.take_of_length_le (by rw [frameL_length]; omega), List.take_of_length_le (by rw [frameL_length]; omega)] at h
  exact frame_inj p q h
/-- no beginning of a frame is one -/
theorem frame_cut (p : List UInt8) (hp : p.length ≤ 800) (k : Nat) (hk : k < p.length + 7) : openO ((frameL p).take k) = none := by
  cases h : openO ((frameL p).take k) with
  | none => rfl
  | some q =>
    obtain ⟨h1, h2⟩ := open_is _ _ h
    have hl := frameL_length q
    rw [h1, List.length_take, frameL_length] at hl
    have h3 : (frameL q).take k = (frameL p).take k := by
      rw [h1, List.take_take, Nat.min_self]
    have := head_tells q p h2 hp k (by omega) h3
    omega
/-- nor is what goes on behind it -/
theorem frame_more (p r : List UInt8) (hp : p.length ≤ 800) (hr : r ≠ []) : openO (frameL p ++ r) = none := by
  cases h : openO (frameL p ++ r) with
  | none => rfl
  | some q =>
    obtain ⟨h1, h2⟩ := open_is _ _ h
    have h3 : (frameL q).take (p.length + 7) = (frameL p).take (p.length + 7) := by
      rw [h1, List.take_append_of_le_length (by rw [frameL_length]; omega)]
    have h4 := head_tells q p h2 hp _ (by omega) h3
    have h5 := congrArg List.length h1
    rw [List.length_append, frameL_length, frameL_length] at h5
    exact absurd (List.eq_nil_of_length_eq_zero (by omega)) hr
/-- nor is one of which a run of bits was turned -/
theorem frame_turned (p lt : List UInt8) (hp : p.length ≤ 800) {F m t : Nat} (h : RunAt (frameL p) lt F m t) (ht : t ≤ 24) (hF : F + t ≤ 8 * (p.length + 7)) : (openO lt = none ↔ anyOf m t = true) ∧ (anyOf m t = false → openO lt = some p) := by
  have h2 : anyOf m t = false → openO lt = some p := fun h0 => by rw [h.same h0]; exact open_frame p hp
  refine ⟨⟨fun h0 => ?_, fun h0 => ?_⟩, h2⟩
  · cases hb : anyOf m t with
    | true => rfl
    | false =>
      rw [h2 hb] at h0
      cases h0
  · cases ho : openO lt with
    | none => rfl
    | some q =>
      obtain ⟨e, _⟩ := open_is _ _ ho
      have hs := run_told h ht (by rw [frameL_length]; exact hF) sum0 sum0_lt
      rw [frame_sum, ← e, frame_sum] at hs
      rw [hs.1 rfl] at h0
      cases h0

/-! ### a text, or none -/
def textO : Option (List UInt8) → ByteArray
  | none => ⟨#[]⟩
  | some x => ⟨x.toArray⟩
def codeO (k : Int) : Option (List UInt8) → Int
  | none => k
  | some _ => 0
end Go.Proofs.Ytlefchholkkkfaa
