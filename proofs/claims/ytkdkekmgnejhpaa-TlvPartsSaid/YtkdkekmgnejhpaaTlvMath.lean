/- Plain facts about fields laid behind one another, and numbers by bytes. Nothing of the program stands here. -/
import Derived.Test.YtkdkekmgnejhpaaLib
namespace Go.Proofs.Ytkdkekmgnejhpaa
open Go.RowKit

/-- a field: its tag, its text's bytes -/
abbrev Fld := Int × List UInt8
def fldOk (f : Fld) : Bool := decide (1 ≤ f.1) && decide (f.1 ≤ 255) && decide (f.2.length ≤ 400)
def layF (f : Fld) : List UInt8 := UInt8.ofNat f.1.toNat :: UInt8.ofNat (f.2.length % 256) :: UInt8.ofNat (f.2.length / 256) :: f.2
def layL (l : List Fld) : List UInt8 := l.flatMap layF
def layO (l : List Fld) : Option (List UInt8) := if l.length ≤ 64 ∧ l.all fldOk = true then some (layL l) else none

theorem layL_nil : layL [] = [] := rfl
theorem layL_cons (f : Fld) (l : List Fld) : layL (f :: l) = layF f ++ layL l := rfl
theorem layL_append (a b : List Fld) : layL (a ++ b) = layL a ++ layL b := by simp [layL]
theorem layF_length (f : Fld) : (layF f).length = 3 + f.2.length := by simp [layF]; omega

/-- the fields of a text: k of them at most -/
def takeN : Nat → List UInt8 → Option (List Fld)
  | _, [] => some []
  | 0, _ :: _ => none
  | _ + 1, [_] => none
  | _ + 1, [_, _] => none
  | k + 1, a :: b :: c :: r =>
    if a = 0 ∨ 400 < b.toNat + 256 * c.toNat ∨ r.length < b.toNat + 256 * c.toNat then none
    else (takeN k (r.drop (b.toNat + 256 * c.toNat))).map fun l => ((a.toNat : Int), r.take (b.toNat + 256 * c.toNat)) :: l
def takeO (s : List UInt8) : Option (List Fld) := takeN 64 s

theorem ofNat_small (n : Nat) (h : n < 256) : (UInt8.ofNat n).toNat = n := by simp; omega
theorem takeN_nil (k : Nat) : takeN k [] = some [] := by cases k <;> rfl

/-- what was laid is taken up -/
theorem takeN_lay : ∀ (l : List Fld) (k : Nat), l.length ≤ k → l.all fldOk = true → takeN k (layL l) = some l
  | [], k, _, _ => takeN_nil k
  | f :: l, 0, h, _ => by simp at h
  | f :: l, k + 1, h, hok => by
    obtain ⟨t, x⟩ := f
    simp only [List.all_cons, Bool.and_eq_true, fldOk, decide_eq_true_eq] at hok
    obtain ⟨⟨⟨h1, h2⟩, h3⟩, hl⟩ := hok
    have e1 : (UInt8.ofNat t.toNat).toNat = t.toNat := ofNat_small _ (by omega)
    have e2 : (UInt8.ofNat (x.length % 256)).toNat + 256 * (UInt8.ofNat (x.length / 256)).toNat = x.length := by
      rw [ofNat_small _ (by omega), ofNat_small _ (by omega)]
      omega
    have e3 : ¬ (UInt8.ofNat t.toNat) = 0 := by
      intro h0
      rw [h0] at e1
      have : (0 : UInt8).toNat = 0 := rfl
      omega
    show takeN (k + 1) (UInt8.ofNat t.toNat :: UInt8.ofNat (x.length % 256) :: UInt8.ofNat (x.length / 256) :: (x ++ layL l)) = _
    simp only [takeN, e1, e2, e3, false_or]
    rw [if_neg (by simp; omega), List.drop_left, List.take_left, takeN_lay l k (by simpa using h) hl]
    simp
    omega

/-- what is taken up was laid -/
theorem lay_takeN : ∀ (k : Nat) (s : List UInt8) (l : List Fld), takeN k s = some l → layL l = s ∧ l.length ≤ k ∧ l.all fldOk = true
  | k, [], l, h => by
    rw [takeN_nil] at h
    obtain rfl := Option.some.inj h
    exact ⟨rfl, Nat.zero_le _, rfl⟩
  | 0, _ :: _, l, h => by simp [takeN] at h
  | _ + 1, [_], l, h => by simp [takeN] at h
  | _ + 1, [_, _], l, h => by simp [takeN] at h
  | k + 1, a :: b :: c :: r, l, h => by
    simp only [takeN] at h
    split at h
    · cases h
    · rename_i hc
      simp only [not_or, Nat.not_lt] at hc
      obtain ⟨h1, h2, h3⟩ := hc
      obtain ⟨m, hm, rfl⟩ := Option.map_eq_some_iff.1 h
      obtain ⟨e1, e2, e3⟩ := lay_takeN k _ m hm
      have hb := b.toNat_lt
      have hcl := c.toNat_lt
      have ha : a.toNat ≠ 0 := fun h0 => h1 (UInt8.toNat_inj.1 h0)
      have hal := a.toNat_lt
      have hlen : (r.take (b.toNat + 256 * c.toNat)).length = b.toNat + 256 * c.toNat := by rw [List.length_take]; omega
      refine ⟨?_, by simp; exact e2, ?_⟩
      · rw [layL_cons, e1]
        simp only [layF, hlen]
        have q1 : UInt8.ofNat ((a.toNat : Int)).toNat = a := UInt8.toNat_inj.1 (by rw [Int.toNat_natCast, ofNat_small _ hal])
        have q2 : UInt8.ofNat ((b.toNat + 256 * c.toNat) % 256) = b := UInt8.toNat_inj.1 (by rw [ofNat_small _ (by omega)]; omega)
        have q3 : UInt8.ofNat ((b.toNat + 256 * c.toNat) / 256) = c := UInt8.toNat_inj.1 (by rw [ofNat_small _ (by omega)]; omega)
        rw [q1, q2, q3]
        simp
      · simp only [List.all_cons, e3, Bool.and_true, fldOk, Bool.and_eq_true, decide_eq_true_eq, hlen]
        omega

theorem takeO_lay (l : List Fld) (h : l.length ≤ 64) (hok : l.all fldOk = true) : takeO (layL l) = some l := takeN_lay l 64 h hok
theorem takeO_iff (s : List UInt8) (l : List Fld) : takeO s = some l ↔ layO l = some s := by
  refine ⟨fun h => ?_, fun h => ?_⟩
  · obtain ⟨e1, e2, e3⟩ := lay_takeN 64 s l h
    simp [layO, e1, e2, e3]
  · unfold layO at h
    split at h
    · rename_i hc
      rw [← Option.some.inj h]
      exact takeO_lay l hc.1 hc.2
    · cases h
/-- unlike lists are laid unlike -/
theorem layL_inj (a b : List Fld) (ha : a.length ≤ 64) (hb : b.length ≤ 64) (hao : a.all fldOk = true) (hbo : b.all fldOk = true) : layL a = layL b ↔ a = b := by
  refine ⟨fun h => ?_, fun h => by rw [h]⟩
  have h1 := takeO_lay a ha hao
  rw [h, takeO_lay b hb hbo] at h1
  exact (Option.some.inj h1).symm

/-- how long the first k fields are -/
def longL (l : List Fld) : Nat := (layL l).length
theorem longL_cons (f : Fld) (l : List Fld) : longL (f :: l) = 3 + f.2.length + longL l := by
  unfold longL
  rw [layL_cons, List.length_append, layF_length]

/-- what ends with a whole field ahead of the end is these fields -/
theorem lay_prefix : ∀ (k : Nat) (m l : List Fld) (n : Nat), m.length ≤ k → m.all fldOk = true → l.all fldOk = true → l.length ≤ 64 → m.length ≤ 64 → layL m = (layL l).take n → n ≤ (layL l).length → ∃ j, j ≤ l.length ∧ m = l.take j ∧ longL (l.take j) = n := by
  intro k m l n _ hm hl hl64 _ h hn
  -- by what is taken up: the rest of l stands behind m
  induction m generalizing l n with
  | nil =>
    have : n = 0 := by
      have := congrArg List.length h
      rw [List.length_take] at this
      simp [layL_nil] at this
      omega
    exact ⟨0, Nat.zero_le _, rfl, by rw [this]; rfl⟩
  | cons f m ih =>
    cases l with
    | nil =>
      rw [layL_nil, List.take_nil, layL_cons] at h
      have := congrArg List.length h
      rw [List.length_append, layF_length] at this
      simp at this
    | cons g l =>
      simp only [List.all_cons, Bool.and_eq_true] at hm hl
      obtain ⟨t, x⟩ := f
      obtain ⟨u, y⟩ := g
      have hf := hm.1
      have hg := hl.1
      simp only [fldOk, Bool.and_eq_true, decide_eq_true_eq] at hf hg
      have hlen := congrArg List.length h
      rw [layL_cons, List.length_append, layF_length, List.length_take] at hlen
      have hn3 : 3 ≤ n := by omega
      have h2 := h
      rw [layL_cons, layL_cons] at h2
      obtain ⟨n', rfl⟩ : ∃ n', n = n' + 3 := ⟨n - 3, by omega⟩
      simp only [layF, List.cons_append, List.take_succ_cons, List.cons.injEq] at h2
      obtain ⟨a1, a2, a3, a4⟩ := h2
      have b1 : t.toNat = u.toNat := by
        have := congrArg UInt8.toNat a1
        rwa [ofNat_small _ (by omega), ofNat_small _ (by omega)] at this
      have b2 : x.length % 256 = y.length % 256 := by
        have := congrArg UInt8.toNat a2
        rwa [ofNat_small _ (by omega), ofNat_small _ (by omega)] at this
      have b3 : x.length / 256 = y.length / 256 := by
        have := congrArg UInt8.toNat a3
        rwa [ofNat_small _ (by omega), ofNat_small _ (by omega)] at this
      have b4 : x.length = y.length := by omega
      have hxn : x.length ≤ n' := by
        rw [Nat.min_eq_left hn] at hlen
        simp only at hlen
        omega
      rw [List.take_append, List.take_of_length_le (by omega)] at a4
      obtain ⟨c1, c2⟩ := List.append_inj a4 b4
      subst c1
      have hn' : n' - x.length ≤ (layL l).length := by
        rw [layL_cons, List.length_append, layF_length] at hn
        simp only at hn
        omega
      obtain ⟨j, hj, e1, e2⟩ := ih l (n' - x.length) (by simp at *; omega) hm.2 hl.2 (by simp at hl64; omega) (by simp at *; omega) c2 hn'
      refine ⟨j + 1, by simpa using hj, ?_, ?_⟩
      · rw [List.take_succ_cons, ← e1]
        congr 2
        omega
      · rw [List.take_succ_cons, longL_cons, e2]
        simp only
        omega

/-! ### numbers by bytes, the lowest first -/
def numL : Nat → List UInt8
  | 0 => []
  | m + 1 => UInt8.ofNat ((m + 1) % 256) :: numL ((m + 1) / 256)
termination_by m => m
decreasing_by omega
def valL : List UInt8 → Nat
  | [] => 0
  | b :: r => b.toNat + 256 * valL r
theorem numL_zero : numL 0 = [] := by rw [numL]
theorem numL_pos (m : Nat) (h : m ≠ 0) : numL m = UInt8.ofNat (m % 256) :: numL (m / 256) := by
  obtain ⟨k, rfl⟩ : ∃ k, m = k + 1 := ⟨m - 1, by omega⟩
  rw [numL]
theorem valL_numL (m : Nat) : valL (numL m) = m := by
  induction m using Nat.strongRecOn with
  | _ m ih =>
    by_cases h : m = 0
    · subst h
      rw [numL_zero]
      rfl
    · rw [numL_pos m h]
      show (UInt8.ofNat (m % 256)).toNat + 256 * valL (numL (m / 256)) = m
      rw [ih _ (by omega), ofNat_small _ (by omega)]
      omega
theorem numL_mono (m n : Nat) (h : m ≤ n) : (numL m).length ≤ (numL n).length := by
  induction m using Nat.strongRecOn generalizing n with
  | _ m ih =>
    by_cases h0 : m = 0
    · subst h0
      rw [numL_zero]
      exact Nat.zero_le _
    · rw [numL_pos m h0, numL_pos n (by omega)]
      simp only [List.length_cons]
      have := ih (m / 256) (by omega) (n / 256) (by omega)
      omega
theorem valL_lt : ∀ (s : List UInt8), valL s < 256 ^ s.length
  | [] => by decide
  | b :: r => by
    have h1 := valL_lt r
    have h2 := b.toNat_lt
    show b.toNat + 256 * valL r < 256 ^ (r.length + 1)
    rw [Nat.pow_succ]
    omega
end Go.Proofs.Ytkdkekmgnejhpaa
