/- Package tlv's numbers and Lay, walked. -/
import Derived.Test.YtkdkekmgnejhpaaTlvTk
namespace Go.Proofs.Ytkdkekmgnejhpaa
open Go.RowKit Go.ChangeShapes Go.WideShapes

set_option maxRecDepth 100000 in
set_option maxHeartbeats 1600000 in
theorem tlv_num (n : Int) (w : World) (hn : (Lit.int .i64 n).wf = true) :
    Calls Try.prog 15 #[.int .i64 n] w fun e w' => e = .returned (.tuple #[.string (numS n), .int .i64 (numE n)]) ∧ Below w.heap.size w w' := by
  have hb := bounds_i64 hn
  by_cases hk : numOk n
  · have e1 : numS n = ⟨(numL (n + 1).toNat).toArray⟩ := if_pos hk
    have e2 : numE n = 0 := if_pos hk
    rw [e1, e2]
    obtain ⟨m0, hm0⟩ : ∃ m0 : Nat, n + 1 = (m0 : Int) := ⟨(n + 1).toNat, by have := hk.1; omega⟩
    have hle : m0 ≤ 1099511627777 := by have := hk.2; omega
    rw [show (n + 1).toNat = m0 by omega]
    have d1 : decide (n < -1) = false := by have := hk.1; simp; omega
    have d2 : decide (1099511627776 < n) = false := by have := hk.2; simp; omega
    have H6 := Lib.hid (numL_length6 m0 hle)
    go_enter Try.func15, Try.ntmps15
    go_wp2
    go_loopw [4, 5] (fun v i wr => ∃ (m : Nat) (acc : List UInt8) (A : Option Addr) (c : Nat), m ≤ 1099511627777 ∧ i = .int .i64 m ∧ v = .slice A acc.length c ∧ acc ++ numL m = numL m0 ∧ Own wr w.heap.size 5 A acc.length c (acc.map byteV) ∧ Below w.heap.size w wr) (fun _ i _ => (intOf i).toNat)
    case atStart => exact ⟨m0, [], none, 0, hle, rfl, rfl, rfl, Own.nil _ _ _, Below.refl _ _⟩
    case round =>
      obtain ⟨m, acc, A, c, hm, rfl, rfl, hacc, hown, hbr⟩ := hrel
      have hlen : acc.length ≤ 6 := by
        have := congrArg List.length hacc
        rw [List.length_append] at this
        have := H6.out
        omega
      have HACC := Lib.hid hacc
      clear hacc
      by_cases h0 : m = 0
      · subst h0
        have hconv := run_own_string 42 9 5 hown Try.underlying42 Try.underlying5 Try.underlying9
        go_wp2
        go_ret2
        have e : acc = numL m0 := by rw [← HACC.out, numL_zero, List.append_nil]
        rw [e]
        exact ⟨rfl, hbr⟩
      · have hpos : (0 : Int) < m := by omega
        have hlow : ((m : Int) % 256) = ((UInt8.ofNat (m % 256)).toNat : Int) := by rw [ofNat_small _ (by omega)]; omega
        have HLOW := Lib.hid hlow
        clear hlow
        go_wp2_with (at_builtin; refine wpList_app 42 5 1 (.int .u8 0) rfl _ _ rfl Try.underlying42 info03_u8 rfl rfl (hown.later ((Below.refl _ _).alloc (Nat.le_refl _) _)) rfl (reads_lit _ [_] _ 1 rfl) (by simp [Value.oneCell']) rfl (by unfold maxLen; omega) (by omega) (by have := hbr.size; simp; omega) ?_; intro A2 c2 w3 hown3 hgr3 hbd3)
        go_roundw
        case rel => exact ⟨m / 256, acc ++ [UInt8.ofNat (m % 256)], A2, c2, by omega, by go_num, by rw [List.length_append]; rfl, by rw [← HACC.out, numL_pos m h0, List.append_assoc]; rfl, by
          rw [HLOW.out] at hown3
          rw [List.length_append, List.map_append]
          exact hown3, (hbr.alloc (by have := hbr.size; omega) _).trans hbd3⟩
        case measure => simp [intOf]; omega
  · have e1 : numS n = ⟨#[]⟩ := if_neg hk
    have e2 : numE n = 30 := if_neg hk
    rw [e1, e2]
    unfold numOk at hk
    have d : decide (n < -1) = true ∨ (decide (n < -1) = false ∧ decide (1099511627776 < n) = true) := by
      by_cases h : n < -1
      · exact Or.inl (by simp; omega)
      · exact Or.inr ⟨by simp; omega, by simp; omega⟩
    rcases d with d1 | ⟨d1, d2⟩
    all_goals
      go_enter Try.func15, Try.ntmps15
      go_wp2
      go_ret2
      exact ⟨rfl, Below.refl _ _⟩


/-! ### numbers without a nought at the end -/
theorem numL_last (m : Nat) : (numL m).getLast? ≠ some 0 := by
  induction m using Nat.strongRecOn with
  | _ m ih =>
    by_cases h : m = 0
    · subst h
      rw [numL_zero]
      simp
    · rw [numL_pos m h]
      by_cases h2 : m / 256 = 0
      · rw [h2, numL_zero]
        intro h3
        simp only [List.getLast?_singleton, Option.some.injEq] at h3
        have h4 := congrArg UInt8.toNat h3
        rw [ofNat_small _ (by omega)] at h4
        have : (0 : UInt8).toNat = 0 := rfl
        omega
      · have h3 := ih (m / 256) (by omega)
        rw [numL_pos _ h2] at h3 ⊢
        rw [List.getLast?_cons_cons]
        exact h3
theorem numL_valL : ∀ (l : List UInt8), l.getLast? ≠ some 0 → numL (valL l) = l
  | [], _ => by show numL 0 = []; exact numL_zero
  | b :: r, h => by
    have hr : r.getLast? ≠ some 0 := by
      cases r with
      | nil => simp
      | cons c r => rw [List.getLast?_cons_cons] at h; exact h
    have ih := numL_valL r hr
    have hb := b.toNat_lt
    show numL (b.toNat + 256 * valL r) = b :: r
    by_cases h0 : b.toNat + 256 * valL r = 0
    · exfalso
      have e : valL r = 0 := by omega
      rw [e, numL_zero] at ih
      subst ih
      have e2 : b = 0 := UInt8.toNat_inj.1 (by show b.toNat = 0; omega)
      subst e2
      exact h rfl
    · rw [numL_pos _ h0, show (b.toNat + 256 * valL r) / 256 = valL r by omega, ih]
      congr 1
      exact UInt8.toNat_inj.1 (by rw [ofNat_small _ (by omega)]; omega)
theorem valL_snoc : ∀ (l : List UInt8) (k : Nat) (b : UInt8), l[k]? = some b → valL (l.take (k + 1)) = valL (l.take k) + b.toNat * 256 ^ k
  | [], k, b, h => by simp at h
  | c :: l, 0, b, h => by
    simp at h
    subst h
    simp [valL]
  | c :: l, k + 1, b, h => by
    simp at h
    have ih := valL_snoc l k b h
    show c.toNat + 256 * valL (l.take (k + 1)) = c.toNat + 256 * valL (l.take k) + b.toNat * 256 ^ (k + 1)
    rw [ih, Nat.pow_succ]
    rw [Nat.mul_add, ← Nat.mul_assoc, Nat.mul_comm 256 (b.toNat), Nat.mul_assoc, Nat.mul_comm 256 (256 ^ k)]
    omega

theorem wrap64_in (v : Int) (h1 : -9223372036854775808 ≤ v) (h2 : v < 9223372036854775808) : wrap64 v = v := by
  have := IntKind.wrap_i64 v
  unfold wrap64
  omega
def suf0 (s : ByteArray) : Bool := decide ((bsOf s).getLast? = some 0)

set_option maxRecDepth 100000 in
theorem str_suf0 (s : ByteArray) (w : World) (hs : s.size ≤ 1125899906842624) :
    Calls Try.prog 26 #[.string s, .string ⟨#[0]⟩] w fun e w' => e = .returned (.bool (suf0 s)) ∧ w = w' := by
  by_cases h0 : s.size = 0
  · obtain rfl : s = ⟨#[]⟩ := ByteArray.ext (Array.eq_empty_of_size_eq_zero h0)
    go_enter Try.func26, Try.ntmps26
    go_wp2
    go_ret
    exact ⟨rfl, rfl⟩
  · have h1 : (1 : Int) ≤ s.size := by omega
    have h2 : 1 ≤ s.size := by omega
    go_enter Try.func26, Try.ntmps26
    go_wp2
    go_ret
    refine ⟨?_, rfl⟩
    have hl : (bsOf s).length = s.size := rfl
    have hne : bsOf s ≠ [] := fun h => by rw [h] at hl; simp at hl; omega
    have e1 : bsOf (s.extract (s.size - 1) s.size) = [(bsOf s).getLast hne] := by
      rw [bs_from, List.drop_eq_getElem_cons (by omega), List.drop_of_length_le (by omega), List.getLast_eq_getElem]
      simp only [hl]
    have e2 : ((s.extract (s.size - 1) s.size).toList == [0]) = suf0 s := by
      rw [ByteArray.toList_eq]
      show (bsOf (s.extract (s.size - 1) s.size) == [0]) = suf0 s
      rw [e1, suf0, List.getLast?_eq_some_getLast hne, Bool.eq_iff_iff]
      simp
    exact congrArg (fun b => Ending.returned (.bool b)) e2

theorem has_suf0 (s : ByteArray) (w : World) (hs : s.size ≤ 1125899906842624) :
    Calls Try.prog 24 #[.string s, .string ⟨#[0]⟩] w fun e w' => e = .returned (.bool (suf0 s)) ∧ w = w' := by
  go_enter Try.func24, Try.ntmps24
  go_wp2_with (go_at_call 26; refine (str_suf0 s _ hs).mono ?_; rintro e w' ⟨rfl, rfl⟩)
  go_ret
  exact ⟨rfl, rfl⟩

theorem getOk_iff (s : ByteArray) : getOk s ↔ s.size ≤ 6 ∧ suf0 s = false ∧ ((valL (bsOf s) : Nat) : Int) - 1 ≤ 1099511627776 := by
  unfold getOk numOk suf0
  refine ⟨fun ⟨h1, h2, h3⟩ => ⟨h1, ?_, h2.2⟩, fun ⟨h1, h2, h3⟩ => ⟨h1, ⟨by omega, h3⟩, numL_valL _ (by simpa using h2)⟩⟩
  rw [decide_eq_false_iff_not, ← h3]
  exact numL_last _

set_option maxRecDepth 100000 in
set_option maxHeartbeats 1600000 in
theorem tlv_get (s : ByteArray) (w : World) (hs : s.size ≤ 140737488351232) :
    Calls Try.prog 17 #[.string s] w fun e w' => e = .returned (.tuple #[.int .i64 (getV s), .int .i64 (getE s)]) ∧ Below w.heap.size w w' := by
  have hiff := getOk_iff s
  obtain ⟨bf, hbf⟩ : ∃ bf, suf0 s = bf := ⟨_, rfl⟩
  have C1 := Lib.hid (fun w' => has_suf0 s w' (by omega))
  rw [hbf] at hiff C1
  by_cases h6 : s.size ≤ 6
  · have d0 : decide ((6 : Int) < s.size) = false := by simp; omega
    cases bf with
    | true =>
      have hg : ¬ getOk s := fun h => by have := (hiff.1 h).2.1; cases this
      rw [show getV s = 0 from if_neg hg, show getE s = 30 from if_neg hg]
      clear hiff hbf
      go_enter Try.func17, Try.ntmps17
      go_wp2_with (go_at_call 24; refine (C1.out _).mono ?_; rintro e w' ⟨rfl, rfl⟩)
      go_ret2
      exact ⟨rfl, Below.refl _ _⟩
    | false =>
      obtain ⟨l, hl⟩ : ∃ l, s.data.toList = l := ⟨_, rfl⟩
      have hll : l.length = s.size := by rw [← hl]; rfl
      obtain ⟨v, hv⟩ : ∃ v : Nat, valL l = v := ⟨_, rfl⟩
      have hvl : v < 281474976710656 := by rw [← hv]; exact valL_lt6 l (by omega)
      have hval : getV s = if getOk s then (v : Int) - 1 else 0 := by unfold getV; rw [← hv, ← hl]
      have hok : getOk s ↔ (v : Int) - 1 ≤ 1099511627776 := by
        rw [hiff, show bsOf s = l from hl, hv]
        exact ⟨fun h => h.2.2, fun h => ⟨h6, rfl, h⟩⟩
      have HOK := Lib.hid hok
      have HVAL := Lib.hid hval
      have HV := Lib.hid hv
      clear hiff hok hval hv hbf
      go_enter Try.func17, Try.ntmps17
      go_wp2_with (go_at_call 24; refine (C1.out _).mono ?_; rintro e w' ⟨rfl, rfl⟩)
      go_loopw [4, 15] (fun x i wr => ∃ (k : Nat) (a : Nat), k ≤ s.size ∧ i = .int .i64 (k : Int) ∧ x = .int .i64 ((a : Int) - 1) ∧ a = valL (l.take k) ∧ a < 281474976710656 ∧ w = wr) (fun _ i _ => s.size - (intOf i).toNat)
      case atStart => exact ⟨0, 0, Nat.zero_le _, rfl, rfl, rfl, by decide, rfl⟩
      case round =>
        obtain ⟨k, a, hk, rfl, rfl, ha, hal, rfl⟩ := hrel
        have HA := Lib.hid ha
        clear ha
        by_cases hks : k < s.size
        · have kn : (k : Int) < s.size := by omega
          have dk : decide ((k : Int) < s.size) = true := by simp; omega
          go_wp2
          have hkl : k < l.length := by omega
          have hb := (s[k]).toNat_lt
          have hsn := valL_snoc l k s[k] (by rw [List.getElem?_eq_getElem hkl]; simp only [← hl]; rfl)
          have hlt := valL_lt6 (l.take (k + 1)) (by rw [List.length_take]; omega)
          have hpw : (2 : Int) ^ (8 * k) = ((256 ^ k : Nat) : Int) := by rw [Int.pow_mul]; norm_cast
          have hpr : ((s[k]).toNat : Int) * ((256 ^ k : Nat) : Int) = (((s[k]).toNat * 256 ^ k : Nat) : Int) := by norm_cast
          rw [← HA.out] at hsn
          rw [hsn] at hlt
          go_roundw
          case rel =>
            refine ⟨k + 1, a + s[k].toNat * 256 ^ k, by omega, by go_num, ?_, hsn.symm, hlt, trivial⟩
            rw [hpw, wrap64_in ((s[k]).toNat : Int) (by omega) (by omega), hpr, wrap64_in (((s[k]).toNat * 256 ^ k : Nat) : Int) (by omega) (by omega), wrap64_in _ (by omega) (by omega)]
            exact int_eq (by omega)
          case measure => simp [intOf]; omega
        · obtain rfl : k = s.size := by omega
          have e : a = v := by rw [HA.out, List.take_of_length_le (by omega)]; exact HV.out
          subst e
          have dk : decide ((s.size : Int) < s.size) = false := by simp
          by_cases hb : (a : Int) - 1 ≤ 1099511627776
          · have d1 : decide (1099511627776 < (a : Int) - 1) = false := by simp; omega
            go_wp2
            go_ret2
            rw [HVAL.out, if_pos (HOK.out.2 hb), show getE s = 0 from if_pos (HOK.out.2 hb)]
            exact ⟨rfl, Below.refl _ _⟩
          · have d1 : decide (1099511627776 < (a : Int) - 1) = true := by simp; omega
            have hg : ¬ getOk s := fun h => hb (HOK.out.1 h)
            go_wp2
            go_ret2
            rw [HVAL.out, if_neg hg, show getE s = 30 from if_neg hg]
            exact ⟨rfl, Below.refl _ _⟩
  · have hg : ¬ getOk s := fun h => h6 (hiff.1 h).1
    rw [show getV s = 0 from if_neg hg, show getE s = 30 from if_neg hg]
    have d0 : decide ((6 : Int) < s.size) = true := by simp; omega
    clear hiff hbf
    go_enter Try.func17, Try.ntmps17
    go_wp2
    go_ret2
    exact ⟨rfl, Below.refl _ _⟩
end Go.Proofs.Ytkdkekmgnejhpaa
