/- Plain facts of PlanTwice, and the comparison of lists of texts, walked. -/
import Derived.Test.YthckkmoafobmnaaPlanLawsF
namespace Go.Proofs.Ythckkmoafobmnaa
open Go.RowKit Go.ChangeShapes Go.WideShapes

theorem wroteL_length (M : Nat) (L : List ByteArray) (col : Nat) (d : ByteArray) : (wroteL M L col d).length = L.length := by simp [wroteL]
theorem getD_size {L : List ByteArray} (hz : ∀ s ∈ L, s.size = 16) {i : Nat} (hi : i < L.length) : (bsOf (L.getD i default)).length = 16 := by
  rw [List.getD_eq_getElem?_getD, List.getElem?_eq_getElem hi, Option.getD_some]
  exact hz _ (List.getElem_mem hi)
theorem wroteL_size {M : Nat} {L : List ByteArray} {col : Nat} {d : ByteArray} (hz : ∀ s ∈ L, s.size = 16) (hd : d.size = 16) (hc : col < L.length) (hm : M - 1 < L.length) : ∀ s ∈ wroteL M L col d, s.size = 16 := by
  intro s hs
  unfold wroteL at hs
  rcases List.mem_or_eq_of_mem_set hs with h | h
  · rcases List.mem_or_eq_of_mem_set h with h | h
    · exact hz s h
    · rw [h]; exact hd
  · rw [h]
    refine sumL_len ?_
    intro x hx
    simp at hx
    rcases hx with rfl | rfl | rfl
    · exact getD_size hz hm
    · exact getD_size hz hc
    · exact hd
theorem sum_three {x y z : List UInt8} (hx : x.length = 16) (hy : y.length = 16) (hz : z.length = 16) : sumL 16 [x, y, z] = xorL x (xorL y z) := by
  rw [sumL_cons hx (by intro s hs; simp at hs; rcases hs with rfl | rfl <;> assumption), sumL_cons hy (by intro s hs; simp at hs; rw [hs]; exact hz), sumL_one hz]
theorem wrote_two {M : Nat} {L : List ByteArray} {a b : Nat} {d e : ByteArray} (ha : a < M - 1) (hb : b < M - 1) (hL : L.length = M) (hz : ∀ s ∈ L, s.size = 16) (hd : d.size = 16) (he : e.size = 16) :
    wroteL M (wroteL M L a d) b e = ((L.set a d).set b e).set (M - 1) ⟨(xorL (xorL (bsOf (L.getD (M - 1) default)) (xorL (bsOf (L.getD a default)) (bsOf d))) (xorL (bsOf ((L.set a d).getD b default)) (bsOf e))).toArray⟩ := by
  have hm : M - 1 < L.length := by omega
  have ha' : a < L.length := by omega
  have hb' : b < L.length := by omega
  have hd' : (bsOf d).length = 16 := hd
  have he' : (bsOf e).length = 16 := he
  have lp := getD_size hz hm
  have lA := getD_size hz ha'
  have e1 : (wroteL M L a d).getD (M - 1) default = ⟨(xorL (bsOf (L.getD (M - 1) default)) (xorL (bsOf (L.getD a default)) (bsOf d))).toArray⟩ := by
    unfold wroteL
    rw [List.getD_eq_getElem?_getD, List.getElem?_set_self (by simp; exact hm), Option.getD_some, sum_three lp lA hd']
  have e2 : (wroteL M L a d).getD b default = (L.set a d).getD b default := by
    unfold wroteL
    rw [List.getD_eq_getElem?_getD, List.getElem?_set_ne (by omega), ← List.getD_eq_getElem?_getD]
  have lb : (bsOf ((L.set a d).getD b default)).length = 16 := by
    refine getD_size (fun s hs => ?_) (by simp; exact hb')
    rcases List.mem_or_eq_of_mem_set hs with h | h
    · exact hz s h
    · rw [h]; exact hd
  have lq : (xorL (bsOf (L.getD (M - 1) default)) (xorL (bsOf (L.getD a default)) (bsOf d))).length = 16 := xorL_len lp (xorL_len lA hd')
  have e3 : wroteL M (wroteL M L a d) b e = ((wroteL M L a d).set b e).set (M - 1) ⟨(sumL 16 [bsOf ((wroteL M L a d).getD (M - 1) default), bsOf ((wroteL M L a d).getD b default), bsOf e]).toArray⟩ := rfl
  rw [e3, e1, e2, sum_three (by exact lq) lb he']
  unfold wroteL
  rw [List.set_comm _ _ (by omega : M - 1 ≠ b), List.set_set]
/-- a block that is written twice is as if it were written once -/
theorem wrote_same {M : Nat} {L : List ByteArray} {a : Nat} {d e : ByteArray} (ha : a < M - 1) (hL : L.length = M) (hz : ∀ s ∈ L, s.size = 16) (hd : d.size = 16) (he : e.size = 16) : wroteL M (wroteL M L a d) a e = wroteL M L a e := by
  have hm : M - 1 < L.length := by omega
  have ha' : a < L.length := by omega
  have lp := getD_size hz hm
  have lA := getD_size hz ha'
  have hd' : (bsOf d).length = 16 := hd
  have he' : (bsOf e).length = 16 := he
  rw [wrote_two ha ha hL hz hd he, List.set_set]
  unfold wroteL
  rw [sum_three lp lA he']
  have e1 : (L.set a d).getD a default = d := by rw [List.getD_eq_getElem?_getD, List.getElem?_set_self ha', Option.getD_some]
  rw [e1, xorL_assoc, xorL_assoc, ← xorL_assoc (bsOf d) (bsOf d), xorL_self, hd', ← he', zero_xorL]
/-- two blocks may be written in either order -/
theorem wrote_turn {M : Nat} {L : List ByteArray} {a b : Nat} {d e : ByteArray} (hab : a ≠ b) (ha : a < M - 1) (hb : b < M - 1) (hL : L.length = M) (hz : ∀ s ∈ L, s.size = 16) (hd : d.size = 16) (he : e.size = 16) : wroteL M (wroteL M L a d) b e = wroteL M (wroteL M L b e) a d := by
  rw [wrote_two ha hb hL hz hd he, wrote_two hb ha hL hz he hd, List.set_comm _ _ hab]
  have e1 : (L.set a d).getD b default = L.getD b default := by rw [List.getD_eq_getElem?_getD, List.getElem?_set_ne hab, ← List.getD_eq_getElem?_getD]
  have e2 : (L.set b e).getD a default = L.getD a default := by rw [List.getD_eq_getElem?_getD, List.getElem?_set_ne (Ne.symm hab), ← List.getD_eq_getElem?_getD]
  have key : ∀ P Q R : List UInt8, xorL (xorL P Q) R = xorL (xorL P R) Q := fun P Q R => by rw [xorL_assoc, xorL_comm Q R, ← xorL_assoc]
  rw [e1, e2, key]
theorem wrote_first {M : Nat} {L : List ByteArray} {a b : Nat} {d e : ByteArray} (hab : a ≠ b) (ha : a < M - 1) (hb : b < M - 1) (hL : L.length = M) : (wroteL M (wroteL M L a d) b e)[a]? = some d ∧ (wroteL M (wroteL M L a d) b e)[b]? = some e := by
  refine ⟨?_, ?_⟩
  · show (((wroteL M L a d).set b e).set (M - 1) _)[a]? = _
    rw [List.getElem?_set_ne (by omega), List.getElem?_set_ne (Ne.symm hab)]
    show ((L.set a d).set (M - 1) _)[a]? = _
    rw [List.getElem?_set_ne (by omega)]
    exact List.getElem?_set_self (by omega)
  · show (((wroteL M L a d).set b e).set (M - 1) _)[b]? = _
    rw [List.getElem?_set_ne (by omega)]
    exact List.getElem?_set_self (by rw [wroteL_length]; omega)

set_option maxRecDepth 100000 in
set_option maxHeartbeats 1600000 in
/-- Texts: are two lists the same? (Where they are.) -/
theorem texts06 (A A2 : Option Addr) (n c c2 n2 : Nat) (a : List ByteArray) (w : World) (ha : Reads w w.heap.size A n (a.map .string)) (hb : Reads w w.heap.size A2 n2 (a.map .string)) (hn : n ≤ 100) :
    Calls Try.prog 28 #[.slice A n c, .slice A2 n2 c2] w fun e w' => e = .returned (.bool true) ∧ Below w.heap.size w w' := by
  have h1 : n2 = n := by rw [← hb.len, ← ha.len]
  subst h1
  have HA := Lib.hid ha
  have HB := Lib.hid hb
  clear ha hb
  go_enter Try.func28, Try.ntmps28
  go_wp2
  go_loopw [5] (fun i wr => ∃ (k : Nat), k ≤ n2 ∧ i = .int .i64 k ∧ ∃ m, wr = w.drewN m) (fun i _ => n2 - (intOf i).toNat)
  case atStart => exact ⟨0, Nat.zero_le _, rfl, 0, rfl⟩
  case round =>
    obtain ⟨k, hk, rfl, m, rfl⟩ := hrel
    by_cases hkn : k < n2
    · have dk : decide ((k : Int) < n2) = true := by simp; omega
      have kn : (k : Int) < n2 := by omega
      obtain ⟨g1, o1, u1, rfl, hg1, hf1, c1⟩ := HA.out.at_ hkn
      obtain ⟨g2, o2, u2, rfl, hg2, hf2, c2⟩ := HB.out.at_ hkn
      obtain rfl : u1 = u2 := by rw [hf1] at hf2; exact Option.some.inj hf2
      rw [List.getElem?_map] at hf1
      obtain ⟨y, hy, rfl⟩ := Option.map_eq_some_iff.1 hf1
      clear hf1 hf2 hy
      go_wp2
      go_region
      go_wp2
      go_roundw
      case rel => exact ⟨k + 1, by omega, by go_num, m + 1, rfl⟩
      case measure => simp [intOf]; omega
    · have dk : decide ((k : Int) < n2) = false := by simp; omega
      go_wp2
      go_ret
      exact ⟨rfl, rfl, rfl, rfl, Nat.le_refl _, fun _ _ => rfl⟩
end Go.Proofs.Ythckkmoafobmnaa
