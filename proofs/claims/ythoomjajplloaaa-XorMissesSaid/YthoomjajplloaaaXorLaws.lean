/- The statements of layer 1: walks. -/
import Derived.Test.YthoomjajplloaaaXorLaw
namespace Go.Proofs.Ythoomjajplloaaa
open Go.RowKit

/-- a call over parts, its answer worked out -/
theorem Sums.val {P : Program} {n : FuncId} {args : Array Value} {w : World} {r : Option (List UInt8)} (h : Sums P n args w r) (s : ByteArray) (x : Int) (hs : strR r = s) (hx : errR r = x) :
    Calls P n args w fun e w' => e = .returned (.tuple #[.string s, .int .i64 x]) ∧ Below w.heap.size w w' := by
  subst hs; subst hx; exact h

set_option maxHeartbeats 800000 in
theorem awake_any (w : World) : Calls Try.prog 12 #[] w fun e w' => e = .returned (.bool true) ∧ Below w.heap.size w w' := by
  go_enter Try.func12, Try.ntmps12
  go_wp2_with fail
  refine ((two_any ⟨#[97, 98]⟩ ⟨#[98, 32]⟩ _ (by decide) (by decide)).val ⟨#[3, 66]⟩ 0 rfl rfl).mono ?_
  rintro e w1 ⟨rfl, hb1⟩
  go_wp2_with fail
  have hr1 := reads_lit w1 [.string ⟨#[97]⟩, .string ⟨#[98]⟩, .string ⟨#[99]⟩] 9 3 rfl
  refine ((all_any _ _ _ _ [⟨#[97]⟩, ⟨#[98]⟩, ⟨#[99]⟩] _ (by omega) hr1 (by simp) (by intro s hs; simp at hs; rcases hs with rfl | rfl | rfl <;> decide) (by omega)).val ⟨#[96]⟩ 0 rfl rfl).mono ?_
  rintro e w2 ⟨rfl, hb2⟩
  go_wp2_with fail
  have hr2 := reads_lit w2 [.string ⟨#[97]⟩, .string ⟨#[99]⟩] 9 2 rfl
  refine ((missing_any _ _ _ _ _ [⟨#[97]⟩, ⟨#[99]⟩] _ (by omega) hr2 (by simp) (by decide) (by intro s hs; simp at hs; rcases hs with rfl | rfl <;> decide) (by omega)).val ⟨#[98]⟩ 0 rfl rfl).mono ?_
  rintro e w3 ⟨rfl, hb3⟩
  go_wp2_with fail
  refine ((two_any ⟨#[97]⟩ ⟨#[]⟩ _ (by decide) (by decide)).val ⟨#[]⟩ 10 rfl rfl).mono ?_
  rintro e w4 ⟨rfl, hb4⟩
  go_wp2
  go_ret
  refine ⟨rfl, ?_⟩
  exact below_call (below_call (below_new (below_call (below_new hb1 _) hb2) _) hb3) hb4

/-- the answer's text is no longer than what came in -/
theorem strR_size (a : ByteArray) (l : List (List UInt8)) (B : Nat) (ha : a.size ≤ B) : (strR (sumOf (bs a :: l))).size ≤ B := by
  cases h : sumOf (bs a :: l) with
  | none => exact Nat.zero_le _
  | some r =>
    rw [← size_list, strR, bs_mk, sumOf_size h, size_list]
    exact ha

set_option maxHeartbeats 1600000 in
/-- XorTells -/
theorem tells_any (a b c : ByteArray) (A : Option Addr) (n k : Nat) (ss : List ByteArray) (w : World) (ha : a.size ≤ 140737488351232) (hb : b.size ≤ 140737488351232) (hc : c.size ≤ 140737488351232)
    (hn : n ≤ 8796093021952) (hnk : n ≤ k) (hr : Reads w w.heap.size A n (ss.map .string)) (hs : ∀ s ∈ ss, s.size ≤ 140737488351232) :
    Holds Try.prog 3 #[.string a, .string b, .string c, .slice A n k] w := by
  have HR := Lib.hid hr
  have HS := Lib.hid hs
  clear hr hs
  unfold Holds
  go_enter Try.func3, Try.ntmps3
  go_wp2_with fail
  refine (awake_any _).mono ?_
  rintro e w1 ⟨rfl, b1⟩
  go_wp2_with fail
  refine (two_any a b _ ha hb).mono ?_
  rintro e w2 ⟨rfl, b2⟩
  replace b2 := below_call b1 b2
  go_wp2_with fail
  refine (ref_two_any a b _ ha hb).mono ?_
  rintro e w3 ⟨rfl, b3⟩
  replace b3 := below_call b2 b3
  go_wp2_with fail
  refine (all_any A n k w.heap.size ss _ (by omega) (HR.out.below b3) b3.size HS.out hnk).mono ?_
  rintro e w4 ⟨rfl, b4⟩
  replace b4 := below_call b3 b4
  go_wp2_with fail
  refine (ref_all_any A n k w.heap.size ss _ (by omega) (HR.out.below b4) b4.size HS.out).mono ?_
  rintro e w5 ⟨rfl, b5⟩
  replace b5 := below_call b4 b5
  go_wp2_with fail
  refine (moved_any a b c _ ha hb hc).mono ?_
  rintro e w6 ⟨rfl, b6⟩
  replace b6 := below_call b5 b6
  go_wp2_with fail
  refine (ref_moved_any a b c _ ha hb hc).mono ?_
  rintro e w7 ⟨rfl, b7⟩
  replace b7 := below_call b6 b7
  go_wp2_with fail
  refine (missing_any a A n k w.heap.size ss _ hn (HR.out.below b7) b7.size ha HS.out hnk).mono ?_
  rintro e w8 ⟨rfl, b8⟩
  replace b8 := below_call b7 b8
  go_wp2_with fail
  refine (ref_missing_any a A n k w.heap.size ss _ hn (HR.out.below b8) b8.size ha HS.out).mono ?_
  rintro e w9 ⟨rfl, b9⟩
  replace b9 := below_call b8 b9
  go_wp2
  go_ret
  exact ⟨by simp, b9⟩
end Go.Proofs.Ythoomjajplloaaa
