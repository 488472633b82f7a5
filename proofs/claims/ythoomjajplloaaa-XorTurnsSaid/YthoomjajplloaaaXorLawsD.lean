/- The statements of layer 1 that speak of three or four texts: walks. -/
import Derived.Test.YthoomjajplloaaaXorLawsB
namespace Go.Proofs.Ythoomjajplloaaa
open Go.RowKit

/-- two texts put together, as a text -/
def xorB (x y : ByteArray) : ByteArray := strR (some (xorL (bs x) (bs y)))
theorem bs_xorB (x y : ByteArray) : bs (xorB x y) = xorL (bs x) (bs y) := bs_mk _
theorem bs_inj {x y : ByteArray} (h : bs x = bs y) : x = y := by rw [← mk_list x, ← mk_list y, h]
theorem xorB_size {x y : ByteArray} {N : Nat} (hx : x.size = N) (hy : y.size = N) : (xorB x y).size = N := by
  rw [← size_list, bs_xorB]
  exact xorL_len (by rw [size_list, hx]) (by rw [size_list, hy])
theorem xorB_assoc (x y z : ByteArray) : xorB (xorB x y) z = xorB x (xorB y z) := bs_inj (by simp only [bs_xorB, xorL_assoc])
theorem xorB_cancel {x y : ByteArray} {N : Nat} (hx : x.size = N) (hy : y.size = N) : xorB (xorB x y) y = x :=
  bs_inj (by simp only [bs_xorB]; exact xorL_cancel (by rw [size_list, hx]) (by rw [size_list, hy]))
theorem xorB_right {x y z : ByteArray} {N : Nat} (hx : x.size = N) (hy : y.size = N) (hz : z.size = N) (h : xorB x z = xorB y z) : x = y := by
  rw [← xorB_cancel hx hz, h, xorB_cancel hy hz]
theorem two_eq (x y : ByteArray) (w : World) {N : Nat} (hx : x.size = N) (hy : y.size = N) (hN : N ≤ 140737488351232) :
    Calls Try.prog 13 #[.string x, .string y] w fun e w' => e = .returned (.tuple #[.string (xorB x y), .int .i64 0]) ∧ Below w.heap.size w w' := by
  have h1 := two_any x y w (by omega) (by omega)
  rw [show sumOf [bs x, bs y] = some (xorL (bs x) (bs y)) by simp [sumOf, hx, hy]] at h1
  exact h1
theorem moved_eq (x y z : ByteArray) (w : World) {N : Nat} (hx : x.size = N) (hy : y.size = N) (hz : z.size = N) (hN : N ≤ 140737488351232) :
    Calls Try.prog 17 #[.string x, .string y, .string z] w fun e w' => e = .returned (.tuple #[.string (xorB (xorB x y) z), .int .i64 0]) ∧ Below w.heap.size w w' := by
  have h1 := moved_any x y z w (by omega) (by omega) (by omega)
  rw [show sumOf [bs x, bs y, bs z] = some (xorL (bs (xorB x y)) (bs z)) by simp [sumOf, hx, hy, hz, bs_xorB]] at h1
  exact h1
/-- a text of noughts -/
def zeroB (n : Nat) : ByteArray := ⟨(noughts n).toArray⟩
theorem bs_zeroB (n : Nat) : bs (zeroB n) = noughts n := bs_mk _
theorem zeroB_size (n : Nat) : (zeroB n).size = n := by rw [← size_list, bs_zeroB]; simp
theorem run_zeroB {P : Program} (src dst e : TypeId) {w : World} {g n : Nat} (hrow : Row w g (List.replicate n (.int .u8 0))) (hs : P.underlying src = some (.slice e)) (he : P.underlying e = some (.int .u8))
    (hd : P.underlying dst = some .string) (cap : Nat) : (convert src dst (.slice (some ⟨g, 0, none⟩) n cap)).run P w = .ok (.string (zeroB n)) w := by
  have h : List.replicate n (Value.int .u8 0) = (noughts n).map byteV := by rw [List.map_replicate]; rfl
  rw [h] at hrow
  exact run_row_string src dst e hrow List.length_replicate hs he hd cap
theorem xorB_zero {x : ByteArray} {N : Nat} (hx : x.size = N) : xorB x (zeroB N) = x := bs_inj (by
  have := xorL_zero (bs x)
  rw [size_list, hx] at this
  rw [bs_xorB, bs_zeroB, this])
theorem xorB_self {x : ByteArray} {N : Nat} (hx : x.size = N) : xorB x x = zeroB N := bs_inj (by rw [bs_xorB, bs_zeroB, xorL_self, size_list, hx])
theorem cut_size (a : ByteArray) (N : Nat) (h : N ≤ a.size) : (a.extract 0 N).size = N := by simp; omega

theorem text_beq (x y : ByteArray) : (x.toList == y.toList) = decide (x = y) := by
  rw [Bool.eq_iff_iff, beq_iff_eq, decide_eq_true_eq]
  refine ⟨fun h => bs_inj ?_, fun h => by rw [h]⟩
  simpa [ByteArray.toList_eq] using h

set_option maxRecDepth 100000 in
set_option maxHeartbeats 1600000 in
/-- XorUndo -/
theorem undo_any (a b c : ByteArray) (w : World) (ha : a.size ≤ 140737488351232) (_hb : b.size ≤ 140737488351232) (_hc : c.size ≤ 140737488351232) :
    Holds Try.prog 10 #[.string a, .string b, .string c] w := by
  unfold Holds
  go_enter Try.func10, Try.ntmps10
  go_wp2_with fail
  refine (awake_any _).mono ?_
  rintro e w0 ⟨rfl, b0⟩
  go_wp2_with (refine wpList_min3 rfl _ _ _ _ rfl rfl rfl rfl ?_; intro N h1 h2 h3)
  have hN : N ≤ 140737488351232 := by omega
  have hA := Lib.hid (cut_size a N h1)
  have hB := Lib.hid (cut_size b N h2)
  have hC := Lib.hid (cut_size c N h3)
  generalize a.extract 0 N = A at *
  generalize b.extract 0 N = B at *
  generalize c.extract 0 N = C at *
  refine (two_eq A C _ hA.out hC.out hN).mono ?_
  rintro e w1 ⟨rfl, b1⟩
  replace b1 := below_call b0 b1
  go_wp2_with fail
  refine (two_eq B C _ hB.out hC.out hN).mono ?_
  rintro e w2 ⟨rfl, b2⟩
  replace b2 := below_call b1 b2
  go_wp2_with fail
  refine (two_eq (xorB A C) C _ (xorB_size hA.out hC.out) hC.out hN).mono ?_
  rintro e w3 ⟨rfl, b3⟩
  replace b3 := below_call b2 b3
  rw [xorB_cancel hA.out hC.out]
  go_wp2
  go_ret
  refine ⟨?_, b3⟩
  have e : ((xorB A C).toList == (xorB B C).toList) = (A.toList == B.toList) := by
    rw [text_beq, text_beq]
    exact decide_eq_decide.2 ⟨fun h => xorB_right hA.out hB.out hC.out h, fun h => by rw [h]⟩
  simp [e]

set_option maxRecDepth 100000 in
set_option maxHeartbeats 1600000 in
/-- XorTwice -/
theorem twice_any (all a b c : ByteArray) (w : World) (hall : all.size ≤ 140737488351232) (_ha : a.size ≤ 140737488351232) (_hb : b.size ≤ 140737488351232) (_hc : c.size ≤ 140737488351232) :
    Holds Try.prog 11 #[.string all, .string a, .string b, .string c] w := by
  unfold Holds
  go_enter Try.func11, Try.ntmps11
  go_wp2_with fail
  refine (awake_any _).mono ?_
  rintro e w0 ⟨rfl, b0⟩
  go_wp2_with (refine wpList_min4 rfl _ _ _ _ _ rfl rfl rfl rfl rfl ?_; intro N h0 h1 h2 h3)
  have hN : N ≤ 140737488351232 := by omega
  have hL := Lib.hid (cut_size all N h0)
  have hA := Lib.hid (cut_size a N h1)
  have hB := Lib.hid (cut_size b N h2)
  have hC := Lib.hid (cut_size c N h3)
  generalize all.extract 0 N = L at *
  generalize a.extract 0 N = A at *
  generalize b.extract 0 N = B at *
  generalize c.extract 0 N = C at *
  refine (moved_eq L A B _ hL.out hA.out hB.out hN).mono ?_
  rintro e w1 ⟨rfl, b1⟩
  replace b1 := below_call b0 b1
  have hLA := xorB_size hL.out hA.out
  have hP := Lib.hid (xorB_size hLA hB.out)
  have e1 := Lib.hid (show xorB (xorB (xorB (xorB L A) B) B) A = L by rw [xorB_cancel hLA hB.out, xorB_cancel hL.out hA.out])
  have e2 := Lib.hid (show xorB (xorB (xorB (xorB L A) B) B) C = xorB (xorB L A) C by rw [xorB_cancel hLA hB.out])
  clear hLA
  go_wp2_with fail
  refine (moved_eq _ B A _ hP.out hB.out hA.out hN).mono ?_
  rintro e w2 ⟨rfl, b2⟩
  replace b2 := below_call b1 b2
  rw [e1.out]
  go_wp2_with fail
  refine (moved_eq _ B C _ hP.out hB.out hC.out hN).mono ?_
  rintro e w3 ⟨rfl, b3⟩
  replace b3 := below_call b2 b3
  rw [e2.out]
  go_wp2_with fail
  refine (moved_eq L A C _ hL.out hA.out hC.out hN).mono ?_
  rintro e w4 ⟨rfl, b4⟩
  replace b4 := below_call b3 b4
  go_wp2
  go_ret
  exact ⟨by simp, b4⟩

set_option maxRecDepth 100000 in
set_option maxHeartbeats 1600000 in
/-- XorZero -/
theorem zero_any (a b c : ByteArray) (w : World) (ha : a.size ≤ 140737488351232) (_hb : b.size ≤ 140737488351232) (_hc : c.size ≤ 140737488351232) :
    Holds Try.prog 9 #[.string a, .string b, .string c] w := by
  unfold Holds
  go_enter Try.func9, Try.ntmps9
  go_wp2_with fail
  refine (awake_any _).mono ?_
  rintro e w0 ⟨rfl, b0⟩
  go_wp2_with (first
    | (refine wpList_min3 rfl _ _ _ _ rfl rfl rfl rfl ?_; intro N h1 h2 h3)
    | (refine wpList_mk 35 5 (.int .u8 0) 1 rfl _ _ rfl Try.underlying35 info_u8 rfl rfl rfl (by omega) (by unfold maxLen; omega) ?_; intro w1 hz1 b1 hrow1 hown1; have hconv := run_zeroB 35 9 5 hrow1 Try.underlying35 Try.underlying5 Try.underlying9 N))
  replace b1 := below_call b0 b1
  have hN : N ≤ 140737488351232 := by omega
  have hA := Lib.hid (cut_size a N h1)
  have hB := Lib.hid (cut_size b N h2)
  have hC := Lib.hid (cut_size c N h3)
  clear hconv hrow1 hown1
  generalize a.extract 0 N = A at *
  generalize b.extract 0 N = B at *
  generalize c.extract 0 N = C at *
  refine (two_eq A (zeroB N) _ hA.out (zeroB_size N) hN).mono ?_
  rintro e w2 ⟨rfl, b2⟩
  replace b2 := below_call b1 b2
  rw [xorB_zero hA.out]
  go_wp2_with fail
  refine (two_eq A A _ hA.out hA.out hN).mono ?_
  rintro e w3 ⟨rfl, b3⟩
  replace b3 := below_call b2 b3
  rw [xorB_self hA.out]
  go_wp2_with fail
  refine (two_eq A B _ hA.out hB.out hN).mono ?_
  rintro e w4 ⟨rfl, b4⟩
  replace b4 := below_call b3 b4
  go_wp2_with fail
  refine (two_eq _ C _ (xorB_size hA.out hB.out) hC.out hN).mono ?_
  rintro e w5 ⟨rfl, b5⟩
  replace b5 := below_call b4 b5
  rw [xorB_assoc]
  go_wp2_with fail
  refine (two_eq B C _ hB.out hC.out hN).mono ?_
  rintro e w6 ⟨rfl, b6⟩
  replace b6 := below_call b5 b6
  go_wp2_with fail
  refine (two_eq A _ _ hA.out (xorB_size hB.out hC.out) hN).mono ?_
  rintro e w7 ⟨rfl, b7⟩
  replace b7 := below_call b6 b7
  go_wp2
  go_ret
  exact ⟨by simp, b7⟩
end Go.Proofs.Ythoomjajplloaaa
