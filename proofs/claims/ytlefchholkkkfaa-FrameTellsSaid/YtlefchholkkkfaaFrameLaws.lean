/- The statements of layer 4: walks. -/
import Derived.Test.YtlefchholkkkfaaFrameWalk
namespace Go.Proofs.Ytlefchholkkkfaa
open Go.RowKit Go.ChangeShapes Go.WideShapes

theorem frame_lay_val (s : ByteArray) (w : World) (o : Option (List UInt8)) (S : ByteArray) (E : Int) (hs : s.size ≤ 1125899906842624) (ho : frO (bsOf s) = o) (hS : textO o = S) (hE : codeO 40 o = E) :
    Calls Try.prog 11 #[.string s] w fun e w' => e = .returned (.tuple #[.string S, .int .i64 E]) ∧ Below w.heap.size w w' := by
  subst ho hS hE
  exact frame_lay s w hs
theorem frame_open_val (s : ByteArray) (w : World) (o : Option (List UInt8)) (S : ByteArray) (E : Int) (hs : s.size ≤ 1125899906842624) (ho : openO (bsOf s) = o) (hS : textO o = S) (hE : codeO 40 o = E) :
    Calls Try.prog 13 #[.string s] w fun e w' => e = .returned (.tuple #[.string S, .int .i64 E]) ∧ Below w.heap.size w w' := by
  subst ho hS hE
  exact frame_open s w hs
/-- Lay of what is short enough -/
theorem frame_laid (s : ByteArray) (w : World) (S : ByteArray) (hs : s.size ≤ 800) (hS : (⟨(frameL (bsOf s)).toArray⟩ : ByteArray) = S) :
    Calls Try.prog 11 #[.string s] w fun e w' => e = .returned (.tuple #[.string S, .int .i64 0]) ∧ Below w.heap.size w w' :=
  frame_lay_val s w _ S 0 (by omega) (if_pos (show (bsOf s).length ≤ 800 from hs)) hS rfl
theorem frame_size (s : ByteArray) (S : ByteArray) (hS : (⟨(frameL (bsOf s)).toArray⟩ : ByteArray) = S) : S.size = s.size + 7 := by
  rw [← hS]
  show (frameL (bsOf s)).toArray.size = _
  rw [List.size_toArray, frameL_length]
  rfl
theorem frame_bytes (s : ByteArray) (S : ByteArray) (hS : (⟨(frameL (bsOf s)).toArray⟩ : ByteArray) = S) : bsOf S = frameL (bsOf s) := by rw [← hS]

set_option maxHeartbeats 400000 in
/-- a number below n that the statement picks: which one, no one asks -/
theorem pick04 (c : Int) (n : Int) (w : World) (hc : (Lit.int .i64 c).wf = true) (hn : 1 ≤ n) (hn2 : n ≤ 9223372036854775807) :
    Calls Try.prog 15 #[.int .i64 c, .int .i64 n] w fun e w' => ∃ k : Nat, (k : Int) < n ∧ e = .returned (.int .i64 k) ∧ w = w' := by
  have hb := bounds_i64 hc
  have hn0 : (n == 0) = false := by simp; omega
  obtain ⟨m, rfl⟩ : ∃ m : Nat, n = m := ⟨n.toNat, by omega⟩
  by_cases h : c < 0
  · go_enter Try.func15, Try.ntmps15
    go_wp2
    go_ret
    refine ⟨(-(c + 1)).toNat % m, ?_, ret_int ?_, rfl⟩
    · have := Nat.mod_lt (-(c + 1)).toNat (show m > 0 by omega)
      omega
    · rw [Int.natCast_emod, Int.toNat_of_nonneg (by omega), ← Int.neg_tmod, Int.tmod_eq_emod_of_nonneg (by omega)]
  · go_enter Try.func15, Try.ntmps15
    go_wp2
    go_ret
    refine ⟨c.toNat % m, ?_, ret_int ?_, rfl⟩
    · have := Nat.mod_lt c.toNat (show m > 0 by omega)
      omega
    · rw [Int.natCast_emod, Int.toNat_of_nonneg (by omega)]

set_option maxRecDepth 100000 in
set_option maxHeartbeats 1600000 in
theorem awake04 (w : World) : Calls Try.prog 10 #[] w fun e w' => e = .returned (.bool true) ∧ Below w.heap.size w w' := by
  have h1 : frameL [] = [87, 76, 0, 0, 237, 234, 25] := by decide +kernel
  have h2 : openO (bsOf ⟨#[87, 76, 0, 0, 237, 234, 25]⟩) = some [] := by rw [show bsOf ⟨#[87, 76, 0, 0, 237, 234, 25]⟩ = frameL [] from h1.symm]; exact open_frame [] (by decide)
  have h3 : openO (bsOf ⟨#[87, 76, 0, 0, 237, 234]⟩) = none := by
    rw [show bsOf ⟨#[87, 76, 0, 0, 237, 234]⟩ = (frameL []).take 6 by rw [h1]; rfl]
    exact frame_cut [] (by decide) 6 (by decide)
  have C1 := Lib.hid (fun w' => frame_laid ⟨#[]⟩ w' ⟨#[87, 76, 0, 0, 237, 234, 25]⟩ (by decide) (by rw [show bsOf ⟨#[]⟩ = [] from rfl, h1]))
  have C2 := Lib.hid (fun w' => frame_open_val ⟨#[87, 76, 0, 0, 237, 234, 25]⟩ w' _ ⟨#[]⟩ 0 (by decide) h2 rfl rfl)
  have C3 := Lib.hid (fun w' => frame_open_val ⟨#[87, 76, 0, 0, 237, 234]⟩ w' _ ⟨#[]⟩ 40 (by decide) h3 rfl rfl)
  have x1 : (⟨#[87, 76, 0, 0, 237, 234, 25]⟩ : ByteArray).extract 0 6 = ⟨#[87, 76, 0, 0, 237, 234]⟩ := by decide
  have x2 : (⟨#[87, 76, 0, 0, 237, 234, 25]⟩ : ByteArray).extract 0 4 = ⟨#[87, 76, 0, 0]⟩ := by decide
  clear h1 h2 h3
  have b0 := Below.refl w.heap.size w
  go_enter Try.func10, Try.ntmps10
  go_wp2_with fail
  refine (C1.out _).mono ?_
  rintro e w1 ⟨rfl, b1⟩
  go_wp2_with fail
  refine (C2.out _).mono ?_
  rintro e w2 ⟨rfl, b2⟩
  replace b2 := below_call b1 b2
  go_wp2_with fail
  refine (C3.out _).mono ?_
  rintro e w3 ⟨rfl, b3⟩
  replace b3 := below_call b2 b3
  go_wp2
  go_ret
  exact ⟨rfl, b3⟩

set_option maxRecDepth 100000 in
set_option maxHeartbeats 1600000 in
/-- FrameTells -/
theorem frameTells_any (p s : ByteArray) (w : World) (hp : p.size ≤ 140737488351232) (hs : s.size ≤ 140737488351232) :
    Holds Try.prog 3 #[.string p, .string s] w := by
  obtain ⟨o, ho⟩ : ∃ o, frO (bsOf p) = o := ⟨_, rfl⟩
  obtain ⟨S, hS⟩ : ∃ S, textO o = S := ⟨_, rfl⟩
  obtain ⟨E, hE⟩ : ∃ E, codeO 40 o = E := ⟨_, rfl⟩
  obtain ⟨q, hq⟩ : ∃ q, openO (bsOf s) = q := ⟨_, rfl⟩
  obtain ⟨T, hT⟩ : ∃ T, textO q = T := ⟨_, rfl⟩
  obtain ⟨F, hF⟩ : ∃ F, codeO 40 q = F := ⟨_, rfl⟩
  have C1 := Lib.hid (fun w' => frame_lay_val p w' o S E (by omega) ho hS hE)
  have R1 := Lib.hid (fun w' => ref04_lay_val p w' o S E (by omega) ho hS hE)
  have C2 := Lib.hid (fun w' => frame_open_val s w' q T F (by omega) hq hT hF)
  have R2 := Lib.hid (fun w' => ref04_open_val s w' q T F (by omega) hq hT hF)
  clear ho hS hE hq hT hF hp hs
  have b0 := Below.refl w.heap.size w
  unfold Holds
  go_enter Try.func3, Try.ntmps3
  go_wp2_with fail
  refine (awake04 _).mono ?_
  rintro e w1 ⟨rfl, b1⟩
  go_wp2_with fail
  refine (C1.out _).mono ?_
  rintro e w2 ⟨rfl, b2⟩
  replace b2 := below_call b1 b2
  go_wp2_with fail
  refine (R1.out _).mono ?_
  rintro e w3 ⟨rfl, b3⟩
  replace b3 := below_call b2 b3
  go_wp2_with fail
  refine (C2.out _).mono ?_
  rintro e w4 ⟨rfl, b4⟩
  replace b4 := below_call b3 b4
  go_wp2_with fail
  refine (R2.out _).mono ?_
  rintro e w5 ⟨rfl, b5⟩
  replace b5 := below_call b4 b5
  go_wp2
  go_ret
  exact ⟨rfl, b5⟩
end Go.Proofs.Ytlefchholkkkfaa
