/- The statements of layer 2: walks, continued: sums that end their own text. -/
import Derived.Test.YtfbcinfhgnphaaaCrcLawsB
namespace Go.Proofs.Ytfbcinfhgnphaaa
open Go.RowKit Go.ChangeShapes Go.WideShapes

/-- 'string([]byte{p, q, r})' -/
theorem run_three {P : Program} (src dst e t : TypeId) (w : World) (x y z : UInt8) {p q r : Int} (hp : (x.toNat : Int) = p) (hq : (y.toNat : Int) = q) (hr : (z.toNat : Int) = r)
    (hs : P.underlying src = some (.slice e)) (he : P.underlying e = some (.int .u8)) (hd : P.underlying dst = some .string) :
    (convert src dst (.slice (some ⟨w.heap.size, 0, none⟩) 3 3)).run P (w.alloc (.cells #[.int .u8 p, .int .u8 q, .int .u8 r] t)) =
      .ok (.string ⟨#[x, y, z]⟩) (w.alloc (.cells #[.int .u8 p, .int .u8 q, .int .u8 r] t)) := by
  subst hp hq hr
  refine run_convert_bytes_back (P := P) _ src dst e ⟨w.heap.size, 0, none⟩ 3 [x, y, z] hs he hd (fun j hj => ?_)
  rw [add_plain]
  have h := (reads_lit w [.int .u8 (x.toNat : Int), .int .u8 (y.toNat : Int), .int .u8 (z.toNat : Int)] t 3 rfl).2 (by omega)
  obtain ⟨b, o, e1, _, hc⟩ := h
  simp only [Option.some.injEq, Addr.mk.injEq] at e1
  obtain ⟨rfl, rfl, _⟩ := e1
  match j, hj with
  | 0, _ => exact hc 0 _ rfl
  | 1, _ => exact hc 1 _ rfl
  | 2, _ => exact hc 2 _ rfl
theorem byte_of (k : Nat) (h : k < 256) : (UInt8.ofNat k).toNat = k := by simp; omega
/-- the three bytes of a sum, the highest first -/
theorem three_of (x : Nat) (hx : x < 16777216) : ∃ a b c : UInt8, (a.toNat : Int) = (x : Int) / 65536 ∧ (b.toNat : Int) = (x : Int) / 256 % 256 ∧ (c.toNat : Int) = (x : Int) % 256 ∧
    x = a.toNat * 65536 + b.toNat * 256 + c.toNat := by
  refine ⟨UInt8.ofNat (x / 65536), UInt8.ofNat (x / 256 % 256), UInt8.ofNat (x % 256), ?_, ?_, ?_, ?_⟩ <;> simp only [byte_of _ (show x / 65536 < 256 by omega), byte_of _ (show x / 256 % 256 < 256 by omega), byte_of _ (show x % 256 < 256 by omega)] <;> omega

set_option maxRecDepth 100000 in
set_option maxHeartbeats 1600000 in
/-- CrcEnds3 -/
theorem crcEnds3_any (a b : Int) (w : World) (ha : (Lit.int .i64 a).wf = true) (hb : (Lit.int .i64 b).wf = true) :
    Holds Try.prog 10 #[.int .i64 a, .int .i64 b] w := by
  have hx := sumI_lt a
  have hy := sumI_lt b
  obtain ⟨x1, x2, x3, e1, e2, e3, e4⟩ := three_of _ hx
  obtain ⟨st, hst⟩ : ∃ st : ByteArray, st = ⟨#[x1, x2, x3]⟩ := ⟨_, rfl⟩
  have hsz : st.size ≤ 1125899906842624 := by rw [hst]; exact Nat.le_of_lt (by decide : 3 < 1125899906842624)
  have hbs : bsOf st = [x1, x2, x3] := by rw [hst]
  obtain ⟨p, hp⟩ : ∃ p : Nat, goN (sumI a) (bsOf st) = p := ⟨_, rfl⟩
  obtain ⟨q, hq⟩ : ∃ q : Nat, goN (sumI b) (bsOf st) = q := ⟨_, rfl⟩
  have hp0 : p = 0 := by rw [← hp, hbs]; exact (goN_three _ hx x1 x2 x3).2 e4
  have hq0 : q = 0 ↔ sumI b = sumI a := by rw [← hq, hbs, goN_three _ hy, ← e4]
  have C1 := Lib.hid (fun w' => crc_go_val a ⟨#[]⟩ w' ((sumI a : Nat) : Int) ha (by decide) rfl)
  have C2 := Lib.hid (fun w' => crc_go_val b ⟨#[]⟩ w' ((sumI b : Nat) : Int) hb (by decide) rfl)
  have C3 := Lib.hid (fun w' => crc_go_val a st w' 0 ha hsz (by rw [hp, hp0]; rfl))
  have C4 := Lib.hid (fun w' => crc_go_val b st w' (q : Int) hb hsz (by rw [hq]))
  have HQ := Lib.hid hq0
  have K := Lib.hid (fun w' => run_three (P := Try.prog) 28 9 5 5 w' x1 x2 x3 e1 e2 e3 Try.underlying28 Try.underlying5 Try.underlying9)
  rw [← hst] at K
  clear hp hp0 hq hq0 hbs hst hsz e1 e2 e3 e4
  generalize sumI a = x at *
  generalize sumI b = y at *
  have d2 : decide ((16777216 : Int) ≤ x) = false := by simp; omega
  have d4 : decide ((16777216 : Int) ≤ y) = false := by simp; omega
  have kw := K.out w
  unfold Holds
  go_enter Try.func10, Try.ntmps10
  go_wp2_with fail
  refine (awake02 _).mono ?_
  rintro e w1 ⟨rfl, rfl⟩
  go_wp2_with fail
  refine (C1.out _).mono ?_
  rintro e w1 ⟨rfl, rfl⟩
  go_wp2_with fail
  refine (C2.out _).mono ?_
  rintro e w1 ⟨rfl, rfl⟩
  go_wp2_with fail
  refine (C3.out _).mono ?_
  rintro e w1 ⟨rfl, rfl⟩
  go_wp2_with fail
  refine (C4.out _).mono ?_
  rintro e w1 ⟨rfl, rfl⟩
  go_wp2
  go_ret
  refine ⟨?_, (Below.refl _ _).alloc (Nat.le_refl _) _⟩
  have e : ((q : Int) == 0) = (((x : Int)) == (y : Int)) := by rw [show (0 : Int) = ((0 : Nat) : Int) from rfl, nat_beq, nat_beq]; exact decide_eq_decide.2 (HQ.out.trans eq_comm)
  simp [e]

theorem text_eqb (x y : ByteArray) : (x.toList == y.toList) = decide (bsOf x = bsOf y) := by
  rw [ByteArray.toList_eq, ByteArray.toList_eq, Bool.eq_iff_iff, beq_iff_eq, decide_eq_true_eq]

set_option maxRecDepth 100000 in
set_option maxHeartbeats 1600000 in
/-- CrcEnds -/
theorem crcEnds_any (s : ByteArray) (y1 y2 y3 : UInt8) (w : World) (hs : s.size ≤ 140737488351232) :
    Holds Try.prog 6 #[.string s, .int .u8 (y1.toNat : Int), .int .u8 (y2.toNat : Int), .int .u8 (y3.toNat : Int)] w := by
  obtain ⟨x, hxe⟩ : ∃ x : Nat, goN firstSum (bsOf s) = x := ⟨_, rfl⟩
  have hx : x < 16777216 := by rw [← hxe]; exact goN_lt _ _ firstSum_lt
  obtain ⟨x1, x2, x3, e1, e2, e3, e4⟩ := three_of _ hx
  obtain ⟨st, hst⟩ : ∃ st : ByteArray, st = ⟨#[x1, x2, x3]⟩ := ⟨_, rfl⟩
  obtain ⟨ot, hot⟩ : ∃ ot : ByteArray, ot = ⟨#[y1, y2, y3]⟩ := ⟨_, rfl⟩
  have hsz : st.size = 3 := by rw [hst]; rfl
  have hoz : ot.size = 3 := by rw [hot]; rfl
  have hbs : bsOf st = [x1, x2, x3] := by rw [hst]
  have hbo : bsOf ot = [y1, y2, y3] := by rw [hot]
  have hcat : goN firstSum (bsOf (s ++ st)) = 0 := by rw [bs_cat, goN_append, hxe, hbs]; exact (goN_three _ hx x1 x2 x3).2 e4
  obtain ⟨q, hq⟩ : ∃ q : Nat, goN firstSum (bsOf (s ++ ot)) = q := ⟨_, rfl⟩
  have hq0 : q = 0 ↔ bsOf ot = bsOf st := by
    rw [← hq, bs_cat, goN_append, hxe, hbo, hbs, goN_three _ hx]
    have l1 := x1.toNat_lt
    have l2 := x2.toNat_lt
    have l3 := x3.toNat_lt
    have m1 := y1.toNat_lt
    have m2 := y2.toNat_lt
    have m3 := y3.toNat_lt
    simp only [List.cons.injEq, and_true, ← UInt8.toNat_inj]
    omega
  have C1 := Lib.hid (fun w' => crc_sum_val s w' (x : Int) (by omega) (by rw [hxe]))
  have C3 := Lib.hid (fun w' => crc_sum_val (s ++ st) w' 0 (by rw [size_cat, hsz]; omega) (by rw [hcat]; rfl))
  have C4 := Lib.hid (fun w' => crc_sum_val (s ++ ot) w' (q : Int) (by rw [size_cat, hoz]; omega) (by rw [hq]))
  have HQ := Lib.hid hq0
  have K := Lib.hid (fun w' => run_three (P := Try.prog) 28 9 5 5 w' x1 x2 x3 e1 e2 e3 Try.underlying28 Try.underlying5 Try.underlying9)
  have K2 := Lib.hid (fun w' => run_three (P := Try.prog) 28 9 5 5 w' y1 y2 y3 rfl rfl rfl Try.underlying28 Try.underlying5 Try.underlying9)
  rw [← hst] at K
  rw [← hot] at K2
  have hsum1 : s.size + st.size ≤ 140737488351240 := by omega
  have hsum2 : s.size + ot.size ≤ 140737488351240 := by omega
  clear hcat hq hq0 hbs hbo hst hot e1 e2 e3 e4 hxe
  have d2 : decide ((16777216 : Int) ≤ x) = false := by simp; omega
  have kw := K.out w
  have kv := K2.out (w.alloc (.cells #[.int .u8 ((x : Int) / 65536), .int .u8 ((x : Int) / 256 % 256), .int .u8 ((x : Int) % 256)] 5))
  rw [show ∀ o, (w.alloc o).heap.size = w.heap.size + 1 from fun o => by simp] at kv
  unfold Holds
  go_enter Try.func6, Try.ntmps6
  go_wp2_with fail
  refine (awake02 _).mono ?_
  rintro e w1 ⟨rfl, rfl⟩
  go_wp2_with fail
  refine (C1.out _).mono ?_
  rintro e w1 ⟨rfl, rfl⟩
  go_wp2_with fail
  refine (C3.out _).mono ?_
  rintro e w1 ⟨rfl, rfl⟩
  go_wp2_with fail
  refine (C4.out _).mono ?_
  rintro e w1 ⟨rfl, rfl⟩
  go_wp2
  go_ret
  refine ⟨?_, below_new (below_new (Below.refl _ _) _) _⟩
  have e : ((q : Int) == 0) = (ot.toList == st.toList) := by rw [show (0 : Int) = ((0 : Nat) : Int) from rfl, nat_beq, text_eqb]; exact decide_eq_decide.2 HQ.out
  simp [e]
end Go.Proofs.Ytfbcinfhgnphaaa
