/- The statements of layer 2: walks, continued: bytes that were turned. -/
import Derived.Test.YtfbcinfhgnphaaaCrcLawsC
import Derived.Test.YtfbcinfhgnphaaaCrcRuns
namespace Go.Proofs.Ytfbcinfhgnphaaa
open Go.RowKit Go.ChangeShapes Go.WideShapes

set_option maxHeartbeats 400000 in
/-- a number below n that the statement picks: which one, no one asks -/
theorem pick02 (c : Int) (n : Int) (w : World) (hc : (Lit.int .i64 c).wf = true) (hn : 1 ≤ n) (hn2 : n ≤ 9223372036854775807) :
    Calls Try.prog 16 #[.int .i64 c, .int .i64 n] w fun e w' => ∃ k : Nat, (k : Int) < n ∧ e = .returned (.int .i64 k) ∧ w = w' := by
  have hb := bounds_i64 hc
  have hn0 : (n == 0) = false := by simp; omega
  obtain ⟨m, rfl⟩ : ∃ m : Nat, n = m := ⟨n.toNat, by omega⟩
  by_cases h : c < 0
  · go_enter Try.func16, Try.ntmps16
    go_wp2
    go_ret
    refine ⟨(-(c + 1)).toNat % m, ?_, ret_int ?_, rfl⟩
    · have := Nat.mod_lt (-(c + 1)).toNat (show m > 0 by omega)
      omega
    · rw [Int.natCast_emod, Int.toNat_of_nonneg (by omega), ← Int.neg_tmod, Int.tmod_eq_emod_of_nonneg (by omega)]
  · go_enter Try.func16, Try.ntmps16
    go_wp2
    go_ret
    refine ⟨c.toNat % m, ?_, ret_int ?_, rfl⟩
    · have := Nat.mod_lt c.toNat (show m > 0 by omega)
      omega
    · rw [Int.natCast_emod, Int.toNat_of_nonneg (by omega)]

theorem xor_u8 (x y : UInt8) : bits .xor .u8 (x.toNat : Int) (y.toNat : Int) = ((x ^^^ y).toNat : Int) := by
  show IntKind.u8.wrap ((BitVec.ofInt 8 (x.toNat : Int) ^^^ BitVec.ofInt 8 (y.toNat : Int)).toNat : Int) = _
  have hx := x.toNat_lt
  have hy := y.toNat_lt
  have h : x.toNat ^^^ y.toNat < 2 ^ 8 := Nat.xor_lt_two_pow hx hy
  rw [BitVec.toNat_xor, BitVec.ofInt_natCast, BitVec.ofInt_natCast, BitVec.toNat_ofNat, BitVec.toNat_ofNat, Nat.mod_eq_of_lt hx, Nat.mod_eq_of_lt hy, UInt8.toNat_xor, IntKind.wrap_u8]
  omega
/-- one byte of a row is turned -/
theorem Row.turned {w : World} {g : Nat} {l : List UInt8} (h : Row w g (l.map byteV)) (k : Nat) (hk : k < l.length) (a : UInt8) :
    Row (w.setCell ⟨g, k, none⟩ (.int .u8 (bits .xor .u8 (l[k].toNat : Int) (a.toNat : Int)))) g ((l.set k (l[k] ^^^ a)).map byteV) := by
  rw [xor_u8]
  have h1 := h.set_ k (.int .u8 ((l[k] ^^^ a).toNat : Int))
  rw [List.map_set]
  exact h1
theorem row_at {w : World} {g : Nat} {l : List UInt8} (h : Row w g (l.map byteV)) (k : Nat) (hk : k < l.length) : w.cell? ⟨g, k, none⟩ = some (.int .u8 (l[k].toNat : Int)) :=
  h.cell (by rw [List.getElem?_map, List.getElem?_eq_getElem hk]; rfl)

theorem none_byte (a : UInt8) : a = 0 ↔ (a.toNat : Int) = 0 := by
  rw [← UInt8.toNat_inj]
  show a.toNat = 0 ↔ _
  omega
theorem byte_beq (a : UInt8) : ((a.toNat : Int) == 0) = decide ((a.toNat : Int) = 0) := rfl
theorem one_told {p q : Nat} {a b : UInt8} (h : p = q ↔ a = 0 ∧ b = 0) : ((p : Int) == (q : Int)) = (decide ((a.toNat : Int) = 0) && decide ((b.toNat : Int) = 0)) := by
  rw [nat_beq, ← Bool.decide_and]
  exact decide_eq_decide.2 (h.trans (and_congr (none_byte a) (none_byte b)))
theorem last_told {p q : Nat} {a : UInt8} (h : p = q ↔ a = 0) : ((p : Int) == (q : Int)) = decide ((a.toNat : Int) = 0) := by
  rw [nat_beq]
  exact decide_eq_decide.2 (h.trans (none_byte a))

set_option maxRecDepth 100000 in
set_option maxHeartbeats 1600000 in
/-- CrcOne -/
theorem crcOne_any (s : ByteArray) (c : Int) (a b : UInt8) (w : World) (hc : (Lit.int .i64 c).wf = true) (hs : s.size ≤ 140737488351232) :
    Holds Try.prog 8 #[.string s, .int .i64 c, .int .u8 (a.toNat : Int), .int .u8 (b.toNat : Int)] w := by
  obtain ⟨l, hl⟩ : ∃ l, s.data.toList = l := ⟨_, rfl⟩
  have hll : l.length = s.size := by rw [← hl]; rfl
  unfold Holds
  by_cases h0 : s.size = 0
  · go_enter Try.func8, Try.ntmps8
    go_wp2_with fail
    refine (awake02 _).mono ?_
    rintro e w1 ⟨rfl, rfl⟩
    go_wp2
    go_ret
    exact ⟨rfl, Below.refl _ _⟩
  · go_enter Try.func8, Try.ntmps8
    go_wp2_with fail
    refine (awake02 _).mono ?_
    rintro e w1 ⟨rfl, rfl⟩
    go_wp2_with (refine wpList_strbytes 9 28 5 rfl _ rfl Try.underlying9 Try.underlying28 Try.underlying5 _ rfl ?_; intro w1 cap hz1 hb1 hrow1 hcap1)
    refine (pick02 c s.size _ hc (by omega) (by omega)).mono ?_
    rintro e w2 ⟨k, hk, rfl, rfl⟩
    rw [hl] at hrow1
    have hk' : k < l.length := by omega
    have c1 := row_at hrow1 k hk'
    have f1 := hrow1.free (j := k) (by simp; exact hk')
    have hrow2 := hrow1.turned k hk' a
    have hsl : (s.data.toList) = bsOf s := rfl
    rw [hl] at hsl
    obtain ⟨q, hq⟩ : ∃ q : Nat, goN firstSum l = q := ⟨_, rfl⟩
    have C2 := Lib.hid (fun w' => crc_sum_val s w' (q : Int) (by omega) (by rw [← hsl, hq]))
    by_cases h1 : k + 1 < l.length
    · have c2 := row_at hrow1 (k + 1) h1
      have f2 := hrow1.free (j := k + 1) (by simp; exact h1)
      have hg : (l.set k (l[k] ^^^ a))[k + 1]'(by simp; exact h1) = l[k + 1] := by rw [List.getElem_set_ne (by omega)]
      have hrow3 := hrow2.turned (k + 1) (by simp; exact h1) b
      rw [hg] at hrow3
      have hm := goN_two firstSum firstSum_lt l k a b h1
      have hlen : ((l.set k (l[k] ^^^ a)).set (k + 1) (l[k + 1] ^^^ b)).length = s.size := by simp [hll]
      generalize (l.set k (l[k] ^^^ a)).set (k + 1) (l[k + 1] ^^^ b) = l2 at *
      obtain ⟨st, hst⟩ : ∃ st : ByteArray, st = ⟨l2.toArray⟩ := ⟨_, rfl⟩
      have hconv := run_row_string 28 9 5 hrow3 hlen Try.underlying28 Try.underlying5 Try.underlying9 cap
      rw [← hst] at hconv
      have hbs : bsOf st = l2 := by rw [hst]
      have hsz : st.size = s.size := by rw [← hlen, ← hbs]; rfl
      obtain ⟨p, hp⟩ : ∃ p : Nat, goN firstSum l2 = p := ⟨_, rfl⟩
      have C1 := Lib.hid (fun w' => crc_sum_val st w' (p : Int) (by omega) (by rw [hbs, hp]))
      rw [hp, hq] at hm
      have HM := Lib.hid hm
      have hd : decide ((k : Int) + 1 < s.size) = true := by simp; omega
      clear hm hp hq hbs hst hrow2 hrow3 hg hsl hl hlen
      go_wp2_with fail
      refine (C1.out _).mono ?_
      rintro e w3 ⟨rfl, rfl⟩
      go_wp2_with fail
      refine (C2.out _).mono ?_
      rintro e w3 ⟨rfl, rfl⟩
      go_wp2
      all_goals
        go_ret
        refine ⟨?_, (hb1.setCell (by exact Nat.le_refl _) _).setCell (by exact Nat.le_refl _) _⟩
        have e := one_told HM.out
        simp [byte_beq, *]
        done
    · have hk1 : k + 1 = l.length := by omega
      have hm := goN_last firstSum firstSum_lt l k a hk'
      have hlen : (l.set k (l[k] ^^^ a)).length = s.size := by simp [hll]
      generalize l.set k (l[k] ^^^ a) = l2 at *
      obtain ⟨st, hst⟩ : ∃ st : ByteArray, st = ⟨l2.toArray⟩ := ⟨_, rfl⟩
      have hconv := run_row_string 28 9 5 hrow2 hlen Try.underlying28 Try.underlying5 Try.underlying9 cap
      rw [← hst] at hconv
      have hbs : bsOf st = l2 := by rw [hst]
      have hsz : st.size = s.size := by rw [← hlen, ← hbs]; rfl
      obtain ⟨p, hp⟩ : ∃ p : Nat, goN firstSum l2 = p := ⟨_, rfl⟩
      have C1 := Lib.hid (fun w' => crc_sum_val st w' (p : Int) (by omega) (by rw [hbs, hp]))
      rw [hp, hq] at hm
      have HM := Lib.hid hm
      have hd : decide ((k : Int) + 1 < s.size) = false := by simp; omega
      clear hm hp hq hbs hst hrow2 hsl hl hlen
      go_wp2_with fail
      refine (C1.out _).mono ?_
      rintro e w3 ⟨rfl, rfl⟩
      go_wp2_with fail
      refine (C2.out _).mono ?_
      rintro e w3 ⟨rfl, rfl⟩
      go_wp2
      all_goals
        go_ret
        refine ⟨?_, hb1.setCell (by exact Nat.le_refl _) _⟩
        have e := last_told HM.out
        simp [byte_beq, *]
        done
end Go.Proofs.Ytfbcinfhgnphaaa
