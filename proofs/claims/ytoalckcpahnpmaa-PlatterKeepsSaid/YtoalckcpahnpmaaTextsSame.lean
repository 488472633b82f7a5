/- Two lists of texts that are the same. -/
import Derived.Test.YtoalckcpahnpmaaLib
import Derived.Deep.RegionHeld3
namespace Go.Proofs.Ytoalckcpahnpmaa
open Go.RowKit Go.ChangeShapes Go.WideShapes

set_option maxRecDepth 100000 in
set_option maxHeartbeats 1600000 in
/-- Texts: are two lists the same? (Where they are.) -/
theorem texts_same (A A2 : Option Addr) (n c c2 n2 : Nat) (a : List ByteArray) (w : World) (ha : Reads w w.heap.size A n (a.map .string)) (hb : Reads w w.heap.size A2 n2 (a.map .string)) (hn : n ≤ 100) :
    Calls Try.prog 18 #[.slice A n c, .slice A2 n2 c2] w fun e w' => e = .returned (.bool true) ∧ Below w.heap.size w w' := by
  have h1 : n2 = n := by rw [← hb.len, ← ha.len]
  subst h1
  have HA := Lib.hid ha
  have HB := Lib.hid hb
  clear ha hb
  go_enter Try.func18, Try.ntmps18
  go_wp2
  go_loopw [5] (fun i wr => ∃ (k : Nat), k ≤ n2 ∧ i = .int .i64 k ∧ ∃ m, wr = w.drewN m) (fun i _ => n2 - (intOf i).toNat)
  case atStart => exact ⟨0, Nat.zero_le _, rfl, 0, rfl⟩
  case round =>
    obtain ⟨k, hk, rfl, m, rfl⟩ := hrel
    by_cases hkn : k < n2
    · have dk : decide ((k : Int) < n2) = true := by simp; omega
      have kn : (k : Int) < n2 := by omega
      obtain ⟨g1, o1, u1, rfl, hg1, hf1, c1⟩ := HA.out.at_ hkn
      obtain ⟨g2, o2, u2, rfl, hg2, hf2, c2⟩ := HB.out.at_ hkn
      obtain rfl : u1 = u2 := by rw [hf1] at hf2; exact Option.some.inj hf2
      rw [List.getElem?_map] at hf1
      obtain ⟨y, hy, rfl⟩ := Option.map_eq_some_iff.1 hf1
      clear hf1 hf2 hy
      go_wp2
      go_region
      go_wp2
      go_roundw
      case rel => exact ⟨k + 1, by omega, by go_num, m + 1, rfl⟩
      case measure => simp [intOf]; omega
    · have dk : decide ((k : Int) < n2) = false := by simp; omega
      go_wp2
      go_ret
      exact ⟨rfl, rfl, rfl, rfl, Nat.le_refl _, fun _ _ => rfl⟩
end Go.Proofs.Ytoalckcpahnpmaa
