/- The statements of layer 1 that speak of texts which are as long: walks. -/
import Derived.Test.YthoomjajplloaaaXorLaws
import Derived.Test.YthoomjajplloaaaXorAlg
import Derived.StillTailTactics
namespace Go.Proofs.Ythoomjajplloaaa
open Go.RowKit

theorem allLen_of {L : Nat} {l : List ByteArray} (h : ∀ s ∈ l, s.size = L) : AllLen L (l.map bs) := by
  intro x hx
  obtain ⟨s, hs, rfl⟩ := List.mem_map.1 hx
  rw [size_list, h s hs]
/-- the answer over texts that are as long -/
theorem sums_all {L : Nat} {l : List ByteArray} (h : ∀ s ∈ l, s.size = L) (hne : l ≠ []) : sumOf (l.map bs) = some (sumL L (l.map bs)) := sumOf_all (allLen_of h) (by simpa using hne)

set_option maxHeartbeats 1600000 in
/-- XorMixes -/
theorem mixes_any (A : Option Addr) (n k : Nat) (raw : List ByteArray) (many long : Int) (w : World) (hm : (Lit.int .i64 many).wf = true) (hl : (Lit.int .i64 long).wf = true)
    (hn : n ≤ 8796093021952) (hr : Reads w w.heap.size A n (raw.map .string)) (hs : ∀ s ∈ raw, s.size ≤ 140737488351232) :
    Holds Try.prog 4 #[.slice A n k, .int .i64 many, .int .i64 long] w := by
  have HR := Lib.hid hr
  have HS := Lib.hid hs
  clear hr hs
  unfold Holds
  go_enter Try.func4, Try.ntmps4
  go_wp2_with fail
  refine (pick_some many 9 _ hm (by omega) (by omega)).mono ?_
  rintro e w1 ⟨⟨m, hm9, rfl⟩, rfl⟩
  go_wp2_with fail
  refine (pick_some long 41 _ hl (by omega) (by omega)).mono ?_
  rintro e w1 ⟨⟨lg, hlg, rfl⟩, rfl⟩
  obtain ⟨q, hq⟩ : ∃ q : Nat, (q : Int) = 1 + (m : Int) := ⟨1 + m, by omega⟩
  have hq1 : 1 ≤ q := by omega
  have hq9 : q ≤ 9 := by omega
  have HQ := Lib.hid hq.symm
  clear hq
  go_wp2_with fail
  refine (texts_some A n k raw _ _ q lg _ HQ.out rfl (by omega) HR.out HS.out (by omega) (by omega)).mono ?_
  rintro e w1 ⟨A', c', l, rfl, hlen, hsz, hown, b1⟩
  have HL := Lib.hid hlen
  have HZ := Lib.hid hsz
  clear hlen hsz
  have hcall := all_any A' q c' w1.heap.size l w1 (by omega) hown.reads (Nat.le_refl _) (fun s hs => by rw [HZ.out s hs]; omega) hown.cap
  rw [sums_all HZ.out (by rintro rfl; have := HL.out; simp at this; omega)] at hcall
  have HC := Lib.hid hcall
  clear hcall
  go_wp2_with fail
  refine HC.out.mono ?_
  rintro e w2 ⟨rfl, b2⟩
  rw [show errR (some (sumL lg (l.map bs))) = 0 from rfl]
  have hown2 := hown.later b2
  have hcap := hown.cap
  replace b2 := below_call b1 b2
  obtain ⟨b, o, hA, hbb, hcell⟩ := hown2.reads.2 (by omega)
  subst hA
  have get : ∀ j, j < q → ∃ s, l[j]? = some s ∧ w2.cell? ⟨b, o + j, none⟩ = some (.string s) := fun j hj => by
    have hj' : j < l.length := by rw [HL.out]; exact hj
    exact ⟨l[j], List.getElem?_eq_getElem hj', hcell j _ (by rw [List.getElem?_map, List.getElem?_eq_getElem hj']; rfl)⟩
  obtain ⟨s0, hs0, c0⟩ := get 0 (by omega)
  obtain ⟨s1, hs1, c1⟩ := get (q - 1) (by omega)
  obtain ⟨s2, hs2, c2⟩ := get (q / 2) (by omega)
  have H0 := Lib.hid hs0
  have H1 := Lib.hid hs1
  have H2 := Lib.hid hs2
  have HW := Lib.hid hcell
  have HBD : Hid (∀ (j : Nat) (s : ByteArray), l[j]? = some s → s.size ≤ 140737488351232) := fun j s h => by rw [HZ.out _ (List.mem_of_getElem? h)]; omega
  have c0' : w2.cell? ⟨b, o, none⟩ = some (.string s0) := c0
  clear hs0 hs1 hs2 hcell get c0
  go_wp2_with fail
  refine wp_region_still_tail 17 (by kernel_rfl) (by kernel_rfl) ?_
  simp only [List.take_succ_cons, List.take_zero, List.drop_succ_cons, List.drop_zero]
  have hp0 : 0 < q := by omega
  have hp1 : q - 1 < q := by omega
  have hp2 : q / 2 < q := by omega
  have e1 : IntKind.i64.wrap ((q : Int) - 1) = ((q - 1 : Nat) : Int) := by rw [IntWalk.i64_in _ (by omega)]; omega
  have e2 : IntKind.i64.wrap ((q : Int) / 2) = (q : Int) / 2 := IntWalk.i64_in _ (by omega)
  have e4 : ((q : Int) / 2).toNat = q / 2 := by omega
  have e5 : (0 : Int) ≤ (q : Int) / 2 := by omega
  have e6 : (q : Int) / 2 < (q : Int) := by omega
  have e7 : ¬ (q : Int) / 2 < 0 := by omega
  repeat still_step
  refine wpStill_nil ?_
  go_wp2_with fail
  refine (tells_any _ _ _ _ _ _ l _ (HBD.out 0 _ H0.out) (HBD.out _ _ H1.out) (HBD.out _ _ H2.out) (by omega) hcap (Reads.drew hown2.reads) (fun s hs => by rw [HZ.out s hs]; omega)).mono ?_
  rintro e w3 ⟨rfl, b3⟩
  replace b3 := below_call b2.drew b3
  go_wp2
  go_ret
  exact ⟨rfl, b3⟩
end Go.Proofs.Ythoomjajplloaaa
