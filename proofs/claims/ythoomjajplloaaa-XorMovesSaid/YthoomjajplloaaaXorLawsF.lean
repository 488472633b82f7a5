/- XorMoves, XorParts: walks. -/
import Derived.Test.YthoomjajplloaaaXorLawsE
namespace Go.Proofs.Ythoomjajplloaaa
open Go.RowKit

set_option maxRecDepth 100000 in
set_option maxHeartbeats 3200000 in
/-- XorMoves -/
theorem moves_any (A : Option Addr) (n k : Nat) (raw : List ByteArray) (many long which : Int) (now : ByteArray) (w : World) (hm : (Lit.int .i64 many).wf = true) (hl : (Lit.int .i64 long).wf = true) (ht : (Lit.int .i64 which).wf = true)
    (hnow : now.size ≤ 140737488351232) (hn : n ≤ 8796093021952) (hr : Reads w w.heap.size A n (raw.map .string)) (hs : ∀ s ∈ raw, s.size ≤ 140737488351232) :
    Holds Try.prog 7 #[.slice A n k, .int .i64 many, .int .i64 long, .int .i64 which, .string now] w := by
  have HR := Lib.hid hr
  have HS := Lib.hid hs
  clear hr hs
  unfold Holds
  go_enter Try.func7, Try.ntmps7
  go_wp2_with fail
  refine (awake_any _).mono ?_
  rintro e w0 ⟨rfl, b0⟩
  go_wp2_with fail
  refine (pick_some long 41 _ hl (by omega) (by omega)).mono ?_
  rintro e w1 ⟨⟨lg, hlg, rfl⟩, rfl⟩
  go_wp2_with fail
  refine (pick_some many 9 _ hm (by omega) (by omega)).mono ?_
  rintro e w1 ⟨⟨m, hm9, rfl⟩, rfl⟩
  obtain ⟨q, hq⟩ : ∃ q : Nat, (q : Int) = 1 + (m : Int) := ⟨1 + m, by omega⟩
  have hq1 : 1 ≤ q := by omega
  have hq9 : q ≤ 9 := by omega
  have HQ := Lib.hid hq.symm
  clear hq
  go_wp2_with fail
  refine (texts_some A n k raw _ _ q lg _ HQ.out rfl (by omega) ((HR.out.below b0).more b0.size) HS.out (by omega) (by omega)).mono ?_
  rintro e w1 ⟨A', c', l, rfl, hlen, hsz, hown, b1⟩
  have b1' := below_call b0 b1
  obtain ⟨g0, hA⟩ : ∃ g, A' = some ⟨g, 0, none⟩ := by
    obtain ⟨b, o, hA, _⟩ := hown.reads.2 (by omega)
    obtain ⟨g, hg⟩ := own_head hown hA
    exact ⟨g, by rw [hA, hg]⟩
  subst hA
  have hgg := hown.lt g0 rfl
  have HL := Lib.hid hlen
  have HZ := Lib.hid hsz
  have HN : Hid (l ≠ []) := by rintro rfl; have := HL.out; simp at this; omega
  have HO := Lib.hid hown
  have hcap := hown.cap
  clear hlen hsz hown b1'
  go_wp2_with fail
  refine (pick_some which q _ ht (by omega) (by omega)).mono ?_
  rintro e w2 ⟨⟨t, ht9, rfl⟩, rfl⟩
  go_wp2_with fail
  refine (texts_some _ 1 1 [now] _ _ 1 lg _ rfl rfl (by omega) ((reads_lit w1 [_] _ 1 rfl).more (by simp)) (by simp; exact hnow) (by omega) (by omega)).mono ?_
  rintro e w2 ⟨A2, c2, l2, rfl, hlen2, hsz2, hown2, b2⟩
  obtain ⟨nn, rfl⟩ : ∃ x, l2 = [x] := by
    match l2, hlen2 with
    | [x], _ => exact ⟨x, rfl⟩
  have hnn : nn.size = lg := hsz2 nn (by simp)
  replace b2 : Below w1.heap.size w1 w2 := below_call (below_new (Below.refl _ _) _) b2
  obtain ⟨gb, go, hA2, hgb, hcell2⟩ := hown2.reads.2 (by omega)
  have k2 : w2.cell? ⟨gb, go, none⟩ = some (.string nn) := hcell2 0 _ rfl
  subst hA2
  have hown3 := HO.out.later b2
  have HNN := Lib.hid hnn
  clear hlen2 hsz2 hcell2 hown2 hnn
  obtain ⟨p, EP⟩ : ∃ p, Hid (strR (some (sumL lg (l.map bs))) = p) := ⟨_, rfl⟩
  have hbp : bs p = sumL lg (l.map bs) := by rw [← EP.out]; exact bs_mk _
  have hps : p.size = lg := by rw [← size_list, hbp, sumL_len (allLen_of HZ.out)]
  have call1 := all_any (some ⟨g0, 0, none⟩) q c' w2.heap.size l w2 (by omega) hown3.reads (Nat.le_refl _) (fun s hs => by rw [HZ.out s hs]; omega) hcap
  rw [sums_all HZ.out HN.out] at call1
  have C1 := Lib.hid (call1.val p 0 EP.out rfl)
  have HBP := Lib.hid hbp
  have HPS := Lib.hid hps
  clear call1 hbp hps
  go_wp2_with fail
  refine C1.out.mono ?_
  rintro e w3 ⟨rfl, b3⟩
  replace b3 := b2.trans (b3.mono b2.size)
  obtain ⟨x, hx⟩ : ∃ s, l[t]? = some s := ⟨_, List.getElem?_eq_getElem (by have := HL.out; omega)⟩
  have hxs : x.size = lg := HZ.out x (List.mem_of_getElem? hx)
  have hown4 := HO.out.later b3
  have htq : t < q := by omega
  have k3 : w3.cell? ⟨g0, t, none⟩ = some (.string x) := by
    rw [hown4.cellAt t (by omega), List.getElem?_map, hx]
    rfl
  have f3 := hown4.frozenAt t
  have htq' : (t : Int) < (q : Int) := by omega
  have HX := Lib.hid hx
  have HXS := Lib.hid hxs
  clear hx hxs
  go_wp2_with fail
  refine (moved_eq p x nn _ HPS.out HXS.out HNN.out (by omega)).mono ?_
  rintro e w4 ⟨rfl, b4⟩
  replace b4 := b3.trans (b4.mono b3.size)
  have hown5 := HO.out.later b4
  have k4 : w4.cell? ⟨g0, t, none⟩ = some (.string x) := by
    rw [hown5.cellAt t (by omega), List.getElem?_map, HX.out]
    rfl
  have f4 := hown5.frozenAt t
  have hst : Own (w4.setCell ⟨g0, t, none⟩ (.string nn)) w0.heap.size 9 (some ⟨g0, 0, none⟩) q c' ((l.map Value.string).set t (.string nn)) := (hown5.stored t (.string nn)).1
  rw [← List.map_set] at hst
  clear k3 f3 hown4
  have hZ6 : ∀ s ∈ l.set t nn, s.size = lg := fun s hs => by
    rcases List.mem_or_eq_of_mem_set hs with h | h
    · exact HZ.out s h
    · rw [h]; exact HNN.out
  have b5 : Below w0.heap.size w0 (w4.setCell ⟨g0, t, none⟩ (.string nn)) := (b1.trans (b4.mono b1.size)).setCell (by exact hgg.2) _
  have call6 := all_any (some ⟨g0, 0, none⟩) q c' _ (l.set t nn) (w4.setCell ⟨g0, t, none⟩ (.string nn)) (by omega) hst.reads (Nat.le_refl _) (fun s hs => by rw [hZ6 s hs]; omega) hcap
  rw [sums_all hZ6 (by have := HN.out; simp; exact this)] at call6
  have hmq : strR (some (sumL lg ((l.set t nn).map bs))) = xorB (xorB p x) nn := by
    have htl : t < (l.map bs).length := by rw [List.length_map, HL.out]; omega
    have hxe : (l.map bs)[t] = bs x := by
      have := (List.getElem?_eq_some_iff.1 HX.out).2
      rw [List.getElem_map, this]
    refine bs_inj ?_
    rw [show bs (strR (some (sumL lg ((l.set t nn).map bs)))) = sumL lg ((l.set t nn).map bs) from bs_mk _, List.map_set, sumL_set (allLen_of HZ.out) t htl (by rw [size_list, HNN.out]), hxe, bs_xorB, bs_xorB, HBP.out]
  have C6 := Lib.hid (call6.val _ 0 hmq rfl)
  clear call6 hmq hZ6 hst
  go_wp2_with (go_at_call 15; refine C6.out.mono ?_; rintro e w7 ⟨rfl, hb7⟩)
  go_ret
  exact ⟨by simp, below_call b0 (b5.trans (hb7.mono b5.size))⟩
end Go.Proofs.Ythoomjajplloaaa
