/- XorMisses, XorMoves, XorParts: walks. -/
import Derived.Test.YthoomjajplloaaaXorLawsC
import Derived.Test.YthoomjajplloaaaXorLawsD
namespace Go.Proofs.Ythoomjajplloaaa
open Go.RowKit

/-! ### all texts but one, gathered one by one -/
theorem erase_step {α : Type} (l : List α) (i k : Nat) (x : α) (hx : l[i]? = some x) (h : i ≠ k) : (l.take (i + 1)).eraseIdx k = (l.take i).eraseIdx k ++ [x] := by
  have hi : i < l.length := (List.getElem?_eq_some_iff.1 hx).1
  have e : l.take (i + 1) = l.take i ++ [x] := by rw [List.take_add_one, hx]; rfl
  rw [e]
  have hl : (l.take i).length = i := by rw [List.length_take]; omega
  rcases Nat.lt_or_ge k i with h1 | h1
  · rw [List.eraseIdx_append_of_lt_length (by omega)]
  · rw [List.eraseIdx_of_length_le (by simp; omega), List.eraseIdx_of_length_le (by omega)]
theorem erase_same {α : Type} (l : List α) (i : Nat) (x : α) (hx : l[i]? = some x) : (l.take (i + 1)).eraseIdx i = (l.take i).eraseIdx i := by
  have hi : i < l.length := (List.getElem?_eq_some_iff.1 hx).1
  have e : l.take (i + 1) = l.take i ++ [x] := by rw [List.take_add_one, hx]; rfl
  have hl : (l.take i).length = i := by rw [List.length_take]; omega
  have h1 : (l.take i).eraseIdx i = l.take i := List.eraseIdx_of_length_le (by omega)
  rw [e, h1, List.eraseIdx_append_of_length_le (by omega), hl, Nat.sub_self]
  simp

set_option maxRecDepth 100000 in
set_option maxHeartbeats 3200000 in
/-- XorMisses -/
theorem misses_any (A : Option Addr) (n k : Nat) (raw : List ByteArray) (many long which : Int) (w : World) (hm : (Lit.int .i64 many).wf = true) (hl : (Lit.int .i64 long).wf = true) (ht : (Lit.int .i64 which).wf = true)
    (hn : n ≤ 8796093021952) (hr : Reads w w.heap.size A n (raw.map .string)) (hs : ∀ s ∈ raw, s.size ≤ 140737488351232) :
    Holds Try.prog 6 #[.slice A n k, .int .i64 many, .int .i64 long, .int .i64 which] w := by
  have HR := Lib.hid hr
  have HS := Lib.hid hs
  clear hr hs
  unfold Holds
  go_enter Try.func6, Try.ntmps6
  go_wp2_with fail
  refine (awake_any _).mono ?_
  rintro e w0 ⟨rfl, b0⟩
  go_wp2_with fail
  refine (pick_some long 41 _ hl (by omega) (by omega)).mono ?_
  rintro e w1 ⟨⟨lg, hlg, rfl⟩, rfl⟩
  go_wp2_with fail
  refine (pick_some many 9 _ hm (by omega) (by omega)).mono ?_
  rintro e w1 ⟨⟨m, hm9, rfl⟩, rfl⟩
  obtain ⟨q, hq⟩ : ∃ q : Nat, (q : Int) = 1 + (m : Int) := ⟨1 + m, by omega⟩
  have hq1 : 1 ≤ q := by omega
  have hq9 : q ≤ 9 := by omega
  have HQ := Lib.hid hq.symm
  clear hq
  go_wp2_with fail
  refine (texts_some A n k raw _ _ q lg _ HQ.out rfl (by omega) ((HR.out.below b0).more b0.size) HS.out (by omega) (by omega)).mono ?_
  rintro e w1 ⟨A', c', l, rfl, hlen, hsz, hown, b1⟩
  replace b1 := below_call b0 b1
  have HL := Lib.hid hlen
  have HZ := Lib.hid hsz
  obtain ⟨b, o, hA, hbb, hcell⟩ := hown.reads.2 (by omega)
  subst hA
  have hcap := hown.cap
  have hrl := hown.reads
  have HC := Lib.hid hcell
  have HN : Hid (l ≠ []) := by rintro rfl; have := HL.out; simp at this; omega
  clear hlen hsz hcell
  obtain ⟨p, EP⟩ : ∃ p, Hid (strR (some (sumL lg (l.map bs))) = p) := ⟨_, rfl⟩
  have hbp : bs p = sumL lg (l.map bs) := by rw [← EP.out]; exact bs_mk _
  have hps : p.size = lg := by rw [← size_list, hbp, sumL_len (allLen_of HZ.out)]
  have HBP := Lib.hid hbp
  have HPS := Lib.hid hps
  clear hbp hps
  have call1 := all_any (some ⟨b, o, none⟩) q c' w1.heap.size l w1 (by omega) hrl (Nat.le_refl _) (fun s hs => by rw [HZ.out s hs]; omega) hcap
  rw [sums_all HZ.out HN.out] at call1
  have C1 := Lib.hid (call1.val p 0 EP.out rfl)
  clear call1
  go_wp2_with fail
  refine C1.out.mono ?_
  rintro e w2 ⟨rfl, b2⟩
  have hZ2 : ∀ s ∈ l ++ [p], s.size = lg := sizes_append HZ.out (by intro s hs; simp at hs; rw [hs]; exact HPS.out)
  have call2 : ∀ A7 c7 w7 B7, Own w7 B7 9 A7 (q + 1) c7 ([] ++ l.map .string ++ [.string p]) →
      Calls Try.prog 15 #[.slice A7 (q + 1) c7] w7 fun e w' => e = .returned (.tuple #[.string (zeroB lg), .int .i64 0]) ∧ Below w7.heap.size w7 w' := by
    intro A7 c7 w7 B7 ho
    have h1 := all_any A7 (q + 1) c7 w7.heap.size (l ++ [p]) w7 (by omega) (by rw [List.map_append]; exact ho.reads) (Nat.le_refl _) (fun s hs => by rw [hZ2 s hs]; omega) ho.cap
    rw [sums_all hZ2 (by simp)] at h1
    refine h1.val (zeroB lg) 0 ?_ rfl
    rw [List.map_append, show [p].map bs = [sumL lg (l.map bs)] by rw [← HBP.out]; rfl, sumL_parity (allLen_of HZ.out)]
    rfl
  have C2 := Lib.hid call2
  clear hZ2 call2
  go_wp2_with (first
    | (at_builtin; refine wpList_app (N := q) 22 9 16 (.string ⟨#[]⟩) rfl _ _ rfl Try.underlying22 info_str rfl rfl (Own.nil _ w2.heap.size _) rfl (hrl.below b2) (strs_oneCell _) (by omega) (by unfold maxLen; omega) (by omega) (Nat.le_refl _) ?_; intro A3 c3 w3 hown3 _ hb3)
    | (at_builtin; refine wpList_app (N := q + 1) 22 9 16 (.string ⟨#[]⟩) rfl _ _ rfl Try.underlying22 info_str rfl rfl (hown3.later ((Below.refl _ _).alloc (Nat.le_refl _) _)) rfl (reads_lit _ [_] _ 1 rfl) (by simp [Value.oneCell']) (by omega) (by unfold maxLen; omega) (by omega) (by have := hb3.size; simp at this ⊢; omega) ?_; intro A4 c4 w4 hown4 _ hb4)
    | (go_at_call 15; refine (C2.out _ _ _ _ hown4).mono ?_; rintro e w5 ⟨rfl, hb5⟩)
    | (go_at_call 22; refine (pick_some which q _ ht (by omega) (by omega)).mono ?_; rintro e w6 ⟨⟨t, ht9, rfl⟩, rfl⟩))
  have b5 : Below w1.heap.size w1 w5 := by
    have h3 : Below w1.heap.size w1 w3 := b2.trans (hb3.mono b2.size)
    have h4 : Below w1.heap.size w1 w4 := (h3.alloc h3.size _).trans (hb4.mono b2.size)
    exact below_call h4 hb5
  clear b2
  obtain ⟨wb, rfl⟩ : ∃ wb : World, wb = w5 := ⟨_, rfl⟩
  go_loopw [16, 17] (fun v i wr => ∃ (k : Nat) (A' : Option Addr) (m c' : Nat), k ≤ q ∧ m ≤ k ∧ i = .int .i64 k ∧ v = .slice A' m c' ∧ Own wr w1.heap.size 9 A' m c' (((l.take k).eraseIdx t).map .string) ∧ Below w1.heap.size w1 wr) (fun _ i _ => q - (intOf i).toNat)
  case atStart => exact ⟨0, none, 0, 0, Nat.zero_le _, Nat.le_refl _, rfl, rfl, Own.nil _ _ _, b5⟩
  case round =>
    obtain ⟨i, A5, m5, c5, hi, hmi, rfl, rfl, hown5, hbr⟩ := hrel
    have hbbr : b < wr.heap.size := Nat.lt_of_lt_of_le hbb hbr.size
    by_cases hlt : i < q
    · obtain ⟨x, hx⟩ : ∃ s, l[i]? = some s := ⟨_, List.getElem?_eq_getElem (by have := HL.out; omega)⟩
      have hcx : wr.cell? ⟨b, o + i, none⟩ = some (.string x) := (hbr.cell (by exact hbb)).trans (HC.out i _ (by rw [List.getElem?_map, hx]; rfl))
      have HX := Lib.hid hx
      clear hx
      by_cases hit : i = t
      · have hne : ((i : Int) != (t : Int)) = false := by simp [hit]
        have HI := Lib.hid hit
        clear hit
        go_wp2
        go_roundw
        case rel => exact ⟨i + 1, A5, m5, c5, by omega, by omega, by go_num, rfl, by
          have h1 := erase_same l i x HX.out
          rw [← HI.out]
          rw [h1]
          rw [← HI.out] at hown5
          exact hown5, hbr⟩
        case measure => simp [intOf]; omega
      · have hne : ((i : Int) != (t : Int)) = true := by simp; omega
        have HI := Lib.hid hit
        clear hit
        go_wp2_with (at_builtin; refine wpList_app (N := m5 + 1) 22 9 16 (.string ⟨#[]⟩) rfl _ _ rfl Try.underlying22 info_str rfl rfl (hown5.later ((Below.refl _ _).alloc (Nat.le_refl _) _)) rfl (reads_lit _ [_] _ 1 rfl) (by simp [Value.oneCell']) rfl (by unfold maxLen; omega) (by omega) (by have := hbr.size; simp; omega) ?_; intro A6 c6 w6 hown6 _ hb6)
        go_roundw
        case rel => exact ⟨i + 1, A6, m5 + 1, c6, by omega, by omega, by go_num, rfl, by
          rw [erase_step l i t x HX.out HI.out, List.map_append]
          exact hown6, (hbr.alloc hbr.size _).trans hb6⟩
        case measure => simp [intOf]; omega
    · have hiq : i = q := by omega
      have hall : (l.take i).eraseIdx t = l.take t ++ l.drop (t + 1) := by rw [List.take_of_length_le (by have := HL.out; omega), List.eraseIdx_eq_take_drop_succ]
      rw [hall] at hown5
      have HI := Lib.hid hiq
      clear hiq hall
      have hZ5 : ∀ s ∈ l.take t ++ l.drop (t + 1), s.size = lg := sizes_append (sizes_take HZ.out t) (sizes_drop HZ.out (t + 1))
      obtain ⟨x, hx⟩ : ∃ s, l[t]? = some s := ⟨_, List.getElem?_eq_getElem (by have := HL.out; omega)⟩
      have call6 := missing_any p A5 m5 c5 wr.heap.size (l.take t ++ l.drop (t + 1)) wr (by omega) hown5.reads (Nat.le_refl _) (by rw [HPS.out]; omega) (fun s hs => by rw [hZ5 s hs]; omega) hown5.cap
      have hsum : sumOf (bs p :: (l.take t ++ l.drop (t + 1)).map bs) = some (bs x) := by
        have htl : t < (l.map bs).length := by rw [List.length_map, HL.out]; omega
        have hxe : (l.map bs)[t] = bs x := by
          have := (List.getElem?_eq_some_iff.1 hx).2
          rw [List.getElem_map, this]
        have hall6 : AllLen lg (bs p :: (l.take t ++ l.drop (t + 1)).map bs) := by
          intro y hy
          rcases List.mem_cons.1 hy with h | h
          · rw [h, size_list, HPS.out]
          · exact allLen_of hZ5 y h
        rw [sumOf_all hall6 (by simp), HBP.out, List.map_append, List.map_take, List.map_drop, sumL_miss (allLen_of HZ.out) t htl, hxe]
      rw [hsum] at call6
      have C6 := Lib.hid (call6.val x 0 (mk_list x) rfl)
      have hcx : w1.cell? ⟨b, o + t, none⟩ = some (.string x) := HC.out t _ (by rw [List.getElem?_map, hx]; rfl)
      have HCX := Lib.hid hcx
      have hpt : (t : Int) < (q : Int) := by omega
      clear hx hcx hsum call6 hZ5
      go_wp2_with (first
        | (go_at_call 19; refine C6.out.mono ?_; rintro e w7 ⟨rfl, hb7⟩; have b7 : Below w1.heap.size w1 w7 := below_call hbr hb7)
        | (refine wpList_mkG 35 5 (.int .u8 0) 1 rfl _ _ rfl Try.underlying35 info_u8 rfl rfl rfl (by omega) (by unfold maxLen; omega) ?_; intro w8 hz8 hb8 hrow8 hown8; have b8 : Below w1.heap.size w1 w8 := below_call b7 hb8; have hconv := run_zeroB 35 9 5 hrow8 Try.underlying35 Try.underlying5 Try.underlying9 lg; have k8 : w8.cell? ⟨b, o + t, none⟩ = some (.string x) := (b8.cell (by exact hbb)).trans HCX.out))
      go_ret
      exact ⟨by simp, below_call b1 b8⟩
end Go.Proofs.Ythoomjajplloaaa
