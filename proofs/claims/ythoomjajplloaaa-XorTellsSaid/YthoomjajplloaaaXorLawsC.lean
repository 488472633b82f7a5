/- The statements of layer 1 that speak of texts which are as long: walks, continued. -/
import Derived.Test.YthoomjajplloaaaXorLawsB
import Derived.Deep.RegionHeld3
import Derived.Deep.DeepCutAuto
namespace Go.Proofs.Ythoomjajplloaaa
open Go.RowKit

theorem sizes_take {L : Nat} {l : List ByteArray} (h : ∀ s ∈ l, s.size = L) (k : Nat) : ∀ s ∈ l.take k, s.size = L := fun s hs => h s (List.mem_of_mem_take hs)
theorem sizes_drop {L : Nat} {l : List ByteArray} (h : ∀ s ∈ l, s.size = L) (k : Nat) : ∀ s ∈ l.drop k, s.size = L := fun s hs => h s (List.mem_of_mem_drop hs)
theorem sizes_append {L : Nat} {l r : List ByteArray} (h : ∀ s ∈ l, s.size = L) (h' : ∀ s ∈ r, s.size = L) : ∀ s ∈ l ++ r, s.size = L := fun s hs => by
  rcases List.mem_append.1 hs with x | x
  · exact h s x
  · exact h' s x

set_option maxRecDepth 100000 in
set_option maxHeartbeats 1600000 in
/-- XorTurns -/
theorem turns_any (A : Option Addr) (n k : Nat) (raw : List ByteArray) (many long turn : Int) (w : World) (hm : (Lit.int .i64 many).wf = true) (hl : (Lit.int .i64 long).wf = true) (ht : (Lit.int .i64 turn).wf = true)
    (hn : n ≤ 8796093021952) (hr : Reads w w.heap.size A n (raw.map .string)) (hs : ∀ s ∈ raw, s.size ≤ 140737488351232) :
    Holds Try.prog 5 #[.slice A n k, .int .i64 many, .int .i64 long, .int .i64 turn] w := by
  have HR := Lib.hid hr
  have HS := Lib.hid hs
  clear hr hs
  unfold Holds
  go_enter Try.func5, Try.ntmps5
  go_wp2_with fail
  refine (awake_any _).mono ?_
  rintro e w0 ⟨rfl, b0⟩
  go_wp2_with fail
  refine (pick_some many 9 _ hm (by omega) (by omega)).mono ?_
  rintro e w1 ⟨⟨m, hm9, rfl⟩, rfl⟩
  go_wp2_with fail
  refine (pick_some long 41 _ hl (by omega) (by omega)).mono ?_
  rintro e w1 ⟨⟨lg, hlg, rfl⟩, rfl⟩
  obtain ⟨q, hq⟩ : ∃ q : Nat, (q : Int) = 1 + (m : Int) := ⟨1 + m, by omega⟩
  have hq1 : 1 ≤ q := by omega
  have hq9 : q ≤ 9 := by omega
  have HQ := Lib.hid hq.symm
  clear hq
  go_wp2_with fail
  refine (texts_some A n k raw _ _ q lg _ HQ.out rfl (by omega) ((HR.out.below b0).more b0.size) HS.out (by omega) (by omega)).mono ?_
  rintro e w1 ⟨A', c', l, rfl, hlen, hsz, hown, b1⟩
  replace b1 := below_call b0 b1
  have HL := Lib.hid hlen
  have HZ := Lib.hid hsz
  clear hlen hsz
  go_wp2_with fail
  refine (pick_some turn q _ ht (by omega) (by omega)).mono ?_
  rintro e w2 ⟨⟨t, ht9, rfl⟩, rfl⟩
  obtain ⟨b, o, hA, hbb, hcell⟩ := hown.reads.2 (by omega)
  subst hA
  have hcap := hown.cap
  have htq : t < q := by omega
  have hct : ¬ c' = t := by omega
  have hrl := hown.reads
  have hrd := hrl.drop_ (k := t) rfl (by omega)
  have hrt := hrl.take_ (k := t) (by omega)
  rw [← List.map_drop] at hrd
  rw [← List.map_take] at hrt
  have HC := Lib.hid hcell
  clear hcell
  go_wp2_with (first
    | (at_builtin; refine wpList_app (N := q - t) 22 9 16 (.string ⟨#[]⟩) rfl _ _ rfl Try.underlying22 info_str rfl rfl (Own.nil _ w1.heap.size _) rfl hrd (strs_oneCell _) (by omega) (by unfold maxLen; omega) (by omega) (Nat.le_refl _) ?_; intro A2 c2 w2 hown2 _ hbd2)
    | (at_builtin; refine wpList_app (N := q) 22 9 16 (.string ⟨#[]⟩) rfl _ _ rfl Try.underlying22 info_str rfl rfl hown2 rfl (hrt.below hbd2) (strs_oneCell _) (by omega) (by unfold maxLen; omega) (by omega) hbd2.size ?_; intro A3 c3 w3 hown3 _ hbd3))
  replace hbd3 := hbd2.trans hbd3
  rw [List.nil_append, ← List.map_append] at hown3
  clear hown2 hbd2
  have hZ3 : ∀ s ∈ l.drop t ++ l.take t, s.size = lg := sizes_append (sizes_drop HZ.out t) (sizes_take HZ.out t)
  have hne : l ≠ [] := by rintro rfl; have := HL.out; simp at this; omega
  have hne3 : l.drop t ++ l.take t ≠ [] := by intro h; have := congrArg List.length h; simp at this; have := HL.out; omega
  have call1 := all_any (some ⟨b, o, none⟩) q c' w1.heap.size l w3 (by omega) (hrl.below hbd3) hbd3.size (fun s hs => by rw [HZ.out s hs]; omega) hcap
  rw [sums_all HZ.out hne] at call1
  have C1 := Lib.hid call1
  have HZ3 := Lib.hid hZ3
  have HN := Lib.hid hne
  have HN3 := Lib.hid hne3
  clear call1 hZ3 hne hne3
  obtain ⟨s1, E1⟩ : ∃ s1, Hid (strR (some (sumL lg (l.map bs))) = s1) := ⟨_, rfl⟩
  obtain ⟨s2, E2⟩ : ∃ s2, Hid (strR (some (sumL lg ((l.drop t ++ l.take t).map bs))) = s2) := ⟨_, rfl⟩
  obtain ⟨st, hst⟩ : ∃ s, l[t]? = some s := ⟨_, List.getElem?_eq_getElem (by have := HL.out; omega)⟩
  obtain ⟨s0, hs0⟩ : ∃ s, l[0]? = some s := ⟨_, List.getElem?_eq_getElem (by have := HL.out; omega)⟩
  have hct1 : w1.cell? ⟨b, o + t, none⟩ = some (.string st) := HC.out t _ (by rw [List.getElem?_map, hst]; rfl)
  have hc01 : w1.cell? ⟨b, o, none⟩ = some (.string s0) := HC.out 0 _ (by rw [List.getElem?_map, hs0]; rfl)
  have hszt : st.size = lg := HZ.out _ (List.mem_of_getElem? hst)
  have hsz0 : s0.size = lg := HZ.out _ (List.mem_of_getElem? hs0)
  have HST := Lib.hid hst
  have HS0 := Lib.hid hs0
  have HSZT := Lib.hid hszt
  have HSZ0 := Lib.hid hsz0
  have HCT := Lib.hid hct1
  have HC0 := Lib.hid hc01
  have hpt : (t : Int) < (q : Int) := by omega
  have hpt0 : (0 : Int) ≤ (t : Int) := by omega
  have hp0 : (0 : Int) < (q : Int) := by omega
  have hp0n : 0 < q := by omega
  clear hst hs0 hszt hsz0 hct1 hc01
  refine (C1.out.val s1 0 E1.out rfl).mono ?_
  rintro e w4 ⟨rfl, b4⟩
  have call2 := all_any A3 q c3 w3.heap.size (l.drop t ++ l.take t) w4 (by omega) (hown3.reads.below b4) b4.size (fun s hs => by rw [HZ3.out s hs]; omega) hown3.cap
  rw [sums_all HZ3.out HN3.out] at call2
  have C2 := Lib.hid call2
  clear call2
  replace b4 := below_call hbd3 b4
  go_wp2_with fail
  refine (C2.out.val s2 0 E2.out rfl).mono ?_
  rintro e w5 ⟨rfl, b5⟩
  replace b5 := below_call b4 b5
  clear b4 hown3 hbd3
  have hbb5 : b < w5.heap.size := Nat.lt_of_lt_of_le hbb b5.size
  have hz5 := b5.size
  have hZ4 : ∀ s ∈ l ++ [st, st], s.size = lg := sizes_append HZ.out (by intro s hs; simp at hs; rw [hs]; exact HSZT.out)
  obtain ⟨s3, E3⟩ : ∃ s3, Hid (strR (some (sumL lg ((l ++ [st, st]).map bs))) = s3) := ⟨_, rfl⟩
  have call3 : ∀ A7 c7 w7 B7, Own w7 B7 9 A7 (q + 2) c7 ([] ++ l.map .string ++ [.string st, .string st]) →
      Calls Try.prog 15 #[.slice A7 (q + 2) c7] w7 fun e w' => e = .returned (.tuple #[.string s3, .int .i64 0]) ∧ Below w7.heap.size w7 w' := by
    intro A7 c7 w7 B7 ho
    have h1 := all_any A7 (q + 2) c7 w7.heap.size (l ++ [st, st]) w7 (by omega) (by rw [List.map_append]; exact ho.reads) (Nat.le_refl _) (fun s hs => by rw [hZ4 s hs]; omega) ho.cap
    rw [sums_all hZ4 (by simp)] at h1
    exact h1.val s3 0 E3.out rfl
  have C3 := Lib.hid call3
  clear hZ4 call3
  have k5 : w5.cell? ⟨b, o + t, none⟩ = some (.string st) := (b5.cell (by exact hbb)).trans HCT.out
  go_upto_region 9 with fail
  go_cut [17, 18] (fun s e wx => s = .string s3 ∧ e = .int .i64 0 ∧ Below w1.heap.size w1 wx)
  case first =>
    go_region_held3 (fun w' => w'.cell? ⟨b, o + t, none⟩ = some (.string st)) (first
        | exact (B8.cell (by exact hbb)).trans HCT.out
        | exact (B7.cell (by exact hbb)).trans HCT.out
        | exact (B6.cell (by exact hbb)).trans HCT.out
        | exact ((B6.alloc B6.size _).cell (by exact hbb)).trans HCT.out
        | go_keep)
      (first
        | (refine step_app (N := q) 22 9 16 (.string ⟨#[]⟩) rfl _ _ rfl Try.underlying22 info_str rfl rfl (Own.nil _ _ _) rfl (by first | exact hrl.below b5.drew | exact hrl.below (b5.alloc b5.size _).drew) (strs_oneCell _) (by omega) (by unfold maxLen; omega) (by omega) (Nat.le_refl _) ?_; intro A6 c6 w6 hown6 _ hb6; have B6 : Below w1.heap.size w1 w6 := by first | exact below_call b5.drew hb6 | exact below_call (b5.alloc b5.size _).drew hb6)
        | (refine step_app (N := q + 2) 22 9 16 (.string ⟨#[]⟩) rfl _ _ rfl Try.underlying22 info_str rfl rfl (by first | exact hown6 | exact hown6.later ((Below.refl _ _).alloc (Nat.le_refl _) _)) rfl (by first | exact reads_lit _ [_, _] _ 2 rfl | exact reads_lit_later _ [_, _] _ 2 rfl hb6) (by simp [Value.oneCell']) (by omega) (by unfold maxLen; omega) (by omega) (by have := hb6.size; simp at this ⊢; omega) ?_; intro A7 c7 w7 hown7 _ hb7; have B7 : Below w1.heap.size w1 w7 := by first | exact B6.trans (hb7.mono (by simp; omega)) | exact (B6.alloc B6.size _).trans (hb7.mono (by simp; omega)))
        | (go_at_call 15; refine (C3.out _ _ _ _ hown7).mono ?_; rintro e w8 ⟨rfl, hb8⟩; have B8 : Below w1.heap.size w1 w8 := below_call B7 hb8))
    all_goals (go_wp2_with fail; go_meet; exact ⟨rfl, rfl, B8⟩)
  case rest =>
    obtain ⟨rfl, rfl, B8⟩ := hcut
    clear k5 hz5 hbb5 b5
    have k8 : wc.cell? ⟨b, o + t, none⟩ = some (.string st) := (B8.cell (by exact hbb)).trans HCT.out
    have k80 : wc.cell? ⟨b, o, none⟩ = some (.string s0) := (B8.cell (by exact hbb)).trans HC0.out
    obtain ⟨s4, E4⟩ : ∃ s4, Hid (strR (some (xorL (bs s0) (bs st))) = s4) := ⟨_, rfl⟩
    obtain ⟨s5, E5⟩ : ∃ s5, Hid (strR (some (xorL (bs st) (bs s0))) = s5) := ⟨_, rfl⟩
    have call4 : ∀ w9, Calls Try.prog 13 #[.string s0, .string st] w9 fun e w' => e = .returned (.tuple #[.string s4, .int .i64 0]) ∧ Below w9.heap.size w9 w' := fun w9 => by
      have h1 := two_any s0 st w9 (by rw [HSZ0.out]; omega) (by rw [HSZT.out]; omega)
      rw [show sumOf [bs s0, bs st] = some (xorL (bs s0) (bs st)) by simp [sumOf, HSZ0.out, HSZT.out]] at h1
      exact h1.val s4 0 E4.out rfl
    have call5 : ∀ w9, Calls Try.prog 13 #[.string st, .string s0] w9 fun e w' => e = .returned (.tuple #[.string s5, .int .i64 0]) ∧ Below w9.heap.size w9 w' := fun w9 => by
      have h1 := two_any st s0 w9 (by rw [HSZT.out]; omega) (by rw [HSZ0.out]; omega)
      rw [show sumOf [bs st, bs s0] = some (xorL (bs st) (bs s0)) by simp [sumOf, HSZ0.out, HSZT.out]] at h1
      exact h1.val s5 0 E5.out rfl
    have C4 := Lib.hid call4
    have C5 := Lib.hid call5
    clear call4 call5
    go_upto_region 10 with fail
    go_cut [19, 20] (fun s e wx => s = .string s4 ∧ e = .int .i64 0 ∧ Below w1.heap.size w1 wx)
    case first =>
      go_region_held3 (fun w' => w'.cell? ⟨b, o + t, none⟩ = some (.string st) ∧ w'.cell? ⟨b, o, none⟩ = some (.string s0)) (first
          | exact ⟨(B9.cell (by exact hbb)).trans HCT.out, (B9.cell (by exact hbb)).trans HC0.out⟩
          | go_keep)
        (first
          | (go_at_call 13; refine (C4.out _).mono ?_; rintro e w9 ⟨rfl, hb9⟩; have B9 : Below w1.heap.size w1 w9 := below_call B8.drew hb9))
      all_goals (go_wp2_with fail; go_meet; exact ⟨rfl, rfl, B9⟩)
    case rest =>
      obtain ⟨rfl, rfl, B9⟩ := hcut
      clear k8 k80 B8
      obtain ⟨w9, rfl⟩ : ∃ w9 : World, w9 = wc := ⟨_, rfl⟩
      have k9 : w9.cell? ⟨b, o + t, none⟩ = some (.string st) := (B9.cell (by exact hbb)).trans HCT.out
      have k90 : w9.cell? ⟨b, o, none⟩ = some (.string s0) := (B9.cell (by exact hbb)).trans HC0.out
      go_upto_region 11 with fail
      go_cut [21, 22] (fun s e wx => s = .string s5 ∧ e = .int .i64 0 ∧ Below w1.heap.size w1 wx)
      case first =>
        go_region_held3 (fun w' => w'.cell? ⟨b, o + t, none⟩ = some (.string st) ∧ w'.cell? ⟨b, o, none⟩ = some (.string s0)) (first
            | exact ⟨(B10.cell (by exact hbb)).trans HCT.out, (B10.cell (by exact hbb)).trans HC0.out⟩
            | go_keep)
          (first
            | (go_at_call 13; refine (C5.out _).mono ?_; rintro e w10 ⟨rfl, hb10⟩; have B10 : Below w1.heap.size w1 w10 := below_call B9.drew hb10))
        all_goals (go_wp2_with fail; go_meet; exact ⟨rfl, rfl, B10⟩)
      case rest =>
        obtain ⟨rfl, rfl, B10⟩ := hcut
        have e12 : s2 = s1 := by
          rw [← E1.out, ← E2.out, List.map_append, List.map_drop, List.map_take, sumL_turn (allLen_of HZ.out)]
        have e13 : s3 = s1 := by
          rw [← E1.out, ← E3.out, List.map_append]
          exact congrArg (fun x => strR (some x)) (sumL_twice (allLen_of HZ.out) (by rw [size_list, HSZT.out]))
        have e45 : s5 = s4 := by rw [← E4.out, ← E5.out, xorL_comm]
        subst e12 e13 e45
        clear k9 k90
        go_wp2
        go_ret
        exact ⟨by simp, below_call b1 B10⟩
end Go.Proofs.Ythoomjajplloaaa
