/- Walks over package plan: Got and Made. -/
import Derived.Test.YthckkmoafobmnaaPlanSmall
import Derived.Test.YthckkmoafobmnaaStrs
import Derived.Deep.RegionHeld3
namespace Go.Proofs.Ythckkmoafobmnaa
open Go.RowKit Go.ChangeShapes Go.WideShapes

theorem allLen_texts {ss : List ByteArray} (hz : ∀ s ∈ ss, s.size = 16) : AllLen 16 (ss.map bsOf) := fun x hx => by
  obtain ⟨y, hy, rfl⟩ := List.mem_map.1 hx
  exact hz y hy
theorem all_val (A : Option Addr) (n c B : Nat) (ss : List ByteArray) (w : World) (hc : n ≤ 100) (hr : Reads w B A n (ss.map .string)) (hB : B ≤ w.heap.size) (hz : ∀ s ∈ ss, s.size = 16) (hne : ss ≠ []) (hnc : n ≤ c) (r : ByteArray) (hv : (⟨(sumL 16 (ss.map bsOf)).toArray⟩ : ByteArray) = r) :
    Calls Try.prog 32 #[.slice A n c] w fun e w' => e = .returned (.tuple #[.string r, .int .i64 0]) ∧ Below w.heap.size w w' := by
  subst hv
  have h := all_any A n c B ss w (by omega) hr hB (fun s hs => by rw [hz s hs]; omega) hnc
  rw [show ss.map bs = ss.map bsOf from rfl, sumOf_all (allLen_texts hz) (by simpa using hne)] at h
  exact h
theorem missing_val (d : ByteArray) (A : Option Addr) (n c B : Nat) (ss : List ByteArray) (w : World) (hc : n ≤ 100) (hr : Reads w B A n (ss.map .string)) (hB : B ≤ w.heap.size) (hd : d.size = 16) (hz : ∀ s ∈ ss, s.size = 16) (hnc : n ≤ c) (r : ByteArray) (hv : (⟨(sumL 16 (bsOf d :: ss.map bsOf)).toArray⟩ : ByteArray) = r) :
    Calls Try.prog 35 #[.string d, .slice A n c] w fun e w' => e = .returned (.tuple #[.string r, .int .i64 0]) ∧ Below w.heap.size w w' := by
  subst hv
  have h := missing_any d A n c B ss w (by omega) hr hB (by omega) (fun s hs => by rw [hz s hs]; omega) hnc
  rw [show bs d :: ss.map bs = bsOf d :: ss.map bsOf from rfl, sumOf_all (L := 16) (fun s hs => by
    rcases List.mem_cons.1 hs with rfl | hs
    · exact hd
    · exact allLen_texts hz s hs) (by simp)] at h
  exact h
theorem moved_val (a b d : ByteArray) (w : World) (ha : a.size = 16) (hb : b.size = 16) (hd : d.size = 16) (r : ByteArray) (hv : (⟨(sumL 16 [bsOf a, bsOf b, bsOf d]).toArray⟩ : ByteArray) = r) :
    Calls Try.prog 33 #[.string a, .string b, .string d] w fun e w' => e = .returned (.tuple #[.string r, .int .i64 0]) ∧ Below w.heap.size w w' := by
  subst hv
  have h := moved_any a b d w (by omega) (by omega) (by omega)
  rw [show [bs a, bs b, bs d] = [a, b, d].map bsOf from rfl, sumOf_all (L := 16) (allLen_texts (fun s hs => by
    simp at hs
    rcases hs with rfl | rfl | rfl <;> assumption)) (by simp)] at h
  exact h

set_option maxRecDepth 100000 in
set_option maxHeartbeats 1600000 in
theorem plan_got (N col : Nat) (S out : Int) (A : Option Addr) (n c : Nat) (ss : List ByteArray) (w : World) (h : ColsOk N col out) (hs : 1 ≤ S ∧ S ≤ 8) (hr : Reads w w.heap.size A n (ss.map .string)) (hnc : n ≤ c)
    (hn : n = (fetchR N col out).length) (hz : ∀ s ∈ ss, s.size = 16) :
    Calls Try.prog 18 #[.agg #[.int .i64 N, .int .i64 S], .int .i64 col, .int .i64 out, .slice A n c] w fun e w' => e = .returned (.tuple #[textV (sumL 16 (ss.map bsOf)), .int .i64 0]) ∧ Below w.heap.size w w' := by
  obtain ⟨r, hv⟩ : ∃ r : ByteArray, (⟨(sumL 16 (ss.map bsOf)).toArray⟩ : ByteArray) = r := ⟨_, rfl⟩
  rw [show textV (sumL 16 (ss.map bsOf)) = .string r from congrArg Value.string hv]
  have hlen := fetchR_len h
  have hN := h.2.1
  rw [← hn] at hlen
  have hne : ss ≠ [] := fun e => by
    have := hr.len
    rw [e] at this
    simp at this
    omega
  have C1 := Lib.hid (fun w' => plan_fetch N col S out w' h hs)
  have C2 := Lib.hid (fun w' (h : Reads w' w.heap.size A n (ss.map .string)) => plan_whole A n c w.heap.size ss w' h hz (by omega))
  have C3 := Lib.hid (fun w' (h : Reads w' w.heap.size A n (ss.map .string)) (hB : w.heap.size ≤ w'.heap.size) => all_val A n c w.heap.size ss w' (by omega) h hB hz hne hnc r hv)
  have HR := Lib.hid hr
  have HN := Lib.hid hn
  clear hr hz hne hv hlen hnc h hs hn
  go_enter Try.func18, Try.ntmps18
  go_wp2_with fail
  refine (C1.out _).mono ?_
  rintro e w1 ⟨b1, A1, c1, A2, c2, rfl, -, -, -, -⟩
  replace b1 := below_boxed b1
  have R1 := Lib.hid (HR.out.below b1)
  rw [← HN.out]
  have hsz := b1.size
  go_wp2_with fail
  refine (C2.out _ R1.out).mono ?_
  rintro e w2 ⟨rfl, rfl⟩
  go_wp2_with fail
  refine (C3.out _ R1.out hsz).mono ?_
  rintro e w3 ⟨rfl, b3⟩
  replace b3 := below_call b1 b3
  go_wp2
  go_ret2
  exact ⟨rfl, b3⟩

set_option maxRecDepth 100000 in
set_option maxHeartbeats 3200000 in
theorem plan_made (N col : Nat) (S out : Int) (A : Option Addr) (n c : Nat) (ss : List ByteArray) (d : ByteArray) (w : World) (h : ColsOk N col out) (hs : 1 ≤ S ∧ S ≤ 8) (hr : Reads w w.heap.size A n (ss.map .string)) (hnc : n ≤ c)
    (hn : n = (updR N col out).length) (hz : ∀ s ∈ ss, s.size = 16) (hd : d.size = 16) :
    Calls Try.prog 22 #[.agg #[.int .i64 N, .int .i64 S], .int .i64 col, .int .i64 out, .slice A n c, .string d] w fun e w' => Below w.heap.size w w' ∧
      ∃ A1 c1, e = .returned (.tuple #[.slice A1 (planW N col out (ss.map bsOf) (bsOf d)).length c1, .int .i64 0]) ∧ Reads w' w'.heap.size A1 (planW N col out (ss.map bsOf) (bsOf d)).length ((planW N col out (ss.map bsOf) (bsOf d)).map textV) ∧ Fresh w.heap.size A1 := by
  have hlen := updR_len h
  have hN := h.2.1
  rw [← hn] at hlen
  obtain ⟨m, hm⟩ : ∃ m : Int, (N : Int) - 1 = m := ⟨_, rfl⟩
  have C1 := Lib.hid (fun w' => plan_update N col S out w' h hs)
  have C2 := Lib.hid (fun w' (h : Reads w' w.heap.size A n (ss.map .string)) => plan_whole A n c w.heap.size ss w' h hz (by omega))
  have C3 := Lib.hid (fun w' => plat_parity_is (N : Int) S w' m (parity_in (cols_right h.1 h.2.1 hs) hm))
  have C4 := Lib.hid (fun w' => str_clone d w' (by omega))
  have HR := Lib.hid hr
  have HN := Lib.hid hn
  have dd : ((d.size : Int) == 16) = true := by simp; omega
  have dd2 : (d.size == 16) = true := by simp; omega
  have hnm : ((N : Int) - 1) = m := hm
  by_cases hom : out = m
  · subst hom
    rw [show planW N col out (ss.map bsOf) (bsOf d) = [bsOf d] from if_pos hm.symm, show [bsOf d].map textV = [.string d] from rfl]
    have HD := Lib.hid hd
    clear hr hn hz hlen hN hm hnm h hs hd
    go_enter Try.func22, Try.ntmps22
    go_wp2_with fail
    refine (C1.out _).mono ?_
    rintro e w1 ⟨b1, A1, c1, A2, c2, rfl, -, -, -, -⟩
    obtain ⟨_, k0, k1⟩ := (Geo.boxed w (N : Int) S 23).later b1
    replace b1 := below_boxed b1
    have R1 := Lib.hid (HR.out.below b1)
    rw [← HN.out]
    go_wp2_with fail
    refine (C2.out _ R1.out).mono ?_
    rintro e w2 ⟨rfl, rfl⟩
    go_wp2_with fail
    refine (C3.out _).mono ?_
    rintro e w3 ⟨rfl, b3⟩
    replace b3 := below_call b1 b3
    go_wp2_with fail
    refine (C4.out _).mono ?_
    rintro e w4 ⟨rfl, b4⟩
    replace b4 := below_call b3 b4
    have hsz := b4.size
    go_wp2
    go_ret2
    exact ⟨b4.alloc hsz _, _, _, rfl, (reads_new1 w4 (.string d) 9).more (by simp), fresh_at hsz⟩
  · have e1 : (out == m) = false := by simpa using hom
    have hom1 : ¬ out = (N : Int) - 1 := by rw [hm]; exact hom
    by_cases hoc : out = col
    · subst hoc
      rw [show planW N col (col : Int) (ss.map bsOf) (bsOf d) = [sumL 16 (bsOf d :: ss.map bsOf)] by rw [planW, if_neg hom1, if_pos rfl]]
      obtain ⟨r, hv⟩ : ∃ r : ByteArray, (⟨(sumL 16 (bsOf d :: ss.map bsOf)).toArray⟩ : ByteArray) = r := ⟨_, rfl⟩
      rw [show [sumL 16 (bsOf d :: ss.map bsOf)].map textV = [.string r] by rw [← hv]; rfl]
      have C5 := Lib.hid (fun w' (h : Reads w' w.heap.size A n (ss.map .string)) (hB : w.heap.size ≤ w'.heap.size) => missing_val d A n c w.heap.size ss w' (by omega) h hB hd hz hnc r hv)
      have HD := Lib.hid hd
      clear hr hn hz hlen hN hm hnm h hs hd hv hom hom1
      go_enter Try.func22, Try.ntmps22
      go_wp2_with fail
      refine (C1.out _).mono ?_
      rintro e w1 ⟨b1, A1, c1, A2, c2, rfl, -, -, -, -⟩
      obtain ⟨_, k0, k1⟩ := (Geo.boxed w (N : Int) S 23).later b1
      replace b1 := below_boxed b1
      have R1 := Lib.hid (HR.out.below b1)
      rw [← HN.out]
      go_wp2_with fail
      refine (C2.out _ R1.out).mono ?_
      rintro e w2 ⟨rfl, rfl⟩
      go_wp2_with fail
      refine (C3.out _).mono ?_
      rintro e w3 ⟨rfl, b3⟩
      replace b3 := below_call b1 b3
      have R3 := Lib.hid (HR.out.below b3)
      have hs3 := b3.size
      go_wp2_with fail
      refine (C5.out _ R3.out hs3).mono ?_
      rintro e w4 ⟨rfl, b4⟩
      replace b4 := below_call b3 b4
      have hsz := b4.size
      go_wp2
      go_ret2
      exact ⟨b4.alloc hsz _, _, _, rfl, (reads_new1 w4 (.string r) 9).more (by simp), fresh_at hsz⟩
    · have e2 : (out == (col : Int)) = false := by simpa using hoc
      have hn2 : n = 2 := by rw [hn, updR, if_neg hom1, if_neg hoc]; rfl
      have hss : ss.length = 2 := by have := hr.len; simp at this; omega
      obtain ⟨a, b, rfl⟩ : ∃ a b, ss = [a, b] := by
        match ss, hss with
        | [a, b], _ => exact ⟨a, b, rfl⟩
      rw [show planW N col out ([a, b].map bsOf) (bsOf d) = [bsOf d, sumL 16 [bsOf b, bsOf a, bsOf d]] by rw [planW, if_neg hom1, if_neg hoc]; rfl]
      obtain ⟨r, hv⟩ : ∃ r : ByteArray, (⟨(sumL 16 [bsOf b, bsOf a, bsOf d]).toArray⟩ : ByteArray) = r := ⟨_, rfl⟩
      rw [show [bsOf d, sumL 16 [bsOf b, bsOf a, bsOf d]].map textV = [.string d, .string r] by rw [← hv]; rfl]
      have C5 := Lib.hid (fun w' => moved_val b a d w' (hz b (by simp)) (hz a (by simp)) hd r hv)
      subst hn2
      obtain ⟨g, o, u, rfl, hg, hu, q0⟩ := hr.at_ (k := 0) (by omega)
      obtain ⟨g', o', u', hA, -, hu', q1⟩ := hr.at_ (k := 1) (by omega)
      cases hA
      simp at hu hu'
      subst hu hu'
      rw [Nat.add_zero] at q0
      have HQ := Lib.hid q0
      have HQ1 := Lib.hid q1
      have HD := Lib.hid hd
      clear hr hn hz hlen hN hm hnm h hs hd hv hom hom1 hss q0 q1
      go_enter Try.func22, Try.ntmps22
      go_wp2_with fail
      refine (C1.out _).mono ?_
      rintro e w1 ⟨b1, A1, c1, A2, c2, rfl, -, -, -, -⟩
      obtain ⟨_, k0, k1⟩ := (Geo.boxed w (N : Int) S 23).later b1
      replace b1 := below_boxed b1
      have R1 := Lib.hid (HR.out.below b1)
      rw [← HN.out]
      go_wp2_with fail
      refine (C2.out _ R1.out).mono ?_
      rintro e w2 ⟨rfl, rfl⟩
      go_wp2_with fail
      refine (C3.out _).mono ?_
      rintro e w3 ⟨rfl, b3⟩
      replace b3 := below_call b1 b3
      have q0 : w3.cell? ⟨g, o, none⟩ = some (.string a) := (b3.cell (by exact hg)).trans HQ.out
      have q1 : w3.cell? ⟨g, o + 1, none⟩ = some (.string b) := (b3.cell (by exact hg)).trans HQ1.out
      have b4 := b3.drew
      go_wp2_with fail
      go_region_held3 (fun w' => w'.cell? ⟨g, o, none⟩ = some (.string a) ∧ w'.cell? ⟨g, o + 1, none⟩ = some (.string b))
        (first
          | exact ⟨k3, k4⟩
          | exact ⟨q0, q1⟩)
        (first
          | (go_at_call 33
             with_reducible refine (C5.out _).mono ?_
             rintro e w9 ⟨rfl, b9⟩
             have k3 : w9.cell? ⟨g, o, none⟩ = some (.string a) := keep_cell b9 (by assumption)
             have k4 : w9.cell? ⟨g, o + 1, none⟩ = some (.string b) := keep_cell b9 (by assumption)
             have bb : Below w.heap.size w w9 := below_call (by assumption) b9))
      go_wp2_with fail
      refine (C4.out _).mono ?_
      rintro e w5 ⟨rfl, b5⟩
      replace b5 := below_call bb b5
      have hsz := b5.size
      go_wp2
      go_ret2
      exact ⟨b5.alloc hsz _, _, _, rfl, (reads_new2 w5 (.string d) (.string r) 9).more (by simp), fresh_at hsz⟩
end Go.Proofs.Ythckkmoafobmnaa
