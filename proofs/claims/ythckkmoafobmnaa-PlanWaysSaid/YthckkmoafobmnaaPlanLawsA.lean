/- The statements of layer 6, walked: PlanNeeds. -/
import Derived.Test.YthckkmoafobmnaaPlanAwake
import Derived.Deep.QuietTactic
import Derived.BigQuiet
namespace Go.Proofs.Ythckkmoafobmnaa
open Go.RowKit Go.ChangeShapes Go.WideShapes

/-- columns as numbers -/
theorem cols_of {N c0 o0 : Int} (n3 : 3 ≤ N) (n6 : N ≤ 6) : ∃ M col : Nat, N = (M : Int) ∧ pickI c0 (N - 1) = (col : Int) ∧ ColsOk M col (pickI o0 (N + 1) - 1) := by
  have h1 := pickI_in c0 (N - 1) (by omega)
  have h2 := pickI_in o0 (N + 1) (by omega)
  refine ⟨N.toNat, (pickI c0 (N - 1)).toNat, by omega, by omega, ?_⟩
  unfold ColsOk
  omega
theorem mem_snoc_bool {l : List Nat} {k x y : Nat} (h : l[k]? = some x) : (decide (y ∈ l.take (k + 1))) = (decide (y ∈ l.take k) || x == y) := by
  rw [List.take_add_one, h, Bool.eq_iff_iff]
  simp
  constructor
  · rintro (h | h)
    · exact Or.inl h
    · exact Or.inr h.symm
  · rintro (h | h)
    · exact Or.inl h
    · exact Or.inr h.symm

set_option maxRecDepth 100000 in
set_option maxHeartbeats 6400000 in
/-- PlanNeeds -/
theorem planNeeds_any (ra rb c0 o0 : Int) (w : World) (hra : (Lit.int .i64 ra).wf = true) (hrb : (Lit.int .i64 rb).wf = true) (hc : (Lit.int .i64 c0).wf = true) (ho : (Lit.int .i64 o0).wf = true) :
    Holds Try.prog 6 #[.agg #[.int .i64 ra, .int .i64 rb], .int .i64 c0, .int .i64 o0] w := by
  unfold Holds
  go_enter Try.func6, Try.ntmps6
  go_wp2_with fail
  refine (awake06 _).mono ?_
  rintro e w1 ⟨rfl, b1⟩
  have g1 := (Geo.boxed w ra rb 23).later b1
  replace b1 := below_boxed b1
  obtain ⟨_, k0, k1⟩ := g1
  go_wp2_with fail
  clear k0 k1
  refine (fit05 ra rb _ hra hrb).mono ?_
  rintro e w2 ⟨N, S, n3, n6, s1, s8, rfl, b2⟩
  replace b2 := below_call b1 b2
  have g3 := Geo.boxed w2 N S 23
  have b3 := b2.alloc b2.size (.cells #[.int .i64 N, .int .i64 S] 23)
  obtain ⟨M, col, rfl, hcol, hok⟩ := cols_of (c0 := c0) (o0 := o0) n3 n6
  have P1 := Lib.hid (fun w' => pick06 c0 ((M : Int) - 1) w' hc (by omega) (by omega))
  have P2 := Lib.hid (fun w' => pick06 o0 ((M : Int) + 1) w' ho (by omega) (by omega))
  obtain ⟨out, hout⟩ : ∃ out, pickI o0 ((M : Int) + 1) - 1 = out := ⟨_, rfl⟩
  rw [hout] at hok
  rw [show pickI o0 ((M : Int) + 1) = out + 1 by omega] at P2
  rw [hcol] at P1
  have HOK := Lib.hid hok
  have hout0 : -1 ≤ out := hok.2.2.2.1
  have hout1 : out < M := hok.2.2.2.2
  have hcol1 : (col : Int) < M - 1 := by have := hok.2.2.1; omega
  clear hcol hout hok b1 b2
  obtain ⟨a, ha⟩ : ∃ a, fetchR M col out = a := ⟨_, rfl⟩
  obtain ⟨fb, hfb⟩ : ∃ b, fetchB M col out = b := ⟨_, rfl⟩
  obtain ⟨q, hq⟩ : ∃ q, updR M col out = q := ⟨_, rfl⟩
  obtain ⟨u, hu⟩ : ∃ u, updW M col out = u := ⟨_, rfl⟩
  have C1 := Lib.hid (fun w' => plan_fetch_val M col S out w' HOK.out ⟨s1, s8⟩ a fb ha hfb M col rfl rfl)
  have C2 := Lib.hid (fun w' => plan_update_val M col S out w' HOK.out ⟨s1, s8⟩ q u hq hu M col rfl rfl)
  have f1 := fetchR_len HOK.out
  have f2 := updR_len HOK.out
  have f3 := fetchB_len M col out
  have f4 := updW_len M col out
  have f5 := updW_parity HOK.out
  have f6 := updW_own HOK.out
  rw [ha] at f1
  rw [hq] at f2
  rw [hfb] at f3
  rw [hu] at f4 f5 f6
  have F3 := Lib.hid f3
  have F5 := Lib.hid f5
  have F6 := Lib.hid f6
  have F7 : Hid (out ≠ col → a.length = 1) := fun h => by
    show a.length = 1
    rw [← ha, fetchR, if_neg h]
    rfl
  clear ha hfb hq hu f3 f5 f6
  have G3 := Lib.hid g3
  have B3 := Lib.hid b3
  clear b3
  obtain ⟨_, k0, k1⟩ := g3
  go_wp2_with fail
  refine (P1.out _).mono ?_
  rintro e w5 ⟨rfl, rfl⟩
  go_wp2_with fail
  refine (P2.out _).mono ?_
  rintro e w5 ⟨rfl, rfl⟩
  go_wp2_with fail
  clear k0 k1 P1 P2
  refine (C1.out _).mono ?_
  rintro e w5 ⟨b5, A1, c1, A2, c2, rfl, -, -, -, -⟩
  have g5 := G3.out.later b5
  have B5 := Lib.hid (below_call B3.out b5)
  have G5 := Lib.hid g5
  clear b5 G3 B3 C1
  obtain ⟨_, k0, k1⟩ := g5
  go_wp2_with fail
  clear k0 k1
  refine (C2.out _).mono ?_
  rintro e w6 ⟨b6, A3, c3, A4, c4, rfl, -, r4, -, -⟩
  have g6 := G5.out.later b6
  have B6 := Lib.hid (below_call B5.out b6)
  have R4 := Lib.hid r4
  clear b6 G5 B5 C2 r4
  obtain ⟨_, k0, k1⟩ := g6
  go_wp2
  go_loopw [15, 16, 17] (fun p o i wr => ∃ (k : Nat), k ≤ u.length ∧ i = .int .i64 k ∧ p = .bool (decide (M - 1 ∈ u.take k)) ∧ o = .bool (decide (col ∈ u.take k)) ∧ ∃ m, wr = w6.drewN m) (fun _ _ i _ => u.length - (intOf i).toNat)
  case atStart => exact ⟨0, Nat.zero_le _, rfl, by simp, by simp, 0, rfl⟩
  case round =>
    obtain ⟨k, hk, rfl, rfl, rfl, m, rfl⟩ := hrel
    by_cases hkn : k < u.length
    · have dk : decide ((k : Int) < u.length) = true := by simp; omega
      have kn : (k : Int) < u.length := by omega
      obtain ⟨g4, o4, x, rfl, hg4, hf4, x4⟩ := natV_at R4.out hkn
      have e1 := mem_snoc_bool (y := M - 1) hf4
      have e2 := mem_snoc_bool (y := col) hf4
      have e3 : (x == M - 1) = ((x : Int) == (M : Int) - 1) := by rw [Bool.eq_iff_iff]; simp; omega
      have e4 : (x == col) = ((x : Int) == (col : Int)) := by rw [Bool.eq_iff_iff]; simp; omega
      rw [e3] at e1
      rw [e4] at e2
      have E1 := Lib.hid e1
      have E2 := Lib.hid e2
      clear e1 e2 e3 e4 hf4
      generalize decide (M - 1 ∈ u.take k) = pb at *
      generalize decide (col ∈ u.take k) = ob at *
      cases pb <;> cases ob
      all_goals
        go_wp2
        go_quiet (fail)
        go_wp2
      all_goals
        go_roundw
        case rel => exact ⟨k + 1, by omega, by go_num, by first | (rw [E1.out]; rfl) | (rw [E1.out]; simp), by first | (rw [E2.out]; rfl) | (rw [E2.out]; simp), _, rfl⟩
        case measure => simp [intOf]; omega
    · obtain rfl : k = u.length := by omega
      have dk : decide ((u.length : Int) < u.length) = false := by simp
      have et : u.take u.length = u := List.take_of_length_le (Nat.le_refl _)
      obtain ⟨pb, hpb⟩ : ∃ pb, decide (M - 1 ∈ u.take u.length) = pb := ⟨_, rfl⟩
      obtain ⟨ob, hob⟩ : ∃ ob, decide (col ∈ u.take u.length) = ob := ⟨_, rfl⟩
      rw [hpb, hob]
      rw [et] at hpb hob
      have l1 : decide ((1 : Int) ≤ u.length) = true := by simp; omega
      have l2 : decide ((u.length : Int) ≤ 2) = true := by simp; omega
      have l3 : decide ((1 : Int) ≤ a.length) = true := by simp; omega
      have l4 : decide ((a.length : Int) < M) = true := by simp; omega
      have l5 : decide ((q.length : Int) < M) = true := by simp; omega
      have l1' : decide (1 ≤ u.length) = true := by simp; omega
      have l2' : decide (u.length ≤ 2) = true := by simp; omega
      have l3' : decide (1 ≤ a.length) = true := by simp; omega
      have l4' : decide (a.length < M) = true := by simp; omega
      have l5' : decide (q.length < M) = true := by simp; omega
      have B7 := Lib.hid (B6.out.trans (show Below w.heap.size w6 (w6.drewN m) from ⟨rfl, rfl, rfl, Nat.le_refl _, fun _ _ => rfl⟩))
      have hcase : (out = -1 ∧ pb = true ∧ ob = true ∧ a.length = 1 ∧ fb.length = 1) ∨ (out ≠ -1 ∧ fb.length = 0 ∧ ((out = (M : Int) - 1 ∧ out ≠ col ∧ pb = false ∧ ob = true) ∨ (out ≠ (M : Int) - 1 ∧ out = col ∧ pb = true ∧ ob = false) ∨ (out ≠ (M : Int) - 1 ∧ out ≠ col ∧ pb = true ∧ ob = true))) := by
        have h3 := F3.out
        have h5 := F5.out
        have h6 := F6.out
        have h7 := F7.out
        by_cases h : out = -1
        · refine Or.inl ⟨h, ?_, ?_, h7 (by omega), by rw [h3, if_pos h]⟩
          · rw [← hpb]; exact decide_eq_true (h5.2 (by omega))
          · rw [← hob]; exact decide_eq_true (h6.2 (by omega))
        · refine Or.inr ⟨h, by rw [h3, if_neg h], ?_⟩
          by_cases h1 : out = (M : Int) - 1
          · exact Or.inl ⟨h1, by omega, by rw [← hpb]; exact decide_eq_false (fun h => (h5.1 h) h1), by rw [← hob]; exact decide_eq_true (h6.2 (by omega))⟩
          · by_cases h2 : out = (col : Int)
            · exact Or.inr (Or.inl ⟨h1, h2, by rw [← hpb]; exact decide_eq_true (h5.2 h1), by rw [← hob]; exact decide_eq_false (fun h => (h6.1 h) h2)⟩)
            · exact Or.inr (Or.inr ⟨h1, h2, by rw [← hpb]; exact decide_eq_true (h5.2 h1), by rw [← hob]; exact decide_eq_true (h6.2 h2)⟩)
      clear hpb hob et F3 F5 F6 F7 R4 HOK B6
      rcases hcase with ⟨rfl, rfl, rfl, x1, x2⟩ | ⟨h, x2, ⟨h1, h2, rfl, rfl⟩ | ⟨h1, h2, rfl, rfl⟩ | ⟨h1, h2, rfl, rfl⟩⟩
      · have y0 : ((-1 : Int) == (M : Int) - 1) = false := by first | (simp; done) | (simp; omega)
        have y1 : ((-1 : Int) == (col : Int)) = false := by first | (simp; done) | (simp; omega)
        have y2 : ((-1 : Int) != (M : Int) - 1) = true := by first | (simp; done) | (simp; omega)
        have y3 : ((-1 : Int) != (col : Int)) = true := by first | (simp; done) | (simp; omega)
        go_wp2
        go_ret
        exact ⟨rfl, B7.out⟩
      · subst h1
        have y0 : (((M : Int) - 1 : Int) == (col : Int)) = false := by first | (simp; done) | (simp; omega)
        have y1 : (((M : Int) - 1 : Int) != (col : Int)) = true := by first | (simp; done) | (simp; omega)
        have y2 : (((M : Int) - 1 : Int) == -1) = false := by first | (simp; done) | (simp; omega)
        have y3 : (((M : Int) - 1 : Int) != -1) = true := by first | (simp; done) | (simp; omega)
        have y4 : (((M : Int) - 1 : Int) != (M : Int) - 1) = false := by first | (simp; done) | (simp; omega)
        go_wp2
        go_ret
        exact ⟨rfl, B7.out⟩
      · subst h2
        have y0 : (((col : Int) : Int) == (M : Int) - 1) = false := by first | (simp; done) | (simp; omega)
        have y1 : (((col : Int) : Int) != (M : Int) - 1) = true := by first | (simp; done) | (simp; omega)
        have y2 : (((col : Int) : Int) == -1) = false := by first | (simp; done) | (simp; omega)
        have y3 : (((col : Int) : Int) != -1) = true := by first | (simp; done) | (simp; omega)
        have y4 : (((col : Int) : Int) != (col : Int)) = false := by first | (simp; done) | (simp; omega)
        go_wp2
        go_ret
        exact ⟨rfl, B7.out⟩
      · have y0 : ((out : Int) == (M : Int) - 1) = false := by first | (simp; done) | (simp; omega)
        have y1 : ((out : Int) != (M : Int) - 1) = true := by first | (simp; done) | (simp; omega)
        have y2 : ((out : Int) == -1) = false := by first | (simp; done) | (simp; omega)
        have y3 : ((out : Int) != -1) = true := by first | (simp; done) | (simp; omega)
        have y4 : ((out : Int) == (col : Int)) = false := by first | (simp; done) | (simp; omega)
        have y5 : ((out : Int) != (col : Int)) = true := by first | (simp; done) | (simp; omega)
        go_wp2
        go_ret
        exact ⟨rfl, B7.out⟩
end Go.Proofs.Ythckkmoafobmnaa
