/- The statements of layer 5: walks, continued: all places. -/
import Derived.Test.YtnlphinhkdhaeaaPlatLawsD
namespace Go.Proofs.Ytnlphinhkdhaeaa
open Go.RowKit Go.ChangeShapes Go.WideShapes

theorem place_back {N k c base : Int} (n3 : 3 ≤ N) (n6 : N ≤ 6) (_k0 : 0 ≤ k) (c0 : 0 ≤ c) (c1 : c < N - 1) (hb : k * (N - 1) = base) : (base + c) / (N - 1) = k ∧ (base + c) % (N - 1) = c := by
  have hN : N = 3 ∨ N = 4 ∨ N = 5 ∨ N = 6 := by omega
  rcases hN with rfl | rfl | rfl | rfl <;> omega
theorem base_in {N S k base : Int} (n3 : 3 ≤ N) (n6 : N ≤ 6) (k0 : 0 ≤ k) (k1 : k < S) (s8 : S ≤ 8) (hb : k * (N - 1) = base) : 0 ≤ base ∧ base ≤ 35 ∧ base + (N - 1) ≤ S * (N - 1) ∧ (k + 1) * (N - 1) = base + (N - 1) := by
  have hN : N = 3 ∨ N = 4 ∨ N = 5 ∨ N = 6 := by omega
  rcases hN with rfl | rfl | rfl | rfl <;> omega
theorem all_is {N S : Int} (n3 : 3 ≤ N) (n6 : N ≤ 6) : S * (N - 1) + S = S * N := by
  have hN : N = 3 ∨ N = 4 ∨ N = 5 ∨ N = 6 := by omega
  rcases hN with rfl | rfl | rfl | rfl <;> omega

set_option maxRecDepth 100000 in
set_option maxHeartbeats 6400000 in
/-- PlatAll -/
theorem platAll_any (ra rb : Int) (w : World) (hra : (Lit.int .i64 ra).wf = true) (hrb : (Lit.int .i64 rb).wf = true) :
    Holds Try.prog 9 #[.agg #[.int .i64 ra, .int .i64 rb]] w := by
  unfold Holds
  go_enter Try.func9, Try.ntmps9
  go_wp2_with fail
  refine (awake05 _).mono ?_
  rintro e w1 ⟨rfl, b1⟩
  have g1 := (Geo.boxed w ra rb 23).later b1
  replace b1 := below_boxed b1
  obtain ⟨_, c0, c1⟩ := g1
  go_wp2_with fail
  clear c0 c1
  refine (fit05 ra rb _ hra hrb).mono ?_
  rintro e w2 ⟨N, S, n3, n6, s1, s8, rfl, b2⟩
  replace b2 := below_call b1 b2
  have g3 := Geo.boxed w2 N S 23
  have b3 := b2.alloc b2.size (.cells #[.int .i64 N, .int .i64 S] 23)
  have hN : (Lit.int .i64 N).wf = true := WalkArith.wf_i64 (by omega)
  have hS : (Lit.int .i64 S).wf = true := WalkArith.wf_i64 (by omega)
  have hr : rightB N S = true := (right_iff N S).2 ⟨n3, n6, s1, s8⟩
  have HN := Lib.hid hN
  have HS := Lib.hid hS
  have HR := Lib.hid hr
  have G3 := Lib.hid g3
  clear hN hS hr b1 b2
  obtain ⟨m, hm⟩ : ∃ m, N - 1 = m := ⟨_, rfl⟩
  obtain ⟨V, hV⟩ : ∃ V, S * (N - 1) = V := ⟨_, rfl⟩
  have mb := many_blocks n3 n6 s1 s8
  rw [hV] at mb
  have hal := all_is (S := S) n3 n6
  rw [hV] at hal
  have hC0 := fun w' => plat_blocks_val N S w' V (by rw [show blocksI N S = S * (N - 1) from if_pos HR.out, hV])
  have hC4 := fun w' => plat_parity_val N S w' m (by rw [show parityI N S = N - 1 from if_pos HR.out, hm])
  have hyes := fun (k c base : Int) (k0 : 0 ≤ k) (k1 : k < S) (c0 : 0 ≤ c) (c1 : c < m) (hb : k * (N - 1) = base) (w' : World) =>
    (show Calls Try.prog 14 #[.agg #[.int .i64 N, .int .i64 S], .int .i64 k, .int .i64 c] w' fun e w'' => e = .returned (.tuple #[.int .i64 (base + c), .bool true]) ∧ Below w'.heap.size w' w'' from by
      have hn := node_is (N := N) (S := S) (st := k) (c := c) ⟨HR.out, k0, k1, c0, by omega⟩
      have h1 : isB N S k c = true := by
        unfold isB
        rw [hn.1, show decide (c = N - 1) = false from decide_eq_false (by omega)]
        simp [hn.2.1]
      exact plat_block_val N S k c w' _ _ HN.out HS.out (WalkArith.wf_i64 (by omega)) (WalkArith.wf_i64 (by omega)) (by unfold numB; rw [if_pos h1, hb]) h1)
  have hno := fun (k c : Int) (k0 : 0 ≤ k) (k1 : k < S) (c1 : c = m) (w' : World) =>
    (show Calls Try.prog 14 #[.agg #[.int .i64 N, .int .i64 S], .int .i64 k, .int .i64 c] w' fun e w'' => e = .returned (.tuple #[.int .i64 0, .bool false]) ∧ Below w'.heap.size w' w'' from by
      have h1 : isB N S k c = false := by
        unfold isB
        rw [show decide (c = N - 1) = true from decide_eq_true (by omega)]
        simp
      exact plat_block_val N S k c w' _ _ HN.out HS.out (WalkArith.wf_i64 (by omega)) (WalkArith.wf_i64 (by omega)) (by unfold numB; rw [h1]; rfl) h1)
  have hof := fun (k c base : Int) (k0 : 0 ≤ k) (k1 : k < S) (c0 : 0 ≤ c) (c1 : c < m) (hb : k * (N - 1) = base) (w' : World) =>
    (show Calls Try.prog 12 #[.agg #[.int .i64 N, .int .i64 S], .int .i64 (base + c)] w' fun e w'' => e = .returned (.tuple #[.agg #[.int .i64 k, .int .i64 c, .int .i64 ((k + c) % N)], .int .i64 0]) ∧ Below w'.heap.size w' w'' from by
      have hb2 := base_in n3 n6 k0 k1 s8 hb
      have hp := place_back n3 n6 k0 c0 (by omega) hb
      refine plat_of_val N S (base + c) w' _ HN.out HS.out (WalkArith.wf_i64 (by omega)) ?_
      rw [ofV_yes (has_iff.2 ⟨HR.out, by omega, by omega⟩), hp.1, hp.2])
  have hnode := fun (k c : Int) (k0 : 0 ≤ k) (k1 : k < S) (c0 : 0 ≤ c) (c1 : c < m) (w' : World) =>
    plat_nodeOf_val N S k c w' ((k + c) % N) HN.out HS.out (WalkArith.wf_i64 (by omega)) (WalkArith.wf_i64 (by omega)) (if_pos ⟨HR.out, k0, k1, c0, by omega⟩)
  have hbase := fun (k base : Int) (k0 : 0 ≤ k) (k1 : k < S) (hb : k * (N - 1) = base) => base_in n3 n6 k0 k1 s8 hb
  rw [hm] at hyes hof hbase
  have hm2 : 2 ≤ m := by omega
  have hm5 : m ≤ 5 := by omega
  have hmN : N = m + 1 := by omega
  rw [hm] at hV
  have C0 := Lib.hid hC0
  have C4 := Lib.hid hC4
  have YES := Lib.hid hyes
  have NO := Lib.hid hno
  have OF := Lib.hid hof
  have NODE := Lib.hid hnode
  have BASE := Lib.hid hbase
  have HV := Lib.hid hV
  have HAL := Lib.hid hal
  have HMN := Lib.hid hmN
  obtain ⟨mb0, mb1⟩ := mb
  clear hC0 hC4 hyes hno hof hnode hbase hV hal hm hmN HN HS HR
  obtain ⟨_, c0, c1⟩ := g3
  go_wp2_with fail
  clear c0 c1
  generalize w2.alloc (.cells #[.int .i64 N, .int .i64 S] 23) = W at *
  generalize w2.heap.size = g at *
  go_loopw [5, 6] (fun v i wr => ∃ k q : Int, 0 ≤ k ∧ k ≤ S ∧ i = .int .i64 k ∧ v = .int .i64 q ∧ Hid (k * m = q) ∧ Geo wr g N S ∧ Below w.heap.size w wr) (fun _ i _ => (S - intOf i).toNat)
  case atStart => exact ⟨0, 0, by omega, by omega, rfl, rfl, Lib.hid (by simp), G3.out, b3⟩
  case round =>
    obtain ⟨k, base, kk0, kk1, rfl, rfl, HB, hg, hbr⟩ := hrel
    clear G3 b3
    have HG := Lib.hid hg
    obtain ⟨glt, c0, c1⟩ := hg
    by_cases hks : k < S
    · have dks : decide (k < S) = true := decide_eq_true hks
      obtain ⟨bs0, bs1, bs2, bs3⟩ := BASE.out k base kk0 hks HB.out
      have BS3 := Lib.hid bs3
      have BS2 := Lib.hid bs2
      clear bs2 bs3
      go_wp2_with fail
      clear c0 c1 glt
      go_loopw [5, 7] (fun v i wr2 => ∃ c q : Int, 0 ≤ c ∧ c ≤ N ∧ i = .int .i64 c ∧ v = .int .i64 q ∧ Hid (q = base + (if c < m then c else m)) ∧ Geo wr2 g N S ∧ Below w.heap.size w wr2) (fun _ i _ => (N - intOf i).toNat)
      case atStart => exact ⟨0, base, by omega, by omega, rfl, rfl, Lib.hid (by rw [if_pos (by omega)]; omega), HG.out, hbr⟩
      case round =>
        obtain ⟨c, q, cc0, cc1, rfl, rfl, HQ, hg2, hbr2⟩ := hrel
        clear HG hbr
        have HG2 := Lib.hid hg2
        obtain ⟨glt, c0, c1⟩ := hg2
        by_cases hcN : c < N
        · have dcN : decide (c < N) = true := decide_eq_true hcN
          by_cases hcm : c < m
          · have hq : q = base + c := by have := HQ.out; rw [if_pos hcm] at this; exact this
            subst hq
            have e1 : (c == m) = false := by simp only [beq_eq_false_iff_ne, ne_eq]; omega
            have e2 : (c != m) = true := by rw [bne, e1]; rfl
            have D1 := Lib.hid (YES.out k c base kk0 hks cc0 hcm HB.out)
            have D2 := Lib.hid (OF.out k c base kk0 hks cc0 hcm HB.out)
            have D3 := Lib.hid (NODE.out k c kk0 hks cc0 hcm)
            obtain ⟨x, hx⟩ : ∃ x, (k + c) % N = x := ⟨_, rfl⟩
            rw [hx] at D2 D3
            have HQ2 : Hid (base + c + 1 = base + (if c + 1 < m then c + 1 else m)) := Lib.hid (by
              by_cases h : c + 1 < m
              · rw [if_pos h]; omega
              · rw [if_neg h]; omega)
            clear hx HQ YES NO OF NODE BASE
            go_wp2_with fail
            clear c0 c1
            refine (D1.out _).mono ?_
            rintro e w4 ⟨rfl, b4⟩
            have g4 := HG2.out.later b4
            replace b4 := below_call hbr2 b4
            have G4 := Lib.hid g4
            obtain ⟨_, c0, c1⟩ := g4
            go_wp2_with fail
            clear c0 c1
            refine (C4.out _).mono ?_
            rintro e w5 ⟨rfl, b5⟩
            have g5 := G4.out.later b5
            replace b5 := below_call b4 b5
            have G5 := Lib.hid g5
            obtain ⟨_, c0, c1⟩ := g5
            go_wp2_with fail
            clear c0 c1
            refine (D2.out _).mono ?_
            rintro e w6 ⟨rfl, b6⟩
            have g6 := G5.out.later b6
            replace b6 := below_call b5 b6
            have p7 := Plc.boxed w6 k c x 26
            have g7 := g6.later ((Below.refl _ _).alloc (Nat.le_refl _) (.cells #[.int .i64 k, .int .i64 c, .int .i64 x] 26))
            have b7 := b6.alloc b6.size (.cells #[.int .i64 k, .int .i64 c, .int .i64 x] 26)
            obtain ⟨gl7, c0, c1⟩ := g7
            obtain ⟨_, p0, p1, p2⟩ := p7
            clear g6 G4 G5 b4 b5 b6
            go_wp2_with fail
            have b8 := b7.drew
            generalize w6.alloc (.cells #[.int .i64 k, .int .i64 c, .int .i64 x] 26) = W7 at *
            generalize w6.heap.size = h at *
            go_region_held3 (fun w' => w'.cell? ⟨g, 0, none⟩ = some (.int .i64 N) ∧ w'.cell? ⟨g, 1, none⟩ = some (.int .i64 S) ∧ w'.cell? ⟨h, 0, none⟩ = some (.int .i64 k) ∧ w'.cell? ⟨h, 1, none⟩ = some (.int .i64 c) ∧ w'.cell? ⟨h, 2, none⟩ = some (.int .i64 x))
              (first
                | exact ⟨by assumption, by assumption, by assumption, by assumption, by assumption⟩)
              (first
                | ((go_at_call 22; with_reducible refine (D3.out _).mono ?_); rintro e w19 ⟨rfl, b19⟩
                   have k0 : w19.cell? ⟨g, 0, none⟩ = some (.int .i64 N) := keep_cell b19 (by assumption)
                   have k1 : w19.cell? ⟨g, 1, none⟩ = some (.int .i64 S) := keep_cell b19 (by assumption)
                   have k2 : w19.cell? ⟨h, 0, none⟩ = some (.int .i64 k) := keep_cell b19 (by assumption)
                   have k3 : w19.cell? ⟨h, 1, none⟩ = some (.int .i64 c) := keep_cell b19 (by assumption)
                   have k4 : w19.cell? ⟨h, 2, none⟩ = some (.int .i64 x) := keep_cell b19 (by assumption)
                   have bb : Below w.heap.size w w19 := below_call (by assumption) b19
                   have gg : g < w19.heap.size := Nat.lt_of_lt_of_le (by assumption) b19.size))
            all_goals
              go_wp2
              go_roundw
              case rel => exact ⟨c + 1, base + c + 1, by omega, by omega, by first | rfl | go_num, by first | rfl | go_num, HQ2, ⟨by assumption, by assumption, by assumption⟩, by assumption⟩
              case measure => simp [intOf]; omega
          · have hcm2 : c = m := by have := HMN.out; omega
            have e1 : (c == m) = true := by simp [hcm2]
            have e2 : (c != m) = false := by rw [bne, e1]; rfl
            have D1 := Lib.hid (NO.out k c kk0 hks hcm2)
            have HQ2 : Hid (q = base + (if c + 1 < m then c + 1 else m)) := Lib.hid (by
              have := HQ.out
              rw [if_neg hcm] at this
              rw [if_neg (by omega), this])
            clear HQ YES NO OF NODE BASE hcm2
            go_wp2_with fail
            clear c0 c1
            refine (D1.out _).mono ?_
            rintro e w4 ⟨rfl, b4⟩
            have g4 := HG2.out.later b4
            replace b4 := below_call hbr2 b4
            have G4 := Lib.hid g4
            obtain ⟨_, c0, c1⟩ := g4
            go_wp2_with fail
            clear c0 c1
            refine (C4.out _).mono ?_
            rintro e w5 ⟨rfl, b5⟩
            have g5 := G4.out.later b5
            replace b5 := below_call b4 b5
            go_wp2
            go_roundw
            case rel => exact ⟨c + 1, q, by omega, by omega, by first | rfl | go_num, by first | rfl | go_num, HQ2, g5, b5⟩
            case measure => simp [intOf]; omega
        · have e : c = N := by omega
          subst e
          have dcN : decide (c < c) = false := by simp
          have HQ2 : Hid ((k + 1) * m = q) := Lib.hid (by
            have h1 := HQ.out
            have h2 := HMN.out
            rw [if_neg (by omega)] at h1
            rw [BS3.out, h1])
          clear HQ YES NO OF NODE BASE
          go_wp2
          go_roundw
          case rel => exact ⟨k + 1, q, by omega, by omega, by first | rfl | go_num, by first | rfl | go_num, HQ2, HG2.out, hbr2⟩
          case measure => simp [intOf]; omega
    · have e : k = S := by omega
      subst e
      have dks : decide (k < k) = false := by simp
      have hq : base = V := by rw [← HB.out, HV.out]
      subst hq
      have hkN : IntKind.i64.wrap (k * N) = k * N := by rw [IntKind.wrap_i64, ← HAL.out]; omega
      have HAL2 := HAL.out
      clear YES NO OF NODE BASE
      go_wp2_with fail
      clear c0 c1
      refine (C0.out _).mono ?_
      rintro e w4 ⟨rfl, b4⟩
      have g4 := HG.out.later b4
      replace b4 := below_call hbr b4
      obtain ⟨_, c0, c1⟩ := g4
      go_wp2
      go_ret
      exact ⟨by simp, b4⟩
end Go.Proofs.Ytnlphinhkdhaeaa
