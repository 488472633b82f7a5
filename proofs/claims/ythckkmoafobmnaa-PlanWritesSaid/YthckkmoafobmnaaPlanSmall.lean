/- Walks over package plan: right, others, whole, Fetch, Update. -/
import Derived.Test.YthckkmoafobmnaaPlanBase
namespace Go.Proofs.Ythckkmoafobmnaa
open Go.RowKit Go.ChangeShapes Go.WideShapes

theorem cols_right {N : Nat} {S : Int} (h3 : 3 ≤ N) (h6 : N ≤ 6) (hs : 1 ≤ S ∧ S ≤ 8) : rightB (N : Int) S = true := by
  simp [rightB]
  omega

set_option maxRecDepth 100000 in
set_option maxHeartbeats 800000 in
theorem plan_right (N col : Nat) (S out : Int) (w : World) (h : ColsOk N col out) (hs : 1 ≤ S ∧ S ≤ 8) :
    Calls Try.prog 53 #[.agg #[.int .i64 N, .int .i64 S], .int .i64 col, .int .i64 out] w fun e w' => e = .returned (.bool true) ∧ Below w.heap.size w w' := by
  obtain ⟨h3, h6, hc, h1, h2⟩ := h
  obtain ⟨m, hm⟩ : ∃ m : Int, (N : Int) - 1 = m := ⟨_, rfl⟩
  have C1 := Lib.hid (fun w' => plat_parity_is (N : Int) S w' m (parity_in (cols_right h3 h6 hs) hm))
  have d0 : decide ((0 : Int) ≤ (col : Int)) = true := by simp
  have d1 : decide ((col : Int) < m) = true := by simp; omega
  have d2 : decide (-1 ≤ out) = true := by simpa using h1
  have d3 : decide (out < (N : Int)) = true := by simpa using h2
  clear hm h3 h6 hc h1 h2
  go_enter Try.func53, Try.ntmps53
  go_wp2_with fail
  refine (C1.out _).mono ?_
  rintro e w1 ⟨rfl, b1⟩
  obtain ⟨_, c0, c1⟩ := (Geo.boxed w (N : Int) S 23).later b1
  replace b1 := below_boxed b1
  go_wp2
  go_ret
  exact ⟨rfl, b1⟩

theorem othersN_up (k c : Nat) : othersN (k + 1) c = if k = c then othersN k c else othersN k c ++ [k] := by
  by_cases h : k = c
  · rw [if_pos h]
    subst h
    simp [othersN, List.range_succ]
  · rw [if_neg h]
    simp [othersN, List.range_succ, h]
theorem othersN_le (k c : Nat) : (othersN k c).length ≤ k := by
  have h := List.length_filter_le (fun x => decide (x ≠ c)) (List.range k)
  rw [List.length_range] at h
  exact h
theorem info_int : (Try.prog.info? 3).map (fun i => (i.zero, i.size, i.bytes)) = some (some (.int .i64 0), 1, 8) := by kernel_rfl
theorem natV_one (l : List Nat) : ∀ u ∈ l.map natV, u.oneCell' = true := by
  intro u hu
  obtain ⟨n, _, rfl⟩ := List.mem_map.1 hu
  rfl

set_option maxRecDepth 100000 in
set_option maxHeartbeats 1600000 in
theorem plan_others (m c : Nat) (w : World) (hm : m ≤ 6) :
    Calls Try.prog 54 #[.int .i64 m, .int .i64 c] w fun e w' => ∃ A' c', e = .returned (.slice A' (othersN m c).length c') ∧ Own w' w.heap.size 3 A' (othersN m c).length c' ((othersN m c).map natV) ∧ Below w.heap.size w w' := by
  go_enter Try.func54, Try.ntmps54
  go_wp2
  go_loopw [5, 6, 8] (fun v x i wr => ∃ (k : Nat) (A' : Option Addr) (c' : Nat), k ≤ m ∧ i = .int .i64 k ∧ v = .slice A' (othersN k c).length c' ∧ Own wr w.heap.size 3 A' (othersN k c).length c' ((othersN k c).map natV) ∧ Below w.heap.size w wr) (fun _ _ i _ => m - (intOf i).toNat)
  case atStart => exact ⟨0, none, 0, Nat.zero_le _, rfl, rfl, Own.nil _ _ _, Below.refl _ _⟩
  case round =>
    obtain ⟨k, A', c', hk, rfl, rfl, hown, hbr⟩ := hrel
    have hup := othersN_up k c
    have hle := othersN_le k c
    have HOWN := Lib.hid hown
    have HBR := Lib.hid hbr
    clear hown hbr
    by_cases hkm : k < m
    · have dk : decide ((k : Int) < m) = true := by simp; omega
      by_cases hkc : k = c
      · have dc : ((k : Int) == (c : Int)) = true := by simp; omega
        have dn : decide (k = c) = true := by simpa using hkc
        rw [if_pos hkc] at hup
        have HUP := Lib.hid hup
        clear hup hle
        go_wp2
        go_roundw
        case rel => exact ⟨k + 1, A', c', by omega, by go_num, by rw [HUP.out], by rw [HUP.out]; exact HOWN.out, HBR.out⟩
        case measure => simp [intOf]; omega
      · have dc : ((k : Int) == (c : Int)) = false := by simp; omega
        have dn : decide (k = c) = false := by simpa using hkc
        rw [if_neg hkc] at hup
        have HUP := Lib.hid hup
        obtain ⟨L, hL⟩ : ∃ L, (othersN k c).length = L := ⟨_, rfl⟩
        rw [hL] at hle
        have HL := Lib.hid hL
        have HO2 := Lib.hid (show Own wr w.heap.size 3 A' L c' ((othersN k c).map natV) from hL ▸ HOWN.out)
        rw [hL]
        clear hup hL HOWN
        go_wp2_with (at_builtin; refine wpList_app (N := L + 1) 29 3 8 (.int .i64 0) rfl _ _ rfl Try.underlying29 info_int rfl rfl (HO2.out.later ((Below.refl _ _).alloc (Nat.le_refl _) _)) rfl (reads_lit _ [.int .i64 k] _ 1 rfl) (natV_one [k]) rfl (by unfold maxLen; omega) (by omega) (by have := HBR.out.size; simp; omega) ?_; intro A2 c3 w3 hown3 hgr3 hbd3)
        go_roundw
        case rel => exact ⟨k + 1, A2, c3, by omega, by go_num, by rw [HUP.out, List.length_append, HL.out]; rfl, by
          rw [HUP.out, List.map_append, List.length_append, HL.out]
          exact hown3, (HBR.out.alloc HBR.out.size _).trans hbd3⟩
        case measure => simp [intOf]; omega
    · obtain rfl : k = m := by omega
      have dk : decide ((k : Int) < k) = false := by simp
      go_wp2
      go_ret
      exact ⟨A', c', rfl, HOWN.out, HBR.out⟩

set_option maxRecDepth 100000 in
set_option maxHeartbeats 1600000 in
theorem plan_whole (A : Option Addr) (n c B : Nat) (ss : List ByteArray) (w : World) (hr : Reads w B A n (ss.map .string)) (hz : ∀ s ∈ ss, s.size = 16) (hn : n ≤ 100) :
    Calls Try.prog 55 #[.slice A n c] w fun e w' => e = .returned (.bool true) ∧ w' = w := by
  have HR := Lib.hid hr
  have HZ := Lib.hid hz
  clear hr hz
  go_enter Try.func55, Try.ntmps55
  go_wp2
  go_loopw [4, 7] (fun s i wr => ∃ (k : Nat), k ≤ n ∧ i = .int .i64 k ∧ wr = w) (fun _ i _ => n - (intOf i).toNat)
  case atStart => exact ⟨0, Nat.zero_le _, rfl, rfl⟩
  case round =>
    obtain ⟨k, hk, rfl, rfl⟩ := hrel
    by_cases hkn : k < n
    · have dk : decide ((k : Int) < n) = true := by simp; omega
      have kn : (k : Int) < n := by omega
      obtain ⟨g1, o1, u, rfl, hg1, hf1, c1⟩ := HR.out.at_ hkn
      rw [List.getElem?_map] at hf1
      obtain ⟨x, hx, rfl⟩ := Option.map_eq_some_iff.1 hf1
      have hxs : x.size = 16 := HZ.out x (List.mem_of_getElem? hx)
      have dx : ((x.size : Int) == 16) = true := by simp; omega
      have dx2 : (x.size == 16) = true := by simp; omega
      have HXS := Lib.hid hxs
      clear hx hf1 hxs
      go_wp2
      go_roundw
      case rel => exact ⟨k + 1, by omega, by go_num, trivial⟩
      case measure => simp [intOf]; omega
    · have dk : decide ((k : Int) < n) = false := by simp; omega
      go_wp2
      go_ret
      exact ⟨rfl, rfl⟩

theorem fresh_none (B : Nat) : Fresh B none := fun b o h => by cases h
theorem fresh_at {B g : Nat} (h : B ≤ g) : Fresh B (some ⟨g, 0, none⟩) := fun b o e => by
  cases e
  exact h
theorem fresh_own {w : World} {B : Nat} {e : TypeId} {A : Option Addr} {n c : Nat} {xs : List Value} (h : Own w B e A n c xs) : Fresh B A := by
  intro b o hA
  obtain ⟨g, hg⟩ := own_head h hA
  obtain ⟨rfl, rfl, _⟩ := Addr.mk.inj hg
  exact (h.lt b hA).2
theorem fresh_later {B B' : Nat} {A : Option Addr} (h : Fresh B' A) (hB : B ≤ B') : Fresh B A := fun b o e => Nat.le_trans hB (h b o e)
theorem reads_new1 (w : World) (x : Value) (t : TypeId) : Reads (w.alloc (.cells #[x] t)) (w.heap.size + 1) (some ⟨w.heap.size, 0, none⟩) 1 [x] := reads_lit w [x] t 1 rfl
theorem reads_new2 (w : World) (x y : Value) (t : TypeId) : Reads (w.alloc (.cells #[x, y] t)) (w.heap.size + 1) (some ⟨w.heap.size, 0, none⟩) 2 [x, y] := reads_lit w [x, y] t 2 rfl
theorem reads_lists (w : World) (xs ys : List Value) (t : TypeId) (n k : Nat) (hx : xs.length = n) (hy : ys.length = k) :
    Reads ((w.alloc (.cells xs.toArray t)).alloc (.cells ys.toArray t)) ((w.alloc (.cells xs.toArray t)).alloc (.cells ys.toArray t)).heap.size (some ⟨w.heap.size, 0, none⟩) n xs ∧
    Reads ((w.alloc (.cells xs.toArray t)).alloc (.cells ys.toArray t)) ((w.alloc (.cells xs.toArray t)).alloc (.cells ys.toArray t)).heap.size (some ⟨w.heap.size + 1, 0, none⟩) k ys := by
  have h1 : (w.alloc (.cells xs.toArray t)).heap.size = w.heap.size + 1 := by simp
  have h2 : ((w.alloc (.cells xs.toArray t)).alloc (.cells ys.toArray t)).heap.size = w.heap.size + 2 := by simp
  refine ⟨((reads_lit w xs t n hx).alloc (by omega) _).more (by omega), ?_⟩
  have := reads_lit (w.alloc (.cells xs.toArray t)) ys t k hy
  rw [h1] at this
  exact this.more (by omega)

set_option maxRecDepth 100000 in
set_option maxHeartbeats 1600000 in
theorem plan_fetch (N col : Nat) (S out : Int) (w : World) (h : ColsOk N col out) (hs : 1 ≤ S ∧ S ≤ 8) :
    Calls Try.prog 17 #[.agg #[.int .i64 N, .int .i64 S], .int .i64 col, .int .i64 out] w fun e w' => Below w.heap.size w w' ∧ TwoLists w.heap.size e w' (fetchR N col out) (fetchB N col out) := by
  have C1 := Lib.hid (fun w' => plan_right N col S out w' h hs)
  have C2 := Lib.hid (fun w' => plan_others N col w' h.2.1)
  have hcm : (col + 1) % N = col + 1 := Nat.mod_eq_of_lt (by have := h.2.2.1; omega)
  obtain ⟨h3, h6, hc, h1, h2⟩ := h
  by_cases hoc : out = col
  · subst hoc
    rw [show fetchR N col (col : Int) = othersN N col from if_pos rfl, show fetchB N col (col : Int) = [] from if_neg (by omega)]
    clear h1 h2 hs
    go_enter Try.func17, Try.ntmps17
    go_wp2_with fail
    refine (C1.out _).mono ?_
    rintro e w1 ⟨rfl, b1⟩
    obtain ⟨_, c0, c1⟩ := (Geo.boxed w (N : Int) S 23).later b1
    replace b1 := below_boxed b1
    go_wp2_with fail
    refine (C2.out _).mono ?_
    rintro e w2 ⟨A2, c2, rfl, o2, b2⟩
    replace b2 := below_call b1 b2
    have O2 := Lib.hid o2
    have hsz := b1.size
    clear o2
    go_wp2
    go_ret3
    exact ⟨b2, A2, c2, none, 0, rfl, O2.out.reads, Reads.none_ _ _ _, fresh_later (fresh_own O2.out) hsz, fresh_none _⟩
  · have d1 : (out == (col : Int)) = false := by simpa using hoc
    rw [show fetchR N col out = [col] from if_neg hoc]
    by_cases ho1 : out = -1
    · subst ho1
      rw [show fetchB N col (-1) = [col + 1] by rw [← hcm]; exact if_pos rfl]
      clear h1 h2 hs hoc hcm
      go_enter Try.func17, Try.ntmps17
      go_wp2_with fail
      refine (C1.out _).mono ?_
      rintro e w1 ⟨rfl, b1⟩
      replace b1 := below_boxed b1
      have hsz := b1.size
      go_wp2
      go_ret3
      exact ⟨(b1.alloc hsz _).alloc (by simp; omega) _, _, _, _, _, rfl, (reads_lists w1 [natV col] [natV (col + 1)] 3 1 1 rfl rfl).1, (reads_lists w1 [natV col] [natV (col + 1)] 3 1 1 rfl rfl).2, fresh_at hsz, fresh_at (by omega)⟩
    · have d2 : (out == -1) = false := by simpa using ho1
      rw [show fetchB N col out = [] from if_neg ho1]
      clear h1 h2 hs hcm
      go_enter Try.func17, Try.ntmps17
      go_wp2_with fail
      refine (C1.out _).mono ?_
      rintro e w1 ⟨rfl, b1⟩
      replace b1 := below_boxed b1
      have hsz := b1.size
      go_wp2
      go_ret3
      exact ⟨b1.alloc hsz _, _, _, none, 0, rfl, (reads_new1 w1 (natV col) 3).more (by simp), Reads.none_ _ _ _, fresh_at hsz, fresh_none _⟩

set_option maxRecDepth 100000 in
set_option maxHeartbeats 1600000 in
theorem plan_update (N col : Nat) (S out : Int) (w : World) (h : ColsOk N col out) (hs : 1 ≤ S ∧ S ≤ 8) :
    Calls Try.prog 21 #[.agg #[.int .i64 N, .int .i64 S], .int .i64 col, .int .i64 out] w fun e w' => Below w.heap.size w w' ∧ TwoLists w.heap.size e w' (updR N col out) (updW N col out) := by
  obtain ⟨m, hm⟩ : ∃ m, N = m + 1 := ⟨N - 1, by have := h.1; omega⟩
  subst hm
  have C1 := Lib.hid (fun w' => plan_right (m + 1) col S out w' h hs)
  have C2 := Lib.hid (fun w' => plan_others m col w' (by have := h.2.1; omega))
  have C3 := Lib.hid (fun w' => plat_parity_is ((m + 1 : Nat) : Int) S w' (m : Int) (parity_in (cols_right h.1 h.2.1 hs) (by omega)))
  obtain ⟨h3, h6, hc, h1, h2⟩ := h
  have em : ((m + 1 : Nat) : Int) - 1 = m := by omega
  obtain ⟨M, hM⟩ : ∃ M : Int, ((m + 1 : Nat) : Int) = M := ⟨_, rfl⟩
  rw [hM] at C1 C3 ⊢
  by_cases hom : out = m
  · subst hom
    rw [show updR (m + 1) col (m : Int) = [] from if_pos em.symm, show updW (m + 1) col (m : Int) = [col] from if_pos em.symm]
    clear h1 h2 hs em hM
    go_enter Try.func21, Try.ntmps21
    go_wp2_with fail
    refine (C3.out _).mono ?_
    rintro e w1 ⟨rfl, b1⟩
    obtain ⟨_, c0, c1⟩ := (Geo.boxed w M S 23).later b1
    replace b1 := below_boxed b1
    go_wp2_with fail
    refine (C1.out _).mono ?_
    rintro e w2 ⟨rfl, b2⟩
    replace b2 := below_call b1 b2
    have hsz := b2.size
    go_wp2
    go_ret3
    exact ⟨b2.alloc hsz _, none, 0, _, _, rfl, Reads.none_ _ _ _, (reads_new1 w2 (natV col) 3).more (by simp), fresh_none _, fresh_at hsz⟩
  · have d1 : (out == (m : Int)) = false := by simpa using hom
    have hm1 : ¬ out = ((m + 1 : Nat) : Int) - 1 := by rw [em]; exact hom
    by_cases hoc : out = col
    · subst hoc
      rw [show updR (m + 1) col (col : Int) = othersN m col by rw [updR, if_neg hm1, if_pos rfl]; rfl, show updW (m + 1) col (col : Int) = [m] by rw [updW, if_neg hm1, if_pos rfl]; rfl]
      have dn : decide (col = m) = false := by simp; omega
      clear h1 h2 hs em hM hm1
      go_enter Try.func21, Try.ntmps21
      go_wp2_with fail
      refine (C3.out _).mono ?_
      rintro e w1 ⟨rfl, b1⟩
      obtain ⟨_, c0, c1⟩ := (Geo.boxed w M S 23).later b1
      replace b1 := below_boxed b1
      go_wp2_with fail
      refine (C1.out _).mono ?_
      rintro e w2 ⟨rfl, b2⟩
      replace b2 := below_call b1 b2
      go_wp2_with fail
      refine (C2.out _).mono ?_
      rintro e w3 ⟨A3, c3, rfl, o3, b3⟩
      have O3 := Lib.hid (o3.reads)
      have F3 := Lib.hid (fresh_later (fresh_own o3) b2.size)
      replace b3 := below_call b2 b3
      have hsz := b3.size
      clear o3
      go_wp2
      go_ret3
      exact ⟨b3.alloc hsz _, A3, c3, _, _, rfl, (O3.out.alloc (Nat.le_refl _) _).more (by simp), (reads_new1 w3 (natV m) 3).more (by simp), F3.out, fresh_at hsz⟩
    · have d2 : (out == (col : Int)) = false := by simpa using hoc
      rw [show updR (m + 1) col out = [col, m] by rw [updR, if_neg hm1, if_neg hoc]; rfl, show updW (m + 1) col out = [col, m] by rw [updW, if_neg hm1, if_neg hoc]; rfl]
      clear h1 h2 hs em hM hm1
      go_enter Try.func21, Try.ntmps21
      go_wp2_with fail
      refine (C3.out _).mono ?_
      rintro e w1 ⟨rfl, b1⟩
      obtain ⟨_, c0, c1⟩ := (Geo.boxed w M S 23).later b1
      replace b1 := below_boxed b1
      go_wp2_with fail
      refine (C1.out _).mono ?_
      rintro e w2 ⟨rfl, b2⟩
      replace b2 := below_call b1 b2
      have hsz := b2.size
      go_wp2
      go_ret3
      exact ⟨(b2.alloc hsz _).alloc (by simp; omega) _, _, _, _, _, rfl, (reads_lists w2 [natV col, natV m] [natV col, natV m] 3 2 2 rfl rfl).1, (reads_lists w2 [natV col, natV m] [natV col, natV m] 3 2 2 rfl rfl).2, fresh_at hsz, fresh_at (by omega)⟩
end Go.Proofs.Ythckkmoafobmnaa
