/- The statements of layer 4: walks, continued: what begins, and what goes on behind. -/
import Derived.Test.YtlefchholkkkfaaFrameLaws
namespace Go.Proofs.Ytlefchholkkkfaa
open Go.RowKit Go.ChangeShapes Go.WideShapes

theorem min_is (B : Int) (b : Nat) (hB : B = b) (n : Nat) : ∃ N : Nat, (if B < n then B else (n : Int)) = N ∧ N ≤ n ∧ N ≤ b := by
  subst hB
  by_cases h : (b : Int) < n
  · exact ⟨b, by rw [if_pos h], by omega, Nat.le_refl _⟩
  · exact ⟨n, by rw [if_neg h], Nat.le_refl _, by omega⟩
theorem cut_size (s : ByteArray) (n : Nat) (h : n ≤ s.size) : (s.extract 0 n).size = n := by simp; omega
theorem bs_first (s : ByteArray) (n : Nat) : bsOf (s.extract 0 n) = (bsOf s).take n := by simp [bsOf]

set_option maxRecDepth 100000 in
set_option maxHeartbeats 1600000 in
/-- FrameWhole -/
theorem frameWhole_any (p : ByteArray) (cut : Int) (more : ByteArray) (w : World) (hp : p.size ≤ 140737488351232) (hc : (Lit.int .i64 cut).wf = true) (hm : more.size ≤ 140737488351232) :
    Holds Try.prog 6 #[.string p, .int .i64 cut, .string more] w := by
  obtain ⟨N, hN, hN1, hN2⟩ := min_is 800 800 rfl p.size
  have hN0 : (0 : Int) ≤ N := by omega
  have hN3 : (N : Int) ≤ p.size := by omega
  obtain ⟨q, hq⟩ : ∃ q, p.extract 0 N = q := ⟨_, rfl⟩
  have hqs : q.size = N := by rw [← hq]; exact cut_size p N hN1
  obtain ⟨S, hS⟩ : ∃ S, (⟨(frameL (bsOf q)).toArray⟩ : ByteArray) = S := ⟨_, rfl⟩
  have hSs : S.size = N + 7 := by rw [frame_size q S hS, hqs]
  have hSb := frame_bytes q S hS
  have hql : (bsOf q).length ≤ 800 := by show q.size ≤ 800; omega
  have C1 := Lib.hid (fun w' => frame_laid q w' S (by omega) hS)
  have HC := Lib.hid hc
  have h7 : decide ((S.size : Int) < 7) = false := by simp; omega
  have hcat : (S ++ more).size ≤ 1125899906842624 := by rw [size_cat]; omega
  have hcut := fun k (hk : k < S.size) => (show openO (bsOf (S.extract 0 k)) = none by
    rw [bs_first, hSb]
    exact frame_cut _ hql k (by show k < q.size + 7; omega))
  have hmore : ∃ o : Option (List UInt8), openO (bsOf (S ++ more)) = o ∧ ((codeO 40 o : Int) == 0) = (more.toList == (⟨#[]⟩ : ByteArray).toList) := by
    refine ⟨_, rfl, ?_⟩
    rw [bs_cat, hSb, text_same]
    by_cases h : bsOf more = []
    · rw [h, List.append_nil, open_frame _ hql]
      simp [codeO]
    · rw [frame_more _ _ hql h]
      have : ¬ bsOf more = bsOf ⟨#[]⟩ := h
      simp [codeO, this]
  obtain ⟨o, ho, hoe⟩ := hmore
  obtain ⟨T, hT⟩ : ∃ T, textO o = T := ⟨_, rfl⟩
  obtain ⟨E, hE⟩ : ∃ E, codeO 40 o = E := ⟨_, rfl⟩
  rw [hE] at hoe
  have C3 := Lib.hid (fun w' => frame_open_val (S ++ more) w' o T E hcat ho hT hE)
  have HCUT := Lib.hid hcut
  have HOE := Lib.hid hoe
  have hmb : S.size + more.size ≤ 140737488355328 := by omega
  clear hS hSb hql hc hcat hcut ho hT hE hoe hp hm hqs
  have b0 := Below.refl w.heap.size w
  unfold Holds
  go_enter Try.func6, Try.ntmps6
  go_wp2_with fail
  refine (awake04 _).mono ?_
  rintro e w1 ⟨rfl, b1⟩
  go_wp2_with fail
  refine (C1.out _).mono ?_
  rintro e w2 ⟨rfl, b2⟩
  replace b2 := below_call b1 b2
  clear C1
  go_wp2_with fail
  refine (pick04 cut _ _ HC.out (by omega) (by omega)).mono ?_
  rintro e w3 ⟨k, hk, rfl, rfl⟩
  have k0 : (0 : Int) ≤ k := by omega
  have k1 : (k : Int) ≤ S.size := by omega
  have C2 := Lib.hid (fun w' => frame_open_val (S.extract 0 k) w' none ⟨#[]⟩ 40 (by rw [cut_size _ _ (by omega)]; omega) (HCUT.out k (by omega)) rfl rfl)
  go_wp2_with fail
  refine (C2.out _).mono ?_
  rintro e w4 ⟨rfl, b4⟩
  replace b4 := below_call b2 b4
  go_wp2_with fail
  refine (C3.out _).mono ?_
  rintro e w5 ⟨rfl, b5⟩
  replace b5 := below_call b4 b5
  have x1 := HOE.out
  clear C2 C3 HCUT HOE
  go_wp2
  go_ret
  exact ⟨rfl, b5⟩

set_option maxRecDepth 100000 in
set_option maxHeartbeats 1600000 in
/-- FrameTwo -/
theorem frameTwo_any (p r : ByteArray) (w : World) (hp : p.size ≤ 140737488351232) (hr : r.size ≤ 140737488351232) :
    Holds Try.prog 8 #[.string p, .string r] w := by
  obtain ⟨N, hN, hN1, hN2⟩ := min_is 300 300 rfl p.size
  obtain ⟨M, hM, hM1, hM2⟩ := min_is 300 300 rfl r.size
  have hN0 : (0 : Int) ≤ N := by omega
  have hN3 : (N : Int) ≤ p.size := by omega
  have hM0 : (0 : Int) ≤ M := by omega
  have hM3 : (M : Int) ≤ r.size := by omega
  obtain ⟨q, hq⟩ : ∃ q, p.extract 0 N = q := ⟨_, rfl⟩
  obtain ⟨u, hu⟩ : ∃ u, r.extract 0 M = u := ⟨_, rfl⟩
  have hqs : q.size = N := by rw [← hq]; exact cut_size p N hN1
  have hus : u.size = M := by rw [← hu]; exact cut_size r M hM1
  obtain ⟨S, hS⟩ : ∃ S, (⟨(frameL (bsOf q)).toArray⟩ : ByteArray) = S := ⟨_, rfl⟩
  obtain ⟨T, hT⟩ : ∃ T, (⟨(frameL (bsOf u)).toArray⟩ : ByteArray) = T := ⟨_, rfl⟩
  have hSs : S.size ≤ 307 := by rw [frame_size q S hS, hqs]; omega
  have hTs : T.size ≤ 307 := by rw [frame_size u T hT, hus]; omega
  have hql : (bsOf q).length ≤ 800 := by show q.size ≤ 800; omega
  have hul : (bsOf u).length ≤ 800 := by show u.size ≤ 800; omega
  have full : ∀ x : List UInt8, frameL x ≠ [] := fun x h => by
    have := frameL_length x
    rw [h] at this
    simp at this
  have C1 := Lib.hid (fun w' => frame_laid q w' S (by omega) hS)
  have C2 := Lib.hid (fun w' => frame_laid u w' T (by omega) hT)
  have C3 := Lib.hid (fun w' => frame_open_val (S ++ T) w' none ⟨#[]⟩ 40 (by rw [size_cat]; omega) (by rw [bs_cat, frame_bytes q S hS, frame_bytes u T hT]; exact frame_more _ _ hql (full _)) rfl rfl)
  have C4 := Lib.hid (fun w' => frame_open_val (T ++ S) w' none ⟨#[]⟩ 40 (by rw [size_cat]; omega) (by rw [bs_cat, frame_bytes q S hS, frame_bytes u T hT]; exact frame_more _ _ hul (full _)) rfl rfl)
  clear hS hT hql hul full hp hr hqs hus
  have b0 := Below.refl w.heap.size w
  unfold Holds
  go_enter Try.func8, Try.ntmps8
  go_wp2_with fail
  refine (awake04 _).mono ?_
  rintro e w1 ⟨rfl, b1⟩
  go_wp2_with fail
  refine (C1.out _).mono ?_
  rintro e w2 ⟨rfl, b2⟩
  replace b2 := below_call b1 b2
  go_wp2_with fail
  refine (C2.out _).mono ?_
  rintro e w3 ⟨rfl, b3⟩
  replace b3 := below_call b2 b3
  go_wp2_with fail
  refine (C3.out _).mono ?_
  rintro e w4 ⟨rfl, b4⟩
  replace b4 := below_call b3 b4
  go_wp2_with fail
  refine (C4.out _).mono ?_
  rintro e w5 ⟨rfl, b5⟩
  replace b5 := below_call b4 b5
  go_wp2
  go_ret
  exact ⟨rfl, b5⟩

set_option maxRecDepth 100000 in
set_option maxHeartbeats 1600000 in
/-- FrameBack -/
theorem frameBack_any (p r : ByteArray) (w : World) (hp : p.size ≤ 140737488351232) (hr : r.size ≤ 140737488351232) :
    Holds Try.prog 4 #[.string p, .string r] w := by
  obtain ⟨N, hN, hN1, hN2⟩ := min_is 800 800 rfl p.size
  obtain ⟨M, hM, hM1, hM2⟩ := min_is 800 800 rfl r.size
  have hN0 : (0 : Int) ≤ N := by omega
  have hN3 : (N : Int) ≤ p.size := by omega
  have hM0 : (0 : Int) ≤ M := by omega
  have hM3 : (M : Int) ≤ r.size := by omega
  obtain ⟨q, hq⟩ : ∃ q, p.extract 0 N = q := ⟨_, rfl⟩
  obtain ⟨u, hu⟩ : ∃ u, r.extract 0 M = u := ⟨_, rfl⟩
  have hqs : q.size = N := by rw [← hq]; exact cut_size p N hN1
  have hus : u.size = M := by rw [← hu]; exact cut_size r M hM1
  obtain ⟨S, hS⟩ : ∃ S, (⟨(frameL (bsOf q)).toArray⟩ : ByteArray) = S := ⟨_, rfl⟩
  obtain ⟨T, hT⟩ : ∃ T, (⟨(frameL (bsOf u)).toArray⟩ : ByteArray) = T := ⟨_, rfl⟩
  have hSs : S.size = q.size + 7 := frame_size q S hS
  have hTs : T.size = u.size + 7 := frame_size u T hT
  have hql : (bsOf q).length ≤ 800 := by show q.size ≤ 800; omega
  have hul : (bsOf u).length ≤ 800 := by show u.size ≤ 800; omega
  have C1 := Lib.hid (fun w' => frame_laid q w' S (by omega) hS)
  have C2 := Lib.hid (fun w' => frame_laid u w' T (by omega) hT)
  have C3 := Lib.hid (fun w' => frame_open_val S w' (some (bsOf q)) q 0 (by omega) (by rw [frame_bytes q S hS]; exact open_frame _ hql) rfl rfl)
  obtain ⟨n, hn, hn0, hn1, hn2, hn3⟩ : ∃ n : Nat, (if (T.size : Int) < S.size then (T.size : Int) else (S.size : Int)) = n ∧ (if T.size < S.size then (T.size : Int) else (S.size : Int)) = n ∧ n = min S.size T.size ∧ n ≤ S.size ∧ n ≤ T.size := by
    by_cases h : T.size < S.size
    · exact ⟨T.size, by rw [if_pos (by omega)], by rw [if_pos h], by omega, by omega, by omega⟩
    · exact ⟨S.size, by rw [if_neg (by omega)], by rw [if_neg h], by omega, by omega, by omega⟩
  have hn7 : 7 ≤ n := by omega
  obtain ⟨d, hd⟩ : ∃ d : Bool, (q.toList == u.toList) = d := ⟨_, rfl⟩
  have hd2 : ((S.extract 0 n).toList == (T.extract 0 n).toList) = d := by
    rw [← hd, text_same, text_same, bs_first, bs_first, frame_bytes q S hS, frame_bytes u T hT, hn1, hSs, hTs]
    exact decide_eq_decide.2 (frames_begin _ _ hql hul)
  have h7 : decide ((7 : Int) ≤ n) = true := by simp; omega
  have h72 : decide (7 ≤ n) = true := by simp; omega
  have n0 : (0 : Int) ≤ n := by omega
  have n1 : (n : Int) ≤ S.size := by omega
  have n2 : (n : Int) ≤ T.size := by omega
  clear hS hT hql hul hp hr hqs hus hSs hTs hn1
  have b0 := Below.refl w.heap.size w
  unfold Holds
  go_enter Try.func4, Try.ntmps4
  go_wp2_with fail
  refine (awake04 _).mono ?_
  rintro e w1 ⟨rfl, b1⟩
  go_wp2_with fail
  refine (C1.out _).mono ?_
  rintro e w2 ⟨rfl, b2⟩
  replace b2 := below_call b1 b2
  go_wp2_with fail
  refine (C2.out _).mono ?_
  rintro e w3 ⟨rfl, b3⟩
  replace b3 := below_call b2 b3
  go_wp2_with fail
  refine (C3.out _).mono ?_
  rintro e w4 ⟨rfl, b4⟩
  replace b4 := below_call b3 b4
  go_wp2
  go_region
  go_wp2
  go_ret
  exact ⟨by simp, b4.drew⟩
end Go.Proofs.Ytlefchholkkkfaa
