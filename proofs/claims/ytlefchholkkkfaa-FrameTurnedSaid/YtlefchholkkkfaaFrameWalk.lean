/- Walks over package frame: head, sum, Lay and Open, over the landed code. -/
import Derived.Test.YtlefchholkkkfaaFrameRef
import Derived.Test.YtlefchholkkkfaaCrcWalk
import Derived.Test.YtlefchholkkkfaaStrs
import Derived.Deep.RegionHeld3
namespace Go.Proofs.Ytlefchholkkkfaa
open Go.RowKit Go.ChangeShapes Go.WideShapes

set_option maxRecDepth 100000 in
set_option maxHeartbeats 1600000 in
theorem frame_head (n : Nat) (w : World) (hn : n ≤ 65535) :
    Calls Try.prog 16 #[.int .i64 (n : Int)] w fun e w' => e = .returned (.agg #[.int .u8 87, .int .u8 76, .int .u8 ((n : Int) % 256), .int .u8 ((n : Int) / 256)]) ∧ Below w.heap.size w w' := by
  go_enter Try.func16, Try.ntmps16
  go_wp2
  refine bodyPost_ret (v := .agg #[.int .u8 87, .int .u8 76, .int .u8 ((n : Int) % 256), .int .u8 ((n : Int) / 256)]) (by simp [results, Try.results16, go_sem]) rfl ⟨rfl, ?_⟩
  exact (Below.refl _ _).alloc (Nat.le_refl _) _

set_option maxRecDepth 100000 in
set_option maxHeartbeats 1600000 in
theorem frame_sum_ (s : ByteArray) (w : World) (hs : s.size ≤ 1125899906842624) (c : Nat) (hc : goN sum0 (bsOf s) = c) :
    Calls Try.prog 17 #[.string s] w fun e w' => e = .returned (.string ⟨(tailL c).toArray⟩) ∧ Below w.heap.size w w' := by
  have C1 := Lib.hid (fun w' => crc_sum s w' (by omega))
  rw [show firstSum = sum0 from rfl, hc] at C1
  have hcl : c < 16777216 := by rw [← hc]; exact goN_lt _ _ sum0_lt
  have d8 : c / 256 / 256 = c / 65536 := by omega
  have K2 := fun w' => run_lit (P := Try.prog) 27 9 5 5 w' #[.int .u8 ((c : Int) / 65536), .int .u8 ((c : Int) / 256 % 256), .int .u8 ((c : Int) % 256)] (tailL c) 3
    (by simp only [tailL, List.map_cons, List.map_nil, byteV, small8 _ (show c / 65536 < 256 by omega), small8 _ (show c / 256 % 256 < 256 by omega), small8 _ (show c % 256 < 256 by omega)]; rfl) rfl Try.underlying27 Try.underlying5 Try.underlying9
  have hci : (c : Int) < 16777216 := by omega
  clear hc hs d8
  go_enter Try.func17, Try.ntmps17
  go_wp2_with fail
  refine (C1.out _).mono ?_
  rintro e w1 ⟨rfl, rfl⟩
  go_wp2
  go_ret
  exact ⟨rfl, (Below.refl _ _).alloc (Nat.le_refl _) _⟩

set_option maxRecDepth 100000 in
set_option maxHeartbeats 1600000 in
theorem frame_lay (s : ByteArray) (w : World) (hs : s.size ≤ 1125899906842624) :
    Calls Try.prog 11 #[.string s] w fun e w' => e = .returned (.tuple #[.string (textO (frO (bsOf s))), .int .i64 (codeO 40 (frO (bsOf s)))]) ∧ Below w.heap.size w w' := by
  have hl : (bsOf s).length = s.size := rfl
  by_cases h8 : 800 < s.size
  · have e1 : frO (bsOf s) = none := if_neg (by omega)
    have d : decide ((800 : Int) < s.size) = true := by simp; omega
    rw [e1]
    go_enter Try.func11, Try.ntmps11
    go_wp2
    go_ret2
    exact ⟨rfl, Below.refl _ _⟩
  · have e1 : frO (bsOf s) = some (frameL (bsOf s)) := if_pos (by omega)
    have d : decide ((800 : Int) < s.size) = false := by simp; omega
    obtain ⟨h0, hh0⟩ : ∃ h : ByteArray, h = ⟨(headL s.size).toArray⟩ := ⟨_, rfl⟩
    have hh1 : bsOf h0 = headL s.size := by rw [hh0]
    have hh2 : h0.size = 4 := by rw [hh0]; rfl
    have hb : bsOf (h0 ++ s) = bodyL (bsOf s) := by rw [bs_cat, hh1]; rfl
    have hz : (h0 ++ s).size ≤ 804 := by rw [size_cat]; omega
    obtain ⟨c, hc⟩ : ∃ c, goN sum0 (bodyL (bsOf s)) = c := ⟨_, rfl⟩
    obtain ⟨t0, ht0⟩ : ∃ t : ByteArray, t = ⟨(tailL c).toArray⟩ := ⟨_, rfl⟩
    have ht1 : bsOf t0 = tailL c := by rw [ht0]
    have ht2 : t0.size = 3 := by rw [ht0]; rfl
    have hfin : (⟨(frameL (bsOf s)).toArray⟩ : ByteArray) = h0 ++ s ++ t0 := by
      have : bsOf (h0 ++ s ++ t0) = frameL (bsOf s) := by
        rw [bs_cat, hb, ht1]
        unfold frameL
        rw [hc]
      rw [← this]
    have K1 := fun w' => run_lit (P := Try.prog) 27 9 5 34 w' #[.int .u8 87, .int .u8 76, .int .u8 ((s.size : Int) % 256), .int .u8 ((s.size : Int) / 256)] (headL s.size) 4
      (by simp only [headL, List.map_cons, List.map_nil, byteV, small8 _ (show s.size % 256 < 256 by omega), small8 _ (show s.size / 256 < 256 by omega)]; rfl) rfl Try.underlying27 Try.underlying5 Try.underlying9
    rw [← hh0] at K1
    have C0 := Lib.hid (fun w' => frame_head s.size w' (by omega))
    have C1 := Lib.hid (fun w' => frame_sum_ (h0 ++ s) w' (by omega) c (by rw [hb, hc]))
    rw [← ht0] at C1
    have HF := Lib.hid hfin
    rw [e1]
    clear e1 hh0 hh1 hb hc ht0 ht1 hfin hl hs
    go_enter Try.func11, Try.ntmps11
    go_wp2_with fail
    refine (C0.out _).mono ?_
    rintro e w1 ⟨rfl, b1⟩
    have K2 := K1 w1
    go_wp2_with fail
    refine (C1.out _).mono ?_
    rintro e w2 ⟨rfl, b2⟩
    have hz2 : (h0 ++ s).size + t0.size ≤ 9223372036854775807 := by omega
    go_wp2
    go_ret2
    refine ⟨?_, below_call (b1.alloc b1.size _) b2⟩
    rw [show textO (some (frameL (bsOf s))) = h0 ++ s ++ t0 from HF.out]
    rfl

theorem row_made (w : World) (cs : List Value) (t : TypeId) : Row (w.alloc (.cells cs.toArray t)) w.heap.size cs := by
  refine ⟨by simp, fun j u hj => ⟨?_, by simp⟩⟩
  have h := reads_lit w cs t cs.length rfl
  obtain ⟨b, o, e, _, hc⟩ := h.2 (by have := (List.getElem?_eq_some_iff.1 hj).1; omega)
  simp only [Option.some.injEq, Addr.mk.injEq] at e
  obtain ⟨rfl, rfl, _⟩ := e
  have := hc j u hj
  rwa [Nat.zero_add] at this

set_option maxHeartbeats 800000 in
/-- two arrays of four bytes, compared -/
theorem eq_arr4 (w : World) (d : Nat) (a0 a1 a2 a3 b0 b1 b2 b3 : Int) :
    (Op.equalIn (d + 2) 34 (.agg #[.int .u8 a0, .int .u8 a1, .int .u8 a2, .int .u8 a3]) (.agg #[.int .u8 b0, .int .u8 b1, .int .u8 b2, .int .u8 b3])).run Try.prog w = .ok (a0 == b0 && (a1 == b1 && (a2 == b2 && a3 == b3))) w := by
  have e1 : ∀ w' (a b : Int), (Op.equalIn (d + 1) 5 (.int .u8 a) (.int .u8 b)).run Try.prog w' = .ok (a == b) w' := fun w' a b => run_equalIn_int w' d 5 .u8 .u8 a b Try.underlying5
  have e2 : ∀ w', (isAgg 5).run Try.prog w' = .ok false w' := fun w' => by
    simp [isAgg, run_underlying Try.underlying5]
  unfold Op.equalIn
  simp only [Sem.run_bind, run_underlying Try.underlying34, Result.andThen_ok]
  simp [go_sem]
  rw [show List.range' 0 4 = [0, 1, 2, 3] from rfl]
  simp only [List.forIn_cons, List.forIn_nil, Sem.run_bind, e2, Result.andThen_ok]
  cases h0 : a0 == b0 <;> cases h1 : a1 == b1 <;> cases h2 : a2 == b2 <;> cases h3 : a3 == b3 <;> simp [go_sem, e1, e2, h0, h1, h2, h3]

theorem byte_is (x : UInt8) (m : Nat) (h : m < 256) : (x.toNat : Int) = (m : Int) ↔ x = UInt8.ofNat m := by
  constructor
  · intro e
    apply UInt8.toNat_inj.1
    rw [small8 _ h]
    omega
  · rintro rfl
    rw [small8 _ h]

/-- what a frame is, part by part -/
theorem frame_parts (s : List UInt8) (n : Nat) (hn : s.length = n + 7) : frameL (midL s) = s ↔ s.take 4 = headL n ∧ s.drop (n + 4) = tailL (goN sum0 (s.take (n + 4))) := by
  have hm : (midL s).length = n := by
    unfold midL
    rw [List.length_take, List.length_drop]
    omega
  have hmid : midL s = (s.drop 4).take n := by
    unfold midL
    rw [hn, Nat.add_sub_cancel]
  have hs4 : s.take (n + 4) = s.take 4 ++ midL s := by
    rw [hmid, Nat.add_comm n 4, List.take_add]
  have hs : s = s.take 4 ++ midL s ++ s.drop (n + 4) := by
    rw [← hs4, List.take_append_drop]
  have hf : frameL (midL s) = headL n ++ midL s ++ tailL (goN sum0 (headL n ++ midL s)) := by
    unfold frameL bodyL
    rw [hm]
  constructor
  · intro h
    rw [hf] at h
    have l4 : (s.take 4).length = 4 := by rw [List.length_take]; omega
    have e1 : s.take 4 = headL n := by
      rw [← h, List.append_assoc, List.take_left' (show (headL n).length = 4 from rfl)]
    refine ⟨e1, ?_⟩
    rw [hs4, e1]
    have h2 : s.drop (n + 4) = (headL n ++ midL s ++ tailL (goN sum0 (headL n ++ midL s))).drop (n + 4) := by rw [h]
    rw [h2, List.drop_left' (by rw [List.length_append, hm]; show 4 + n = n + 4; omega)]
  · rintro ⟨h1, h2⟩
    rw [hf, ← h1, ← hs4, ← h2, List.take_append_drop]

set_option maxRecDepth 100000 in
set_option maxHeartbeats 1600000 in
theorem frame_open (s : ByteArray) (w : World) (hs : s.size ≤ 1125899906842624) :
    Calls Try.prog 13 #[.string s] w fun e w' => e = .returned (.tuple #[.string (textO (openO (bsOf s))), .int .i64 (codeO 40 (openO (bsOf s)))]) ∧ Below w.heap.size w w' := by
  have hl : (bsOf s).length = s.size := rfl
  by_cases h7 : s.size < 7
  · have e1 : openO (bsOf s) = none := if_neg (fun h => by have := h.1; omega)
    have d : decide ((s.size : Int) - 4 - 3 < 0) = true := by simp; omega
    have d2 : decide ((800 : Int) < (s.size : Int) - 4 - 3) = false := by simp; omega
    rw [e1]
    go_enter Try.func13, Try.ntmps13
    go_wp2
    go_ret2
    exact ⟨rfl, Below.refl _ _⟩
  · have d : decide ((s.size : Int) - 4 - 3 < 0) = false := by simp; omega
    by_cases h8 : 807 < s.size
    · have e1 : openO (bsOf s) = none := if_neg (fun h => by have := h.2.1; omega)
      have d2 : decide ((800 : Int) < (s.size : Int) - 4 - 3) = true := by simp; omega
      rw [e1]
      go_enter Try.func13, Try.ntmps13
      go_wp2
      go_ret2
      exact ⟨rfl, Below.refl _ _⟩
    · have d2 : decide ((800 : Int) < (s.size : Int) - 4 - 3) = false := by simp; omega
      obtain ⟨n, hn⟩ : ∃ n, s.size = n + 7 := ⟨s.size - 7, by omega⟩
      have hni : (s.size : Int) - 4 - 3 = (n : Int) := by omega
      have hnb : n ≤ 800 := by omega
      rw [hni] at d d2
      have i0 : (0 : Int) < s.size := by omega
      have i1 : (1 : Int) < s.size := by omega
      have i2 : (2 : Int) < s.size := by omega
      have i3 : (3 : Int) < s.size := by omega
      have j0 : 0 < s.size := by omega
      have j1 : 1 < s.size := by omega
      have j2 : 2 < s.size := by omega
      have j3 : 3 < s.size := by omega
      have hx : (bsOf s).take 4 = [s[0], s[1], s[2], s[3]] := by
        apply List.ext_getElem (by rw [List.length_take, hl]; simp; omega)
        intro k h1 h2
        have h4 : k < 4 := h2
        rw [List.getElem_take]
        have h5 : k = 0 ∨ k = 1 ∨ k = 2 ∨ k = 3 := by omega
        rcases h5 with rfl | rfl | rfl | rfl <;> rfl
      have hparts := frame_parts (bsOf s) n (by rw [hl, hn])
      have hopen : openO (bsOf s) = if frameL (midL (bsOf s)) = bsOf s then some (midL (bsOf s)) else none := by
        unfold openO
        by_cases h : frameL (midL (bsOf s)) = bsOf s
        · rw [if_pos h, if_pos ⟨by omega, by omega, h⟩]
        · rw [if_neg h, if_neg (fun x => h x.2.2)]
      obtain ⟨t0, ht0⟩ : ∃ t : ByteArray, t = ⟨(tailL (goN sum0 ((bsOf s).take (n + 4)))).toArray⟩ := ⟨_, rfl⟩
      have ht1 : bsOf t0 = tailL (goN sum0 ((bsOf s).take (n + 4))) := by rw [ht0]
      have hb : bsOf (s.extract 0 (n + 4)) = (bsOf s).take (n + 4) := by
        rw [bs_sub, List.drop_zero, Nat.sub_zero]
      have hcmp : ((s.extract (n + 4) s.size).toList == t0.toList) = decide ((bsOf s).drop (n + 4) = tailL (goN sum0 ((bsOf s).take (n + 4)))) := by
        rw [text_same, ht1, bs_sub, List.take_of_length_le (by rw [List.length_drop, hl]; omega)]
      have C0 := Lib.hid (fun w' => frame_head n w' (by omega))
      have C1 := Lib.hid (fun w' => frame_sum_ (s.extract 0 (n + 4)) w' (by simp; omega) _ (by rw [hb]))
      rw [← ht0] at C1
      have hclone : ∀ w', Calls Try.prog 19 #[.string (s.extract 4 (n + 4))] w' fun e w2 => e = .returned (.string (s.extract 4 (n + 4))) ∧ Below w'.heap.size w' w2 :=
        fun w' => str_clone _ w' (by simp; omega)
      have C2 := Lib.hid hclone
      have hmid : bsOf (s.extract 4 (n + 4)) = midL (bsOf s) := by
        rw [bs_sub]
        unfold midL
        rw [hl, hn]
        simp
      have HN := Lib.hid hn
      have HOP := Lib.hid hopen
      have HPA := Lib.hid hparts
      have HX := Lib.hid hx
      have HMID := Lib.hid hmid
      obtain ⟨bt, hbt⟩ : ∃ bt, ((s.extract (n + 4) s.size).toList == t0.toList) = bt := ⟨_, rfl⟩
      rw [hbt] at hcmp
      have HCMP := Lib.hid hcmp
      have iend0 : (0 : Int) ≤ 4 + (n : Int) := by omega
      have iend : 4 + (n : Int) ≤ (s.size : Int) := by omega
      have tend : (4 + (n : Int)).toNat = n + 4 := by omega
      clear hn h7 h8 hs hl hopen hparts hx hclone hmid hcmp ht0 ht1 hb
      go_enter Try.func13, Try.ntmps13
      go_wp2_with fail
      go_region
      go_wp2_with fail
      generalize s[0] = x0 at *
      generalize s[1] = x1 at *
      generalize s[2] = x2 at *
      generalize s[3] = x3 at *
      have r1 := row_made w [.int .u8 (x0.toNat : Int), .int .u8 (x1.toNat : Int), .int .u8 (x2.toNat : Int), .int .u8 (x3.toNat : Int)] 34
      have c0 := r1.drew.cell (j := 0) rfl
      have c1 := r1.drew.cell (j := 1) rfl
      have c2 := r1.drew.cell (j := 2) rfl
      have c3 := r1.drew.cell (j := 3) rfl
      have b1 := ((Below.refl w.heap.size w).alloc (Nat.le_refl _) (.cells #[.int .u8 (x0.toNat : Int), .int .u8 (x1.toNat : Int), .int .u8 (x2.toNat : Int), .int .u8 (x3.toNat : Int)] 34)).drew
      clear r1
      obtain ⟨w1, hw1⟩ : ∃ w1, (w.alloc (.cells #[.int .u8 (x0.toNat : Int), .int .u8 (x1.toNat : Int), .int .u8 (x2.toNat : Int), .int .u8 (x3.toNat : Int)] 34)).drew = w1 := ⟨_, rfl⟩
      simp only [hw1] at c0 c1 c2 c3 b1 ⊢
      clear hw1
      obtain ⟨g, hg⟩ : ∃ g, w.heap.size = g := ⟨_, rfl⟩
      rw [hg] at c0 c1 c2 c3 b1 ⊢
      have hgl : g ≤ w.heap.size := by omega
      have HG := Lib.hid hg
      clear hg
      have E0 := fun w' => eq_arr4 w' 9998 (x0.toNat : Int) (x1.toNat : Int) (x2.toNat : Int) (x3.toNat : Int) 87 76 ((n : Int) % 256) ((n : Int) / 256)
      obtain ⟨hd, hhd⟩ : ∃ b, ((x0.toNat : Int) == 87 && ((x1.toNat : Int) == 76 && ((x2.toNat : Int) == (n : Int) % 256 && (x3.toNat : Int) == (n : Int) / 256))) = b := ⟨_, rfl⟩
      rw [hhd] at E0
      have hhd2 : hd = decide ((bsOf s).take 4 = headL n) := by
        rw [← hhd, HX.out, Bool.eq_iff_iff, decide_eq_true_eq]
        simp only [headL, List.cons.injEq, and_true, Bool.and_eq_true, beq_iff_eq]
        have e0 := byte_is x0 87 (by omega)
        have e1 := byte_is x1 76 (by omega)
        have e2 := byte_is x2 (n % 256) (by omega)
        have e3 := byte_is x3 (n / 256) (by omega)
        exact and_congr e0 (and_congr e1 (and_congr e2 e3))
      have HHD := Lib.hid hhd2
      clear hhd2
      have b1d := b1.drew
      clear hhd
      cases hd
      · have hres : openO (bsOf s) = none := by
          rw [HOP.out]
          exact if_neg (fun h => absurd (HPA.out.1 h).1 (of_decide_eq_false HHD.out.symm))
        have HRES := Lib.hid hres
        clear hres
        refine wp_region_held_drew (S := (fun w' => w'.cell? ⟨g, 0, none⟩ = some (.int .u8 (x0.toNat : Int)) ∧ w'.cell? ⟨g, 1, none⟩ = some (.int .u8 (x1.toNat : Int)) ∧ w'.cell? ⟨g, 2, none⟩ = some (.int .u8 (x2.toNat : Int)) ∧ w'.cell? ⟨g, 3, none⟩ = some (.int .u8 (x3.toNat : Int)))) (by kernel_rfl) ⟨c0, c1, c2, c3⟩ (fun hHeld => ?_)
        refine wpAnyH_take (i := 0) (v := ?v0) rfl (by kernel_rfl) (by kernel_rfl) (by kernel_rfl) (fun _ _ _ h => h) (Or.inl ⟨by rfl, ?y0⟩) (by assumption) ?_
        case y0 =>
          intro w' hSw
          simp only [List.getElem_toArray, List.getElem_cons_zero, List.getElem_cons_succ]
          first | (go_simp; done) | (go_simp; with_reducible rfl)
        simp only [List.getElem_toArray, List.getElem_cons_zero, List.getElem_cons_succ, Act.put, List.setIfInBounds_toArray, List.set_cons_zero, List.set_cons_succ]
        refine wpAnyH_take (i := 1) (v := ?v1) rfl (by kernel_rfl) (by kernel_rfl) (by kernel_rfl) (fun _ _ _ h => h) (Or.inl ⟨by rfl, ?y1⟩) (by assumption) ?_
        case y1 =>
          intro w' hSw
          simp only [List.getElem_toArray, List.getElem_cons_zero, List.getElem_cons_succ]
          first | (go_simp; done) | (go_simp; with_reducible rfl)
        simp only [List.getElem_toArray, List.getElem_cons_zero, List.getElem_cons_succ, Act.put, List.setIfInBounds_toArray, List.set_cons_zero, List.set_cons_succ]
        refine wpAnyH_ready (rs := [2]) (by kernel_rfl) (by simp) ?_
        refine AllReadyH.cons (o := _) rfl (fun K hK => ?_) AllReadyH.nil
        simp only [List.getElem_toArray, List.getElem_cons_zero, List.getElem_cons_succ]
        go_simp
        go_at_call 16
        with_reducible refine (C0.out _).mono ?_
        rintro e w11 ⟨rfl, b11⟩
        have k0 : w11.cell? ⟨g, 0, none⟩ = some (.int .u8 (x0.toNat : Int)) := keep_cell b11 (by assumption)
        have k1 : w11.cell? ⟨g, 1, none⟩ = some (.int .u8 (x1.toNat : Int)) := keep_cell b11 (by assumption)
        have k2 : w11.cell? ⟨g, 2, none⟩ = some (.int .u8 (x2.toNat : Int)) := keep_cell b11 (by assumption)
        have k3 : w11.cell? ⟨g, 3, none⟩ = some (.int .u8 (x3.toNat : Int)) := keep_cell b11 (by assumption)
        have bb : Below g w w11 := below_then (by assumption) b11 (by assumption)
        refine hK.out _ _ ⟨k0, k1, k2, k3⟩ (fun hHeld2 => ?_)
        try simp only [Act.put, List.setIfInBounds_toArray, List.set_cons_zero, List.set_cons_succ]
        refine wpAnyH_take (i := 3) (v := ?v3) rfl (by kernel_rfl) (by kernel_rfl) (by kernel_rfl) (fun _ _ _ h => h) (Or.inl ⟨by rfl, ?y3⟩) (by assumption) ?_
        case y3 =>
          intro w' hSw
          simp only [List.getElem_toArray, List.getElem_cons_zero, List.getElem_cons_succ]
          first | (go_simp; done) | (go_simp; with_reducible rfl)
        simp only [List.getElem_toArray, List.getElem_cons_zero, List.getElem_cons_succ, Act.put, List.setIfInBounds_toArray, List.set_cons_zero, List.set_cons_succ]
        refine wpAnyH_take (i := 4) (v := ?v4) rfl (by kernel_rfl) (by kernel_rfl) (by kernel_rfl) (fun _ _ _ h => h) (Or.inl ⟨by rfl, ?y4⟩) (by assumption) ?_
        case y4 =>
          intro w' hSw
          simp only [List.getElem_toArray, List.getElem_cons_zero, List.getElem_cons_succ]
          first | (go_simp; done) | (go_simp; with_reducible rfl)
        simp only [List.getElem_toArray, List.getElem_cons_zero, List.getElem_cons_succ, Act.put, List.setIfInBounds_toArray, List.set_cons_zero, List.set_cons_succ]
        refine wpAnyH_take (i := 5) (v := undef) rfl (by kernel_rfl) (by kernel_rfl) (by kernel_rfl) (fun _ _ _ h => h) (Or.inr ⟨by rfl, rfl⟩) (by assumption) ?_
        simp only [List.getElem_toArray, List.getElem_cons_zero, List.getElem_cons_succ, Act.put, List.setIfInBounds_toArray, List.set_cons_zero, List.set_cons_succ]
        refine wpAnyH_take (i := 6) (v := undef) rfl (by kernel_rfl) (by kernel_rfl) (by kernel_rfl) (fun _ _ _ h => h) (Or.inr ⟨by rfl, rfl⟩) (by assumption) ?_
        simp only [List.getElem_toArray, List.getElem_cons_zero, List.getElem_cons_succ, Act.put, List.setIfInBounds_toArray, List.set_cons_zero, List.set_cons_succ]
        refine wpAnyH_take (i := 7) (v := undef) rfl (by kernel_rfl) (by kernel_rfl) (by kernel_rfl) (fun _ _ _ h => h) (Or.inr ⟨by rfl, rfl⟩) (by assumption) ?_
        simp only [List.getElem_toArray, List.getElem_cons_zero, List.getElem_cons_succ, Act.put, List.setIfInBounds_toArray, List.set_cons_zero, List.set_cons_succ]
        refine wpAnyH_take (i := 8) (v := undef) rfl (by kernel_rfl) (by kernel_rfl) (by kernel_rfl) (fun _ _ _ h => h) (Or.inr ⟨by rfl, rfl⟩) (by assumption) ?_
        simp only [List.getElem_toArray, List.getElem_cons_zero, List.getElem_cons_succ, Act.put, List.setIfInBounds_toArray, List.set_cons_zero, List.set_cons_succ]
        refine wpAnyH_take (i := 9) (v := undef) rfl (by kernel_rfl) (by kernel_rfl) (by kernel_rfl) (fun _ _ _ h => h) (Or.inr ⟨by rfl, rfl⟩) (by assumption) ?_
        simp only [List.getElem_toArray, List.getElem_cons_zero, List.getElem_cons_succ, Act.put, List.setIfInBounds_toArray, List.set_cons_zero, List.set_cons_succ]
        refine wpAnyH_take (i := 10) (v := undef) rfl (by kernel_rfl) (by kernel_rfl) (by kernel_rfl) (fun _ _ _ h => h) (Or.inr ⟨by rfl, rfl⟩) (by assumption) ?_
        simp only [List.getElem_toArray, List.getElem_cons_zero, List.getElem_cons_succ, Act.put, List.setIfInBounds_toArray, List.set_cons_zero, List.set_cons_succ]
        refine wpAnyH_take (i := 11) (v := undef) rfl (by kernel_rfl) (by kernel_rfl) (by kernel_rfl) (fun _ _ _ h => h) (Or.inr ⟨by rfl, rfl⟩) (by assumption) ?_
        simp only [List.getElem_toArray, List.getElem_cons_zero, List.getElem_cons_succ, Act.put, List.setIfInBounds_toArray, List.set_cons_zero, List.set_cons_succ]
        refine wpAnyH_take (i := 12) (v := undef) rfl (by kernel_rfl) (by kernel_rfl) (by kernel_rfl) (fun _ _ _ h => h) (Or.inr ⟨by rfl, rfl⟩) (by assumption) ?_
        simp only [List.getElem_toArray, List.getElem_cons_zero, List.getElem_cons_succ, Act.put, List.setIfInBounds_toArray, List.set_cons_zero, List.set_cons_succ]
        refine wpAnyH_take (i := 13) (v := ?v13) rfl (by kernel_rfl) (by kernel_rfl) (by kernel_rfl) (fun _ _ _ h => h) (Or.inl ⟨by rfl, ?y13⟩) (by assumption) ?_
        case y13 =>
          intro w' hSw
          simp only [List.getElem_toArray, List.getElem_cons_zero, List.getElem_cons_succ]
          first | (go_simp; done) | (go_simp; with_reducible rfl)
        simp only [List.getElem_toArray, List.getElem_cons_zero, List.getElem_cons_succ, Act.put, List.setIfInBounds_toArray, List.set_cons_zero, List.set_cons_succ]
        refine wpAnyH_done (by kernel_rfl) ?_ _
        go_wp2
        go_ret2
        rw [HRES.out]
        exact ⟨rfl, by rw [HG.out]; exact bb⟩
      · go_region_held3 (fun w' => w'.cell? ⟨g, 0, none⟩ = some (.int .u8 (x0.toNat : Int)) ∧ w'.cell? ⟨g, 1, none⟩ = some (.int .u8 (x1.toNat : Int)) ∧ w'.cell? ⟨g, 2, none⟩ = some (.int .u8 (x2.toNat : Int)) ∧ w'.cell? ⟨g, 3, none⟩ = some (.int .u8 (x3.toNat : Int)))
          (first
            | exact ⟨by assumption, by assumption, by assumption, by assumption⟩)
          (first
            | ((go_at_call 16; with_reducible refine (C0.out _).mono ?_); rintro e w11 ⟨rfl, b11⟩
               have k0 : w11.cell? ⟨g, 0, none⟩ = some (.int .u8 (x0.toNat : Int)) := keep_cell b11 (by assumption)
               have k1 : w11.cell? ⟨g, 1, none⟩ = some (.int .u8 (x1.toNat : Int)) := keep_cell b11 (by assumption)
               have k2 : w11.cell? ⟨g, 2, none⟩ = some (.int .u8 (x2.toNat : Int)) := keep_cell b11 (by assumption)
               have k3 : w11.cell? ⟨g, 3, none⟩ = some (.int .u8 (x3.toNat : Int)) := keep_cell b11 (by assumption)
               have bb : Below g w w11 := below_then (by assumption) b11 (by assumption))
            | ((go_at_call 17; with_reducible refine (C1.out _).mono ?_); rintro e w12 ⟨rfl, b11⟩
               have k0 : w12.cell? ⟨g, 0, none⟩ = some (.int .u8 (x0.toNat : Int)) := keep_cell b11 (by assumption)
               have k1 : w12.cell? ⟨g, 1, none⟩ = some (.int .u8 (x1.toNat : Int)) := keep_cell b11 (by assumption)
               have k2 : w12.cell? ⟨g, 2, none⟩ = some (.int .u8 (x2.toNat : Int)) := keep_cell b11 (by assumption)
               have k3 : w12.cell? ⟨g, 3, none⟩ = some (.int .u8 (x3.toNat : Int)) := keep_cell b11 (by assumption)
               have bb : Below g w w12 := below_then (by assumption) b11 (by assumption)))
        all_goals
          have hres : openO (bsOf s) = if bt = true then some (midL (bsOf s)) else none := by
            rw [HOP.out]
            have e1 : (bsOf s).take 4 = headL n := of_decide_eq_true HHD.out.symm
            have e2 := HPA.out
            rw [HCMP.out]
            by_cases h : (bsOf s).drop (n + 4) = tailL (goN sum0 ((bsOf s).take (n + 4)))
            · rw [if_pos (e2.2 ⟨e1, h⟩), if_pos (decide_eq_true h)]
            · rw [if_neg (fun x => h (e2.1 x).2), if_neg (fun x => h (of_decide_eq_true x))]
          have HRES := Lib.hid hres
          clear hres
          cases bt
          · go_wp2
            go_ret2
            rw [HRES.out]
            exact ⟨rfl, by rw [HG.out]; exact bb⟩
          · have i4 : (4 : Int) ≤ 4 + (n : Int) := by omega
            go_wp2_with fail
            refine (C2.out _).mono ?_
            rintro e w13 ⟨rfl, b13⟩
            go_wp2
            go_ret2
            refine ⟨?_, by rw [HG.out]; exact below_then bb b13 hgl⟩
            rw [show openO (bsOf s) = some (bsOf (s.extract 4 (n + 4))) by rw [HRES.out, HMID.out]; rfl]
            rfl
end Go.Proofs.Ytlefchholkkkfaa
