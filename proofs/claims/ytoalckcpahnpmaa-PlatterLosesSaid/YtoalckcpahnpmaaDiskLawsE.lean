/- Layer 7: the statements, walked: PlatterLoses. -/
import Derived.Test.YtoalckcpahnpmaaDiskLawsD
namespace Go.Proofs.Ytoalckcpahnpmaa
open Go.RowKit Go.ChangeShapes Go.WideShapes

set_option maxRecDepth 100000 in
set_option maxHeartbeats 3200000 in
/-- PlatterLoses -/
theorem loses_any (A A2 A3 : Option Addr) (n c n2 c2 n3 c3 : Nat) (V : Nat → Nat → Value) (l2 l3 : List Int) (w : World) (_hc : n ≤ 140737488351232) (hr : ReadsS w w.heap.size A n 6 V) (ho : ActsOk n V) (ho4 : ∀ i, i < n → (∃ s, V i 4 = .string s) ∧ ∃ A' n' c', V i 5 = .slice A' n' c')
    (_hc2 : n2 ≤ 140737488351232) (hr2 : Reads w w.heap.size A2 n2 (l2.map (.int .i64))) (ho2 : ∀ x ∈ l2, (Lit.int .i64 x).wf = true) (hnc3 : n3 ≤ c3) (hr3 : Reads w w.heap.size A3 n3 (l3.map (.int .i64))) :
    Holds Try.prog 5 #[.slice A n c, .slice A2 n2 c2, .slice A3 n3 c3] w := by
  have HR := Lib.hid hr
  have HO := Lib.hid ho
  have HR2 := Lib.hid hr2
  have HO2 := Lib.hid ho2
  have HR3 := Lib.hid hr3
  have HO4 := Lib.hid ho4
  clear hr ho hr2 hr3 ho2 ho4
  unfold Holds
  go_enter Try.func5, Try.ntmps5
  go_wp2_with fail
  refine (awake07 _).mono ?_
  rintro e w1 ⟨rfl, b1⟩
  go_wp2_with fail
  refine (disk_new 6 _ (by decide) (by decide)).mono ?_
  rintro e w2 ⟨a, rfl, h2, b2⟩
  replace b2 := below_call b1 b2
  have hB1 : w.heap.size ≤ w1.heap.size := b1.size
  generalize w1.heap.size = B0 at *
  obtain ⟨S0, hS0⟩ : ∃ S, DiskSt.new 6 = S := ⟨_, rfl⟩
  rw [hS0] at h2
  have H0 : Hid ((S0.n = 6 ∧ S0.Whole ∧ S0.acts ≤ 0) ∧ Has (Disk S0 a) B0 [] w2 ∧ Below w.heap.size w w2) := Lib.hid ⟨by rw [← hS0]; exact ⟨rfl, DiskSt.whole_new 6, Nat.le_refl _⟩, h2, b2⟩
  clear hS0 h2 b2 b1
  go_wp2
  go_loopw [10] (fun i wr => ∃ (k : Nat) (S : DiskSt), k ≤ n ∧ k ≤ 60 ∧ i = .int .i64 k ∧ Hid ((S.n = 6 ∧ S.Whole ∧ S.acts ≤ k) ∧ Has (Disk S a) B0 [] wr ∧ Below w.heap.size w wr)) (fun i _ => n - (intOf i).toNat)
  case atStart => exact ⟨0, S0, Nat.zero_le _, by omega, rfl, H0⟩
  case round =>
    clear H0
    obtain ⟨k, S, hkn, hk60, rfl, H⟩ := hrel
    by_cases hk : k < n ∧ k < 60
    · obtain ⟨hk1, hk2⟩ := hk
      have dk : decide ((k : Int) < n) = true := by simp; omega
      have dk2 : decide ((k : Int) < 60) = true := by simp; omega
      have ik : (k : Int) < n := by omega
      obtain ⟨b, o, rfl, hb, hcell⟩ := HR.out.at_ hk1
      obtain ⟨zw, zn, zt, zl, e0, e1, e2, e3, f0, f1, f2, f3⟩ := HO.out k hk1
      have c0 : wr.cell? ⟨b, o + k * 6, none⟩ = some (.int .i64 zw) := ((H.out.2.2).cell (by exact hb)).trans ((hcell 0 (by decide)).trans (by rw [e0]))
      have c1 : wr.cell? ⟨b, o + k * 6 + 1, none⟩ = some (.int .i64 zn) := ((H.out.2.2).cell (by exact hb)).trans ((hcell 1 (by decide)).trans (by rw [e1]))
      have c2 : wr.cell? ⟨b, o + k * 6 + 2, none⟩ = some (.int .i64 zt) := ((H.out.2.2).cell (by exact hb)).trans ((hcell 2 (by decide)).trans (by rw [e2]))
      have c3 : wr.cell? ⟨b, o + k * 6 + 3, none⟩ = some (.int .i64 zl) := ((H.out.2.2).cell (by exact hb)).trans ((hcell 3 (by decide)).trans (by rw [e3]))
      have c4 : wr.cell? ⟨b, o + k * 6 + 4, none⟩ = some (V k 4) := ((H.out.2.2).cell (by exact hb)).trans (hcell 4 (by decide))
      have c5 : wr.cell? ⟨b, o + k * 6 + 5, none⟩ = some (V k 5) := ((H.out.2.2).cell (by exact hb)).trans (hcell 5 (by decide))
      obtain ⟨⟨s4, e4⟩, A5, n5, c5', e5⟩ := HO4.out k hk1
      rw [e4] at c4
      rw [e5] at c5
      clear hcell e0 e1 e2 e3 e4 e5
      have P1 := Lib.hid (fun w' => pick07 zn 6 w' f1 (by decide) (by decide))
      have P2 := Lib.hid (fun w' => pick07 zw 5 w' f0 (by decide) (by decide))
      have C1 := Lib.hid (fun w' => sector07 zl w' f3)
      have hz := sectB_size zl
      have hm := pickZ_in zn 6 (by decide)
      obtain ⟨m, hmm⟩ : ∃ m : Nat, pickZ zn 6 = (m : Int) := ⟨(pickZ zn 6).toNat, by omega⟩
      rw [hmm] at P1 hm
      generalize pickZ zw 5 = q at P2
      generalize sectB zl = t at *
      have hm6 : m < 6 := by omega
      have hfew : S.Few := by have := H.out.1.2.2; unfold DiskSt.Few; omega
      have W1 := Lib.hid (disk_flush S a hfew H.out.1.2.1)
      have W2 := Lib.hid (disk_write S a m t hfew (by rw [H.out.1.1]; exact hm6) hz)
      have W3 := Lib.hid (disk_arm S a zt hfew f2)
      clear hmm f0 f1 f3 f2
      go_wp2_with fail
      have rx := row_cells wr [.int .i64 zw, .int .i64 zn, .int .i64 zt, .int .i64 zl, .string s4, .slice A5 n5 c5'] 33
      have hx := H.out.2.1.new (disk_local _ _) (.cells #[.int .i64 zw, .int .i64 zn, .int .i64 zt, .int .i64 zl, .string s4, .slice A5 n5 c5'] 33)
      have bx := H.out.2.2.alloc H.out.2.2.size (.cells #[.int .i64 zw, .int .i64 zn, .int .i64 zt, .int .i64 zl, .string s4, .slice A5 n5 c5'] 33)
      have x0 := rx.cell (j := 0) rfl
      have x1 := rx.cell (j := 1) rfl
      have x2 := rx.cell (j := 2) rfl
      have x3 := rx.cell (j := 3) rfl
      obtain ⟨wx, hwx⟩ : ∃ wx, wr.alloc (.cells #[.int .i64 zw, .int .i64 zn, .int .i64 zt, .int .i64 zl, .string s4, .slice A5 n5 c5'] 33) = wx := ⟨_, rfl⟩
      simp only [hwx] at rx hx bx x0 x1 x2 x3 ⊢
      have HX := Lib.hid (And.intro hx bx)
      clear hwx hx bx rx c0 c1 c2 c3 c4 c5
      generalize wr.heap.size = gx at *
      refine (P2.out _).mono ?_
      rintro e w5 ⟨rfl, rfl⟩
      go_wp2_with fail
      all_goals first
        | (with_reducible refine (W1.out.has HX.out.1).mono ?_
           rintro e w6 ⟨rfl, h6, k6⟩
           have H1 : Hid ((S.flush.n = 6 ∧ S.flush.Whole ∧ S.flush.acts ≤ k + 1) ∧ Has (Disk S.flush a) B0 [] w6 ∧ Below w.heap.size w w6) :=
             Lib.hid ⟨⟨by rw [DiskSt.n_flush, H.out.1.1], DiskSt.whole_flush H.out.1.2.1, by have := DiskSt.acts_flush S; have := H.out.1.2.2; omega⟩, h6.less (by simp), HX.out.2.trans (k6.below.mono hB1)⟩
           clear h6 k6 HX H W1 W2 W3 P1 P2 C1 x0 x1 x2 x3
           go_wp2
           go_roundw
           case rel => exact ⟨k + 1, _, by omega, by omega, by go_num, H1⟩
           case measure => simp [intOf]; omega)
        | (with_reducible refine (W3.out.has HX.out.1).mono ?_
           rintro e w6 ⟨rfl, h6, k6⟩
           have H1 : Hid (((S.arm zt).n = 6 ∧ (S.arm zt).Whole ∧ (S.arm zt).acts ≤ k + 1) ∧ Has (Disk (S.arm zt) a) B0 [] w6 ∧ Below w.heap.size w w6) :=
             Lib.hid ⟨⟨by rw [DiskSt.n_arm, H.out.1.1], DiskSt.whole_arm H.out.1.2.1 zt, by have := DiskSt.acts_arm S zt; have := H.out.1.2.2; omega⟩, h6.less (by simp), HX.out.2.trans (k6.below.mono hB1)⟩
           clear h6 k6 HX H W1 W2 W3 P1 P2 C1 x0 x1 x2 x3
           go_wp2
           go_roundw
           case rel => exact ⟨k + 1, _, by omega, by omega, by go_num, H1⟩
           case measure => simp [intOf]; omega)
        | (have hxd : Has (Disk S a) B0 [gx] w5.drew := HX.out.1.drew (disk_local _ _)
           have bxd : Below w.heap.size w w5.drew := HX.out.2.drew
           clear x0 x2 W1 W3 P2
           go_region_held3 (fun w' => w'.cell? ⟨gx, 1, none⟩ = some (.int .i64 zn) ∧ w'.cell? ⟨gx, 3, none⟩ = some (.int .i64 zl))
             (first
               | exact ⟨by assumption, by assumption⟩)
             (first
               | ((go_at_call 10; with_reducible refine (P1.out _).mono ?_); rintro e w7 ⟨rfl, rfl⟩)
               | ((go_at_call 12; with_reducible refine (C1.out _).mono ?_); rintro e w8 ⟨rfl, b8⟩
                  have k1 : w8.cell? ⟨gx, 1, none⟩ = some (.int .i64 zn) := keep_cell b8 (by assumption)
                  have k3 : w8.cell? ⟨gx, 3, none⟩ = some (.int .i64 zl) := keep_cell b8 (by assumption)
                  have h8 : Has (Disk S a) B0 [gx] w8 := Has.below (disk_local _ _) (by assumption) b8
                  have bb : Below w.heap.size w w8 := below_call (by assumption) b8)
               | ((go_at_call 13; with_reducible refine (W2.out.has h8).mono ?_); rintro e w9 ⟨rfl, h9, k9⟩
                  have j1 : w9.cell? ⟨gx, 1, none⟩ = some (.int .i64 zn) := k9.cell (by simp) (by assumption)
                  have j3 : w9.cell? ⟨gx, 3, none⟩ = some (.int .i64 zl) := k9.cell (by simp) (by assumption)
                  have b9 : Below w.heap.size w w9 := Below.trans bb (k9.below.mono hB1)))
           have H1 : Hid (((S.write m t).n = 6 ∧ (S.write m t).Whole ∧ (S.write m t).acts ≤ k + 1) ∧ Has (Disk (S.write m t) a) B0 [] w9 ∧ Below w.heap.size w w9) :=
             Lib.hid ⟨⟨by rw [DiskSt.n_write, H.out.1.1], DiskSt.whole_write H.out.1.2.1 hz, by have := DiskSt.acts_write S m t; have := H.out.1.2.2; omega⟩, h9.less (by simp), b9⟩
           clear h9 k9 b9 bb h8 b8 k1 k3 j1 j3 HX H W2 P1 C1 x1 x3 hxd bxd
           go_wp2
           go_roundw
           case rel => exact ⟨k + 1, _, by omega, by omega, by go_num, H1⟩
           case measure => simp [intOf]; omega)
    · have R1 := Lib.hid (disk_lose S a)
      obtain ⟨L, hL⟩ : ∃ L, S.lose = L := ⟨_, rfl⟩
      rw [hL] at R1
      have hLf : L.On ∧ L.n = 6 ∧ L.Whole ∧ L.acts ≤ 60 := by
        rw [← hL]
        exact ⟨⟨rfl, rfl⟩, H.out.1.1, DiskSt.whole_lose, by show S.acts ≤ 60; have := H.out.1.2.2; omega⟩
      have hLc : L.cached = [] := by
        rw [← hL]
        unfold DiskSt.cached
        rw [List.filter_eq_nil_iff]
        intro x _ h
        cases h
      have hLs : L.sure = (fun _ => noughtB) ∧ L.read = fun _ => noughtB := by
        rw [← hL]
        exact ⟨rfl, rfl⟩
      have I1 := Lib.hid (fun w' (h : ∃ F, Disk L a w' F) => disk_off L a w' h)
      rw [hLf.1.off_] at I1
      have I3 : ∀ w', (∃ F, Disk L a w' F) → Calls Try.prog 16 #[.pointer (some a)] w' fun e w2 => Below w'.heap.size w' w2 ∧ ∃ A c, e = .returned (.slice A 0 c) := fun w' h => by
        refine (disk_cached L a w' h).mono ?_
        rw [hLc]
        rintro e w2 ⟨hb, A, c, he, _⟩
        exact ⟨hb, A, c, he⟩
      have I2 : ∀ w', (∃ F, Disk L a w' F) → Calls Try.prog 15 #[.pointer (some a)] w' fun e w2 => Below w'.heap.size w' w2 ∧ ∃ A c, e = .returned (.slice A 6 c) ∧ Reads w2 w2.heap.size A 6 (((List.range 6).map L.read).map .string) ∧ ∀ b o, A = some ⟨b, o, none⟩ → w'.heap.size ≤ b := fun w' h => by
        have h := disk_image L a w' h hLf.2.2.1
        rw [hLf.2.1, hLs.1] at h
        rw [hLs.2]
        exact h
      replace I2 := Lib.hid I2
      replace I3 := Lib.hid I3
      have HL := Lib.hid hLf
      have HLS := Lib.hid hLs
      clear hL hLf hLc hLs
      go_wp2_with fail
      all_goals
        with_reducible refine (R1.out.has H.out.2.1).mono ?_
        rintro e w6 ⟨rfl, h6, k6⟩
        have b6 := H.out.2.2.trans (k6.below.mono hB1)
        clear k6 H R1
        go_wp2_with (at_make; refine wpList_mk 38 9 (.string ⟨#[]⟩) 16 rfl _ _ rfl Try.underlying38 info07_str rfl (n := 6) rfl rfl (by omega) (by unfold maxLen; omega) ?_; intro w7 hlt7 b7 hrow7 hown7)
        have hw : w.heap.size ≤ w6.heap.size := b6.size
        have h7 := h6.add (disk_local _ _) b7 (Nat.le_refl _) hlt7
        replace b7 := below_call b6 b7
        replace hrow7 : Row w7 w6.heap.size (sixV (firstF 0)) := hrow7
        clear hown7 hlt7 b6 h6
        generalize w6.heap.size = g at *
        go_loopw [13] (fun i wr => ∃ k : Nat, k ≤ 6 ∧ i = .int .i64 k ∧ Hid (Row wr g (sixV (firstF k)) ∧ Has (Disk L a) B0 [g] wr ∧ Below w.heap.size w wr)) (fun i _ => 6 - (intOf i).toNat)
        case atStart => exact ⟨0, by omega, rfl, Lib.hid ⟨hrow7, h7, b7⟩⟩
        case round =>
          clear hrow7 h7 b7
          obtain ⟨k, hk, rfl, H⟩ := hrel
          by_cases hk6 : k < 6
          · have dk : decide ((k : Int) < 6) = true := by simp; omega
            have ik : (k : Int) < 6 := by omega
            go_wp2_with (at_make; refine wpList_mk 30 5 (.int .u8 0) 1 rfl _ _ rfl Try.underlying30 info07_u8 rfl (n := 64) rfl rfl (by omega) (by unfold maxLen; omega) ?_; intro w4 hlt4 b4 hrow4 hown4; have hconv := nought_conv hrow4; have r4 := H.out.1.below b4 H.out.1.lt; have ck := r4.cell (sixV_at _ hk6); have fk := r4.free (j := k) (by rw [sixV_length]; exact hk6); clear hown4 hlt4)
            have r5 := r4.set_ k (.string noughtB)
            rw [sixV_set, firstF_upd] at r5
            have h5 := (H.out.2.1.below (disk_local _ _) b4).setCell (disk_local _ _) (p := ⟨g, k, none⟩) (by simp) (.string noughtB)
            have b5 := (below_call H.out.2.2 b4).setCell (p := ⟨g, k, none⟩) (by exact hw) (.string noughtB)
            go_roundw
            case rel => exact ⟨k + 1, by omega, by go_num, Lib.hid ⟨r5, h5, b5⟩⟩
            case measure => simp [intOf]; omega
          · obtain rfl : k = 6 := by omega
            rw [show ((6 : Nat) : Int) = 6 from rfl]
            have e6 : sixV (firstF 6) = sixV L.read := sixV_eq fun j hj => by
              rw [HLS.out.2]
              unfold firstF
              rw [if_pos hj]
            have H1 : Hid (Row wr g (sixV L.read) ∧ Has (Disk L a) B0 [g] wr ∧ Below w.heap.size w wr) := Lib.hid ⟨by rw [← e6]; exact H.out.1, H.out.2⟩
            clear H e6
            have hsix : sixV L.read = ((List.range 6).map L.read).map .string := by
              rw [List.map_map]
              rfl
            go_wp2_with fail
            refine (I1.out _ (H1.out.2.1.sees (.refl _))).mono ?_
            rintro e w8 ⟨rfl, b8⟩
            have H2 := Lib.hid (And.intro (H1.out.1.below b8 H1.out.1.lt) (And.intro (H1.out.2.1.below (disk_local _ _) b8) (below_call H1.out.2.2 b8)))
            clear H1 b8
            go_wp2_with fail
            refine (I3.out _ (H2.out.2.1.sees (.refl _))).mono ?_
            rintro e w9 ⟨b9, A9, c9, rfl⟩
            have H3 := Lib.hid (And.intro (H2.out.1.below b9 H2.out.1.lt) (And.intro (H2.out.2.1.below (disk_local _ _) b9) (below_call H2.out.2.2 b9)))
            clear H2 b9
            go_wp2_with fail
            refine (I2.out _ (H3.out.2.1.sees (.refl _))).mono ?_
            rintro e w10 ⟨b10, A10, c10, rfl, r10, f10⟩
            have H4 := Lib.hid (And.intro (H3.out.1.below b10 H3.out.1.lt) (And.intro (H3.out.2.1.below (disk_local _ _) b10) (below_call H3.out.2.2 b10)))
            rw [← hsix] at r10
            have HT := Lib.hid (texts_same A10 (some ⟨g, 0, none⟩) 6 c10 6 6 ((List.range 6).map L.read) w10 (by rw [← hsix]; exact r10) (by rw [← hsix]; exact row_slice H4.out.1 (sixV_length _)) (by decide))
            clear H3 b10 r10 f10 hsix I1 I2 I3
            go_wp2_with fail
            refine HT.out.mono ?_
            rintro e w11 ⟨rfl, b11⟩
            have H5 : Hid ((L.On ∧ L.n = 6 ∧ L.Whole ∧ L.acts ≤ 60 + 0) ∧ Row w11 g (sixV L.read) ∧ Has (Disk L a) B0 [g] w11 ∧ Below w.heap.size w w11) := Lib.hid ⟨HL.out, H4.out.1.below b11 H4.out.1.lt, H4.out.2.1.below (disk_local _ _) b11, below_call H4.out.2.2 b11⟩
            clear H4 b11 HT
            go_wp2
            go_loopw [14] (fun i wr => ∃ (k : Nat) (S : DiskSt), k ≤ n2 ∧ k ≤ 30 ∧ i = .int .i64 k ∧ Hid ((S.On ∧ S.n = 6 ∧ S.Whole ∧ S.acts ≤ 60 + k) ∧ Row wr g (sixV S.read) ∧ Has (Disk S a) B0 [g] wr ∧ Below w.heap.size w wr)) (fun i _ => n2 - (intOf i).toNat)
            case atStart => exact ⟨0, L, Nat.zero_le _, by omega, rfl, H5⟩
            case round =>
              clear H5 HL HLS
              obtain ⟨k2, S2, hkn2, hk30, rfl, H⟩ := hrel
              by_cases hk : k2 < n2 ∧ k2 < 30
              · obtain ⟨hk1, hk2⟩ := hk
                have dk : decide ((k2 : Int) < n2) = true := by simp; omega
                have dk2 : decide ((k2 : Int) < 30) = true := by simp; omega
                have ik : (k2 : Int) < n2 := by omega
                obtain ⟨b, o, u, rfl, hb, hu, hcell⟩ := HR2.out.at_ hk1
                rw [List.getElem?_map] at hu
                obtain ⟨x, hx, rfl⟩ := Option.map_eq_some_iff.1 hu
                have hxw := HO2.out x (List.mem_of_getElem? hx)
                have c0 : wr.cell? ⟨b, o + k2, none⟩ = some (.int .i64 x) := ((H.out.2.2.2).cell (by exact hb)).trans hcell
                have C1 := Lib.hid (fun w' => sector07 x w' hxw)
                have P1 := Lib.hid (fun w' => pick07 x 6 w' hxw (by decide) (by decide))
                have hz := sectB_size x
                have hm := pickZ_in x 6 (by decide)
                obtain ⟨m, hmm⟩ : ∃ m : Nat, pickZ x 6 = (m : Int) := ⟨(pickZ x 6).toNat, by omega⟩
                rw [hmm] at P1 hm
                generalize sectB x = t at *
                have hm6 : m < 6 := by omega
                have im : (m : Int) < 6 := by omega
                have W2 : Acts Try.prog 13 #[.pointer (some a), .int .i64 (m : Int), .string t] (.returned (.int .i64 0)) (Disk S2 a) (Disk (S2.write m t) a) := by
                  have h := disk_write S2 a m t (by have := H.out.1.2.2.2; unfold DiskSt.Few; omega) (by rw [H.out.1.2.1]; exact hm6) hz
                  rw [H.out.1.1.err] at h
                  exact h
                replace W2 := Lib.hid W2
                clear hu hx hcell hxw hmm
                go_wp2_with fail
                refine (P1.out _).mono ?_
                rintro e w5 ⟨rfl, rfl⟩
                go_wp2_with fail
                refine (C1.out _).mono ?_
                rintro e w6 ⟨rfl, b6⟩
                have r6 := H.out.2.1.below b6 H.out.2.1.lt
                have h6 := H.out.2.2.1.below (disk_local _ _) b6
                have bb6 := below_call H.out.2.2.2 b6
                have ck := r6.cell (sixV_at _ hm6)
                have fk := r6.free (j := m) (by rw [sixV_length]; exact hm6)
                have r7 := r6.set_ m (.string t)
                rw [sixV_set] at r7
                have h7 := h6.setCell (disk_local _ _) (p := ⟨g, m, none⟩) (by simp) (.string t)
                have bb7 := bb6.setCell (p := ⟨g, m, none⟩) (by exact hw) (.string t)
                have c7 := r7.cell (sixV_at _ hm6)
                rw [show updF S2.read m t m = t from if_pos rfl] at c7
                clear r6 h6 bb6
                go_wp2_with fail
                with_reducible refine (W2.out.has h7).mono ?_
                rintro e w8 ⟨rfl, h8, k8⟩
                have H8 : Hid (((S2.write m t).On ∧ (S2.write m t).n = 6 ∧ (S2.write m t).Whole ∧ (S2.write m t).acts ≤ 60 + (k2 + 1)) ∧ Row w8 g (sixV (S2.write m t).read) ∧ Has (Disk (S2.write m t) a) B0 [g] w8 ∧ Below w.heap.size w w8) :=
                  Lib.hid ⟨⟨H.out.1.1.write_on m t, by rw [DiskSt.n_write, H.out.1.2.1], DiskSt.whole_write H.out.1.2.2.1 hz, by have := DiskSt.acts_write S2 m t; have := H.out.1.2.2.2; omega⟩, by rw [H.out.1.1.write_read]; exact k8.row (by simp) r7, h8, bb7.trans (k8.below.mono hB1)⟩
                clear h7 h8 r7 bb7 k8 W2 P1 C1 c7 ck fk
                go_wp2
                go_roundw
                case rel => exact ⟨k2 + 1, _, by omega, by omega, by go_num, H8⟩
                case measure => simp [intOf]; omega
              · have W1 : Acts Try.prog 11 #[.pointer (some a)] (.returned (.int .i64 0)) (Disk S2 a) (Disk S2.flush a) := by
                  have h := disk_flush S2 a (by have := H.out.1.2.2.2; unfold DiskSt.Few; omega) H.out.1.2.2.1
                  rw [H.out.1.1.err] at h
                  exact h
                have R3 := Lib.hid (disk_restart S2.flush a A3 n3 c3 l3 (DiskSt.whole_flush H.out.1.2.2.1) hnc3)
                have hRs : (S2.flush.restart l3).sure = S2.read := by
                  funext j
                  show (if S2.flush.stays l3 j = true then S2.flush.read j else S2.flush.sure j) = S2.read j
                  rw [H.out.1.1.flush_read, show S2.flush.sure = S2.read by rw [H.out.1.1.flush], ite_self]
                have I2 : ∀ w', (∃ F, Disk (S2.flush.restart l3) a w' F) → Calls Try.prog 15 #[.pointer (some a)] w' fun e w2 => Below w'.heap.size w' w2 ∧ ∃ A c, e = .returned (.slice A 6 c) ∧ Reads w2 w2.heap.size A 6 (((List.range 6).map S2.read).map .string) ∧ ∀ b o, A = some ⟨b, o, none⟩ → w'.heap.size ≤ b := fun w' h => by
                  have h := disk_image (S2.flush.restart l3) a w' h (DiskSt.whole_restart (DiskSt.whole_flush H.out.1.2.2.1) l3)
                  rw [show (S2.flush.restart l3).n = 6 by show S2.flush.n = 6; rw [DiskSt.n_flush, H.out.1.2.1], hRs] at h
                  exact h
                have hsix : sixV S2.read = ((List.range 6).map S2.read).map .string := by
                  rw [List.map_map]
                  rfl
                replace W1 := Lib.hid W1
                replace I2 := Lib.hid I2
                clear hRs
                go_wp2_with fail
                all_goals
                  with_reducible refine (W1.out.has H.out.2.2.1).mono ?_
                  rintro e w6 ⟨rfl, h6, k6⟩
                  have r6 := k6.row (g := g) (by simp) H.out.2.1
                  have b6 := H.out.2.2.2.trans (k6.below.mono hB1)
                  obtain ⟨hr9, ha9⟩ := reads_ahead (w := w6) (B := B0) (X := [g]) HR3.out hB1 b6 h6.size
                  clear k6
                  go_wp2_with fail
                  with_reducible refine (R3.out.has h6 hr9 ha9).mono ?_
                  rintro e w7 ⟨rfl, h7, k7⟩
                  have r7 := k7.row (g := g) (by simp) r6
                  have b7 := b6.trans (k7.below.mono hB1)
                  clear r6 b6 h6 hr9 ha9 k7
                  go_wp2_with fail
                  refine (I2.out _ (h7.sees (.refl _))).mono ?_
                  rintro e w10 ⟨b10, A10, c10, rfl, r10, f10⟩
                  have r11 := r7.below b10 r7.lt
                  have b11 := below_call b7 b10
                  have HT := Lib.hid (texts_same A10 (some ⟨g, 0, none⟩) 6 c10 6 6 ((List.range 6).map S2.read) w10 r10 (by rw [← hsix]; exact row_slice r11 (sixV_length _)) (by decide))
                  go_wp2_with fail
                  refine HT.out.mono ?_
                  rintro e w12 ⟨rfl, b12⟩
                  have b13 := below_call b11 b12
                  go_wp2
                  go_ret
                  exact ⟨rfl, b13⟩
end Go.Proofs.Ytoalckcpahnpmaa
