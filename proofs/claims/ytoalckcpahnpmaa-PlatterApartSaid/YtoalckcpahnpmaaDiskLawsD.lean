/- Layer 7: the statements, walked: PlatterKeeps. -/
import Derived.Test.YtoalckcpahnpmaaDiskSix
namespace Go.Proofs.Ytoalckcpahnpmaa
open Go.RowKit Go.ChangeShapes Go.WideShapes

theorem restart_cached (S : DiskSt) (l : List Int) : (S.restart l).cached = [] := by
  unfold DiskSt.cached
  rw [List.filter_eq_nil_iff]
  intro x _ h
  cases h
theorem restart_twice (S : DiskSt) (l l2 : List Int) : ((S.restart l).restart l2).sure = (S.restart l).sure := by
  funext k
  show (if (S.restart l).stays l2 k = true then (S.restart l).read k else (S.restart l).sure k) = _
  rw [show (S.restart l).read k = (S.restart l).sure k from rfl, ite_self]
theorem restart_read (S : DiskSt) (l : List Int) (k : Nat) : (S.restart l).read k = (S.restart l).sure k := rfl
theorem restart_one (S : DiskSt) (l : List Int) (k : Nat) : (S.restart l).sure k = S.sure k ∨ (S.restart l).sure k = S.read k := by
  show (if S.stays l k = true then S.read k else S.sure k) = _ ∨ (if S.stays l k = true then S.read k else S.sure k) = _
  split
  · exact Or.inr rfl
  · exact Or.inl rfl

/-- six texts stored one behind the other -/
theorem six_store {w : World} {g : Nat} {h : Nat → ByteArray} (f : Nat → ByteArray) (r : Row w g (sixV h)) : Row ((((((w.setCell ⟨g, 0, none⟩ (.string (f 0))).setCell ⟨g, 1, none⟩ (.string (f 1))).setCell ⟨g, 2, none⟩ (.string (f 2))).setCell ⟨g, 3, none⟩ (.string (f 3))).setCell ⟨g, 4, none⟩ (.string (f 4))).setCell ⟨g, 5, none⟩ (.string (f 5))) g (sixV f) := by
  have r5 := (((((r.set_ 0 (.string (f 0))).set_ 1 (.string (f 1))).set_ 2 (.string (f 2))).set_ 3 (.string (f 3))).set_ 4 (.string (f 4))).set_ 5 (.string (f 5))
  rw [sixV_set, sixV_set, sixV_set, sixV_set, sixV_set, sixV_set] at r5
  rw [sixV_eq (f := f) (h := updF (updF (updF (updF (updF (updF h 0 (f 0)) 1 (f 1)) 2 (f 2)) 3 (f 3)) 4 (f 4)) 5 (f 5))]
  · exact r5
  · intro j hj
    have : j = 0 ∨ j = 1 ∨ j = 2 ∨ j = 3 ∨ j = 4 ∨ j = 5 := by omega
    rcases this with rfl | rfl | rfl | rfl | rfl | rfl <;> rfl
theorem six_beside {w : World} {g g2 : Nat} {xs : List Value} (f : Nat → ByteArray) (r : Row w g2 xs) (hne : g ≠ g2) : Row ((((((w.setCell ⟨g, 0, none⟩ (.string (f 0))).setCell ⟨g, 1, none⟩ (.string (f 1))).setCell ⟨g, 2, none⟩ (.string (f 2))).setCell ⟨g, 3, none⟩ (.string (f 3))).setCell ⟨g, 4, none⟩ (.string (f 4))).setCell ⟨g, 5, none⟩ (.string (f 5))) g2 xs :=
  (((((r.far (by exact hne) _).far (by exact hne) _).far (by exact hne) _).far (by exact hne) _).far (by exact hne) _).far (by exact hne) _
theorem six_has {T : World → (Nat → Prop) → Prop} {B : Nat} {X : List Nat} {w : World} {g : Nat} (f : Nat → ByteArray) (hl : Local T) (h : Has T B X w) (hg : g ∈ X) : Has T B X ((((((w.setCell ⟨g, 0, none⟩ (.string (f 0))).setCell ⟨g, 1, none⟩ (.string (f 1))).setCell ⟨g, 2, none⟩ (.string (f 2))).setCell ⟨g, 3, none⟩ (.string (f 3))).setCell ⟨g, 4, none⟩ (.string (f 4))).setCell ⟨g, 5, none⟩ (.string (f 5))) :=
  (((((h.setCell hl (by exact hg) _).setCell hl (by exact hg) _).setCell hl (by exact hg) _).setCell hl (by exact hg) _).setCell hl (by exact hg) _).setCell hl (by exact hg) _
theorem six_below {B : Nat} {w0 w : World} {g : Nat} (f : Nat → ByteArray) (h : Below B w0 w) (hg : B ≤ g) : Below B w0 ((((((w.setCell ⟨g, 0, none⟩ (.string (f 0))).setCell ⟨g, 1, none⟩ (.string (f 1))).setCell ⟨g, 2, none⟩ (.string (f 2))).setCell ⟨g, 3, none⟩ (.string (f 3))).setCell ⟨g, 4, none⟩ (.string (f 4))).setCell ⟨g, 5, none⟩ (.string (f 5))) :=
  (((((h.setCell (by exact hg) _).setCell (by exact hg) _).setCell (by exact hg) _).setCell (by exact hg) _).setCell (by exact hg) _).setCell (by exact hg) _

set_option maxRecDepth 100000 in
set_option maxHeartbeats 3200000 in
/-- PlatterKeeps -/
theorem keeps_any (A A2 A3 : Option Addr) (n c n2 c2 n3 c3 : Nat) (V : Nat → Nat → Value) (l l3 : List Int) (w : World) (_hc : n ≤ 140737488351232) (hr : ReadsS w w.heap.size A n 6 V) (ho : ActsOk n V)
    (hnc2 : n2 ≤ c2) (hr2 : Reads w w.heap.size A2 n2 (l.map (.int .i64))) (hnc3 : n3 ≤ c3) (hr3 : Reads w w.heap.size A3 n3 (l3.map (.int .i64))) :
    Holds Try.prog 3 #[.slice A n c, .slice A2 n2 c2, .slice A3 n3 c3] w := by
  have HR := Lib.hid hr
  have HO := Lib.hid ho
  have HR2 := Lib.hid hr2
  have HR3 := Lib.hid hr3
  clear hr ho hr2 hr3
  unfold Holds
  go_enter Try.func3, Try.ntmps3
  go_wp2_with fail
  refine (awake07 _).mono ?_
  rintro e w1 ⟨rfl, b1⟩
  go_wp2_with fail
  refine (disk_new 6 _ (by decide) (by decide)).mono ?_
  rintro e w2 ⟨a, rfl, h2, b2⟩
  replace b2 := below_call b1 b2
  have hB1 : w.heap.size ≤ w1.heap.size := b1.size
  generalize w1.heap.size = B0 at *
  go_wp2_with fail
  obtain ⟨w3, hw3, r3, b3, hs3, add3⟩ := six_new w2
  obtain ⟨w4, hw4, r4, b4, hs4, add4⟩ := six_new w3
  rw [hw3, hw4]
  clear hw3 hw4
  rw [hs3] at r4 add4
  have h3 := add3 _ _ _ (disk_local _ _) h2
  have h4 := add4 _ _ _ (disk_local _ _) h3
  have r3' := r3.below b4 r3.lt
  replace b4 := below_call b2 (below_call b3 b4)
  have hB : w.heap.size ≤ w2.heap.size := b2.size
  clear add3 add4 h2 h3 r3 b3 b2 b1 hs4 hs3
  generalize w2.heap.size = g at *
  obtain ⟨S0, hS0⟩ : ∃ S, DiskSt.new 6 = S := ⟨_, rfl⟩
  rw [hS0] at h4
  go_loopw [12] (fun i wr => ∃ k : Nat, k ≤ 6 ∧ i = .int .i64 k ∧ Hid (Row wr g (sixV (firstF k)) ∧ Row wr (g + 1) (sixV (firstF k)) ∧ Has (Disk S0 a) B0 [g + 1, g] wr ∧ Below w.heap.size w wr)) (fun i _ => 6 - (intOf i).toNat)
  case atStart => exact ⟨0, by omega, rfl, Lib.hid ⟨r3', r4, h4, b4⟩⟩
  case round =>
    clear r3' r4 h4 b4
    obtain ⟨k, hk, rfl, H⟩ := hrel
    by_cases hk6 : k < 6
    · have dk : decide ((k : Int) < 6) = true := by simp; omega
      have ik : (k : Int) < 6 := by omega
      go_wp2_with (at_make; refine wpList_mk 30 5 (.int .u8 0) 1 rfl _ _ rfl Try.underlying30 info07_u8 rfl (n := 64) rfl rfl (by omega) (by unfold maxLen; omega) ?_; intro w4 hlt4 b4 hrow4 hown4; have hconv := nought_conv hrow4; have r4 := H.out.1.below b4 H.out.1.lt; have ck := r4.cell (sixV_at _ hk6); have fk := r4.free (j := k) (by rw [sixV_length]; exact hk6); have r5 := r4.set_ k (.string noughtB); rw [sixV_set, firstF_upd] at r5; have q4 := (H.out.2.1.below b4 H.out.2.1.lt).far (p := ⟨g, k, none⟩) (by simp <;> omega) (.string noughtB); have ck2 := r5.cell (sixV_at _ hk6); rw [show firstF (k + 1) k = noughtB from if_pos (by omega)] at ck2; have cl := q4.cell (sixV_at _ hk6); have fl := q4.free (j := k) (by rw [sixV_length]; exact hk6); clear hown4 hlt4)
      have q5 := q4.set_ k (.string noughtB)
      rw [sixV_set, firstF_upd] at q5
      have r6 := r5.far (p := ⟨g + 1, k, none⟩) (by simp <;> omega) (.string noughtB)
      have h6 := ((H.out.2.2.1.below (disk_local _ _) b4).setCell (disk_local _ _) (p := ⟨g, k, none⟩) (by simp) (.string noughtB)).setCell (disk_local _ _) (p := ⟨g + 1, k, none⟩) (by simp) (.string noughtB)
      have b6 := ((below_call H.out.2.2.2 b4).setCell (p := ⟨g, k, none⟩) (by exact hB) (.string noughtB)).setCell (p := ⟨g + 1, k, none⟩) (by show w.heap.size ≤ g + 1; omega) (.string noughtB)
      go_roundw
      case rel => exact ⟨k + 1, by omega, by go_num, Lib.hid ⟨r6, q5, h6, b6⟩⟩
      case measure => simp [intOf]; omega
    · obtain rfl : k = 6 := by omega
      rw [show ((6 : Nat) : Int) = 6 from rfl]
      have e6 : sixV (firstF 6) = sixV S0.read ∧ sixV (firstF 6) = sixV S0.sure := by
        rw [← hS0]
        exact ⟨sixV_eq fun j hj => by unfold firstF; rw [if_pos hj]; rfl, sixV_eq fun j hj => by unfold firstF; rw [if_pos hj]; rfl⟩
      have hon : S0.On ∧ S0.n = 6 ∧ S0.Whole ∧ S0.acts = 0 := by
        rw [← hS0]
        exact ⟨⟨rfl, rfl⟩, rfl, DiskSt.whole_new 6, rfl⟩
      have H1 : Hid ((S0.On ∧ S0.n = 6 ∧ S0.Whole ∧ S0.acts = 0) ∧ Row wr g (sixV S0.sure) ∧ Row wr (g + 1) (sixV S0.read) ∧ Has (Disk S0 a) B0 [g + 1, g] wr ∧ Below w.heap.size w wr) :=
        Lib.hid ⟨hon, by rw [← e6.2]; exact H.out.1, by rw [← e6.1]; exact H.out.2.1, H.out.2.2⟩
      clear H e6 hS0 hon
      go_wp2
      go_loopw [13] (fun i wr => ∃ (k : Nat) (S : DiskSt), k ≤ n ∧ k ≤ 80 ∧ i = .int .i64 k ∧ Hid ((S.On ∧ S.n = 6 ∧ S.Whole ∧ S.acts = k) ∧ Row wr g (sixV S.sure) ∧ Row wr (g + 1) (sixV S.read) ∧ Has (Disk S a) B0 [g + 1, g] wr ∧ Below w.heap.size w wr)) (fun i _ => n - (intOf i).toNat)
      case atStart => exact ⟨0, S0, Nat.zero_le _, by omega, rfl, H1⟩
      case round =>
        clear H1
        obtain ⟨k, S, hkn, hk80, rfl, H⟩ := hrel
        by_cases hk : k < n ∧ k < 80
        · obtain ⟨hk1, hk2⟩ := hk
          have dk : decide ((k : Int) < n) = true := by simp; omega
          have dk2 : decide ((k : Int) < 80) = true := by simp; omega
          have ik : (k : Int) < n := by omega
          obtain ⟨b, o, rfl, hb, hcell⟩ := HR.out.at_ hk1
          obtain ⟨zw, zn, zt, zl, e0, e1, e2, e3, f0, f1, f2, f3⟩ := HO.out k hk1
          have c0 : wr.cell? ⟨b, o + k * 6, none⟩ = some (.int .i64 zw) := ((H.out.2.2.2.2).cell (by exact hb)).trans ((hcell 0 (by decide)).trans (by rw [e0]))
          have c1 : wr.cell? ⟨b, o + k * 6 + 1, none⟩ = some (.int .i64 zn) := ((H.out.2.2.2.2).cell (by exact hb)).trans ((hcell 1 (by decide)).trans (by rw [e1]))
          have c3 : wr.cell? ⟨b, o + k * 6 + 3, none⟩ = some (.int .i64 zl) := ((H.out.2.2.2.2).cell (by exact hb)).trans ((hcell 3 (by decide)).trans (by rw [e3]))
          clear hcell e0 e1 e2 e3 f2
          have P1 := Lib.hid (fun w' => pick07 zn 6 w' f1 (by decide) (by decide))
          have P2 := Lib.hid (fun w' => pick07 zw 4 w' f0 (by decide) (by decide))
          have C1 := Lib.hid (fun w' => sector07 zl w' f3)
          have hz := sectB_size zl
          have hm := pickZ_in zn 6 (by decide)
          obtain ⟨m, hmm⟩ : ∃ m : Nat, pickZ zn 6 = (m : Int) := ⟨(pickZ zn 6).toNat, by omega⟩
          rw [hmm] at P1 hm
          generalize pickZ zw 4 = q at P2
          generalize sectB zl = t at *
          clear hmm f0 f1 f3
          have hm6 : m < 6 := by omega
          have im : (m : Int) < 6 := by omega
          have W1 : Acts Try.prog 11 #[.pointer (some a)] (.returned (.int .i64 0)) (Disk S a) (Disk S.flush a) := by
            have h := disk_flush S a (by have := H.out.1.2.2.2; unfold DiskSt.Few; omega) H.out.1.2.2.1
            rw [H.out.1.1.err] at h
            exact h
          have W2 : Acts Try.prog 13 #[.pointer (some a), .int .i64 (m : Int), .string t] (.returned (.int .i64 0)) (Disk S a) (Disk (S.write m t) a) := by
            have h := disk_write S a m t (by have := H.out.1.2.2.2; unfold DiskSt.Few; omega) (by rw [H.out.1.2.1]; exact hm6) hz
            rw [H.out.1.1.err] at h
            exact h
          replace W1 := Lib.hid W1
          replace W2 := Lib.hid W2
          go_wp2_with fail
          refine (P1.out _).mono ?_
          rintro e w5 ⟨rfl, rfl⟩
          go_wp2_with fail
          refine (P2.out _).mono ?_
          rintro e w5 ⟨rfl, rfl⟩
          go_wp2_with fail
          all_goals first
            | (with_reducible refine (W1.out.has H.out.2.2.2.1).mono ?_
               rintro e w6 ⟨rfl, h6, k6⟩
               have b6 := H.out.2.2.2.2.trans (k6.below.mono hB1)
               have r6 := k6.row (g := g) (by simp) H.out.2.1
               have q6 := k6.row (g := g + 1) (by simp) H.out.2.2.1
               have s0 := r6.cell (j := 0) (sixV_at _ (by decide))
               have fs0 := r6.free (j := 0) (by rw [sixV_length]; decide)
               have l0 := q6.cell (j := 0) (sixV_at _ (by decide))
               have s1 := r6.cell (j := 1) (sixV_at _ (by decide))
               have fs1 := r6.free (j := 1) (by rw [sixV_length]; decide)
               have l1 := q6.cell (j := 1) (sixV_at _ (by decide))
               have s2 := r6.cell (j := 2) (sixV_at _ (by decide))
               have fs2 := r6.free (j := 2) (by rw [sixV_length]; decide)
               have l2 := q6.cell (j := 2) (sixV_at _ (by decide))
               have s3 := r6.cell (j := 3) (sixV_at _ (by decide))
               have fs3 := r6.free (j := 3) (by rw [sixV_length]; decide)
               have l3 := q6.cell (j := 3) (sixV_at _ (by decide))
               have s4 := r6.cell (j := 4) (sixV_at _ (by decide))
               have fs4 := r6.free (j := 4) (by rw [sixV_length]; decide)
               have l4 := q6.cell (j := 4) (sixV_at _ (by decide))
               have s5 := r6.cell (j := 5) (sixV_at _ (by decide))
               have fs5 := r6.free (j := 5) (by rw [sixV_length]; decide)
               have l5 := q6.cell (j := 5) (sixV_at _ (by decide))
               have hfl : (S.flush.On ∧ S.flush.n = 6 ∧ S.flush.Whole ∧ S.flush.acts = k + 1) ∧ S.flush.sure = S.read ∧ S.flush.read = S.read :=
                 ⟨⟨H.out.1.1.flush_on, by rw [DiskSt.n_flush, H.out.1.2.1], DiskSt.whole_flush H.out.1.2.2.1, by rw [H.out.1.1.flush, ← H.out.1.2.2.2]⟩, by rw [H.out.1.1.flush], H.out.1.1.flush_read⟩
               have HF := Lib.hid hfl
               have x1 := six_store S.read r6
               have x2 := six_beside (g := g) S.read q6 (by omega)
               have x3 := six_has (g := g) S.read (disk_local _ _) h6 (by simp)
               have x4 := six_below (g := g) S.read b6 (by exact hB)
               have HX := Lib.hid (And.intro x1 (And.intro x2 (And.intro x3 x4)))
               clear hfl x1 x2 x3 x4 h6 b6 k6 W1 W2 P1 P2 C1 r6 q6
               go_wp2
               go_roundw
               case rel => exact ⟨k + 1, S.flush, by omega, by omega, by go_num, Lib.hid ⟨HF.out.1, by rw [HF.out.2.1]; exact HX.out.1, by rw [HF.out.2.2]; exact HX.out.2.1, HX.out.2.2.1, HX.out.2.2.2⟩⟩
               case measure => simp [intOf]; omega)
            | (with_reducible refine (C1.out _).mono ?_
               rintro e w6 ⟨rfl, b6⟩
               have r6 := H.out.2.1.below b6 H.out.2.1.lt
               have q6 := H.out.2.2.1.below b6 H.out.2.2.1.lt
               have h6 := H.out.2.2.2.1.below (disk_local _ _) b6
               have bb6 := below_call H.out.2.2.2.2 b6
               have ck := q6.cell (sixV_at _ hm6)
               have fk := q6.free (j := m) (by rw [sixV_length]; exact hm6)
               have q7 := q6.set_ m (.string t)
               rw [sixV_set] at q7
               have r7 := r6.far (p := ⟨g + 1, m, none⟩) (by simp <;> omega) (.string t)
               have h7 := h6.setCell (disk_local _ _) (p := ⟨g + 1, m, none⟩) (by simp) (.string t)
               have bb7 := bb6.setCell (p := ⟨g + 1, m, none⟩) (by show w.heap.size ≤ g + 1; omega) (.string t)
               have c7 := q7.cell (sixV_at _ hm6)
               rw [show updF S.read m t m = t from if_pos rfl] at c7
               clear r6 q6 h6 bb6
               go_wp2_with fail
               with_reducible refine (W2.out.has h7).mono ?_
               rintro e w8 ⟨rfl, h8, k8⟩
               have x1 := k8.row (g := g) (by simp) r7
               have x2 := k8.row (g := g + 1) (by simp) q7
               have x4 := bb7.trans (k8.below.mono hB1)
               have H8 : Hid (((S.write m t).On ∧ (S.write m t).n = 6 ∧ (S.write m t).Whole ∧ (S.write m t).acts = k + 1) ∧ Row w8 g (sixV (S.write m t).sure) ∧ Row w8 (g + 1) (sixV (S.write m t).read) ∧ Has (Disk (S.write m t) a) B0 [g + 1, g] w8 ∧ Below w.heap.size w w8) :=
                 Lib.hid ⟨⟨H.out.1.1.write_on m t, by rw [DiskSt.n_write, H.out.1.2.1], DiskSt.whole_write H.out.1.2.2.1 hz, by rw [H.out.1.1.write, ← H.out.1.2.2.2]⟩, by rw [H.out.1.1.write]; exact x1, by rw [H.out.1.1.write_read]; exact x2, h8, x4⟩
               clear x1 x2 x4 h7 h8 r7 q7 bb7 k8 W1 W2 P1 P2 C1
               go_wp2
               go_roundw
               case rel => exact ⟨k + 1, S.write m t, by omega, by omega, by go_num, H8⟩
               case measure => simp [intOf]; omega)
        · obtain ⟨hon, hn6, hw, hk6⟩ := H.out.1
          have R1 := Lib.hid (disk_restart S a A2 n2 c2 l hw hnc2)
          obtain ⟨hr8, ha8⟩ := reads_ahead (w := wr) (B := B0) (X := [g + 1, g]) HR2.out hB1 H.out.2.2.2.2 H.out.2.2.2.1.size
          have H8 := Lib.hid hr8
          have HA8 := Lib.hid ha8
          obtain ⟨R, hR⟩ : ∃ R, S.restart l = R := ⟨_, rfl⟩
          have hRn : R.n = 6 := by rw [← hR]; exact hn6
          have hRw : R.Whole := by rw [← hR]; exact DiskSt.whole_restart hw l
          have hRo : R.off = false := by rw [← hR]; rfl
          have hRc : R.cached = [] := by rw [← hR]; exact restart_cached S l
          have hRr : ∀ j, R.read j = R.sure j := fun j => by rw [← hR]; rfl
          have hR1 : ∀ j, R.sure j = S.sure j ∨ R.sure j = S.read j := fun j => by rw [← hR]; exact restart_one S l j
          have hR2 : (R.restart l3).sure = R.sure := by rw [← hR]; exact restart_twice S l l3
          rw [hR] at R1
          have I1 : ∀ w', (∃ F, Disk R a w' F) → Calls Try.prog 15 #[.pointer (some a)] w' fun e w2 => Below w'.heap.size w' w2 ∧ ∃ A c, e = .returned (.slice A 6 c) ∧ Reads w2 w2.heap.size A 6 (((List.range 6).map R.sure).map .string) ∧ ∀ b o, A = some ⟨b, o, none⟩ → w'.heap.size ≤ b := fun w' h => by
            have h := disk_image R a w' h hRw
            rw [hRn] at h
            exact h
          have I2 : ∀ w', (∃ F, Disk (R.restart l3) a w' F) → Calls Try.prog 15 #[.pointer (some a)] w' fun e w2 => Below w'.heap.size w' w2 ∧ ∃ A c, e = .returned (.slice A 6 c) ∧ Reads w2 w2.heap.size A 6 (((List.range 6).map R.sure).map .string) ∧ ∀ b o, A = some ⟨b, o, none⟩ → w'.heap.size ≤ b := fun w' h => by
            have h := disk_image (R.restart l3) a w' h (DiskSt.whole_restart hRw l3)
            rw [show (R.restart l3).n = 6 from hRn, hR2] at h
            exact h
          have I3 : ∀ w', (∃ F, Disk R a w' F) → Calls Try.prog 16 #[.pointer (some a)] w' fun e w2 => Below w'.heap.size w' w2 ∧ ∃ A c, e = .returned (.slice A 0 c) := fun w' h => by
            refine (disk_cached R a w' h).mono ?_
            rw [hRc]
            rintro e w2 ⟨hb, A, c, he, _⟩
            exact ⟨hb, A, c, he⟩
          have I4 : ∀ (j : Nat) w', j < 6 → (∃ F, Disk R a w' F) → Calls Try.prog 17 #[.pointer (some a), .int .i64 (j : Int)] w' fun e w2 => e = .returned (.tuple #[.string (R.sure j), .int .i64 0]) ∧ Below w'.heap.size w' w2 := fun j w' hj h => by
            have h := disk_read R a j w' h hRo (by rw [hRn]; exact hj) hRw
            rw [hRr] at h
            exact h
          have R5 := Lib.hid (disk_restart R a A3 n3 c3 l3 hRw hnc3)
          replace I1 := Lib.hid I1
          replace I2 := Lib.hid I2
          replace I3 := Lib.hid I3
          replace I4 := Lib.hid I4
          replace hR1 := Lib.hid hR1
          clear hr8 ha8 hon hn6 hw hk6 hR hRn hRw hRo hRc hRr hR2
          go_wp2_with fail
          all_goals
            with_reducible refine (R1.out.has H.out.2.2.2.1 H8.out HA8.out).mono ?_
            rintro e w6 ⟨rfl, h6, k6⟩
            have b6 := H.out.2.2.2.2.trans (k6.below.mono hB1)
            have r6 := k6.row (g := g) (by simp) H.out.2.1
            have q6 := k6.row (g := g + 1) (by simp) H.out.2.2.1
            clear k6 H H8 HA8 R1
            go_wp2_with fail
            refine (I1.out _ (h6.sees (.refl _))).mono ?_
            rintro e w7 ⟨b7, A7, c7, rfl, r7, f7⟩
            obtain ⟨g7, o7, rfl, hg7, -⟩ := r7.2 (by decide)
            have h7 := h6.add (disk_local _ _) b7 (f7 _ _ rfl) hg7
            have H7 := Lib.hid (And.intro (r6.below b7 r6.lt) (And.intro (q6.below b7 q6.lt) (And.intro r7 (And.intro h7 (below_call b6 b7)))))
            clear r6 q6 r7 h7 b6 b7 f7 h6 I1
            go_wp2_with fail
            refine (I3.out _ (H7.out.2.2.2.1.sees (.refl _))).mono ?_
            rintro e w8 ⟨b8, A8, c8, rfl⟩
            have H8 := Lib.hid (And.intro (H7.out.1.below b8 H7.out.1.lt) (And.intro (H7.out.2.1.below b8 H7.out.2.1.lt) (And.intro ((H7.out.2.2.1.below b8).more b8.size) (And.intro (H7.out.2.2.2.1.below (disk_local _ _) b8) (below_call H7.out.2.2.2.2 b8)))))
            clear H7 b8 I3
            go_wp2
            go_loopw [16] (fun i wr => ∃ j : Nat, j ≤ 6 ∧ i = .int .i64 j ∧ Hid (Row wr g (sixV S.sure) ∧ Row wr (g + 1) (sixV S.read) ∧ Reads wr wr.heap.size (some ⟨g7, o7, none⟩) 6 (((List.range 6).map R.sure).map .string) ∧ Has (Disk R a) B0 [g7, g + 1, g] wr ∧ Below w.heap.size w wr)) (fun i _ => 6 - (intOf i).toNat)
            case atStart => exact ⟨0, Nat.zero_le _, rfl, H8⟩
            case round =>
              clear H8
              obtain ⟨j, hj, rfl, H2⟩ := hrel
              by_cases hj6 : j < 6
              · have dj : decide ((j : Int) < 6) = true := by simp; omega
                have ij : (j : Int) < 6 := by omega
                have hw7 : (((List.range 6).map R.sure).map Value.string)[j]? = some (.string (R.sure j)) := by
                  rw [List.getElem?_map, List.getElem?_map, List.getElem?_range hj6]
                  rfl
                go_wp2_with fail
                with_reducible refine (I4.out j _ hj6 (H2.out.2.2.2.1.sees (.refl _))).mono ?_
                rintro e w9 ⟨rfl, b9⟩
                have H3 := Lib.hid (And.intro (H2.out.1.below b9 H2.out.1.lt) (And.intro (H2.out.2.1.below b9 H2.out.2.1.lt) (And.intro ((H2.out.2.2.1.below b9).more b9.size) (And.intro (H2.out.2.2.2.1.below (disk_local _ _) b9) (below_call H2.out.2.2.2.2 b9)))))
                have cs := H3.out.1.cell (sixV_at _ hj6)
                have cl := H3.out.2.1.cell (sixV_at _ hj6)
                obtain ⟨b', o', u', e', _, hu', cw⟩ := H3.out.2.2.1.at_ hj6
                rw [hw7] at hu'
                obtain rfl := Option.some.inj hu'
                simp only [Option.some.injEq, Addr.mk.injEq] at e'
                obtain ⟨rfl, rfl, _⟩ := e'
                have hor := hR1.out j
                generalize R.sure j = x at *
                generalize S.sure j = y at *
                generalize S.read j = z at *
                clear H2 b9 hw7
                by_cases hxy : x = y
                · subst hxy
                  clear hor
                  go_wp2
                  go_roundw
                  case rel => exact ⟨j + 1, by omega, by go_num, H3⟩
                  case measure => simp [intOf]; omega
                · obtain rfl : x = z := hor.resolve_left hxy
                  have hne : (x.toList == y.toList) = false := by
                    rw [Bool.eq_false_iff]
                    intro h
                    rw [beq_iff_eq, ByteArray.toList_eq, ByteArray.toList_eq] at h
                    exact hxy (ByteArray.ext (Array.ext' h))
                  clear hor
                  go_wp2
                  go_roundw
                  case rel => exact ⟨j + 1, by omega, by go_num, H3⟩
                  case measure => simp [intOf]; omega
              · obtain rfl : j = 6 := by omega
                have dj : decide (((6 : Nat) : Int) < 6) = false := by decide
                obtain ⟨hr9, ha9⟩ := reads_ahead (w := wr) (B := B0) (X := [g7, g + 1, g]) HR3.out hB1 H2.out.2.2.2.2 H2.out.2.2.2.1.size
                go_wp2_with fail
                with_reducible refine (R5.out.has H2.out.2.2.2.1 hr9 ha9).mono ?_
                rintro e w9 ⟨rfl, h9, k9⟩
                have r9 := k9.reads (fun b o e => by simp only [Option.some.injEq, Addr.mk.injEq] at e; simp [e.1]) H2.out.2.2.1
                have b9 := H2.out.2.2.2.2.trans (k9.below.mono hB1)
                clear H2 hr9 ha9 k9
                go_wp2_with fail
                refine (I2.out _ (h9.sees (.refl _))).mono ?_
                rintro e w10 ⟨b10, A10, c10, rfl, r10, f10⟩
                have r11 := (r9.below b10).more b10.size
                have b11 := below_call b9 b10
                go_wp2_with fail
                refine (texts_same _ _ 6 _ _ 6 _ _ r10 r11 (by decide)).mono ?_
                rintro e w12 ⟨rfl, b12⟩
                have b13 := below_call b11 b12
                go_wp2
                go_ret
                exact ⟨rfl, b13⟩
end Go.Proofs.Ytoalckcpahnpmaa
