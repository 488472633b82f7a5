/- Layer 7: the statements, walked: PlatterApart. -/
import Derived.Test.YtoalckcpahnpmaaDiskSix
namespace Go.Proofs.Ytoalckcpahnpmaa
open Go.RowKit Go.ChangeShapes Go.WideShapes

/-- a disk of two sectors of which the second one lasts as it is -/
def ApartInv (S : DiskSt) (i : Nat) (t : ByteArray) : Prop := S.On ∧ S.n = 2 ∧ S.Whole ∧ S.acts ≤ i ∧ S.sure 1 = t ∧ S.last 1 = none
theorem apart_write {S : DiskSt} {i : Nat} {t s : ByteArray} (h : ApartInv S i t) (hs : s.size = 64) : ApartInv (S.write 0 s) (i + 1) t := by
  obtain ⟨h1, h2, h3, h4, h5, h6⟩ := h
  refine ⟨h1.write_on 0 s, by rw [DiskSt.n_write, h2], DiskSt.whole_write h3 hs, Nat.le_trans (DiskSt.acts_write S 0 s) (by omega), by rw [h1.write]; exact h5, ?_⟩
  rw [h1.write]
  show updF S.last 0 (some s) 1 = none
  unfold updF
  rw [if_neg (by decide)]
  exact h6
theorem apart_flush {S : DiskSt} {i : Nat} {t : ByteArray} (h : ApartInv S i t) : ApartInv S.flush (i + 1) t := by
  obtain ⟨h1, h2, h3, h4, h5, h6⟩ := h
  refine ⟨h1.flush_on, by rw [DiskSt.n_flush, h2], DiskSt.whole_flush h3, Nat.le_trans (DiskSt.acts_flush S) (by omega), ?_, by rw [h1.flush]⟩
  rw [h1.flush]
  show S.read 1 = t
  unfold DiskSt.read
  rw [h6]
  exact h5

set_option maxRecDepth 100000 in
set_option maxHeartbeats 1600000 in
/-- PlatterApart -/
theorem apart_any (A A2 : Option Addr) (n c n2 c2 : Nat) (V : Nat → Nat → Value) (l : List Int) (z : Int) (w : World) (_hc : n ≤ 140737488351232) (hr : ReadsS w w.heap.size A n 6 V) (ho : ActsOk n V)
    (hnc2 : n2 ≤ c2) (hr2 : Reads w w.heap.size A2 n2 (l.map (.int .i64))) (hz : (Lit.int .i64 z).wf = true) :
    Holds Try.prog 6 #[.slice A n c, .slice A2 n2 c2, .int .i64 z] w := by
  have HR := Lib.hid hr
  have HO := Lib.hid ho
  have HR2 := Lib.hid hr2
  clear hr ho hr2
  have CT := Lib.hid (fun w' => sector07 z w' hz)
  have hs := sectB_size z
  generalize sectB z = t at *
  clear hz
  obtain ⟨S0, hS0⟩ : ∃ S, DiskSt.new 2 = S := ⟨_, rfl⟩
  obtain ⟨S1, hS1⟩ : ∃ S, S0.write 1 t = S := ⟨_, rfl⟩
  obtain ⟨S2, hS2⟩ : ∃ S, S1.flush = S := ⟨_, rfl⟩
  have C0 : ∀ w', Calls Try.prog 9 #[.int .i64 2] w' fun e w2 => ∃ a, e = .returned (.tuple #[.pointer (some a), .int .i64 0]) ∧ Has (Disk S0 a) w'.heap.size [] w2 ∧ Below w'.heap.size w' w2 := fun w' => by
    rw [← hS0]
    exact disk_new 2 w' (by decide) (by decide)
  have w0 : S0.Whole := by rw [← hS0]; exact DiskSt.whole_new 2
  have A1 : ∀ a, Acts Try.prog 13 #[.pointer (some a), .int .i64 1, .string t] (.returned (.int .i64 0)) (Disk S0 a) (Disk S1 a) := fun a => by
    have h := disk_write S0 a 1 t (by rw [← hS0]; exact (by decide : 0 ≤ 1000000)) (by rw [← hS0]; decide) hs
    rw [hS1, show S0.err = 0 by rw [← hS0]; rfl] at h
    exact h
  have A2' : ∀ a, Acts Try.prog 11 #[.pointer (some a)] (.returned (.int .i64 0)) (Disk S1 a) (Disk S2 a) := fun a => by
    have h := disk_flush S1 a (by rw [← hS1, ← hS0]; exact (by decide : 1 ≤ 1000000)) (by rw [← hS1]; exact DiskSt.whole_write w0 hs)
    rw [hS2, show S1.err = 0 by rw [← hS1, ← hS0]; rfl] at h
    exact h
  have hinv : ApartInv S2 2 t := by
    rw [← hS2, ← hS1, ← hS0]
    exact ⟨⟨rfl, rfl⟩, rfl, DiskSt.whole_flush (DiskSt.whole_write (DiskSt.whole_new 2) hs), Nat.le_refl _, rfl, rfl⟩
  have Q1 : ∀ a w', (∃ F, Disk S0 a w' F) → Calls Try.prog 17 #[.pointer (some a), .int .i64 0] w' fun e w2 => e = .returned (.tuple #[.string noughtB, .int .i64 0]) ∧ Below w'.heap.size w' w2 := fun a w' h => by
    have h := disk_read S0 a 0 w' h (by rw [← hS0]; rfl) (by rw [← hS0]; decide) w0
    rw [show S0.read 0 = noughtB by rw [← hS0]; rfl] at h
    exact h
  have Q2 : ∀ a w', (∃ F, Disk S0 a w' F) → Calls Try.prog 22 #[.pointer (some a)] w' fun e w2 => e = .returned (.int .i64 0) ∧ Below w'.heap.size w' w2 := fun a w' h => by
    have h := disk_acts S0 a w' h
    rw [show S0.acts = 0 by rw [← hS0]; rfl] at h
    exact h
  replace C0 := Lib.hid C0
  replace A1 := Lib.hid A1
  replace A2' := Lib.hid A2'
  replace Q1 := Lib.hid Q1
  replace Q2 := Lib.hid Q2
  have HI := Lib.hid hinv
  clear hS0 hS1 hS2 w0 hs hinv
  unfold Holds
  go_enter Try.func6, Try.ntmps6
  go_wp2_with fail
  refine (awake07 _).mono ?_
  rintro e w1 ⟨rfl, b1⟩
  go_wp2_with fail
  refine (C0.out _).mono ?_
  rintro e w2 ⟨a, rfl, h2, b2⟩
  replace b2 := below_call b1 b2
  go_wp2_with fail
  refine (C0.out _).mono ?_
  rintro e w3 ⟨a2, rfl, h3, b3⟩
  have h4 := h2.both (disk_local _ _) b3 h3
  have hB : w.heap.size ≤ w1.heap.size := b1.size
  replace b3 := below_call b2 b3
  generalize w1.heap.size = B0 at *
  clear h2 h3 b1 b2 C0
  go_wp2_with fail
  refine (CT.out _).mono ?_
  rintro e w5 ⟨rfl, b5⟩
  have lb : ∀ S, Local (Both (Disk S a) (Disk S0 a2)) := fun S => Both.local_ (disk_local _ _) (disk_local _ _)
  have LB := Lib.hid lb
  have h5 := h4.below (LB.out _) b5
  replace b5 := below_call b3 b5
  clear h4 b3 lb
  go_wp2_with fail
  refine (((A1.out a).left (disk_local _ _)).has h5).mono ?_
  rintro e w6 ⟨rfl, h6, k6⟩
  have b6 := b5.trans (k6.below.mono hB)
  clear h5 k6 b5
  go_wp2_with fail
  refine (((A2'.out a).left (disk_local _ _)).has h6).mono ?_
  rintro e w7 ⟨rfl, h7, k7⟩
  have b7 := b6.trans (k7.below.mono hB)
  have H7 := Lib.hid (And.intro h7 b7)
  clear h6 k7 b6 h7 b7 A1 A2'
  go_wp2
  go_loopw [12] (fun i wr => ∃ (k : Nat) (S : DiskSt), k ≤ n ∧ k ≤ 60 ∧ i = .int .i64 k ∧ Hid (ApartInv S (k + 2) t ∧ Has (Both (Disk S a) (Disk S0 a2)) B0 [] wr ∧ Below w.heap.size w wr)) (fun i _ => n - (intOf i).toNat)
  case atStart => exact ⟨0, S2, Nat.zero_le _, by omega, rfl, Lib.hid ⟨HI.out, H7.out⟩⟩
  case round =>
    clear H7 HI
    obtain ⟨k, S, hkn, hk60, rfl, H⟩ := hrel
    by_cases hk : k < n ∧ k < 60
    · obtain ⟨hk1, hk2⟩ := hk
      have dk : decide ((k : Int) < n) = true := by simp; omega
      have dk2 : decide ((k : Int) < 60) = true := by simp; omega
      have ik : (k : Int) < n := by omega
      obtain ⟨b, o, rfl, hb, hcell⟩ := HR.out.at_ hk1
      obtain ⟨zw, zn, zt, zl, e0, e1, e2, e3, f0, f1, f2, f3⟩ := HO.out k hk1
      have c0 : wr.cell? ⟨b, o + k * 6, none⟩ = some (.int .i64 zw) := ((H.out.2.2).cell (by exact hb)).trans ((hcell 0 (by decide)).trans (by rw [e0]))
      have c3 : wr.cell? ⟨b, o + k * 6 + 3, none⟩ = some (.int .i64 zl) := ((H.out.2.2).cell (by exact hb)).trans ((hcell 3 (by decide)).trans (by rw [e3]))
      clear hcell e0 e1 e2 e3 f2 f1
      have P2 := Lib.hid (fun w' => pick07 zw 4 w' f0 (by decide) (by decide))
      have C1 := Lib.hid (fun w' => sector07 zl w' f3)
      have hz := sectB_size zl
      generalize pickZ zw 4 = q at P2
      generalize sectB zl = t2 at *
      have hfew : S.Few := by have := H.out.1.2.2.2.1; unfold DiskSt.Few; omega
      have W1 := Lib.hid (((disk_flush S a hfew H.out.1.2.2.1).left (disk_local S0 a2)).has H.out.2.1)
      have W2 : Hid (Acts Try.prog 13 #[.pointer (some a), .int .i64 0, .string t2] (.returned (.int .i64 S.err)) (Both (Disk S a) (Disk S0 a2)) (Both (Disk (S.write 0 t2) a) (Disk S0 a2))) := Lib.hid ((disk_write S a 0 t2 hfew (by rw [H.out.1.2.1]; decide) hz).left (disk_local S0 a2))
      clear f0 f3
      go_wp2_with fail
      refine (P2.out _).mono ?_
      rintro e w5 ⟨rfl, rfl⟩
      go_wp2_with fail
      all_goals first
        | (with_reducible refine W1.out.mono ?_
           rintro e w6 ⟨rfl, h6, k6⟩
           have b6 := H.out.2.2.trans (k6.below.mono hB)
           have H1 : Hid (ApartInv S.flush (k + 1 + 2) t ∧ Has (Both (Disk S.flush a) (Disk S0 a2)) B0 [] w6 ∧ Below w.heap.size w w6) := Lib.hid ⟨apart_flush H.out.1, h6, b6⟩
           clear W1 W2 H h6 k6 b6 c0 c3
           go_wp2
           go_roundw
           case rel => exact ⟨k + 1, _, by omega, by omega, by go_num, H1⟩
           case measure => simp [intOf]; omega)
        | (with_reducible refine (C1.out _).mono ?_
           rintro e w6 ⟨rfl, b6⟩
           have h6 := H.out.2.1.below (LB.out _) b6
           have bb6 := below_call H.out.2.2 b6
           go_wp2_with fail
           with_reducible refine (W2.out.has h6).mono ?_
           rintro e w7 ⟨rfl, h7, k7⟩
           have b7 := bb6.trans (k7.below.mono hB)
           have H1 : Hid (ApartInv (S.write 0 t2) (k + 1 + 2) t ∧ Has (Both (Disk (S.write 0 t2) a) (Disk S0 a2)) B0 [] w7 ∧ Below w.heap.size w w7) := Lib.hid ⟨apart_write H.out.1 hz, h7, b7⟩
           clear W1 W2 H h6 h7 k7 b7 bb6 c0 c3
           go_wp2
           go_roundw
           case rel => exact ⟨k + 1, _, by omega, by omega, by go_num, H1⟩
           case measure => simp [intOf]; omega)
    · obtain ⟨hon, hn2, hw, hf, hs1, hl1⟩ := H.out.1
      have R1 := Lib.hid ((disk_restart S a A2 n2 c2 l hw hnc2).left (disk_local S0 a2))
      obtain ⟨hr8, ha8⟩ := reads_ahead (w := wr) (B := B0) (X := []) HR2.out hB H.out.2.2 H.out.2.1.size
      have R2 : ∀ w', (∃ F, Disk (S.restart l) a w' F) → Calls Try.prog 17 #[.pointer (some a), .int .i64 1] w' fun e w2 => e = .returned (.tuple #[.string t, .int .i64 0]) ∧ Below w'.heap.size w' w2 := fun w' h => by
        have h := disk_read (S.restart l) a 1 w' h rfl (by show 1 < S.n; rw [hn2]; decide) (DiskSt.whole_restart hw l)
        rw [show (S.restart l).read 1 = t by
          show (if S.stays l 1 = true then S.read 1 else S.sure 1) = t
          rw [show S.read 1 = t by unfold DiskSt.read; rw [hl1]; exact hs1, hs1, ite_self]] at h
        exact h
      replace R2 := Lib.hid R2
      have H8 := Lib.hid hr8
      have HA8 := Lib.hid ha8
      clear hr8 ha8 hon hn2 hw hf hs1 hl1
      go_wp2_with fail
      all_goals
        with_reducible refine (R1.out.has H.out.2.1 H8.out HA8.out).mono ?_
        rintro e w6 ⟨rfl, h6, k6⟩
        have b6 := H.out.2.2.trans (k6.below.mono hB)
        go_wp2_with fail
        refine (R2.out _ (h6.sees (Sees.refl _).left)).mono ?_
        rintro e w7 ⟨rfl, b7⟩
        have h7 := h6.below (LB.out _) b7
        have b8 := below_call b6 b7
        go_wp2_with fail
        refine (Q1.out _ _ (h7.sees (Sees.refl _).right)).mono ?_
        rintro e w8 ⟨rfl, b9⟩
        have h9 := h7.below (LB.out _) b9
        have b10 := below_call b8 b9
        go_wp2_with fail
        refine (CT.out _).mono ?_
        rintro e w10 ⟨rfl, b13⟩
        have h10 := h9.below (LB.out _) b13
        have b14 := below_call b10 b13
        go_wp2_with (at_make; refine wpList_mkG 30 5 (.int .u8 0) 1 (by rfl) _ _ rfl Try.underlying30 info07_u8 rfl (n := 64) rfl rfl (by omega) (by unfold maxLen; omega) ?_; intro w11 hlt11 b15 hrow11 hown11; have hconv := nought_conv hrow11; have h11 := h10.below (LB.out _) b15; have b16 := below_call b14 b15; clear hown11 hlt11)
        refine (Q2.out _ _ (h11.sees (Sees.refl _).right)).mono ?_
        rintro e w9 ⟨rfl, b11⟩
        have b12 := below_call b16 b11
        go_wp2
        go_ret
        exact ⟨rfl, b12⟩
end Go.Proofs.Ytoalckcpahnpmaa
