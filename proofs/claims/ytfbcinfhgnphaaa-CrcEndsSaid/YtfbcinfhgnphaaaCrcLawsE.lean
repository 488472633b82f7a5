/- The statements of layer 2: walks, continued: three texts, one over the other. -/
import Derived.Test.YtfbcinfhgnphaaaCrcLawsD
import Derived.Deep.QuietTactic
import Derived.BigQuiet
namespace Go.Proofs.Ytfbcinfhgnphaaa
open Go.RowKit Go.ChangeShapes Go.WideShapes

theorem info02_u8 : (Try.prog.info? 5).map (fun i => (i.zero, i.size, i.bytes)) = some (some (.int .u8 0), 1, 1) := by kernel_rfl
/-- a row that is filled from its head on -/
theorem fill_step {α : Type} (l r : List α) (t : Nat) (hl : l.length = r.length) (ht : t < l.length) : (l.take t ++ r.drop t).set t l[t] = l.take (t + 1) ++ r.drop (t + 1) := by
  have hd : r.drop t = r[t] :: r.drop (t + 1) := List.drop_eq_getElem_cons (by omega)
  have hx : (l.take t).length = t := by simp; omega
  rw [hd, List.set_append_right _ _ (by omega), hx, Nat.sub_self, List.set_cons_zero, List.take_add_one, List.getElem?_eq_getElem ht, List.append_assoc]
  rfl
theorem Row.drewN_ {w : World} {g : Nat} {xs : List Value} (h : Row w g xs) (k : Nat) : Row (w.drewN k) g xs := h
theorem cut_len (a : ByteArray) (N : Nat) (h : N ≤ a.size) : (a.extract 0 N).size = N := by simp; omega
theorem bs_cut (a : ByteArray) (N : Nat) : bsOf (a.extract 0 N) = (bsOf a).take N := by simp [bsOf]

theorem three_at (a b c : ByteArray) (N : Nat) (h1 : N ≤ a.size) (h2 : N ≤ b.size) (h3 : N ≤ c.size) (t : Nat) (ht : t < N) :
    (List.zipWith (· ^^^ ·) (List.zipWith (· ^^^ ·) ((bsOf a).take N) ((bsOf b).take N)) ((bsOf c).take N))[t]? =
      some ((a[t]'(Nat.lt_of_lt_of_le ht h1)) ^^^ (b[t]'(Nat.lt_of_lt_of_le ht h2)) ^^^ (c[t]'(Nat.lt_of_lt_of_le ht h3))) := by
  have l1 : ((bsOf a).take N).length = N := by rw [List.length_take]; exact Nat.min_eq_left h1
  have l2 : ((bsOf b).take N).length = N := by rw [List.length_take]; exact Nat.min_eq_left h2
  have l3 : ((bsOf c).take N).length = N := by rw [List.length_take]; exact Nat.min_eq_left h3
  rw [List.getElem?_eq_getElem (by simp only [List.length_zipWith, l1, l2, l3]; omega)]
  simp only [List.getElem_zipWith, List.getElem_take]
  rfl

theorem quiet_sum {P : Program} {f : FuncId} {s : ByteArray} {v : Int} {w : World} {n : Nat} (h : Calls P f #[.string s] (w.drewN n) fun e w' => e = .returned (.int .i64 v) ∧ w.drewN n = w') :
    Calls P f #[.string s] (w.drewN n) fun e w'' => e = .returned (.int .i64 v) ∧ ∃ m, w'' = w.drewN m := h.mono fun _ _ ⟨he, hm⟩ => ⟨he, _, hm.symm⟩

set_option maxRecDepth 100000 in
set_option maxHeartbeats 1600000 in
/-- CrcThree -/
theorem crcThree_any (a b c : ByteArray) (w : World) (ha : a.size ≤ 140737488351232) (_hb : b.size ≤ 140737488351232) (_hc : c.size ≤ 140737488351232) :
    Holds Try.prog 9 #[.string a, .string b, .string c] w := by
  unfold Holds
  go_enter Try.func9, Try.ntmps9
  go_wp2_with fail
  refine (awake02 _).mono ?_
  rintro e w0 ⟨rfl, rfl⟩
  go_wp2_with (first
    | (refine wpList_min3 rfl _ _ _ _ rfl rfl rfl rfl ?_; intro N h1 h2 h3)
    | (refine wpList_mk 28 5 (.int .u8 0) 1 rfl _ _ rfl Try.underlying28 info02_u8 rfl rfl rfl (by omega) (by unfold maxLen; omega) ?_; intro w1 hz1 hb1 hrow1 hown1))
  obtain ⟨A, hA⟩ : ∃ A : List UInt8, (bsOf a).take N = A := ⟨_, rfl⟩
  obtain ⟨B, hB⟩ : ∃ B : List UInt8, (bsOf b).take N = B := ⟨_, rfl⟩
  obtain ⟨C, hC⟩ : ∃ C : List UInt8, (bsOf c).take N = C := ⟨_, rfl⟩
  have lA : A.length = N := by rw [← hA, List.length_take]; exact Nat.min_eq_left h1
  have lB : B.length = N := by rw [← hB, List.length_take]; exact Nat.min_eq_left h2
  have lC : C.length = N := by rw [← hC, List.length_take]; exact Nat.min_eq_left h3
  obtain ⟨Z, hZ⟩ : ∃ Z : List UInt8, List.zipWith (· ^^^ ·) (List.zipWith (· ^^^ ·) A B) C = Z := ⟨_, rfl⟩
  have lZ : Z.length = N := by rw [← hZ]; simp [lA, lB, lC]
  have aZ := three_at a b c N h1 h2 h3
  rw [hA, hB, hC, hZ] at aZ
  have HLZ := Lib.hid lZ
  have HAZ := Lib.hid aZ
  have hz0 : List.replicate N (Value.int .u8 0) = (List.replicate N (0 : UInt8)).map byteV := by rw [List.map_replicate]; rfl
  rw [hz0] at hrow1
  clear lZ aZ hz0 hown1
  go_loopw [10] (fun i wr => ∃ t : Nat, t ≤ N ∧ i = .int .i64 t ∧ Below w.heap.size w wr ∧ Row wr w.heap.size ((Z.take t ++ (List.replicate N (0 : UInt8)).drop t).map byteV)) (fun i _ => N - (intOf i).toNat)
  case atStart => exact ⟨0, Nat.zero_le _, rfl, hb1, by simpa using hrow1⟩
  case round =>
    obtain ⟨t, ht, rfl, hbr, hrow⟩ := hrel
    by_cases hlt : t < N
    · obtain ⟨u, ct⟩ : ∃ u, wr.cell? ⟨w.heap.size, t, none⟩ = some u := ⟨_, hrow.cell (List.getElem?_eq_getElem (by simp [HLZ.out]; omega))⟩
      have ft := hrow.free (j := t) (by simp [HLZ.out]; omega)
      have i1 : t < a.size := by omega
      have i2 : t < b.size := by omega
      have i3 : t < c.size := by omega
      go_wp2
      go_region
      go_wp2
      go_roundw
      case rel => exact ⟨t + 1, by omega, by go_num, (hbr.setCell (by exact Nat.le_refl _) _).drew, by
        have hzt : t < Z.length := by rw [HLZ.out]; exact hlt
        have h1 := hrow.set_ t (byteV Z[t])
        rw [← List.map_set, fill_step Z _ t (by rw [HLZ.out]; simp) hzt, (List.getElem?_eq_some_iff.1 (HAZ.out t hlt)).2] at h1
        rw [xor_u8, xor_u8]
        exact h1⟩
      case measure => simp [intOf]; omega
    · have e : t = N := by omega
      subst e
      rw [List.take_of_length_le (by rw [HLZ.out]; exact Nat.le_refl _), List.drop_of_length_le (by simp), List.append_nil] at hrow
      obtain ⟨st, hst⟩ : ∃ st : ByteArray, st = ⟨Z.toArray⟩ := ⟨_, rfl⟩
      have hbs : bsOf st = Z := by rw [hst]
      have hsz : st.size = t := by rw [← HLZ.out, ← hbs]; rfl
      obtain ⟨p1, hp1⟩ : ∃ p : Nat, goN firstSum A = p := ⟨_, rfl⟩
      obtain ⟨p2, hp2⟩ : ∃ p : Nat, goN firstSum B = p := ⟨_, rfl⟩
      obtain ⟨p3, hp3⟩ : ∃ p : Nat, goN firstSum C = p := ⟨_, rfl⟩
      obtain ⟨q, hq⟩ : ∃ p : Nat, goN firstSum Z = p := ⟨_, rfl⟩
      have l1 : p1 < 16777216 := by rw [← hp1]; exact goN_lt _ _ firstSum_lt
      have l2 : p2 < 16777216 := by rw [← hp2]; exact goN_lt _ _ firstSum_lt
      have l3 : p3 < 16777216 := by rw [← hp3]; exact goN_lt _ _ firstSum_lt
      have l12 := xor_lt24 l1 l2
      have hsum : q = p1 ^^^ p2 ^^^ p3 := by
        have e1 := goN_xor A B firstSum firstSum (by rw [lA, lB]) firstSum_lt firstSum_lt
        have e2 := goN_xor (List.zipWith (· ^^^ ·) A B) C (firstSum ^^^ firstSum) firstSum (by rw [List.length_zipWith, lA, lB, lC, Nat.min_self]) (by decide) firstSum_lt
        rw [e1, hZ, show firstSum ^^^ firstSum ^^^ firstSum = firstSum by decide, hp1, hp2, hp3, hq] at e2
        exact e2
      have C1 := Lib.hid (fun w' => crc_sum_val (a.extract 0 t) w' (p1 : Int) (by rw [cut_len _ _ h1]; omega) (by rw [bs_cut, hA, hp1]))
      have C2 := Lib.hid (fun w' => crc_sum_val (b.extract 0 t) w' (p2 : Int) (by rw [cut_len _ _ h2]; omega) (by rw [bs_cut, hB, hp2]))
      have C3 := Lib.hid (fun w' => crc_sum_val (c.extract 0 t) w' (p3 : Int) (by rw [cut_len _ _ h3]; omega) (by rw [bs_cut, hC, hp3]))
      have C4 := Lib.hid (fun w' => crc_sum_val st w' (q : Int) (by omega) (by rw [hbs, hq]))
      have x1 : bits .xor .i64 (p1 : Int) (p2 : Int) = ((p1 ^^^ p2 : Nat) : Int) := i64_xor_nat _ _ (by omega) (by omega)
      have x2 : bits .xor .i64 ((p1 ^^^ p2 : Nat) : Int) (p3 : Int) = ((p1 ^^^ p2 ^^^ p3 : Nat) : Int) := i64_xor_nat _ _ (by omega) (by omega)
      rw [← hsum] at x2
      generalize p1 ^^^ p2 = p12 at *
      have hconv := fun k => run_row_string (P := Try.prog) (w := wr.drewN k) 28 9 5 (Row.drewN_ hrow k) HLZ.out Try.underlying28 Try.underlying5 Try.underlying9 t
      rw [← hst] at hconv
      clear hsum hp1 hp2 hp3 hq hbs hst hA hB hC hZ lA lB lC HAZ
      go_wp2
      go_quiet ((first | exact quiet_sum (C1.out _) | exact quiet_sum (C2.out _) | exact quiet_sum (C3.out _) | exact quiet_sum (C4.out _)))
      go_wp2
      go_ret
      exact ⟨rfl, hbr.os, hbr.tape, hbr.output, hbr.size, hbr.block⟩
end Go.Proofs.Ytfbcinfhgnphaaa
