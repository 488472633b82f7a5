/- Package tlv's Lay, walked. -/
import Derived.Test.YtkdkekmgnejhpaaTlvNum
namespace Go.Proofs.Ytkdkekmgnejhpaa
open Go.RowKit Go.ChangeShapes Go.WideShapes

set_option maxRecDepth 100000 in
set_option maxHeartbeats 1600000 in
theorem tlv_lay (A : Option Addr) (n c B : Nat) (l : List (Int × ByteArray)) (w : World) (hr : ReadsF w B A n l) (hB : B ≤ w.heap.size) (hn : n ≤ 8796093022208) (hi : ∀ f ∈ l, (Lit.int .i64 f.1).wf = true ∧ f.2.size ≤ 140737488351232) :
    Laid Try.prog 11 #[.slice A n c] w (layO (l.map asL)) := by
  unfold Laid
  by_cases h64 : 64 < n
  · have d : decide ((64 : Int) < n) = true := by simp; omega
    rw [layO_many _ (by rw [List.length_map, hr.1]; exact h64)]
    go_enter Try.func11, Try.ntmps11
    go_wp2
    go_ret2
    exact ⟨rfl, Below.refl _ _⟩
  · have d : decide ((64 : Int) < n) = false := by simp; omega
    obtain ⟨L, hL⟩ : ∃ L, l.map asL = L := ⟨_, rfl⟩
    have hLl : L.length = n := by rw [← hL, List.length_map, hr.1]
    have HR := Lib.hid hr
    have HL := Lib.hid hL
    have HLL := Lib.hid hLl
    have HI := Lib.hid hi
    rw [hL]
    clear hr hi hL hLl
    go_enter Try.func11, Try.ntmps11
    go_wp2
    go_loopw [4, 13] (fun v i wr => ∃ (k : Nat) (acc : List UInt8) (A' : Option Addr) (c' : Nat), k ≤ n ∧ i = .int .i64 k ∧ v = .slice A' acc.length c' ∧ acc = layL (L.take k) ∧ (L.take k).all fldOk = true ∧ Own wr w.heap.size 5 A' acc.length c' (acc.map byteV) ∧ Below w.heap.size w wr) (fun _ i _ => n - (intOf i).toNat)
    case atStart => exact ⟨0, [], none, 0, Nat.zero_le _, rfl, rfl, rfl, rfl, Own.nil _ _ _, Below.refl _ _⟩
    case round =>
      obtain ⟨k, acc, A', c', hk, rfl, rfl, hacc, hall, hown, hbr⟩ := hrel
      have hlen : acc.length ≤ 25792 := by
        have h1 := layL_length (L.take k) hall
        rw [← hacc, List.length_take, HLL.out] at h1
        omega
      have HACC := Lib.hid hacc
      have HALL := Lib.hid hall
      clear hacc hall
      by_cases hkn : k < n
      · have dk : decide ((k : Int) < n) = true := by simp; omega
        obtain ⟨b, o, t, x, rfl, hb, hf, ct, cx⟩ := HR.out.at_ hkn
        have hbw : b < w.heap.size := by omega
        have hbwr : b < wr.heap.size := Nat.lt_of_lt_of_le hbw hbr.size
        replace ct : wr.cell? ⟨b, o + k * 2, none⟩ = some (.int .i64 t) := by rw [hbr.cell (by exact hbw), Nat.mul_comm k 2]; exact ct
        replace cx : wr.cell? ⟨b, o + k * 2 + 1, none⟩ = some (.string x) := by rw [hbr.cell (by exact hbw), Nat.mul_comm k 2]; exact cx
        have hi := HI.out (t, x) (List.mem_of_getElem? hf)
        have hxs : x.size ≤ 140737488351232 := hi.2
        have hti := bounds_i64 hi.1
        simp only at hti
        have hfL : L[k]? = some (t, bsOf x) := by rw [← HL.out, List.getElem?_map, hf]; rfl
        have HF := Lib.hid hfL
        have hti1 := hi.1
        have RC := Lib.hid (fun w' => tlv_right t x w' hti1 (by omega))
        clear hfL hf hi hti1
        have hfin : fldOk (t, bsOf x) = false → layO L = none := fun h => layO_bad L _ (List.mem_of_getElem? HF.out) h
        have HFIN := Lib.hid hfin
        clear hfin
        have kn : (k : Int) < n := by omega
        have hxl : (bsOf x).length = x.size := rfl
        have HXL := Lib.hid hxl
        obtain ⟨bo, hbo⟩ : ∃ bo, fldOk (t, bsOf x) = bo := ⟨_, rfl⟩
        have HBO := Lib.hid hbo
        rw [hbo] at RC
        clear hbo hxl
        have k0 : (wr.alloc (.cells #[.int .i64 t, .string x] 40)).cell? ⟨wr.heap.size, 0, none⟩ = some (.int .i64 t) := by simp
        have k1 : (wr.alloc (.cells #[.int .i64 t, .string x] 40)).cell? ⟨wr.heap.size, 1, none⟩ = some (.string x) := by simp
        have K0 := Lib.hid k0
        have K1 := Lib.hid k1
        clear k0 k1
        have BR := Lib.hid hbr
        have HOWN := Lib.hid hown
        clear hbr hown
        cases bo with
        | false =>
          go_wp2_with (go_at_call 22; refine (RC.out _).mono ?_; rintro e w2 ⟨rfl, b2⟩; have B2 := below_call (BR.out.alloc BR.out.size _) b2)
          go_ret2
          rw [HFIN.out HBO.out]
          exact ⟨rfl, B2⟩
        | true =>
          go_wp2_with fail
          refine (RC.out _).mono ?_
          rintro e w2 ⟨rfl, b2⟩
          have B2 := below_call (BR.out.alloc BR.out.size _) b2
          have q0 := keep_cell b2 K0.out
          have q1 := keep_cell b2 K1.out
          have hown2 := HOWN.out.later (((Below.refl _ _).alloc (Nat.le_refl _) _).trans (b2.mono (by simp)))
          have hok := HBO.out
          simp only [fldOk, Bool.and_eq_true, decide_eq_true_eq, HXL.out] at hok
          obtain ⟨⟨hok1, hok2⟩, hok3⟩ := hok
          obtain ⟨y0, hy0⟩ : ∃ y : UInt8, y = UInt8.ofNat t.toNat := ⟨_, rfl⟩
          obtain ⟨y1, hy1⟩ : ∃ y : UInt8, y = UInt8.ofNat (x.size % 256) := ⟨_, rfl⟩
          obtain ⟨y2, hy2⟩ : ∃ y : UInt8, y = UInt8.ofNat (x.size / 256) := ⟨_, rfl⟩
          have p0 : (y0.toNat : Int) = t := by rw [hy0, ofNat_small _ (by omega)]; omega
          have p1 : (y1.toNat : Int) = (x.size : Int) % 256 := by rw [hy1, ofNat_small _ (by omega)]; omega
          have p2 : (y2.toNat : Int) = (x.size : Int) / 256 := by rw [hy2, ofNat_small _ (by omega)]; omega
          have hlit : [Value.int .u8 t, Value.int .u8 ((x.size : Int) % 256), Value.int .u8 ((x.size : Int) / 256)] = [y0, y1, y2].map byteV := by
            rw [← p0, ← p1, ← p2]
            rfl
          have HLIT := Lib.hid hlit
          have hnew : acc ++ [y0, y1, y2] ++ bsOf x = layL (L.take (k + 1)) := by
            rw [layL_snoc L k _ HF.out, ← HACC.out, hy0, hy1, hy2]
            simp [layF, HXL.out]
          have HNEW := Lib.hid hnew
          have HOWN2 := Lib.hid hown2
          have hsz2 : w.heap.size ≤ w2.heap.size := B2.size
          clear hy0 hy1 hy2 p0 p1 p2 hlit hnew hown2
          have wt : IntKind.u8.wrap t = t := by rw [IntKind.wrap_u8]; omega
          go_wp2_with (first
            | (at_builtin; refine wpList_app (N := acc.length + 3) 42 5 1 (.int .u8 0) rfl _ _ rfl Try.underlying42 infoB rfl rfl (HOWN2.out.later ((Below.refl _ _).alloc (Nat.le_refl _) _)) rfl (reads_lit _ [_, _, _] _ 3 rfl) (by simp [Value.oneCell']) rfl (by unfold maxLen; omega) (by omega) (by simp; omega) ?_; intro A2 c2 w3 hown3 hgr3 hbd3; have hown4 : Own w3 w.heap.size 5 A2 (acc.length + 3) c2 ((acc ++ [y0, y1, y2]).map byteV) := (by rw [List.map_append, ← HLIT.out]; exact hown3); have B3 := (B2.alloc B2.size _).trans hbd3; have q3 : w3.cell? ⟨wr.heap.size, 1, none⟩ = some (.string x) := hgr3.cell (keep_cell ((Below.refl _ _).alloc (Nat.le_refl _) _) q1) (fun e => by have := (HOWN.out.lt' _ e.symm).1; exact absurd this (Nat.lt_irrefl _)); clear hown3)
            | (at_builtin; refine wpList_appS (N := acc.length + 3 + x.size) 42 9 5 rfl _ _ rfl Try.underlying42 Try.underlying9 infoB rfl hown4 rfl rfl (by unfold maxLen; omega) (by omega) B3.size ?_; intro A3 c3 w4 hown5 hbd4))
          go_roundw
          case rel => exact ⟨k + 1, acc ++ [y0, y1, y2] ++ bsOf x, A3, c3, by omega, by go_num, by rw [List.length_append, List.length_append, HXL.out]; rfl, HNEW.out, all_snoc L k _ HF.out HALL.out HBO.out, by
            rw [List.length_append, List.length_append, HXL.out]
            exact hown5, B3.trans hbd4⟩
          case measure => simp [intOf]; omega
      · obtain rfl : k = n := by omega
        have dk : decide ((k : Int) < k) = false := by simp
        have hend : L.take k = L := List.take_of_length_le (by rw [HLL.out]; exact Nat.le_refl _)
        have hfin : layO L = some acc := by
          have h1 := HALL.out
          have h2 := HACC.out
          rw [hend] at h1 h2
          rw [layO_good L (by rw [HLL.out]; omega) h1, h2]
        have HFIN := Lib.hid hfin
        clear hend hfin
        have hconv := run_own_string 42 9 5 hown Try.underlying42 Try.underlying5 Try.underlying9
        go_wp2
        go_ret2
        rw [HFIN.out]
        exact ⟨rfl, hbr⟩
end Go.Proofs.Ytkdkekmgnejhpaa
