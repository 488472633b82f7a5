/- The statements of layer 3: walks, continued: how long what is laid is. -/
import Derived.Test.YtkdkekmgnejhpaaTlvLawsC
namespace Go.Proofs.Ytkdkekmgnejhpaa
open Go.RowKit Go.ChangeShapes Go.WideShapes

/-- how long the texts are together -/
def sumT (l : List (Int × ByteArray)) : Nat := (l.map fun f => f.2.size).sum
theorem sumT_snoc (l : List (Int × ByteArray)) (k : Nat) (t : Int) (x : ByteArray) (h : l[k]? = some (t, x)) : sumT (l.take (k + 1)) = sumT (l.take k) + x.size := by
  unfold sumT
  rw [List.take_add_one, h, Option.toList_some, List.map_append, List.sum_append]
  simp
theorem layL_long (l : List (Int × ByteArray)) : (layL (l.map asL)).length = 3 * l.length + sumT l := by
  induction l with
  | nil => rfl
  | cons f l ih =>
    have e : (layF (asL f)).length = 3 + f.2.size := layF_length _
    rw [List.map_cons, layL_cons, List.length_append, e, ih]
    simp only [sumT, List.map_cons, List.sum_cons, List.length_cons]
    omega
theorem sumT_small (l : List (Int × ByteArray)) (hl : l.length ≤ 64) (h : (l.map asL).all fldOk = true) (k : Nat) : sumT (l.take k) ≤ 25792 := by
  have h1 : ((l.take k).map asL).all fldOk = true := by
    rw [List.map_take]
    exact List.all_eq_true.2 fun f hf => List.all_eq_true.1 h f (List.mem_of_mem_take hf)
  have h2 := layL_length _ h1
  rw [layL_long, List.length_map, List.length_take] at h2
  omega
theorem laidE_one (z : ByteArray) : laidE (layO ([((1 : Int), z)].map asL)) = if z.size ≤ 400 then 0 else 30 := by
  have hl : (bsOf z).length = z.size := rfl
  by_cases h : z.size ≤ 400
  · rw [if_pos h, layO_good _ (by simp) (by simp [asL, fldOk]; exact h)]
    rfl
  · rw [if_neg h, layO_bad _ (1, bsOf z) (by simp [asL]) (by simp [fldOk]; omega)]
    rfl
theorem laidE_many (m : Nat) : laidE (layO ((List.replicate m ((255 : Int), (⟨#[]⟩ : ByteArray))).map asL)) = if m ≤ 64 then 0 else 30 := by
  by_cases h : m ≤ 64
  · rw [if_pos h, layO_good _ (by simp; exact h) (by simp [asL, fldOk])]
    rfl
  · rw [if_neg h, layO_many _ (by simp; omega)]
    rfl
theorem zeros_map (n : Nat) : List.replicate n (Value.int .u8 0) = (List.replicate n (0 : UInt8)).map byteV := by
  rw [List.map_replicate]
  rfl

set_option maxRecDepth 100000 in
set_option maxHeartbeats 1600000 in
/-- TlvLong -/
theorem tlvLong_any (A : Option Addr) (n c : Nat) (l : List (Int × ByteArray)) (p q : Int) (w : World) (hr : ReadsF w w.heap.size A n l) (hn : n ≤ 8796093022208) (hi : ∀ f ∈ l, (Lit.int .i64 f.1).wf = true ∧ f.2.size ≤ 140737488351232)
    (hp : (Lit.int .i64 p).wf = true) (hq : (Lit.int .i64 q).wf = true) :
    Holds Try.prog 9 #[.slice A n c, .int .i64 p, .int .i64 q] w := by
  have F1 := Lib.hid (fun w' hr' hB => fit03 A n c w.heap.size l w' hr' hB hn hi)
  have HR := Lib.hid hr
  have P1 := Lib.hid (fun w' => pick03 p 500 w' hp (by decide) (by decide))
  have P2 := Lib.hid (fun w' => pick03 q 80 w' hq (by decide) (by decide))
  clear hr hn hi hp hq
  have b0 := Below.refl w.heap.size w
  unfold Holds
  go_enter Try.func9, Try.ntmps9
  go_wp2_with fail
  refine (awake03 _).mono ?_
  rintro e w1 ⟨rfl, b1⟩
  go_wp2_with fail
  refine (F1.out _ (HR.out.below b1) b1.size).mono ?_
  rintro e w2 ⟨G1, d1, fs, rfl, l1, k1, o1, b2⟩
  have r1 := o1.reads
  replace b2 := below_call b1 b2
  clear o1 F1 HR
  obtain ⟨S, hS⟩ : ∃ S, (⟨(layL (fs.map asL)).toArray⟩ : ByteArray) = S := ⟨_, rfl⟩
  have hSl : S.size = 3 * fs.length + sumT fs := by
    rw [← layL_long, ← hS]
    show (layL _).toArray.size = _
    simp only [List.size_toArray]
  have hsm := sumT_small fs (by omega) k1
  have K1 := Lib.hid k1
  have HS := Lib.hid hS
  have HSL := Lib.hid hSl
  have HSM := Lib.hid hsm
  clear k1 hS hSl hsm
  go_wp2_with fail
  refine (fit_laid G1 d1 fs _ r1 (by omega) K1.out S HS.out).mono ?_
  rintro e w3 ⟨rfl, b3⟩
  replace r1 := (r1.below b3).more b3.size
  replace b3 := below_call b2 b3
  go_wp2_with fail
  go_loopw [11, 12] (fun v i wr => ∃ k : Nat, k ≤ fs.length ∧ i = .int .i64 k ∧ v = .int .i64 ((3 * fs.length + sumT (fs.take k) : Nat) : Int) ∧ w3 = wr) (fun _ i _ => fs.length - (intOf i).toNat)
  case atStart => exact ⟨0, Nat.zero_le _, rfl, int_eq (by simp [sumT]), rfl⟩
  case round =>
    obtain ⟨k, hk, rfl, rfl, rfl⟩ := hrel
    by_cases hkn : k < fs.length
    · have dk : decide ((k : Int) < fs.length) = true := by simp; omega
      have dk2 : decide (k < fs.length) = true := by simp; omega
      have kn : (k : Int) < fs.length := by omega
      obtain ⟨b, o, t, x, rfl, hb, hf, ct, cx⟩ := r1.at_ hkn
      rw [Nat.mul_comm 2 k] at ct cx
      have hsn := sumT_snoc fs k t x hf
      have h1 := HSM.out (k + 1)
      rw [hsn] at h1
      have h2 := HSM.out k
      have HSN := Lib.hid hsn
      clear hsn hf
      generalize sumT (fs.take k) = s0 at *
      go_wp2
      go_roundw
      case rel => exact ⟨k + 1, by omega, by first | omega | go_num, int_eq (by rw [HSN.out]; omega), trivial⟩
      case measure => simp [intOf]; omega
    · have e : k = fs.length := by omega
      subst e
      have dk : decide (((fs.length : Nat) : Int) < fs.length) = false := by simp
      rw [List.take_length, ← HSL.out]
      have hz : S.size ≤ 25852 := by
        have := HSM.out fs.length
        rw [List.take_length] at this
        rw [HSL.out]
        omega
      clear r1 HSM HSL K1 HS hk hkn
      go_wp2_with fail
      refine (P1.out _).mono ?_
      rintro e w4 ⟨g, hg, rfl, rfl⟩
      obtain ⟨z, hz1⟩ : ∃ z : ByteArray, z = ⟨(List.replicate g (0 : UInt8)).toArray⟩ := ⟨_, rfl⟩
      have hz2 : z.size = g := by rw [hz1]; show (List.toArray _).size = g; simp
      obtain ⟨E2, hE, hE2⟩ : ∃ E2, laidE (layO ([((1 : Int), z)].map asL)) = E2 ∧ (E2 == 0) = decide ((g : Int) ≤ 400) := by
        refine ⟨_, rfl, ?_⟩
        rw [laidE_one, hz2]
        by_cases h : g ≤ 400
        · rw [if_pos h]; simp; omega
        · rw [if_neg h]; simp; omega
      obtain ⟨S2, hS2⟩ : ∃ S2, laidS (layO ([((1 : Int), z)].map asL)) = S2 := ⟨_, rfl⟩
      have HE := Lib.hid hE
      have HE2 := Lib.hid hE2
      have HS2 := Lib.hid hS2
      have HZ := Lib.hid hz1
      clear hz1 hE hS2 hE2
      go_wp2_with (at_make; refine wpList_mk 42 5 (.int .u8 0) 1 rfl _ _ rfl Try.underlying42 info03_u8 rfl (n := g) rfl rfl (by omega) (by unfold maxLen; omega) ?_; intro w4 hlt4 b4 hrow4 hown4; rw [zeros_map] at hrow4; have hconv := run_row_string (P := Try.prog) (w := w4) 42 9 5 hrow4 (List.length_replicate) Try.underlying42 Try.underlying5 Try.underlying9 g; rw [← HZ.out] at hconv)
      replace b4 := below_call b3 b4
      refine (tlv_lay_val _ 1 1 _ [((1 : Int), z)] _ _ (readsF_one w4 1 z 40) (by simp) (by decide) (by simp; exact ⟨by decide, by omega⟩) rfl S2 _ HS2.out HE.out).mono ?_
      rintro e w5 ⟨rfl, b5⟩
      replace b5 := below_call (b4.alloc b4.size _) b5
      clear hrow4 hown4 hconv
      go_wp2_with fail
      refine (P2.out _).mono ?_
      rintro e w6 ⟨m, hm, rfl, rfl⟩
      go_wp2_with fail
      go_loopw [15, 16] (fun v i wr => ∃ (k : Nat) (A' : Option Addr) (c' : Nat), k ≤ m ∧ i = .int .i64 k ∧ v = .slice A' k c' ∧ OwnF wr w.heap.size A' k c' (List.replicate k ((255 : Int), (⟨#[]⟩ : ByteArray))) ∧ Below w.heap.size w wr) (fun _ i _ => m - (intOf i).toNat)
      case atStart => exact ⟨0, none, 0, Nat.zero_le _, rfl, rfl, OwnF.nil _ _, b5⟩
      case round =>
        obtain ⟨k, A', c', hk, rfl, rfl, hown, hbr⟩ := hrel
        by_cases hkm : k < m
        · have dk : decide ((k : Int) < m) = true := by simp; omega
          have dk2 : decide (k < m) = true := by simp; omega
          go_wp2_with (at_builtin; refine wpList_appF (N := k + 1) 22 24 _ rfl _ _ rfl Try.underlying22 info_fld rfl rfl (hown.later ((Below.refl _ _).alloc (Nat.le_refl _) _)) rfl (readsF_one _ 255 ⟨#[]⟩ 40) rfl (by unfold maxLen; omega) (by omega) (by have := hbr.size; simp; omega) ?_; intro A3 c3 w7 hown3 hgr3 hbd3)
          go_roundw
          case rel => exact ⟨k + 1, A3, c3, by omega, by first | omega | go_num, by first | rfl | go_num, by rw [List.replicate_succ']; exact hown3, (hbr.alloc hbr.size _).trans hbd3⟩
          case measure => simp [intOf]; omega
        · have e : k = m := by omega
          subst e
          have dk : decide (((k : Nat) : Int) < k) = false := by simp
          obtain ⟨E3, hE3, hE4⟩ : ∃ E3, laidE (layO ((List.replicate k ((255 : Int), (⟨#[]⟩ : ByteArray))).map asL)) = E3 ∧ (E3 == 0) = decide ((k : Int) ≤ 64) := by
            refine ⟨_, rfl, ?_⟩
            rw [laidE_many]
            by_cases h : k ≤ 64
            · rw [if_pos h]; simp; omega
            · rw [if_neg h]; simp; omega
          obtain ⟨S3, hS3⟩ : ∃ S3, laidS (layO ((List.replicate k ((255 : Int), (⟨#[]⟩ : ByteArray))).map asL)) = S3 := ⟨_, rfl⟩
          have HE3 := Lib.hid hE3
          have HE4 := Lib.hid hE4
          have HS3 := Lib.hid hS3
          clear hE3 hE4 hS3
          go_wp2_with fail
          refine (tlv_lay_val A' k c' _ (List.replicate k ((255 : Int), (⟨#[]⟩ : ByteArray))) _ _ hown.reads (Nat.le_refl _) (by omega) (fun f hf => by obtain rfl := List.eq_of_mem_replicate hf; exact ⟨by decide, by decide⟩) rfl S3 E3 HS3.out HE3.out).mono ?_
          rintro e w8 ⟨rfl, b8⟩
          replace b8 := below_call hbr b8
          have x1 := HE2.out
          have x2 := HE4.out
          clear HE2 HE4
          go_wp2
          go_ret
          exact ⟨rfl, b8⟩
end Go.Proofs.Ytkdkekmgnejhpaa
