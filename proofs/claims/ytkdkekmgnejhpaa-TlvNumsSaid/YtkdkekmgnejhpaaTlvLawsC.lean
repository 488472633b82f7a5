/- The statements of layer 3: walks, continued: lists that are laid. -/
import Derived.Test.YtkdkekmgnejhpaaTlvLaws
import Derived.Deep.QuietTactic
import Derived.BigQuiet
namespace Go.Proofs.Ytkdkekmgnejhpaa
open Go.RowKit Go.ChangeShapes Go.WideShapes

theorem fit_ok (fs : List (Int × ByteArray)) (h : (fs.map asL).all fldOk = true) : ∀ f ∈ fs, (Lit.int .i64 f.1).wf = true ∧ f.2.size ≤ 140737488351232 := by
  intro f hf
  have h1 : fldOk (f.1, bsOf f.2) = true := List.all_eq_true.1 h (asL f) (List.mem_map_of_mem hf)
  simp only [fldOk, Bool.and_eq_true, decide_eq_true_eq] at h1
  have h2 : (bsOf f.2).length = f.2.size := rfl
  exact ⟨WalkArith.wf_i64 (by constructor <;> omega), by omega⟩
theorem fit_lay (fs : List (Int × ByteArray)) (hl : fs.length ≤ 64) (h : (fs.map asL).all fldOk = true) : layO (fs.map asL) = some (layL (fs.map asL)) := layO_good _ (by rw [List.length_map]; exact hl) h
theorem ofL_back (fs : List (Int × ByteArray)) : (fs.map asL).map ofL = fs := by
  rw [List.map_map]
  exact List.map_id _
theorem laid_size (fs : List (Int × ByteArray)) (hl : fs.length ≤ 64) (h : (fs.map asL).all fldOk = true) : (⟨(layL (fs.map asL)).toArray⟩ : ByteArray).size ≤ 25792 := by
  have h1 := layL_length _ h
  rw [List.length_map] at h1
  show (layL (fs.map asL)).toArray.size ≤ _
  simp only [List.size_toArray]
  omega
/-- Lay of right fields -/
theorem fit_laid (A : Option Addr) (c : Nat) (fs : List (Int × ByteArray)) (w : World) (hr : ReadsF w w.heap.size A fs.length fs) (hl : fs.length ≤ 64) (h : (fs.map asL).all fldOk = true) (S : ByteArray) (hS : (⟨(layL (fs.map asL)).toArray⟩ : ByteArray) = S) :
    Calls Try.prog 11 #[.slice A fs.length c] w fun e w' => e = .returned (.tuple #[.string S, .int .i64 0]) ∧ Below w.heap.size w w' :=
  tlv_lay_val A _ c w.heap.size fs w _ hr (Nat.le_refl _) (by omega) (fit_ok fs h) (fit_lay fs hl h) S 0 (by rw [← hS]; rfl) rfl
/-- Take of what was laid -/
theorem fit_taken (fs : List (Int × ByteArray)) (w : World) (hl : fs.length ≤ 64) (h : (fs.map asL).all fldOk = true) (S : ByteArray) (hS : (⟨(layL (fs.map asL)).toArray⟩ : ByteArray) = S) :
    Calls Try.prog 13 #[.string S] w fun e w' => ∃ A c, e = .returned (.tuple #[.slice A fs.length c, .int .i64 0]) ∧ ReadsF w' w'.heap.size A fs.length fs ∧ Below w.heap.size w w' := by
  subst hS
  refine tlv_take_val _ w (some (fs.map asL)) fs 0 (by have := laid_size fs hl h; omega) ?_ (ofL_back fs) rfl
  exact takeO_lay _ (by rw [List.length_map]; exact hl) h
theorem quiet_same {P : Program} {f : FuncId} {args : Array Value} {b : Bool} {w : World} {n : Nat} (h : Calls P f args (w.drewN n) fun e w' => e = .returned (.bool b) ∧ ∃ m, w' = (w.drewN n).drewN m) :
    Calls P f args (w.drewN n) fun e w'' => e = .returned (.bool b) ∧ ∃ m, w'' = w.drewN m := h.mono fun _ _ ⟨he, m, hm⟩ => ⟨he, n + m, by rw [hm, World.drewN_drewN]⟩

set_option maxRecDepth 100000 in
set_option maxHeartbeats 3200000 in
/-- TlvBack -/
theorem tlvBack_any (A A2 : Option Addr) (n c n2 c2 : Nat) (l l2 : List (Int × ByteArray)) (w : World) (hr : ReadsF w w.heap.size A n l) (hn : n ≤ 8796093022208) (hi : ∀ f ∈ l, (Lit.int .i64 f.1).wf = true ∧ f.2.size ≤ 140737488351232)
    (hr2 : ReadsF w w.heap.size A2 n2 l2) (hn2 : n2 ≤ 8796093022208) (hi2 : ∀ f ∈ l2, (Lit.int .i64 f.1).wf = true ∧ f.2.size ≤ 140737488351232) :
    Holds Try.prog 4 #[.slice A n c, .slice A2 n2 c2] w := by
  have F1 := Lib.hid (fun w' hr' hB => fit03 A n c w.heap.size l w' hr' hB hn hi)
  have F2 := Lib.hid (fun w' hr' hB => fit03 A2 n2 c2 w.heap.size l2 w' hr' hB hn2 hi2)
  have HR := Lib.hid hr
  have HR2 := Lib.hid hr2
  clear hr hn hi hr2 hn2 hi2
  have b0 := Below.refl w.heap.size w
  unfold Holds
  go_enter Try.func4, Try.ntmps4
  go_wp2_with fail
  refine (awake03 _).mono ?_
  rintro e w1 ⟨rfl, b1⟩
  go_wp2_with fail
  refine (F1.out _ (HR.out.below b1) b1.size).mono ?_
  rintro e w2 ⟨G1, d1, fs1, rfl, l1, k1, o1, b2⟩
  have r1 := o1.reads
  replace b2 := below_call b1 b2
  clear o1
  go_wp2_with fail
  refine (F2.out _ (HR2.out.below b2) b2.size).mono ?_
  rintro e w3 ⟨G2, d2, fs2, rfl, l2', k2, o2, b3⟩
  have r2 := o2.reads
  replace r1 := (r1.below b3).more b3.size
  replace b3 := below_call b2 b3
  clear o2 F1 F2 HR HR2
  obtain ⟨S, hS⟩ : ∃ S, (⟨(layL (fs1.map asL)).toArray⟩ : ByteArray) = S := ⟨_, rfl⟩
  obtain ⟨T, hT⟩ : ∃ T, (⟨(layL (fs2.map asL)).toArray⟩ : ByteArray) = T := ⟨_, rfl⟩
  obtain ⟨q, hq⟩ : ∃ q, sameF fs1 fs2 = q := ⟨_, rfl⟩
  have hST : (S.toList == T.toList) = q := by
    rw [text_eqb3, ← hS, ← hT, ← hq]
    unfold sameF
    exact decide_eq_decide.2 (layL_inj _ _ (by rw [List.length_map]; omega) (by rw [List.length_map]; omega) k1 k2)
  have K1 := Lib.hid k1
  have K2 := Lib.hid k2
  have HS := Lib.hid hS
  have HT := Lib.hid hT
  have HQ := Lib.hid hq
  clear k1 k2 hS hT hq
  go_wp2_with fail
  refine (fit_laid G1 d1 fs1 _ r1 (by omega) K1.out S HS.out).mono ?_
  rintro e w4 ⟨rfl, b4⟩
  replace r1 := (r1.below b4).more b4.size
  replace r2 := (r2.below b4).more b4.size
  replace b4 := below_call b3 b4
  go_wp2_with fail
  refine (fit_laid G2 d2 fs2 _ r2 (by omega) K2.out T HT.out).mono ?_
  rintro e w5 ⟨rfl, b5⟩
  replace r1 := (r1.below b5).more b5.size
  replace r2 := (r2.below b5).more b5.size
  replace b5 := below_call b4 b5
  go_wp2_with fail
  refine (fit_taken fs1 _ (by omega) K1.out S HS.out).mono ?_
  rintro e w6 ⟨G3, d3, rfl, r3, b6⟩
  replace r1 := (r1.below b6).more b6.size
  replace r2 := (r2.below b6).more b6.size
  replace b6 := below_call b5 b6
  go_wp2_with fail
  refine (same03 G3 G1 fs1.length fs1.length d3 d1 w6.heap.size fs1 fs1 w6 r3 r1 (Nat.le_refl _) (by omega) (by omega)).mono ?_
  rintro e w7 ⟨rfl, m7, rfl⟩
  rw [sameF_refl]
  go_wp2_with fail
  refine (same03 G1 G2 fs1.length fs2.length d1 d2 w6.heap.size fs1 fs2 (w6.drewN m7) r1 r2 (Nat.le_refl _) (by omega) (by omega)).mono ?_
  rintro e w8 ⟨rfl, m8, rfl⟩
  rw [HQ.out]
  go_wp2
  go_ret
  exact ⟨by simp, below_drewN3 b6 _⟩
end Go.Proofs.Ytkdkekmgnejhpaa
