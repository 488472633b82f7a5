/- The statements of layer 3: walks, continued: lists behind one another. -/
import Derived.Test.YtkdkekmgnejhpaaTlvLawsC
namespace Go.Proofs.Ytkdkekmgnejhpaa
open Go.RowKit Go.ChangeShapes Go.WideShapes

set_option maxRecDepth 100000 in
set_option maxHeartbeats 1600000 in
/-- TlvParts -/
theorem tlvParts_any (A A2 : Option Addr) (n c n2 c2 : Nat) (l l2 : List (Int × ByteArray)) (w : World) (hr : ReadsF w w.heap.size A n l) (hn : n ≤ 8796093022208) (hi : ∀ f ∈ l, (Lit.int .i64 f.1).wf = true ∧ f.2.size ≤ 140737488351232)
    (hr2 : ReadsF w w.heap.size A2 n2 l2) (hn2 : n2 ≤ 8796093022208) (hi2 : ∀ f ∈ l2, (Lit.int .i64 f.1).wf = true ∧ f.2.size ≤ 140737488351232) :
    Holds Try.prog 6 #[.slice A n c, .slice A2 n2 c2] w := by
  have F1 := Lib.hid (fun w' hr' hB => fit03 A n c w.heap.size l w' hr' hB hn hi)
  have F2 := Lib.hid (fun w' hr' hB => fit03 A2 n2 c2 w.heap.size l2 w' hr' hB hn2 hi2)
  have HR := Lib.hid hr
  have HR2 := Lib.hid hr2
  clear hr hn hi hr2 hn2 hi2
  have b0 := Below.refl w.heap.size w
  unfold Holds
  go_enter Try.func6, Try.ntmps6
  go_wp2_with fail
  refine (awake03 _).mono ?_
  rintro e w1 ⟨rfl, b1⟩
  go_wp2_with fail
  refine (F1.out _ (HR.out.below b1) b1.size).mono ?_
  rintro e w2 ⟨G1, d1, fs1, rfl, l1, k1, o1, b2⟩
  have r1 := o1.reads
  replace b2 := below_call b1 b2
  clear o1
  go_wp2_with fail
  refine (F2.out _ (HR2.out.below b2) b2.size).mono ?_
  rintro e w3 ⟨G2, d2, fs2, rfl, l2', k2, o2, b3⟩
  have r2 := o2.reads
  replace r1 := (r1.below b3).more b3.size
  replace b3 := below_call b2 b3
  clear o2 F1 F2 HR HR2
  obtain ⟨S, hS⟩ : ∃ S, (⟨(layL (fs1.map asL)).toArray⟩ : ByteArray) = S := ⟨_, rfl⟩
  obtain ⟨T, hT⟩ : ∃ T, (⟨(layL (fs2.map asL)).toArray⟩ : ByteArray) = T := ⟨_, rfl⟩
  have k3 : ((fs1 ++ fs2).map asL).all fldOk = true := by rw [List.map_append, List.all_append, k1, k2]; rfl
  have hST : (⟨(layL ((fs1 ++ fs2).map asL)).toArray⟩ : ByteArray) = S ++ T := by
    rw [List.map_append, layL_append, ← hS, ← hT]
    apply ByteArray.ext
    simp
  have z1 := laid_size fs1 (by omega) k1
  have z2 := laid_size fs2 (by omega) k2
  rw [hS] at z1
  rw [hT] at z2
  have K1 := Lib.hid k1
  have K2 := Lib.hid k2
  have K3 := Lib.hid k3
  have HS := Lib.hid hS
  have HT := Lib.hid hT
  have HST := Lib.hid hST
  clear k1 k2 hS hT hST k3
  go_wp2_with fail
  refine (fit_laid G1 d1 fs1 _ r1 (by omega) K1.out S HS.out).mono ?_
  rintro e w4 ⟨rfl, b4⟩
  replace r1 := (r1.below b4).more b4.size
  replace r2 := (r2.below b4).more b4.size
  replace b4 := below_call b3 b4
  go_wp2_with fail
  refine (fit_laid G2 d2 fs2 _ r2 (by omega) K2.out T HT.out).mono ?_
  rintro e w5 ⟨rfl, b5⟩
  replace r1 := (r1.below b5).more b5.size
  replace r2 := (r2.below b5).more b5.size
  replace b5 := below_call b4 b5
  go_wp2_with (first
    | (at_builtin; refine wpList_appF (N := fs1.length) 22 24 _ rfl _ _ rfl Try.underlying22 info_fld rfl rfl (OwnF.nil w5 w5.heap.size) rfl r1 (Nat.zero_add _) (by unfold maxLen; omega) (by omega) (Nat.le_refl _) ?_; intro G4 d4 w6 o4 g4 b6)
    | (at_builtin; refine wpList_appF (N := (fs1 ++ fs2).length) 22 24 _ rfl _ _ rfl Try.underlying22 info_fld rfl rfl o4 rfl (r2.below b6) (List.length_append).symm (by rw [List.length_append]; unfold maxLen; omega) (by rw [List.length_append]; omega) b6.size ?_; intro G5 d5 w7 o5 g5 b7))
  replace b7 := below_call b5 (b6.trans b7)
  have L1 := fit_laid G5 d5 (fs1 ++ fs2) _ o5.reads (by rw [List.length_append]; omega) K3.out _ HST.out
  rw [List.length_append] at L1
  refine L1.mono ?_
  rintro e w8 ⟨rfl, b8⟩
  replace b8 := below_call b7 b8
  go_wp2
  go_ret
  exact ⟨rfl, b8⟩
end Go.Proofs.Ytkdkekmgnejhpaa
