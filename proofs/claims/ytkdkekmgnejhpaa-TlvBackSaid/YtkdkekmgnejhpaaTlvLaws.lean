/- The statements of layer 3: walks. -/
import Derived.Test.YtkdkekmgnejhpaaTlvWalk
namespace Go.Proofs.Ytkdkekmgnejhpaa
open Go.RowKit Go.ChangeShapes Go.WideShapes

theorem below_drewN3 {B : Nat} {a w : World} (h : Below B a w) (n : Nat) : Below B a (w.drewN n) := h.trans ⟨rfl, rfl, rfl, Nat.le_refl _, fun _ _ => rfl⟩
theorem sameF_refl (a : List (Int × ByteArray)) : sameF a a = true := decide_eq_true rfl
theorem tlv_lay_val (A : Option Addr) (n c B : Nat) (l : List (Int × ByteArray)) (w : World) (o : Option (List UInt8)) (hr : ReadsF w B A n l) (hB : B ≤ w.heap.size) (hn : n ≤ 8796093022208) (hi : ∀ f ∈ l, (Lit.int .i64 f.1).wf = true ∧ f.2.size ≤ 140737488351232)
    (ho : layO (l.map asL) = o) (S : ByteArray) (e0 : Int) (hS : laidS o = S) (hE : laidE o = e0) :
    Calls Try.prog 11 #[.slice A n c] w fun e w' => e = .returned (.tuple #[.string S, .int .i64 e0]) ∧ Below w.heap.size w w' := by
  subst ho hS hE
  exact tlv_lay A n c B l w hr hB hn hi
theorem tlv_take_val (s : ByteArray) (w : World) (o : Option (List Fld)) (F : List (Int × ByteArray)) (e0 : Int) (hs : s.size ≤ 1125899906842624) (ho : takeO (bsOf s) = o) (hF : tookL o = F) (hE : tookE o = e0) :
    Calls Try.prog 13 #[.string s] w fun e w' => ∃ A c, e = .returned (.tuple #[.slice A F.length c, .int .i64 e0]) ∧ ReadsF w' w'.heap.size A F.length F ∧ Below w.heap.size w w' := by
  subst ho hF hE
  refine (tlv_take s w hs).mono ?_
  rintro e w' ⟨b, A, c, rfl, hr⟩
  exact ⟨A, c, rfl, hr, b⟩
theorem tlv_num_val (n : Int) (w : World) (s : ByteArray) (e0 : Int) (hn : (Lit.int .i64 n).wf = true) (hs : numS n = s) (he : numE n = e0) :
    Calls Try.prog 15 #[.int .i64 n] w fun e w' => e = .returned (.tuple #[.string s, .int .i64 e0]) ∧ Below w.heap.size w w' := by
  subst hs he
  exact tlv_num n w hn
theorem tlv_get_val (s : ByteArray) (w : World) (v e0 : Int) (hs : s.size ≤ 140737488351232) (hv : getV s = v) (he : getE s = e0) :
    Calls Try.prog 17 #[.string s] w fun e w' => e = .returned (.tuple #[.int .i64 v, .int .i64 e0]) ∧ Below w.heap.size w w' := by
  subst hv he
  exact tlv_get s w hs

theorem ref_lay_val (A : Option Addr) (n c B : Nat) (l : List (Int × ByteArray)) (w : World) (o : Option (List UInt8)) (hr : ReadsF w B A n l) (hB : B ≤ w.heap.size) (hn : n ≤ 8796093022208) (hi : ∀ f ∈ l, (Lit.int .i64 f.1).wf = true ∧ f.2.size ≤ 140737488351232)
    (ho : layO (l.map asL) = o) (S : ByteArray) (e0 : Int) (hS : laidS o = S) (hE : laidE o = e0) :
    Calls Try.prog 12 #[.slice A n c] w fun e w' => e = .returned (.tuple #[.string S, .int .i64 e0]) ∧ Below w.heap.size w w' := by
  subst ho hS hE
  exact ref03_lay A n c B l w hr hB hn hi
theorem ref_take_val (s : ByteArray) (w : World) (o : Option (List Fld)) (F : List (Int × ByteArray)) (e0 : Int) (hs : s.size ≤ 140737488351232) (ho : takeO (bsOf s) = o) (hF : tookL o = F) (hE : tookE o = e0) :
    Calls Try.prog 14 #[.string s] w fun e w' => ∃ A c, e = .returned (.tuple #[.slice A F.length c, .int .i64 e0]) ∧ ReadsF w' w'.heap.size A F.length F ∧ Below w.heap.size w w' := by
  refine (ref03_take s w hs).mono ?_
  subst ho hF hE
  rintro e w' ⟨b, h⟩
  cases ht : takeO (bsOf s) with
  | none =>
    rw [ht] at h
    exact ⟨none, 0, h, ReadsF.none_ _ _ _, b⟩
  | some l =>
    rw [ht] at h
    obtain ⟨A, c, rfl, ho⟩ := h
    have e1 : (tookL (some l)).length = l.length := List.length_map _
    rw [e1]
    exact ⟨A, c, rfl, ho.reads, b⟩
theorem ref_num_val (n : Int) (w : World) (s : ByteArray) (e0 : Int) (hn : (Lit.int .i64 n).wf = true) (hs : numS n = s) (he : numE n = e0) :
    Calls Try.prog 16 #[.int .i64 n] w fun e w' => e = .returned (.tuple #[.string s, .int .i64 e0]) ∧ Below w.heap.size w w' := by
  subst hs he
  exact ref03_num n w hn
theorem ref_get_val (s : ByteArray) (w : World) (v e0 : Int) (hs : s.size ≤ 140737488351232) (hv : getV s = v) (he : getE s = e0) :
    Calls Try.prog 18 #[.string s] w fun e w' => e = .returned (.tuple #[.int .i64 v, .int .i64 e0]) ∧ Below w.heap.size w w' := by
  subst hv he
  exact ref03_get s w hs
theorem tookL_small (s : ByteArray) : (tookL (takeO (bsOf s))).length ≤ 8796093022208 := by
  cases ht : takeO (bsOf s) with
  | none => exact Nat.zero_le _
  | some l =>
    have h := (lay_takeN 64 _ _ ht).2.1
    show (l.map ofL).length ≤ _
    rw [List.length_map]
    omega

set_option maxRecDepth 100000 in
set_option maxHeartbeats 1600000 in
theorem awake03 (w : World) : Calls Try.prog 10 #[] w fun e w' => e = .returned (.bool true) ∧ Below w.heap.size w w' := by
  have h1 : layO ([((7 : Int), (⟨#[97, 98]⟩ : ByteArray))].map asL) = some [7, 2, 0, 97, 98] := by decide +kernel
  have h2 : takeO (bsOf ⟨#[7, 2, 0, 97, 98]⟩) = some [(7, [97, 98])] := by decide +kernel
  have n1 : numS (-1) = ⟨#[]⟩ := by unfold numS; rw [if_pos (by decide), show ((-1 : Int) + 1).toNat = 0 by decide, numL_zero]
  have n2 : numS 0 = ⟨#[1]⟩ := by unfold numS; rw [if_pos (by decide), show ((0 : Int) + 1).toNat = 1 by decide, numL_pos 1 (by decide), show 1 / 256 = 0 by decide, numL_zero]; rfl
  have n3 : numS 255 = ⟨#[0, 1]⟩ := by unfold numS; rw [if_pos (by decide), show ((255 : Int) + 1).toNat = 256 by decide, numL_pos 256 (by decide), show 256 / 256 = 1 by decide, numL_pos 1 (by decide), show 1 / 256 = 0 by decide, numL_zero]; rfl
  have g0 : ¬ getOk ⟨#[0]⟩ := by
    unfold getOk
    rw [show valL (bsOf ⟨#[0]⟩) = 0 by decide, numL_zero]
    intro h
    exact absurd h.2.2 (by decide)
  have C2 := Lib.hid (fun w' => tlv_take_val ⟨#[7, 2, 0, 97, 98]⟩ w' _ [((7 : Int), (⟨#[97, 98]⟩ : ByteArray))] 0 (by decide) h2 rfl rfl)
  have N1 := Lib.hid (fun w' => tlv_num_val (-1) w' _ 0 (by decide) n1 (if_pos (by decide)))
  have N2 := Lib.hid (fun w' => tlv_num_val 0 w' _ 0 (by decide) n2 (if_pos (by decide)))
  have N3 := Lib.hid (fun w' => tlv_num_val 255 w' _ 0 (by decide) n3 (if_pos (by decide)))
  have G0 := Lib.hid (fun w' => tlv_get_val ⟨#[0]⟩ w' 0 30 (by decide) (if_neg g0) (if_neg g0))
  have H1 := Lib.hid h1
  clear h1 h2 n1 n2 n3 g0
  have b0 := Below.refl w.heap.size w
  go_enter Try.func10, Try.ntmps10
  go_wp2_with fail
  refine (tlv_lay_val _ 1 1 _ _ _ _ (readsF_one w 7 ⟨#[97, 98]⟩ 40) (by simp) (by decide) (by simp [Lit.wf]; decide) H1.out ⟨#[7, 2, 0, 97, 98]⟩ 0 rfl rfl).mono ?_
  rintro e w1 ⟨rfl, b1⟩
  replace b1 := below_call (b0.alloc (Nat.le_refl _) _) b1
  go_wp2_with fail
  refine (C2.out _).mono ?_
  rintro e w2 ⟨A2, c2, rfl, r2, b2⟩
  replace b2 := below_call b1 b2
  go_wp2_with fail
  refine (N1.out _).mono ?_
  rintro e w3 ⟨rfl, b3⟩
  have r3 := (r2.below b3).more b3.size
  replace b3 := below_call b2 b3
  go_wp2_with fail
  refine (N2.out _).mono ?_
  rintro e w4 ⟨rfl, b4⟩
  have r4 := (r3.below b4).more b4.size
  replace b4 := below_call b3 b4
  go_wp2_with fail
  refine (N3.out _).mono ?_
  rintro e w5 ⟨rfl, b5⟩
  have r5 := (r4.below b5).more b5.size
  replace b5 := below_call b4 b5
  go_wp2_with fail
  refine (G0.out _).mono ?_
  rintro e w6 ⟨rfl, b6⟩
  have r6 := (r5.below b6).more b6.size
  replace b6 := below_call b5 b6
  clear r2 r3 r4 r5
  go_wp2_with fail
  refine (same03 A2 _ 1 1 c2 1 (w6.heap.size + 1) _ _ _ ((r6.below ((Below.refl _ _).alloc (Nat.le_refl _) _)).more (by omega)) (readsF_one w6 7 ⟨#[97, 98]⟩ 40) (by simp) (by decide) (by decide)).mono ?_
  rintro e w7 ⟨rfl, m, rfl⟩
  have hsame : sameF [((7 : Int), (⟨#[97, 98]⟩ : ByteArray))] [((7 : Int), (⟨#[97, 98]⟩ : ByteArray))] = true := sameF_refl _
  rw [hsame]
  go_wp2
  go_ret
  exact ⟨rfl, below_drewN3 (b6.alloc b6.size _) _⟩

set_option maxRecDepth 100000 in
set_option maxHeartbeats 3200000 in
/-- TlvTells -/
theorem tlvTells_any (A : Option Addr) (n c : Nat) (l : List (Int × ByteArray)) (s : ByteArray) (k : Int) (w : World) (hr : ReadsF w w.heap.size A n l) (hn : n ≤ 8796093022208) (hi : ∀ f ∈ l, (Lit.int .i64 f.1).wf = true ∧ f.2.size ≤ 140737488351232)
    (hs : s.size ≤ 140737488351232) (hk : (Lit.int .i64 k).wf = true) :
    Holds Try.prog 3 #[.slice A n c, .string s, .int .i64 k] w := by
  obtain ⟨o, ho⟩ : ∃ o, layO (l.map asL) = o := ⟨_, rfl⟩
  obtain ⟨S, hS⟩ : ∃ S, laidS o = S := ⟨_, rfl⟩
  obtain ⟨E, hE⟩ : ∃ E, laidE o = E := ⟨_, rfl⟩
  obtain ⟨t, ht⟩ : ∃ t, takeO (bsOf s) = t := ⟨_, rfl⟩
  obtain ⟨F, hF⟩ : ∃ F, tookL t = F := ⟨_, rfl⟩
  obtain ⟨G, hG⟩ : ∃ G, tookE t = G := ⟨_, rfl⟩
  obtain ⟨M, hM⟩ : ∃ M, numS k = M := ⟨_, rfl⟩
  obtain ⟨I, hI⟩ : ∃ I, numE k = I := ⟨_, rfl⟩
  obtain ⟨X, hX⟩ : ∃ X, getV s = X := ⟨_, rfl⟩
  obtain ⟨J, hJ⟩ : ∃ J, getE s = J := ⟨_, rfl⟩
  have C1 := Lib.hid (fun w' hr' hB => tlv_lay_val A n c w.heap.size l w' o hr' hB hn hi ho S E hS hE)
  have R1 := Lib.hid (fun w' hr' hB => ref_lay_val A n c w.heap.size l w' o hr' hB hn hi ho S E hS hE)
  have C2 := Lib.hid (fun w' => tlv_take_val s w' t F G (by omega) ht hF hG)
  have R2 := Lib.hid (fun w' => ref_take_val s w' t F G hs ht hF hG)
  have C3 := Lib.hid (fun w' => tlv_num_val k w' M I hk hM hI)
  have R3 := Lib.hid (fun w' => ref_num_val k w' M I hk hM hI)
  have C4 := Lib.hid (fun w' => tlv_get_val s w' X J hs hX hJ)
  have R4 := Lib.hid (fun w' => ref_get_val s w' X J hs hX hJ)
  have HR := Lib.hid hr
  have hFl : F.length ≤ 8796093022208 := by rw [← hF, ← ht]; exact tookL_small s
  clear ho hS hE ht hF hG hM hI hX hJ hr hn hi hs hk
  have b0 := Below.refl w.heap.size w
  unfold Holds
  go_enter Try.func3, Try.ntmps3
  go_wp2_with fail
  refine (awake03 _).mono ?_
  rintro e w1 ⟨rfl, b1⟩
  go_wp2_with fail
  refine (C1.out _ (HR.out.below b1) b1.size).mono ?_
  rintro e w2 ⟨rfl, b2⟩
  replace b2 := below_call b1 b2
  go_wp2_with fail
  refine (R1.out _ (HR.out.below b2) b2.size).mono ?_
  rintro e w3 ⟨rfl, b3⟩
  replace b3 := below_call b2 b3
  go_wp2_with fail
  refine (C2.out _).mono ?_
  rintro e w4 ⟨A4, c4, rfl, r4, b4⟩
  replace b4 := below_call b3 b4
  go_wp2_with fail
  refine (R2.out _).mono ?_
  rintro e w5 ⟨A5, c5, rfl, r5, b5⟩
  replace r4 := (r4.below b5).more b5.size
  replace b5 := below_call b4 b5
  go_wp2_with fail
  refine (C3.out _).mono ?_
  rintro e w6 ⟨rfl, b6⟩
  replace r4 := (r4.below b6).more b6.size
  replace r5 := (r5.below b6).more b6.size
  replace b6 := below_call b5 b6
  go_wp2_with fail
  refine (R3.out _).mono ?_
  rintro e w7 ⟨rfl, b7⟩
  replace r4 := (r4.below b7).more b7.size
  replace r5 := (r5.below b7).more b7.size
  replace b7 := below_call b6 b7
  go_wp2_with fail
  refine (C4.out _).mono ?_
  rintro e w8 ⟨rfl, b8⟩
  replace r4 := (r4.below b8).more b8.size
  replace r5 := (r5.below b8).more b8.size
  replace b8 := below_call b7 b8
  go_wp2_with fail
  refine (R4.out _).mono ?_
  rintro e w9 ⟨rfl, b9⟩
  replace r4 := (r4.below b9).more b9.size
  replace r5 := (r5.below b9).more b9.size
  replace b9 := below_call b8 b9
  go_wp2_with fail
  refine (same03 A4 A5 F.length F.length c4 c5 _ F F _ r4 r5 (Nat.le_refl _) hFl hFl).mono ?_
  rintro e w10 ⟨rfl, m, rfl⟩
  rw [sameF_refl]
  go_wp2
  go_ret
  exact ⟨rfl, below_drewN3 b9 _⟩
end Go.Proofs.Ytkdkekmgnejhpaa
