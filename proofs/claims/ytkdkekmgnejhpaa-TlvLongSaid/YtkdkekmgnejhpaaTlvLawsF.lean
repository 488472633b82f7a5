/- The statements of layer 3: walks, continued: what was laid, cut. -/
import Derived.Test.YtkdkekmgnejhpaaTlvLawsE
namespace Go.Proofs.Ytkdkekmgnejhpaa
open Go.RowKit Go.ChangeShapes Go.WideShapes

/-- how long the first k fields are, laid -/
def longK (fs : List (Int × ByteArray)) (k : Nat) : Nat := (layL ((fs.take k).map asL)).length
theorem longK_zero (fs : List (Int × ByteArray)) : longK fs 0 = 0 := rfl
theorem longK_snoc (fs : List (Int × ByteArray)) (k : Nat) (t : Int) (x : ByteArray) (h : fs[k]? = some (t, x)) : longK fs (k + 1) = longK fs k + 3 + x.size := by
  unfold longK
  rw [layL_long, layL_long, sumT_snoc fs k t x h, List.length_take, List.length_take]
  have := (List.getElem?_eq_some_iff.1 h).1
  rw [Nat.min_eq_left (by omega), Nat.min_eq_left (by omega)]
  omega
theorem longK_mono (fs : List (Int × ByteArray)) (i j : Nat) (hij : i ≤ j) (hj : j ≤ fs.length) : longK fs i + 3 * (j - i) ≤ longK fs j := by
  induction j with
  | zero => simp at hij; subst hij; simp
  | succ j ih =>
    by_cases h : i = j + 1
    · subst h; simp
    · have h1 := ih (by omega) (by omega)
      have h2 := longK_snoc fs j (fs[j]'(by omega)).1 (fs[j]'(by omega)).2 (List.getElem?_eq_getElem (by omega))
      omega
theorem layL_take (fs : List (Int × ByteArray)) (k : Nat) : layL ((fs.take k).map asL) = (layL (fs.map asL)).take (longK fs k) := by
  have e : layL (fs.map asL) = layL ((fs.take k).map asL) ++ layL ((fs.drop k).map asL) := by
    rw [← layL_append, ← List.map_append, List.take_append_drop]
  rw [e]
  unfold longK
  rw [List.take_left]
/-- cut between two fields: the fields ahead of the cut -/
theorem cut_good (fs : List (Int × ByteArray)) (hl : fs.length ≤ 64) (h : (fs.map asL).all fldOk = true) (k : Nat) : takeO ((layL (fs.map asL)).take (longK fs k)) = some ((fs.take k).map asL) := by
  rw [← layL_take]
  refine takeO_lay _ (by rw [List.length_map, List.length_take]; omega) ?_
  exact List.all_eq_true.2 fun f hf => List.all_eq_true.1 h f (by rw [List.map_take] at hf; exact List.mem_of_mem_take hf)
/-- cut elsewhere: nothing -/
theorem cut_bad (fs : List (Int × ByteArray)) (hl : fs.length ≤ 64) (h : (fs.map asL).all fldOk = true) (n : Nat) (hn : n ≤ (layL (fs.map asL)).length) (hne : ∀ k, k ≤ fs.length → longK fs k ≠ n) : takeO ((layL (fs.map asL)).take n) = none := by
  cases ht : takeO ((layL (fs.map asL)).take n) with
  | none => rfl
  | some m =>
    obtain ⟨e1, e2, e3⟩ := lay_takeN 64 _ _ ht
    obtain ⟨j, hj, _, hj2⟩ := lay_prefix 64 m (fs.map asL) n e2 e3 h (by rw [List.length_map]; exact hl) e2 e1 hn
    rw [List.length_map] at hj
    refine absurd ?_ (hne j hj)
    rw [← hj2]
    unfold longK longL
    rw [List.map_take]
theorem readsF_take {w : World} {B n : Nat} {A : Option Addr} {l : List (Int × ByteArray)} (h : ReadsF w B A n l) (k : Nat) (hk : k ≤ n) : ReadsF w B A k (l.take k) := by
  refine ⟨by rw [List.length_take, h.1, Nat.min_eq_left hk], ?_⟩
  have h1 := h.2.take_ (k := 2 * k) (by omega)
  have e : (cellsF l).take (2 * k) = cellsF (l.take k) := by
    have e2 : cellsF l = cellsF (l.take k) ++ cellsF (l.drop k) := by rw [← cellsF_append, List.take_append_drop]
    rw [e2, List.take_left' (by rw [cellsF_length, List.length_take, h.1, Nat.min_eq_left hk])]
  rw [e] at h1
  exact h1
theorem OwnF.cap {w : World} {B n c : Nat} {A : Option Addr} {l : List (Int × ByteArray)} (h : OwnF w B A n c l) : n ≤ c := by
  rcases h.2 with ⟨hv, h0⟩ | ⟨g, cap, cur, hv, hb, hg, hnc, _⟩
  · omega
  · simp only [Value.slice.injEq] at hv
    obtain ⟨_, _, rfl⟩ := hv
    exact hnc
theorem bs_upto (s : ByteArray) (n : Nat) : bsOf (s.extract 0 n) = (bsOf s).take n := by
  simp [bsOf]

set_option maxRecDepth 100000 in
set_option maxHeartbeats 1600000 in
/-- TlvCut -/
theorem tlvCut_any (A : Option Addr) (n c : Nat) (l : List (Int × ByteArray)) (p : Int) (w : World) (hr : ReadsF w w.heap.size A n l) (hn : n ≤ 8796093022208) (hi : ∀ f ∈ l, (Lit.int .i64 f.1).wf = true ∧ f.2.size ≤ 140737488351232)
    (hp : (Lit.int .i64 p).wf = true) :
    Holds Try.prog 8 #[.slice A n c, .int .i64 p] w := by
  have F1 := Lib.hid (fun w' hr' hB => fit03 A n c w.heap.size l w' hr' hB hn hi)
  have HR := Lib.hid hr
  have HP := Lib.hid hp
  clear hr hn hi hp
  have b0 := Below.refl w.heap.size w
  unfold Holds
  go_enter Try.func8, Try.ntmps8
  go_wp2_with fail
  refine (awake03 _).mono ?_
  rintro e w1 ⟨rfl, b1⟩
  go_wp2_with fail
  refine (F1.out _ (HR.out.below b1) b1.size).mono ?_
  rintro e w2 ⟨G1, d1, fs, rfl, l1, k1, o1, b2⟩
  have r1 := o1.reads
  have hcap := o1.cap
  replace b2 := below_call b1 b2
  clear o1 F1 HR
  obtain ⟨S, hS⟩ : ∃ S, (⟨(layL (fs.map asL)).toArray⟩ : ByteArray) = S := ⟨_, rfl⟩
  have hSb : layL (fs.map asL) = bsOf S := by rw [← hS]
  have hz := laid_size fs (by omega) k1
  rw [hS] at hz
  have K1 := Lib.hid k1
  have HS := Lib.hid hS
  have HSB := Lib.hid hSb
  clear k1 hS hSb
  go_wp2_with fail
  refine (fit_laid G1 d1 fs _ r1 (by omega) K1.out S HS.out).mono ?_
  rintro e w3 ⟨rfl, b3⟩
  replace r1 := (r1.below b3).more b3.size
  replace b3 := below_call b2 b3
  go_wp2_with fail
  refine (pick03 p _ _ HP.out (by omega) (by omega)).mono ?_
  rintro e w4 ⟨g, hg, rfl, rfl⟩
  obtain ⟨t, ht⟩ : ∃ t, takeO (bsOf (S.extract 0 g)) = t := ⟨_, rfl⟩
  obtain ⟨F, hF⟩ : ∃ F, tookL t = F := ⟨_, rfl⟩
  obtain ⟨E, hE⟩ : ∃ E, tookE t = E := ⟨_, rfl⟩
  have hT := fun w' => tlv_take_val (S.extract 0 g) w' t F E (by simp; omega) ht hF hE
  have HT := Lib.hid hT
  have HTT := Lib.hid ht
  have HFF := Lib.hid hF
  have HEE := Lib.hid hE
  clear hT ht hF hE
  have g0 : (0 : Int) ≤ g := by omega
  have g1 : (g : Int) ≤ S.size := by omega
  go_wp2_with fail
  refine (HT.out _).mono ?_
  rintro e w5 ⟨A5, c5, rfl, r5, b5⟩
  replace r1 := (r1.below b5).more b5.size
  replace b5 := below_call b3 b5
  go_wp2_with fail
  have hge : ∀ k, k ≤ fs.length → longK fs k ≤ 25792 := fun k hk => by
    have h1 := longK_mono fs k fs.length hk (Nat.le_refl _)
    have h2 : longK fs fs.length = S.size := by
      unfold longK
      rw [List.take_length, HSB.out]
      rfl
    omega
  have HGE := Lib.hid hge
  clear hge
  go_loopw [12, 13] (fun a i wr => ∃ k : Nat, k ≤ fs.length ∧ i = .int .i64 k ∧ a = .int .i64 (longK fs k : Nat) ∧ Hid (∀ j, j < k → longK fs j < g) ∧ w5 = wr) (fun _ i _ => fs.length - (intOf i).toNat)
  case atStart => exact ⟨0, Nat.zero_le _, rfl, rfl, Lib.hid (fun j hj => absurd hj (Nat.not_lt_zero j)), rfl⟩
  case round =>
    obtain ⟨k, hk, rfl, rfl, hbe, rfl⟩ := hrel
    have hLk := HGE.out k hk
    obtain ⟨a, ha⟩ : ∃ a, longK fs k = a := ⟨_, rfl⟩
    rw [ha] at hLk ⊢
    by_cases hin : k < fs.length ∧ a < g
    · obtain ⟨g2, g3⟩ := hin
      have e1 : decide ((k : Int) < fs.length) = true := by simp; omega
      have e2 : decide (k < fs.length) = true := by simp; omega
      have e3 : decide ((a : Int) < g) = true := by simp; omega
      have e4 : decide (a < g) = true := by simp; omega
      have kn : (k : Int) < fs.length := by omega
      obtain ⟨b, o, t1, x, rfl, hb, hf, ct, cx⟩ := r1.at_ g2
      rw [Nat.mul_comm 2 k] at ct cx
      have hsn := longK_snoc fs k t1 x hf
      rw [ha] at hsn
      have hL2 := HGE.out (k + 1) (by omega)
      rw [hsn] at hL2
      have HSN := Lib.hid hsn
      have HA := Lib.hid ha
      clear hsn hf ha
      go_wp2
      go_roundw
      case rel => exact ⟨k + 1, by omega, by first | omega | go_num, int_eq (by rw [HSN.out]; omega), Lib.hid (fun j hj => by
        by_cases h : j < k
        · exact hbe.out j h
        · have : j = k := by omega
          rw [this, HA.out]; exact g3), trivial⟩
      case measure => simp [intOf]; omega
    · have hends : (decide (k < fs.length) = false ∧ decide ((k : Int) < fs.length) = false) ∨ (decide (k < fs.length) = true ∧ decide ((k : Int) < fs.length) = true ∧ decide (a < g) = false ∧ decide ((a : Int) < g) = false) := by
        by_cases h : k < fs.length
        · exact Or.inr ⟨by simp; omega, by simp; omega, by simp; omega, by simp; omega⟩
        · exact Or.inl ⟨by simp; omega, by simp; omega⟩
      by_cases hag : a = g
      · have ht : t = some ((fs.take k).map asL) := by
          rw [← HTT.out, bs_upto, ← HSB.out, ← hag, ← ha]
          exact cut_good fs (by omega) K1.out k
        have hF : F = fs.take k := by rw [← HFF.out, ht]; exact ofL_back _
        have hE : E = 0 := by rw [← HEE.out, ht]; rfl
        have hFl : F.length = k := by rw [hF, List.length_take]; omega
        rw [hFl, hF] at r5
        rw [hFl]
        have hka : (a == g) = true := by simp [hag]
        subst hE hag
        have rt := readsF_take r1 k hk
        have kc : (k : Int) ≤ d1 := by omega
        have k0 : (0 : Int) ≤ k := by omega
        clear HTT HFF HEE HT ht hF hFl hin ha hbe
        rcases hends with ⟨e1, e2⟩ | ⟨e1, e2, e3, e4⟩
        all_goals
          go_wp2_with fail
          refine (same03 A5 G1 k k c5 d1 _ (fs.take k) (fs.take k) w5 r5 rt (Nat.le_refl _) (by omega) (by omega)).mono ?_
          rintro e w7 ⟨rfl, m7, rfl⟩
          rw [sameF_refl]
          go_wp2
          go_ret
          exact ⟨rfl, below_drewN3 b5 _⟩
      · have hne : ∀ j, j ≤ fs.length → longK fs j ≠ g := fun j hj he => by
          by_cases h1 : j < k
          · have := hbe.out j h1; omega
          · by_cases h2 : j = k
            · rw [h2, ha] at he; exact hag he
            · have h3 := longK_mono fs k j (by omega) hj
              rw [ha] at h3
              omega
        have ht : t = none := by
          rw [← HTT.out, bs_upto, ← HSB.out]
          exact cut_bad fs (by omega) K1.out g (by rw [HSB.out]; show g ≤ S.size; omega) hne
        have hF : F = [] := by rw [← HFF.out, ht]; rfl
        have hE : E = 30 := by rw [← HEE.out, ht]; rfl
        subst hE hF
        have x1 : ((a : Int) == (g : Int)) = false := by simp; omega
        clear HTT HFF HEE HT ht hin ha hbe hne
        rcases hends with ⟨e1, e2⟩ | ⟨e1, e2, e3, e4⟩
        all_goals
          go_wp2
          go_ret
          exact ⟨rfl, b5⟩
end Go.Proofs.Ytkdkekmgnejhpaa
