/- The statements of layer 3: walks, continued: what is taken up, laid again. -/
import Derived.Test.YtkdkekmgnejhpaaTlvLawsF
namespace Go.Proofs.Ytkdkekmgnejhpaa
open Go.RowKit Go.ChangeShapes Go.WideShapes

theorem took_lay (x : ByteArray) (l : List Fld) (ht : takeO (bsOf x) = some l) : layO ((l.map ofL).map asL) = some (bsOf x) ∧ (l.map ofL).length ≤ 64 ∧ ((l.map ofL).map asL).all fldOk = true := by
  have e : (l.map ofL).map asL = l := by rw [List.map_map]; exact List.map_id _
  obtain ⟨_, h2, h3⟩ := lay_takeN 64 _ _ ht
  rw [e, List.length_map]
  exact ⟨(takeO_iff _ _).1 ht, h2, h3⟩

set_option maxRecDepth 100000 in
set_option maxHeartbeats 1600000 in
/-- TlvForth -/
theorem tlvForth_any (s : ByteArray) (A : Option Addr) (n c : Nat) (l : List (Int × ByteArray)) (p : Int) (more : ByteArray) (w : World) (hs : s.size ≤ 140737488351232) (hr : ReadsF w w.heap.size A n l) (hn : n ≤ 8796093022208) (hi : ∀ f ∈ l, (Lit.int .i64 f.1).wf = true ∧ f.2.size ≤ 140737488351232)
    (hp : (Lit.int .i64 p).wf = true) (hm : more.size ≤ 140737488351232) :
    Holds Try.prog 5 #[.string s, .slice A n c, .int .i64 p, .string more] w := by
  have F1 := Lib.hid (fun w' hr' hB => fit03 A n c w.heap.size l w' hr' hB hn hi)
  have HR := Lib.hid hr
  have HP := Lib.hid hp
  clear hr hn hi hp
  have b0 := Below.refl w.heap.size w
  unfold Holds
  go_enter Try.func5, Try.ntmps5
  go_wp2_with fail
  refine (awake03 _).mono ?_
  rintro e w1 ⟨rfl, b1⟩
  go_wp2_with fail
  refine (F1.out _ (HR.out.below b1) b1.size).mono ?_
  rintro e w2 ⟨G1, d1, fs, rfl, l1, k1, o1, b2⟩
  have r1 := o1.reads
  replace b2 := below_call b1 b2
  clear o1 F1 HR
  obtain ⟨S, hS⟩ : ∃ S, (⟨(layL (fs.map asL)).toArray⟩ : ByteArray) = S := ⟨_, rfl⟩
  have hz := laid_size fs (by omega) k1
  rw [hS] at hz
  have K1 := Lib.hid k1
  have HS := Lib.hid hS
  clear k1 hS
  go_wp2_with fail
  refine (fit_laid G1 d1 fs _ r1 (by omega) K1.out S HS.out).mono ?_
  rintro e w3 ⟨rfl, b3⟩
  replace b3 := below_call b2 b3
  clear r1 K1 HS
  go_wp2_with fail
  refine (pick03 p _ _ HP.out (by omega) (by omega)).mono ?_
  rintro e w4 ⟨g, hg, rfl, rfl⟩
  have g0 : (0 : Int) ≤ g := by omega
  have g1 : (g : Int) ≤ S.size := by omega
  have z1 : (S.extract 0 g).size = g := by simp; omega
  have z2 : (S.extract g S.size).size = S.size - g := by simp
  have z3 : (S.extract 0 g ++ more).size = g + more.size := by rw [size_cat3, z1]
  have z4 : (S.extract 0 g ++ more ++ S.extract g S.size).size = g + more.size + (S.size - g) := by rw [size_cat3, z3, z2]
  go_wp2
  go_region
  obtain ⟨T, hT⟩ : ∃ T, S.extract 0 g ++ more ++ S.extract g S.size = T := ⟨_, rfl⟩
  rw [hT] at z4 ⊢
  have hTs : T.size ≤ 1125899906842624 := by omega
  have hss : s.size ≤ 1125899906842624 := by omega
  clear z1 z2 z3 z4 hT g0 g1 hg hm hs
  go_wp2_with fail
  have b4 := (b3.alloc b3.size (.cells #[.string s, .string T] 9)).drew
  have r4 : Reads (w3.alloc (.cells #[.string s, .string T] 9)).drew (w3.heap.size + 1) (some ⟨w3.heap.size, 0, none⟩) 2 [.string s, .string T] := reads_lit w3 [.string s, .string T] 9 2 rfl
  go_loopw [44] (fun i wr => ∃ k : Nat, k ≤ 2 ∧ i = .int .i64 k ∧ Reads wr (w3.heap.size + 1) (some ⟨w3.heap.size, 0, none⟩) 2 [.string s, .string T] ∧ Below w.heap.size w wr ∧ w3.heap.size + 1 ≤ wr.heap.size) (fun i _ => 2 - (intOf i).toNat)
  case atStart => exact ⟨0, by omega, rfl, r4, b4, by simp⟩
  case round =>
    obtain ⟨k, hk, rfl, rd, hbr, hsz⟩ := hrel
    by_cases hk2 : k < 2
    · obtain ⟨x, hxl, hxs⟩ : ∃ x : ByteArray, [Value.string s, Value.string T][k]? = some (.string x) ∧ x.size ≤ 1125899906842624 := by
        match k, hk2 with
        | 0, _ => exact ⟨s, rfl, hss⟩
        | 1, _ => exact ⟨T, rfl, hTs⟩
      have cx : wr.cell? ⟨w3.heap.size, k, none⟩ = some (.string x) := by
        obtain ⟨b, o, u, e1, e2, e3, e4⟩ := rd.at_ hk2
        simp only [Option.some.injEq, Addr.mk.injEq] at e1
        obtain ⟨rfl, rfl, _⟩ := e1
        rw [e3] at hxl
        rw [Nat.zero_add] at e4
        rw [e4, hxl]
      have dk : decide ((k : Int) < 2) = true := by simp; omega
      have dk2 : decide (k < 2) = true := by simp; omega
      have kn : (k : Int) < 2 := by omega
      obtain ⟨t, ht⟩ : ∃ t, takeO (bsOf x) = t := ⟨_, rfl⟩
      have hcase : (tookL t = [] ∧ tookE t = 30) ∨ (tookE t = 0 ∧ layO ((tookL t).map asL) = some (bsOf x) ∧ (tookL t).length ≤ 64 ∧ ((tookL t).map asL).all fldOk = true) := by
        cases t with
        | none => exact Or.inl ⟨rfl, rfl⟩
        | some l =>
          obtain ⟨q1, q2, q3⟩ := took_lay x l ht
          exact Or.inr ⟨rfl, q1, q2, q3⟩
      rcases hcase with ⟨hF, hE⟩ | ⟨hE, hL, hF64, hFok⟩
      · have C1 := Lib.hid (fun w' => tlv_take_val x w' t [] 30 hxs ht hF hE)
        clear ht hF hE hxl
        go_wp2_with fail
        refine (C1.out _).mono ?_
        rintro e w5 ⟨A5, c5, rfl, r5, b5⟩
        have rd5 := rd.below (b5.mono hsz)
        have hs5 := Nat.le_trans hsz b5.size
        replace b5 := below_call hbr b5
        go_wp2
        go_roundw
        case rel => exact ⟨k + 1, by omega, by first | rfl | go_num, rd5, b5, hs5⟩
        case measure => simp [intOf]; omega
      · obtain ⟨F, hF⟩ : ∃ F, tookL t = F := ⟨_, rfl⟩
        rw [hF] at hL hF64 hFok
        have C1 := Lib.hid (fun w' => tlv_take_val x w' t F 0 hxs ht hF hE)
        have hi := fit_ok F hFok
        have C2 := Lib.hid (fun A c w' (h : ReadsF w' w'.heap.size A F.length F) => tlv_lay_val A F.length c w'.heap.size F w' (some (bsOf x)) h (Nat.le_refl _) (by omega) hi hL x 0 rfl rfl)
        clear ht hF hE hxl hL hF64 hFok hi
        go_wp2_with fail
        refine (C1.out _).mono ?_
        rintro e w5 ⟨A5, c5, rfl, r5, b5⟩
        have rd5 := rd.below (b5.mono hsz)
        have hs5 := Nat.le_trans hsz b5.size
        replace b5 := below_call hbr b5
        go_wp2_with fail
        refine (C2.out _ _ _ r5).mono ?_
        rintro e w6 ⟨rfl, b6⟩
        have rd6 := rd5.below (b6.mono hs5)
        have hs6 := Nat.le_trans hs5 b6.size
        replace b6 := below_call b5 b6
        go_wp2
        go_roundw
        case rel => exact ⟨k + 1, by omega, by first | rfl | go_num, rd6, b6, hs6⟩
        case measure => simp [intOf]; omega
    · have e : k = 2 := by omega
      subst e
      go_wp2
      go_ret
      exact ⟨rfl, hbr⟩
end Go.Proofs.Ytkdkekmgnejhpaa
