/- Layer 3: the statements' own helpers, walked. -/
import Derived.Test.YtkdkekmgnejhpaaTlvLay
import Derived.Deep.RegionHeld3
namespace Go.Proofs.Ytkdkekmgnejhpaa
open Go.RowKit Go.ChangeShapes Go.WideShapes

def sameF (a b : List (Int × ByteArray)) : Bool := decide (a.map asL = b.map asL)
theorem sameF_snoc (a b : List (Int × ByteArray)) (k : Nat) (t u : Int) (x y : ByteArray) (ha : a[k]? = some (t, x)) (hb : b[k]? = some (u, y)) (h : sameF a b = true) : t = u ∧ bsOf x = bsOf y := by
  have h1 : a.map asL = b.map asL := by simpa [sameF] using h
  have h2 := congrArg (fun l => l[k]?) h1
  simp only [List.getElem?_map, ha, hb, Option.map_some, Option.some.injEq, asL, Prod.mk.injEq] at h2
  exact h2

set_option maxRecDepth 100000 in
set_option maxHeartbeats 1600000 in
theorem same03 (A A2 : Option Addr) (n n2 c c2 B : Nat) (a b : List (Int × ByteArray)) (w : World) (ha : ReadsF w B A n a) (hb : ReadsF w B A2 n2 b) (hB : B ≤ w.heap.size) (hn : n ≤ 8796093022208) (hn2 : n2 ≤ 8796093022208) :
    Calls Try.prog 19 #[.slice A n c, .slice A2 n2 c2] w fun e w' => e = .returned (.bool (sameF a b)) ∧ ∃ m, w' = w.drewN m := by
  by_cases hne : n = n2
  · subst hne
    have HA := Lib.hid ha
    have HB := Lib.hid hb
    clear ha hb
    go_enter Try.func19, Try.ntmps19
    go_wp2
    go_loopw [5] (fun i wr => ∃ (k : Nat), k ≤ n ∧ i = .int .i64 k ∧ (a.take k).map asL = (b.take k).map asL ∧ ∃ m, wr = w.drewN m) (fun i _ => n - (intOf i).toNat)
    case atStart => exact ⟨0, Nat.zero_le _, rfl, rfl, 0, rfl⟩
    case round =>
      obtain ⟨k, hk, rfl, hsame, m, rfl⟩ := hrel
      have HS := Lib.hid hsame
      clear hsame
      by_cases hkn : k < n
      · have dk : decide ((k : Int) < n) = true := by simp; omega
        have kn : (k : Int) < n := by omega
        obtain ⟨g1, o1, t, x, rfl, hg1, hf1, ct1, cx1⟩ := HA.out.at_ hkn
        obtain ⟨g2, o2, u, y, rfl, hg2, hf2, ct2, cx2⟩ := HB.out.at_ hkn
        have HF1 := Lib.hid hf1
        have HF2 := Lib.hid hf2
        rw [Nat.mul_comm 2 k] at ct1 cx1 ct2 cx2
        clear hf1 hf2
        have HBS : ∀ {p q : ByteArray}, p.toList = q.toList ↔ bsOf p = bsOf q := fun {p q} => by rw [ByteArray.toList_eq, ByteArray.toList_eq]
        by_cases htu : t = u
        · by_cases hxy : x.toList = y.toList
          · have hxb := HBS.1 hxy
            have HXB := Lib.hid hxb
            have HTU := Lib.hid htu
            clear hxb HBS
            go_wp2
            go_region
            go_wp2
            go_roundw
            case rel => exact ⟨k + 1, by omega, by go_num, by rw [List.take_add_one, List.take_add_one, HF1.out, HF2.out, List.map_append, List.map_append, HS.out]; simp [asL, HTU.out]; have := HXB.out; simpa [bsOf] using this, m + 1, rfl⟩
            case measure => simp [intOf]; omega
          · have hno : sameF a b = false := by
              cases h : sameF a b with
              | false => rfl
              | true => exact absurd (HBS.2 (sameF_snoc a b k t u x y HF1.out HF2.out h).2) hxy
            have HNO := Lib.hid hno
            clear hno HBS
            go_wp2
            go_region
            go_wp2
            go_ret
            rw [HNO.out]
            exact ⟨rfl, m + 1, rfl⟩
        · have hno : sameF a b = false := by
            cases h : sameF a b with
            | false => rfl
            | true => exact absurd (sameF_snoc a b k t u x y HF1.out HF2.out h).1 htu
          have HNO := Lib.hid hno
          clear hno HBS
          go_wp2
          go_region
          go_wp2
          go_ret
          rw [HNO.out]
          exact ⟨rfl, m + 1, rfl⟩
      · have dk : decide ((k : Int) < n) = false := by simp; omega
        have hyes : sameF a b = true := by
          have h := HS.out
          rw [List.take_of_length_le (by have := HA.out.len; omega), List.take_of_length_le (by have := HB.out.len; omega)] at h
          simp [sameF, h]
        have HYES := Lib.hid hyes
        clear hyes
        go_wp2
        go_ret
        rw [HYES.out]
        exact ⟨rfl, m, rfl⟩
  · have hno : sameF a b = false := by
      cases h : sameF a b with
      | false => rfl
      | true =>
        have h1 : a.map asL = b.map asL := by simpa [sameF] using h
        have h2 := congrArg List.length h1
        rw [List.length_map, List.length_map, ha.len, hb.len] at h2
        exact absurd h2 hne
    rw [hno]
    go_enter Try.func19, Try.ntmps19
    go_wp2
    go_ret
    exact ⟨rfl, 0, rfl⟩

set_option maxHeartbeats 400000 in
/-- a number below n that the statement picks: which one, no one asks -/
theorem pick03 (c : Int) (n : Int) (w : World) (hc : (Lit.int .i64 c).wf = true) (hn : 1 ≤ n) (hn2 : n ≤ 9223372036854775807) :
    Calls Try.prog 21 #[.int .i64 c, .int .i64 n] w fun e w' => ∃ k : Nat, (k : Int) < n ∧ e = .returned (.int .i64 k) ∧ w = w' := by
  have hb := bounds_i64 hc
  have hn0 : (n == 0) = false := by simp; omega
  obtain ⟨m, rfl⟩ : ∃ m : Nat, n = m := ⟨n.toNat, by omega⟩
  by_cases h : c < 0
  · go_enter Try.func21, Try.ntmps21
    go_wp2
    go_ret
    refine ⟨(-(c + 1)).toNat % m, ?_, ret_int ?_, rfl⟩
    · have := Nat.mod_lt (-(c + 1)).toNat (show m > 0 by omega)
      omega
    · rw [Int.natCast_emod, Int.toNat_of_nonneg (by omega), ← Int.neg_tmod, Int.tmod_eq_emod_of_nonneg (by omega)]
  · go_enter Try.func21, Try.ntmps21
    go_wp2
    go_ret
    refine ⟨c.toNat % m, ?_, ret_int ?_, rfl⟩
    · have := Nat.mod_lt c.toNat (show m > 0 by omega)
      omega
    · rw [Int.natCast_emod, Int.toNat_of_nonneg (by omega)]


set_option maxRecDepth 100000 in
set_option maxHeartbeats 1600000 in
/-- what Fit gives: right fields, twenty at most -/
theorem fit03 (A : Option Addr) (n c B : Nat) (l : List (Int × ByteArray)) (w : World) (hr : ReadsF w B A n l) (hB : B ≤ w.heap.size) (hn : n ≤ 8796093022208) (hi : ∀ f ∈ l, (Lit.int .i64 f.1).wf = true ∧ f.2.size ≤ 140737488351232) :
    Calls Try.prog 20 #[.slice A n c] w fun e w' => ∃ (A' : Option Addr) (c' : Nat) (fs : List (Int × ByteArray)), e = .returned (.slice A' fs.length c') ∧ fs.length ≤ 20 ∧ (fs.map asL).all fldOk = true ∧ OwnF w' w.heap.size A' fs.length c' fs ∧ Below w.heap.size w w' := by
  have HR := Lib.hid hr
  have HI := Lib.hid hi
  clear hr hi
  go_enter Try.func20, Try.ntmps20
  go_wp2
  go_loopw [3, 4] (fun v i wr => ∃ (k : Nat) (fs : List (Int × ByteArray)) (A' : Option Addr) (c' : Nat), k ≤ 20 ∧ i = .int .i64 k ∧ v = .slice A' fs.length c' ∧ fs.length = k ∧ (fs.map asL).all fldOk = true ∧ OwnF wr w.heap.size A' fs.length c' fs ∧ Below w.heap.size w wr) (fun _ i _ => 20 - (intOf i).toNat)
  case atStart => exact ⟨0, [], none, 0, by omega, rfl, rfl, rfl, rfl, OwnF.nil _ _, Below.refl _ _⟩
  case round =>
    obtain ⟨k, fs, A', c', hk, rfl, rfl, hfl, hall, hown, hbr⟩ := hrel
    have HALL := Lib.hid hall
    clear hall
    by_cases hin : k < n ∧ k < 20
    · obtain ⟨g1, g2⟩ := hin
      have d1 : decide ((k : Int) < n) = true := by simp; omega
      have d2 : decide ((k : Int) < 20) = true := by simp; omega
      have kn : (k : Int) < n := by omega
      obtain ⟨b, o, t, x, rfl, hb, hf, ct, cx⟩ := HR.out.at_ g1
      have hbw : b < w.heap.size := by omega
      have hbwr : b < wr.heap.size := Nat.lt_of_lt_of_le hbw hbr.size
      rw [Nat.mul_comm 2 k] at ct cx
      have HCT := Lib.hid ct
      have HCX := Lib.hid cx
      replace ct : wr.cell? ⟨b, o + k * 2, none⟩ = some (.int .i64 t) := by rw [hbr.cell (by exact hbw)]; exact ct
      replace cx : wr.cell? ⟨b, o + k * 2 + 1, none⟩ = some (.string x) := by rw [hbr.cell (by exact hbw)]; exact cx
      have hi := HI.out (t, x) (List.mem_of_getElem? hf)
      have hxs : x.size ≤ 140737488351232 := hi.2
      have HT := Lib.hid hi.1
      clear hi hf
      go_wp2
      obtain ⟨N, hN, hN2, hN3⟩ : ∃ N : Nat, (if (400 : Int) < x.size then (400 : Int) else (x.size : Int)) = N ∧ (N : Int) ≤ x.size ∧ N ≤ 400 := by
        by_cases hx : (400 : Int) < x.size
        · exact ⟨400, by rw [if_pos hx]; rfl, by omega, by omega⟩
        · exact ⟨x.size, by rw [if_neg hx], by omega, by omega⟩
      have hN0 : (0 : Int) ≤ N := by omega
      have q1 : ∀ p : Nat, (p : Int) < 255 → IntKind.i64.wrap (1 + (p : Int)) = 1 + p := fun p hp => by rw [IntKind.wrap_i64]; omega
      go_region_held3 (fun w' => w'.cell? ⟨b, o + k * 2, none⟩ = some (.int .i64 t) ∧ w'.cell? ⟨b, o + k * 2 + 1, none⟩ = some (.string x)) (first
          | exact ⟨(B3.cell (by exact hbw)).trans HCT.out, (B3.cell (by exact hbw)).trans HCX.out⟩
          | exact ⟨ct, cx⟩
          | go_keep)
        (first
          | (refine step_appF (N := k + 1) 22 24 _ rfl _ _ rfl Try.underlying22 info_fld rfl rfl (by rw [← hfl]; first | exact hown.later ((Below.refl _ _).drew.alloc (Nat.le_refl _) _) | exact hown.later ((Below.refl _ _).drew.drew.alloc (Nat.le_refl _) _)) rfl (by first | exact readsF_one _ _ _ _) rfl (by unfold maxLen; omega) (by omega) (by have := hbr.size; simp; omega) ?_; intro A2 c2 w3 hown3 hgr3 hbd3; have B3 : Below w.heap.size w w3 := by first | exact (hbr.drew.alloc (by have := hbr.size; simp; omega) _).trans hbd3 | exact (hbr.drew.drew.alloc (by have := hbr.size; simp; omega) _).trans hbd3)
          | (go_at_call 21; refine (pick03 t 255 _ HT.out (by omega) (by omega)).mono ?_; rintro e w2 ⟨p, hp, rfl, rfl⟩))
      all_goals
        go_wp2
        go_roundw
        case rel =>
          refine ⟨k + 1, fs ++ [(1 + (p : Int), x.extract 0 N)], A2, c2, by omega, by go_num, by rw [List.length_append, hfl]; rfl, by rw [List.length_append, hfl]; rfl, ?_, ?_, B3⟩
          · rw [List.map_append, List.all_append, HALL.out]
            have hl : (bsOf (x.extract 0 N)).length = N := by
              show (x.extract 0 N).size = N
              simp
              omega
            simp only [List.map_cons, List.map_nil, List.all_cons, List.all_nil, asL, fldOk, hl]
            simp
            omega
          · rw [List.length_append, hfl]
            exact hown3
        case measure => simp [intOf]; omega
    · by_cases h : k < n
      · have hk20 : k = 20 := by omega
        subst hk20
        have d1 : decide ((20 : Int) < n) = true := by simp; omega
        clear hin h
        go_wp2
        go_ret
        exact ⟨A', c', fs, by rw [hfl]; rfl, by omega, HALL.out, hown, hbr⟩
      · have d1 : decide (k < n) = false := by simp; omega
        have d2 : decide ((k : Int) < n) = false := by simp; omega
        clear hin h
        go_wp2
        go_ret
        exact ⟨A', c', fs, by rw [hfl]; rfl, by omega, HALL.out, hown, hbr⟩
end Go.Proofs.Ytkdkekmgnejhpaa
