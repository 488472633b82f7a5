/- Walks over package tlv. -/
import Derived.Test.YtkdkekmgnejhpaaTlvHelp
import Derived.Test.YtkdkekmgnejhpaaStrs
namespace Go.Proofs.Ytkdkekmgnejhpaa
open Go.RowKit Go.ChangeShapes Go.WideShapes

/-- what Take answers, on either side -/
def tookL : Option (List Fld) → List (Int × ByteArray)
  | none => []
  | some l => l.map ofL
def tookE : Option (List Fld) → Int
  | none => 30
  | some _ => 0
def TakenAs (e : Ending) (w' : World) (o : Option (List Fld)) : Prop :=
  ∃ A c, e = .returned (.tuple #[.slice A (tookL o).length c, .int .i64 (tookE o)]) ∧ ReadsF w' w'.heap.size A (tookL o).length (tookL o)

set_option maxRecDepth 100000 in
theorem tlv_right (t : Int) (x : ByteArray) (w : World) (ht : (Lit.int .i64 t).wf = true) (hx : x.size ≤ 1125899906842624) :
    Calls Try.prog 22 #[.agg #[.int .i64 t, .string x]] w fun e w' => e = .returned (.bool (fldOk (t, bsOf x))) ∧ Below w.heap.size w w' := by
  have hl : (bsOf x).length = x.size := rfl
  have hd : decide (x.size ≤ 400) = decide ((x.size : Int) ≤ 400) := by simp; omega
  go_enter Try.func22, Try.ntmps22
  go_wp2
  all_goals
    go_ret
    refine ⟨?_, (Below.refl _ _).alloc (Nat.le_refl _) _⟩
    simp only [fldOk, hl, hd]
    congr 2
    simp [*]
  all_goals omega

theorem i64_or_bytes (a b : Nat) (ha : a < 256) (hb : b < 256) : bits .or .i64 (a : Int) ((b : Int) * 256) = (a : Int) + 256 * (b : Int) := by
  have h := Nat.two_pow_add_eq_or_of_lt (b := a) (i := 8) (by omega) b
  have h2 : (a ||| b * 256) = a + 256 * b := by
    rw [Nat.or_comm, show b * 256 = 2 ^ 8 * b by omega, ← h]
    omega
  show IntKind.i64.wrap ((BitVec.ofInt 64 (a : Int) ||| BitVec.ofInt 64 ((b : Int) * 256)).toNat : Int) = _
  rw [show ((b : Int) * 256) = ((b * 256 : Nat) : Int) by omega, BitVec.toNat_or, ofInt_i64 a (by omega), ofInt_i64 (b * 256) (by omega), h2, IntKind.wrap_i64]
  omega

/-- what first answers of s: the field (t, x), the rest r, and whether there is one -/
def FirstOf (s : ByteArray) (t : Int) (x r : ByteArray) (b : Bool) : Prop :=
  (b = true → r.size + 3 ≤ s.size ∧ ∀ k, takeN (k + 1) (bsOf s) = (takeN k (bsOf r)).map fun l => (t, bsOf x) :: l) ∧
  (b = false → ∀ k, takeN k (bsOf s) = none)
theorem FirstOf.none_ {s : ByteArray} (h : ∀ k, takeN k (bsOf s) = none) (t : Int) (x r : ByteArray) : FirstOf s t x r false := ⟨fun h => Bool.noConfusion h, fun _ => h⟩
theorem FirstOf.mk_ {s : ByteArray} {t : Int} {x r : ByteArray} {b : Bool} (h0 : s.size ≠ 0) (hm : ∀ k, takeN (k + 1) (bsOf s) = if b = true then (takeN k (bsOf r)).map fun l => (t, bsOf x) :: l else none) (hr : r.size + 3 ≤ s.size) : FirstOf s t x r b :=
  ⟨fun hb => ⟨hr, fun k => by rw [hm k, if_pos hb]⟩, fun hb k => by
    cases k with
    | zero => exact take_full s h0
    | succ k => rw [hm k, if_neg (by rw [hb]; decide)]⟩

set_option maxRecDepth 100000 in
set_option maxHeartbeats 1600000 in
theorem tlv_first (s : ByteArray) (w : World) (hs : s.size ≤ 1125899906842624) (h0 : s.size ≠ 0) :
    Calls Try.prog 23 #[.string s] w fun e w' => (∃ t x r b, e = .returned (.tuple #[.agg #[.int .i64 t, .string x], .string r, .bool b]) ∧ FirstOf s t x r b) ∧ Below w.heap.size w w' := by
  by_cases h3 : 3 ≤ s.size
  · have j0 : (0 : Int) < s.size := by omega
    have j1 : (1 : Int) < s.size := by omega
    have j2 : (2 : Int) < s.size := by omega
    have j3 : (3 : Int) ≤ s.size := by omega
    have i0 : 0 < s.size := by omega
    have i1 : 1 < s.size := by omega
    have i2 : 2 < s.size := by omega
    obtain ⟨n, hn⟩ : ∃ n, (s[1]'i1).toNat + 256 * (s[2]'i2).toNat = n := ⟨_, rfl⟩
    have hm := fun k => take_more s (by omega) k n hn
    have hz0 : s[0] = 0 ↔ (s[0]'i0).toNat = 0 := ⟨fun h => by rw [h]; rfl, fun h => UInt8.toNat_inj.1 h⟩
    simp only [hz0] at hm
    have l1 := (s[1]'i1).toNat_lt
    have l2 := (s[2]'i2).toNat_lt
    have l0 := (s[0]'i0).toNat_lt
    obtain ⟨x1, hx1⟩ : ∃ x, (s[1]'i1).toNat = x := ⟨_, rfl⟩
    obtain ⟨x2, hx2⟩ : ∃ x, (s[2]'i2).toNat = x := ⟨_, rfl⟩
    obtain ⟨x0, hx0⟩ : ∃ x, (s[0]'i0).toNat = x := ⟨_, rfl⟩
    rw [hx1] at hn l1
    rw [hx2] at hn l2
    rw [hx0] at l0
    simp only [hx0] at hm
    have hor := i64_or_bytes x1 x2 (by omega) (by omega)
    rw [show ((x1 : Int) + 256 * (x2 : Int)) = (n : Int) by omega] at hor
    have HM := Lib.hid hm
    have HN := Lib.hid hn
    have hnl : n < 65792 := by omega
    clear hm hn hz0
    have s1 : (s.extract 3 s.size).size = s.size - 3 := by simp
    by_cases hn5 : s.size - 3 < n
    · have dn2 : decide ((s.size : Int) - 3 < n) = true := by simp; omega
      go_enter Try.func23, Try.ntmps23
      go_wp2
      go_region
      go_wp2
      refine bodyPost_ret (v := .tuple #[.agg #[.int .i64 0, .string ⟨#[]⟩], .string ⟨#[]⟩, .bool false]) (by simp [results, Try.results23, go_sem]) rfl ?_
      exact ⟨⟨_, _, _, _, rfl, FirstOf.none_ (fun k => by
        cases k with
        | zero => exact take_full s h0
        | succ k => rw [HM.out, if_pos (Or.inr (Or.inr hn5))]) _ _ _⟩, ((Below.refl _ _).alloc (Nat.le_refl _) _).drew⟩
    · have dn2 : decide ((s.size : Int) - 3 < n) = false := by simp; omega
      have dn3 : decide (s.size - 3 < n) = false := by simp; omega
      have hns : (n : Int) ≤ (s.size : Int) - 3 := by omega
      have hns2 : n ≤ s.size - 3 := by omega
      go_enter Try.func23, Try.ntmps23
      go_wp2
      go_region
      go_wp2_with fail
      refine (str_clone _ _ (by simp; omega)).mono ?_
      rintro e w1 ⟨rfl, b1⟩
      obtain ⟨X, hX⟩ : ∃ X, (s.extract 3 s.size).extract 0 n = X := ⟨_, rfl⟩
      have HX := Lib.hid hX
      have hXs : X.size = n := by rw [← hX]; simp; omega
      have hx5 : X.size ≤ 1125899906842624 := by omega
      have HXS := Lib.hid hXs
      rw [hX]
      clear hX hXs
      obtain ⟨Y, hY⟩ : ∃ Y, (s.extract 3 s.size).extract n (s.size - 3) = Y := ⟨_, rfl⟩
      have HY := Lib.hid hY
      have hwf : (Lit.int .i64 (x0 : Int)).wf = true := WalkArith.wf_i64 (by omega)
      have RC := Lib.hid (fun w' => tlv_right (x0 : Int) X w' hwf hx5)
      clear hwf
      go_wp2
      have hw1 : w.heap.size < w1.heap.size := by have := b1.size; simp at this; omega
      have bW : Below w.heap.size w (w1.alloc (.cells #[.int .i64 (x0 : Int), .string X] 40)) := (((Below.refl _ _).alloc (Nat.le_refl _) _).drew.trans (b1.mono (by simp))).alloc (by omega) _
      have k0 : (w1.alloc (.cells #[.int .i64 (x0 : Int), .string X] 40)).cell? ⟨w1.heap.size, 0, none⟩ = some (.int .i64 x0) := by simp
      have k1 : (w1.alloc (.cells #[.int .i64 (x0 : Int), .string X] 40)).cell? ⟨w1.heap.size, 1, none⟩ = some (.string X) := by simp
      have d0 : (w1.alloc (.cells #[.int .i64 (x0 : Int), .string X] 40)).cell? ⟨w.heap.size, 0, none⟩ = some (.int .i64 0) := by rw [World.cell?_alloc_lt _ _ _ hw1, b1.cell (by simp)]; simp
      have d1 : (w1.alloc (.cells #[.int .i64 (x0 : Int), .string X] 40)).cell? ⟨w.heap.size, 1, none⟩ = some (.string ⟨#[]⟩) := by rw [World.cell?_alloc_lt _ _ _ hw1, b1.cell (by simp)]; simp
      have f0 : (w1.alloc (.cells #[.int .i64 (x0 : Int), .string X] 40)).frozen? ⟨w.heap.size, 0, none⟩ = false := by rw [((Below.refl w1.heap.size w1).alloc (Nat.le_refl _) _).frozen hw1, b1.frozen (by simp)]; simp
      have f1 : (w1.alloc (.cells #[.int .i64 (x0 : Int), .string X] 40)).frozen? ⟨w.heap.size, 1, none⟩ = false := by rw [((Below.refl w1.heap.size w1).alloc (Nat.le_refl _) _).frozen hw1, b1.frozen (by simp)]; simp
      have hwW : w.heap.size < (w1.alloc (.cells #[.int .i64 (x0 : Int), .string X] 40)).heap.size := by simp; omega
      generalize w1.alloc (.cells #[.int .i64 (x0 : Int), .string X] 40) = W at *
      generalize w1.heap.size = G at *
      have HD := Lib.hid (show G ≠ w.heap.size by omega)
      clear b1
      go_region_with (first | (go_at_call 22; refine (RC.out _).mono ?_; rintro e w2 ⟨rfl, b2⟩; have q0 : w2.cell? ⟨G, 0, none⟩ = some (.int .i64 x0) := keep_cell b2 k0; have q1 : w2.cell? ⟨G, 1, none⟩ = some (.string X) := keep_cell b2 k1; have q2 : w2.cell? ⟨w.heap.size, 0, none⟩ = some (.int .i64 0) := keep_cell b2 d0; have q3 : w2.cell? ⟨w.heap.size, 1, none⟩ = some (.string ⟨#[]⟩) := keep_cell b2 d1; have q4 : w2.frozen? ⟨w.heap.size, 0, none⟩ = false := keep_free b2 hwW f0; have q5 : w2.frozen? ⟨w.heap.size, 1, none⟩ = false := keep_free b2 hwW f1; have B2 := below_call bW.drew b2))
      all_goals
        go_wp2
        refine bodyPost_ret (v := .tuple #[.agg #[.int .i64 x0, .string X], .string Y, .bool (fldOk (x0, bsOf X))]) (by simp [results, Try.results23, go_sem, q0, q1, q2, q3]) rfl ?_
      all_goals
        have eX : X = s.extract 3 (3 + n) := by
          rw [← HX.out, ByteArray.extract_extract]
          congr 1
          omega
        have eY : Y = s.extract (3 + n) s.size := by
          rw [← HY.out, ByteArray.extract_extract]
          congr 1
          omega
        have hXl : (bsOf (s.extract 3 (3 + n))).length = n := by
          show (s.extract 3 (3 + n)).size = n
          simp
          omega
        refine ⟨⟨_, _, _, _, rfl, FirstOf.mk_ h0 (fun k => ?_) ?_⟩, ?_⟩
        · rw [HM.out, eX, eY]
          by_cases hg : fldOk ((x0 : Int), bsOf (s.extract 3 (3 + n))) = true
          · rw [if_pos hg]
            simp only [fldOk, hXl, Bool.and_eq_true, decide_eq_true_eq] at hg
            rw [if_neg (by omega)]
          · rw [if_neg hg]
            simp only [fldOk, hXl, Bool.and_eq_true, decide_eq_true_eq] at hg
            rw [if_pos (by omega)]
        · rw [eY]
          simp
          omega
        · first
            | exact (B2.setCell (by simp) _).setCell (by simp) _
            | exact ((B2.setCell (by simp) _).setCell (by simp) _).drew
  · have d1 : decide ((s.size : Int) < 3) = true := by simp; omega
    go_enter Try.func23, Try.ntmps23
    go_wp2
    refine bodyPost_ret (v := .tuple #[.agg #[.int .i64 0, .string ⟨#[]⟩], .string ⟨#[]⟩, .bool false]) (by simp [results, Try.results23, go_sem]) rfl ?_
    exact ⟨⟨_, _, _, _, rfl, FirstOf.none_ (fun k => take_few s h0 (by omega) k) _ _ _⟩, (Below.refl _ _).alloc (Nat.le_refl _) _⟩
end Go.Proofs.Ytkdkekmgnejhpaa
