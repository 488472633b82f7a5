/- The document's answer of layer 3, walked: fields taken up. -/
import Derived.Test.YtkdkekmgnejhpaaFields
import Derived.Test.YtkdkekmgnejhpaaTlvRef
import Derived.Deep.RegionLaw
namespace Go.Proofs.Ytkdkekmgnejhpaa
open Go.RowKit Go.ChangeShapes Go.WideShapes

/-- a field's bytes -/
def asL (f : Int × ByteArray) : Fld := (f.1, bsOf f.2)
def ofL (f : Fld) : Int × ByteArray := (f.1, ⟨f.2.toArray⟩)
theorem asL_ofL (f : Fld) : asL (ofL f) = f := rfl
theorem ofL_asL (f : Int × ByteArray) : ofL (asL f) = f := rfl

/-- what Take answers -/
def TookAs (B : Nat) (e : Ending) (w' : World) : Option (List Fld) → Prop
  | none => e = .returned (.tuple #[.slice none 0 0, .int .i64 30])
  | some l => ∃ A c, e = .returned (.tuple #[.slice A l.length c, .int .i64 0]) ∧ OwnF w' B A l.length c (l.map ofL)
def Took (P : Program) (n : FuncId) (s : ByteArray) (w : World) : Prop :=
  Calls P n #[.string s] w fun e w' => Below w.heap.size w w' ∧ TookAs w.heap.size e w' (takeO (bsOf s))

theorem bs_from (s : ByteArray) (n : Nat) : bsOf (s.extract n s.size) = (bsOf s).drop n := by
  simp [bsOf]
  rw [List.take_of_length_le]
  simp
theorem bs_part (s : ByteArray) (n m : Nat) : bsOf (s.extract n (n + m)) = ((bsOf s).drop n).take m := by
  simp [bsOf]
theorem bs_three (r : ByteArray) (h : 3 ≤ r.size) : bsOf r = r[0] :: r[1] :: r[2] :: (bsOf r).drop 3 := by
  have hl : (bsOf r).length = r.size := rfl
  have e0 := List.drop_eq_getElem_cons (l := bsOf r) (i := 0) (by omega)
  have e1 := List.drop_eq_getElem_cons (l := bsOf r) (i := 1) (by omega)
  have e2 := List.drop_eq_getElem_cons (l := bsOf r) (i := 2) (by omega)
  rw [List.drop_zero] at e0
  rw [e1, e2] at e0
  exact e0
theorem take_more (r : ByteArray) (h : 3 ≤ r.size) (k : Nat) (n : Nat) (hn : (r[1]).toNat + 256 * (r[2]).toNat = n) :
    takeN (k + 1) (bsOf r) = if r[0] = 0 ∨ 400 < n ∨ r.size - 3 < n then none else (takeN k (bsOf (r.extract (3 + n) r.size))).map fun l => (((r[0]).toNat : Int), bsOf (r.extract 3 (3 + n))) :: l := by
  subst hn
  have hl : ((bsOf r).drop 3).length = r.size - 3 := by rw [List.length_drop]; rfl
  rw [bs_three r h]
  simp only [takeN, hl]
  rw [bs_from, bs_part, List.drop_drop]
theorem take_few (r : ByteArray) (h0 : r.size ≠ 0) (h : r.size < 3) (k : Nat) : takeN k (bsOf r) = none := by
  have hl : (bsOf r).length = r.size := rfl
  match hb : bsOf r, k with
  | [], _ => rw [hb] at hl; simp at hl; omega
  | [_], 0 => rfl
  | [_], _ + 1 => rfl
  | [_, _], 0 => rfl
  | [_, _], _ + 1 => rfl
  | _ :: _ :: _ :: _, _ => rw [hb] at hl; simp at hl; omega
theorem take_full (r : ByteArray) (h0 : r.size ≠ 0) : takeN 0 (bsOf r) = none := by
  have hl : (bsOf r).length = r.size := rfl
  match hb : bsOf r with
  | [] => rw [hb] at hl; simp at hl; omega
  | _ :: _ => rfl

set_option maxRecDepth 100000 in
set_option maxHeartbeats 1600000 in
theorem ref03_take (s : ByteArray) (w : World) (hs : s.size ≤ 140737488351232) : Took Try.prog 14 s w := by
  unfold Took
  obtain ⟨o, ho⟩ : ∃ o, takeO (bsOf s) = o := ⟨_, rfl⟩
  rw [ho]
  have HO := Lib.hid ho
  clear ho
  go_enter Try.func14, Try.ntmps14
  go_wp2
  go_loopw [0, 4] (fun x v wr => ∃ (r : ByteArray) (acc : List Fld) (A : Option Addr) (c : Nat), x = .string r ∧ v = .slice A acc.length c ∧ r.size ≤ s.size ∧ acc.length ≤ 64 ∧
    o = (takeN (64 - acc.length) (bsOf r)).map (acc ++ ·) ∧ OwnF wr w.heap.size A acc.length c (acc.map ofL) ∧ Below w.heap.size w wr) (fun x _ _ => (match x with | .string r => r.size | _ => 0))
  case atStart => exact ⟨s, [], none, 0, rfl, rfl, Nat.le_refl _, by simp, by rw [← HO.out]; simp [takeO], OwnF.nil _ _, Below.refl _ _⟩
  case round =>
    obtain ⟨r, acc, A, c, rfl, rfl, hr, hal, htake, hown, hbr⟩ := hrel
    have HT := Lib.hid htake
    clear htake
    by_cases h0 : r.size = 0
    · have hr0 : bsOf r = [] := List.eq_nil_of_length_eq_zero h0
      go_wp2
      go_ret2
      rw [HT.out, hr0, takeN_nil]
      refine ⟨hbr, A, c, ?_, ?_⟩
      · simp
      · simpa using hown
    · have d0 : decide ((0 : Int) < r.size) = true := by simp; omega
      by_cases h3 : r.size < 3
      · have d1 : decide ((r.size : Int) < 3) = true := by simp; omega
        go_wp2
        go_ret2
        rw [HT.out, take_few r h0 h3]
        exact ⟨hbr, rfl⟩
      · have d1 : decide ((r.size : Int) < 3) = false := by simp; omega
        by_cases h64 : acc.length = 64
        · have d2 : decide ((64 : Int) ≤ acc.length) = true := by simp; omega
          go_wp2
          go_ret2
          rw [HT.out, h64, Nat.sub_self, take_full r h0]
          exact ⟨hbr, rfl⟩
        · have d2 : decide ((64 : Int) ≤ acc.length) = false := by simp; omega
          obtain ⟨k, hk⟩ : ∃ k, 64 - acc.length = k + 1 := ⟨64 - acc.length - 1, by omega⟩
          have i0 : 0 < r.size := by omega
          have i1 : 1 < r.size := by omega
          have i2 : 2 < r.size := by omega
          obtain ⟨n, hn⟩ : ∃ n, (r[1]'i1).toNat + 256 * (r[2]'i2).toNat = n := ⟨_, rfl⟩
          have hm := take_more r (by omega) k n hn
          rw [← hk] at hm
          have hz0 : r[0] = 0 ↔ (r[0]'i0).toNat = 0 := ⟨fun h => by rw [h]; rfl, fun h => UInt8.toNat_inj.1 h⟩
          simp only [hz0] at hm
          have l1 := (r[1]'i1).toNat_lt
          have l2 := (r[2]'i2).toNat_lt
          have l0 := (r[0]'i0).toNat_lt
          obtain ⟨x1, hx1⟩ : ∃ x, (r[1]'i1).toNat = x := ⟨_, rfl⟩
          obtain ⟨x2, hx2⟩ : ∃ x, (r[2]'i2).toNat = x := ⟨_, rfl⟩
          obtain ⟨x0, hx0⟩ : ∃ x, (r[0]'i0).toNat = x := ⟨_, rfl⟩
          rw [hx1] at hn l1
          rw [hx2] at hn l2
          rw [hx0] at hm l0
          have j0 : (0 : Int) < r.size := by omega
          have j1 : (1 : Int) < r.size := by omega
          have j2 : (2 : Int) < r.size := by omega
          have HM := Lib.hid hm
          have HN := Lib.hid hn
          have hN : (x1 : Int) + 256 * (x2 : Int) = (n : Int) := by omega
          have hnl : n < 65792 := by omega
          clear hm hn hz0
          by_cases hz : x0 = 0
          · go_wp2
            go_region
            go_wp2
            go_ret2
            rw [HT.out, HM.out, if_pos (Or.inl hz)]
            exact ⟨hbr.drew, rfl⟩
          · by_cases hn4 : 400 < n
            · have dn : decide ((400 : Int) < n) = true := by simp; omega
              go_wp2
              go_region
              go_wp2
              go_ret2
              rw [HT.out, HM.out, if_pos (Or.inr (Or.inl hn4))]
              exact ⟨hbr.drew, rfl⟩
            · have dn : decide ((400 : Int) < n) = false := by simp; omega
              by_cases hn5 : r.size - 3 < n
              · have dn2 : decide ((r.size : Int) - 3 < n) = true := by simp; omega
                go_wp2
                go_region
                go_wp2
                go_ret2
                rw [HT.out, HM.out, if_pos (Or.inr (Or.inr hn5))]
                exact ⟨hbr.drew, rfl⟩
              · have dn2 : decide ((r.size : Int) - 3 < n) = false := by simp; omega
                have s1 : (3 : Int) ≤ 3 + n := by omega
                have s2 : (3 : Int) + n ≤ r.size := by omega
                have s3 : ((3 : Int) + n).toNat = 3 + n := by omega
                go_wp2
                go_region
                go_wp2
                have w1 : IntKind.i64.wrap (3 + (n : Int)) = 3 + n := by rw [IntKind.wrap_i64]; omega
                have w0 : IntKind.i64.wrap (x0 : Int) = x0 := by rw [IntKind.wrap_i64]; omega
                go_region_law (refine step_appF (N := acc.length + 1) 22 24 _ rfl _ _ rfl Try.underlying22 info_fld rfl rfl (by first | exact hown.later ((Below.refl _ _).drew.alloc (Nat.le_refl _) _) | exact hown.later ((Below.refl _ _).drew.drew.alloc (Nat.le_refl _) _)) rfl (by first | exact readsF_one _ _ _ _) rfl (by unfold maxLen; omega) (by omega) (by have := hbr.size; simp; omega) ?_; intro A2 c2 w3 hown3 hgr3 hbd3)
                go_wp2
                go_roundw
                case rel => exact ⟨r.extract (3 + n) r.size, acc ++ [((x0 : Int), bsOf (r.extract 3 (3 + n)))], A2, c2, rfl, by rw [List.length_append]; rfl, by simp; omega, by rw [List.length_append]; simp; omega, by
                  rw [HT.out, HM.out, if_neg (by omega), List.length_append, show 64 - (acc.length + [((x0 : Int), bsOf (r.extract 3 (3 + n)))].length) = k by simp; omega]
                  simp only [Option.map_map, hx0]
                  congr 1
                  funext l
                  simp, by
                  rw [List.length_append, List.map_append]
                  exact hown3, by first | exact (hbr.drew.alloc (by have := hbr.size; simp; omega) _).trans hbd3 | exact (hbr.drew.drew.alloc (by have := hbr.size; simp; omega) _).trans hbd3⟩
                case measure => simp; omega
end Go.Proofs.Ytkdkekmgnejhpaa
