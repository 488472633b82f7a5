/- The document's answer of layer 3, walked: fields laid. -/
import Derived.Test.YtkdkekmgnejhpaaTlvTake
import Derived.BigRegion
namespace Go.Proofs.Ytkdkekmgnejhpaa
open Go.RowKit Go.ChangeShapes Go.WideShapes

/-- 'string([]byte{p, q, r})' -/
theorem run_three3 {P : Program} (src dst e t : TypeId) (w : World) (x y z : UInt8) {p q r : Int} (hp : (x.toNat : Int) = p) (hq : (y.toNat : Int) = q) (hr : (z.toNat : Int) = r)
    (hs : P.underlying src = some (.slice e)) (he : P.underlying e = some (.int .u8)) (hd : P.underlying dst = some .string) :
    (convert src dst (.slice (some ⟨w.heap.size, 0, none⟩) 3 3)).run P (w.alloc (.cells #[.int .u8 p, .int .u8 q, .int .u8 r] t)) =
      .ok (.string ⟨#[x, y, z]⟩) (w.alloc (.cells #[.int .u8 p, .int .u8 q, .int .u8 r] t)) := by
  subst hp hq hr
  refine run_convert_bytes_back (P := P) _ src dst e ⟨w.heap.size, 0, none⟩ 3 [x, y, z] hs he hd (fun j hj => ?_)
  rw [add_plain]
  have h := (reads_lit w [.int .u8 (x.toNat : Int), .int .u8 (y.toNat : Int), .int .u8 (z.toNat : Int)] t 3 rfl).2 (by omega)
  obtain ⟨b, o, e1, _, hc⟩ := h
  simp only [Option.some.injEq, Addr.mk.injEq] at e1
  obtain ⟨rfl, rfl, _⟩ := e1
  match j, hj with
  | 0, _ => exact hc 0 _ rfl
  | 1, _ => exact hc 1 _ rfl
  | 2, _ => exact hc 2 _ rfl

theorem bs_cat3 (s t : ByteArray) : bsOf (s ++ t) = bsOf s ++ bsOf t := by simp
theorem size_cat3 (s t : ByteArray) : (s ++ t).size = s.size + t.size := by simp
def laidS : Option (List UInt8) → ByteArray
  | none => ⟨#[]⟩
  | some x => ⟨x.toArray⟩
def laidE : Option (List UInt8) → Int
  | none => 30
  | some _ => 0
/-- what Lay answers -/
def Laid (P : Program) (n : FuncId) (args : Array Value) (w : World) (o : Option (List UInt8)) : Prop :=
  Calls P n args w fun e w' => e = .returned (.tuple #[.string (laidS o), .int .i64 (laidE o)]) ∧ Below w.heap.size w w'

theorem layO_many (l : List Fld) (h : 64 < l.length) : layO l = none := if_neg (fun hc => by omega)
theorem layO_bad (l : List Fld) (f : Fld) (hf : f ∈ l) (h : fldOk f = false) : layO l = none := if_neg (fun hc => by
  have := List.all_eq_true.1 hc.2 f hf
  rw [h] at this
  cases this)
theorem layO_good (l : List Fld) (h : l.length ≤ 64) (ho : l.all fldOk = true) : layO l = some (layL l) := if_pos ⟨h, ho⟩
theorem layL_length (l : List Fld) (ho : l.all fldOk = true) : (layL l).length ≤ 403 * l.length := by
  induction l with
  | nil => simp [layL_nil]
  | cons f l ih =>
    simp only [List.all_cons, Bool.and_eq_true] at ho
    have h1 := ih ho.2
    have h2 := ho.1
    simp only [fldOk, Bool.and_eq_true, decide_eq_true_eq] at h2
    rw [layL_cons, List.length_append, layF_length, List.length_cons]
    omega
theorem layL_snoc (l : List Fld) (k : Nat) (f : Fld) (h : l[k]? = some f) : layL (l.take (k + 1)) = layL (l.take k) ++ layF f := by
  rw [List.take_add_one, h, Option.toList_some, layL_append, layL_cons, layL_nil, List.append_nil]
theorem all_snoc (l : List Fld) (k : Nat) (f : Fld) (h : l[k]? = some f) (h1 : (l.take k).all fldOk = true) (h2 : fldOk f = true) : (l.take (k + 1)).all fldOk = true := by
  rw [List.take_add_one, h, Option.toList_some, List.all_append, h1]
  simp [h2]

set_option maxRecDepth 100000 in
set_option maxHeartbeats 1600000 in
theorem ref03_lay (A : Option Addr) (n c B : Nat) (l : List (Int × ByteArray)) (w : World) (hr : ReadsF w B A n l) (hB : B ≤ w.heap.size) (hn : n ≤ 8796093022208) (hi : ∀ f ∈ l, (Lit.int .i64 f.1).wf = true ∧ f.2.size ≤ 140737488351232) :
    Laid Try.prog 12 #[.slice A n c] w (layO (l.map asL)) := by
  unfold Laid
  by_cases h64 : 64 < n
  · have d : decide ((64 : Int) < n) = true := by simp; omega
    rw [layO_many _ (by rw [List.length_map, hr.1]; exact h64)]
    go_enter Try.func12, Try.ntmps12
    go_wp2
    go_ret2
    exact ⟨rfl, Below.refl _ _⟩
  · have d : decide ((64 : Int) < n) = false := by simp; omega
    obtain ⟨L, hL⟩ : ∃ L, l.map asL = L := ⟨_, rfl⟩
    have hLl : L.length = n := by rw [← hL, List.length_map, hr.1]
    have HR := Lib.hid hr
    have HL := Lib.hid hL
    have HLL := Lib.hid hLl
    have HI := Lib.hid hi
    rw [hL]
    clear hr hi hL hLl
    go_enter Try.func12, Try.ntmps12
    go_wp2
    go_loopw [4, 5] (fun x i wr => ∃ (k : Nat) (acc : ByteArray), k ≤ n ∧ i = .int .i64 k ∧ x = .string acc ∧ bsOf acc = layL (L.take k) ∧ (L.take k).all fldOk = true ∧ acc.size ≤ 25792 ∧ Below w.heap.size w wr) (fun _ i _ => n - (intOf i).toNat)
    case atStart => exact ⟨0, ⟨#[]⟩, Nat.zero_le _, rfl, rfl, rfl, rfl, by decide, Below.refl _ _⟩
    case round =>
      obtain ⟨k, acc, hk, rfl, rfl, hacc, hall, hsz, hbr⟩ := hrel
      have HACC := Lib.hid hacc
      have HALL := Lib.hid hall
      clear hacc hall
      by_cases hkn : k < n
      · have dk : decide ((k : Int) < n) = true := by simp; omega
        obtain ⟨b, o, t, x, rfl, hb, hf, ct, cx⟩ := HR.out.at_ hkn
        have hbw : b < w.heap.size := by omega
        have hbwr : b < wr.heap.size := Nat.lt_of_lt_of_le hbw hbr.size
        replace ct : wr.cell? ⟨b, o + k * 2, none⟩ = some (.int .i64 t) := by rw [hbr.cell (by exact hbw), Nat.mul_comm k 2]; exact ct
        replace cx : wr.cell? ⟨b, o + k * 2 + 1, none⟩ = some (.string x) := by rw [hbr.cell (by exact hbw), Nat.mul_comm k 2]; exact cx
        have hi := HI.out (t, x) (List.mem_of_getElem? hf)
        have hxs : x.size ≤ 140737488351232 := hi.2
        have hti := bounds_i64 hi.1
        simp only at hti
        have hfL : L[k]? = some (t, bsOf x) := by rw [← HL.out, List.getElem?_map, hf]; rfl
        have HF := Lib.hid hfL
        clear hfL hf hi
        have hfin : fldOk (t, bsOf x) = false → layO L = none := fun h => layO_bad L _ (List.mem_of_getElem? HF.out) h
        have HFIN := Lib.hid hfin
        clear hfin
        have kn : (k : Int) < n := by omega
        by_cases ht1 : t < 1
        · have e1 : decide (t < 1) = true := by simp; omega
          have hb0 : fldOk (t, bsOf x) = false := by simp [fldOk]; omega
          go_wp2
          go_ret2
          rw [HFIN.out hb0]
          exact ⟨rfl, hbr⟩
        · have e1 : decide (t < 1) = false := by simp; omega
          by_cases ht2 : 255 < t
          · have e2 : decide (255 < t) = true := by simp; omega
            have hb0 : fldOk (t, bsOf x) = false := by simp [fldOk]; omega
            go_wp2
            go_ret2
            rw [HFIN.out hb0]
            exact ⟨rfl, hbr⟩
          · have e2 : decide (255 < t) = false := by simp; omega
            have hxl : (bsOf x).length = x.size := rfl
            by_cases hx4 : 400 < x.size
            · have e3 : decide ((400 : Int) < x.size) = true := by simp; omega
              have hb0 : fldOk (t, bsOf x) = false := by simp only [fldOk, hxl]; simp; omega
              go_wp2
              go_ret2
              rw [HFIN.out hb0]
              exact ⟨rfl, hbr⟩
            · have e3 : decide ((400 : Int) < x.size) = false := by simp; omega
              have hg : fldOk (t, bsOf x) = true := by simp only [fldOk, hxl]; simp; omega
              have HG := Lib.hid hg
              clear hg
              obtain ⟨y0, hy0⟩ : ∃ y : UInt8, y = UInt8.ofNat t.toNat := ⟨_, rfl⟩
              obtain ⟨y1, hy1⟩ : ∃ y : UInt8, y = UInt8.ofNat (x.size % 256) := ⟨_, rfl⟩
              obtain ⟨y2, hy2⟩ : ∃ y : UInt8, y = UInt8.ofNat (x.size / 256) := ⟨_, rfl⟩
              have q0 : (y0.toNat : Int) = t := by rw [hy0, ofNat_small _ (by omega)]; omega
              have q1 : (y1.toNat : Int) = (x.size : Int) % 256 := by rw [hy1, ofNat_small _ (by omega)]; omega
              have q2 : (y2.toNat : Int) = (x.size : Int) / 256 := by rw [hy2, ofNat_small _ (by omega)]; omega
              obtain ⟨st, hst⟩ : ∃ st : ByteArray, st = ⟨#[y0, y1, y2]⟩ := ⟨_, rfl⟩
              have hsts : st.size = 3 := by rw [hst]; rfl
              have hstb : bsOf st = [y0, y1, y2] := by rw [hst]
              have hnew : bsOf (acc ++ st ++ x) = layL (L.take (k + 1)) := by
                rw [layL_snoc L k _ HF.out, ← HACC.out, bs_cat3, bs_cat3, hstb, hy0, hy1, hy2]
                simp [layF, hxl]
              have HNEW := Lib.hid hnew
              have hlong : (acc ++ st ++ x).size ≤ 25792 := by
                have h1 := layL_length (L.take (k + 1)) (all_snoc L k _ HF.out HALL.out HG.out)
                rw [← hnew, List.length_take, HLL.out] at h1
                have h2 : (bsOf (acc ++ st ++ x)).length = (acc ++ st ++ x).size := rfl
                omega
              have HLONG := Lib.hid hlong
              have kw : (convert 42 9 (.slice (some ⟨wr.heap.size, 0, none⟩) 3 3)).run Try.prog (wr.alloc (.cells #[.int .u8 t, .int .u8 ((x.size : Int) % 256), .int .u8 ((x.size : Int) / 256)] 5)).drew = .ok (.string st) (wr.alloc (.cells #[.int .u8 t, .int .u8 ((x.size : Int) % 256), .int .u8 ((x.size : Int) / 256)] 5)).drew := by
                rw [hst]
                exact run_three3 (P := Try.prog) 42 9 5 5 wr.drew y0 y1 y2 q0 q1 q2 Try.underlying42 Try.underlying5 Try.underlying9
              have hcs : acc.size + st.size ≤ 25795 := by omega
              have hcs2 : (acc ++ st).size + x.size ≤ 26195 := by rw [size_cat3]; omega
              have wt : IntKind.u8.wrap t = t := by rw [IntKind.wrap_u8]; omega
              have wx1 : IntKind.u8.wrap ((x.size : Int) % 256) = (x.size : Int) % 256 := by rw [IntKind.wrap_u8]; omega
              have wx2 : IntKind.u8.wrap ((x.size : Int) / 256) = (x.size : Int) / 256 := by rw [IntKind.wrap_u8]; omega
              clear hnew hlong hst hstb hy0 hy1 hy2 q0 q1 q2
              go_wp2
              go_region
              go_wp2
              go_roundw
              case rel => exact ⟨k + 1, acc ++ st ++ x, by omega, by go_num, rfl, HNEW.out, all_snoc L k _ HF.out HALL.out HG.out, HLONG.out, (hbr.alloc (by have := hbr.size; omega) _).drew⟩
              case measure => simp [intOf]; omega
      · have e : k = n := by omega
        subst e
        have dk : decide ((k : Int) < k) = false := by simp
        have hend : L.take k = L := List.take_of_length_le (by rw [HLL.out]; exact Nat.le_refl _)
        have hfin : layO L = some (bsOf acc) := by
          have h1 := HALL.out
          have h2 := HACC.out
          rw [hend] at h1 h2
          rw [layO_good L (by rw [HLL.out]; omega) h1, h2]
        have HFIN := Lib.hid hfin
        clear hend hfin
        go_wp2
        go_ret2
        rw [HFIN.out]
        exact ⟨rfl, hbr⟩
end Go.Proofs.Ytkdkekmgnejhpaa
