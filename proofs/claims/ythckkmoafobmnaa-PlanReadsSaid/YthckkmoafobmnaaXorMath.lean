/- Plain facts about texts put together; nothing of the program stands here. -/
import Derived.Test.YthckkmoafobmnaaLib
namespace Go.Proofs.Ythckkmoafobmnaa
open Go.RowKit

/-- two texts put together -/
def xorL (a b : List UInt8) : List UInt8 := List.zipWith (· ^^^ ·) a b
theorem xorL_length (a b : List UInt8) (h : a.length = b.length) : (xorL a b).length = a.length := by simp [xorL, h]
theorem xorL_at (a b : List UInt8) (t : Nat) (ha : t < a.length) (hb : t < b.length) (h : t < (xorL a b).length) : (xorL a b)[t] = a[t] ^^^ b[t] := by simp [xorL]
theorem xorL_comm (a b : List UInt8) : xorL a b = xorL b a := by
  unfold xorL
  rw [List.zipWith_comm]
  simp [UInt8.xor_comm]

theorem bits_xor_u8 (x y : UInt8) : bits BinOp.xor IntKind.u8 (x.toNat : Int) (y.toNat : Int) = ((x ^^^ y).toNat : Int) := by
  have hx := x.toNat_lt
  have hy := y.toNat_lt
  have h1 : ∀ z : UInt8, BitVec.ofInt 8 (z.toNat : Int) = z.toBitVec := by
    intro z
    rw [BitVec.ofInt_natCast]
    apply BitVec.eq_of_toNat_eq
    simp
  show IntKind.u8.wrap ((BitVec.ofInt 8 (x.toNat : Int) ^^^ BitVec.ofInt 8 (y.toNat : Int)).toNat : Int) = _
  rw [h1, h1, ← UInt8.toBitVec_xor]
  have := (x ^^^ y).toNat_lt
  show IntKind.u8.wrap ((x ^^^ y).toNat : Int) = _
  rw [IntKind.wrap_u8]
  omega

/-- one byte more is put together -/
theorem xor_step (a b : List UInt8) (t : Nat) (ha : t < a.length) (hb : t < b.length) (hab : a.length = b.length) :
    (((xorL a b).take t ++ a.drop t).map byteV).set t (.int .u8 ((a[t] ^^^ b[t]).toNat : Int)) = ((xorL a b).take (t + 1) ++ a.drop (t + 1)).map byteV := by
  have hx : t < (xorL a b).length := by rw [xorL_length a b hab]; exact ha
  have hl : ((xorL a b).take t).length = t := by rw [List.length_take]; omega
  have e : (.int .u8 ((a[t] ^^^ b[t]).toNat : Int) : Value) = byteV ((xorL a b)[t]) := by rw [xorL_at a b t ha hb]; rfl
  rw [e, ← List.map_set]
  congr 1
  rw [List.set_append_right _ _ (by omega), hl, Nat.sub_self, List.drop_eq_getElem_cons ha, List.set_cons_zero, List.take_succ_eq_append_getElem hx, List.append_assoc, List.singleton_append]

theorem xor_at (a b : List UInt8) (t : Nat) (ha : t < a.length) (hab : a.length = b.length) : (((xorL a b).take t ++ a.drop t).map byteV)[t]? = some (.int .u8 (a[t].toNat : Int)) := by
  have hl : ((xorL a b).take t).length = t := by rw [List.length_take, xorL_length a b hab]; omega
  rw [List.getElem?_map, List.getElem?_append_right (by omega), hl, Nat.sub_self, List.getElem?_drop, Nat.add_zero, List.getElem?_eq_getElem ha]
  rfl

/-- the bytes of a text -/
abbrev bs (s : ByteArray) : List UInt8 := s.data.toList
theorem size_list (s : ByteArray) : (bs s).length = s.size := by rw [Array.length_toList]; rfl
theorem mk_list (s : ByteArray) : (⟨(bs s).toArray⟩ : ByteArray) = s := by cases s; simp
theorem bs_mk (l : List UInt8) : bs (⟨l.toArray⟩ : ByteArray) = l := by simp [bs]

/-- texts put together; none, if there is none, or they are not all as long -/
def sumOf : List (List UInt8) → Option (List UInt8)
  | [] => none
  | a :: r => if r.all (fun b => b.length == a.length) then some (r.foldl xorL a) else none
/-- the answer, as a call gives it -/
def strR : Option (List UInt8) → ByteArray
  | some l => ⟨l.toArray⟩
  | none => ⟨#[]⟩
def errR : Option (List UInt8) → Int
  | some _ => 0
  | none => 10

theorem fold_length (a : List UInt8) (l : List (List UInt8)) (h : ∀ s ∈ l, s.length = a.length) : (l.foldl xorL a).length = a.length := by
  induction l generalizing a with
  | nil => rfl
  | cons s l ih =>
    have h1 := h s (by simp)
    have h2 : (xorL a s).length = a.length := xorL_length _ _ (by rw [h1])
    rw [List.foldl_cons, ih _ (fun s' hs' => by rw [h2]; exact h s' (by simp [hs'])), h2]

theorem sumOf_snoc (a x : List UInt8) (l : List (List UInt8)) : sumOf (a :: l ++ [x]) = match sumOf (a :: l) with | some acc => sumOf [acc, x] | none => none := by
  simp only [sumOf, List.cons_append, List.all_append, List.all_cons, List.all_nil, Bool.and_true]
  by_cases h : (l.all fun b => b.length == a.length) = true
  · have hl : (l.foldl xorL a).length = a.length := fold_length a l (fun s hs => by simpa using List.all_eq_true.1 h s hs)
    simp only [h, Bool.true_and, if_true, hl]
    split <;> simp_all [List.foldl_append]
  · simp [h]
theorem sumOf_none (a : List UInt8) (l : List (List UInt8)) (h : sumOf (a :: l) = none) (r : List (List UInt8)) : sumOf (a :: (l ++ r)) = none := by
  simp only [sumOf] at h ⊢
  split at h
  · cases h
  · rename_i h'
    rw [if_neg (by simp [List.all_append]; intro h1; exact absurd (List.all_eq_true.2 (fun b hb => by simpa using h1 b hb)) h')]
theorem sumOf_size {a r : List UInt8} {l : List (List UInt8)} (h : sumOf (a :: l) = some r) : r.length = a.length := by
  simp only [sumOf] at h
  split at h
  · rename_i h'
    cases h
    exact fold_length a l (fun s hs => by simpa using List.all_eq_true.1 h' s hs)
  · cases h

/-- all of a list, from a text on -/
def xorAll (s0 : List UInt8) (l : List ByteArray) : List UInt8 := (l.map bs).foldl xorL s0
theorem xorAll_snoc (s0 : List UInt8) (l : List ByteArray) (k : Nat) (s : ByteArray) (h : l[k]? = some s) : xorAll s0 (l.take (k + 1)) = xorL (xorAll s0 (l.take k)) s.data.toList := by
  unfold xorAll
  rw [List.take_add_one, h]
  simp [List.foldl_append]

end Go.Proofs.Ythckkmoafobmnaa
