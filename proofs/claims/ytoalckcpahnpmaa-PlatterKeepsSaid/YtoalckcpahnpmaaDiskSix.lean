/- Layer 7: six texts in a row, and raw acts. -/
import Derived.Test.YtoalckcpahnpmaaDiskAwake
import Derived.Test.YtoalckcpahnpmaaStructs
namespace Go.Proofs.Ytoalckcpahnpmaa
open Go.RowKit Go.ChangeShapes Go.WideShapes

/-- raw acts: the numbers in them -/
def ActsOk (n : Nat) (V : Nat → Nat → Value) : Prop :=
  ∀ i, i < n → ∃ a b c d : Int, V i 0 = .int .i64 a ∧ V i 1 = .int .i64 b ∧ V i 2 = .int .i64 c ∧ V i 3 = .int .i64 d ∧
    (Lit.int .i64 a).wf = true ∧ (Lit.int .i64 b).wf = true ∧ (Lit.int .i64 c).wf = true ∧ (Lit.int .i64 d).wf = true
/-- six texts in a row -/
def sixV (f : Nat → ByteArray) : List Value := (List.range 6).map fun k => .string (f k)

theorem sixV_length (f : Nat → ByteArray) : (sixV f).length = 6 := by simp [sixV]
theorem sixV_at (f : Nat → ByteArray) {k : Nat} (hk : k < 6) : (sixV f)[k]? = some (.string (f k)) := by
  unfold sixV
  rw [List.getElem?_map, List.getElem?_range hk]
  rfl
theorem sixV_set (f : Nat → ByteArray) (k : Nat) (s : ByteArray) : (sixV f).set k (.string s) = sixV (updF f k s) := by
  apply List.ext_getElem?
  intro j
  by_cases hj : j < 6
  · rw [sixV_at _ hj]
    by_cases e : k = j
    · subst e
      rw [List.getElem?_set_self (by rw [sixV_length]; exact hj)]
      simp [updF]
    · rw [List.getElem?_set_ne e, sixV_at _ hj]
      unfold updF
      rw [if_neg (fun x => e x.symm)]
  · rw [List.getElem?_eq_none (by rw [List.length_set, sixV_length]; omega), List.getElem?_eq_none (by rw [sixV_length]; omega)]
theorem sixV_eq {f h : Nat → ByteArray} (e : ∀ j, j < 6 → f j = h j) : sixV f = sixV h := by
  unfold sixV
  exact List.map_congr_left fun j hj => by rw [e j (List.mem_range.1 hj)]
/-- the first k of six are noughts -/
def firstF (k : Nat) : Nat → ByteArray := fun j => if j < k then noughtB else ⟨#[]⟩
theorem firstF_upd (k : Nat) : updF (firstF k) k noughtB = firstF (k + 1) := by
  funext j
  unfold updF firstF
  by_cases h : j = k
  · rw [if_pos h, if_pos (by omega)]
  · rw [if_neg h]
    by_cases h2 : j < k
    · rw [if_pos h2, if_pos (by omega)]
    · rw [if_neg h2, if_neg (by omega)]

/-- a row of 64 noughts as a text -/
theorem nought_conv {w : World} {g : Nat} (h : Row w g (List.replicate 64 (Value.int .u8 0))) : (convert 30 9 (.slice (some ⟨g, 0, none⟩) 64 64)).run Try.prog w = .ok (.string noughtB) w := by
  rw [zeros07] at h
  exact run_row_string (P := Try.prog) 30 9 5 h List.length_replicate Try.underlying30 Try.underlying5 Try.underlying9 64
/-- 'var last [6]string' -/
theorem six_new (w : World) : ∃ w', w.alloc (.cells #[.string ⟨#[]⟩, .string ⟨#[]⟩, .string ⟨#[]⟩, .string ⟨#[]⟩, .string ⟨#[]⟩, .string ⟨#[]⟩] 29) = w' ∧ Row w' w.heap.size (sixV (firstF 0)) ∧ Below w.heap.size w w' ∧ w'.heap.size = w.heap.size + 1 ∧
    ∀ (T : World → (Nat → Prop) → Prop) (B : Nat) (X : List Nat), Local T → Has T B X w → Has T B (w.heap.size :: X) w' :=
  ⟨_, rfl, row_cells w [.string ⟨#[]⟩, .string ⟨#[]⟩, .string ⟨#[]⟩, .string ⟨#[]⟩, .string ⟨#[]⟩, .string ⟨#[]⟩] 29, (Below.refl _ _).alloc (Nat.le_refl _) _, by simp, fun _ _ _ hl h => h.new hl _⟩

end Go.Proofs.Ytoalckcpahnpmaa
