/- Layer 6: rows of texts that are written into. -/
import Derived.Test.YthckkmoafobmnaaPlanLawsB
namespace Go.Proofs.Ythckkmoafobmnaa
open Go.RowKit Go.ChangeShapes Go.WideShapes

theorem Own.row {w : World} {B : Nat} {e : TypeId} {A : Option Addr} {n c : Nat} {xs : List Value} (h : Own w B e A n c xs) (hn : 0 < n) : ∃ g, A = some ⟨g, 0, none⟩ ∧ B ≤ g ∧ Row w g xs := by
  rcases h.2 with ⟨hv, h0⟩ | ⟨g, cap, cur, hv, hB, hg, hnc, hcm, hcs, ht⟩
  · omega
  · simp only [Value.slice.injEq] at hv
    obtain ⟨rfl, _, rfl⟩ := hv
    refine ⟨g, rfl, hB, (Array.getElem?_eq_some_iff.1 hg).1, fun j u hj => ⟨?_, ?_⟩⟩
    · have := World.ownsRow.cells h (g := g) rfl j u hj
      rw [add_plain] at this
      simpa using this
    · simp [World.frozen?, hg]
theorem Row.reads {w : World} {g n : Nat} {xs : List Value} (h : Row w g xs) (hn : xs.length = n) : Reads w w.heap.size (some ⟨g, 0, none⟩) n xs :=
  ⟨hn, fun _ => ⟨g, 0, rfl, h.1, fun j u hj => by rw [Nat.zero_add]; exact h.cell hj⟩⟩

/-- all cells that there were, but those of one block, are as they were -/
def KeepBut (g : Nat) (w w' : World) : Prop := w.heap.size ≤ w'.heap.size ∧ ∀ p : Addr, p.block < w.heap.size → p.block ≠ g → w'.cell? p = w.cell? p
theorem KeepBut.refl (g : Nat) (w : World) : KeepBut g w w := ⟨Nat.le_refl _, fun _ _ _ => rfl⟩
theorem KeepBut.trans {g : Nat} {a b c : World} (h : KeepBut g a b) (k : KeepBut g b c) : KeepBut g a c := ⟨Nat.le_trans h.1 k.1, fun p hp hg => (k.2 p (Nat.lt_of_lt_of_le hp h.1) hg).trans (h.2 p hp hg)⟩
theorem KeepBut.below {g : Nat} {a b c : World} (h : KeepBut g a b) (k : Below b.heap.size b c) : KeepBut g a c := h.trans ⟨k.size, fun _p hp _ => k.cell hp⟩
theorem KeepBut.setCell {g : Nat} {a b : World} (h : KeepBut g a b) (i : Nat) (u : Value) : KeepBut g a (b.setCell ⟨g, i, none⟩ u) :=
  h.trans ⟨Nat.le_of_eq (by simp [World.setCell]), fun p _ hg => World.cell?_setCell_other b ⟨g, i, none⟩ p u (fun e => hg (by rw [← e]))⟩
theorem KeepBut.drew {g : Nat} {a b : World} (h : KeepBut g a b) : KeepBut g a b.drew := h
/-- a slice elsewhere reads as it did -/
theorem reads_but {g : Nat} {w w' : World} {B n : Nat} {A : Option Addr} {xs : List Value} (h : Reads w B A n xs) (hB : B ≤ w.heap.size) (hne : ∀ b o, A = some ⟨b, o, none⟩ → b ≠ g) (k : KeepBut g w w') : Reads w' B A n xs :=
  ⟨h.1, fun hn => by
    obtain ⟨b, o, e, hb, hc⟩ := h.2 hn
    exact ⟨b, o, e, hb, fun j u hj => (k.2 ⟨b, o + j, none⟩ (by show b < _; omega) (hne b o e)).trans (hc j u hj)⟩⟩

/-- texts, some of which are other ones: those of u by those of s, one behind the other -/
def setK (L : List ByteArray) (u : List Nat) (s : List ByteArray) : Nat → List ByteArray
  | 0 => L
  | k + 1 => (setK L u s k).set (u.getD k 0) (s.getD k default)
theorem setK_length (L : List ByteArray) (u : List Nat) (s : List ByteArray) (k : Nat) : (setK L u s k).length = L.length := by
  induction k with
  | zero => rfl
  | succ k ih => rw [setK, List.length_set, ih]
end Go.Proofs.Ythckkmoafobmnaa
