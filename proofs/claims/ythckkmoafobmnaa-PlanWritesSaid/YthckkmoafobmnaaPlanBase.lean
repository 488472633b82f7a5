/- Words for walks over package plan. -/
import Derived.Test.YthckkmoafobmnaaPlanMath
import Derived.Test.YthckkmoafobmnaaPlatLaws
import Derived.Test.YthckkmoafobmnaaXorLaw
namespace Go.Proofs.Ythckkmoafobmnaa
open Go.RowKit Go.ChangeShapes Go.WideShapes

/-- a number, as a cell holds it -/
def natV (n : Nat) : Value := .int .i64 (n : Int)
/-- new memory: nothing that lies below B -/
def Fresh (B : Nat) (A : Option Addr) : Prop := ∀ b o, A = some ⟨b, o, none⟩ → B ≤ b
/-- what Fetch and Update answer -/
def TwoLists (B : Nat) (e : Ending) (w' : World) (a b : List Nat) : Prop :=
  ∃ A1 c1 A2 c2, e = .returned (.tuple #[.slice A1 a.length c1, .slice A2 b.length c2, .int .i64 0]) ∧ Reads w' w'.heap.size A1 a.length (a.map natV) ∧ Reads w' w'.heap.size A2 b.length (b.map natV) ∧ Fresh B A1 ∧ Fresh B A2
def planW (N col : Nat) (out : Int) (ss : List (List UInt8)) (data : List UInt8) : List (List UInt8) :=
  if out = (N : Int) - 1 then [data] else if out = col then [sumL 16 (data :: ss)] else [data, sumL 16 [ss.getD 1 [], ss.getD 0 [], data]]
/-- texts of bytes -/
def textV (l : List UInt8) : Value := .string ⟨l.toArray⟩
/-- a run of blocks, piece by piece -/
def pieces : Nat → Nat → Nat → Nat → List (Nat × Nat × Nat)
  | 0, _, _, _ => []
  | k + 1, m, at_, count => if count = 0 then [] else (at_ / m, at_ % m, min count (m - at_ % m)) :: pieces k m (at_ + min count (m - at_ % m)) (count - min count (m - at_ % m))
def pieceCells (l : List (Nat × Nat × Nat)) : List Value := l.flatMap fun p => [natV p.1, natV p.2.1, natV p.2.2]
end Go.Proofs.Ythckkmoafobmnaa
