/- A run's spot, a complex number: small whole numbers as floats. -/
import Derived.Test.YthckkmoafobmnaaPlanBase
import Derived.Laws.ComplexArith
namespace Go.Proofs.Ythckkmoafobmnaa
open Go.RowKit

/-- a small number's float -/
def flt (n : Nat) : Nat := floatOfInt .f64 (n : Int)
theorem flt_is (n : Nat) : floatOfInt .f64 (n : Int) = flt n := rfl
theorem flt_zero : (0 : Nat) = flt 0 := by kernel_rfl
theorem flt_up (n : Nat) (h : n < 16) : floatBits .add .f64 (flt n) (flt 1) = some (flt (n + 1)) := by
  have key : ∀ n : Fin 16, floatBits .add .f64 (flt n) (flt 1) = some (flt (n + 1)) := by decide +kernel
  exact key ⟨n, h⟩
theorem flt_stay (n : Nat) (h : n < 16) : floatBits .add .f64 (flt n) (flt 0) = some (flt n) := by
  have key : ∀ n : Fin 16, floatBits .add .f64 (flt n) (flt 0) = some (flt n) := by decide +kernel
  exact key ⟨n, h⟩
theorem flt_int (n : Nat) (h : n < 16) : floatToIntVal .f64 (flt n) .i64 = some (n : Int) := by
  have key : ∀ n : Fin 16, floatToIntVal .f64 (flt n) .i64 = some ((n : Nat) : Int) := by decide +kernel
  exact key ⟨n, h⟩
/-- a spot: stripe and column -/
def spotV (s c : Nat) : Value := .complex .f64 (flt s) (flt c)
section
variable {P : Program}
theorem spot_up (w : World) (t : TypeId) (s c : Nat) (hs : s < 16) (hc : c < 16) : (binOp .add t (.complex .f64 (flt s) (flt c)) (.complex .f64 (flt 0) (flt 1))).run P w = .ok (.complex .f64 (flt s) (flt (c + 1))) w :=
  run_complex_sum w .add (.inl rfl) t .f64 _ _ _ _ _ _ (by rw [cSumBits, flt_stay s hs, flt_up c hc]; rfl)
theorem one_up (w : World) (t : TypeId) (s : Nat) (hs : s < 16) : (binOp .add t (.float .f64 (flt s)) (.float .f64 (flt 1))).run P w = .ok (.float .f64 (flt (s + 1))) w :=
  run_float_arith w .add t .f64 _ _ _ (flt_up s hs)
theorem flt_to (w : World) (src dst : TypeId) (n : Nat) (hn : n < 16) (hs : (P.underlying src).isSome = true) (hd : P.underlying dst = some (.int .i64)) : (convert src dst (.float .f64 (flt n))).run P w = .ok (.int .i64 (n : Int)) w :=
  run_convert_float_int w src dst .f64 .i64 _ _ hs hd (flt_int n hn)
end
end Go.Proofs.Ythckkmoafobmnaa
