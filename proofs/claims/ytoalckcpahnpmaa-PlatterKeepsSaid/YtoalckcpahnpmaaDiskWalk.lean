/- Walks over package platter: the contracts of its methods. -/
import Derived.Test.YtoalckcpahnpmaaDiskWrite
import Derived.Test.YtoalckcpahnpmaaDiskNew
import Derived.Test.YtoalckcpahnpmaaDiskFlushB
import Derived.Test.YtoalckcpahnpmaaDiskRest
namespace Go.Proofs.Ytoalckcpahnpmaa
open Go.RowKit Go.ChangeShapes Go.WideShapes

/-! ### of right arguments -/
theorem disk_n64 {k : Nat} (h : k < 9223372036854775808) : (Lit.int .i64 (k : Int)).wf = true := WalkArith.wf_i64 (by omega)
theorem disk_write (S : DiskSt) (a : Addr) (k : Nat) (s : ByteArray) (hf : S.Few) (hk : k < S.n) (hs : s.size = 64) :
    Acts Try.prog 13 #[.pointer (some a), .int .i64 (k : Int), .string s] (.returned (.int .i64 S.err)) (Disk S a) (Disk (S.write k s) a) := by
  intro w F hd hlt
  have hn := disk_small hd
  have h := disk_write_any S a k s hf (disk_n64 (by omega))
  rw [(DiskSt.write_fits hk hs).1, (DiskSt.write_fits hk hs).2] at h
  exact h w F hd hlt
theorem disk_read (S : DiskSt) (a : Addr) (k : Nat) (w : World) (h : ∃ F, Disk S a w F) (ho : S.off = false) (hk : k < S.n) (hw : S.Whole) :
    Calls Try.prog 17 #[.pointer (some a), .int .i64 (k : Int)] w fun e w' => e = .returned (.tuple #[.string (S.read k), .int .i64 0]) ∧ Below w.heap.size w w' := by
  have hn : S.n ≤ 64 := h.elim fun F hd => disk_small hd
  have h := disk_read_any S a k w h (disk_n64 (by omega)) hw
  rw [(DiskSt.read_has ho hk).1, (DiskSt.read_has ho hk).2] at h
  exact h
end Go.Proofs.Ytoalckcpahnpmaa
