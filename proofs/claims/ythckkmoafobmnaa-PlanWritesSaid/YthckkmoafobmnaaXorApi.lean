/- Walks over the calls of package xor. -/
import Derived.Test.YthckkmoafobmnaaXor
namespace Go.Proofs.Ythckkmoafobmnaa
open Go.RowKit

/-- what a call over parts answers -/
def Sums (P : Program) (n : FuncId) (args : Array Value) (w : World) (r : Option (List UInt8)) : Prop :=
  Calls P n args w fun e w' => e = .returned (.tuple #[.string (strR r), .int .i64 (errR r)]) ∧ Below w.heap.size w w'

set_option maxHeartbeats 400000 in
theorem two_any (a b : ByteArray) (w : World) (ha : a.size ≤ 140737488351232) (hb : b.size ≤ 140737488351232) :
    Sums Try.prog 30 #[.string a, .string b] w (sumOf [bs a, bs b]) := by
  have hr := reads_lit w [.string a, .string b] 9 2 rfl
  have hc := together_any (some ⟨w.heap.size, 0, none⟩) 2 2 (w.heap.size + 1) [a, b] (w.alloc (.cells #[.string a, .string b] 9)) (by omega) hr (by simp) (by simp; exact ⟨ha, hb⟩) (by omega)
  go_enter Try.func30, Try.ntmps30
  go_wp2_with (go_at_call 59; refine hc.mono ?_; rintro e w' ⟨rfl, hb⟩)
  go_ret2
  exact ⟨rfl, ((Below.refl _ _).alloc (Nat.le_refl _) _).trans (hb.mono (by simp))⟩

set_option maxHeartbeats 400000 in
theorem all_any (A : Option Addr) (n c B : Nat) (ss : List ByteArray) (w : World) (hc : n ≤ 8796093022208) (hr : Reads w B A n (ss.map .string)) (hB : B ≤ w.heap.size)
    (hs : ∀ s ∈ ss, s.size ≤ 140737488351232) (hnc : n ≤ c) : Sums Try.prog 32 #[.slice A n c] w (sumOf (ss.map bs)) := by
  have hc := together_any A n c B ss w hc hr hB hs hnc
  have hr' := Lib.hid hr
  clear hr hs
  go_enter Try.func32, Try.ntmps32
  go_wp2_with (go_at_call 59; refine hc.mono ?_; rintro e w' ⟨rfl, hb⟩)
  go_ret2
  exact ⟨rfl, hb⟩

set_option maxHeartbeats 400000 in
theorem moved_any (a b c : ByteArray) (w : World) (ha : a.size ≤ 140737488351232) (hb : b.size ≤ 140737488351232) (hcc : c.size ≤ 140737488351232) :
    Sums Try.prog 33 #[.string a, .string b, .string c] w (sumOf [bs a, bs b, bs c]) := by
  have hr := reads_lit w [.string a, .string b, .string c] 9 3 rfl
  have hc := together_any (some ⟨w.heap.size, 0, none⟩) 3 3 (w.heap.size + 1) [a, b, c] (w.alloc (.cells #[.string a, .string b, .string c] 9)) (by omega) hr (by simp) (by simp; exact ⟨ha, hb, hcc⟩) (by omega)
  go_enter Try.func33, Try.ntmps33
  go_wp2_with (go_at_call 59; refine hc.mono ?_; rintro e w' ⟨rfl, hb⟩)
  go_ret2
  exact ⟨rfl, ((Below.refl _ _).alloc (Nat.le_refl _) _).trans (hb.mono (by simp))⟩

theorem info_str : (Try.prog.info? 9).map (fun i => (i.zero, i.size, i.bytes)) = some (some (.string ⟨#[]⟩), 1, 16) := by kernel_rfl

set_option maxHeartbeats 400000 in
theorem missing_any (s0 : ByteArray) (A : Option Addr) (n c B : Nat) (ss : List ByteArray) (w : World) (hc : n ≤ 8796093021952) (hr : Reads w B A n (ss.map .string)) (hB : B ≤ w.heap.size)
    (hs0 : s0.size ≤ 140737488351232) (hs : ∀ s ∈ ss, s.size ≤ 140737488351232) (_hnc : n ≤ c) :
    Sums Try.prog 35 #[.string s0, .slice A n c] w (sumOf (bs s0 :: ss.map bs)) := by
  have HR := Lib.hid (hr.alloc hB (.cells #[.string s0] 9))
  have HS := Lib.hid hs
  have hown : Own (w.alloc (.cells #[.string s0] 9)) w.heap.size 9 (some ⟨w.heap.size, 0, none⟩) 1 1 [.string s0] := Own.lit w [.string s0] 9 1 rfl (by unfold maxLen; omega) (Nat.le_refl _)
  have HO := Lib.hid hown
  clear hr hs hown
  go_enter Try.func35, Try.ntmps35
  go_wp2_with (first
    | (at_builtin; refine wpList_app 24 9 16 (.string ⟨#[]⟩) rfl _ _ rfl Try.underlying24 info_str rfl rfl HO.out rfl HR.out (strs_oneCell ss) rfl (by unfold maxLen; omega) (by omega) (by simp) ?_; intro A' c' w1 hown1 hgr1 hbd1)
    | (go_at_call 59; refine (together_any _ _ _ w1.heap.size (s0 :: ss) _ (by omega) hown1.reads (Nat.le_refl _) (by intro s h; rcases List.mem_cons.1 h with h | h; exact h ▸ hs0; exact HS.out s h) hown1.cap).mono ?_; rintro e w' ⟨rfl, hb⟩))
  go_ret2
  exact ⟨rfl, below_call (((Below.refl _ _).alloc (Nat.le_refl _) _).trans hbd1) hb⟩
end Go.Proofs.Ythckkmoafobmnaa
