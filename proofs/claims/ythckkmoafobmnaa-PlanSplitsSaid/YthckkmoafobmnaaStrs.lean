/- Texts onto rows of bytes; package strings' Clone and HasSuffix, walked. -/
import Derived.Test.YthckkmoafobmnaaLib
import Derived.Lib.BufferWrite
import Derived.Lib.UnsafeStr
import Derived.Laws.MakeOwn
namespace Go.Proofs.Ythckkmoafobmnaa
open Go.RowKit

section
variable {P : Program} {w : World} {ops : Array Oper} {rest : List Oper} {o : Oper} {a : Act} {Q : Exit → Act → World → Prop} {K : Act → World → Prop} {E : Prop}
/-- append(b, s...), s a text -/
theorem op_appS (t u e : TypeId) (s x : Operand) (ho : o.op = .call { callee := .builtin .append, args := #[s, x], argTypes := #[t, u] })
    (ht : P.underlying t = some (.slice e)) (hu : P.underlying u = some .string) (hinfo : (P.info? e).map (fun i => (i.zero, i.size, i.bytes)) = some (some (.int .u8 0), 1, 1))
    {B n c : Nat} {A : Option Addr} {xs : List UInt8} (hs : a.eval s = .slice A n c) (hown : Own w B e A n c (xs.map byteV))
    {str : ByteArray} (hx : a.eval x = .string str)
    {N : Nat} (hN : n + str.size = N) (h63 : N ≤ maxLen) (hbytes : N ≤ 140737488355328) (hB : B ≤ w.heap.size)
    (h : ∀ (A' : Option Addr) (c' : Nat) (w1 : World), Own w1 B e A' N c' ((xs ++ bsOf str).map byteV) → Below B w w1 → K (a.put o.dst (.slice A' N c')) w1) : o.wp P a w K Q := by
  subst hN
  obtain ⟨i, hi, hz0, hz1, hz2⟩ := info_parts hinfo
  obtain ⟨v', w', hrun, h2, h3, _⟩ := Lib.run_append_own_string (P := P) w B t u o.type e i ht hu hi hz0 hz1 hz2 _ n (xs.map byteV) hown str h63 hbytes hB
  have e2 : xs.map byteV ++ Lib.strCells str = (xs ++ bsOf str).map byteV := by rw [List.map_append]; rfl
  rw [e2] at h2
  unfold Oper.wp execOp
  simp only [ho, resolve, invoke, builtin, Sem.run_bind, Sem.run_pure, Result.andThen_ok, List.map_toArray, List.map_cons, List.map_nil, hs, hx, hrun]
  obtain ⟨A', c', rfl⟩ : ∃ A' c', v' = .slice A' (n + str.size) c' := by
    rcases h2.2 with ⟨hv, hn0⟩ | ⟨g, cap, cur, hv, _⟩
    · exact ⟨none, 0, by rw [hv, hn0]⟩
    · exact ⟨_, _, hv⟩
  exact h A' c' w' h2 ((Below.refl B w).grown h3 hB fun k hk => (hown.lt' k hk).2)
theorem wpList_appS (t u e : TypeId) (hg : o.guard = none) (s x : Operand) (ho : o.op = .call { callee := .builtin .append, args := #[s, x], argTypes := #[t, u] })
    (ht : P.underlying t = some (.slice e)) (hu : P.underlying u = some .string) (hinfo : (P.info? e).map (fun i => (i.zero, i.size, i.bytes)) = some (some (.int .u8 0), 1, 1))
    {B n c : Nat} {A : Option Addr} {xs : List UInt8} (hs : a.eval s = .slice A n c) (hown : Own w B e A n c (xs.map byteV))
    {str : ByteArray} (hx : a.eval x = .string str)
    {N : Nat} (hN : n + str.size = N) (h63 : N ≤ maxLen) (hbytes : N ≤ 140737488355328) (hB : B ≤ w.heap.size)
    (h : ∀ (A' : Option Addr) (c' : Nat) (w1 : World), Own w1 B e A' N c' ((xs ++ bsOf str).map byteV) → Below B w w1 → wpList P ops Q rest (a.put o.dst (.slice A' N c')) w1) : wpList P ops Q (o :: rest) a w :=
  wpList_plain hg fun _ hK => op_appS t u e s x ho ht hu hinfo hs hown hx hN h63 hbytes hB (fun A' c' w1 x0 x1 => hK _ _ (h A' c' w1 x0 x1))
theorem step_appS (t u e : TypeId) (hg : o.guard = none) (s x : Operand) (ho : o.op = .call { callee := .builtin .append, args := #[s, x], argTypes := #[t, u] })
    (ht : P.underlying t = some (.slice e)) (hu : P.underlying u = some .string) (hinfo : (P.info? e).map (fun i => (i.zero, i.size, i.bytes)) = some (some (.int .u8 0), 1, 1))
    {B n c : Nat} {A : Option Addr} {xs : List UInt8} (hs : a.eval s = .slice A n c) (hown : Own w B e A n c (xs.map byteV))
    {str : ByteArray} (hx : a.eval x = .string str)
    {N : Nat} (hN : n + str.size = N) (h63 : N ≤ maxLen) (hbytes : N ≤ 140737488355328) (hB : B ≤ w.heap.size)
    (h : ∀ (A' : Option Addr) (c' : Nat) (w1 : World), Own w1 B e A' N c' ((xs ++ bsOf str).map byteV) → Below B w w1 → K (a.put o.dst (.slice A' N c')) w1) : if Region.wanted o (yielded ops a.tmps) = true then o.wp P a w K Q else E := by
  rw [if_pos (by simp [Region.wanted, hg])]
  exact op_appS t u e s x ho ht hu hinfo hs hown hx hN h63 hbytes hB h
end

theorem infoB : (Try.prog.info? 5).map (fun i => (i.zero, i.size, i.bytes)) = some (some (.int .u8 0), 1, 1) := by kernel_rfl

set_option maxRecDepth 100000 in
set_option maxHeartbeats 1600000 in
theorem lite_clone (s : ByteArray) (w : World) (hs : s.size ≤ 1125899906842624) (h48 : s.size ≤ 281474976710656) :
    Calls Try.prog 63 #[.string s] w fun e w' => e = .returned (.string s) ∧ Below w.heap.size w w' := by
  by_cases h0 : s.size = 0
  · obtain rfl : s = ⟨#[]⟩ := ByteArray.ext (Array.eq_empty_of_size_eq_zero h0)
    go_enter Try.func63, Try.ntmps63
    go_wp2
    go_ret
    exact ⟨rfl, Below.refl _ _⟩
  · obtain ⟨i, hi, hz0, hz1, hz2⟩ := info_parts infoB
    have hco : Try.prog.cellsOf 5 = 1 := by simp [Program.cellsOf, hi, hz1]
    obtain ⟨M, hM⟩ : ∃ M, M = madeCells (Value.int .u8 0).cells (((s.size : Nat) : Int).toNat * i.size) := ⟨_, rfl⟩
    have hMs : M.size = s.size := by rw [hM, size_madeCells, hz1]; simp
    have hmk : ∀ W : World, (Instr.makeSlice 41 (.int .i64 (s.size : Int)) (.int .i64 (s.size : Int))).run Try.prog W = .ok (.slice (some ⟨W.heap.size, 0, none⟩) s.size s.size) (W.alloc (.cells M 5)) := fun W => by
      have h := run_make (P := Try.prog) W 41 5 i (.int .u8 0) Try.underlying41 hi hz0 .i64 .i64 (s.size : Int) (s.size : Int) (by omega) (by omega) (by rw [hz2]; omega) (by omega)
      rw [← hM] at h
      simpa using h
    clear hM
    have hcp := Lib.run_copy_row_string (P := Try.prog) (w.alloc (.cells M 5)) 41 9 3 5 w.heap.size 0 s.size s.size s M 5 Try.underlying41 (by rw [hi]; simp [hz1]) (heap_alloc_new w _) (Nat.le_refl _) (by omega)
    obtain ⟨Y, hY⟩ : ∃ Y, Y = (M.toList.take 0 ++ Lib.byteCells s.data.toList ++ M.toList.drop (0 + s.size)).toArray := ⟨_, rfl⟩
    rw [← hY] at hcp
    have hln : s.data.toList.length = s.size := by rw [Array.length_toList]; rfl
    have hYl : Y.toList = Lib.byteCells s.data.toList := by
      rw [hY, List.toList_toArray, List.take_zero, List.nil_append, List.drop_of_length_le (by rw [Array.length_toList]; omega), List.append_nil]
    have hYs : Y.size = s.size := by rw [← Array.length_toList, hYl, Lib.byteCells_length, hln]
    have hgY : ((w.alloc (.cells M 5)).setRow w.heap.size Y).heap[w.heap.size]? = some (.cells Y 5 (0, 0)) := setRow_heap _ _ M _ 5 (0, 0) (heap_alloc_new w _)
    have hne : s.data.toList ≠ [] := fun e => h0 (by rw [← hln, e]; rfl)
    have hUS := Lib.run_unsafeString_row (P := Try.prog) ((w.alloc (.cells M 5)).setRow w.heap.size Y) 79 3 9 5 Try.underlying79 hco w.heap.size Y.size (by unfold World.shape?; rw [hgY]) s.data.toList hne (by rw [hln]; omega) (by rw [hln]; omega)
      (fun j x hx => Lib.cells_of_row hgY Y.size j _ (by rw [List.take_of_length_le (by rw [Array.length_toList]; exact Nat.le_refl _), hYl]; simp [Lib.byteCells, hx]))
    rw [hln] at hUS
    clear hY
    go_enter Try.func63, Try.ntmps63
    go_wp2
    go_ret
    have hb1 : Below w.heap.size w (w.alloc (.cells M 5)) := (Below.refl _ w).alloc (Nat.le_refl _) _
    have hb2 : Below w.heap.size (w.alloc (.cells M 5)) ((w.alloc (.cells M 5)).setRow w.heap.size Y) := ⟨rfl, rfl, rfl, by simp, fun k hk => setRow_other _ _ _ _ (by omega)⟩
    exact ⟨rfl, Lib.below_freeze (hb1.trans hb2) (p := ⟨w.heap.size, 0, none⟩) (Nat.le_refl _) _⟩

/-- strings.Clone -/
theorem str_clone (s : ByteArray) (w : World) (h48 : s.size ≤ 281474976710656) :
    Calls Try.prog 56 #[.string s] w fun e w' => e = .returned (.string s) ∧ Below w.heap.size w w' := by
  go_enter Try.func56, Try.ntmps56
  go_wp2_with (go_at_call 63; refine (lite_clone s _ (by omega) h48).mono ?_; rintro e w1 ⟨rfl, b1⟩)
  go_ret
  exact ⟨rfl, b1⟩
end Go.Proofs.Ythckkmoafobmnaa
