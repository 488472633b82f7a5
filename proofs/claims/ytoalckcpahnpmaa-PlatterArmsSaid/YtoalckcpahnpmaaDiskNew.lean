/- New. -/
import Derived.Test.YtoalckcpahnpmaaDiskAct
namespace Go.Proofs.Ytoalckcpahnpmaa
open Go.RowKit Go.ChangeShapes Go.WideShapes

theorem sec_info : (Try.prog.info? 55).map (fun i => (i.zero, i.size, i.bytes)) = some (some (secA noughtB), 64, 64) := by
  rw [secA, secV_nought]
  kernel_rfl
theorem mk_secs (n : Nat) (h : n ≤ 64) : ∃ M : Array Value, M.toList = List.replicate (n * 64) (.int .u8 0) ∧
    ∀ W : World, (Instr.makeSlice 50 (.int .i64 (n : Int)) (.int .i64 (n : Int))).run Try.prog W = .ok (.slice (some ⟨W.heap.size, 0, none⟩) n n) (W.alloc (.cells M 55)) := by
  obtain ⟨i, hi, hz0, hz1, hz2⟩ := info_parts sec_info
  refine ⟨Builtin.zeroCells (secA noughtB).cells n, zeros_list n, fun W => ?_⟩
  have hb' : (i.bytes : Int) * (n : Int) ≤ 281474976710656 := by rw [hz2]; omega
  have hr := run_make (P := Try.prog) W 50 55 i (secA noughtB) Try.underlying50 hi hz0 .i64 .i64 n n (by omega) (Int.le_refl _) hb' (by omega)
  have e : madeCells (secA noughtB).cells (((n : Int)).toNat * i.size) = Builtin.zeroCells (secA noughtB).cells n := by
    unfold madeCells Builtin.zeroCells
    rw [hz1, show (secA noughtB).cells.size = 64 from secV_size noughtB]
    rfl
  rw [e] at hr
  exact hr
theorem secs_new (w : World) (M : Array Value) (n : Nat) (hM : M.toList = List.replicate (n * 64) (.int .u8 0)) : Secs (w.alloc (.cells M 55)) w.heap.size n fun _ => noughtB := by
  have hr := row_cells w M.toList 55
  rw [Array.toArray_toList, hM] at hr
  refine ⟨hr.lt, fun k hk j v hj => hr.cell ?_, fun k hk j hj => ⟨?_, hr.free (by simp; omega)⟩⟩
  · rw [secV_nought, List.getElem?_replicate] at hj
    split at hj
    · cases hj
      rw [List.getElem?_replicate, if_pos (by omega)]
    · cases hj
  · rw [hr.cell (j := k * 64 + j) (u := .int .u8 0) (by rw [List.getElem?_replicate, if_pos (by omega)])]
    rfl
theorem disk_new (n : Nat) (w : World) (h1 : 1 ≤ n) (h2 : n ≤ 64) :
    Calls Try.prog 9 #[.int .i64 (n : Int)] w fun e w' => ∃ a, e = .returned (.tuple #[.pointer (some a), .int .i64 0]) ∧ Has (Disk (.new n) a) w.heap.size [] w' ∧ Below w.heap.size w w' := by
  have d1 : decide ((n : Int) < 1) = false := by simp; omega
  have d2 : decide ((64 : Int) < (n : Int)) = false := by simp; omega
  obtain ⟨M, hM, mk⟩ := mk_secs n h2
  have hmk := mk w
  have hmm := @run_makeMap Try.prog
  have e1 : (w.alloc (.cells M 55)).heap.size = w.heap.size + 1 := by simp
  have e2 : ((w.alloc (.cells M 55)).alloc (.map #[] 0)).heap.size = w.heap.size + 1 + 1 := by simp
  have s1 := ((secs_new w M n hM).alloc (.map #[] 0)).alloc (.cells #[.slice (some ⟨w.heap.size, 0, none⟩) n n, .map (some (w.heap.size + 1)), .int .i64 0, .int .i64 0, .bool false] 53)
  have s0 := row_cells ((w.alloc (.cells M 55)).alloc (.map #[] 0)) [.slice (some ⟨w.heap.size, 0, none⟩) n n, .map (some (w.heap.size + 1)), .int .i64 0, .int .i64 0, .bool false] 53
  rw [e2] at s0
  have s2 : MapAt (((w.alloc (.cells M 55)).alloc (.map #[] 0)).alloc (.cells #[.slice (some ⟨w.heap.size, 0, none⟩) n n, .map (some (w.heap.size + 1)), .int .i64 0, .int .i64 0, .bool false] 53)) (w.heap.size + 1) fun _ => none := by
    refine MapAt.same (w := (w.alloc (.cells M 55)).alloc (.map #[] 0)) ?_ (((Below.refl _ _).alloc (Nat.le_refl _) _).block _ (by rw [e2]; omega))
    refine ⟨#[], 0, ?_, Mapped.none_ 0⟩
    have := (MapKept.heap_alloc (w.alloc (.cells M 55)) (.map #[] 0)).1
    rwa [e1] at this
  have bb := below_new (below_new (below_new (Below.refl w.heap.size w) (.cells M 55)) (.map #[] 0)) (.cells #[.slice (some ⟨w.heap.size, 0, none⟩) n n, .map (some (w.heap.size + 1)), .int .i64 0, .int .i64 0, .bool false] 53)
  have hsz : (((w.alloc (.cells M 55)).alloc (.map #[] 0)).alloc (.cells #[.slice (some ⟨w.heap.size, 0, none⟩) n n, .map (some (w.heap.size + 1)), .int .i64 0, .int .i64 0, .bool false] 53)).heap.size = w.heap.size + 1 + 1 + 1 := by simp
  have Y := Lib.hid (show Has (Disk (.new n) ⟨w.heap.size + 1 + 1, 0, none⟩) w.heap.size [] _ ∧ Below w.heap.size w _ from
    ⟨⟨bb.size, by simp, fun k => k = w.heap.size + 1 + 1 ∨ k = w.heap.size ∨ k = w.heap.size + 1, ⟨w.heap.size + 1 + 1, w.heap.size, w.heap.size + 1, n, 0, rfl, ⟨by omega, by omega, by omega⟩, ⟨s0, s1, s2, (fun _ _ h => by cases h), ⟨by omega, fun _ => rfl⟩, ⟨h2, Nat.le_refl n⟩⟩, fun _ => Iff.rfl⟩,
      fun k hk => ⟨by rcases hk with rfl | rfl | rfl <;> omega, by rw [hsz]; rcases hk with rfl | rfl | rfl <;> omega, by simp⟩⟩, bb⟩)
  clear s0 s1 s2 bb hsz e1 e2 hM mk
  go_enter Try.func9, Try.ntmps9
  go_wp2
  go_ret2
  exact ⟨⟨w.heap.size + 1 + 1, 0, none⟩, rfl, Y.out.1, Y.out.2⟩
theorem disk_none (n : Int) (w : World) (h : 64 < n) (h2 : n < 9223372036854775808) :
    Calls Try.prog 9 #[.int .i64 n] w fun e w' => e = .returned (.tuple #[.pointer none, .int .i64 1]) ∧ Below w.heap.size w w' := by
  have d1 : decide (n < 1) = false := by simp; omega
  have d2 : decide (64 < n) = true := by simp; omega
  have b0 := Below.refl w.heap.size w
  clear h h2
  go_enter Try.func9, Try.ntmps9
  go_wp2
  go_ret2
  exact ⟨rfl, b0⟩
end Go.Proofs.Ytoalckcpahnpmaa
