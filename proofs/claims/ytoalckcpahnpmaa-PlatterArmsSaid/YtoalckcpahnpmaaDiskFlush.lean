/- Flush: the map is ranged over, in whatever order. -/
import Derived.Test.YtoalckcpahnpmaaDiskWake
namespace Go.Proofs.Ytoalckcpahnpmaa
open Go.RowKit Go.ChangeShapes Go.WideShapes
open Go.ChangeMaps (setBlock heap_setBlock_same heap_setBlock_other)

theorem setBlock_far (w : World) (r : Nat) (o : Obj) {i : Nat} (h : i ≠ r) : (setBlock w r o).heap[i]? = w.heap[i]? := by
  show (w.heap.setIfInBounds r o)[i]? = w.heap[i]?
  rw [Array.getElem?_setIfInBounds_ne (fun e => h e.symm)]
theorem setBlock_here (w : World) (r : Nat) (o : Obj) (h : r < w.heap.size) : (setBlock w r o).heap[r]? = some o := by
  show (w.heap.setIfInBounds r o)[r]? = some o
  rw [Array.getElem?_setIfInBounds_self_of_lt h]
theorem below_setBlock {B r : Nat} {w w' : World} (h : Below B w w') (hr : B ≤ r) (o : Obj) : Below B w (setBlock w' r o) :=
  ⟨h.os, h.tape, h.output, by rw [setBlock_size]; exact h.size, fun k hk => (setBlock_far w' r o (by omega)).trans (h.block k hk)⟩
/-- how many entries are still to come -/
def leftN (w : World) (gm r : Nat) : Nat :=
  match w.heap[gm]?, w.heap[r]? with
  | some (.map es _), some (.mapIter _ _ seen _) => (leftOf es seen).size
  | _, _ => 0
theorem leftN_eq {w : World} {gm r clock s c : Nat} {es : Array MapEntry} {m : Option Nat} {seen : Array Nat} (hb : w.heap[gm]? = some (.map es clock)) (hr : w.heap[r]? = some (.mapIter m s seen c)) : leftN w gm r = (leftOf es seen).size := by
  unfold leftN
  rw [hb, hr]
/-- what lasts behind some rounds: g -/
def FlushTo (S : DiskSt) (es : Array MapEntry) (seen : Array Nat) (g : Nat → ByteArray) : Prop :=
  ∀ k : Nat, ((∃ e ∈ es.toList, seen.contains e.born = true ∧ e.key = .int .i64 (k : Int)) → g k = S.read k) ∧ ((¬ ∃ e ∈ es.toList, seen.contains e.born = true ∧ e.key = .int .i64 (k : Int)) → g k = S.sure k)
section
variable {S : DiskSt} {es : Array MapEntry} {clock : Nat} {seen : Array Nat} {g : Nat → ByteArray}
theorem FlushTo.start (S : DiskSt) (es : Array MapEntry) : FlushTo S es #[] S.sure := fun k => ⟨fun ⟨e, _, h, _⟩ => by simp at h, fun _ => rfl⟩
theorem FlushTo.step (h : FlushTo S es seen g) (M : Mapped es clock S.last) {e : MapEntry} (he : e ∈ es.toList) {k : Nat} {s : ByteArray} (hk : e.key = .int .i64 (k : Int)) (hs : S.last k = some s) : FlushTo S es (seen.push e.born) (updF g k s) := by
  have hrd : S.read k = s := by
    unfold DiskSt.read
    rw [hs]
    rfl
  intro j
  by_cases hj : j = k
  · subst hj
    rw [show updF g j s j = s from if_pos rfl]
    exact ⟨fun _ => hrd.symm, fun hn => absurd ⟨e, he, by simp, hk⟩ hn⟩
  · rw [show updF g k s j = g j from if_neg hj]
    have same : (∃ x ∈ es.toList, (seen.push e.born).contains x.born = true ∧ x.key = .int .i64 (j : Int)) → ∃ x ∈ es.toList, seen.contains x.born = true ∧ x.key = .int .i64 (j : Int) := by
      rintro ⟨x, hx, h1, h2⟩
      refine ⟨x, hx, ?_, h2⟩
      rw [Array.contains_push] at h1
      rcases Bool.or_eq_true_iff.1 h1 with h1 | h1
      · exact h1
      · exfalso
        have hb : x.born = e.born := by simpa using h1
        obtain ⟨i1, hi1⟩ := List.mem_iff_getElem?.1 hx
        obtain ⟨i2, hi2⟩ := List.mem_iff_getElem?.1 he
        have hi : i1 = i2 := (List.getElem?_inj (by simpa using (List.getElem?_eq_some_iff.1 hi1).1) M.borns).1 (by rw [List.getElem?_map, hi1, List.getElem?_map, hi2]; exact congrArg some hb)
        rw [hi, hi2] at hi1
        cases hi1
        rw [hk] at h2
        exact hj (key_inj h2).symm
    have back : (∃ x ∈ es.toList, seen.contains x.born = true ∧ x.key = .int .i64 (j : Int)) → ∃ x ∈ es.toList, (seen.push e.born).contains x.born = true ∧ x.key = .int .i64 (j : Int) := fun ⟨x, hx, h1, h2⟩ => ⟨x, hx, by rw [Array.contains_push, h1]; simp, h2⟩
    exact ⟨fun hx => (h j).1 (same hx), fun hn => (h j).2 (fun hx => hn (back hx))⟩
theorem FlushTo.end_ (h : FlushTo S es seen g) (M : Mapped es clock S.last) (h0 : (leftOf es seen).size = 0) (k : Nat) : S.read k = g k := by
  unfold DiskSt.read
  cases hl : S.last k with
  | none =>
    refine ((h k).2 ?_).symm
    rintro ⟨e, he, _, hk⟩
    obtain ⟨s, _, hs⟩ := M.one he hk
    rw [hl] at hs
    cases hs
  | some s =>
    obtain ⟨e, he, hk, _⟩ := M.has k s hl
    have := (h k).1 ⟨e, he, all_seen es seen h0 e he, hk⟩
    rw [this]
    unfold DiskSt.read
    rw [hl]
end
theorem RowsD.ext {S S' : DiskSt} {b gs gm cs left : Nat} {w : World} (h : RowsD S b gs gm cs left w) (hn : S'.n = S.n) (ha : S'.acts = S.acts) (hr : S'.armed = S.armed) (ho : S'.off = S.off) (hs : ∀ k, k < S.n → S'.sure k = S.sure k) (hl : S'.last = S.last) : RowsD S' b gs gm cs left w := by
  refine ⟨by rw [hn, ha, ho]; exact h.r0, by rw [hn]; exact h.r1.ext hs, by rw [hl]; exact h.r2, by rw [hl, hn]; exact h.keys, ⟨h.armed.1, fun x => ?_⟩, by rw [hn]; exact h.small⟩
  rw [hr, ha]
  exact h.armed.2 (ho ▸ x)
theorem RowsD.put {S : DiskSt} {b gs gm cs left : Nat} {w : World} (h : RowsD S b gs gm cs left w) (hd : DistD b gs gm) {k : Nat} (hk : k < S.n) (s : ByteArray) : RowsD { S with sure := updF S.sure k s } b gs gm cs left (w.setCells gs (k * 64) (secV s)) :=
  ⟨row_same h.r0 (Nat.le_of_eq (setCells_size _ _ _).symm) (setCells_block gs _ _ w b hd.1), h.r1.put hk s, h.r2.same (setCells_block gs _ _ w gm hd.2.2.symm), h.keys, h.armed, h.small⟩
/-- a sector is laid over one that lasts -/
theorem run_secput {w : World} {g n : Nat} {f : Nat → ByteArray} (h : Secs w g n f) {k : Nat} (hk : k < n) (s : ByteArray) :
    (storeCells ⟨g, k * 64, none⟩ (secV s)).run Try.prog w = .ok () (w.setCells g (k * 64) (secV s)) := by
  have hf := h.free k hk
  have := run_storeCells_cells (P := Try.prog) g (k * 64) (secV s) 0 w (fun j hj => by rw [secV_len] at hj; exact (hf j hj).1) (fun j hj => by rw [secV_len] at hj; exact (hf j hj).2) (secV_one s)
  exact this
theorem run_range {w : World} {gm clock : Nat} {es : Array MapEntry} (hb : w.heap[gm]? = some (.map es clock)) :
    (Instr.range 51 (.map (some gm))).run Try.prog w = .ok (.pointer (some ⟨w.heap.size, 0, none⟩)) (w.alloc (.mapIter (some gm) clock #[] clock)) := by
  simp [Instr.range, run_underlying Try.underlying51, MapKept.run_getObj_map hb, Result.andThen]
end Go.Proofs.Ytoalckcpahnpmaa
