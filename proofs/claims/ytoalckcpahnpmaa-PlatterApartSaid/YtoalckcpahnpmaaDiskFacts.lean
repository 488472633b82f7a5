/- Plain facts about disks and the memory that they stand in. Nothing of the program stands here. -/
import Derived.Test.YtoalckcpahnpmaaDiskMath
namespace Go.Proofs.Ytoalckcpahnpmaa
open Go.RowKit

theorem row_same {w w' : World} {g : Nat} {xs : List Value} (r : Row w g xs) (hs : w.heap.size ≤ w'.heap.size) (e : w'.heap[g]? = w.heap[g]?) : Row w' g xs :=
  ⟨Nat.lt_of_lt_of_le r.lt hs, fun j u hj => ⟨(World.cell?_of_block (w := w) (a := ⟨g, j, none⟩) e).trans (r.2 j u hj).1, (World.frozen?_of_block (w := w) (a := ⟨g, j, none⟩) e).trans (r.2 j u hj).2⟩⟩
theorem apart_set {F : Nat → Prop} {w : World} {p : Addr} (u : Value) (hp : F p.block) : Apart F w (w.setCell p u) :=
  ⟨rfl, rfl, rfl, by simp [World.setCell], fun k _ hk => Below.heap_setCell w p u k (fun e => hk (e ▸ hp))⟩
theorem range_set {n m : Nat} (f h : Nat → Value) (hm : m < n) (he : ∀ j, j ≠ m → f j = h j) : ((List.range n).map f).set m (h m) = (List.range n).map h := by
  refine List.ext_getElem? fun p => ?_
  by_cases hp : p < n
  · rw [List.getElem?_map, List.getElem?_range hp]
    by_cases e : m = p
    · subst e
      rw [List.getElem?_set_self (by simpa using hm)]
      rfl
    · rw [List.getElem?_set_ne e, List.getElem?_map, List.getElem?_range hp]
      show some (f p) = some (h p)
      rw [he p (fun x => e x.symm)]
  · rw [List.getElem?_eq_none (by simp; omega), List.getElem?_eq_none (by simp; omega)]
theorem act_last (S : DiskSt) : S.act.last = S.last := by
  unfold DiskSt.act
  split <;> rfl
theorem cached_nodup (S : DiskSt) : S.cached.Nodup := List.nodup_range.filter _
theorem cached_at {S : DiskSt} {i m : Nat} (h : S.cached[i]? = some m) : m < S.n ∧ ∃ u, S.last m = some u := by
  have hm := List.mem_of_getElem? h
  unfold DiskSt.cached at hm
  rw [List.mem_filter, List.mem_range] at hm
  exact ⟨hm.1, Option.isSome_iff_exists.1 hm.2⟩
theorem cached_mem {S : DiskSt} {k : Nat} : k ∈ S.cached ↔ k < S.n ∧ (S.last k).isSome = true := by
  unfold DiskSt.cached
  rw [List.mem_filter, List.mem_range]
theorem cached_len (S : DiskSt) : S.cached.length ≤ S.n := by
  have h := List.length_filter_le (fun k => (S.last k).isSome) (List.range S.n)
  rw [List.length_range] at h
  exact h
theorem nodup_at {l : List Nat} (hn : l.Nodup) {i j m : Nat} (h1 : l[i]? = some m) (h2 : l[j]? = some m) : i = j := by
  exact (List.getElem?_inj (List.getElem?_eq_some_iff.1 h1).1 hn).1 (h1.trans h2.symm)
theorem nodup_take {l : List Nat} (hn : l.Nodup) {i m : Nat} (h : l[i]? = some m) : m ∉ l.take i := fun hm => by
  obtain ⟨j, hj⟩ := List.mem_iff_getElem?.1 hm
  rw [List.getElem?_take] at hj
  split at hj
  · have := nodup_at hn h hj
    omega
  · cases hj
theorem stays_at {S : DiskSt} {keep : List Int} {i m : Nat} (h : S.cached[i]? = some m) : S.stays keep m = (decide (i < keep.length) && decide (keep.getD i 0 % 2 ≠ 0)) := by
  have hi : i < S.cached.length := (List.getElem?_eq_some_iff.1 h).1
  rw [Bool.eq_iff_iff]
  unfold DiskSt.stays
  rw [List.any_eq_true]
  simp only [Bool.and_eq_true, decide_eq_true_eq, List.mem_range]
  constructor
  · rintro ⟨j, _, ⟨hj, h1⟩, h2⟩
    obtain rfl := nodup_at (cached_nodup S) h hj
    exact ⟨h1, h2⟩
  · rintro ⟨h1, h2⟩
    exact ⟨i, hi, ⟨h, h1⟩, h2⟩
theorem stays_mem {S : DiskSt} {keep : List Int} {k : Nat} (h : S.stays keep k = true) : k ∈ S.cached := by
  unfold DiskSt.stays at h
  rw [List.any_eq_true] at h
  obtain ⟨j, _, hj⟩ := h
  simp only [Bool.and_eq_true, decide_eq_true_eq] at hj
  exact List.mem_of_getElem? hj.1.1
theorem take_mem {l : List Nat} {i m k : Nat} (h : l[i]? = some m) : k ∈ l.take (i + 1) ↔ k ∈ l.take i ∨ k = m := by
  rw [List.take_add_one, h]
  simp
theorem cached_up (S : DiskSt) (k : Nat) : (List.range (k + 1)).filter (fun k => (S.last k).isSome) = (List.range k).filter (fun k => (S.last k).isSome) ++ (if (S.last k).isSome = true then [k] else []) := by
  rw [List.range_succ, List.filter_append]
  congr 1
  cases h : (S.last k).isSome
  · rw [if_neg (by decide)]
    simp [h]
  · rw [if_pos rfl]
    simp [h]
theorem infoI : (Try.prog.info? 3).map (fun i => (i.zero, i.size, i.bytes)) = some (some (.int .i64 0), 1, 8) := by kernel_rfl
def intV (k : Nat) : Value := .int .i64 (k : Int)
theorem intV_one (l : List Nat) : ∀ u ∈ l.map intV, u.oneCell' = true := by
  intro u hu
  obtain ⟨n, _, rfl⟩ := List.mem_map.1 hu
  rfl
theorem odd_is (x t : Int) (h : x.tmod 2 = t) : (t == 0) = decide (¬ x % 2 ≠ 0) := by
  rw [Bool.eq_iff_iff]
  simp only [beq_iff_eq, decide_eq_true_eq, Decidable.not_not]
  rw [← h, ← Int.dvd_iff_tmod_eq_zero, Int.dvd_iff_emod_eq_zero]
theorem tmod2 (x : Int) : -1 ≤ x.tmod 2 ∧ x.tmod 2 ≤ 1 := by
  rcases Int.le_total 0 x with h | h
  · rw [Int.tmod_eq_emod_of_nonneg h]
    omega
  · have e : x.tmod 2 = -((-x).tmod 2) := by rw [Int.neg_tmod, Int.neg_neg]
    rw [e, Int.tmod_eq_emod_of_nonneg (by omega)]
    omega
theorem fresh7 {w : World} {B g o : Nat} {e : TypeId} {n c : Nat} {xs : List Value} (h : Own w B e (some ⟨g, o, none⟩) n c xs) : B ≤ g := by
  rcases h.2 with ⟨hv, _⟩ | ⟨g', cap, cur, hv, hB, _⟩
  · simp at hv
  · simp only [Value.slice.injEq, Option.some.injEq, Addr.mk.injEq] at hv
    rw [hv.1.1]
    exact hB
end Go.Proofs.Ytoalckcpahnpmaa
