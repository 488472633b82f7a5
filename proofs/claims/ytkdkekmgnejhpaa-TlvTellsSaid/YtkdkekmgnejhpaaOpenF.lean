/- How an argument that is a slice of fields is opened. -/
import Derived.Test.YtkdkekmgnejhpaaFields
namespace Go.Proofs.Ytkdkekmgnejhpaa
open Go.RowKit Go.ChangeShapes Go.WideShapes

theorem list_of {α : Type} (p : Nat → α → Prop) : ∀ (n : Nat), (∀ i, i < n → ∃ a, p i a) → ∃ l : List α, l.length = n ∧ ∀ i a, l[i]? = some a → p i a
  | 0, _ => ⟨[], rfl, fun i a h => by simp at h⟩
  | n + 1, h => by
    obtain ⟨l, hl, hp⟩ := list_of p n (fun i hi => h i (by omega))
    obtain ⟨a, ha⟩ := h n (by omega)
    refine ⟨l ++ [a], by simp [hl], fun i b hb => ?_⟩
    by_cases hi : i < n
    · rw [List.getElem?_append_left (by omega)] at hb
      exact hp i b hb
    · rw [List.getElem?_append_right (by omega)] at hb
      have : i = n := by
        have := (List.getElem?_eq_some_iff.1 hb).1
        simp at this
        omega
      subst this
      simp [hl] at hb
      subst hb
      exact ha
theorem weights_all_mem {H : Type} {P : Program} {e : TypeId} {x : Nat} {d : DataW H} : ∀ (l : List (DataW H)), d ∈ l → x ∈ d.weights P e → x ∈ DataW.weightsAll P e l
  | [], h, _ => by simp at h
  | y :: l, h, hx => by
    simp only [DataW.weightsAll, List.mem_append]
    rcases List.mem_cons.1 h with rfl | h
    · exact Or.inl hx
    · exact Or.inr (weights_all_mem l h hx)
theorem cellsF_at (l : List (Int × ByteArray)) (j : Nat) (u : Value) (h : (cellsF l)[j]? = some u) : ∃ f, l[j / 2]? = some f ∧ ((j = 2 * (j / 2) ∧ u = .int .i64 f.1) ∨ (j = 2 * (j / 2) + 1 ∧ u = .string f.2)) := by
  have hj : j < 2 * l.length := by
    have := (List.getElem?_eq_some_iff.1 h).1
    rwa [cellsF_length] at this
  have hi : j / 2 < l.length := by omega
  have hf : l[j / 2]? = some l[j / 2] := List.getElem?_eq_getElem hi
  obtain ⟨h0, h1⟩ := cellsF_tag l (j / 2) _ hf
  refine ⟨_, hf, ?_⟩
  by_cases h2 : j = 2 * (j / 2)
  · rw [← h2, h] at h0
    exact Or.inl ⟨h2, Option.some.inj h0⟩
  · have h3 : j = 2 * (j / 2) + 1 := by omega
    rw [← h3, h] at h1
    exact Or.inr ⟨h3, Option.some.inj h1⟩

theorem cells_fld : Try.prog.cellsOf 40 = 2 := by kernel_rfl
theorem bytes_fld : Try.prog.bytesOf 40 = 24 := by kernel_rfl
theorem cells_int : Try.prog.cellsOf 3 = 1 := by kernel_rfl
theorem fields_fld : ∃ f0 f1 : Field, Try.prog.underlying 40 = some (.struct #[f0, f1]) ∧ f0.offset = 0 ∧ f1.offset = 1 ∧ f0.type = 3 ∧ f1.type = 9 :=
  ⟨_, _, Try.underlying40, rfl, rfl, rfl, rfl⟩

section
variable {H : Type} {enc : TypeId × Value → H} {w : World} {r : Reach} {b0 : Nat} {v : Value} {d : DataW H} {ps : List MemPlace}
theorem open_fields (hval : Value.okWide Try.prog w r b0 22 v)
    (hd : DataW.Trod enc Try.prog w 0 (fun _ => true) true 22 v d ps) (hlt : ∀ x ∈ ps, x.block < w.heap.size) (hsz : (d.weights Try.prog 22).all (· ≤ reachBytes) = true) :
    ∃ (A : Option Addr) (n c : Nat) (l : List (Int × ByteArray)), v = .slice A n c ∧ n ≤ c ∧ n ≤ 8796093022208 ∧ ReadsF w w.heap.size A n l ∧ (∀ f ∈ l, (Lit.int .i64 f.1).wf = true ∧ f.2.size ≤ 140737488351232) := by
  obtain ⟨f0, f1, hu, o0, o1, t0, t1⟩ := fields_fld
  obtain ⟨a0, len, cap, rfl⟩ := okWide_slice Try.underlying22 hval
  obtain ⟨fuel, hf⟩ := hd
  rcases Go.Deep.open_slice_pairs Try.underlying22 hu cells_fld o0 o1 (by rw [t0]; exact cells_int) (by rw [t1]; exact cells_str) hf with ⟨hcs, hx⟩ | ⟨a, len', cap', m, n, V0, V1, D0, D1, P0, P1, hcs, _, hl, hm, hmm, hx, hel⟩
  · simp [Value.cells] at hcs
    obtain ⟨rfl, rfl, rfl⟩ := hcs
    exact ⟨none, 0, 0, [], rfl, Nat.le_refl _, by omega, ReadsF.none_ _ _ _, by simp⟩
  · simp [Value.cells] at hcs
    obtain ⟨rfl, rfl, rfl⟩ := hcs
    simp only [Prod.mk.injEq] at hx
    obtain ⟨rfl, rfl⟩ := hx
    simp only [if_true] at hmm
    subst hmm
    have hall : ∀ i, i < len → ∃ f : Int × ByteArray, V0 i = .int .i64 f.1 ∧ (Lit.int .i64 f.1).wf = true ∧ V1 i = .string f.2 ∧ D1 i = .lit (.string f.2.data.toList) := by
      intro i hi
      obtain ⟨_, _, g0, g1⟩ := hel i (by omega)
      rw [t0] at g0
      rw [t1] at g1
      obtain ⟨z, hz, _, hw⟩ := DataW.trod_int Try.underlying3 g0
      obtain ⟨s, hs, hs2, _⟩ := DataW.trod_string Try.underlying9 g1
      simp only [Prod.mk.injEq] at hs2
      exact ⟨(z, s), by simpa using hz, hw, by simpa using hs, hs2.1⟩
    obtain ⟨l, hll, hp⟩ := list_of _ len hall
    simp only [DataW.weights, Try.underlying22, bytes_fld, List.all_cons, List.all_append, Bool.and_eq_true, List.all_eq_true, List.length_map, List.length_range, reachBytes] at hsz
    have hsz1 := of_decide_eq_true hsz.1
    refine ⟨some a, len, m, l, rfl, hl, by omega, ⟨hll, by rw [cellsF_length, hll], fun hn => ?_⟩, fun f hf => ?_⟩
    · obtain ⟨b, off, spot⟩ := a
      have hspot : spot = none := by simpa [Addr.add] using World.cell?_spot (hel 0 (by omega)).1
      subst hspot
      refine ⟨b, off, rfl, hlt (.cell b off) (List.mem_append_left _ (MemPlace.mem_row.2 ⟨0, by omega, by simp⟩)), fun j u hu => ?_⟩
      obtain ⟨f, hf, hju⟩ := cellsF_at l j u hu
      have hjl : j / 2 < len := by
        have := (List.getElem?_eq_some_iff.1 hf).1
        omega
      obtain ⟨p0, _, p1, _⟩ := hp _ _ hf
      obtain ⟨c0, c1, _, _⟩ := hel (j / 2) (by omega)
      rw [add_plain] at c0 c1
      rcases hju with ⟨hj, rfl⟩ | ⟨hj, rfl⟩
      · rw [p0] at c0
        rw [show off + j = off + j / 2 * 2 by omega]
        exact c0
      · rw [p1] at c1
        rw [show off + j = off + (j / 2 * 2 + 1) by omega]
        exact c1
    · obtain ⟨i, hi, hfi⟩ := List.getElem_of_mem hf
      have hfi' : l[i]? = some f := by rw [List.getElem?_eq_getElem hi, hfi]
      obtain ⟨_, hw, _, hd1⟩ := hp i f hfi'
      refine ⟨hw, ?_⟩
      have hmem : DataW.agg [D0 i, D1 i] ∈ (List.range len).map fun i => DataW.agg [D0 i, D1 i] := List.mem_map.2 ⟨i, List.mem_range.2 (by omega), rfl⟩
      have hx : f.2.data.toList.length ∈ (DataW.agg [D0 i, D1 i]).weights Try.prog 40 := by
        simp only [DataW.weights, hu, List.map_cons, List.map_nil, DataW.weightsEach, hd1]
        simp
      have := hsz.2.1 _ (weights_all_mem _ hmem hx)
      exact of_decide_eq_true this
end
end Go.Proofs.Ytkdkekmgnejhpaa
