/- How an argument that is a slice of structs is opened: every field of one cell. And slices of integers. Nothing of the program stands here. -/
import Derived.Test.YtoalckcpahnpmaaLib
import Derived.Deep.SlicePairs
namespace Go.Proofs.Ytoalckcpahnpmaa
open Go.RowKit Go.ChangeShapes Go.WideShapes

/-- the slice '.slice A n c' of structs of m cells holds V i j as field j of element i -/
def ReadsS (w : World) (B : Nat) (A : Option Addr) (n m : Nat) (V : Nat → Nat → Value) : Prop :=
  0 < n → ∃ b o, A = some ⟨b, o, none⟩ ∧ b < B ∧ ∀ i j, i < n → j < m → w.cell? ⟨b, o + i * m + j, none⟩ = some (V i j)
theorem ReadsS.keep {w w' : World} {B n m : Nat} {A : Option Addr} {V : Nat → Nat → Value} (h : ReadsS w B A n m V) (hb : Below B w w') : ReadsS w' B A n m V := fun hn => by
  obtain ⟨b, o, e, hlt, hc⟩ := h hn
  exact ⟨b, o, e, hlt, fun i j hi hj => (hb.cell (by exact hlt)).trans (hc i j hi hj)⟩
theorem ReadsS.at_ {w : World} {B n m : Nat} {A : Option Addr} {V : Nat → Nat → Value} (h : ReadsS w B A n m V) {i : Nat} (hi : i < n) : ∃ b o, A = some ⟨b, o, none⟩ ∧ b < B ∧ ∀ j, j < m → w.cell? ⟨b, o + i * m + j, none⟩ = some (V i j) := by
  obtain ⟨b, o, e, hlt, hc⟩ := h (by omega)
  exact ⟨b, o, e, hlt, fun j hj => hc i j hi hj⟩

theorem weights_all_mem2 {H : Type} {P : Program} {e : TypeId} {x : Nat} {d : DataW H} : ∀ (l : List (DataW H)), d ∈ l → x ∈ d.weights P e → x ∈ DataW.weightsAll P e l
  | [], h, _ => by simp at h
  | y :: l, h, hx => by
    simp only [DataW.weightsAll, List.mem_append]
    rcases List.mem_cons.1 h with rfl | h
    · exact Or.inl hx
    · exact Or.inr (weights_all_mem2 l h hx)

section
variable {H : Type} {enc : TypeId × Value → H} {P : Program} {w : World} {r : Reach} {b0 : Nat} {v : Value} {d : DataW H} {ps : List MemPlace}
theorem open_structs {t e : TypeId} {fs : Array Field} (ht : P.underlying t = some (.slice e)) (he : P.underlying e = some (.struct fs)) (ce : P.cellsOf e = fs.size)
    (ho : ∀ (j : Nat) f, fs[j]? = some f → f.offset = j ∧ P.cellsOf f.type = 1) (hby : 1 ≤ P.bytesOf e) (hf0 : 0 < fs.size) (hval : Value.okWide P w r b0 t v)
    (hd : DataW.Trod enc P w 0 (fun _ => true) true t v d ps) (hlt : ∀ x ∈ ps, x.block < w.heap.size) (hsz : (d.weights P t).all (· ≤ reachBytes) = true) :
    ∃ (A : Option Addr) (n c : Nat) (V : Nat → Nat → Value), v = .slice A n c ∧ n ≤ c ∧ n ≤ 140737488351232 ∧ ReadsS w w.heap.size A n fs.size V ∧
      ∀ (i j : Nat) f, i < n → fs[j]? = some f → ∃ k x, DataW.trod enc P w 0 (fun _ => true) true k f.type [V i j] = some x := by
  obtain ⟨a0, len, cap, rfl⟩ := okWide_slice ht hval
  obtain ⟨fuel, hf⟩ := hd
  rcases Go.Deep.open_slice ht hf with ⟨hcs, hx⟩ | ⟨a, len', cap', m, n, D, Pl, hcs, _, hl, hm, hmm, hx, hel⟩
  · simp [Value.cells] at hcs
    obtain ⟨rfl, rfl, rfl⟩ := hcs
    exact ⟨none, 0, 0, fun _ _ => undef, rfl, Nat.le_refl _, by omega, fun h => absurd h (by omega), fun i j f hi => absurd hi (by omega)⟩
  · simp [Value.cells] at hcs
    obtain ⟨rfl, rfl, rfl⟩ := hcs
    simp only [Prod.mk.injEq] at hx
    obtain ⟨rfl, rfl⟩ := hx
    simp only [if_true] at hmm
    subst hmm
    have each : ∀ i, i < m → ∃ cs' : List Value, (∀ j, j < fs.size → w.cell? (a.add (i * fs.size + j)) = some (cs'.getD j undef)) ∧ ∀ (j : Nat) f, fs[j]? = some f → ∃ k x, DataW.trod enc P w 0 (fun _ => true) true k f.type [cs'.getD j undef] = some x := by
      intro i hi
      obtain ⟨cs', h1, h2⟩ := hel i hi
      rw [ce] at h1
      obtain ⟨_, hlen, hcell⟩ := World.cells?_some h1
      obtain ⟨xs, k, hk, hxy, _, hxl, hff⟩ := DataW.trod_struct he h2
      refine ⟨cs', fun j hj => ?_, fun j f hj => ?_⟩
      · have := hcell j hj
        rw [Go.Deep.add_add] at this
        rw [this, List.getElem?_eq_getElem (by omega), List.getD_eq_getElem?_getD, List.getElem?_eq_getElem (by omega)]
        rfl
      · have hjs : j < fs.size := (Array.getElem?_eq_some_iff.1 hj).1
        have h3 := hff j f hj
        obtain ⟨o1, o2⟩ := ho j f hj
        rw [o1, o2, List.getElem?_eq_getElem (by omega)] at h3
        have h4 : (cs'.drop j).take 1 = [cs'.getD j undef] := by
          rw [List.drop_eq_getElem_cons (by omega), List.take_succ_cons, List.take_zero, List.getD_eq_getElem?_getD, List.getElem?_eq_getElem (by omega)]
          rfl
        rw [h4] at h3
        exact ⟨k, _, h3⟩
    obtain ⟨q, hq⟩ := Go.Deep.choose_lt each
    simp only [DataW.weights, ht, List.all_cons, List.all_append, Bool.and_eq_true, List.length_map, List.length_range, reachBytes] at hsz
    have hsz1 := of_decide_eq_true hsz.1
    have hlen : len ≤ 140737488351232 := by
      have h1 : (len + (m - len)) * 1 ≤ (len + (m - len)) * P.bytesOf e := Nat.mul_le_mul_left _ hby
      omega
    refine ⟨some a, len, m, fun i j => (q i).getD j undef, rfl, hl, hlen, fun hn => ?_, fun i j f hi hj => (hq i (by omega)).2 j f hj⟩
    obtain ⟨b, off, spot⟩ := a
    have hspot : spot = none := by
      have := (hq 0 (by omega)).1 0 hf0
      simpa [Addr.add] using World.cell?_spot this
    subst hspot
    refine ⟨b, off, rfl, hlt (.cell b off) (List.mem_append_left _ (MemPlace.mem_row.2 ⟨0, ?_, by simp⟩)), fun i j hi hj => ?_⟩
    · rw [ce]
      exact Nat.mul_pos (by omega) hf0
    · have := (hq i (by omega)).1 j hj
      rwa [add_plain, ← Nat.add_assoc] at this
/-- of an integer field -/
theorem int_field {t : TypeId} {k : IntKind} {u : Value} (ht : P.underlying t = some (.int k)) (h : ∃ f x, DataW.trod enc P w 0 (fun _ => true) true f t [u] = some x) : ∃ z : Int, u = .int k z ∧ (Lit.int k z).wf = true := by
  obtain ⟨f, x, h⟩ := h
  obtain ⟨z, hz, _, hw⟩ := DataW.trod_int ht h
  exact ⟨z, by simpa using hz, hw⟩
/-- a slice of integers -/
theorem open_intsL {t e : TypeId} (ht : P.underlying t = some (.slice e)) (he : P.underlying e = some (.int .i64)) (ce : P.cellsOf e = 1) (hby : 1 ≤ P.bytesOf e) (hval : Value.okWide P w r b0 t v)
    (hd : DataW.Trod enc P w 0 (fun _ => true) true t v d ps) (hlt : ∀ x ∈ ps, x.block < w.heap.size) (hsz : (d.weights P t).all (· ≤ reachBytes) = true) :
    ∃ (A : Option Addr) (n c : Nat) (l : List Int), v = .slice A n c ∧ n ≤ c ∧ n ≤ 140737488351232 ∧ Reads w w.heap.size A n (l.map (.int .i64)) ∧ ∀ z ∈ l, (Lit.int .i64 z).wf = true := by
  obtain ⟨a0, len, cap, rfl⟩ := okWide_slice ht hval
  obtain ⟨fuel, hf⟩ := hd
  rcases Go.Deep.open_slice ht hf with ⟨hcs, hx⟩ | ⟨a, len', cap', m, n, D, Pl, hcs, _, hl, hm, hmm, hx, hel⟩
  · simp [Value.cells] at hcs
    obtain ⟨rfl, rfl, rfl⟩ := hcs
    exact ⟨none, 0, 0, [], rfl, Nat.le_refl _, by omega, Reads.none_ _ _ _, by simp⟩
  · simp [Value.cells] at hcs
    obtain ⟨rfl, rfl, rfl⟩ := hcs
    simp only [Prod.mk.injEq] at hx
    obtain ⟨rfl, rfl⟩ := hx
    simp only [if_true] at hmm
    subst hmm
    have each : ∀ i, i < m → ∃ z : Int, w.cell? (a.add i) = some (.int .i64 z) ∧ (Lit.int .i64 z).wf = true := by
      intro i hi
      obtain ⟨cs', h1, h2⟩ := hel i hi
      rw [ce, Nat.mul_one] at h1
      obtain ⟨_, hlen, hcell⟩ := World.cells?_some h1
      obtain ⟨z, hz, _, hw⟩ := DataW.trod_int he h2
      have := hcell 0 (by omega)
      rw [Go.Deep.add_add, hz] at this
      exact ⟨z, by simpa using this, hw⟩
    obtain ⟨q, hq⟩ := Go.Deep.choose_lt each
    simp only [DataW.weights, ht, List.all_cons, List.all_append, Bool.and_eq_true, List.length_map, List.length_range, reachBytes] at hsz
    have hsz1 := of_decide_eq_true hsz.1
    have hlen : len ≤ 140737488351232 := by
      have h1 : (len + (m - len)) * 1 ≤ (len + (m - len)) * P.bytesOf e := Nat.mul_le_mul_left _ hby
      omega
    refine ⟨some a, len, m, (List.range len).map q, rfl, hl, hlen, ⟨by simp, fun hn => ?_⟩, fun z hz => ?_⟩
    · obtain ⟨b, off, spot⟩ := a
      have hspot : spot = none := by simpa [Addr.add] using World.cell?_spot (hq 0 (by omega)).1
      subst hspot
      refine ⟨b, off, rfl, hlt (.cell b off) (List.mem_append_left _ (MemPlace.mem_row.2 ⟨0, by rw [ce]; omega, by simp⟩)), fun j u hu => ?_⟩
      rw [List.map_map, List.getElem?_map] at hu
      obtain ⟨i, hi, rfl⟩ := Option.map_eq_some_iff.1 hu
      have hjl : j < len := by
        have := (List.getElem?_eq_some_iff.1 hi).1
        simpa using this
      rw [List.getElem?_range hjl] at hi
      obtain rfl := Option.some.inj hi
      have := (hq j (by omega)).1
      rwa [add_plain] at this
    · obtain ⟨i, hi, rfl⟩ := List.mem_map.1 hz
      exact (hq i (by have := List.mem_range.1 hi; omega)).2
end
end Go.Proofs.Ytoalckcpahnpmaa
