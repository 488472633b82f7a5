/- Slices of fields (a number and a text) in memory. -/
import Derived.Test.YtkdkekmgnejhpaaLib
import Derived.Deep.SlicePairs
namespace Go.Proofs.Ytkdkekmgnejhpaa
open Go.RowKit Go.ChangeShapes Go.WideShapes

/-- the cells of fields -/
def cellsF (l : List (Int × ByteArray)) : List Value := l.flatMap fun f => [.int .i64 f.1, .string f.2]
theorem cellsF_nil : cellsF [] = [] := rfl
theorem cellsF_append (a b : List (Int × ByteArray)) : cellsF (a ++ b) = cellsF a ++ cellsF b := by simp [cellsF]
theorem cellsF_length (l : List (Int × ByteArray)) : (cellsF l).length = 2 * l.length := by
  induction l with
  | nil => rfl
  | cons f l ih =>
    show (_ :: _ :: cellsF l).length = _
    simp only [List.length_cons, ih]
    omega
theorem cellsF_tag (l : List (Int × ByteArray)) (k : Nat) (f : Int × ByteArray) (h : l[k]? = some f) : (cellsF l)[2 * k]? = some (.int .i64 f.1) ∧ (cellsF l)[2 * k + 1]? = some (.string f.2) := by
  induction l generalizing k with
  | nil => simp at h
  | cons g l ih =>
    cases k with
    | zero =>
      simp at h
      subst h
      exact ⟨rfl, rfl⟩
    | succ k =>
      simp at h
      have := ih k h
      rw [show 2 * (k + 1) = 2 * k + 1 + 1 by omega]
      exact this
theorem cellsF_one (l : List (Int × ByteArray)) : ∀ u ∈ cellsF l, u.oneCell' = true := by
  intro u hu
  obtain ⟨f, _, hf⟩ := List.mem_flatMap.1 hu
  simp at hf
  rcases hf with rfl | rfl <;> rfl

/-- the slice '.slice A n c' holds the fields l, in a block below B -/
def ReadsF (w : World) (B : Nat) (A : Option Addr) (n : Nat) (l : List (Int × ByteArray)) : Prop := l.length = n ∧ Reads w B A (2 * n) (cellsF l)
section
variable {w w' : World} {B B' n : Nat} {A : Option Addr} {l : List (Int × ByteArray)}
theorem ReadsF.len (h : ReadsF w B A n l) : l.length = n := h.1
theorem ReadsF.none_ (w : World) (B : Nat) (A : Option Addr) : ReadsF w B A 0 [] := ⟨rfl, Reads.none_ _ _ _⟩
theorem ReadsF.below (h : ReadsF w B A n l) (hb : Below B w w') : ReadsF w' B A n l := ⟨h.1, h.2.below hb⟩
theorem ReadsF.more (h : ReadsF w B A n l) (hB : B ≤ B') : ReadsF w B' A n l := ⟨h.1, h.2.more hB⟩
theorem ReadsF.at_ {k : Nat} (h : ReadsF w B A n l) (hk : k < n) : ∃ b o t x, A = some ⟨b, o, none⟩ ∧ b < B ∧ l[k]? = some (t, x) ∧ w.cell? ⟨b, o + 2 * k, none⟩ = some (.int .i64 t) ∧ w.cell? ⟨b, o + 2 * k + 1, none⟩ = some (.string x) := by
  obtain ⟨b, o, e, hb, hc⟩ := h.2.2 (by omega)
  have hl : k < l.length := by have := h.1; omega
  have h1 := cellsF_tag l k l[k] (List.getElem?_eq_getElem hl)
  exact ⟨b, o, l[k].1, l[k].2, e, hb, List.getElem?_eq_getElem hl, hc _ _ h1.1, by rw [Nat.add_assoc]; exact hc _ _ h1.2⟩
end
/-- the slice lies at the head of a block of the call's own (or is nil) and holds the fields l -/
abbrev OwnF (w : World) (B : Nat) (A : Option Addr) (n c : Nat) (l : List (Int × ByteArray)) : Prop := w.ownsRow B 40 2 (.slice A n c) n (cellsF l)
section
variable {w w' : World} {B B' n c : Nat} {A : Option Addr} {l : List (Int × ByteArray)}
theorem OwnF.nil (w : World) (B : Nat) : OwnF w B none 0 0 [] := World.ownsRow_nil w B _ 2
theorem OwnF.len (h : OwnF w B A n c l) : l.length = n := by
  have := h.1
  rw [cellsF_length] at this
  omega
theorem OwnF.lt (h : OwnF w B A n c l) : ∀ g, A = some ⟨g, 0, none⟩ → g < w.heap.size ∧ B ≤ g := fun g hg => by
  have := World.ownsRow.lt h g (by rw [hg]; rfl)
  exact ⟨this.2, this.1⟩
theorem OwnF.lt' (h : OwnF w B A n c l) : ∀ g, (Value.slice A n c).ownBlock = some g → g < w.heap.size ∧ B ≤ g := fun g hg => by
  have := World.ownsRow.lt h g hg
  exact ⟨this.2, this.1⟩
theorem OwnF.reads (h : OwnF w B A n c l) : ReadsF w w.heap.size A n l := by
  refine ⟨h.len, by rw [cellsF_length, h.len], fun hn => ?_⟩
  rcases h.2 with ⟨hv, h0⟩ | ⟨g, cap, cur, hv, hb, hg, _⟩
  · omega
  · simp only [Value.slice.injEq] at hv
    obtain ⟨rfl, _, rfl⟩ := hv
    refine ⟨g, 0, rfl, (Array.getElem?_eq_some_iff.1 hg).1, fun j u hu => ?_⟩
    have := World.ownsRow.cells h (g := g) rfl j u hu
    rw [add_plain] at this
    exact this
theorem OwnF.below (h : OwnF w B A n c l) {b : Nat} (hb : Below b w w') (hlt : ∀ g, A = some ⟨g, 0, none⟩ → g < b) : OwnF w' B A n c l := by
  refine ⟨h.1, ?_⟩
  rcases h.2 with hn | ⟨g, cap, cur, hv, hB, hg, r⟩
  · exact .inl hn
  · refine .inr ⟨g, cap, cur, hv, hB, ?_, r⟩
    simp only [Value.slice.injEq] at hv
    rw [hb.block g (hlt g hv.1)]
    exact hg
theorem OwnF.later (h : OwnF w B A n c l) (hb : Below w.heap.size w w') : OwnF w' B A n c l := h.below hb fun g hg => (h.lt g hg).1
end

theorem info_fld : (Try.prog.info? 40).map (fun i => (i.zero, i.size, i.bytes)) = some (some (.agg #[.int .i64 0, .string ⟨#[]⟩]), 2, 24) := by kernel_rfl

section
variable {P : Program} {w : World} {ops : Array Oper} {rest : List Oper} {o : Oper} {a : Act} {Q : Exit → Act → World → Prop} {K : Act → World → Prop} {E : Prop}
theorem op_appF (t : TypeId) (bytes : Nat) (z : Value) (s x : Operand) (ho : o.op = .call { callee := .builtin .append, args := #[s, x], argTypes := #[t, t] })
    (ht : P.underlying t = some (.slice 40)) (hinfo : (P.info? 40).map (fun i => (i.zero, i.size, i.bytes)) = some (some z, 2, bytes)) (hz : z.cells.size = 2)
    {B n c : Nat} {A : Option Addr} {xs : List (Int × ByteArray)} (hs : a.eval s = .slice A n c) (hown : OwnF w B A n c xs)
    {B2 m c2 : Nat} {A2 : Option Addr} {news : List (Int × ByteArray)} (hx : a.eval x = .slice A2 m c2) (hr : ReadsF w B2 A2 m news)
    {N : Nat} (hN : n + m = N) (h63 : N ≤ maxLen) (hbytes : N * bytes ≤ 140737488355328) (hB : B ≤ w.heap.size)
    (h : ∀ (A' : Option Addr) (c' : Nat) (w1 : World), OwnF w1 B A' N c' (xs ++ news) → w.grownBy w1 (Value.slice A n c).ownBlock →
      Below B w w1 → K (a.put o.dst (.slice A' N c')) w1) : o.wp P a w K Q := by
  subst hN
  obtain ⟨i, hi, hz0, hz1, hz2⟩ := info_parts hinfo
  have key : ∃ v' w', (Builtin.append_ #[t, t] o.type #[.slice A n c, .slice A2 m c2]).run P w = .ok v' w' ∧ w'.ownsRow B 40 2 v' (n + m) (cellsF xs ++ cellsF news) ∧ w.grownBy w' (Value.slice A n c).ownBlock := by
    rcases Nat.eq_zero_or_pos m with h0 | h0
    · subst h0
      have hn : news = [] := List.eq_nil_of_length_eq_zero hr.1
      subst hn
      refine ⟨.slice A n c, w, ?_, by rw [cellsF_nil, List.append_nil, Nat.add_zero]; exact hown, World.grownBy.refl w _⟩
      rcases hown.2 with ⟨hv, hn0⟩ | ⟨g, cap, cur, hv, _, _, hnc, _⟩
      · rw [hv]
        subst hn0
        rcases A2 with _ | ad <;> simp [Builtin.append_, run_underlying ht, sizeOf, typeInfo, hi, Builtin.lenOf, Builtin.firstCells, loadCells, loadCellsFrom]
      · simp only [Value.slice.injEq] at hv
        obtain ⟨rfl, _, rfl⟩ := hv
        rcases A2 with _ | ad <;> simp [Builtin.append_, run_underlying ht, sizeOf, typeInfo, hi, Builtin.lenOf, Builtin.firstCells, hnc, storeCells, loadCells, loadCellsFrom]
    · obtain ⟨b, off, rfl, _, hc⟩ := hr.2.2 (by omega)
      obtain ⟨v', w', hrun, h2, h3, _, h5⟩ := run_append_own_at (P := P) w B t o.type 40 i z 2 bytes ht hi hz0 hz1 hz2 hz (by omega) _ n (cellsF xs) hown ⟨b, off, none⟩ m c2 (cellsF news) (by rw [hr.2.1]; omega)
        (fun j u hu => by rw [add_plain]; exact hc j u hu) (cellsF_one news) h63 hbytes hB
      exact ⟨v', w', hrun, h2, h3⟩
  obtain ⟨v', w', hrun, h2, h3⟩ := key
  unfold Oper.wp execOp
  simp only [ho, resolve, invoke, builtin, Sem.run_bind, Sem.run_pure, Result.andThen_ok, List.map_toArray, List.map_cons, List.map_nil, hs, hx, hrun]
  obtain ⟨A', c', rfl⟩ : ∃ A' c', v' = .slice A' (n + m) c' := by
    rcases h2.2 with ⟨hv, hn0⟩ | ⟨g, cap, cur, hv, _⟩
    · exact ⟨none, 0, by rw [hv, hn0]⟩
    · exact ⟨_, _, hv⟩
  rw [← cellsF_append] at h2
  exact (h A' c' w' h2 h3 ((Below.refl B w).grown h3 hB fun k hk => (hown.lt' k hk).2))
theorem wpList_appF (t : TypeId) (bytes : Nat) (z : Value) (hg : o.guard = none) (s x : Operand) (ho : o.op = .call { callee := .builtin .append, args := #[s, x], argTypes := #[t, t] })
    (ht : P.underlying t = some (.slice 40)) (hinfo : (P.info? 40).map (fun i => (i.zero, i.size, i.bytes)) = some (some z, 2, bytes)) (hz : z.cells.size = 2)
    {B n c : Nat} {A : Option Addr} {xs : List (Int × ByteArray)} (hs : a.eval s = .slice A n c) (hown : OwnF w B A n c xs)
    {B2 m c2 : Nat} {A2 : Option Addr} {news : List (Int × ByteArray)} (hx : a.eval x = .slice A2 m c2) (hr : ReadsF w B2 A2 m news)
    {N : Nat} (hN : n + m = N) (h63 : N ≤ maxLen) (hbytes : N * bytes ≤ 140737488355328) (hB : B ≤ w.heap.size)
    (h : ∀ (A' : Option Addr) (c' : Nat) (w1 : World), OwnF w1 B A' N c' (xs ++ news) → w.grownBy w1 (Value.slice A n c).ownBlock →
      Below B w w1 → wpList P ops Q rest (a.put o.dst (.slice A' N c')) w1) : wpList P ops Q (o :: rest) a w :=
  wpList_plain hg fun _ hK => op_appF t bytes z s x ho ht hinfo hz hs hown hx hr hN h63 hbytes hB (fun A' c' w1 x0 x1 x2 => hK _ _ (h A' c' w1 x0 x1 x2))
theorem step_appF (t : TypeId) (bytes : Nat) (z : Value) (hg : o.guard = none) (s x : Operand) (ho : o.op = .call { callee := .builtin .append, args := #[s, x], argTypes := #[t, t] })
    (ht : P.underlying t = some (.slice 40)) (hinfo : (P.info? 40).map (fun i => (i.zero, i.size, i.bytes)) = some (some z, 2, bytes)) (hz : z.cells.size = 2)
    {B n c : Nat} {A : Option Addr} {xs : List (Int × ByteArray)} (hs : a.eval s = .slice A n c) (hown : OwnF w B A n c xs)
    {B2 m c2 : Nat} {A2 : Option Addr} {news : List (Int × ByteArray)} (hx : a.eval x = .slice A2 m c2) (hr : ReadsF w B2 A2 m news)
    {N : Nat} (hN : n + m = N) (h63 : N ≤ maxLen) (hbytes : N * bytes ≤ 140737488355328) (hB : B ≤ w.heap.size)
    (h : ∀ (A' : Option Addr) (c' : Nat) (w1 : World), OwnF w1 B A' N c' (xs ++ news) → w.grownBy w1 (Value.slice A n c).ownBlock →
      Below B w w1 → K (a.put o.dst (.slice A' N c')) w1) : if Region.wanted o (yielded ops a.tmps) = true then o.wp P a w K Q else E := by
  rw [if_pos (by simp [Region.wanted, hg])]
  exact op_appF t bytes z s x ho ht hinfo hz hs hown hx hr hN h63 hbytes hB h
end
theorem readsF_one (w : World) (t : Int) (x : ByteArray) (ty : TypeId) : ReadsF (w.alloc (.cells #[.int .i64 t, .string x] ty)) (w.heap.size + 1) (some ⟨w.heap.size, 0, none⟩) 1 [(t, x)] :=
  ⟨rfl, reads_lit w [.int .i64 t, .string x] ty 2 rfl⟩
end Go.Proofs.Ytkdkekmgnejhpaa
