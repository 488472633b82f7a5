/- Slices of pieces (three numbers) in memory. -/
import Derived.Test.YthckkmoafobmnaaPlanBase
import Derived.Deep.SlicePairs
import Derived.Laws.OwnMore
namespace Go.Proofs.Ythckkmoafobmnaa
open Go.RowKit Go.ChangeShapes Go.WideShapes

theorem pcs_nil : pieceCells [] = [] := rfl
theorem pcs_append (a b : List (Nat × Nat × Nat)) : pieceCells (a ++ b) = pieceCells a ++ pieceCells b := by simp [pieceCells]
theorem pcs_length (l : List (Nat × Nat × Nat)) : (pieceCells l).length = 3 * l.length := by
  induction l with
  | nil => rfl
  | cons f l ih =>
    show (_ :: _ :: _ :: pieceCells l).length = _
    simp only [List.length_cons, ih]
    omega
theorem pcs_tag (l : List (Nat × Nat × Nat)) (k : Nat) (f : Nat × Nat × Nat) (h : l[k]? = some f) : (pieceCells l)[k * 3]? = some (natV f.1) ∧ (pieceCells l)[k * 3 + 1]? = some (natV f.2.1) ∧ (pieceCells l)[k * 3 + 2]? = some (natV f.2.2) := by
  induction l generalizing k with
  | nil => simp at h
  | cons g l ih =>
    cases k with
    | zero =>
      simp at h
      subst h
      exact ⟨rfl, rfl, rfl⟩
    | succ k =>
      simp at h
      have := ih k h
      rw [show (k + 1) * 3 = k * 3 + 1 + 1 + 1 by omega, show k * 3 + 1 + 1 + 1 + 1 = k * 3 + 1 + 1 + 1 + 1 by omega]
      exact this
theorem pcs_one (l : List (Nat × Nat × Nat)) : ∀ u ∈ pieceCells l, u.oneCell' = true := by
  intro u hu
  obtain ⟨f, _, hf⟩ := List.mem_flatMap.1 hu
  simp at hf
  rcases hf with rfl | rfl | rfl <;> rfl

/-- the slice '.slice A n c' holds the fields l, in a block below B -/
def ReadsP (w : World) (B : Nat) (A : Option Addr) (n : Nat) (l : List (Nat × Nat × Nat)) : Prop := l.length = n ∧ Reads w B A (3 * n) (pieceCells l)
section
variable {w w' : World} {B B' n : Nat} {A : Option Addr} {l : List (Nat × Nat × Nat)}
theorem ReadsP.len (h : ReadsP w B A n l) : l.length = n := h.1
theorem ReadsP.none_ (w : World) (B : Nat) (A : Option Addr) : ReadsP w B A 0 [] := ⟨rfl, Reads.none_ _ _ _⟩
theorem ReadsP.below (h : ReadsP w B A n l) (hb : Below B w w') : ReadsP w' B A n l := ⟨h.1, h.2.below hb⟩
theorem ReadsP.more (h : ReadsP w B A n l) (hB : B ≤ B') : ReadsP w B' A n l := ⟨h.1, h.2.more hB⟩
end
/-- the slice lies at the head of a block of the call's own (or is nil) and holds the fields l -/
abbrev OwnP (w : World) (B : Nat) (A : Option Addr) (n c : Nat) (l : List (Nat × Nat × Nat)) : Prop := w.ownsRow B 48 3 (.slice A n c) n (pieceCells l)
section
variable {w w' : World} {B B' n c : Nat} {A : Option Addr} {l : List (Nat × Nat × Nat)}
theorem OwnP.nil (w : World) (B : Nat) : OwnP w B none 0 0 [] := World.ownsRow_nil w B _ 3
theorem OwnP.len (h : OwnP w B A n c l) : l.length = n := by
  have := h.1
  rw [pcs_length] at this
  omega
theorem OwnP.lt (h : OwnP w B A n c l) : ∀ g, A = some ⟨g, 0, none⟩ → g < w.heap.size ∧ B ≤ g := fun g hg => by
  have := World.ownsRow.lt h g (by rw [hg]; rfl)
  exact ⟨this.2, this.1⟩
theorem OwnP.lt' (h : OwnP w B A n c l) : ∀ g, (Value.slice A n c).ownBlock = some g → g < w.heap.size ∧ B ≤ g := fun g hg => by
  have := World.ownsRow.lt h g hg
  exact ⟨this.2, this.1⟩
theorem OwnP.reads (h : OwnP w B A n c l) : ReadsP w w.heap.size A n l := by
  refine ⟨h.len, by rw [pcs_length, h.len], fun hn => ?_⟩
  rcases h.2 with ⟨hv, h0⟩ | ⟨g, cap, cur, hv, hb, hg, _⟩
  · omega
  · simp only [Value.slice.injEq] at hv
    obtain ⟨rfl, _, rfl⟩ := hv
    refine ⟨g, 0, rfl, (Array.getElem?_eq_some_iff.1 hg).1, fun j u hu => ?_⟩
    have := World.ownsRow.cells h (g := g) rfl j u hu
    rw [add_plain] at this
    exact this
theorem OwnP.below (h : OwnP w B A n c l) {b : Nat} (hb : Below b w w') (hlt : ∀ g, A = some ⟨g, 0, none⟩ → g < b) : OwnP w' B A n c l := by
  refine ⟨h.1, ?_⟩
  rcases h.2 with hn | ⟨g, cap, cur, hv, hB, hg, r⟩
  · exact .inl hn
  · refine .inr ⟨g, cap, cur, hv, hB, ?_, r⟩
    simp only [Value.slice.injEq] at hv
    rw [hb.block g (hlt g hv.1)]
    exact hg
theorem OwnP.later (h : OwnP w B A n c l) (hb : Below w.heap.size w w') : OwnP w' B A n c l := h.below hb fun g hg => (h.lt g hg).1
end

theorem info_piece : (Try.prog.info? 48).map (fun i => (i.zero, i.size, i.bytes)) = some (some (.agg #[.int .i64 0, .int .i64 0, .int .i64 0]), 3, 24) := by kernel_rfl

section
variable {P : Program} {w : World} {ops : Array Oper} {rest : List Oper} {o : Oper} {a : Act} {Q : Exit → Act → World → Prop} {K : Act → World → Prop} {E : Prop}
theorem op_appP (t : TypeId) (bytes : Nat) (z : Value) (s x : Operand) (ho : o.op = .call { callee := .builtin .append, args := #[s, x], argTypes := #[t, t] })
    (ht : P.underlying t = some (.slice 48)) (hinfo : (P.info? 48).map (fun i => (i.zero, i.size, i.bytes)) = some (some z, 3, bytes)) (hz : z.cells.size = 3)
    {B n c : Nat} {A : Option Addr} {xs : List (Nat × Nat × Nat)} (hs : a.eval s = .slice A n c) (hown : OwnP w B A n c xs)
    {B2 m c2 : Nat} {A2 : Option Addr} {news : List (Nat × Nat × Nat)} (hx : a.eval x = .slice A2 m c2) (hr : ReadsP w B2 A2 m news)
    {N : Nat} (hN : n + m = N) (h63 : N ≤ maxLen) (hbytes : N * bytes ≤ 140737488355328) (hB : B ≤ w.heap.size)
    (h : ∀ (A' : Option Addr) (c' : Nat) (w1 : World), OwnP w1 B A' N c' (xs ++ news) → w.grownBy w1 (Value.slice A n c).ownBlock →
      Below B w w1 → K (a.put o.dst (.slice A' N c')) w1) : o.wp P a w K Q := by
  subst hN
  obtain ⟨i, hi, hz0, hz1, hz2⟩ := info_parts hinfo
  have key : ∃ v' w', (Builtin.append_ #[t, t] o.type #[.slice A n c, .slice A2 m c2]).run P w = .ok v' w' ∧ w'.ownsRow B 48 3 v' (n + m) (pieceCells xs ++ pieceCells news) ∧ w.grownBy w' (Value.slice A n c).ownBlock := by
    rcases Nat.eq_zero_or_pos m with h0 | h0
    · subst h0
      have hn : news = [] := List.eq_nil_of_length_eq_zero hr.1
      subst hn
      refine ⟨.slice A n c, w, ?_, by rw [pcs_nil, List.append_nil, Nat.add_zero]; exact hown, World.grownBy.refl w _⟩
      rcases hown.2 with ⟨hv, hn0⟩ | ⟨g, cap, cur, hv, _, _, hnc, _⟩
      · rw [hv]
        subst hn0
        rcases A2 with _ | ad <;> simp [Builtin.append_, run_underlying ht, sizeOf, typeInfo, hi, Builtin.lenOf, Builtin.firstCells, loadCells, loadCellsFrom]
      · simp only [Value.slice.injEq] at hv
        obtain ⟨rfl, _, rfl⟩ := hv
        rcases A2 with _ | ad <;> simp [Builtin.append_, run_underlying ht, sizeOf, typeInfo, hi, Builtin.lenOf, Builtin.firstCells, hnc, storeCells, loadCells, loadCellsFrom]
    · obtain ⟨b, off, rfl, _, hc⟩ := hr.2.2 (by omega)
      obtain ⟨v', w', hrun, h2, h3, _, h5⟩ := run_append_own_at (P := P) w B t o.type 48 i z 3 bytes ht hi hz0 hz1 hz2 hz (by omega) _ n (pieceCells xs) hown ⟨b, off, none⟩ m c2 (pieceCells news) (by rw [hr.2.1]; omega)
        (fun j u hu => by rw [add_plain]; exact hc j u hu) (pcs_one news) h63 hbytes hB
      exact ⟨v', w', hrun, h2, h3⟩
  obtain ⟨v', w', hrun, h2, h3⟩ := key
  unfold Oper.wp execOp
  simp only [ho, resolve, invoke, builtin, Sem.run_bind, Sem.run_pure, Result.andThen_ok, List.map_toArray, List.map_cons, List.map_nil, hs, hx, hrun]
  obtain ⟨A', c', rfl⟩ : ∃ A' c', v' = .slice A' (n + m) c' := by
    rcases h2.2 with ⟨hv, hn0⟩ | ⟨g, cap, cur, hv, _⟩
    · exact ⟨none, 0, by rw [hv, hn0]⟩
    · exact ⟨_, _, hv⟩
  rw [← pcs_append] at h2
  exact (h A' c' w' h2 h3 ((Below.refl B w).grown h3 hB fun k hk => (hown.lt' k hk).2))
theorem wpList_appP (t : TypeId) (bytes : Nat) (z : Value) (hg : o.guard = none) (s x : Operand) (ho : o.op = .call { callee := .builtin .append, args := #[s, x], argTypes := #[t, t] })
    (ht : P.underlying t = some (.slice 48)) (hinfo : (P.info? 48).map (fun i => (i.zero, i.size, i.bytes)) = some (some z, 3, bytes)) (hz : z.cells.size = 3)
    {B n c : Nat} {A : Option Addr} {xs : List (Nat × Nat × Nat)} (hs : a.eval s = .slice A n c) (hown : OwnP w B A n c xs)
    {B2 m c2 : Nat} {A2 : Option Addr} {news : List (Nat × Nat × Nat)} (hx : a.eval x = .slice A2 m c2) (hr : ReadsP w B2 A2 m news)
    {N : Nat} (hN : n + m = N) (h63 : N ≤ maxLen) (hbytes : N * bytes ≤ 140737488355328) (hB : B ≤ w.heap.size)
    (h : ∀ (A' : Option Addr) (c' : Nat) (w1 : World), OwnP w1 B A' N c' (xs ++ news) → w.grownBy w1 (Value.slice A n c).ownBlock →
      Below B w w1 → wpList P ops Q rest (a.put o.dst (.slice A' N c')) w1) : wpList P ops Q (o :: rest) a w :=
  wpList_plain hg fun _ hK => op_appP t bytes z s x ho ht hinfo hz hs hown hx hr hN h63 hbytes hB (fun A' c' w1 x0 x1 x2 => hK _ _ (h A' c' w1 x0 x1 x2))
theorem step_appP (t : TypeId) (bytes : Nat) (z : Value) (hg : o.guard = none) (s x : Operand) (ho : o.op = .call { callee := .builtin .append, args := #[s, x], argTypes := #[t, t] })
    (ht : P.underlying t = some (.slice 48)) (hinfo : (P.info? 48).map (fun i => (i.zero, i.size, i.bytes)) = some (some z, 3, bytes)) (hz : z.cells.size = 3)
    {B n c : Nat} {A : Option Addr} {xs : List (Nat × Nat × Nat)} (hs : a.eval s = .slice A n c) (hown : OwnP w B A n c xs)
    {B2 m c2 : Nat} {A2 : Option Addr} {news : List (Nat × Nat × Nat)} (hx : a.eval x = .slice A2 m c2) (hr : ReadsP w B2 A2 m news)
    {N : Nat} (hN : n + m = N) (h63 : N ≤ maxLen) (hbytes : N * bytes ≤ 140737488355328) (hB : B ≤ w.heap.size)
    (h : ∀ (A' : Option Addr) (c' : Nat) (w1 : World), OwnP w1 B A' N c' (xs ++ news) → w.grownBy w1 (Value.slice A n c).ownBlock →
      Below B w w1 → K (a.put o.dst (.slice A' N c')) w1) : if Region.wanted o (yielded ops a.tmps) = true then o.wp P a w K Q else E := by
  rw [if_pos (by simp [Region.wanted, hg])]
  exact op_appP t bytes z s x ho ht hinfo hz hs hown hx hr hN h63 hbytes hB h
end
theorem readsP_one (w : World) (x y z : Nat) (ty : TypeId) : ReadsP (w.alloc (.cells #[natV x, natV y, natV z] ty)) (w.heap.size + 1) (some ⟨w.heap.size, 0, none⟩) 1 [(x, y, z)] :=
  ⟨rfl, reads_lit w [natV x, natV y, natV z] ty 3 rfl⟩
theorem OwnP.set_ {w : World} {B n c g : Nat} {l : List (Nat × Nat × Nat)} (h : OwnP w B (some ⟨g, 0, none⟩) n c l) {k : Nat} {p : Nat × Nat × Nat} (hp : l[k]? = some p) (q : Nat) : OwnP (w.setCell ⟨g, k * 3 + 2, none⟩ (natV q)) B (some ⟨g, 0, none⟩) n c (l.set k (p.1, p.2.1, q)) := by
  have h1 := (World.ownsRow.stored h (k * 3 + 2) (natV q)).1
  have e : (pieceCells l).set (k * 3 + 2) (natV q) = pieceCells (l.set k (p.1, p.2.1, q)) := by
    clear h h1
    induction l generalizing k with
    | nil => simp at hp
    | cons g l ih =>
      cases k with
      | zero =>
        simp at hp
        subst hp
        rfl
      | succ k =>
        simp at hp
        have := ih hp
        rw [show (k + 1) * 3 + 2 = k * 3 + 2 + 1 + 1 + 1 by omega]
        show natV _ :: natV _ :: natV _ :: (pieceCells l).set (k * 3 + 2) (natV q) = _
        rw [this]
        rfl
  rw [e] at h1
  exact h1
end Go.Proofs.Ythckkmoafobmnaa
