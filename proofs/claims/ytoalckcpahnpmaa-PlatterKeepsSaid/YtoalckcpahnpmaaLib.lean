/-
  Words of my own for memory, shared by all walks of this seat: a slice that reads as a list of cells, and how a law's row is closed from a contract that ends in 'Below'. No statement of the program stands here.
-/
import Derived.Test.YtoalckcpahnpmaaRows
import Derived.WalkKit
import Derived.WalkSpells
import Derived.WalkLawsBesides
import Derived.ProofKit
import Derived.OpenShut
import Derived.SizedLaws
import Derived.Handy
import Derived.Lib.Hide
import Derived.Maps.AppendAt
namespace Go.Proofs.Ytoalckcpahnpmaa
open Go.RowKit Go.ChangeShapes Go.WideShapes

/-- The slice '.slice A n c' holds the cells xs (one cell an element), in a block below B. -/
def Reads (w : World) (B : Nat) (A : Option Addr) (n : Nat) (xs : List Value) : Prop :=
  xs.length = n ∧ (0 < n → ∃ b o, A = some ⟨b, o, none⟩ ∧ b < B ∧ ∀ j u, xs[j]? = some u → w.cell? ⟨b, o + j, none⟩ = some u)

section
variable {w w' : World} {B B' n : Nat} {A : Option Addr} {xs : List Value}
theorem Reads.none_ (w : World) (B : Nat) (A : Option Addr) : Reads w B A 0 [] := ⟨rfl, fun h => absurd h (by omega)⟩
theorem Reads.len (h : Reads w B A n xs) : xs.length = n := h.1
theorem Reads.at_ {k : Nat} (h : Reads w B A n xs) (hk : k < n) : ∃ b o u, A = some ⟨b, o, none⟩ ∧ b < B ∧ xs[k]? = some u ∧ w.cell? ⟨b, o + k, none⟩ = some u := by
  obtain ⟨b, o, e, hb, hc⟩ := h.2 (by omega)
  have hl : k < xs.length := by have := h.1; omega
  exact ⟨b, o, xs[k], e, hb, List.getElem?_eq_getElem hl, hc k _ (List.getElem?_eq_getElem hl)⟩
theorem Reads.keep (h : Reads w B A n xs) (hk : ∀ p : Addr, p.block < B → w'.cell? p = w.cell? p) : Reads w' B A n xs :=
  ⟨h.1, fun hn => by
    obtain ⟨b, o, e, hb, hc⟩ := h.2 hn
    exact ⟨b, o, e, hb, fun j u hu => (hk _ hb).trans (hc j u hu)⟩⟩
theorem Reads.more (h : Reads w B A n xs) (hB : B ≤ B') : Reads w B' A n xs :=
  ⟨h.1, fun hn => by
    obtain ⟨b, o, e, hb, hc⟩ := h.2 hn
    exact ⟨b, o, e, by omega, hc⟩⟩
theorem Reads.below (h : Reads w B A n xs) (hb : Below B w w') : Reads w' B A n xs := h.keep fun _ hp => hb.cell hp
theorem Reads.drew (h : Reads w B A n xs) : Reads w.drew B A n xs := h
theorem Reads.alloc (h : Reads w B A n xs) (hB : B ≤ w.heap.size) (o : Obj) : Reads (w.alloc o) B A n xs := h.keep fun p hp => World.cell?_alloc_lt w o p (by omega)
theorem Reads.drop_ (h : Reads w B A n xs) {b o k : Nat} (hA : A = some ⟨b, o, none⟩) (hk : k ≤ n) : Reads w B (some ⟨b, o + k, none⟩) (n - k) (xs.drop k) := by
  refine ⟨by rw [List.length_drop, h.1], fun hn => ?_⟩
  obtain ⟨b', o', e, hb, hc⟩ := h.2 (by omega)
  rw [hA] at e
  cases e
  refine ⟨b, o + k, rfl, hb, fun j u hu => ?_⟩
  rw [List.getElem?_drop] at hu
  rw [Nat.add_assoc]
  exact hc _ u hu
theorem Reads.take_ (h : Reads w B A n xs) {k : Nat} (hk : k ≤ n) : Reads w B A k (xs.take k) := by
  refine ⟨by rw [List.length_take, h.1, Nat.min_eq_left hk], fun hn => ?_⟩
  obtain ⟨b', o', e, hb, hc⟩ := h.2 (by omega)
  refine ⟨b', o', e, hb, fun j u hu => hc j u ?_⟩
  rw [List.getElem?_take] at hu
  split at hu
  · exact hu
  · cases hu
theorem Reads.setCell (h : Reads w B A n xs) {p : Addr} (hB : B ≤ p.block) (u : Value) : Reads (w.setCell p u) B A n xs :=
  h.keep fun q hq => World.cell?_setCell_other w p q u (fun e => by subst e; omega)
end

/-- the slice '.slice A n c' lies at the head of a block of the call's own, from B on (or is nil), and holds xs -/
abbrev Own (w : World) (B : Nat) (e : TypeId) (A : Option Addr) (n c : Nat) (xs : List Value) : Prop := w.ownsRow B e 1 (.slice A n c) n xs
/-! ### A row of cells in a block of the call's own -/
def Row (w : World) (g : Nat) (xs : List Value) : Prop := g < w.heap.size ∧ ∀ j u, xs[j]? = some u → w.cell? ⟨g, j, none⟩ = some u ∧ w.frozen? ⟨g, j, none⟩ = false
section
variable {w w' : World} {B g : Nat} {xs : List Value}
theorem Row.lt (h : Row w g xs) : g < w.heap.size := h.1
theorem Row.cell (h : Row w g xs) {j : Nat} {u : Value} (hj : xs[j]? = some u) : w.cell? ⟨g, j, none⟩ = some u := (h.2 j u hj).1
theorem Row.free (h : Row w g xs) {j : Nat} (hj : j < xs.length) : w.frozen? ⟨g, j, none⟩ = false := (h.2 j _ (List.getElem?_eq_getElem hj)).2
theorem Row.below (h : Row w g xs) (hb : Below B w w') (hg : g < B) : Row w' g xs :=
  ⟨Nat.lt_of_lt_of_le h.1 hb.size, fun j u hj => ⟨(hb.cell (p := ⟨g, j, none⟩) hg).trans (h.2 j u hj).1, (hb.frozen (p := ⟨g, j, none⟩) hg).trans (h.2 j u hj).2⟩⟩
theorem Row.drew (h : Row w g xs) : Row w.drew g xs := h
theorem Row.alloc (h : Row w g xs) (o : Obj) : Row (w.alloc o) g xs := h.below ((Below.refl w.heap.size w).alloc (Nat.le_refl _) o) h.1
theorem Row.far (h : Row w g xs) {p : Addr} (hp : p.block ≠ g) (u : Value) : Row (w.setCell p u) g xs :=
  ⟨by simpa [World.setCell] using h.1, fun j v hj => by
    have e := Below.heap_setCell w p u g (Ne.symm hp)
    exact ⟨(World.cell?_of_block (w := w) (a := ⟨g, j, none⟩) e).trans (h.2 j v hj).1, (World.frozen?_of_block (w := w) (a := ⟨g, j, none⟩) e).trans (h.2 j v hj).2⟩⟩
theorem Row.set_ (h : Row w g xs) (i : Nat) (u : Value) : Row (w.setCell ⟨g, i, none⟩ u) g (xs.set i u) := by
  refine ⟨by simpa [World.setCell] using h.1, fun j v hj => ?_⟩
  have hjl : j < xs.length := by
    have := (List.getElem?_eq_some_iff.1 hj).1
    simpa using this
  have hfr : (w.setCell ⟨g, i, none⟩ u).frozen? ⟨g, j, none⟩ = w.frozen? ⟨g, j, none⟩ := by simp
  refine ⟨?_, hfr.trans (h.free hjl)⟩
  by_cases hij : i = j
  · subst hij
    have hv : u = v := by simpa [List.getElem?_set, hjl] using hj
    subst hv
    have hc := h.cell (List.getElem?_eq_getElem hjl)
    exact World.cell?_setCell_same w _ _ hc
  · rw [List.getElem?_set_ne hij] at hj
    rw [World.cell?_setCell_other w ⟨g, i, none⟩ ⟨g, j, none⟩ u (by simp <;> omega)]
    exact h.cell hj
end

/-- the bytes of a text -/
abbrev bsOf (s : ByteArray) : List UInt8 := s.data.toList
/-- a byte, as a cell holds it -/
def byteV (b : UInt8) : Value := .int .u8 (b.toNat : Int)

section
variable {P : Program} {w : World} {ops : Array Oper} {rest : List Oper} {o : Oper} {a : Act} {Q : Exit → Act → World → Prop} {K : Act → World → Prop} {E : Prop}
/-- '[]byte(s)': a new row. -/
theorem op_strbytes (src dst e : TypeId) (x : Operand) (ho : o.op = .convert src dst x) (hs : P.underlying src = some .string) (hd : P.underlying dst = some (.slice e))
    (he : P.underlying e = some (.int .u8)) (s : ByteArray) (hx : a.eval x = .string s)
    (h : ∀ (w1 : World) (cap : Nat), w.heap.size < w1.heap.size → Below w.heap.size w w1 → Row w1 w.heap.size (s.data.toList.map byteV) → s.size ≤ cap →
      K (a.put o.dst (.slice (some ⟨w.heap.size, 0, none⟩) s.size cap)) w1) : o.wp P a w K Q := by
  have hr := run_bytes_of_string (P := P) w src dst e s hs hd he
  unfold Oper.wp
  simp [execOp, ho, hx, hr, Result.andThen]
  refine (h _ _ (by simp) ⟨rfl, rfl, rfl, by simp, fun k hk => Below.heap_alloc w.drew _ k hk⟩ ⟨by simp, fun j u hj => ?_⟩ (grownCap_ge w s.size 0 e))
  have hj' : j < s.data.size := by
    have := (List.getElem?_eq_some_iff.1 hj).1
    simpa using this
  have e1 := bytesRow_at s (grownCap w s.size 0 e) j hj'
  have e2 := World.cell?_alloc_mark w.drew (bytesRow s (grownCap w s.size 0 e)) e ((bytesRow s (grownCap w s.size 0 e)).size, (bytesRow s (grownCap w s.size 0 e)).size + 1) j
  have e3 := World.frozen?_alloc_mark w.drew (bytesRow s (grownCap w s.size 0 e)) e (bytesRow s (grownCap w s.size 0 e)).size ((bytesRow s (grownCap w s.size 0 e)).size + 1) j
  have e4 : j < (bytesRow s (grownCap w s.size 0 e)).size := by
    have : (bytesRow s (grownCap w s.size 0 e)).size = s.data.size + (grownCap w s.size 0 e - s.size) := by simp [bytesRow]
    omega
  refine ⟨?_, ?_⟩
  · have e5 : u = .int .u8 (s.data[j].toNat : Int) := by
      simp [List.getElem?_map, List.getElem?_eq_getElem (show j < s.data.toList.length by simpa using hj')] at hj
      exact hj.symm
    rw [e5, ← e1]
    exact e2
  · have e6 := e3
    simp at e6 ⊢
    rw [e6]
    simp; omega
theorem wpList_strbytes (src dst e : TypeId) (hg : o.guard = none) (x : Operand) (ho : o.op = .convert src dst x) (hs : P.underlying src = some .string) (hd : P.underlying dst = some (.slice e))
    (he : P.underlying e = some (.int .u8)) (s : ByteArray) (hx : a.eval x = .string s)
    (h : ∀ (w1 : World) (cap : Nat), w.heap.size < w1.heap.size → Below w.heap.size w w1 → Row w1 w.heap.size (s.data.toList.map byteV) → s.size ≤ cap →
      wpList P ops Q rest (a.put o.dst (.slice (some ⟨w.heap.size, 0, none⟩) s.size cap)) w1) : wpList P ops Q (o :: rest) a w :=
  wpList_plain hg fun _ hK => op_strbytes src dst e x ho hs hd he s hx (fun w1 cap x0 x1 x2 x3 => hK _ _ (h w1 cap x0 x1 x2 x3))
theorem step_strbytes (src dst e : TypeId) (hg : o.guard = none) (x : Operand) (ho : o.op = .convert src dst x) (hs : P.underlying src = some .string) (hd : P.underlying dst = some (.slice e))
    (he : P.underlying e = some (.int .u8)) (s : ByteArray) (hx : a.eval x = .string s)
    (h : ∀ (w1 : World) (cap : Nat), w.heap.size < w1.heap.size → Below w.heap.size w w1 → Row w1 w.heap.size (s.data.toList.map byteV) → s.size ≤ cap →
      K (a.put o.dst (.slice (some ⟨w.heap.size, 0, none⟩) s.size cap)) w1) : if Region.wanted o (yielded ops a.tmps) = true then o.wp P a w K Q else E := by
  rw [if_pos (by simp [Region.wanted, hg])]
  exact op_strbytes src dst e x ho hs hd he s hx h
end

/-- 'string(b)' over a row of bytes. -/
theorem run_row_string {P : Program} (src dst e : TypeId) {w : World} {g n : Nat} {l : List UInt8} (hrow : Row w g (l.map byteV)) (hn : l.length = n) (hs : P.underlying src = some (.slice e)) (he : P.underlying e = some (.int .u8))
    (hd : P.underlying dst = some .string) (cap : Nat) : (convert src dst (.slice (some ⟨g, 0, none⟩) n cap)).run P w = .ok (.string ⟨l.toArray⟩) w := by
  subst hn
  exact run_convert_bytes_back (P := P) w src dst e ⟨g, 0, none⟩ cap l hs he hd (fun j hj => by
    rw [add_plain]
    simp only [Nat.zero_add]
    exact hrow.cell (by rw [List.getElem?_map, List.getElem?_eq_getElem hj]; rfl))

theorem Row.setCells_ {g : Nat} : ∀ (vs : List Value) (o : Nat) {w : World} {xs : List Value}, Row w g xs → o + vs.length ≤ xs.length → Row (w.setCells g o vs) g (xs.take o ++ vs ++ xs.drop (o + vs.length))
  | [], o, w, xs, h, _ => by simpa [World.setCells] using h
  | v :: vs, o, w, xs, h, hl => by
    have h1 := Row.setCells_ vs (o + 1) (h.set_ o v) (by simp at hl ⊢; omega)
    have e : (xs.set o v).take (o + 1) ++ vs ++ (xs.set o v).drop (o + 1 + vs.length) = xs.take o ++ (v :: vs) ++ xs.drop (o + (v :: vs).length) := list_seg_step xs o v vs (by simpa using hl)
    rw [e] at h1
    exact h1
theorem setCells_size {g : Nat} : ∀ (vs : List Value) (o : Nat) (w : World), (w.setCells g o vs).heap.size = w.heap.size
  | [], _, _ => rfl
  | v :: vs, o, w => by
    show ((w.setCell ⟨g, o, none⟩ v).setCells g (o + 1) vs).heap.size = _
    rw [setCells_size vs]
    simp [World.setCell]
theorem below_setCells {B g : Nat} (hB : B ≤ g) {w0 : World} : ∀ (vs : List Value) (o : Nat) (w : World), Below B w0 w → Below B w0 (w.setCells g o vs)
  | [], _, _, h => h
  | v :: vs, o, _, h => below_setCells hB vs (o + 1) _ (h.setCell (p := ⟨g, o, none⟩) hB v)

section
variable {P : Program} {w : World} {ops : Array Oper} {rest : List Oper} {o : Oper} {a : Act} {Q : Exit → Act → World → Prop} {K : Act → World → Prop} {E : Prop}
/-- copy(b, s), s a text, b a row of bytes of the call's own -/
theorem op_copystr (dT sT e : TypeId) (d s : Operand) (ho : o.op = .call { callee := .builtin .copy, args := #[d, s], argTypes := #[dT, sT] })
    (hu : P.underlying dT = some (.slice e)) (hsz : (P.info? e).map (·.size) = some 1)
    {g n c : Nat} {xs : List Value} {str : ByteArray} (hd : a.eval d = .slice (some ⟨g, 0, none⟩) n c) (hs : a.eval s = .string str) (hrow : Row w g xs) (hn : xs.length = n)
    (B : Nat) (hB : B ≤ g)
    (h : ∀ w1, w.heap.size ≤ w1.heap.size → Below B w w1 → Row w1 g (((bsOf str).take n).map byteV ++ xs.drop (bsOf str).length) → K (a.put o.dst (goInt (Nat.min str.size n))) w1) : o.wp P a w K Q := by
  obtain ⟨i, hi, hi1⟩ := Option.map_eq_some_iff.1 hsz
  have hlen : (bsOf str).length = str.size := by rw [Array.length_toList]; rfl
  have hcs : (((bsOf str).take n).map byteV).length = Nat.min str.size n := by
    simp only [List.length_map, List.length_take, hlen]
    exact Nat.min_comm _ _
  have hst := run_storeCells_cells (P := P) g 0 (((bsOf str).take n).map byteV) 0 w (fun j hj => by
      have hjx : j < xs.length := by rw [hn]; rw [hcs] at hj; exact Nat.lt_of_lt_of_le hj (Nat.min_le_right _ _)
      simp only [Nat.zero_add]
      rw [hrow.cell (List.getElem?_eq_getElem hjx)]
      rfl) (fun j hj => by
      have hjx : j < xs.length := by rw [hn]; rw [hcs] at hj; exact Nat.lt_of_lt_of_le hj (Nat.min_le_right _ _)
      simp only [Nat.zero_add]
      exact hrow.free hjx) (fun v hv => by
      obtain ⟨b, _, rfl⟩ := List.mem_map.1 hv
      rfl)
  have hr : (Builtin.copy_ #[dT, sT] o.type #[.slice (some ⟨g, 0, none⟩) n c, .string str]).run P w = .ok (goInt (Nat.min str.size n)) (w.setCells g 0 (((bsOf str).take n).map byteV)) := by
    simp only [Nat.zero_add] at hst
    simp [Builtin.copy_, run_underlying hu, Builtin.lenOf, Builtin.firstCells, sizeOf, typeInfo, hi]
    have e1 : List.take (str.size.min n) (List.map (fun b : UInt8 => Value.int IntKind.u8 b.toNat) str.data.toList) = ((bsOf str).take n).map byteV := by
      rw [← List.map_take]
      show ((bsOf str).take (str.size.min n)).map byteV = _
      rw [← hlen]
      show ((bsOf str).take (min (bsOf str).length n)).map byteV = _
      rw [Nat.min_comm, ← List.take_eq_take_min]
    rw [e1, hst, List.map_take]
    rfl
  unfold Oper.wp execOp
  simp only [ho, resolve, invoke, builtin, Sem.run_bind, Sem.run_pure, Result.andThen_ok, List.map_toArray, List.map_cons, List.map_nil, hd, hs, hr]
  refine (h _ (Nat.le_of_eq (setCells_size _ _ _).symm) (below_setCells hB _ _ _ (Below.refl _ _)) ?_)
  have h1 := hrow.setCells_ (((bsOf str).take n).map byteV) 0 (by rw [Nat.zero_add, hcs, hn]; exact Nat.min_le_right _ _)
  rw [List.take_zero, List.nil_append, Nat.zero_add, hcs] at h1
  have e : xs.drop (Nat.min str.size n) = xs.drop (bsOf str).length := by
    rw [hlen]
    by_cases hm : str.size ≤ n
    · rw [show Nat.min str.size n = str.size from Nat.min_eq_left hm]
    · rw [show Nat.min str.size n = n from Nat.min_eq_right (by omega), List.drop_of_length_le (by omega), List.drop_of_length_le (by omega)]
  rw [← e]
  exact h1
theorem wpList_copystr (dT sT e : TypeId) (hg : o.guard = none) (d s : Operand) (ho : o.op = .call { callee := .builtin .copy, args := #[d, s], argTypes := #[dT, sT] })
    (hu : P.underlying dT = some (.slice e)) (hsz : (P.info? e).map (·.size) = some 1)
    {g n c : Nat} {xs : List Value} {str : ByteArray} (hd : a.eval d = .slice (some ⟨g, 0, none⟩) n c) (hs : a.eval s = .string str) (hrow : Row w g xs) (hn : xs.length = n)
    (B : Nat) (hB : B ≤ g)
    (h : ∀ w1, w.heap.size ≤ w1.heap.size → Below B w w1 → Row w1 g (((bsOf str).take n).map byteV ++ xs.drop (bsOf str).length) → wpList P ops Q rest (a.put o.dst (goInt (Nat.min str.size n))) w1) : wpList P ops Q (o :: rest) a w :=
  wpList_plain hg fun _ hK => op_copystr dT sT e d s ho hu hsz hd hs hrow hn B hB (fun w1 x0 x1 x2 => hK _ _ (h w1 x0 x1 x2))
theorem step_copystr (dT sT e : TypeId) (hg : o.guard = none) (d s : Operand) (ho : o.op = .call { callee := .builtin .copy, args := #[d, s], argTypes := #[dT, sT] })
    (hu : P.underlying dT = some (.slice e)) (hsz : (P.info? e).map (·.size) = some 1)
    {g n c : Nat} {xs : List Value} {str : ByteArray} (hd : a.eval d = .slice (some ⟨g, 0, none⟩) n c) (hs : a.eval s = .string str) (hrow : Row w g xs) (hn : xs.length = n)
    (B : Nat) (hB : B ≤ g)
    (h : ∀ w1, w.heap.size ≤ w1.heap.size → Below B w w1 → Row w1 g (((bsOf str).take n).map byteV ++ xs.drop (bsOf str).length) → K (a.put o.dst (goInt (Nat.min str.size n))) w1) : if Region.wanted o (yielded ops a.tmps) = true then o.wp P a w K Q else E := by
  rw [if_pos (by simp [Region.wanted, hg])]
  exact op_copystr dT sT e d s ho hu hsz hd hs hrow hn B hB h
end

section
variable {P : Program} {w : World} {ops : Array Oper} {rest : List Oper} {o : Oper} {a : Act} {Q : Exit → Act → World → Prop} {K : Act → World → Prop} {E : Prop}
/-- make([]T, n), elements of one cell -/
theorem op_mk (t e : TypeId) (z : Value) (bytes : Nat) (l c : Operand) (ho : o.op = .makeSlice t l c)
    (ht : P.underlying t = some (.slice e)) (hinfo : (P.info? e).map (fun i => (i.zero, i.size, i.bytes)) = some (some z, 1, bytes)) (hz : z.cells = #[z])
    {n : Nat} (hl : a.eval l = .int .i64 (n : Int)) (hc : a.eval c = .int .i64 (n : Int)) (hby : bytes * n ≤ 281474976710656) (h63 : n ≤ maxLen)
    (h : ∀ w1, w.heap.size < w1.heap.size → Below w.heap.size w w1 → Row w1 w.heap.size (List.replicate n z) → Own w1 w.heap.size e (some ⟨w.heap.size, 0, none⟩) n n (List.replicate n z) →
      K (a.put o.dst (.slice (some ⟨w.heap.size, 0, none⟩) n n)) w1) : o.wp P a w K Q := by
  obtain ⟨i, hi, hz0, hz1, hz2⟩ := info_parts hinfo
  subst hz2
  obtain ⟨w', hrun, r1, r2⟩ := run_make_full (P := P) w w.heap.size t e i z 1 ht hi hz0 hz1 .i64 .i64 n hby h63 (Nat.le_refl _)
  rw [hz, Nat.mul_one, toList_madeCells_one] at r1
  have hsize : w'.heap.size = w.heap.size + 1 := by
    have h63' : (n : Int) ≤ 9223372036854775807 := by have h := h63; simp [maxLen] at h; omega
    have hb' : (i.bytes : Int) * (n : Int) ≤ 281474976710656 := by
      have h : ((i.bytes * n : Nat) : Int) ≤ 281474976710656 := by omega
      rwa [Int.natCast_mul] at h
    have hr := run_make (P := P) w t e i z ht hi hz0 .i64 .i64 n n (by omega) (Int.le_refl _) hb' h63'
    rw [hrun] at hr
    injection hr with _ h2
    rw [h2]
    simp
  unfold Oper.wp
  simp [execOp, ho, hl, hc, hrun, Result.andThen]
  refine (h w' (by omega) ⟨r2.os, r2.tape, r2.output, r2.size, fun k hk => r2.block k hk (by simp)⟩ ⟨by omega, fun j u hj => ?_⟩ r1)
  have hjn : j < n := by
    have := (List.getElem?_eq_some_iff.1 hj).1
    simpa using this
  exact ⟨(r1.cellAt j (by omega)).trans hj, r1.frozenAt j⟩
theorem wpList_mk (t e : TypeId) (z : Value) (bytes : Nat) (hg : o.guard = none) (l c : Operand) (ho : o.op = .makeSlice t l c)
    (ht : P.underlying t = some (.slice e)) (hinfo : (P.info? e).map (fun i => (i.zero, i.size, i.bytes)) = some (some z, 1, bytes)) (hz : z.cells = #[z])
    {n : Nat} (hl : a.eval l = .int .i64 (n : Int)) (hc : a.eval c = .int .i64 (n : Int)) (hby : bytes * n ≤ 281474976710656) (h63 : n ≤ maxLen)
    (h : ∀ w1, w.heap.size < w1.heap.size → Below w.heap.size w w1 → Row w1 w.heap.size (List.replicate n z) → Own w1 w.heap.size e (some ⟨w.heap.size, 0, none⟩) n n (List.replicate n z) →
      wpList P ops Q rest (a.put o.dst (.slice (some ⟨w.heap.size, 0, none⟩) n n)) w1) : wpList P ops Q (o :: rest) a w :=
  wpList_plain hg fun _ hK => op_mk t e z bytes l c ho ht hinfo hz hl hc hby h63 (fun w1 x0 x1 x2 x3 => hK _ _ (h w1 x0 x1 x2 x3))
/-- .. behind a guard that says yes -/
theorem wpList_mkG (t e : TypeId) (z : Value) (bytes : Nat) (hw : Region.wanted o (yielded ops a.tmps) = true) (l c : Operand) (ho : o.op = .makeSlice t l c)
    (ht : P.underlying t = some (.slice e)) (hinfo : (P.info? e).map (fun i => (i.zero, i.size, i.bytes)) = some (some z, 1, bytes)) (hz : z.cells = #[z])
    {n : Nat} (hl : a.eval l = .int .i64 (n : Int)) (hc : a.eval c = .int .i64 (n : Int)) (hby : bytes * n ≤ 281474976710656) (h63 : n ≤ maxLen)
    (h : ∀ w1, w.heap.size < w1.heap.size → Below w.heap.size w w1 → Row w1 w.heap.size (List.replicate n z) → Own w1 w.heap.size e (some ⟨w.heap.size, 0, none⟩) n n (List.replicate n z) →
      wpList P ops Q rest (a.put o.dst (.slice (some ⟨w.heap.size, 0, none⟩) n n)) w1) : wpList P ops Q (o :: rest) a w :=
  BigFrame.wpList_want hw fun _ hK => op_mk t e z bytes l c ho ht hinfo hz hl hc hby h63 (fun w1 x0 x1 x2 x3 => hK _ _ (h w1 x0 x1 x2 x3))
theorem step_mk (t e : TypeId) (z : Value) (bytes : Nat) (hg : o.guard = none) (l c : Operand) (ho : o.op = .makeSlice t l c)
    (ht : P.underlying t = some (.slice e)) (hinfo : (P.info? e).map (fun i => (i.zero, i.size, i.bytes)) = some (some z, 1, bytes)) (hz : z.cells = #[z])
    {n : Nat} (hl : a.eval l = .int .i64 (n : Int)) (hc : a.eval c = .int .i64 (n : Int)) (hby : bytes * n ≤ 281474976710656) (h63 : n ≤ maxLen)
    (h : ∀ w1, w.heap.size < w1.heap.size → Below w.heap.size w w1 → Row w1 w.heap.size (List.replicate n z) → Own w1 w.heap.size e (some ⟨w.heap.size, 0, none⟩) n n (List.replicate n z) →
      K (a.put o.dst (.slice (some ⟨w.heap.size, 0, none⟩) n n)) w1) : if Region.wanted o (yielded ops a.tmps) = true then o.wp P a w K Q else E := by
  rw [if_pos (by simp [Region.wanted, hg])]
  exact op_mk t e z bytes l c ho ht hinfo hz hl hc hby h63 h
end

/-! ### append, and what it owns -/
theorem below_app {B : Nat} {w w1 w2 : World} {A : Option Addr} {n c : Nat} (h : Below B w w1) (hg : w1.grownBy w2 (Value.slice A n c).ownBlock) (hB : B ≤ w1.heap.size) (hA : ∀ b, A = some b → B ≤ b.block) : Below B w w2 :=
  h.grown hg hB fun k hk => by
    cases A with
    | none => cases hk
    | some b =>
      have := hA b rfl
      simp only [Value.ownBlock, Option.some.injEq] at hk
      omega
/-- the whole call so far, then: a new block; a call -/
theorem below_new {w w1 : World} (h : Below w.heap.size w w1) (o : Obj) : Below w.heap.size w (w1.alloc o) := h.alloc h.size o
theorem below_call {w w1 w2 : World} (h : Below w.heap.size w w1) (hb : Below w1.heap.size w1 w2) : Below w.heap.size w w2 := h.trans (hb.mono h.size)
/-- a call's own 'Below', under an elder one -/
theorem below_then {B : Nat} {w w1 w2 : World} (h : Below B w w1) (hb : Below w1.heap.size w1 w2) (hB : B ≤ w.heap.size) : Below B w w2 :=
  h.trans (hb.mono (Nat.le_trans hB h.size))
theorem strs_oneCell (ss : List ByteArray) : ∀ u ∈ ss.map Value.string, u.oneCell' = true := by
  intro u hu
  obtain ⟨s, _, rfl⟩ := List.mem_map.1 hu
  rfl
section
variable {w w' : World} {B B' n c : Nat} {e : TypeId} {A : Option Addr} {xs : List Value}
theorem Own.nil (w : World) (B : Nat) (e : TypeId) : Own w B e none 0 0 [] := World.ownsRow_nil w B e 1
theorem Own.len (h : Own w B e A n c xs) : xs.length = n := by simpa using h.1
theorem Own.reads (h : Own w B e A n c xs) : Reads w w.heap.size A n xs := by
  refine ⟨h.len, fun hn => ?_⟩
  rcases h.2 with ⟨hv, h0⟩ | ⟨g, cap, cur, hv, hb, hg, _⟩
  · omega
  · simp only [Value.slice.injEq] at hv
    obtain ⟨rfl, _, rfl⟩ := hv
    refine ⟨g, 0, rfl, (Array.getElem?_eq_some_iff.1 hg).1, fun j u hu => ?_⟩
    have := World.ownsRow.cells h (g := g) rfl j u hu
    rw [add_plain] at this
    exact this
theorem Own.cap (h : Own w B e A n c xs) : n ≤ c := by
  rcases h.2 with ⟨hv, h0⟩ | ⟨g, cap, cur, hv, hb, hg, hnc, _⟩
  · omega
  · simp only [Value.slice.injEq] at hv
    obtain ⟨_, _, rfl⟩ := hv
    exact hnc
theorem Own.below (h : Own w B e A n c xs) {b : Nat} (hb : Below b w w') (hlt : ∀ g, A = some ⟨g, 0, none⟩ → g < b) : Own w' B e A n c xs := by
  refine ⟨h.1, ?_⟩
  rcases h.2 with hn | ⟨g, cap, cur, hv, hB, hg, r⟩
  · exact .inl hn
  · refine .inr ⟨g, cap, cur, hv, hB, ?_, r⟩
    simp only [Value.slice.injEq] at hv
    rw [hb.block g (hlt g hv.1)]
    exact hg
theorem Own.lt (h : Own w B e A n c xs) : ∀ g, A = some ⟨g, 0, none⟩ → g < w.heap.size ∧ B ≤ g := fun g hg => by
  have := World.ownsRow.lt h g (by rw [hg]; rfl)
  exact ⟨this.2, this.1⟩
theorem Own.lt' (h : Own w B e A n c xs) : ∀ g, (Value.slice A n c).ownBlock = some g → g < w.heap.size ∧ B ≤ g := fun g hg => by
  have := World.ownsRow.lt h g hg
  exact ⟨this.2, this.1⟩
theorem Own.later (h : Own w B e A n c xs) (hb : Below w.heap.size w w') : Own w' B e A n c xs := h.below hb fun g hg => (h.lt g hg).1
theorem Own.lit (w : World) (cs : List Value) (t : TypeId) (n : Nat) (hn : cs.length = n) (hm : n ≤ maxLen) (hB : B ≤ w.heap.size) : Own (w.alloc (.cells cs.toArray t)) B t (some ⟨w.heap.size, 0, none⟩) n n cs := by
  have := World.ownsRow_lit (base := B) (e := t) (size := 1) w cs.toArray n hB hm (by simpa using hn)
  simpa using this
end

section
variable {P : Program} {w : World} {ops : Array Oper} {rest : List Oper} {o : Oper} {a : Act} {Q : Exit → Act → World → Prop} {K : Act → World → Prop} {E : Prop}
/-- append onto a slice of the call's own; the source may be nil or empty. Elements of one cell. -/
theorem op_app2 (t e : TypeId) (bytes : Nat) (z : Value) (s x : Operand) (ho : o.op = .call { callee := .builtin .append, args := #[s, x], argTypes := #[t, t] })
    (ht : P.underlying t = some (.slice e)) (hinfo : (P.info? e).map (fun i => (i.zero, i.size, i.bytes)) = some (some z, 1, bytes)) (hz : z.cells.size = 1)
    {B n c : Nat} {A : Option Addr} {xs : List Value} (hs : a.eval s = .slice A n c) (hown : Own w B e A n c xs)
    {B2 m c2 : Nat} {A2 : Option Addr} {news : List Value} (hx : a.eval x = .slice A2 m c2) (hr : Reads w B2 A2 m news) (h1 : ∀ u ∈ news, u.oneCell' = true)
    {N : Nat} (hN : n + m = N) (h63 : N ≤ maxLen) (hbytes : N * bytes ≤ 140737488355328) (hB : B ≤ w.heap.size)
    (h : ∀ (A' : Option Addr) (c' : Nat) (w1 : World), Own w1 B e A' N c' (xs ++ news) → w.grownBy w1 (Value.slice A n c).ownBlock →
      Below B w w1 → ((Value.slice A' N c').ownBlock = (Value.slice A n c).ownBlock ∨ (Value.slice A' N c').ownBlock = some w.heap.size) → K (a.put o.dst (.slice A' N c')) w1) : o.wp P a w K Q := by
  subst hN
  obtain ⟨i, hi, hz0, hz1, hz2⟩ := info_parts hinfo
  have key : ∃ v' w', (Builtin.append_ #[t, t] o.type #[.slice A n c, .slice A2 m c2]).run P w = .ok v' w' ∧ w'.ownsRow B e 1 v' (n + m) (xs ++ news) ∧ w.grownBy w' (Value.slice A n c).ownBlock ∧ (v'.ownBlock = (Value.slice A n c).ownBlock ∨ v'.ownBlock = some w.heap.size) := by
    rcases Nat.eq_zero_or_pos m with h0 | h0
    · subst h0
      have hn : news = [] := List.eq_nil_of_length_eq_zero hr.1
      subst hn
      refine ⟨.slice A n c, w, ?_, by simpa using hown, World.grownBy.refl w _, .inl rfl⟩
      rcases hown.2 with ⟨hv, hn0⟩ | ⟨g, cap, cur, hv, _, _, hnc, _⟩
      · rw [hv]
        subst hn0
        rcases A2 with _ | ad <;> simp [Builtin.append_, run_underlying ht, sizeOf, typeInfo, hi, Builtin.lenOf, Builtin.firstCells, loadCells, loadCellsFrom]
      · simp only [Value.slice.injEq] at hv
        obtain ⟨rfl, _, rfl⟩ := hv
        rcases A2 with _ | ad <;> simp [Builtin.append_, run_underlying ht, sizeOf, typeInfo, hi, Builtin.lenOf, Builtin.firstCells, hnc, storeCells, loadCells, loadCellsFrom]
    · obtain ⟨b, off, rfl, _, hc⟩ := hr.2 h0
      obtain ⟨v', w', hrun, h2, h3, _, h5⟩ := run_append_own_at (P := P) w B t o.type e i z 1 bytes ht hi hz0 hz1 hz2 hz (by omega) _ n xs hown ⟨b, off, none⟩ m c2 news (by rw [hr.1, Nat.mul_one])
        (fun j u hu => by rw [add_plain]; exact hc j u hu) h1 h63 hbytes hB
      exact ⟨v', w', hrun, h2, h3, h5⟩
  obtain ⟨v', w', hrun, h2, h3, h5⟩ := key
  unfold Oper.wp execOp
  simp only [ho, resolve, invoke, builtin, Sem.run_bind, Sem.run_pure, Result.andThen_ok, List.map_toArray, List.map_cons, List.map_nil, hs, hx, hrun]
  obtain ⟨A', c', rfl⟩ : ∃ A' c', v' = .slice A' (n + m) c' := by
    rcases h2.2 with ⟨hv, hn0⟩ | ⟨g, cap, cur, hv, _⟩
    · exact ⟨none, 0, by rw [hv, hn0]⟩
    · exact ⟨_, _, hv⟩
  exact (h A' c' w' h2 h3 ((Below.refl B w).grown h3 hB fun k hk => (hown.lt' k hk).2) h5)
theorem op_app (t e : TypeId) (bytes : Nat) (z : Value) (s x : Operand) (ho : o.op = .call { callee := .builtin .append, args := #[s, x], argTypes := #[t, t] })
    (ht : P.underlying t = some (.slice e)) (hinfo : (P.info? e).map (fun i => (i.zero, i.size, i.bytes)) = some (some z, 1, bytes)) (hz : z.cells.size = 1)
    {B n c : Nat} {A : Option Addr} {xs : List Value} (hs : a.eval s = .slice A n c) (hown : Own w B e A n c xs)
    {B2 m c2 : Nat} {A2 : Option Addr} {news : List Value} (hx : a.eval x = .slice A2 m c2) (hr : Reads w B2 A2 m news) (h1 : ∀ u ∈ news, u.oneCell' = true)
    {N : Nat} (hN : n + m = N) (h63 : N ≤ maxLen) (hbytes : N * bytes ≤ 140737488355328) (hB : B ≤ w.heap.size)
    (h : ∀ (A' : Option Addr) (c' : Nat) (w1 : World), Own w1 B e A' N c' (xs ++ news) → w.grownBy w1 (Value.slice A n c).ownBlock →
      Below B w w1 → K (a.put o.dst (.slice A' N c')) w1) : o.wp P a w K Q :=
  op_app2 t e bytes z s x ho ht hinfo hz hs hown hx hr h1 hN h63 hbytes hB fun A' c' w1 x0 x1 x2 _ => h A' c' w1 x0 x1 x2
theorem wpList_app2 (t e : TypeId) (bytes : Nat) (z : Value) (hg : o.guard = none) (s x : Operand) (ho : o.op = .call { callee := .builtin .append, args := #[s, x], argTypes := #[t, t] })
    (ht : P.underlying t = some (.slice e)) (hinfo : (P.info? e).map (fun i => (i.zero, i.size, i.bytes)) = some (some z, 1, bytes)) (hz : z.cells.size = 1)
    {B n c : Nat} {A : Option Addr} {xs : List Value} (hs : a.eval s = .slice A n c) (hown : Own w B e A n c xs)
    {B2 m c2 : Nat} {A2 : Option Addr} {news : List Value} (hx : a.eval x = .slice A2 m c2) (hr : Reads w B2 A2 m news) (h1 : ∀ u ∈ news, u.oneCell' = true)
    {N : Nat} (hN : n + m = N) (h63 : N ≤ maxLen) (hbytes : N * bytes ≤ 140737488355328) (hB : B ≤ w.heap.size)
    (h : ∀ (A' : Option Addr) (c' : Nat) (w1 : World), Own w1 B e A' N c' (xs ++ news) → w.grownBy w1 (Value.slice A n c).ownBlock →
      Below B w w1 → ((Value.slice A' N c').ownBlock = (Value.slice A n c).ownBlock ∨ (Value.slice A' N c').ownBlock = some w.heap.size) → wpList P ops Q rest (a.put o.dst (.slice A' N c')) w1) : wpList P ops Q (o :: rest) a w :=
  wpList_plain hg fun _ hK => op_app2 t e bytes z s x ho ht hinfo hz hs hown hx hr h1 hN h63 hbytes hB (fun A' c' w1 x0 x1 x2 x3 => hK _ _ (h A' c' w1 x0 x1 x2 x3))
theorem wpList_app (t e : TypeId) (bytes : Nat) (z : Value) (hg : o.guard = none) (s x : Operand) (ho : o.op = .call { callee := .builtin .append, args := #[s, x], argTypes := #[t, t] })
    (ht : P.underlying t = some (.slice e)) (hinfo : (P.info? e).map (fun i => (i.zero, i.size, i.bytes)) = some (some z, 1, bytes)) (hz : z.cells.size = 1)
    {B n c : Nat} {A : Option Addr} {xs : List Value} (hs : a.eval s = .slice A n c) (hown : Own w B e A n c xs)
    {B2 m c2 : Nat} {A2 : Option Addr} {news : List Value} (hx : a.eval x = .slice A2 m c2) (hr : Reads w B2 A2 m news) (h1 : ∀ u ∈ news, u.oneCell' = true)
    {N : Nat} (hN : n + m = N) (h63 : N ≤ maxLen) (hbytes : N * bytes ≤ 140737488355328) (hB : B ≤ w.heap.size)
    (h : ∀ (A' : Option Addr) (c' : Nat) (w1 : World), Own w1 B e A' N c' (xs ++ news) → w.grownBy w1 (Value.slice A n c).ownBlock →
      Below B w w1 → wpList P ops Q rest (a.put o.dst (.slice A' N c')) w1) : wpList P ops Q (o :: rest) a w :=
  wpList_plain hg fun _ hK => op_app t e bytes z s x ho ht hinfo hz hs hown hx hr h1 hN h63 hbytes hB (fun A' c' w1 x0 x1 x2 => hK _ _ (h A' c' w1 x0 x1 x2))
theorem step_app (t e : TypeId) (bytes : Nat) (z : Value) (hg : o.guard = none) (s x : Operand) (ho : o.op = .call { callee := .builtin .append, args := #[s, x], argTypes := #[t, t] })
    (ht : P.underlying t = some (.slice e)) (hinfo : (P.info? e).map (fun i => (i.zero, i.size, i.bytes)) = some (some z, 1, bytes)) (hz : z.cells.size = 1)
    {B n c : Nat} {A : Option Addr} {xs : List Value} (hs : a.eval s = .slice A n c) (hown : Own w B e A n c xs)
    {B2 m c2 : Nat} {A2 : Option Addr} {news : List Value} (hx : a.eval x = .slice A2 m c2) (hr : Reads w B2 A2 m news) (h1 : ∀ u ∈ news, u.oneCell' = true)
    {N : Nat} (hN : n + m = N) (h63 : N ≤ maxLen) (hbytes : N * bytes ≤ 140737488355328) (hB : B ≤ w.heap.size)
    (h : ∀ (A' : Option Addr) (c' : Nat) (w1 : World), Own w1 B e A' N c' (xs ++ news) → w.grownBy w1 (Value.slice A n c).ownBlock →
      Below B w w1 → K (a.put o.dst (.slice A' N c')) w1) : if Region.wanted o (yielded ops a.tmps) = true then o.wp P a w K Q else E := by
  rw [if_pos (by simp [Region.wanted, hg])]
  exact op_app t e bytes z s x ho ht hinfo hz hs hown hx hr h1 hN h63 hbytes hB h
end

theorem reads_lit (w : World) (cs : List Value) (t : TypeId) (n : Nat) (hn : cs.length = n) :
    Reads (w.alloc (.cells cs.toArray t)) (w.heap.size + 1) (some ⟨w.heap.size, 0, none⟩) n cs :=
  ⟨hn, fun _ => ⟨w.heap.size, 0, rfl, by omega, fun j u hu => by rw [World.cell?_alloc_mark]; simpa using hu⟩⟩
theorem reads_lit_later (w : World) (cs : List Value) (t : TypeId) (n : Nat) (hn : cs.length = n) {w' : World} (hb : Below (w.alloc (.cells cs.toArray t)).drew.heap.size (w.alloc (.cells cs.toArray t)).drew w') :
    Reads w' (w.heap.size + 1) (some ⟨w.heap.size, 0, none⟩) n cs := by
  have h : (w.alloc (.cells cs.toArray t)).drew.heap.size = w.heap.size + 1 := by simp
  rw [h] at hb
  exact Reads.below (w := (w.alloc (.cells cs.toArray t)).drew) (reads_lit w cs t n hn) hb

section
variable {P : Program} {w : World} {ops : Array Oper} {rest : List Oper} {o : Oper} {a : Act} {Q : Exit → Act → World → Prop}
/-- min of three, and of four, lengths: some number that is none of theirs' greater -/
theorem wpList_min3 (hg : o.guard = none) (x y z : Operand) (ats : Array TypeId) (ho : o.op = .call { callee := .builtin .min, args := #[x, y, z], argTypes := ats })
    {X Y Z : Nat} (hx : a.eval x = .int .i64 (X : Int)) (hy : a.eval y = .int .i64 (Y : Int)) (hz : a.eval z = .int .i64 (Z : Int))
    (h : ∀ N : Nat, N ≤ X → N ≤ Y → N ≤ Z → wpList P ops Q rest (a.put o.dst (.int .i64 (N : Int))) w) : wpList P ops Q (o :: rest) a w := by
  refine wpList_plain hg fun K hK => ?_
  obtain ⟨N, h1, h2, h3, hr⟩ : ∃ N : Nat, N ≤ X ∧ N ≤ Y ∧ N ≤ Z ∧ (Builtin.min_ ats o.type #[.int .i64 (X : Int), .int .i64 (Y : Int), .int .i64 (Z : Int)]).run P w = .ok (.int .i64 (N : Int)) w := by
    refine ⟨min Z (min Y X), by omega, by omega, by omega, ?_⟩
    simp [Builtin.min_, Builtin.min2]
    omega
  unfold Oper.wp execOp
  simp only [ho, resolve, invoke, builtin, Sem.run_bind, Sem.run_pure, Result.andThen_ok, List.map_toArray, List.map_cons, List.map_nil, hx, hy, hz, hr]
  exact hK _ _ (h N h1 h2 h3)
theorem wpList_min4 (hg : o.guard = none) (x y z u : Operand) (ats : Array TypeId) (ho : o.op = .call { callee := .builtin .min, args := #[x, y, z, u], argTypes := ats })
    {X Y Z U : Nat} (hx : a.eval x = .int .i64 (X : Int)) (hy : a.eval y = .int .i64 (Y : Int)) (hz : a.eval z = .int .i64 (Z : Int)) (hu : a.eval u = .int .i64 (U : Int))
    (h : ∀ N : Nat, N ≤ X → N ≤ Y → N ≤ Z → N ≤ U → wpList P ops Q rest (a.put o.dst (.int .i64 (N : Int))) w) : wpList P ops Q (o :: rest) a w := by
  refine wpList_plain hg fun K hK => ?_
  obtain ⟨N, h1, h2, h3, h4, hr⟩ : ∃ N : Nat, N ≤ X ∧ N ≤ Y ∧ N ≤ Z ∧ N ≤ U ∧ (Builtin.min_ ats o.type #[.int .i64 (X : Int), .int .i64 (Y : Int), .int .i64 (Z : Int), .int .i64 (U : Int)]).run P w = .ok (.int .i64 (N : Int)) w := by
    refine ⟨min U (min Z (min Y X)), by omega, by omega, by omega, by omega, ?_⟩
    simp [Builtin.min_, Builtin.min2]
    omega
  unfold Oper.wp execOp
  simp only [ho, resolve, invoke, builtin, Sem.run_bind, Sem.run_pure, Result.andThen_ok, List.map_toArray, List.map_cons, List.map_nil, hx, hy, hz, hu, hr]
  exact hK _ _ (h N h1 h2 h3 h4)
end

theorem keep_cell {w w2 : World} {p : Addr} {u : Value} (b : Below w.heap.size w w2) (h : w.cell? p = some u) : w2.cell? p = some u := (b.cell (World.block_lt_of_cell? _ _ h)).trans h
theorem keep_free {w w2 : World} {p : Addr} {u : Bool} (b : Below w.heap.size w w2) (hp : p.block < w.heap.size) (h : w.frozen? p = u) : w2.frozen? p = u := (b.frozen hp).trans h
/-! ### small facts on numbers -/
theorem ofInt_i64 (a : Nat) (ha : a < 9223372036854775808) : (BitVec.ofInt 64 (a : Int)).toNat = a := by
  rw [BitVec.ofInt_natCast, BitVec.toNat_ofNat]; exact Nat.mod_eq_of_lt (by omega)
theorem i64_xor_nat (a b : Nat) (ha : a < 9223372036854775808) (hb : b < 9223372036854775808) : bits .xor .i64 (a : Int) (b : Int) = ((a ^^^ b : Nat) : Int) := by
  have hx : a ^^^ b < 2 ^ 63 := Nat.xor_lt_two_pow (by omega) (by omega)
  show IntKind.i64.wrap ((BitVec.ofInt 64 (a : Int) ^^^ BitVec.ofInt 64 (b : Int)).toNat : Int) = _
  rw [BitVec.toNat_xor, ofInt_i64 a ha, ofInt_i64 b hb, IntKind.wrap_i64]
  omega
/-- 'n & (2^24 - 1)', n of whatever sign -/
theorem i64_low24 (n : Int) : bits .and .i64 n 16777215 = n % 16777216 := by
  have h1 : (BitVec.ofInt 64 n &&& BitVec.ofInt 64 16777215).toNat = (n % 16777216).toNat := by
    rw [BitVec.toNat_and]
    have h2 : (BitVec.ofInt 64 16777215).toNat = 2 ^ 24 - 1 := by decide
    rw [h2, Nat.and_two_pow_sub_one_eq_mod, BitVec.toNat_ofInt]
    have h3 : ((n % ((2 ^ 64 : Nat) : Int)).toNat % 2 ^ 24 : Nat) = (n % 16777216).toNat := by
      have e : ((2 ^ 64 : Nat) : Int) = 18446744073709551616 := by decide
      rw [e]
      omega
    exact h3
  show IntKind.i64.wrap ((BitVec.ofInt 64 n &&& BitVec.ofInt 64 16777215).toNat : Int) = _
  rw [h1, IntKind.wrap_i64]
  omega
theorem byte_from {z : Int} (h : (Lit.int .u8 z).wf = true) : ∃ y : UInt8, z = (y.toNat : Int) := by
  have h2 := bounds_u8 h
  exact ⟨UInt8.ofNat z.toNat, by simp; omega⟩
theorem ret_int {k : IntKind} {a b : Int} (h : a = b) : Ending.returned (.int k a) = .returned (.int k b) := by rw [h]
theorem int_eq {k : IntKind} {a b : Int} (h : a = b) : Value.int k a = Value.int k b := by rw [h]
theorem bit_step (X Y i : Nat) : (X % 2 ^ (i + 1)) ^^^ (Y % 2 ^ (i + 1)) = ((X % 2 ^ i) ^^^ (Y % 2 ^ i)) + (if X / 2 ^ i % 2 ≠ Y / 2 ^ i % 2 then 2 ^ i else 0) := by
  have hlt : (X % 2 ^ i) ^^^ (Y % 2 ^ i) < 2 ^ i := Nat.xor_lt_two_pow (Nat.mod_lt _ (Nat.two_pow_pos i)) (Nat.mod_lt _ (Nat.two_pow_pos i))
  have tb : ∀ Z : Nat, Z.testBit i = decide (Z / 2 ^ i % 2 = 1) := fun Z => by rw [Nat.testBit_eq_decide_div_mod_eq]
  split
  · rename_i h
    have e := Nat.two_pow_add_eq_or_of_lt hlt 1
    rw [Nat.mul_one] at e
    rw [Nat.add_comm (X % 2 ^ i ^^^ Y % 2 ^ i) (2 ^ i), e]
    apply Nat.eq_of_testBit_eq
    intro j
    simp only [Nat.testBit_xor, Nat.testBit_mod_two_pow, Nat.testBit_or, Nat.testBit_two_pow]
    by_cases h1 : j < i
    · simp [h1, show j < i + 1 by omega, show ¬ i = j by omega]
    · by_cases h2 : j = i
      · subst h2
        have : (X.testBit j ^^ Y.testBit j) = true := by
          rw [tb, tb]
          have : X / 2 ^ j % 2 < 2 := Nat.mod_lt _ (by omega)
          have : Y / 2 ^ j % 2 < 2 := Nat.mod_lt _ (by omega)
          rcases Nat.mod_two_eq_zero_or_one (X / 2 ^ j) with a | a <;> rcases Nat.mod_two_eq_zero_or_one (Y / 2 ^ j) with b | b <;> simp [a, b] at h ⊢
        simp [this]
      · simp [h1, show ¬ j < i + 1 by omega, show ¬ i = j by omega]
  · rename_i h
    rw [Nat.add_zero]
    apply Nat.eq_of_testBit_eq
    intro j
    simp only [Nat.testBit_xor, Nat.testBit_mod_two_pow]
    by_cases h1 : j < i
    · simp [h1, show j < i + 1 by omega]
    · by_cases h2 : j = i
      · subst h2
        have : (X.testBit j ^^ Y.testBit j) = false := by
          rw [tb, tb]
          rcases Nat.mod_two_eq_zero_or_one (X / 2 ^ j) with a | a <;> rcases Nat.mod_two_eq_zero_or_one (Y / 2 ^ j) with b | b <;> simp [a, b] at h ⊢
        simp [this]
      · simp [h1, show ¬ j < i + 1 by omega]

/-- The bound below which each string, slice and map lies that comes in. -/
theorem reach_eq : reachBytes = 140737488351232 := rfl

/-! ### Closing a law's row -/
theorem own_knob : ownKnob Try.prog.godebug = none := by kernel_rfl
theorem cells_str : Try.prog.cellsOf 9 = 1 := by kernel_rfl
theorem bytes_str : Try.prog.bytesOf 9 = 16 := by kernel_rfl
theorem laid_out : laidOutB Try.prog = true := by kernel_rfl

section
variable {H : Type} {enc : TypeId × Value → H} {P : Program}
theorem trodAll_below (hl : laidOutB P = true) {W W' : World} (hb : Below W.heap.size W W') : ∀ (ts : List TypeId) (vs : List Value) (ds : List (DataW H)) (p : List MemPlace),
    (∀ t ∈ ts, P.readableRec t = true ∧ t < P.types.size) → DataW.TrodAll enc P W 0 (fun _ => true) true ts vs ds p → (∀ x ∈ p, x.block < W.heap.size) →
    DataW.TrodAll enc P W' 0 (fun b => decide (b < W.heap.size)) true ts vs ds p
  | [], vs, ds, p, _, h, _ => by
    obtain ⟨rfl, rfl, rfl⟩ := trodAll_nil h
    exact trodAll_mk0
  | t :: ts, vs, ds, p, hr, h, hlt => by
    obtain ⟨v, vs', d, ds', p', q, rfl, rfl, rfl, h0, h1⟩ := trodAll_cons h
    exact trodAll_cons_mk (Below.trod hl (hr t (by simp)).1 (hr t (by simp)).2 h0 hb (fun x hx => hlt x (by simp [hx])))
      (trodAll_below hl hb ts vs' ds' q (fun t' ht => hr t' (by simp [ht])) h1 (fun x hx => hlt x (by simp [hx])))

/-- What a law's contract has to say: it answers true, and what was there before it is as it was. -/
def Holds (P : Program) (n : FuncId) (args : Array Value) (W : World) : Prop :=
  Calls P n args W fun e W' => e = .returned (.bool true) ∧ Below W.heap.size W W'

theorem trodAll_len : ∀ (ts : List TypeId) (vs : List Value) (ds : List (DataW H)) (p : List MemPlace) {P : Program} {W : World}, DataW.TrodAll enc P W 0 (fun _ => true) true ts vs ds p → ds.length = ts.length
  | [], vs, ds, p, _, _, h => by
    obtain ⟨rfl, rfl, rfl⟩ := trodAll_nil h
    rfl
  | t :: ts, vs, ds, p, _, _, h => by
    obtain ⟨v, vs', d, ds', p', q, rfl, rfl, rfl, h0, h1⟩ := trodAll_cons h
    simp [trodAll_len ts vs' ds' q h1]

theorem law_lifted {C : Checked} {os : Os} {n : FuncId} {f : Func} {s : ChangeSpec} {conds : List PathCond} {k : Nat} {tb : TypeId}
    (own : ownKnob C.prog.godebug = none) (started : os.Started) (noInit : C.prog.inits.idxOf? n = none) (hfn : C.prog.funcs[n]? = some f)
    (hvars : s.vars = []) (hrt : f.resultTypes = #[tb]) (htb : C.prog.underlying tb = some .bool) (hl : laidOutB C.prog = true)
    (hpar : f.params.toList.all (fun t => C.prog.readableRec t && decide (t < C.prog.types.size)) = true) (hk : f.params.toList.length = k)
    (hspec : ∀ (ds : List (DataW H)), ds.length = k → s.fn H ds = { results := [.lit (.bool true)], args := ds })
    (witness : ∃ (w : World) (tape : Tape) (i : Input), w.os = os ∧ (w.forCall tape i).Shaped C.prog ∧ i.vars = [] ∧ Input.okWide C.prog (w.forCall tape i) .any w.heap.size n i ∧
      s.pre6 enc C.prog f conds false (w.forCall tape i).memory i.args ∧ Assume.holds {} C.prog (lone (Frame.enter C.prog n i.args .normal) [] (w.forCall tape i)))
    (contract : ∀ (W : World) (base : Nat) (args : Array Value) (ds : List (DataW H)) (p : List MemPlace),
      (∀ (j : Nat) t v, f.params[j]? = some t → args[j]? = some v → Value.okWide C.prog W .any base t v) →
      DataW.TrodAll enc C.prog W 0 (fun _ => true) true f.params.toList args.toList ds p → (∀ x ∈ p, x.block < W.heap.size) →
      (DataW.weightsEach C.prog f.params.toList ds).all (· ≤ reachBytes) = true → Holds C.prog n args W) :
    ReturnsInHanded {} C os n .any (s.pre6 enc C.prog f conds false) (s.post enc C.prog f false true false false) := by
  refine returnsInHanded_of_change_sized own started noInit hfn witness ?_
  intro W base args ds gs before hval hW _ hsz _
  have hW' := hW
  have hlt : ∀ x ∈ before, x.block < W.heap.size := fun x hx => hW'.lt x hx
  obtain ⟨p, q, hA, hV, rfl, _, _⟩ := hW
  rw [hvars] at hV
  obtain ⟨rfl, rfl⟩ := trodVars_none hV
  have hvt : s.plain.varTypes C.prog = [] := by simp [DataSpec.varTypes, ChangeSpec.plain, hvars]
  rw [hvt, List.append_nil, List.append_nil] at hsz
  have hlp : ∀ x ∈ p, x.block < W.heap.size := fun x hx => hlt x (by simp [hx])
  refine (contract W base args ds p hval hA hlp hsz).mono fun e W' ⟨he, hb⟩ => ?_
  subst he
  have hlen : ds.length = k := by
    rw [← hk]
    exact trodAll_len _ _ _ _ hA
  have hs : s.fn H (ds ++ []) = { results := [.lit (.bool true)], args := ds } := by rw [List.append_nil]; exact hspec ds hlen
  refine ⟨_, rfl, ds, [], p ++ [], [], p, [], hW', ?_, ?_, ?_, hb.frame _, fun h => by cases h⟩
  · rw [hs, hrt]
    exact trodAll_mk1 (shut_bool htb _)
  · rw [hs]
    refine trodAll_below hl hb _ _ _ _ (fun t ht => ?_) hA hlp
    have := List.all_eq_true.1 hpar t ht
    simpa using this
  · rw [hs, hvars]
    exact rfl
end

/-! ### Opening arguments -/
section
variable {H : Type} {enc : TypeId × Value → H} {P : Program} {w : World} {r : Reach} {b0 : Nat} {t e : TypeId} {v : Value} {d : DataW H} {ps : List MemPlace}
theorem open_str (ht : P.underlying t = some .string) (hval : Value.okWide P w r b0 t v) (hd : DataW.Trod enc P w 0 (fun _ => true) true t v d ps)
    (hsz : (d.weights P t).all (· ≤ reachBytes) = true) : ∃ s : ByteArray, v = .string s ∧ s.size ≤ 140737488351232 := by
  obtain ⟨s, rfl, rfl, rfl, h⟩ := Go.ChangeMaps.open_string ht hval hd
  refine ⟨s, rfl, ?_⟩
  have e : s.data.toList.length = s.size := by rw [Array.length_toList]; rfl
  have h2 : s.size ≤ reachBytes := by simpa [DataW.weights] using hsz
  exact h2

theorem weightsAll_strs {P : Program} {e : TypeId} (ss : List ByteArray) : DataW.weightsAll (H := H) P e (strs ss) = ss.map (·.size) := by
  induction ss with
  | nil => rfl
  | cons s ss ih =>
    have : strs (H := H) (s :: ss) = .lit (.string s.data.toList) :: strs ss := rfl
    rw [this]
    simp only [DataW.weightsAll, DataW.weights, ih, List.map_cons]
    rfl

theorem open_strs (ht : P.underlying t = some (.slice e)) (he : P.underlying e = some .string) (hc : P.cellsOf e = 1) (hby : P.bytesOf e = 16) (hval : Value.okWide P w r b0 t v)
    (hd : DataW.Trod enc P w 0 (fun _ => true) true t v d ps) (hlt : ∀ x ∈ ps, x.block < w.heap.size) (hsz : (d.weights P t).all (· ≤ reachBytes) = true) :
    ∃ (A : Option Addr) (n c : Nat) (ss : List ByteArray), v = .slice A n c ∧ n ≤ c ∧ c ≤ 8796093021952 ∧ ss.length = n ∧ Reads w w.heap.size A n (ss.map .string) ∧ (∀ s ∈ ss, s.size ≤ 140737488351232) := by
  obtain ⟨a0, len, cap, rfl⟩ := okWide_slice ht hval
  obtain ⟨fuel, hf⟩ := hd
  rcases open_strings ht he hc hf with ⟨hcs, hx⟩ | ⟨a, len', cap', ss, hcs, _, hl, hm, hz, hx, hcell, hws⟩
  · simp [Value.cells] at hcs
    obtain ⟨rfl, rfl, rfl⟩ := hcs
    exact ⟨none, 0, 0, [], rfl, Nat.le_refl _, by omega, rfl, Reads.none_ _ _ _, by simp⟩
  · simp [Value.cells] at hcs
    obtain ⟨rfl, rfl, rfl⟩ := hcs
    simp only [Prod.mk.injEq] at hx
    obtain ⟨rfl, rfl⟩ := hx
    simp only [if_true] at hz
    have hw : ((strs (H := H) (ss.take len)).length + (strs (H := H) (ss.drop len)).length) * 16 ≤ reachBytes ∧ (∀ x ∈ (ss.take len).map (·.size), x ≤ reachBytes) := by
      simp only [DataW.weights, ht, hby, weightsAll_strs, List.all_cons, List.all_append, Bool.and_eq_true, decide_eq_true_eq, List.all_eq_true] at hsz
      exact ⟨hsz.1, hsz.2.1⟩
    have h1 := hw.1
    simp only [strs, List.length_map, List.length_take, List.length_drop, reachBytes] at h1
    refine ⟨some a, len, cap, ss.take len, rfl, hl, by omega, by simp; omega, ⟨by simp; omega, fun hn => ?_⟩, fun s hs => ?_⟩
    · obtain ⟨b, off, spot⟩ := a
      have hspot : spot = none := by simpa [Addr.add] using World.cell?_spot (hcell 0 (by omega))
      subst hspot
      refine ⟨b, off, rfl, hlt (.cell b off) (MemPlace.mem_row.2 ⟨0, by omega, by simp⟩), fun j u hu => ?_⟩
      have hj : j < len := by
        have := (List.getElem?_eq_some_iff.1 hu).1
        simp at this
        omega
      have hc' := hcell j (by omega)
      rw [add_plain] at hc'
      rw [hc']
      simp only [List.getElem?_map, List.getElem?_take, hj, if_true] at hu
      rw [List.getElem?_eq_getElem (by omega)] at hu
      simp only [Option.map_some, Option.some.injEq] at hu
      rw [← hu]
      simp [List.getD, List.getElem?_eq_getElem (show j < ss.length by omega)]
    · have := hw.2 s.size (List.mem_map.2 ⟨s, hs, rfl⟩)
      exact this
end

end Go.Proofs.Ytoalckcpahnpmaa
