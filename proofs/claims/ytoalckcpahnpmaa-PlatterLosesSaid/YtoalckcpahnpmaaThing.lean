/- Things of the program's own that stand in memory, and what lies beside them. Nothing of the program stands here. -/
import Derived.Test.YtoalckcpahnpmaaLib
namespace Go.Proofs.Ytoalckcpahnpmaa
open Go.RowKit

/-- what a call leaves as it was: all below B, and the blocks X -/
structure Kept (B : Nat) (X : List Nat) (w w' : World) : Prop where
  below : Below B w w'
  other : ∀ k, k ∈ X → k < w.heap.size → w'.heap[k]? = w.heap[k]?
/-- all blocks but those of F are as they were -/
structure Apart (F : Nat → Prop) (w w' : World) : Prop where
  os : w'.os = w.os
  tape : w'.tape = w.tape
  output : w'.output = w.output
  size : w.heap.size ≤ w'.heap.size
  block : ∀ k, k < w.heap.size → ¬ F k → w'.heap[k]? = w.heap[k]?
/-- a thing that stands in blocks of its own, from B on, none of them among X -/
def Has (T : World → (Nat → Prop) → Prop) (B : Nat) (X : List Nat) (w : World) : Prop :=
  B ≤ w.heap.size ∧ (∀ x ∈ X, x < w.heap.size) ∧ ∃ F, T w F ∧ ∀ k, F k → B ≤ k ∧ k < w.heap.size ∧ k ∉ X
/-- it hangs on its own blocks alone -/
def Local (T : World → (Nat → Prop) → Prop) : Prop :=
  ∀ (w w' : World) (F : Nat → Prop), T w F → w.heap.size ≤ w'.heap.size → (∀ k, F k → w'.heap[k]? = w.heap[k]?) → T w' F
/-- a call of the thing's: what it answers, and what the thing is behind it -/
def Acts (P : Program) (f : FuncId) (args : Array Value) (r : Ending) (T T' : World → (Nat → Prop) → Prop) : Prop :=
  ∀ (w : World) (F : Nat → Prop), T w F → (∀ k, F k → k < w.heap.size) →
    Calls P f args w fun e w' => e = r ∧ Apart F w w' ∧ ∃ F', T' w' F' ∧ ∀ k, F' k → k < w'.heap.size ∧ (F k ∨ w.heap.size ≤ k)
/-- .. that is handed a slice, which lies elsewhere -/
def ActsL (P : Program) (f : FuncId) (args : Array Value) (r : Ending) (A : Option Addr) (n : Nat) (xs : List Value) (T T' : World → (Nat → Prop) → Prop) : Prop :=
  ∀ (w : World) (F : Nat → Prop), T w F → (∀ k, F k → k < w.heap.size) → Reads w w.heap.size A n xs → (0 < n → ∀ b o, A = some ⟨b, o, none⟩ → ¬ F b) →
    Calls P f args w fun e w' => e = r ∧ Apart F w w' ∧ ∃ F', T' w' F' ∧ ∀ k, F' k → k < w'.heap.size ∧ (F k ∨ w.heap.size ≤ k)
/-- where T stands, D does -/
def Sees (T D : World → (Nat → Prop) → Prop) : Prop := ∀ w F, T w F → ∃ F', D w F'
/-- two things, apart -/
def Both (T U : World → (Nat → Prop) → Prop) : World → (Nat → Prop) → Prop :=
  fun w F => ∃ F1 F2, T w F1 ∧ U w F2 ∧ (∀ k, F k ↔ F1 k ∨ F2 k) ∧ ∀ k, F1 k → ¬ F2 k

theorem row_cells (w : World) (cs : List Value) (t : TypeId) : Row (w.alloc (.cells cs.toArray t)) w.heap.size cs := by
  refine ⟨by simp, fun j u hj => ⟨?_, by simp⟩⟩
  have h := reads_lit w cs t cs.length rfl
  obtain ⟨b, o, e, _, hc⟩ := h.2 (by have := (List.getElem?_eq_some_iff.1 hj).1; omega)
  simp only [Option.some.injEq, Addr.mk.injEq] at e
  obtain ⟨rfl, rfl, _⟩ := e
  have := hc j u hj
  rwa [Nat.zero_add] at this

theorem row_slice {w : World} {g n : Nat} {xs : List Value} (h : Row w g xs) (hn : xs.length = n) : Reads w w.heap.size (some ⟨g, 0, none⟩) n xs :=
  ⟨hn, fun _ => ⟨g, 0, rfl, h.1, fun j u hj => by rw [Nat.zero_add]; exact h.cell hj⟩⟩

section
variable {T T' U : World → (Nat → Prop) → Prop} {B g : Nat} {X : List Nat} {w w' w2 : World}
theorem Kept.trans (h : Kept B X w w') (k : Kept B X w' w2) : Kept B X w w2 :=
  ⟨h.below.trans k.below, fun j hj hl => (k.other j hj (Nat.lt_of_lt_of_le hl h.below.size)).trans (h.other j hj hl)⟩
theorem Kept.row {xs : List Value} (h : Kept B X w w') (hg : g ∈ X) (r : Row w g xs) : Row w' g xs := by
  have e := h.other g hg r.lt
  exact ⟨Nat.lt_of_lt_of_le r.lt h.below.size, fun j u hj =>
    ⟨(World.cell?_of_block (w := w) (a := ⟨g, j, none⟩) e).trans (r.2 j u hj).1, (World.frozen?_of_block (w := w) (a := ⟨g, j, none⟩) e).trans (r.2 j u hj).2⟩⟩
theorem Kept.cell {p : Addr} {u : Value} (h : Kept B X w w') (hg : p.block ∈ X) (hc : w.cell? p = some u) : w'.cell? p = some u :=
  (World.cell?_of_block (w := w) (a := p) (h.other _ hg (World.block_lt_of_cell? _ _ hc))).trans hc
theorem Kept.free {p : Addr} {b : Bool} (h : Kept B X w w') (hg : p.block ∈ X) (hl : p.block < w.heap.size) (hc : w.frozen? p = b) : w'.frozen? p = b :=
  (World.frozen?_of_block (w := w) (a := p) (h.other _ hg hl)).trans hc
theorem Kept.reads {A : Option Addr} {n : Nat} {xs : List Value} (h : Kept B X w w') (hA : ∀ b o, A = some ⟨b, o, none⟩ → b ∈ X) (hr : Reads w w.heap.size A n xs) : Reads w' w'.heap.size A n xs :=
  ⟨hr.1, fun hn => by
    obtain ⟨b, o, e, hlt, hc⟩ := hr.2 hn
    exact ⟨b, o, e, Nat.lt_of_lt_of_le hlt h.below.size, fun j u hu => h.cell (p := ⟨b, o + j, none⟩) (hA b o e) (hc j u hu)⟩⟩
theorem Kept.own {e : TypeId} {A : Option Addr} {n c : Nat} {xs : List Value} (h : Kept B X w w') (hg : ∀ b o, A = some ⟨b, o, none⟩ → b ∈ X) (ho : Own w B e A n c xs) : Own w' B e A n c xs := by
  rcases ho.2 with ⟨hv, h0⟩ | ⟨g, cap, cur, hv, hB, hgg, rest⟩
  · exact ⟨ho.1, Or.inl ⟨hv, h0⟩⟩
  · refine ⟨ho.1, Or.inr ⟨g, cap, cur, hv, hB, ?_, rest⟩⟩
    simp only [Value.slice.injEq] at hv
    have hlt : g < w.heap.size := (Array.getElem?_eq_some_iff.1 hgg).1
    exact (h.other g (hg g 0 hv.1) hlt).trans hgg

theorem Apart.cell {F : Nat → Prop} {p : Addr} {u : Value} (h : Apart F w w') (hF : ¬ F p.block) (hc : w.cell? p = some u) : w'.cell? p = some u :=
  (World.cell?_of_block (w := w) (a := p) (h.block _ (World.block_lt_of_cell? _ _ hc) hF)).trans hc
theorem Apart.of_below {F : Nat → Prop} (h : Below w.heap.size w w') : Apart F w w' := ⟨h.os, h.tape, h.output, h.size, fun k hk _ => h.block k hk⟩
theorem Apart.trans {F F' : Nat → Prop} (h : Apart F w w') (k : Apart F' w' w2) (hF : ∀ j, F' j → F j ∨ w.heap.size ≤ j) : Apart F w w2 :=
  ⟨k.os.trans h.os, k.tape.trans h.tape, k.output.trans h.output, Nat.le_trans h.size k.size, fun j hj hn =>
    (k.block j (Nat.lt_of_lt_of_le hj h.size) (fun hf => (hF j hf).elim hn (fun hle => absurd hj (Nat.not_lt.2 hle)))).trans (h.block j hj hn)⟩

theorem Has.size (h : Has T B X w) : B ≤ w.heap.size := h.1
theorem Has.lt (h : Has T B X w) {x : Nat} (hx : x ∈ X) : x < w.heap.size := h.2.1 x hx
theorem Has.below (hl : Local T) (h : Has T B X w) (hb : Below w.heap.size w w') : Has T B X w' := by
  obtain ⟨h1, h2, F, hT, hF⟩ := h
  exact ⟨Nat.le_trans h1 hb.size, fun x hx => Nat.lt_of_lt_of_le (h2 x hx) hb.size, F, hl w w' F hT hb.size (fun k hk => hb.block k (hF k hk).2.1), fun k hk => ⟨(hF k hk).1, Nat.lt_of_lt_of_le (hF k hk).2.1 hb.size, (hF k hk).2.2⟩⟩
theorem Has.drew (hl : Local T) (h : Has T B X w) : Has T B X w.drew := h.below hl ⟨rfl, rfl, rfl, Nat.le_refl _, fun _ _ => rfl⟩
theorem Has.alloc (hl : Local T) (h : Has T B X w) (o : Obj) : Has T B X (w.alloc o) := h.below hl ((Below.refl _ _).alloc (Nat.le_refl _) o)
/-- a block that was not there is none of its own -/
theorem Has.add (hl : Local T) (h : Has T B X w) (hb : Below w.heap.size w w') (hg : w.heap.size ≤ g) (hg2 : g < w'.heap.size) : Has T B (g :: X) w' := by
  obtain ⟨h1, h2, F, hT, hF⟩ := h
  refine ⟨Nat.le_trans h1 hb.size, fun x hx => ?_, F, hl w w' F hT hb.size (fun k hk => hb.block k (hF k hk).2.1), fun k hk => ⟨(hF k hk).1, Nat.lt_of_lt_of_le (hF k hk).2.1 hb.size, fun hm => ?_⟩⟩
  · rcases List.mem_cons.1 hx with rfl | hx
    · exact hg2
    · exact Nat.lt_of_lt_of_le (h2 x hx) hb.size
  · rcases List.mem_cons.1 hm with rfl | hm
    · exact absurd (hF k hk).2.1 (Nat.not_lt.2 hg)
    · exact (hF k hk).2.2 hm
theorem Has.new (hl : Local T) (h : Has T B X w) (o : Obj) : Has T B (w.heap.size :: X) (w.alloc o) := h.add hl ((Below.refl _ _).alloc (Nat.le_refl _) o) (Nat.le_refl _) (by simp)
theorem Has.less {Y : List Nat} (h : Has T B X w) (hY : ∀ y ∈ Y, y ∈ X) : Has T B Y w := by
  obtain ⟨h1, h2, F, hT, hF⟩ := h
  exact ⟨h1, fun y hy => h2 y (hY y hy), F, hT, fun k hk => ⟨(hF k hk).1, (hF k hk).2.1, fun hm => (hF k hk).2.2 (hY k hm)⟩⟩
/-- a block beside it is written -/
theorem Has.kept (hl : Local T) (h : Has T B X w) (hs : w.heap.size ≤ w'.heap.size) (hk : ∀ k, B ≤ k → k ∉ X → k < w.heap.size → w'.heap[k]? = w.heap[k]?) : Has T B X w' := by
  obtain ⟨h1, h2, F, hT, hF⟩ := h
  exact ⟨Nat.le_trans h1 hs, fun x hx => Nat.lt_of_lt_of_le (h2 x hx) hs, F, hl w w' F hT hs (fun k hk2 => hk k (hF k hk2).1 (hF k hk2).2.2 (hF k hk2).2.1), fun k hk2 => ⟨(hF k hk2).1, Nat.lt_of_lt_of_le (hF k hk2).2.1 hs, (hF k hk2).2.2⟩⟩
theorem Has.setCell (hl : Local T) (h : Has T B X w) {p : Addr} (hp : p.block ∈ X) (u : Value) : Has T B X (w.setCell p u) :=
  h.kept hl (by simp [World.setCell]) fun k _ hk _ => Below.heap_setCell w p u k (fun e => hk (e ▸ hp))

theorem Acts.has {P : Program} {f : FuncId} {args : Array Value} {r : Ending} (hc : Acts P f args r T T') (h : Has T B X w) :
    Calls P f args w fun e w' => e = r ∧ Has T' B X w' ∧ Kept B X w w' := by
  obtain ⟨h1, h2, F, hT, hF⟩ := h
  refine (hc w F hT (fun k hk => (hF k hk).2.1)).mono ?_
  rintro e w' ⟨he, ha, F', hT', hF'⟩
  refine ⟨he, ⟨Nat.le_trans h1 ha.size, fun x hx => Nat.lt_of_lt_of_le (h2 x hx) ha.size, F', hT', fun k hk => ?_⟩, ⟨ha.os, ha.tape, ha.output, ha.size, fun k hk => ha.block k (Nat.lt_of_lt_of_le hk h1) (fun hf => absurd hk (Nat.not_lt.2 (hF k hf).1))⟩, fun k hk hkl => ha.block k hkl (fun hf => (hF k hf).2.2 hk)⟩
  obtain ⟨hk1, hk2⟩ := hF' k hk
  rcases hk2 with hk2 | hk2
  · exact ⟨(hF k hk2).1, hk1, (hF k hk2).2.2⟩
  · exact ⟨Nat.le_trans h1 hk2, hk1, fun hm => absurd (h2 k hm) (Nat.not_lt.2 hk2)⟩
theorem ActsL.has {P : Program} {f : FuncId} {args : Array Value} {r : Ending} {A : Option Addr} {n : Nat} {xs : List Value} (hc : ActsL P f args r A n xs T T') (h : Has T B X w) (hr : Reads w w.heap.size A n xs) (hA : 0 < n → ∀ b o, A = some ⟨b, o, none⟩ → b < B ∨ b ∈ X) :
    Calls P f args w fun e w' => e = r ∧ Has T' B X w' ∧ Kept B X w w' := by
  obtain ⟨h1, h2, F, hT, hF⟩ := h
  refine (hc w F hT (fun k hk => (hF k hk).2.1) hr (fun hn b o hb hf => (hA hn b o hb).elim (fun hl => absurd hl (Nat.not_lt.2 (hF b hf).1)) (hF b hf).2.2)).mono ?_
  rintro e w' ⟨he, ha, F', hT', hF'⟩
  refine ⟨he, ⟨Nat.le_trans h1 ha.size, fun x hx => Nat.lt_of_lt_of_le (h2 x hx) ha.size, F', hT', fun k hk => ?_⟩, ⟨ha.os, ha.tape, ha.output, ha.size, fun k hk => ha.block k (Nat.lt_of_lt_of_le hk h1) (fun hf => absurd hk (Nat.not_lt.2 (hF k hf).1))⟩, fun k hk hkl => ha.block k hkl (fun hf => (hF k hf).2.2 hk)⟩
  obtain ⟨hk1, hk2⟩ := hF' k hk
  rcases hk2 with hk2 | hk2
  · exact ⟨(hF k hk2).1, hk1, (hF k hk2).2.2⟩
  · exact ⟨Nat.le_trans h1 hk2, hk1, fun hm => absurd (h2 k hm) (Nat.not_lt.2 hk2)⟩
/-- a slice that was there ahead of the thing -/
theorem reads_ahead {w0 : World} {B1 n : Nat} {A : Option Addr} {xs : List Value} (hr : Reads w0 B1 A n xs) (h1 : B1 ≤ B) (hb : Below B1 w0 w) (h : B ≤ w.heap.size) : Reads w w.heap.size A n xs ∧ (0 < n → ∀ b o, A = some ⟨b, o, none⟩ → b < B ∨ b ∈ X) :=
  ⟨(hr.below hb).more (Nat.le_trans h1 h), fun hn b o e => by
    obtain ⟨b', o', e', hlt, _⟩ := hr.2 hn
    rw [e] at e'
    cases e'
    exact Or.inl (Nat.lt_of_lt_of_le hlt h1)⟩
theorem Sees.refl (T : World → (Nat → Prop) → Prop) : Sees T T := fun _ F h => ⟨F, h⟩
theorem Sees.left {D : World → (Nat → Prop) → Prop} (h : Sees T D) : Sees (Both T U) D := fun w _ hb => by
  obtain ⟨F1, _, h1, _⟩ := hb
  exact h w F1 h1
theorem Sees.right {D : World → (Nat → Prop) → Prop} (h : Sees U D) : Sees (Both T U) D := fun w _ hb => by
  obtain ⟨_, F2, _, h2, _⟩ := hb
  exact h w F2 h2
theorem Has.sees {D : World → (Nat → Prop) → Prop} (h : Has T B X w) (hs : Sees T D) : ∃ F, D w F := by
  obtain ⟨_, _, F, hT, _⟩ := h
  exact hs w F hT
theorem Both.local_ (ht : Local T) (hu : Local U) : Local (Both T U) := by
  rintro w w' F ⟨F1, F2, h1, h2, hF, hd⟩ hs hk
  exact ⟨F1, F2, ht w w' F1 h1 hs (fun k h => hk k ((hF k).2 (Or.inl h))), hu w w' F2 h2 hs (fun k h => hk k ((hF k).2 (Or.inr h))), hF, hd⟩
theorem Acts.left {P : Program} {f : FuncId} {args : Array Value} {r : Ending} (hu : Local U) (hc : Acts P f args r T T') : Acts P f args r (Both T U) (Both T' U) := by
  rintro w F ⟨F1, F2, h1, h2, hF, hd⟩ hlt
  refine (hc w F1 h1 (fun k hk => hlt k ((hF k).2 (Or.inl hk)))).mono ?_
  rintro e w' ⟨he, ha, F', hT', hF'⟩
  refine ⟨he, ⟨ha.os, ha.tape, ha.output, ha.size, fun k hk hn => ha.block k hk (fun h => hn ((hF k).2 (Or.inl h)))⟩, fun k => F' k ∨ F2 k, ⟨F', F2, hT', hu w w' F2 h2 ha.size (fun k hk => ha.block k (hlt k ((hF k).2 (Or.inr hk))) (fun h => hd k h hk)), fun _ => Iff.rfl, fun k hk hk2 => ?_⟩, fun k hk => ?_⟩
  · rcases (hF' k hk).2 with h | h
    · exact hd k h hk2
    · exact absurd (hlt k ((hF k).2 (Or.inr hk2))) (Nat.not_lt.2 h)
  · rcases hk with hk | hk
    · obtain ⟨a, b⟩ := hF' k hk
      exact ⟨a, b.imp (fun h => (hF k).2 (Or.inl h)) id⟩
    · exact ⟨Nat.lt_of_lt_of_le (hlt k ((hF k).2 (Or.inr hk))) ha.size, Or.inl ((hF k).2 (Or.inr hk))⟩
theorem ActsL.left {P : Program} {f : FuncId} {args : Array Value} {r : Ending} {A : Option Addr} {n : Nat} {xs : List Value} (hu : Local U) (hc : ActsL P f args r A n xs T T') : ActsL P f args r A n xs (Both T U) (Both T' U) := by
  rintro w F ⟨F1, F2, h1, h2, hF, hd⟩ hlt hr hA
  refine (hc w F1 h1 (fun k hk => hlt k ((hF k).2 (Or.inl hk))) hr (fun hn b o hb hf => hA hn b o hb ((hF b).2 (Or.inl hf)))).mono ?_
  rintro e w' ⟨he, ha, F', hT', hF'⟩
  refine ⟨he, ⟨ha.os, ha.tape, ha.output, ha.size, fun k hk hn => ha.block k hk (fun h => hn ((hF k).2 (Or.inl h)))⟩, fun k => F' k ∨ F2 k, ⟨F', F2, hT', hu w w' F2 h2 ha.size (fun k hk => ha.block k (hlt k ((hF k).2 (Or.inr hk))) (fun h => hd k h hk)), fun _ => Iff.rfl, fun k hk hk2 => ?_⟩, fun k hk => ?_⟩
  · rcases (hF' k hk).2 with h | h
    · exact hd k h hk2
    · exact absurd (hlt k ((hF k).2 (Or.inr hk2))) (Nat.not_lt.2 h)
  · rcases hk with hk | hk
    · obtain ⟨a, b⟩ := hF' k hk
      exact ⟨a, b.imp (fun h => (hF k).2 (Or.inl h)) id⟩
    · exact ⟨Nat.lt_of_lt_of_le (hlt k ((hF k).2 (Or.inr hk))) ha.size, Or.inl ((hF k).2 (Or.inr hk))⟩
theorem Both.swap {F : Nat → Prop} (h : Both T U w F) : Both U T w F := by
  obtain ⟨F1, F2, h1, h2, hF, hd⟩ := h
  exact ⟨F2, F1, h2, h1, fun k => (hF k).trans Or.comm, fun k a b => hd k b a⟩
theorem Acts.right {P : Program} {f : FuncId} {args : Array Value} {r : Ending} (ht : Local T) {U' : World → (Nat → Prop) → Prop} (hc : Acts P f args r U U') : Acts P f args r (Both T U) (Both T U') := by
  intro w F h hlt
  refine (hc.left ht w F h.swap hlt).mono ?_
  rintro e w' ⟨he, ha, F', hT', hF'⟩
  exact ⟨he, ha, F', hT'.swap, hF'⟩
/-- a second thing in new blocks -/
theorem Has.both (ht : Local T) (h : Has T B X w) (hb : Below w.heap.size w w') (hu : Has U w.heap.size [] w') : Has (Both T U) B X w' := by
  obtain ⟨h1, h2, F, hT, hF⟩ := h
  obtain ⟨k1, _, G, hU, hG⟩ := hu
  refine ⟨Nat.le_trans h1 hb.size, fun x hx => Nat.lt_of_lt_of_le (h2 x hx) hb.size, fun k => F k ∨ G k, ⟨F, G, ht w w' F hT hb.size (fun k hk => hb.block k (hF k hk).2.1), hU, fun _ => Iff.rfl, fun k a b => absurd (hF k a).2.1 (Nat.not_lt.2 (hG k b).1)⟩, fun k hk => ?_⟩
  rcases hk with hk | hk
  · exact ⟨(hF k hk).1, Nat.lt_of_lt_of_le (hF k hk).2.1 hb.size, (hF k hk).2.2⟩
  · exact ⟨Nat.le_trans h1 (hG k hk).1, (hG k hk).2.1, fun hm => absurd (h2 k hm) (Nat.not_lt.2 (hG k hk).1)⟩
end
end Go.Proofs.Ytoalckcpahnpmaa
