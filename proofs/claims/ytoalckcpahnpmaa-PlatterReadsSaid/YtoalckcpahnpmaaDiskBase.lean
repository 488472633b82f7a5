/- A platter in memory; its small methods. -/
import Derived.Test.YtoalckcpahnpmaaDiskSec
namespace Go.Proofs.Ytoalckcpahnpmaa
open Go.RowKit Go.ChangeShapes Go.WideShapes
open Go.ChangeMaps (setBlock heap_setBlock_same heap_setBlock_other)

/-- the acts that are left, up to the one at which it goes off; nought: it is not armed -/
def Left (S : DiskSt) (left : Nat) : Prop := left ≤ 1099511627776 ∧ (S.off = false → S.armed = if left = 0 then 0 else S.acts + left)
/-- a platter's five cells, its sectors, its map -/
structure RowsD (S : DiskSt) (b gs gm cs left : Nat) (w : World) : Prop where
  r0 : Row w b [.slice (some ⟨gs, 0, none⟩) S.n cs, .map (some gm), .int .i64 (S.acts : Int), .int .i64 (left : Int), .bool S.off]
  r1 : Secs w gs S.n S.sure
  r2 : MapAt w gm S.last
  keys : ∀ k s, S.last k = some s → k < S.n
  armed : Left S left
  small : S.n ≤ 64 ∧ S.n ≤ cs
def DistD (b gs gm : Nat) : Prop := b ≠ gs ∧ b ≠ gm ∧ gs ≠ gm
/-- the platter S stands at a, in the blocks F -/
def Disk (S : DiskSt) (a : Addr) (w : World) (F : Nat → Prop) : Prop :=
  ∃ (b gs gm cs left : Nat), a = ⟨b, 0, none⟩ ∧ DistD b gs gm ∧ RowsD S b gs gm cs left w ∧ ∀ k, F k ↔ k = b ∨ k = gs ∨ k = gm
section
variable {S : DiskSt} {b gs gm cs left : Nat} {w w' : World} {F : Nat → Prop} {a : Addr}
theorem RowsD.same (h : RowsD S b gs gm cs left w) (hs : w.heap.size ≤ w'.heap.size) (e0 : w'.heap[b]? = w.heap[b]?) (e1 : w'.heap[gs]? = w.heap[gs]?) (e2 : w'.heap[gm]? = w.heap[gm]?) : RowsD S b gs gm cs left w' :=
  ⟨row_same h.r0 hs e0, h.r1.same hs e1, h.r2.same e2, h.keys, h.armed, h.small⟩
theorem RowsD.below (h : RowsD S b gs gm cs left w) (hb : Below w.heap.size w w') : RowsD S b gs gm cs left w' :=
  h.same hb.size (hb.block b h.r0.lt) (hb.block gs h.r1.lt) (hb.block gm h.r2.lt)
theorem RowsD.drew (h : RowsD S b gs gm cs left w) : RowsD S b gs gm cs left w.drew := ⟨h.r0, h.r1.drew, h.r2, h.keys, h.armed, h.small⟩
theorem RowsD.alloc (h : RowsD S b gs gm cs left w) (o : Obj) : RowsD S b gs gm cs left (w.alloc o) := h.below ((Below.refl w.heap.size w).alloc (Nat.le_refl _) o)
theorem RowsD.c0 (h : RowsD S b gs gm cs left w) : w.cell? ⟨b, 0, none⟩ = some (.slice (some ⟨gs, 0, none⟩) S.n cs) := h.r0.cell (j := 0) rfl
theorem RowsD.c1 (h : RowsD S b gs gm cs left w) : w.cell? ⟨b, 1, none⟩ = some (.map (some gm)) := h.r0.cell (j := 1) rfl
theorem RowsD.c2 (h : RowsD S b gs gm cs left w) : w.cell? ⟨b, 2, none⟩ = some (.int .i64 (S.acts : Int)) := h.r0.cell (j := 2) rfl
theorem RowsD.c3 (h : RowsD S b gs gm cs left w) : w.cell? ⟨b, 3, none⟩ = some (.int .i64 (left : Int)) := h.r0.cell (j := 3) rfl
theorem RowsD.c4 (h : RowsD S b gs gm cs left w) : w.cell? ⟨b, 4, none⟩ = some (.bool S.off) := h.r0.cell (j := 4) rfl
end
theorem RowsD.remap {S : DiskSt} {b gs gm cs left : Nat} {w : World} (h : RowsD S b gs gm cs left w) (hd : DistD b gs gm) {es es2 : Array MapEntry} {clock clock2 : Nat} {f : Nat → Option ByteArray} (hb : w.heap[gm]? = some (.map es clock)) (M : Mapped es2 clock2 f)
    (hk : ∀ k s, f k = some s → k < S.n) : RowsD { S with last := f } b gs gm cs left (setBlock w gm (.map es2 clock2)) :=
  have hs := Nat.le_of_eq (setBlock_size w gm (.map es2 clock2)).symm
  ⟨row_same h.r0 hs (heap_setBlock_other hb _ hd.2.1), h.r1.same hs (heap_setBlock_other hb _ hd.2.2), ⟨es2, clock2, heap_setBlock_same hb _, M⟩, hk, h.armed, h.small⟩
theorem disk_local (S : DiskSt) (a : Addr) : Local (Disk S a) := by
  rintro w w' F ⟨b, gs, gm, cs, left, rfl, hd, h, hF⟩ hs hk
  exact ⟨b, gs, gm, cs, left, rfl, hd, h.same hs (hk b ((hF b).2 (Or.inl rfl))) (hk gs ((hF gs).2 (Or.inr (Or.inl rfl)))) (hk gm ((hF gm).2 (Or.inr (Or.inr rfl)))), hF⟩
theorem disk_small {S : DiskSt} {a : Addr} {w : World} {F : Nat → Prop} (h : Disk S a w F) : S.n ≤ 64 := by
  obtain ⟨b, gs, gm, cs, left, rfl, hd, h, hF⟩ := h
  exact h.small.1
/-- what a method of the platter's leaves -/
def Done (S' : DiskSt) (a : Addr) (F : Nat → Prop) (w w' : World) : Prop := Apart F w w' ∧ ∃ F', Disk S' a w' F' ∧ ∀ k, F' k → k < w'.heap.size ∧ (F k ∨ w.heap.size ≤ k)
theorem Done.of {S' : DiskSt} {b gs gm cs left : Nat} {w w' : World} {F : Nat → Prop} (ha : Apart F w w') (hd : DistD b gs gm) (h : RowsD S' b gs gm cs left w') (hF : ∀ k, F k ↔ k = b ∨ k = gs ∨ k = gm) (hlt : ∀ k, F k → k < w.heap.size) : Done S' ⟨b, 0, none⟩ F w w' :=
  ⟨ha, F, ⟨b, gs, gm, cs, left, rfl, hd, h, hF⟩, fun k hk => ⟨Nat.lt_of_lt_of_le (hlt k hk) ha.size, Or.inl hk⟩⟩
theorem Apart.refl (F : Nat → Prop) (w : World) : Apart F w w := ⟨rfl, rfl, rfl, Nat.le_refl _, fun _ _ _ => rfl⟩
theorem Apart.drew {F : Nat → Prop} {w w' : World} (h : Apart F w w') : Apart F w w'.drew := ⟨h.os, h.tape, h.output, h.size, h.block⟩
theorem Apart.then_ {F : Nat → Prop} {w w' w2 : World} (h : Apart F w w') (k : Apart F w' w2) : Apart F w w2 := h.trans k (fun _ h => Or.inl h)
/-- a world in which new blocks stand beside -/
theorem Apart.new {F : Nat → Prop} {w w' w2 : World} (h : Apart F w w') (k : Below w.heap.size w' w2) : Apart F w w2 :=
  ⟨k.os.trans h.os, k.tape.trans h.tape, k.output.trans h.output, Nat.le_trans h.size k.size, fun j hj hn => (k.block j hj).trans (h.block j hj hn)⟩

theorem disk_off (S : DiskSt) (a : Addr) (w : World) (h : ∃ F, Disk S a w F) :
    Calls Try.prog 20 #[.pointer (some a)] w fun e w' => e = .returned (.bool S.off) ∧ Below w.heap.size w w' := by
  obtain ⟨F, b, gs, gm, cs, left, rfl, _, h, _⟩ := h
  have c4 := h.c4
  have b0 := Below.refl w.heap.size w
  clear h
  go_enter Try.func20, Try.ntmps20
  go_wp2
  go_ret
  exact ⟨rfl, b0⟩
theorem disk_acts (S : DiskSt) (a : Addr) (w : World) (h : ∃ F, Disk S a w F) :
    Calls Try.prog 22 #[.pointer (some a)] w fun e w' => e = .returned (.int .i64 (S.acts : Int)) ∧ Below w.heap.size w w' := by
  obtain ⟨F, b, gs, gm, cs, left, rfl, _, h, _⟩ := h
  have c2 := h.c2
  have b0 := Below.refl w.heap.size w
  clear h
  go_enter Try.func22, Try.ntmps22
  go_wp2
  go_ret
  exact ⟨rfl, b0⟩
theorem disk_has (S : DiskSt) (a : Addr) (k : Int) (w : World) (h : ∃ F, Disk S a w F) (hk : (Lit.int .i64 k).wf = true) :
    Calls Try.prog 24 #[.pointer (some a), .int .i64 k] w fun e w' => e = .returned (.bool (S.has k)) ∧ w' = w := by
  obtain ⟨F, b, gs, gm, cs, left, rfl, _, h, _⟩ := h
  have c0 := h.c0
  have hb := bounds_i64 hk
  unfold DiskSt.has
  clear h
  by_cases h0 : 0 ≤ k
  · have d0 : decide (0 ≤ k) = true := by simp; omega
    rw [d0]
    by_cases h1 : k < S.n
    · have d1 : decide (k < (S.n : Int)) = true := by simp; omega
      rw [d1]
      clear h0 h1
      go_enter Try.func24, Try.ntmps24
      go_wp2
      go_ret
      exact ⟨rfl, rfl⟩
    · have d1 : decide (k < (S.n : Int)) = false := by simp; omega
      rw [d1]
      clear h0 h1
      go_enter Try.func24, Try.ntmps24
      go_wp2
      go_ret
      exact ⟨rfl, rfl⟩
  · have d0 : decide (0 ≤ k) = false := by simp; omega
    rw [d0]
    clear h0
    go_enter Try.func24, Try.ntmps24
    go_wp2
    go_ret
    exact ⟨rfl, rfl⟩
theorem disk_arm (S : DiskSt) (a : Addr) (m : Int) (_hf : S.Few) (hm : (Lit.int .i64 m).wf = true) :
    Acts Try.prog 19 #[.pointer (some a), .int .i64 m] (.returned (.int .i64 (DiskSt.armE m))) (Disk S a) (Disk (S.arm m) a) := by
  rintro w F ⟨b, gs, gm, cs, left, rfl, hd, h, hF⟩ hlt
  have hb := bounds_i64 hm
  show Calls _ _ _ _ fun e w' => e = _ ∧ Done (S.arm m) ⟨b, 0, none⟩ F w w'
  unfold DiskSt.armE
  by_cases hok : 0 ≤ m ∧ m ≤ 1099511627776
  · rw [if_pos hok]
    have eS : S.arm m = { S with armed := if m = 0 then 0 else S.acts + m.toNat } := if_pos hok
    obtain ⟨q, rfl⟩ : ∃ q : Nat, m = (q : Int) := ⟨m.toNat, by omega⟩
    have c3 := h.c3
    have f3 := h.r0.free (j := 3) (by simp)
    have d1 : decide ((q : Int) < 0) = false := by simp
    have d2 : decide (1099511627776 < (q : Int)) = false := by simp; omega
    have Y := Lib.hid (show Done (S.arm (q : Int)) ⟨b, 0, none⟩ F w (w.setCell ⟨b, 3, none⟩ (.int .i64 (q : Int))) from by
      refine Done.of (cs := cs) (left := q) (apart_set (p := ⟨b, 3, none⟩) _ ((hF b).2 (Or.inl rfl))) hd ?_ hF hlt
      rw [eS]
      refine ⟨h.r0.set_ 3 (.int .i64 (q : Int)), h.r1.far (p := ⟨b, 3, none⟩) (by exact hd.1) _, h.r2.same (Below.heap_setCell w ⟨b, 3, none⟩ _ gm (fun e => hd.2.1 e.symm)), h.keys, ⟨by omega, fun _ => ?_⟩, h.small⟩
      show (if (q : Int) = 0 then 0 else S.acts + ((q : Int)).toNat) = if q = 0 then 0 else S.acts + q
      by_cases e : q = 0
      · rw [if_pos e, if_pos (by omega)]
      · rw [if_neg e, if_neg (by omega)]
        rfl)
    clear h hok eS hd hF hlt
    go_enter Try.func19, Try.ntmps19
    go_wp2
    go_ret
    exact ⟨rfl, Y.out⟩
  · rw [if_neg hok, show S.arm m = S from if_neg hok]
    have Y := Lib.hid (Done.of (Apart.refl F w) hd h hF hlt)
    clear h hd hF hlt
    by_cases h0 : m < 0
    · have d1 : decide (m < 0) = true := by simp; omega
      clear hok h0
      go_enter Try.func19, Try.ntmps19
      go_wp2
      go_ret
      exact ⟨rfl, Y.out⟩
    · have d1 : decide (m < 0) = false := by simp; omega
      have d2 : decide (1099511627776 < m) = true := by simp; omega
      clear hok h0
      go_enter Try.func19, Try.ntmps19
      go_wp2
      go_ret
      exact ⟨rfl, Y.out⟩
end Go.Proofs.Ytoalckcpahnpmaa
