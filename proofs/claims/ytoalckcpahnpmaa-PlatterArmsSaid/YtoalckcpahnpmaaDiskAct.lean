/- A platter's acts: act, wake, Lose. -/
import Derived.Test.YtoalckcpahnpmaaDiskBase
namespace Go.Proofs.Ytoalckcpahnpmaa
open Go.RowKit Go.ChangeShapes Go.WideShapes
open Go.ChangeMaps (setBlock heap_setBlock_same heap_setBlock_other)

theorem disk_act (S : DiskSt) (a : Addr) (hf : S.Few) :
    Acts Try.prog 23 #[.pointer (some a)] (.returned (.bool (!S.fails))) (Disk S a) (Disk S.act a) := by
  rintro w F ⟨b, gs, gm, cs, left, rfl, hd, h, hF⟩ hlt
  show Calls _ _ _ _ fun e w' => e = _ ∧ Done S.act ⟨b, 0, none⟩ F w w'
  have c2 := h.c2
  have c3 := h.c3
  have c4 := h.c4
  have f2 := h.r0.free (j := 2) (by simp)
  have f3 := h.r0.free (j := 3) (by simp)
  have f4 := h.r0.free (j := 4) (by simp)
  have hfew : S.acts ≤ 1000000 := hf
  have hl := h.armed
  have hFb : F b := (hF b).2 (Or.inl rfl)
  have far1 : ∀ (w' : World) (j : Nat) (u : Value), Secs w' gs S.n S.sure → Secs (w'.setCell ⟨b, j, none⟩ u) gs S.n S.sure := fun w' j u x => x.far (p := ⟨b, j, none⟩) (by exact hd.1) u
  have far2 : ∀ (w' : World) (j : Nat) (u : Value), MapAt w' gm S.last → MapAt (w'.setCell ⟨b, j, none⟩ u) gm S.last := fun w' j u x => x.same (Below.heap_setCell w' ⟨b, j, none⟩ u gm (fun e => hd.2.1 e.symm))
  have ap : ∀ (w' : World) (j : Nat) (u : Value), Apart F w w' → Apart F w (w'.setCell ⟨b, j, none⟩ u) := fun w' j u x => x.then_ (apart_set (F := F) (p := ⟨b, j, none⟩) u hFb)
  have eN : S.act.n = S.n := DiskSt.n_act S
  have eL : S.act.last = S.last := act_last S
  have eSu : S.act.sure = S.sure := by
    unfold DiskSt.act
    split <;> rfl
  unfold DiskSt.fails
  cases hoff : S.off with
  | true =>
    rw [hoff] at c4
    have e1 : S.act = S := by
      unfold DiskSt.act
      rw [hoff]
      rfl
    rw [e1]
    have Y := Lib.hid (Done.of (Apart.refl F w) hd h hF hlt)
    clear h hd hF hlt hl far1 far2 ap hFb eN eL eSu e1 hoff
    go_enter Try.func23, Try.ntmps23
    go_wp2
    go_ret
    exact ⟨rfl, Y.out⟩
  | false =>
    rw [hoff] at c4
    have hw : IntKind.i64.wrap ((S.acts : Int) + 1) = ((S.acts + 1 : Nat) : Int) := by rw [IntKind.wrap_i64] <;> omega
    have ha := hl.2 hoff
    have eA : S.act = { S with acts := S.acts + 1, off := S.acts + 1 == S.armed } := by
      unfold DiskSt.act
      rw [hoff]
      rfl
    have y0 := h.r0.set_ 2 (.int .i64 ((S.acts + 1 : Nat) : Int))
    rw [hoff] at y0
    have z0 : Apart F w (w.setCell ⟨b, 2, none⟩ (.int .i64 ((S.acts + 1 : Nat) : Int))) := ap w 2 _ (Apart.refl F w)
    have c3' : (w.setCell ⟨b, 2, none⟩ (.int .i64 ((S.acts + 1 : Nat) : Int))).cell? ⟨b, 3, none⟩ = some (.int .i64 (left : Int)) := y0.cell (j := 3) rfl
    have c4' : (w.setCell ⟨b, 2, none⟩ (.int .i64 ((S.acts + 1 : Nat) : Int))).cell? ⟨b, 4, none⟩ = some (.bool false) := y0.cell (j := 4) rfl
    by_cases h0 : left = 0
    · subst h0
      rw [if_pos rfl] at ha
      have e1 : (S.acts + 1 == S.armed) = false := by rw [ha]; rfl
      rw [e1] at eA ⊢
      rw [eA]
      have Y := Lib.hid (show Done { S with acts := S.acts + 1, off := false } ⟨b, 0, none⟩ F w (w.setCell ⟨b, 2, none⟩ (.int .i64 ((S.acts + 1 : Nat) : Int))) from
        Done.of (cs := cs) (left := 0) z0 hd ⟨y0, far1 _ _ _ h.r1, far2 _ _ _ h.r2, h.keys, ⟨by omega, fun _ => ha⟩, h.small⟩ hF hlt)
      clear h hd hF hlt hl far1 far2 ap hFb eN eL eSu hoff ha eA e1 y0 z0
      go_enter Try.func23, Try.ntmps23
      go_wp2
      go_ret
      exact ⟨rfl, Y.out⟩
    · rw [if_neg h0] at ha
      have d1 : decide ((0 : Int) < (left : Int)) = true := by simp; omega
      have hleft := hl.1
      obtain ⟨q, rfl⟩ : ∃ q, left = q + 1 := ⟨left - 1, by omega⟩
      have hw2 : IntKind.i64.wrap (((q + 1 : Nat) : Int) - 1) = (q : Int) := by rw [IntKind.wrap_i64] <;> omega
      have y1 := y0.set_ 3 (.int .i64 (q : Int))
      have c3'' : ((w.setCell ⟨b, 2, none⟩ (.int .i64 ((S.acts + 1 : Nat) : Int))).setCell ⟨b, 3, none⟩ (.int .i64 (q : Int))).cell? ⟨b, 3, none⟩ = some (.int .i64 (q : Int)) := y1.cell (j := 3) rfl
      have f3' := y0.free (j := 3) (by simp)
      have f4' := y1.free (j := 4) (by simp)
      have c4'' : ((w.setCell ⟨b, 2, none⟩ (.int .i64 ((S.acts + 1 : Nat) : Int))).setCell ⟨b, 3, none⟩ (.int .i64 (q : Int))).cell? ⟨b, 4, none⟩ = some (.bool false) := y1.cell (j := 4) rfl
      have z1 := ap _ 3 (.int .i64 (q : Int)) z0
      by_cases hq : q = 0
      · subst hq
        have e1 : (S.acts + 1 == S.armed) = true := by rw [ha]; simp
        rw [e1] at eA ⊢
        rw [eA]
        have y2 := y1.set_ 4 (.bool true)
        have c4n := y2.cell (j := 4) (u := .bool true) rfl
        have Y := Lib.hid (show Done { S with acts := S.acts + 1, off := true } ⟨b, 0, none⟩ F w (((w.setCell ⟨b, 2, none⟩ (.int .i64 ((S.acts + 1 : Nat) : Int))).setCell ⟨b, 3, none⟩ (.int .i64 ((0 : Nat) : Int))).setCell ⟨b, 4, none⟩ (.bool true)) from
          Done.of (cs := cs) (left := 0) (ap _ 4 _ z1) hd ⟨y2, far1 _ _ _ (far1 _ _ _ (far1 _ _ _ h.r1)), far2 _ _ _ (far2 _ _ _ (far2 _ _ _ h.r2)), h.keys, ⟨by omega, fun h => by cases h⟩, h.small⟩ hF hlt)
        clear h hd hF hlt hl far1 far2 ap hFb eN eL eSu hoff ha eA e1 y0 z0 y1 y2 z1 h0 hleft
        go_enter Try.func23, Try.ntmps23
        go_wp2
        go_ret
        exact ⟨rfl, Y.out⟩
      · have e1 : (S.acts + 1 == S.armed) = false := by rw [ha]; simp; omega
        have bq : (q : Int) ≤ 1099511627776 := by omega
        rw [e1] at eA ⊢
        rw [eA]
        have d2 : ((q : Int) == 0) = false := by simp; omega
        have y2 := y1.set_ 4 (.bool false)
        have c4n := y2.cell (j := 4) (u := .bool false) rfl
        have Y := Lib.hid (show Done { S with acts := S.acts + 1, off := false } ⟨b, 0, none⟩ F w (((w.setCell ⟨b, 2, none⟩ (.int .i64 ((S.acts + 1 : Nat) : Int))).setCell ⟨b, 3, none⟩ (.int .i64 (q : Int))).setCell ⟨b, 4, none⟩ (.bool false)) from
          Done.of (cs := cs) (left := q) (ap _ 4 _ z1) hd ⟨y2, far1 _ _ _ (far1 _ _ _ (far1 _ _ _ h.r1)), far2 _ _ _ (far2 _ _ _ (far2 _ _ _ h.r2)), h.keys, ⟨by omega, fun _ => by
            show S.armed = if q = 0 then 0 else S.acts + 1 + q
            rw [if_neg hq, ha]
            omega⟩, h.small⟩ hF hlt)
        clear h hd hF hlt hl far1 far2 ap hFb eN eL eSu hoff ha eA e1 y0 z0 y1 y2 z1 h0 hleft
        go_enter Try.func23, Try.ntmps23
        go_wp2
        go_ret
        exact ⟨rfl, Y.out⟩

/-- clear(m), m a map -/
theorem run_clearmap {P : Program} {w : World} {T k e ty : TypeId} (ht : P.underlying T = some (.map k e)) {b : Nat} {es : Array MapEntry} {clock : Nat} (hb : w.heap[b]? = some (.map es clock)) :
    (Builtin.clear_ #[T] ty #[.map (some b)]).run P w = .ok (.tuple #[]) (setBlock w b (.map #[] clock)) := by
  simp [Builtin.clear_, run_underlying ht, MapKept.run_getObj_map hb, MapKept.run_setObj_map _ hb, Result.andThen, setBlock]
theorem zeros_all (k n : Nat) (z : Value) (hk : 0 < k) : (Builtin.zeroCells (List.replicate k z).toArray n).toList = List.replicate (n * k) z := by
  have hs : (List.replicate k z).toArray.size = k := by simp
  unfold Builtin.zeroCells
  rw [hs]
  refine List.ext_getElem? fun p => ?_
  by_cases hp : p < n * k
  · rw [List.getElem?_replicate, if_pos hp]
    have hm : p % k < k := Nat.mod_lt _ hk
    have hp2 : p < (Array.map (fun i => (List.replicate k z).toArray[i % k]!) (Array.range (n * k))).toList.length := by simpa using hp
    rw [List.getElem?_eq_getElem hp2]
    simp [hm]
  · rw [List.getElem?_eq_none (by simp; omega), List.getElem?_eq_none (by simp; omega)]
theorem zeros_list (n : Nat) : (Builtin.zeroCells (secA noughtB).cells n).toList = List.replicate (n * 64) (.int .u8 0) := by
  show (Builtin.zeroCells (secV noughtB).toArray n).toList = _
  rw [secV_nought]
  exact zeros_all 64 n _ (by omega)
/-- clear(l), l a list of sectors -/
theorem run_clearrow {w : World} {g n c : Nat} {f : Nat → ByteArray} (ty : TypeId) (h : Secs w g n f) :
    (Builtin.clear_ #[50] ty #[.slice (some ⟨g, 0, none⟩) n c]).run Try.prog w = .ok (.tuple #[]) (w.setCells g 0 (List.replicate (n * 64) (.int .u8 0))) := by
  cases n with
  | zero => simp [Builtin.clear_, run_underlying Try.underlying50, Result.andThen, World.setCells]
  | succ n =>
    have hc : ∀ j, j < (List.replicate ((n + 1) * 64) (Value.int .u8 0)).length → (w.cell? ⟨g, 0 + 0 + j, none⟩).isSome = true ∧ w.frozen? ⟨g, 0 + 0 + j, none⟩ = false := fun j hj => by
      rw [List.length_replicate] at hj
      have e := (h.free (j / 64) (by omega)) (j % 64) (Nat.mod_lt _ (by omega))
      rw [show j / 64 * 64 + j % 64 = 0 + 0 + j by omega] at e
      exact e
    have hst := run_storeCells_cells (P := Try.prog) g 0 (List.replicate ((n + 1) * 64) (Value.int .u8 0)) 0 w (fun j hj => (hc j hj).1) (fun j hj => (hc j hj).2) (fun v hv => by
      rw [List.eq_of_mem_replicate hv]
      rfl)
    rw [← zeros_list] at hst
    rw [← zeros_list]
    simp only [Builtin.clear_]
    simp [Sem.run_bind, run_underlying Try.underlying50, Result.andThen_ok, zero_sec.1, hst]
theorem Secs.cleared {w : World} {g n : Nat} {f : Nat → ByteArray} (h : Secs w g n f) : Secs (w.setCells g 0 (List.replicate (n * 64) (.int .u8 0))) g n fun _ => noughtB := by
  refine ⟨by rw [setCells_size]; exact h.lt, fun k hk j v hj => ?_, fun k hk => World.there_setCells (h.free k hk) _ _ _⟩
  rw [secV_nought, List.getElem?_replicate] at hj
  split at hj
  · rename_i h64
    cases hj
    have e := World.cell?_setCells_in g (List.replicate (n * 64) (Value.int .u8 0)) 0 w (fun i hi => by
      rw [List.length_replicate] at hi
      have e := ((h.free (i / 64) (by omega)) (i % 64) (Nat.mod_lt _ (by omega))).1
      rw [show i / 64 * 64 + i % 64 = 0 + i by omega] at e
      exact e) (k * 64 + j) (by rw [List.length_replicate]; omega)
    rw [Nat.zero_add, List.getElem_replicate] at e
    exact e
  · cases hj
end Go.Proofs.Ytoalckcpahnpmaa
