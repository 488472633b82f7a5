/- A platter that is put on again; an empty one in its place. -/
import Derived.Test.YtoalckcpahnpmaaDiskAct
namespace Go.Proofs.Ytoalckcpahnpmaa
open Go.RowKit Go.ChangeShapes Go.WideShapes
open Go.ChangeMaps (setBlock heap_setBlock_same heap_setBlock_other)

/-- put on again, with what lasts alone -/
def wokeS (S : DiskSt) : DiskSt := { S with last := fun _ => none, armed := 0, off := false }
theorem disk_wake (S : DiskSt) (a : Addr) :
    Acts Try.prog 25 #[.pointer (some a)] (.returned (.tuple #[])) (Disk S a) (Disk (wokeS S) a) := by
  rintro w F ⟨b, gs, gm, cs, left, rfl, hd, h, hF⟩ hlt
  show Calls _ _ _ _ fun e w' => e = _ ∧ Done (wokeS S) ⟨b, 0, none⟩ F w w'
  have c1 := h.c1
  obtain ⟨es, clock, hb, M⟩ := h.r2
  have e0 : (setBlock w gm (.map #[] clock)).heap[b]? = w.heap[b]? := heap_setBlock_other hb _ hd.2.1
  have e1 : (setBlock w gm (.map #[] clock)).heap[gs]? = w.heap[gs]? := heap_setBlock_other hb _ hd.2.2
  have hs := Nat.le_of_eq (setBlock_size w gm (.map #[] clock)).symm
  have x0 := row_same h.r0 hs e0
  have x1 := h.r1.same hs e1
  have x2 : MapAt (setBlock w gm (.map #[] clock)) gm fun _ => none := ⟨#[], clock, heap_setBlock_same hb _, Mapped.none_ clock⟩
  have ap := apart_block (F := F) hb (.map #[] clock) ((hF gm).2 (Or.inr (Or.inr rfl)))
  have hFb : F b := (hF b).2 (Or.inl rfl)
  obtain ⟨w1, hw1⟩ : ∃ w1, setBlock w gm (.map #[] clock) = w1 := ⟨_, rfl⟩
  rw [hw1] at x0 x1 x2 ap
  have y0 := (x0.set_ 3 (.int .i64 ((0 : Nat) : Int))).set_ 4 (.bool false)
  have f3 := x0.free (j := 3) (by simp)
  have c3 : w1.cell? ⟨b, 3, none⟩ = some (.int .i64 (left : Int)) := x0.cell (j := 3) rfl
  have f4 : (w1.setCell ⟨b, 3, none⟩ (.int .i64 0)).frozen? ⟨b, 4, none⟩ = false := (x0.set_ 3 (.int .i64 ((0 : Nat) : Int))).free (j := 4) (by simp)
  have c4 : (w1.setCell ⟨b, 3, none⟩ (.int .i64 0)).cell? ⟨b, 4, none⟩ = some (.bool S.off) := (x0.set_ 3 (.int .i64 ((0 : Nat) : Int))).cell (j := 4) rfl
  have Y := Lib.hid (show Done (wokeS S) ⟨b, 0, none⟩ F w ((w1.setCell ⟨b, 3, none⟩ (.int .i64 ((0 : Nat) : Int))).setCell ⟨b, 4, none⟩ (.bool false)) from
    Done.of (cs := cs) (left := 0) ((ap.then_ (apart_set (F := F) (p := ⟨b, 3, none⟩) _ hFb)).then_ (apart_set (F := F) (p := ⟨b, 4, none⟩) _ hFb)) hd
      ⟨y0, (x1.far (p := ⟨b, 3, none⟩) (by exact hd.1) _).far (p := ⟨b, 4, none⟩) (by exact hd.1) _,
        (x2.same (Below.heap_setCell w1 ⟨b, 3, none⟩ _ gm (fun e => hd.2.1 e.symm))).same (Below.heap_setCell _ ⟨b, 4, none⟩ _ gm (fun e => hd.2.1 e.symm)), (fun _ _ h => by cases h), ⟨by omega, fun _ => rfl⟩, h.small⟩ hF hlt)
  have hcl := run_clearmap (P := Try.prog) (ty := 0) Try.underlying51 hb
  rw [hw1] at hcl
  clear h hd hF hlt e0 e1 hs x0 x1 x2 ap hFb y0 M hb hw1
  go_enter Try.func25, Try.ntmps25
  go_wp2
  go_end0
  exact ⟨rfl, Y.out⟩
theorem disk_lose (S : DiskSt) (a : Addr) :
    Acts Try.prog 21 #[.pointer (some a)] (.returned (.tuple #[])) (Disk S a) (Disk S.lose a) := by
  rintro w F ⟨b, gs, gm, cs, left, rfl, hd, h, hF⟩ hlt
  show Calls _ _ _ _ fun e w' => e = _ ∧ Done S.lose ⟨b, 0, none⟩ F w w'
  have c0 := h.c0
  obtain ⟨w1, hw1⟩ : ∃ w1, w.setCells gs 0 (List.replicate (S.n * 64) (.int .u8 0)) = w1 := ⟨_, rfl⟩
  have ap := apart_cells (F := F) (List.replicate (S.n * 64) (.int .u8 0)) 0 w ((hF gs).2 (Or.inr (Or.inl rfl)))
  have x1 := h.r1.cleared
  have e0 := setCells_block gs (List.replicate (S.n * 64) (.int .u8 0)) 0 w b hd.1
  have e2 := setCells_block gs (List.replicate (S.n * 64) (.int .u8 0)) 0 w gm hd.2.2.symm
  have hs := Nat.le_of_eq (setCells_size (g := gs) (List.replicate (S.n * 64) (.int .u8 0)) 0 w).symm
  have x0 := row_same h.r0 hs e0
  have x2 := h.r2.same e2
  rw [hw1] at ap x1 x0 x2
  have D : Disk { S with sure := fun _ => noughtB } ⟨b, 0, none⟩ w1 F := ⟨b, gs, gm, cs, left, rfl, hd, ⟨x0, x1, x2, h.keys, h.armed, h.small⟩, hF⟩
  have C := Lib.hid (disk_wake _ _ w1 F D (fun k hk => Nat.lt_of_lt_of_le (hlt k hk) ap.size))
  have AP := Lib.hid ap
  have hcl := run_clearrow (c := cs) 0 h.r1
  rw [hw1] at hcl
  have HF := Lib.hid (fun k (hk : w.heap.size ≤ k) => (Nat.le_trans hk (Nat.le_refl k)))
  clear h hd hF hlt e0 e2 hs x0 x1 x2 ap D hw1
  go_enter Try.func21, Try.ntmps21
  go_wp2_with fail
  refine (C.out).mono ?_
  rintro e w2 ⟨rfl, ap2, F', D2, hF2⟩
  have Y := Lib.hid (show Done S.lose ⟨b, 0, none⟩ F w w2 from ⟨AP.out.then_ ap2, F', D2, fun k hk => ⟨(hF2 k hk).1, (hF2 k hk).2.imp id (fun hle => Nat.le_trans AP.out.size hle)⟩⟩)
  clear D2 hF2 ap2
  go_wp2
  go_end0
  exact ⟨rfl, Y.out⟩
end Go.Proofs.Ytoalckcpahnpmaa
