/- Cached and Image: lists that are made. -/
import Derived.Test.YtoalckcpahnpmaaDiskBase
namespace Go.Proofs.Ytoalckcpahnpmaa
open Go.RowKit Go.ChangeShapes Go.WideShapes

set_option maxHeartbeats 800000 in
set_option maxRecDepth 100000 in
theorem disk_cached_own (S : DiskSt) (a : Addr) (w : World) (h : ∃ F, Disk S a w F) :
    Calls Try.prog 16 #[.pointer (some a)] w fun e w' => ∃ A c, e = .returned (.slice A S.cached.length c) ∧ Own w' w.heap.size 3 A S.cached.length c (S.cached.map intV) ∧ Below w.heap.size w w' := by
  obtain ⟨F, b, gs, gm, cs, left, rfl, _, R0, _⟩ := h
  have R := Lib.hid R0
  have c0 := R0.c0
  have n64 := R0.small.1
  clear R0
  go_enter Try.func16, Try.ntmps16
  go_wp2
  go_loopw [3, 12] (fun v i wr => ∃ (k : Nat) (A' : Option Addr) (c' : Nat), k ≤ S.n ∧ i = .int .i64 k ∧ v = .slice A' ((List.range k).filter (fun k => (S.last k).isSome)).length c' ∧
    Own wr w.heap.size 3 A' ((List.range k).filter (fun k => (S.last k).isSome)).length c' (((List.range k).filter (fun k => (S.last k).isSome)).map intV) ∧ Below w.heap.size w wr) (fun _ i _ => S.n - (intOf i).toNat)
  case atStart => exact ⟨0, none, 0, Nat.zero_le _, rfl, rfl, Own.nil _ _ _, Below.refl _ _⟩
  case round =>
    obtain ⟨k, A', c', hk, rfl, rfl, hown, hbr⟩ := hrel
    have hup := cached_up S k
    have hle := List.length_filter_le (fun k => (S.last k).isSome) (List.range k)
    rw [List.length_range] at hle
    have hR := R.out.below hbr
    have c1 := hR.c1
    by_cases hkn : k < S.n
    · have dk : decide ((k : Int) < S.n) = true := by simp; omega
      have kn : (k : Int) < S.n := by omega
      obtain ⟨es, clock, hb, M⟩ := hR.r2
      have hlk := run_look M hb (k := k) (by omega)
      obtain ⟨u, hu⟩ : ∃ u, (S.last k).getD noughtB = u := ⟨_, rfl⟩
      rw [hu] at hlk
      have hst := run_secstore wr u
      obtain ⟨l, hl⟩ : ∃ l, (List.range k).filter (fun k => (S.last k).isSome) = l := ⟨_, rfl⟩
      rw [hl] at hup hle hown
      rw [hl]
      have HB := Lib.hid (hbr.alloc hbr.size (.cells (secV u).toArray 55))
      have HO := Lib.hid (hown.later ((Below.refl _ _).alloc (Nat.le_refl _) (.cells (secV u).toArray 55)))
      clear hR hbr hown hl es hu hb M
      cases hs : (S.last k).isSome with
      | false =>
        rw [hs, if_neg (by decide), List.append_nil] at hup
        replace hlk : (Instr.lookup 51 (.map (some gm)) (.int .i64 (k : Int)) true).run Try.prog wr = .ok (.tuple #[.agg (secV u).toArray, .bool false]) wr := by rw [hlk, hs]; rfl
        have HU := Lib.hid hup
        clear hup hs
        go_wp2
        go_roundw
        case rel => exact ⟨k + 1, A', c', by omega, by go_num, by rw [HU.out], by rw [HU.out]; exact HO.out, HB.out⟩
        case measure => simp [intOf]; omega
      | true =>
        rw [hs, if_pos rfl] at hup
        replace hlk : (Instr.lookup 51 (.map (some gm)) (.int .i64 (k : Int)) true).run Try.prog wr = .ok (.tuple #[.agg (secV u).toArray, .bool true]) wr := by rw [hlk, hs]; rfl
        have HU := Lib.hid hup
        obtain ⟨N, hN⟩ : ∃ N, l.length = N := ⟨_, rfl⟩
        rw [hN] at hle
        have HN := Lib.hid hN
        have HO2 := Lib.hid (show Own (wr.alloc (.cells (secV u).toArray 55)) w.heap.size 3 A' N c' (l.map intV) from hN ▸ HO.out)
        rw [hN]
        clear hup hs hN HO
        go_wp2_with (at_builtin; refine wpList_app (N := N + 1) 23 3 8 (.int .i64 0) rfl _ _ rfl Try.underlying23 infoI rfl rfl (HO2.out.later ((Below.refl _ _).alloc (Nat.le_refl _) _)) rfl (reads_lit2 _ _ [.int .i64 k] _ 1 rfl) (intV_one [k]) rfl (by unfold maxLen; omega) (by omega) (by have := HB.out.size; simp at this ⊢; omega) ?_; intro A2 c3 w3 hown3 hgr3 hbd3)
        go_roundw
        case rel => exact ⟨k + 1, A2, c3, by omega, by go_num, by rw [HU.out, List.length_append, HN.out]; rfl, by
          rw [HU.out, List.map_append, List.length_append, HN.out]
          exact hown3, (HB.out.alloc HB.out.size _).trans hbd3⟩
        case measure => simp [intOf]; omega
    · obtain rfl : k = S.n := by omega
      have dk : decide ((S.n : Int) < S.n) = false := by simp
      have HO := Lib.hid hown
      clear hown hR
      go_wp2
      go_ret
      exact ⟨A', c', rfl, HO.out, hbr⟩
theorem disk_cached (S : DiskSt) (a : Addr) (w : World) (h : ∃ F, Disk S a w F) :
    Calls Try.prog 16 #[.pointer (some a)] w fun e w' => Below w.heap.size w w' ∧ ∃ A c, e = .returned (.slice A S.cached.length c) ∧ Reads w' w'.heap.size A S.cached.length (S.cached.map fun k : Nat => .int .i64 (k : Int)) ∧ ∀ b o, A = some ⟨b, o, none⟩ → w.heap.size ≤ b := by
  refine (disk_cached_own S a w h).mono ?_
  rintro e w' ⟨A, c, rfl, own, bb⟩
  exact ⟨bb, A, c, rfl, own.reads, fun b o e => by subst e; exact fresh7 own⟩
theorem infoS : (Try.prog.info? 9).map (fun i => (i.zero, i.size, i.bytes)) = some (some (.string ⟨#[]⟩), 1, 16) := by kernel_rfl
set_option maxHeartbeats 800000 in
set_option maxRecDepth 100000 in
theorem disk_image (S : DiskSt) (a : Addr) (w : World) (h : ∃ F, Disk S a w F) (hw : S.Whole) :
    Calls Try.prog 15 #[.pointer (some a)] w fun e w' => Below w.heap.size w w' ∧ ∃ A c, e = .returned (.slice A S.n c) ∧ Reads w' w'.heap.size A S.n (((List.range S.n).map S.sure).map .string) ∧ ∀ b o, A = some ⟨b, o, none⟩ → w.heap.size ≤ b := by
  obtain ⟨F, b, gs, gm, cs, left, rfl, _, R0, _⟩ := h
  have R := Lib.hid R0
  have c0 := R0.c0
  have n64 := R0.small.1
  have HW := Lib.hid hw.1
  clear R0 hw
  go_enter Try.func15, Try.ntmps15
  go_wp2
  go_loopw [3, 11] (fun v i wr => ∃ (k : Nat) (A' : Option Addr) (c' : Nat), k ≤ S.n ∧ i = .int .i64 k ∧ v = .slice A' k c' ∧ Own wr w.heap.size 9 A' k c' (((List.range k).map S.sure).map .string) ∧ Below w.heap.size w wr) (fun _ i _ => S.n - (intOf i).toNat)
  case atStart => exact ⟨0, none, 0, Nat.zero_le _, rfl, rfl, Own.nil _ _ _, Below.refl _ _⟩
  case round =>
    obtain ⟨k, A', c', hk, rfl, rfl, hown, hbr⟩ := hrel
    by_cases hkn : k < S.n
    · have dk : decide ((k : Int) < S.n) = true := by simp; omega
      have kn : (k : Int) < S.n := by omega
      have hR := R.out.below hbr
      have HR := Lib.hid (hR.r1.at_ k hkn)
      have hst := run_secstore wr (S.sure k)
      have hcv := run_secstr wr (HW.out k)
      have HB := Lib.hid (hbr.alloc hbr.size (.cells (secV (S.sure k)).toArray 55))
      have HO := Lib.hid (hown.later ((Below.refl _ _).alloc (Nat.le_refl _) (.cells (secV (S.sure k)).toArray 55)))
      clear hR hbr hown
      go_wp2_with (first
        | (refine wpList_load_mid rfl _ _ rfl gs (k * 64) rfl (secV (S.sure k)) _ HR.out Try.underlying55 rfl (by rw [zero_sec.2, secV_len]) ?_)
        | (at_builtin; refine wpList_app (N := k + 1) 38 9 16 (.string ⟨#[]⟩) rfl _ _ rfl Try.underlying38 infoS rfl rfl (HO.out.later ((Below.refl _ _).alloc (Nat.le_refl _) _)) rfl (reads_lit2 _ _ [.string (S.sure k)] _ 1 rfl) (strs_oneCell [S.sure k]) rfl (by unfold maxLen; omega) (by omega) (by have := HB.out.size; simp at this ⊢; omega) ?_; intro A2 c3 w3 hown3 hgr3 hbd3))
      go_roundw
      case rel => exact ⟨k + 1, A2, c3, by omega, by go_num, rfl, by
        rw [List.range_succ, List.map_append, List.map_append]
        exact hown3, (HB.out.alloc HB.out.size _).trans hbd3⟩
      case measure => simp [intOf]; omega
    · obtain rfl : k = S.n := by omega
      have dk : decide ((S.n : Int) < S.n) = false := by simp
      have HO := Lib.hid hown
      clear hown
      go_wp2
      go_ret
      exact ⟨hbr, A', c', rfl, HO.out.reads, fun b o e => by subst e; exact fresh7 HO.out⟩
end Go.Proofs.Ytoalckcpahnpmaa
