/- Walks over package plan: Split. -/
import Derived.Test.YthckkmoafobmnaaPlanPcs
import Derived.Test.YthckkmoafobmnaaPlanFl
import Derived.Test.YthckkmoafobmnaaPlanSmall
namespace Go.Proofs.Ythckkmoafobmnaa
open Go.RowKit Go.ChangeShapes Go.WideShapes

/-- one block more -/
def growP (l : List (Nat × Nat × Nat)) (st c : Nat) : List (Nat × Nat × Nat) :=
  match l.getLast? with
  | none => [(st, c, 1)]
  | some p => if p.1 = st then l.set (l.length - 1) (p.1, p.2.1, p.2.2 + 1) else l ++ [(st, c, 1)]
theorem grow_pieces (m a k : Nat) (h2 : 2 ≤ m) (h5 : m < 6) (ha : a < 48) (hk : k < 4) : pieces 4 m a (k + 1) = growP (pieces 4 m a k) ((a + k) / m) ((a + k) % m) := by
  have key : ∀ (m : Fin 6) (a : Fin 48) (k : Fin 4), 2 ≤ m.val → pieces 4 m.val a.val (k.val + 1) = growP (pieces 4 m.val a.val k.val) ((a.val + k.val) / m.val) ((a.val + k.val) % m.val) := by decide +kernel
  exact key ⟨m, h5⟩ ⟨a, ha⟩ ⟨k, hk⟩ h2
theorem pieces_small (m a k : Nat) (h2 : 2 ≤ m) (h5 : m < 6) (ha : a < 48) (hk : k < 5) : (pieces 4 m a k).length ≤ 4 ∧ ∀ p ∈ pieces 4 m a k, p.1 < 64 ∧ p.2.2 < 8 := by
  have key : ∀ (m : Fin 6) (a : Fin 48) (k : Fin 5), 2 ≤ m.val → (pieces 4 m.val a.val k.val).length ≤ 4 ∧ ∀ p ∈ pieces 4 m.val a.val k.val, p.1 < 64 ∧ p.2.2 < 8 := by decide +kernel
  exact key ⟨m, h5⟩ ⟨a, ha⟩ ⟨k, hk⟩ h2
theorem grow_nil (st c : Nat) : growP [] st c = [(st, c, 1)] := rfl
theorem grow_same {l : List (Nat × Nat × Nat)} {k : Nat} {p : Nat × Nat × Nat} (hl : l.length = k + 1) (hp : l[k]? = some p) (c : Nat) : growP l p.1 c = l.set k (p.1, p.2.1, p.2.2 + 1) := by
  have e : l.getLast? = some p := by rw [List.getLast?_eq_getElem?, hl]; exact hp
  rw [growP, e]
  simp [hl]
theorem grow_new {l : List (Nat × Nat × Nat)} {k : Nat} {p : Nat × Nat × Nat} (hl : l.length = k + 1) (hp : l[k]? = some p) (st c : Nat) (h : p.1 ≠ st) : growP l st c = l ++ [(st, c, 1)] := by
  have e : l.getLast? = some p := by rw [List.getLast?_eq_getElem?, hl]; exact hp
  rw [growP, e]
  simp [h]
theorem spot_on {P : Program} (w : World) (t : TypeId) (s c : Nat) (hs : s < 16) (hc : c < 16) : (binOp .add t (.complex .f64 (flt s) (flt c)) (.complex .f64 0 4607182418800017408)).run P w = .ok (.complex .f64 (flt s) (flt (c + 1))) w := by
  have e0 : (0 : Nat) = flt 0 := by kernel_rfl
  have e1 : 4607182418800017408 = flt 1 := by kernel_rfl
  rw [e1, show (Value.complex .f64 0 (flt 1)) = .complex .f64 (flt 0) (flt 1) by rw [← e0]]
  exact spot_up w t s c hs hc
theorem line_on {P : Program} (w : World) (t : TypeId) (s : Nat) (hs : s < 16) : (binOp .add t (.float .f64 (flt s)) (.float .f64 4607182418800017408)).run P w = .ok (.float .f64 (flt (s + 1))) w := by
  have e1 : 4607182418800017408 = flt 1 := by kernel_rfl
  rw [e1]
  exact one_up w t s hs

set_option maxRecDepth 100000 in
set_option maxHeartbeats 1600000 in
theorem plan_grown (l : List (Nat × Nat × Nat)) (A : Option Addr) (c B st cl : Nat) (w : World) (hown : OwnP w B A l.length c l) (hn : l.length ≤ 8) (hq : ∀ p ∈ l, p.2.2 < 100) (hst : st < 16) (hcl : cl < 16) (hB : B ≤ w.heap.size) :
    Calls Try.prog 57 #[.slice A l.length c, .complex .f64 (flt st) (flt cl)] w fun e w' => ∃ A' c', e = .returned (.slice A' (growP l st cl).length c') ∧ OwnP w' B A' (growP l st cl).length c' (growP l st cl) ∧ Below B w w' := by
  have f1 := flt_to (P := Try.prog) w 73 3 st hst (by kernel_rfl) (by kernel_rfl)
  have f2 := flt_to (P := Try.prog) w 73 3 cl hcl (by kernel_rfl) (by kernel_rfl)
  rcases Nat.eq_zero_or_pos l.length with h0 | h0
  · obtain rfl : l = [] := List.eq_nil_of_length_eq_zero h0
    rw [grow_nil]
    have HO := Lib.hid (show OwnP w B A 0 c [] from hown)
    clear hown hq hn h0
    rw [show ([] : List (Nat × Nat × Nat)).length = 0 from rfl]
    go_enter Try.func57, Try.ntmps57
    go_wp2_with (at_builtin; refine wpList_appP (N := 1) 44 24 _ rfl _ _ rfl Try.underlying44 info_piece rfl rfl (HO.out.later ((Below.refl _ _).alloc (Nat.le_refl _) _)) rfl (readsP_one _ st cl 1 _) rfl (by unfold maxLen; omega) (by omega) (by simp; omega) ?_; intro A2 c2 w3 hown3 hgr3 hbd3)
    go_ret
    exact ⟨A2, c2, rfl, hown3, ((Below.refl B w).alloc hB _).trans hbd3⟩
  · obtain ⟨k, hk⟩ : ∃ k, l.length = k + 1 := ⟨l.length - 1, by omega⟩
    obtain ⟨p, hp⟩ : ∃ p, l[k]? = some p := ⟨l[k], List.getElem?_eq_getElem (by omega)⟩
    have hpq := hq p (List.mem_of_getElem? hp)
    obtain ⟨x, y, q⟩ := p
    have hq100 : q < 100 := hpq
    obtain ⟨g, rfl⟩ : ∃ g, A = some ⟨g, 0, none⟩ := by
      rcases hown.2 with ⟨_, h⟩ | ⟨g, cap, cur, hv, _⟩
      · omega
      · simp only [Value.slice.injEq] at hv
        exact ⟨g, hv.1⟩
    have hr := hown.reads
    obtain ⟨b, o, e, _, hcell⟩ := hr.2.2 (by omega)
    cases e
    obtain ⟨t0, _, t2⟩ := pcs_tag l k _ hp
    have q0 : w.cell? ⟨g, k * 3, none⟩ = some (.int .i64 (x : Int)) := by
      have := hcell _ _ t0
      rw [Nat.zero_add] at this
      exact this
    have q2 : w.cell? ⟨g, k * 3 + 2, none⟩ = some (.int .i64 (q : Int)) := by
      have := hcell _ _ t2
      rw [Nat.zero_add] at this
      exact this
    have z2 : w.frozen? ⟨g, k * 3 + 2, none⟩ = false := World.ownsRow.frozenAt hown _
    clear hr hcell t0 t2
    have hwk : IntKind.i64.wrap (((k + 1 : Nat) : Int) - 1) = k := by rw [IntKind.wrap_i64]; omega
    rw [hk] at hown hn ⊢
    have HO := Lib.hid hown
    have HK := Lib.hid hk
    have HP := Lib.hid hp
    clear hown hk hp hq h0
    by_cases hs : x = st
    · subst hs
      rw [show growP l x cl = l.set k (x, y, q + 1) from grow_same HK.out HP.out cl, List.length_set, HK.out]
      go_enter Try.func57, Try.ntmps57
      go_wp2_with fail
      go_ret
      exact ⟨_, c, rfl, OwnP.set_ HO.out HP.out (q + 1), (Below.refl B w).setCell (HO.out.lt g rfl).2 _⟩
    · have dn : ((x : Int) == (st : Int)) = false := by simp; omega
      have dn2 : decide (x = st) = false := by simpa using hs
      have dn3 : ((x : Int) != (st : Int)) = true := by simp; omega
      have dn4 : (x != st) = true := by simp; omega
      rw [show growP l st cl = l ++ [(st, cl, 1)] from grow_new HK.out HP.out st cl hs, List.length_append, HK.out, show (k + 1 + [(st, cl, 1)].length) = k + 2 from rfl]
      go_enter Try.func57, Try.ntmps57
      go_wp2_with (at_builtin; refine wpList_appP (N := k + 2) 44 24 _ rfl _ _ rfl Try.underlying44 info_piece rfl rfl (HO.out.later ((Below.refl _ _).alloc (Nat.le_refl _) _)) rfl (readsP_one _ st cl 1 _) rfl (by unfold maxLen; omega) (by omega) (by simp; omega) ?_; intro A2 c2 w3 hown3 hgr3 hbd3)
      go_ret
      exact ⟨A2, c2, rfl, hown3, ((Below.refl B w).alloc hB _).trans hbd3⟩

set_option maxRecDepth 100000 in
set_option maxHeartbeats 1600000 in
theorem plan_behind (N s c s' c' : Nat) (S : Int) (w : World) (h3 : 3 ≤ N) (h6 : N ≤ 6) (hs : 1 ≤ S ∧ S ≤ 8) (hst : s < 15) (hc : c < N - 1) (h : (c + 1 = N - 1 ∧ s' = s + 1 ∧ c' = 0) ∨ (c + 1 ≠ N - 1 ∧ s' = s ∧ c' = c + 1)) :
    Calls Try.prog 58 #[.agg #[.int .i64 N, .int .i64 S], .complex .f64 (flt s) (flt c)] w fun e w' => e = .returned (.complex .f64 (flt s') (flt c')) ∧ Below w.heap.size w w' := by
  obtain ⟨m, hm⟩ : ∃ m : Nat, N - 1 = m := ⟨_, rfl⟩
  have C1 := Lib.hid (fun w' => plat_parity_is (N : Int) S w' (m : Int) (parity_in (cols_right h3 h6 hs) (by omega)))
  have f1 := spot_on (P := Try.prog) (w.alloc (.cells #[.int .i64 N, .int .i64 S] 23)) 72 s c (by omega) (by omega)
  have f2 := flt_to (P := Try.prog) (w.alloc (.cells #[.int .i64 N, .int .i64 S] 23)) 73 3 (c + 1) (by omega) (by kernel_rfl) (by kernel_rfl)
  rw [hm] at h hc
  rcases h with ⟨h, rfl, rfl⟩ | ⟨h, rfl, rfl⟩
  · have d1 : (((c + 1 : Nat) : Int) == (m : Int)) = true := by simp; omega
    have d2 : ((c : Int) + 1 == (m : Int)) = true := by simp; omega
    clear hm hc h
    go_enter Try.func58, Try.ntmps58
    go_wp2_with fail
    refine (C1.out _).mono ?_
    rintro e w1 ⟨rfl, b1⟩
    replace b1 := below_boxed b1
    have f3 := line_on (P := Try.prog) w1 73 s (by omega)
    go_wp2
    go_ret
    exact ⟨show Ending.returned (.complex .f64 (flt (s + 1)) 0) = .returned (.complex .f64 (flt (s + 1)) (flt 0)) by rw [← flt_zero], b1⟩
  · have d1 : (((c + 1 : Nat) : Int) == (m : Int)) = false := by simp; omega
    have d2 : ((c : Int) + 1 == (m : Int)) = false := by simp; omega
    clear hm hc h
    go_enter Try.func58, Try.ntmps58
    go_wp2_with fail
    refine (C1.out _).mono ?_
    rintro e w1 ⟨rfl, b1⟩
    replace b1 := below_boxed b1
    go_wp2
    go_ret
    exact ⟨rfl, b1⟩
end Go.Proofs.Ythckkmoafobmnaa
