/- Take, walked: a loop by jumps. -/
import Derived.Test.YtkdkekmgnejhpaaTlvFirst
import Derived.Test.YtkdkekmgnejhpaaJumps
namespace Go.Proofs.Ytkdkekmgnejhpaa
open Go.RowKit Go.ChangeShapes Go.WideShapes

theorem OwnF.setCell {w : World} {B n c : Nat} {A : Option Addr} {l : List (Int × ByteArray)} (h : OwnF w B A n c l) {p : Addr} (hp : p.block < B) (u : Value) : OwnF (w.setCell p u) B A n c l := by
  refine ⟨h.1, ?_⟩
  rcases h.2 with hn | ⟨g, cap, cur, hv, hB, hg, r⟩
  · exact .inl hn
  · exact .inr ⟨g, cap, cur, hv, hB, (Below.heap_setCell w p u g (by omega)).trans hg, r⟩

theorem readsF_at {g : Nat} (w : World) (t : Int) (x : ByteArray) (ty : TypeId) (hg : w.heap.size = g) : ReadsF (w.alloc (.cells #[.int .i64 t, .string x] ty)) (g + 1) (some ⟨g, 0, none⟩) 1 [(t, x)] := by
  subst hg
  exact readsF_one w t x ty

/-- where the run stands at a jump: label 1 again, 0 at the end, 2 where there is no such list -/
def takeJ (s : ByteArray) (w : World) (l : Nat) (a' : Act) (w' : World) : Prop :=
  ∃ (r : ByteArray) (acc : List Fld) (N : Nat) (A : Option Addr) (c : Nat) (b : Bool) (t : Int) (x : ByteArray) (u1 u2 u3 u7 u8 u9 u10 u11 u12 u13 u14 u15 u16 u17 u18 u19 u20 u21 u22 u23 u24 : Value),
    a' = { tmps := #[.string r, u1, u2, u3, .slice A N c, .pointer (some ⟨w.heap.size, 0, none⟩), .bool b, u7, u8, u9, u10, u11, u12, u13, u14, u15, u16, u17, u18, u19, u20, u21, u22, u23, u24], defers := [] } ∧ N = acc.length ∧ Below w.heap.size w w' ∧ Row w' w.heap.size [.int .i64 t, .string x] ∧
    OwnF w' (w.heap.size + 1) A N c (acc.map ofL) ∧ acc.length ≤ 64 ∧
    ((l = 1 ∧ r.size ≤ s.size ∧ takeO (bsOf s) = (takeN (64 - acc.length) (bsOf r)).map (acc ++ ·)) ∨ (l = 0 ∧ takeO (bsOf s) = some acc) ∨ (l = 2 ∧ takeO (bsOf s) = none))
def takeM (l : Nat) (a' : Act) (_ : World) : Nat := if l = 1 then (match a'.tmps.getD 0 undef with | .string r => 1 + r.size | _ => 0) else 0

set_option maxRecDepth 100000 in
set_option maxHeartbeats 1600000 in
theorem tlv_take (s : ByteArray) (w : World) (hs : s.size ≤ 1125899906842624) :
    Calls Try.prog 13 #[.string s] w fun e w' => Below w.heap.size w w' ∧ TakenAs e w' (takeO (bsOf s)) := by
  go_enter Try.func13, Try.ntmps13
  go_wp2
  refine wp_scope_from 1 (takeJ s w) takeM rfl ?_ ?_ ?_
  · intro again
    go_wp2
    go_step3
    rename_i K hK
    refine hK _ _ (again _ _ ⟨s, [], 0, none, 0, false, 0, ⟨#[]⟩, _, _, _, _, _, _, _, _, _, _, _, _, _, _, _, _, _, _, _, _, _, rfl, rfl, (Below.refl _ _).alloc (Nat.le_refl _) _, ?_, OwnF.nil _ _, by simp, Or.inl ⟨rfl, Nat.le_refl _, by simp [takeO]⟩⟩)
    refine ⟨by simp, fun j u hj => ?_⟩
    match j, hj with
    | 0, hj => cases hj; simp
    | 1, hj => cases hj; simp
  · rintro a' w1 ⟨r, acc, _, A, c, b, t, x, u1, u2, u3, u7, u8, u9, u10, u11, u12, u13, u14, u15, u16, u17, u18, u19, u20, u21, u22, u23, u24, rfl, rfl, hb, hrow, hown, hal, hl⟩
    rcases hl with ⟨_, hr, ht⟩ | ⟨h, _⟩ | ⟨h, _⟩
    · have HT := Lib.hid ht
      have HROW := Lib.hid hrow
      have HOWN := Lib.hid hown
      have HB := Lib.hid hb
      clear ht hrow hown hb
      by_cases h0 : r.size = 0
      · obtain rfl : r = ⟨#[]⟩ := ByteArray.ext (Array.eq_empty_of_size_eq_zero h0)
        clear h0
        go_wp2
        go_step3
        refine ⟨⟨_, acc, _, A, c, b, t, x, _, _, _, _, _, _, _, _, _, _, _, _, _, _, _, _, _, _, _, _, _, rfl, rfl, HB.out, HROW.out, HOWN.out, hal, Or.inr (Or.inl ⟨rfl, ?_⟩)⟩, ?_⟩
        · rw [HT.out]
          rw [show bsOf (⟨#[]⟩ : ByteArray) = [] from rfl, takeN_nil]
          simp
        · show (0 : Nat) < 1 + 0
          omega
      · have d0 : r.toList ≠ [] := fun h => h0 (by
          rw [ByteArray.toList_eq] at h
          have := congrArg List.length h
          simpa using this)
        have d1 : (r.toList == []) = false := by simpa using d0
        by_cases h64 : acc.length = 64
        · have d2 : ((acc.length : Int) == 64) = true := by simp; omega
          have H64 := Lib.hid h64
          clear h64
          go_wp2
          go_step3
          refine ⟨⟨_, acc, _, A, c, b, t, x, _, _, _, _, _, _, _, _, _, _, _, _, _, _, _, _, _, _, _, _, _, rfl, rfl, HB.out, HROW.out, HOWN.out, hal, Or.inr (Or.inr ⟨rfl, ?_⟩)⟩, ?_⟩
          · rw [HT.out, H64.out, Nat.sub_self, take_full r h0]
            rfl
          · show (0 : Nat) < 1 + r.size
            omega
        · have d2 : ((acc.length : Int) == 64) = false := by simp; omega
          go_wp2_with fail
          refine (tlv_first r _ (by omega) h0).mono ?_
          rintro e w2 ⟨⟨t2, x2, r2, b2, rfl, hfirst⟩, bel2⟩
          have hgw1 : w.heap.size < w1.heap.size := HROW.out.lt
          have hrow2 : Row w2 w.heap.size [.int .i64 t, .string x] := HROW.out.below bel2 hgw1
          have hown2 := HOWN.out.later bel2
          have B2 := below_call HB.out bel2
          have c0 := hrow2.cell (j := 0) rfl
          have c1 := hrow2.cell (j := 1) rfl
          have f0 := hrow2.free (j := 0) (by simp)
          have f1 := hrow2.free (j := 1) (by simp)
          have HR2 := Lib.hid hrow2
          have HF := Lib.hid hfirst
          have hgw2 : w.heap.size < w2.heap.size := hrow2.lt
          clear hrow2 hfirst
          cases b2 with
          | false =>
            go_wp2
            go_step3
            refine ⟨⟨_, acc, _, A, c, _, t2, x2, _, _, _, _, _, _, _, _, _, _, _, _, _, _, _, _, _, _, _, _, _, rfl, rfl, (B2.setCell (by simp) _).setCell (by simp) _, (HR2.out.set_ 0 _).set_ 1 _, (hown2.setCell (by simp) _).setCell (by simp) _, hal, Or.inr (Or.inr ⟨rfl, ?_⟩)⟩, ?_⟩
            · rw [HT.out, HF.out.2 rfl]
              rfl
            · show (0 : Nat) < 1 + r.size
              omega
          | true =>
            go_wp2_with (at_builtin; refine wpList_appF (N := acc.length + 1) 22 24 _ rfl _ _ rfl Try.underlying22 info_fld rfl rfl ((((hown2.setCell (by simp) _).setCell (by simp) _).later ((Below.refl _ _).alloc (Nat.le_refl _) _))) rfl (readsF_at _ _ _ _ (by simp)) rfl (by unfold maxLen; omega) (by omega) (by simp <;> omega) ?_; intro A2 c2 w3 hown3 hgr3 hbd3)
            go_step3
            obtain ⟨hr2, htk⟩ := HF.out.1 rfl
            refine ⟨⟨r2, acc ++ [(t2, bsOf x2)], _, A2, c2, _, t2, x2, _, _, _, _, _, _, _, _, _, _, _, _, _, _, _, _, _, _, _, _, _, rfl, by rw [List.length_append]; rfl, (((B2.setCell (by simp) _).setCell (by simp) _).alloc (by simp; omega) _).trans (hbd3.mono (by omega)), (((HR2.out.set_ 0 _).set_ 1 _).alloc _).below hbd3 (by omega), ?_, ?_, Or.inl ⟨rfl, by omega, ?_⟩⟩, ?_⟩
            · rw [List.map_append]
              exact hown3
            · rw [List.length_append]
              simp
              omega
            · obtain ⟨k, hk⟩ : ∃ k, 64 - acc.length = k + 1 := ⟨64 - acc.length - 1, by omega⟩
              rw [HT.out, hk, htk k, List.length_append, show 64 - (acc.length + [((t2 : Int), bsOf x2)].length) = k by simp; omega]
              simp only [Option.map_map]
              congr 1
              funext l
              simp
            · show 1 + r2.size < 1 + r.size
              omega
    · cases h
    · cases h
  · rintro l a' w1 ⟨r, acc, _, A, c, b, t, x, u1, u2, u3, u7, u8, u9, u10, u11, u12, u13, u14, u15, u16, u17, u18, u19, u20, u21, u22, u23, u24, rfl, rfl, hb, hrow, hown, hal, hl⟩
    rcases hl with ⟨rfl, _⟩ | ⟨rfl, ht⟩ | ⟨rfl, ht⟩
    · exact Or.inl rfl
    · refine Or.inr ⟨_, rfl, ?_⟩
      go_wp2
      simp only [jumpsTo]
      go_ret2
      rw [ht]
      refine ⟨hb, A, c, by simp [tookL, tookE], ?_⟩
      simpa [tookL] using hown.reads
    · refine Or.inr ⟨_, rfl, ?_⟩
      go_wp2
      simp only [jumpsTo]
      go_ret2
      rw [ht]
      exact ⟨hb, none, 0, rfl, ReadsF.none_ _ _ _⟩
end Go.Proofs.Ytkdkekmgnejhpaa
