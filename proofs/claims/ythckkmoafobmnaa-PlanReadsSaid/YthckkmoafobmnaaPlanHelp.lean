/- Layer 6: the statements' own helpers, walked. -/
import Derived.Test.YthckkmoafobmnaaPlanWalk
import Derived.Deep.RegionHeld3
namespace Go.Proofs.Ythckkmoafobmnaa
open Go.RowKit Go.ChangeShapes Go.WideShapes

set_option maxHeartbeats 400000 in
theorem pick06 (c : Int) (n : Int) (w : World) (hc : (Lit.int .i64 c).wf = true) (hn : 1 ≤ n) (hn2 : n ≤ 9223372036854775807) :
    Calls Try.prog 16 #[.int .i64 c, .int .i64 n] w fun e w' => e = .returned (.int .i64 (pickI c n)) ∧ w' = w := by
  have hb := bounds_i64 hc
  have hn0 : (n == 0) = false := by simp; omega
  unfold pickI
  by_cases h : c < 0
  · rw [if_pos h]
    go_enter Try.func16, Try.ntmps16
    go_wp2
    go_ret
    refine ⟨ret_int ?_, rfl⟩
    first
      | rfl
      | (rw [← Int.neg_tmod, Int.tmod_eq_emod_of_nonneg (by omega)])
  · rw [if_neg h]
    go_enter Try.func16, Try.ntmps16
    go_wp2
    go_ret
    refine ⟨ret_int ?_, rfl⟩
    first
      | rfl
      | (rw [Int.tmod_eq_emod_of_nonneg (by omega)])


theorem natV_at {w : World} {B n : Nat} {A : Option Addr} {l : List Nat} (h : Reads w B A n (l.map natV)) {k : Nat} (hk : k < n) : ∃ b o x, A = some ⟨b, o, none⟩ ∧ b < B ∧ l[k]? = some x ∧ w.cell? ⟨b, o + k, none⟩ = some (.int .i64 (x : Int)) := by
  obtain ⟨b, o, u, e, hb, hu, hc⟩ := h.at_ hk
  rw [List.getElem?_map] at hu
  obtain ⟨x, hx, rfl⟩ := Option.map_eq_some_iff.1 hu
  exact ⟨b, o, x, e, hb, hx, hc⟩
theorem take_snoc_eq {α : Type} {a b : List α} {k : Nat} {x y : α} (ha : a[k]? = some x) (hb : b[k]? = some y) (h : a.take k = b.take k) : a.take (k + 1) = b.take (k + 1) ↔ x = y := by
  rw [List.take_add_one, List.take_add_one, ha, hb, h]
  simp

set_option maxRecDepth 100000 in
set_option maxHeartbeats 1600000 in
/-- Ints: are two lists the same? (Where they are.) -/
theorem ints06 (A A2 : Option Addr) (n c c2 n2 : Nat) (a : List Nat) (w : World) (ha : Reads w w.heap.size A n (a.map natV)) (hb : Reads w w.heap.size A2 n2 (a.map natV)) (hn : n ≤ 100) :
    Calls Try.prog 52 #[.slice A n c, .slice A2 n2 c2] w fun e w' => e = .returned (.bool true) ∧ Below w.heap.size w w' := by
  have h1 : n2 = n := by rw [← hb.len, ← ha.len]
  subst h1
  have HA := Lib.hid ha
  have HB := Lib.hid hb
  clear ha hb
  go_enter Try.func52, Try.ntmps52
  go_wp2
  go_loopw [5] (fun i wr => ∃ (k : Nat), k ≤ n2 ∧ i = .int .i64 k ∧ ∃ m, wr = w.drewN m) (fun i _ => n2 - (intOf i).toNat)
  case atStart => exact ⟨0, Nat.zero_le _, rfl, 0, rfl⟩
  case round =>
    obtain ⟨k, hk, rfl, m, rfl⟩ := hrel
    by_cases hkn : k < n2
    · have dk : decide ((k : Int) < n2) = true := by simp; omega
      have kn : (k : Int) < n2 := by omega
      obtain ⟨g1, o1, x, rfl, hg1, hf1, c1⟩ := natV_at HA.out hkn
      obtain ⟨g2, o2, y, rfl, hg2, hf2, c2⟩ := natV_at HB.out hkn
      obtain rfl : x = y := by rw [hf1] at hf2; exact Option.some.inj hf2
      clear hf1 hf2
      go_wp2
      go_region
      go_wp2
      go_roundw
      case rel => exact ⟨k + 1, by omega, by go_num, m + 1, rfl⟩
      case measure => simp [intOf]; omega
    · have dk : decide ((k : Int) < n2) = false := by simp; omega
      go_wp2
      go_ret
      exact ⟨rfl, rfl, rfl, rfl, Nat.le_refl _, fun _ _ => rfl⟩

theorem namedL_snoc {α : Type} [Inhabited α] (l : List α) (r : List Nat) (k x : Nat) (y : α) (h : r[k]? = some x) (hy : l[x]? = some y) : namedL l (r.take (k + 1)) = namedL l (r.take k) ++ [y] := by
  rw [namedL, namedL, List.take_add_one, h, Option.toList_some, List.map_append, List.map_cons, List.map_nil, List.getD_eq_getElem?_getD, hy]
  rfl

set_option maxRecDepth 100000 in
set_option maxHeartbeats 1600000 in
/-- named: some of a stripe's columns -/
theorem named06 (A A2 : Option Addr) (n c m c2 : Nat) (ss : List ByteArray) (r : List Nat) (w : World) (ha : Reads w w.heap.size A n (ss.map .string)) (hb : Reads w w.heap.size A2 m (r.map natV)) (_hn : n ≤ 100) (hm : m ≤ 100) (hr : ∀ x ∈ r, x < n) :
    Calls Try.prog 19 #[.slice A n c, .slice A2 m c2] w fun e w' => ∃ A' c', e = .returned (.slice A' m c') ∧ Own w' w.heap.size 9 A' m c' ((namedL ss r).map .string) ∧ Below w.heap.size w w' := by
  have HA := Lib.hid ha
  have HB := Lib.hid hb
  have HR := Lib.hid hr
  have hrl : r.length = m := by simpa using hb.len
  have HRL := Lib.hid hrl
  clear ha hb hr hrl
  go_enter Try.func19, Try.ntmps19
  go_wp2
  go_loopw [5, 6] (fun v i wr => ∃ (k : Nat) (A' : Option Addr) (c' : Nat), k ≤ m ∧ i = .int .i64 k ∧ v = .slice A' k c' ∧ Own wr w.heap.size 9 A' k c' ((namedL ss (r.take k)).map .string) ∧ Below w.heap.size w wr) (fun _ i _ => m - (intOf i).toNat)
  case atStart => exact ⟨0, none, 0, Nat.zero_le _, rfl, rfl, Own.nil _ _ _, Below.refl _ _⟩
  case round =>
    obtain ⟨k, A', c', hk, rfl, rfl, hown, hbr⟩ := hrel
    by_cases hkm : k < m
    · have dk : decide ((k : Int) < m) = true := by simp; omega
      have km : (k : Int) < m := by omega
      obtain ⟨g1, o1, x, rfl, hg1, hf1, c1⟩ := natV_at HB.out hkm
      have hxn := HR.out x (List.mem_of_getElem? hf1)
      obtain ⟨g2, o2, u, rfl, hg2, hf2, cc2⟩ := HA.out.at_ hxn
      rw [List.getElem?_map] at hf2
      obtain ⟨y, hy, rfl⟩ := Option.map_eq_some_iff.1 hf2
      have hsn := namedL_snoc ss r k x y hf1 hy
      have HSN := Lib.hid hsn
      have k1 : wr.cell? ⟨g1, o1 + k, none⟩ = some (.int .i64 (x : Int)) := (hbr.cell (by exact hg1)).trans c1
      have k2 : wr.cell? ⟨g2, o2 + x, none⟩ = some (.string y) := (hbr.cell (by exact hg2)).trans cc2
      have dx0 : decide ((x : Int) < 0) = false := by simp
      have dxn : decide ((n : Int) ≤ (x : Int)) = false := by simp; omega
      have dxn2 : decide (n ≤ x) = false := by simp; omega
      have xn : (x : Int) < n := by omega
      have HOWN := Lib.hid hown
      have HBR := Lib.hid hbr
      clear hsn hf1 hy hf2 c1 cc2 hown hbr
      go_wp2_with (at_builtin; refine wpList_app (N := k + 1) 24 9 16 (.string ⟨#[]⟩) rfl _ _ rfl Try.underlying24 info_str rfl rfl (HOWN.out.later ((Below.refl _ _).alloc (Nat.le_refl _) _)) rfl (reads_lit _ [_] _ 1 rfl) (by simp [Value.oneCell']) rfl (by unfold maxLen; omega) (by omega) (by have := HBR.out.size; simp; omega) ?_; intro A2 c3 w3 hown3 hgr3 hbd3)
      go_roundw
      case rel => exact ⟨k + 1, A2, c3, by omega, by go_num, rfl, by
        rw [HSN.out, List.map_append]
        exact hown3, (HBR.out.alloc HBR.out.size _).trans hbd3⟩
      case measure => simp [intOf]; omega
    · obtain rfl : k = m := by omega
      have dk : decide ((k : Int) < k) = false := by simp
      have e : r.take k = r := List.take_of_length_le (by rw [HRL.out]; exact Nat.le_refl _)
      rw [e] at hown
      have HOWN := Lib.hid hown
      clear e hown
      go_wp2
      go_ret
      exact ⟨A', c', rfl, HOWN.out, hbr⟩

theorem strR_some (l : List UInt8) : strR (some l) = ⟨l.toArray⟩ := rfl
theorem ref_all_val (A : Option Addr) (n c : Nat) (ss : List ByteArray) (w : World) (hc : n ≤ 8796093022208) (hr : Reads w w.heap.size A n (ss.map .string)) (hz : ∀ s ∈ ss, s.size = 16) (hne : ss ≠ []) (s : ByteArray) (hv : (⟨(sumL 16 (ss.map bsOf)).toArray⟩ : ByteArray) = s) :
    Calls Try.prog 23 #[.slice A n c] w fun e w' => e = .returned (.tuple #[.string s, .int .i64 0]) ∧ Below w.heap.size w w' := by
  subst hv
  have hl : AllLen 16 (ss.map bsOf) := by
    intro x hx
    obtain ⟨y, hy, rfl⟩ := List.mem_map.1 hx
    exact hz y hy
  have h := ref_all_any A n c w.heap.size ss w hc hr (Nat.le_refl _) (fun s hs => by rw [hz s hs]; omega)
  rw [show ss.map bs = ss.map bsOf from rfl, sumOf_all hl (by simpa using hne)] at h
  exact h

/-- Stripe: as many texts of 16 bytes as there are nodes, that come to nought -/
def StripePost (N : Nat) (w : World) (e : Ending) (w' : World) : Prop :=
  ∃ (A : Option Addr) (c : Nat) (ss : List ByteArray), e = .returned (.slice A N c) ∧ Own w' w.heap.size 9 A N c (ss.map .string) ∧ ss.length = N ∧ (∀ s ∈ ss, s.size = 16) ∧ sumL 16 (ss.map bsOf) = noughts 16 ∧ Below w.heap.size w w'

set_option maxRecDepth 100000 in
set_option maxHeartbeats 1600000 in
theorem stripe06 (N : Nat) (S : Int) (A : Option Addr) (n c : Nat) (raw : List ByteArray) (w : World) (h3 : 3 ≤ N) (h6 : N ≤ 6) (hc : n ≤ 8796093022208) (hr : Reads w w.heap.size A n (raw.map .string)) (hs : ∀ s ∈ raw, s.size ≤ 140737488351232) :
    Calls Try.prog 15 #[.agg #[.int .i64 N, .int .i64 S], .slice A n c] w (StripePost N w) := by
  have HR := Lib.hid (hr.alloc (Nat.le_refl _) (.cells #[.int .i64 N, .int .i64 S] 23))
  have HS := Lib.hid hs
  clear hr hs
  go_enter Try.func15, Try.ntmps15
  go_wp2_with fail
  refine (texts_some A n c raw _ _ (N - 1) 16 _ (by omega) rfl hc (HR.out.more (by simp)) HS.out (by omega) (by omega)).mono ?_
  rintro e w1 ⟨A1, c1, l, rfl, hl1, hl2, hown1, b1⟩
  have hl : AllLen 16 (l.map bsOf) := by
    intro x hx
    obtain ⟨y, hy, rfl⟩ := List.mem_map.1 hx
    exact hl2 y hy
  obtain ⟨p, hp⟩ : ∃ p : ByteArray, (⟨(sumL 16 (l.map bsOf)).toArray⟩ : ByteArray) = p := ⟨_, rfl⟩
  have hps : p.size = 16 := by rw [← hp]; exact sumL_len hl
  have hpb : bsOf p = sumL 16 (l.map bsOf) := by rw [← hp]
  have HL1 := Lib.hid hl1
  have HL2 := Lib.hid hl2
  have HL := Lib.hid hl
  have HPS := Lib.hid hps
  have HPB := Lib.hid hpb
  have C2 := Lib.hid (fun w' (h : Reads w' w'.heap.size A1 (N - 1) (l.map .string)) => ref_all_val A1 (N - 1) c1 l w' (by omega) h hl2 (by intro h; rw [h] at hl1; simp at hl1; omega) p hp)
  have b2 := ((Below.refl _ w).alloc (Nat.le_refl _) (.cells #[.int .i64 N, .int .i64 S] 23)).trans (b1.mono (by simp))
  have O1 := Lib.hid hown1
  have B2 := Lib.hid b2
  clear hl1 hl2 hl hp hps hpb b1 b2 hown1
  go_wp2_with fail
  refine (C2.out _ O1.out.reads).mono ?_
  rintro e w3 ⟨rfl, b3⟩
  have O3 := Lib.hid (O1.out.later b3)
  have B3 := Lib.hid (below_call B2.out b3)
  have hw3 : w.heap.size ≤ w3.heap.size := B3.out.size
  clear b3 C2
  have hown3 : Own w3 w.heap.size 9 A1 (N - 1) c1 (l.map .string) := ⟨O3.out.1, by
    rcases O3.out.2 with h | ⟨g, cap, cur, hv, hB, hg, r⟩
    · exact .inl h
    · exact .inr ⟨g, cap, cur, hv, by simp at hB; omega, hg, r⟩⟩
  have O4 := Lib.hid hown3
  clear hown3
  go_wp2_with (at_builtin; refine wpList_app (N := N) 24 9 16 (.string ⟨#[]⟩) rfl _ _ rfl Try.underlying24 info_str rfl rfl (O4.out.later ((Below.refl _ _).alloc (Nat.le_refl _) _)) rfl (reads_lit _ [_] _ 1 rfl) (by simp [Value.oneCell']) (by omega) (by unfold maxLen; omega) (by omega) (by simp; omega) ?_; intro A2 c3 w4 hown4 hgr4 hbd4)
  go_ret
  refine ⟨A2, c3, l ++ [p], rfl, by rw [List.map_append]; exact hown4, by rw [List.length_append, HL1.out]; simp; omega, ?_, ?_, (B3.out.alloc B3.out.size _).trans hbd4⟩
  · intro s hs
    rcases List.mem_append.1 hs with h | h
    · exact HL2.out s h
    · simp at h
      rw [h]
      exact HPS.out
  · rw [List.map_append, List.map_cons, List.map_nil, HPB.out]
    exact sumL_parity HL.out
end Go.Proofs.Ythckkmoafobmnaa
