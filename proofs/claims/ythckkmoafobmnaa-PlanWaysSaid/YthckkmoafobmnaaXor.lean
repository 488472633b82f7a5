/- Walks over package xor. -/
import Derived.Test.YthckkmoafobmnaaXorMath
namespace Go.Proofs.Ythckkmoafobmnaa
open Go.RowKit

/-- whether there are texts, all as long -/
def alikeB (ss : List ByteArray) : Bool := !ss.isEmpty && ss.all fun s => s.size == (ss.headD .empty).size

set_option maxHeartbeats 400000 in
theorem alike_any (A : Option Addr) (n c B : Nat) (ss : List ByteArray) (w : World) (hc : n ≤ 9223372036854775807) (hr : Reads w B A n (ss.map .string)) (hs : ∀ s ∈ ss, s.size ≤ 9223372036854775807) :
    Calls Try.prog 64 #[.slice A n c] w fun e w' => e = .returned (.bool (alikeB ss)) ∧ w = w' := by
  have hlen : ss.length = n := by simpa using hr.1
  by_cases h0 : n = 0
  · subst h0
    obtain rfl : ss = [] := List.eq_nil_of_length_eq_zero hlen
    clear hr hs hlen
    go_enter Try.func64, Try.ntmps64
    go_wp2
    go_ret
    exact ⟨rfl, rfl⟩
  · obtain ⟨s0, st, rfl⟩ : ∃ a t, ss = a :: t := by cases ss with | nil => simp at hlen; omega | cons a t => exact ⟨a, t, rfl⟩
    obtain ⟨b, o, rfl, hb, hcell⟩ := hr.2 (by omega)
    have hcell0 : w.cell? ⟨b, o, none⟩ = some (.string s0) := hcell 0 _ rfl
    have hs0 := hs s0 (by simp)
    have hpos : 0 < n := by omega
    have hpos' : ((n : Int) == 0) = false := by simp; omega
    have HC := Lib.hid hcell
    have HS := Lib.hid hs
    have HL := Lib.hid hlen
    clear hcell hs hlen hr h0
    go_enter Try.func64, Try.ntmps64
    go_wp2
    go_loop [10] (fun i => ∃ k : Nat, k ≤ n ∧ i = .int .i64 k ∧ ∀ s ∈ (s0 :: st).take k, s.size = s0.size) (fun i => n - (intOf i).toNat)
    case atStart => exact ⟨0, Nat.zero_le _, rfl, by simp⟩
    case round =>
      obtain ⟨k, hk, rfl, hall⟩ := hrel
      have HA := Lib.hid hall
      clear hall
      by_cases hlt : k < n
      · have hk' : k < (s0 :: st).length := by have := HL.out; omega
        obtain ⟨sk, hsk⟩ : ∃ s, (s0 :: st)[k]? = some s := ⟨_, List.getElem?_eq_getElem hk'⟩
        have hck : w.cell? ⟨b, o + k, none⟩ = some (.string sk) := HC.out k _ (by rw [List.getElem?_map, hsk]; rfl)
        have hsz : sk.size ≤ 9223372036854775807 := HS.out sk (List.mem_of_getElem? hsk)
        have HK := Lib.hid hsk
        clear hsk
        by_cases he : sk.size = s0.size
        · have he' : ((sk.size : Int) != (s0.size : Int)) = false := by simp [he]
          have HE := Lib.hid he
          clear he
          go_wp2
          go_round
          case rel => exact ⟨k + 1, by omega, by go_num, fun s hs => by
            rw [List.take_add_one, HK.out] at hs
            rcases List.mem_append.1 hs with h | h
            · exact HA.out s h
            · simp at h; rw [h]; exact HE.out⟩
          case measure => simp [intOf]; omega
        · have he' : ((sk.size : Int) != (s0.size : Int)) = true := by simp; omega
          have HE := Lib.hid he
          clear he
          go_wp2
          go_ret
          have hf : alikeB (s0 :: st) = false := by
            simp only [alikeB, List.headD_cons, List.isEmpty_cons, Bool.not_false, Bool.true_and, List.all_eq_false]
            exact ⟨sk, List.mem_of_getElem? HK.out, by simpa using HE.out⟩
          rw [hf]
          exact ⟨rfl, rfl⟩
      · go_wp2
        go_ret
        have hf : alikeB (s0 :: st) = true := by
          simp only [alikeB, List.headD_cons, List.isEmpty_cons, Bool.not_false, Bool.true_and, List.all_eq_true]
          intro s hs
          have := HA.out s (by rw [List.take_of_length_le (by have := HL.out; omega)]; exact hs)
          simpa using this
        rw [hf]
        exact ⟨rfl, rfl⟩

set_option maxHeartbeats 400000 in
theorem together_yes (b o n c B : Nat) (s0 : ByteArray) (st : List ByteArray) (w : World) (hc : n ≤ 8796093022208) (hr : Reads w B (some ⟨b, o, none⟩) n ((s0 :: st).map .string)) (hB : B ≤ w.heap.size)
    (hs : ∀ s ∈ s0 :: st, s.size ≤ 140737488351232) (hyes : alikeB (s0 :: st) = true) (hnc : n ≤ c) (hn2 : 2 ≤ n) :
    Calls Try.prog 59 #[.slice (some ⟨b, o, none⟩) n c] w fun e w' => e = .returned (.tuple #[.string ⟨(xorAll s0.data.toList st).toArray⟩, .int .i64 0]) ∧ Below w.heap.size w w' := by
  have hlen : (s0 :: st).length = n := by simpa using hr.1
  have hcells : b < B ∧ ∀ j u, ((s0 :: st).map Value.string)[j]? = some u → w.cell? ⟨b, o + j, none⟩ = some u := by
    obtain ⟨b', o', e, hb, hcell⟩ := hr.2 (by simp at hlen; omega)
    cases e
    exact ⟨hb, hcell⟩
  have hcell0 : w.cell? ⟨b, o, none⟩ = some (.string s0) := hcells.2 0 _ rfl
  have hbB := hcells.1
  have hsz : ∀ s ∈ s0 :: st, s.size = s0.size := by
    simp only [alikeB, List.headD_cons, List.isEmpty_cons, Bool.not_false, Bool.true_and, List.all_eq_true] at hyes
    exact fun s h => by simpa using hyes s h
  have HC := Lib.hid hcells.2
  have HL := Lib.hid hlen
  have HR := Lib.hid hr
  have HS := Lib.hid hs
  have HZ := Lib.hid hsz
  have HY := Lib.hid hyes
  have hpos : 1 ≤ n := by omega
  have hs0 := hs s0 (by simp)
  have hc1 : ¬ c = 1 := by omega
  clear hlen hr hs hyes hcells hsz
  go_enter Try.func59, Try.ntmps59
  go_wp2_with (first
    | (go_at_call 64; refine (alike_any _ _ _ B (s0 :: st) _ (by omega) HR.out (fun s h => by have := HS.out s h; omega)).mono ?_; rw [HY.out]; rintro e w' ⟨rfl, rfl⟩)
    | (refine wpList_strbytes 9 41 5 rfl _ rfl Try.underlying9 Try.underlying41 Try.underlying5 _ rfl ?_; intro w1 cap hz1 hb1 hrow1 hcap1))
  go_loopw [18] (fun i wr => ∃ (k : Nat) (acc : List UInt8), k ≤ n - 1 ∧ i = .int .i64 k ∧ acc = xorAll s0.data.toList (st.take k) ∧ acc.length = s0.size ∧ Below w.heap.size w wr ∧ Row wr w.heap.size (acc.map byteV)) (fun i _ => n - (intOf i).toNat)
  case atStart => exact ⟨0, _, Nat.zero_le _, rfl, rfl, by rw [Array.length_toList]; rfl, hb1, hrow1⟩
  case round =>
    obtain ⟨k, acc, hk, rfl, hacc, hal, hbr, hrow⟩ := hrel
    have HA := Lib.hid hacc
    have HAL := Lib.hid hal
    clear hacc hal
    by_cases hlt : k < n - 1
    · have hk' : k < st.length := by have := HL.out; simp at this; omega
      obtain ⟨sk, hsk⟩ : ∃ s, st[k]? = some s := ⟨_, List.getElem?_eq_getElem hk'⟩
      have hck : wr.cell? ⟨b, o + 1 + k, none⟩ = some (.string sk) := by
        rw [hbr.cell (by show b < _; omega), Nat.add_assoc]
        exact HC.out (1 + k) _ (by rw [Nat.add_comm 1 k, List.getElem?_map, List.getElem?_cons_succ, hsk]; rfl)
      have hszk : sk.size ≤ 140737488351232 := HS.out sk (List.mem_cons_of_mem _ (List.mem_of_getElem? hsk))
      have HZK := Lib.hid (HZ.out sk (List.mem_cons_of_mem _ (List.mem_of_getElem? hsk)))
      have HK := Lib.hid hsk
      clear hsk
      go_wp2
      obtain ⟨wo, rfl⟩ : ∃ wo : World, wo = wr := ⟨_, rfl⟩
      go_loopw [24] (fun j wq => ∃ (t : Nat), t ≤ s0.size ∧ j = .int .i64 t ∧ Below w.heap.size w wq ∧ Row wq w.heap.size (((xorL acc sk.data.toList).take t ++ acc.drop t).map byteV)) (fun j _ => s0.size - (intOf j).toNat)
      case atStart => exact ⟨0, Nat.zero_le _, rfl, hbr, by simpa using hrow⟩
      case round =>
        obtain ⟨t, ht, rfl, hbq, hrowq⟩ := hrel
        by_cases hlt2 : t < s0.size
        · have ht2 : t < acc.length := by rw [HAL.out]; exact hlt2
          have htk : t < sk.size := by rw [HZK.out]; exact hlt2
          have hab : acc.length = sk.data.toList.length := by rw [HAL.out, size_list, HZK.out]
          have hrl : t < (((xorL acc sk.data.toList).take t ++ acc.drop t).map byteV).length := by
            simp only [List.length_map, List.length_append, List.length_take, List.length_drop, xorL_length _ _ hab]
            omega
          have hct : wr.cell? ⟨w.heap.size, t, none⟩ = some (.int .u8 (acc[t].toNat : Int)) := hrowq.cell (xor_at acc sk.data.toList t ht2 hab)
          have hft : wr.frozen? ⟨w.heap.size, t, none⟩ = false := hrowq.free hrl
          have HAB := Lib.hid hab
          clear hab hrl
          go_wp2
          go_region
          go_wp2
          go_roundw
          case rel => exact ⟨t + 1, by omega, by go_num, (hbq.setCell (by exact Nat.le_refl _) _).drew, by
            have h1 := hrowq.set_ t (.int .u8 (bits BinOp.xor IntKind.u8 (acc[t].toNat : Int) (sk[t].toNat : Int)))
            rw [bits_xor_u8] at h1 ⊢
            have h2 := xor_step acc sk.data.toList t ht2 (by rw [size_list]; exact htk) HAB.out
            rw [← h2]
            exact h1⟩
          case measure => simp [intOf]; omega
        · go_wp2
          go_roundw
          case rel => exact ⟨k + 1, _, by omega, by go_num, rfl, by rw [xorAll_snoc _ _ _ _ HK.out, ← HA.out, xorL_length _ _ (by rw [HAL.out, size_list, HZK.out]), HAL.out], hbq, by
            have e : t = s0.size := by omega
            have h1 : (xorL acc sk.data.toList).length = s0.size := by rw [xorL_length _ _ (by rw [HAL.out, size_list, HZK.out]), HAL.out]
            rw [xorAll_snoc _ _ _ _ HK.out, ← HA.out]
            have h2 := hrowq
            rw [e, List.take_of_length_le (by omega), List.drop_of_length_le (by have := HAL.out; omega), List.append_nil] at h2
            exact h2⟩
          case measure => simp [intOf]; omega
    · have hkn : k = n - 1 := by omega
      have hkl : st.length ≤ k := by have := HL.out; simp at this; omega
      have hacc' : acc = xorAll s0.data.toList st := by rw [HA.out, List.take_of_length_le hkl]
      have hconv' := run_row_string 41 9 5 hrow HAL.out Try.underlying41 Try.underlying5 Try.underlying9 cap
      have HAC := Lib.hid hacc'
      clear hacc'
      go_wp2
      go_ret2
      rw [HAC.out]
      exact ⟨rfl, hbr⟩

theorem alikeB_cons (s0 : ByteArray) (st : List ByteArray) : alikeB (s0 :: st) = (st.map bs).all (fun b => b.length == (bs s0).length) := by
  simp only [alikeB, List.isEmpty_cons, Bool.not_false, Bool.true_and, List.headD_cons, List.all_cons, beq_self_eq_true, List.all_map]
  rfl

theorem sumOf_yes (s0 : ByteArray) (st : List ByteArray) (h : alikeB (s0 :: st) = true) : sumOf ((s0 :: st).map bs) = some (xorAll (bs s0) st) := by
  rw [alikeB_cons] at h
  simp only [List.map_cons, sumOf, h, if_true, xorAll]
theorem sumOf_no (ss : List ByteArray) (h : alikeB ss = false) : sumOf (ss.map bs) = none := by
  cases ss with
  | nil => rfl
  | cons s0 st =>
    rw [alikeB_cons] at h
    simp only [List.map_cons, sumOf, h]
    rfl

set_option maxHeartbeats 400000 in
theorem together_no (A : Option Addr) (n c B : Nat) (ss : List ByteArray) (w : World) (hc : n ≤ 8796093022208) (hr : Reads w B A n (ss.map .string))
    (hs : ∀ s ∈ ss, s.size ≤ 140737488351232) (hno : alikeB ss = false) :
    Calls Try.prog 59 #[.slice A n c] w fun e w' => e = .returned (.tuple #[.string ⟨#[]⟩, .int .i64 10]) ∧ w = w' := by
  have HR := Lib.hid hr
  have HS := Lib.hid hs
  have HN := Lib.hid hno
  clear hr hs hno
  go_enter Try.func59, Try.ntmps59
  go_wp2_with (go_at_call 64; refine (alike_any _ _ _ B ss _ (by omega) HR.out (fun s h => by have := HS.out s h; omega)).mono ?_; rw [HN.out]; rintro e w' ⟨rfl, rfl⟩)
  go_ret2
  exact ⟨rfl, rfl⟩

set_option maxHeartbeats 400000 in
theorem together_one (b o c B : Nat) (s0 : ByteArray) (w : World) (hr : Reads w B (some ⟨b, o, none⟩) 1 [.string s0]) (hs0 : s0.size ≤ 140737488351232) (_hnc : 1 ≤ c) :
    Calls Try.prog 59 #[.slice (some ⟨b, o, none⟩) 1 c] w fun e w' => e = .returned (.tuple #[.string s0, .int .i64 0]) ∧ Below w.heap.size w w' := by
  have hcell0 : w.cell? ⟨b, o, none⟩ = some (.string s0) := by
    obtain ⟨b', o', e, hb, hcell⟩ := hr.2 (by omega)
    cases e
    exact hcell 0 _ rfl
  have HR := Lib.hid hr
  clear hr
  go_enter Try.func59, Try.ntmps59
  go_wp2_with (first
    | (go_at_call 64; refine (alike_any _ _ _ B [s0] _ (by omega) HR.out (fun s h => by simp at h; subst h; omega)).mono ?_; rw [show alikeB [s0] = true by simp [alikeB]]; rintro e w' ⟨rfl, rfl⟩)
    | (refine wpList_strbytes 9 41 5 rfl _ rfl Try.underlying9 Try.underlying41 Try.underlying5 _ rfl ?_; intro w1 cap hz1 hb1 hrow1 hcap1))
  all_goals
    refine wp_loop_rounds 1 ?_
    rw [rounds_succ]
    have hconv' := run_row_string 41 9 5 hrow1 (size_list s0) Try.underlying41 Try.underlying5 Try.underlying9 cap
    rw [mk_list] at hconv'
    go_wp2
    go_ret2
    exact ⟨rfl, hb1⟩

theorem together_any (A : Option Addr) (n c B : Nat) (ss : List ByteArray) (w : World) (hc : n ≤ 8796093022208) (hr : Reads w B A n (ss.map .string)) (hB : B ≤ w.heap.size)
    (hs : ∀ s ∈ ss, s.size ≤ 140737488351232) (hnc : n ≤ c) :
    Calls Try.prog 59 #[.slice A n c] w fun e w' => e = .returned (.tuple #[.string (strR (sumOf (ss.map bs))), .int .i64 (errR (sumOf (ss.map bs)))]) ∧ Below w.heap.size w w' := by
  cases hy : alikeB ss with
  | false =>
    rw [sumOf_no ss hy]
    exact (together_no A n c B ss w hc hr hs hy).mono fun e w' ⟨he, hw⟩ => ⟨he, hw ▸ Below.refl _ _⟩
  | true =>
    cases ss with
    | nil => cases hy
    | cons s0 st =>
      rw [sumOf_yes s0 st hy]
      have hlen : (s0 :: st).length = n := by simpa using hr.1
      obtain ⟨b, o, rfl, hb, _⟩ := hr.2 (by simp at hlen; omega)
      by_cases hn : n = 1
      · subst hn
        obtain rfl : st = [] := List.eq_nil_of_length_eq_zero (by simpa using hlen)
        have := together_one b o c B s0 w hr (hs s0 (by simp)) hnc
        simpa [strR, errR, xorAll, mk_list] using this
      · exact together_yes b o n c B s0 st w hc hr hB hs hy hnc (by simp at hlen; omega)
end Go.Proofs.Ythckkmoafobmnaa
