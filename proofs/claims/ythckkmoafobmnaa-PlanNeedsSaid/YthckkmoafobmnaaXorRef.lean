/- Walks over the document's own answers for layer 1. -/
import Derived.Test.YthckkmoafobmnaaXorApi
import Derived.StillTailTactics
namespace Go.Proofs.Ythckkmoafobmnaa
open Go.RowKit

set_option maxHeartbeats 400000 in
theorem bit_any (x y : UInt8) (w : World) :
    Calls Try.prog 60 #[.int .u8 (x.toNat : Int), .int .u8 (y.toNat : Int)] w fun e w' => e = .returned (.int .u8 ((x ^^^ y).toNat : Int)) ∧ w = w' := by
  have hx := x.toNat_lt
  have hy := y.toNat_lt
  have hxy := (x ^^^ y).toNat_lt
  have hfin : (x.toNat % 2 ^ 8) ^^^ (y.toNat % 2 ^ 8) = (x ^^^ y).toNat := by
    rw [UInt8.toNat_xor, Nat.mod_eq_of_lt (by omega), Nat.mod_eq_of_lt (by omega)]
  have HF := Lib.hid hfin
  clear hfin
  go_enter Try.func60, Try.ntmps60
  go_wp2
  go_loop [5, 6, 7, 8, 9] (fun n u a b i => ∃ k : Nat, k ≤ 8 ∧ i = .int .i64 k ∧ n = .int .i64 (((x.toNat % 2 ^ k) ^^^ (y.toNat % 2 ^ k) : Nat) : Int) ∧ u = .int .i64 ((2 ^ k : Nat) : Int) ∧ a = .int .i64 ((x.toNat / 2 ^ k : Nat) : Int) ∧ b = .int .i64 ((y.toNat / 2 ^ k : Nat) : Int)) (fun _ _ _ _ i => 8 - (intOf i).toNat)
  case atStart => exact ⟨0, by omega, rfl, by simp [Nat.mod_one], rfl, by simp, by simp⟩
  case round =>
    obtain ⟨k, hk, rfl, rfl, rfl, rfl, rfl⟩ := hrel
    have hU : 2 ^ k ≤ 256 := by
      have := Nat.pow_le_pow_right (show 0 < 2 by omega) hk
      simpa using this
    have hN : (x.toNat % 2 ^ k) ^^^ (y.toNat % 2 ^ k) < 2 ^ k := Nat.xor_lt_two_pow (Nat.mod_lt _ (Nat.two_pow_pos k)) (Nat.mod_lt _ (Nat.two_pow_pos k))
    have hX : x.toNat / 2 ^ k ≤ x.toNat := Nat.div_le_self _ _
    have hY : y.toNat / 2 ^ k ≤ y.toNat := Nat.div_le_self _ _
    have hst := bit_step x.toNat y.toNat k
    have h1 : x.toNat / 2 ^ (k + 1) = x.toNat / 2 ^ k / 2 := by rw [Nat.pow_succ, Nat.div_div_eq_div_mul]
    have h2 : y.toNat / 2 ^ (k + 1) = y.toNat / 2 ^ k / 2 := by rw [Nat.pow_succ, Nat.div_div_eq_div_mul]
    have h3 : 2 ^ (k + 1) = 2 * 2 ^ k := by rw [Nat.pow_succ, Nat.mul_comm]
    have HN : k = 8 → (x.toNat % 2 ^ k) ^^^ (y.toNat % 2 ^ k) = (x ^^^ y).toNat := fun h => by rw [h]; exact HF.out
    generalize hNN : (x.toNat % 2 ^ k) ^^^ (y.toNat % 2 ^ k) = N at *
    generalize hXX : x.toNat / 2 ^ k = X at *
    generalize hYY : y.toNat / 2 ^ k = Y at *
    generalize hUU : 2 ^ k = U at *
    have HST := Lib.hid hst
    have H1 := Lib.hid h1
    have H2 := Lib.hid h2
    have H3 := Lib.hid h3
    have HN' := Lib.hid HN
    clear hst h1 h2 h3 HN hNN hXX hYY hUU
    by_cases hlt : k < 8
    · by_cases hb : X % 2 = Y % 2
      · have hb' : (((X : Int) % 2) != ((Y : Int) % 2)) = false := by simp; omega
        have HB := Lib.hid hb
        clear hb
        go_wp2
        go_round
        case rel => exact ⟨k + 1, by omega, by go_num, int_eq (by rw [HST.out, if_neg (by simpa using HB.out)]; omega), int_eq (by rw [H3.out]; omega), int_eq (by rw [H1.out]; omega), int_eq (by rw [H2.out]; omega)⟩
        case measure => simp [intOf]; omega
      · have hb' : (((X : Int) % 2) != ((Y : Int) % 2)) = true := by simp; omega
        have HB := Lib.hid hb
        clear hb
        go_wp2
        go_round
        case rel => exact ⟨k + 1, by omega, by go_num, int_eq (by rw [HST.out, if_pos (by simpa using HB.out)]; omega), int_eq (by rw [H3.out]; omega), int_eq (by rw [H1.out]; omega), int_eq (by rw [H2.out]; omega)⟩
        case measure => simp [intOf]; omega
    · go_wp2
      go_ret
      exact ⟨ret_int (by rw [HN'.out (by omega)]; first | rfl | simp), rfl⟩

set_option maxHeartbeats 400000 in
theorem ref_two_yes (a b : ByteArray) (w : World) (ha : a.size ≤ 140737488351232) (hab : a.size = b.size) :
    Calls Try.prog 31 #[.string a, .string b] w fun e w' => e = .returned (.tuple #[.string ⟨(xorL (bs a) (bs b)).toArray⟩, .int .i64 0]) ∧ Below w.heap.size w w' := by
  have hne : ((a.size : Int) != (b.size : Int)) = false := by simp [hab]
  have HAB := Lib.hid hab
  have hbl : b.size ≤ 140737488351232 := by omega
  clear hab
  go_enter Try.func31, Try.ntmps31
  go_wp2_with (refine wpList_strbytes 9 41 5 rfl _ rfl Try.underlying9 Try.underlying41 Try.underlying5 _ rfl ?_; intro w1 cap hz1 hb1 hrow1 hcap1)
  go_loopw [7] (fun j wr => ∃ (t : Nat), t ≤ a.size ∧ j = .int .i64 t ∧ Below w.heap.size w wr ∧ Row wr w.heap.size (((xorL (bs a) (bs b)).take t ++ (bs a).drop t).map byteV)) (fun j _ => a.size - (intOf j).toNat)
  case atStart => exact ⟨0, Nat.zero_le _, rfl, hb1, by simpa using hrow1⟩
  case round =>
    obtain ⟨t, ht, rfl, hbr, hrow⟩ := hrel
    by_cases hlt : t < a.size
    · have hta : t < (bs a).length := by rw [size_list]; exact hlt
      have htb : t < b.size := by rw [← HAB.out]; exact hlt
      have htb' : t < (bs b).length := by rw [size_list]; exact htb
      have hl : (bs a).length = (bs b).length := by rw [size_list, size_list, HAB.out]
      have hct : wr.cell? ⟨w.heap.size, t, none⟩ = some (.int .u8 ((bs a)[t].toNat : Int)) := hrow.cell (xor_at (bs a) (bs b) t hta hl)
      have hft : wr.frozen? ⟨w.heap.size, t, none⟩ = false := hrow.free (by
        simp only [List.length_map, List.length_append, List.length_take, List.length_drop, xorL_length _ _ hl]
        omega)
      have HL := Lib.hid hl
      clear hl
      go_wp2
      refine wp_region_still_tail 10 (by kernel_rfl) (by kernel_rfl) ?_
      simp only [List.take_succ_cons, List.take_zero, List.drop_succ_cons, List.drop_zero]
      repeat still_step
      still_call ((bit_any _ _ _).mono fun _ _ h => ⟨h.1, h.2.symm⟩)
      repeat still_step
      refine wpStill_nil ?_
      go_wp2
      go_roundw
      case rel => exact ⟨t + 1, by omega, by go_num, (hbr.setCell (by exact Nat.le_refl _) _).drew, by
        have h1 := hrow.set_ t (.int .u8 (((bs a)[t] ^^^ (bs b)[t]).toNat : Int))
        rw [xor_step (bs a) (bs b) t hta htb' HL.out] at h1
        exact h1⟩
      case measure => simp [intOf]; omega
    · have hl : (bs a).length = (bs b).length := by rw [size_list, size_list, HAB.out]
      have hx : (xorL (bs a) (bs b)).length = a.size := by rw [xorL_length _ _ hl, size_list]
      have h2 := hrow
      rw [show t = a.size by omega, List.take_of_length_le (by omega), List.drop_of_length_le (by rw [size_list]; exact Nat.le_refl _), List.append_nil] at h2
      have hconv' := run_row_string 41 9 5 h2 hx Try.underlying41 Try.underlying5 Try.underlying9 cap
      have HL := Lib.hid hl
      have HX := Lib.hid hx
      clear hl hx
      go_wp2
      go_ret2
      exact ⟨rfl, hbr⟩

set_option maxHeartbeats 400000 in
theorem ref_two_no (a b : ByteArray) (w : World) (_ha : a.size ≤ 140737488351232) (_hb : b.size ≤ 140737488351232) (hab : a.size ≠ b.size) :
    Calls Try.prog 31 #[.string a, .string b] w fun e w' => e = .returned (.tuple #[.string ⟨#[]⟩, .int .i64 10]) ∧ w = w' := by
  have hne : ((a.size : Int) != (b.size : Int)) = true := by simp; omega
  go_enter Try.func31, Try.ntmps31
  go_wp2
  go_ret2
  exact ⟨rfl, rfl⟩

theorem ref_two_any (a b : ByteArray) (w : World) (ha : a.size ≤ 140737488351232) (hb : b.size ≤ 140737488351232) :
    Sums Try.prog 31 #[.string a, .string b] w (sumOf [bs a, bs b]) := by
  by_cases hab : a.size = b.size
  · have : sumOf [bs a, bs b] = some (xorL (bs a) (bs b)) := by simp [sumOf, hab]
    rw [this]
    exact ref_two_yes a b w ha hab
  · have : sumOf [bs a, bs b] = none := by simp [sumOf]; omega
    rw [this]
    exact (ref_two_no a b w ha hb hab).mono fun e w' ⟨he, hw⟩ => ⟨he, hw ▸ Below.refl _ _⟩

set_option maxHeartbeats 800000 in
theorem ref_all_any (A : Option Addr) (n c B : Nat) (ss : List ByteArray) (w : World) (hc : n ≤ 8796093022208) (hr : Reads w B A n (ss.map .string)) (hB : B ≤ w.heap.size)
    (hs : ∀ s ∈ ss, s.size ≤ 140737488351232) : Sums Try.prog 23 #[.slice A n c] w (sumOf (ss.map bs)) := by
  have hlen : ss.length = n := by simpa using hr.1
  by_cases h0 : n = 0
  · subst h0
    obtain rfl : ss = [] := List.eq_nil_of_length_eq_zero hlen
    clear hr hs hlen
    go_enter Try.func23, Try.ntmps23
    go_wp2
    go_ret2
    exact ⟨rfl, Below.refl _ _⟩
  · obtain ⟨s0, st, rfl⟩ : ∃ a t, ss = a :: t := by cases ss with | nil => simp at hlen; omega | cons a t => exact ⟨a, t, rfl⟩
    obtain ⟨b, o, rfl, hb, hcell⟩ := hr.2 (by omega)
    have hcell0 : w.cell? ⟨b, o, none⟩ = some (.string s0) := hcell 0 _ rfl
    have hs0 := hs s0 (by simp)
    have hpos : 1 ≤ n := by omega
    have hpos' : ((n : Int) == 0) = false := by simp; omega
    have HC := Lib.hid hcell
    have HS := Lib.hid hs
    have HL := Lib.hid hlen
    clear hcell hs hlen hr h0
    go_enter Try.func23, Try.ntmps23
    go_wp2
    go_loopw [4, 5, 6] (fun s e i wr => ∃ (k : Nat) (r : Option (List UInt8)), 1 ≤ k ∧ k ≤ n ∧ i = .int .i64 k ∧ s = .string (strR r) ∧ e = .int .i64 (errR r) ∧ sumOf (((s0 :: st).take k).map bs) = r ∧ Below w.heap.size w wr) (fun _ _ i _ => n - (intOf i).toNat)
    case atStart => exact ⟨1, some (bs s0), by omega, hpos, rfl, by rw [strR, mk_list], rfl, rfl, Below.refl _ _⟩
    case round =>
      obtain ⟨k, r, hk1, hk, rfl, rfl, rfl, hsum, hbr⟩ := hrel
      have HSUM := Lib.hid hsum
      clear hsum
      have hk' : k ≤ (s0 :: st).length := by have := HL.out; omega
      obtain ⟨l1, hl1⟩ : ∃ l1, ((s0 :: st).take k).map bs = bs s0 :: l1 := ⟨(st.take (k - 1)).map bs, by
        obtain ⟨k', rfl⟩ : ∃ k', k = k' + 1 := ⟨k - 1, by omega⟩
        simp⟩
      have HL1 := Lib.hid hl1
      clear hl1
      cases r with
      | none =>
        have he : ((errR none) == 0) = false := rfl
        have hfin : sumOf ((s0 :: st).map bs) = none := by
          have h1 : (s0 :: st).map bs = ((s0 :: st).take k).map bs ++ ((s0 :: st).drop k).map bs := by rw [← List.map_append, List.take_append_drop]
          have h2 := HSUM.out
          rw [HL1.out] at h2
          rw [h1, HL1.out, List.cons_append]
          exact sumOf_none _ _ h2 _
        have HF := Lib.hid hfin
        clear hfin
        by_cases hlt : k < n
        all_goals
          go_wp2
          go_ret2
          rw [HF.out]
          exact ⟨rfl, hbr⟩
      | some acc =>
        have he : ((errR (some acc)) == 0) = true := rfl
        have hacc : acc.length ≤ 140737488351232 := by
          have h2 := HSUM.out
          rw [HL1.out] at h2
          rw [sumOf_size h2, size_list]
          exact hs0
        by_cases hlt : k < n
        · have hk2 : k < (s0 :: st).length := by have := HL.out; omega
          obtain ⟨sk, hsk⟩ : ∃ s, (s0 :: st)[k]? = some s := ⟨_, List.getElem?_eq_getElem hk2⟩
          have hck : wr.cell? ⟨b, o + k, none⟩ = some (.string sk) := by
            rw [hbr.cell (by show b < _; omega)]
            exact HC.out k _ (by rw [List.getElem?_map, hsk]; rfl)
          have hszk : sk.size ≤ 140737488351232 := HS.out sk (List.mem_of_getElem? hsk)
          have hcall := ref_two_any (strR (some acc)) sk wr (by rw [← size_list, strR, bs_mk]; exact hacc) hszk
          rw [show bs (strR (some acc)) = acc from bs_mk acc] at hcall
          have HK := Lib.hid hsk
          have HCALL := Lib.hid hcall
          clear hsk hcall
          go_wp2_with (go_at_call 31; refine HCALL.out.mono ?_; rintro e w' ⟨rfl, hb'⟩)
          go_roundw
          case rel => exact ⟨k + 1, sumOf [acc, bs sk], by omega, by omega, by go_num, rfl, rfl, by
            rw [List.take_add_one, HK.out, List.map_append, HL1.out]
            have h2 := HSUM.out
            rw [HL1.out] at h2
            rw [show ((some sk).toList.map bs) = [bs sk] from rfl, sumOf_snoc, h2], below_then hbr hb' (Nat.le_refl _)⟩
          case measure => simp [intOf]; omega
        · have hfin : sumOf ((s0 :: st).map bs) = some acc := by
            have := HSUM.out
            rwa [List.take_of_length_le (by have := HL.out; omega)] at this
          have HF := Lib.hid hfin
          clear hfin
          go_wp2
          go_ret2
          rw [HF.out]
          exact ⟨rfl, hbr⟩

set_option maxHeartbeats 400000 in
theorem ref_moved_any (a b c : ByteArray) (w : World) (ha : a.size ≤ 140737488351232) (hb : b.size ≤ 140737488351232) (hc : c.size ≤ 140737488351232) :
    Sums Try.prog 34 #[.string a, .string b, .string c] w (sumOf [bs a, bs b, bs c]) := by
  have h1 := ref_two_any a b w ha hb
  have hsn := sumOf_snoc (bs a) (bs c) [bs b]
  simp only [List.cons_append, List.nil_append] at hsn
  cases hr : sumOf [bs a, bs b] with
  | none =>
    rw [hr] at h1 hsn
    simp only [] at hsn
    rw [hsn]
    have H1 := Lib.hid h1
    clear h1 hsn hr
    have he : ((errR none) != 0) = true := rfl
    go_enter Try.func34, Try.ntmps34
    go_wp2_with (go_at_call 31; refine H1.out.mono ?_; rintro e w' ⟨rfl, hb'⟩)
    go_ret2
    exact ⟨rfl, hb'⟩
  | some acc =>
    rw [hr] at h1 hsn
    simp only [] at hsn
    rw [hsn]
    have hl : acc.length = (bs a).length := sumOf_size hr
    have h2 := fun w1 => ref_two_any (strR (some acc)) c w1 (by rw [← size_list, strR, bs_mk, hl, size_list]; exact ha) hc
    rw [show bs (strR (some acc)) = acc from bs_mk acc] at h2
    have H1 := Lib.hid h1
    have H2 := Lib.hid h2
    clear h1 h2 hsn hr
    have he : ((errR (some acc)) != 0) = false := rfl
    go_enter Try.func34, Try.ntmps34
    go_wp2_with fail
    refine H1.out.mono ?_
    rintro e w' ⟨rfl, hb'⟩
    go_wp2_with fail
    refine (H2.out _).mono ?_
    rintro e w2 ⟨rfl, hb2⟩
    go_wp2
    go_ret2
    exact ⟨rfl, below_then hb' hb2 (Nat.le_refl _)⟩

set_option maxHeartbeats 400000 in
theorem ref_missing_any (s0 : ByteArray) (A : Option Addr) (n c B : Nat) (ss : List ByteArray) (w : World) (hc : n ≤ 8796093021952) (hr : Reads w B A n (ss.map .string)) (hB : B ≤ w.heap.size)
    (hs0 : s0.size ≤ 140737488351232) (hs : ∀ s ∈ ss, s.size ≤ 140737488351232) :
    Sums Try.prog 36 #[.string s0, .slice A n c] w (sumOf (bs s0 :: ss.map bs)) := by
  have HR := Lib.hid (hr.alloc hB (.cells #[.string s0] 9))
  have HS := Lib.hid hs
  have hown : Own (w.alloc (.cells #[.string s0] 9)) w.heap.size 9 (some ⟨w.heap.size, 0, none⟩) 1 1 [.string s0] := Own.lit w [.string s0] 9 1 rfl (by unfold maxLen; omega) (Nat.le_refl _)
  have HO := Lib.hid hown
  clear hr hs hown
  go_enter Try.func36, Try.ntmps36
  go_wp2_with (first
    | (at_builtin; refine wpList_app 24 9 16 (.string ⟨#[]⟩) rfl _ _ rfl Try.underlying24 info_str rfl rfl HO.out rfl HR.out (strs_oneCell ss) rfl (by unfold maxLen; omega) (by omega) (by simp) ?_; intro A' c' w1 hown1 hgr1 hbd1)
    | (go_at_call 23; refine (ref_all_any _ _ _ w1.heap.size (s0 :: ss) _ (by omega) hown1.reads (Nat.le_refl _) (by intro s h; rcases List.mem_cons.1 h with h | h; exact h ▸ hs0; exact HS.out s h)).mono ?_; rintro e w' ⟨rfl, hb⟩))
  go_ret2
  exact ⟨rfl, below_call (((Below.refl _ _).alloc (Nat.le_refl _) _).trans hbd1) hb⟩
end Go.Proofs.Ythckkmoafobmnaa
