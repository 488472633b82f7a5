/- The document's answer of layer 3, walked: numbers. -/
import Derived.Test.YtkdkekmgnejhpaaTlvMath
namespace Go.Proofs.Ytkdkekmgnejhpaa
open Go.RowKit Go.ChangeShapes Go.WideShapes

theorem info03_u8 : (Try.prog.info? 5).map (fun i => (i.zero, i.size, i.bytes)) = some (some (.int .u8 0), 1, 1) := by kernel_rfl
theorem bytes_oneCell (l : List UInt8) : ∀ u ∈ l.map byteV, u.oneCell' = true := by
  intro u hu
  obtain ⟨b, _, rfl⟩ := List.mem_map.1 hu
  rfl
/-- 'string(b)' over a slice of the call's own -/
theorem run_own_string {P : Program} (src dst e : TypeId) {w : World} {B : Nat} {A : Option Addr} {n c : Nat} {l : List UInt8} (hown : Own w B e A n c (l.map byteV)) (hs : P.underlying src = some (.slice e)) (he : P.underlying e = some (.int .u8))
    (hd : P.underlying dst = some .string) : (convert src dst (.slice A n c)).run P w = .ok (.string ⟨l.toArray⟩) w := by
  have hl : l.length = n := by simpa using hown.len
  have hr := hown.reads
  cases A with
  | none =>
    have h0 : n = 0 := by
      refine Nat.eq_zero_of_not_pos fun h => ?_
      obtain ⟨b, o, e, _⟩ := hr.2 h
      cases e
    subst h0
    have : l = [] := List.eq_nil_of_length_eq_zero hl
    subst this
    rw [run_convert_bytes_string w src dst e none 0 c hs he hd]
    simp [Conv.bytesToString]
    rfl
  | some a =>
    subst hl
    refine run_convert_bytes_back (P := P) w src dst e a c l hs he hd (fun j hj => ?_)
    obtain ⟨b, o, e1, _, hc⟩ := hr.2 (by omega)
    cases e1
    rw [add_plain]
    exact hc j _ (by rw [List.getElem?_map, List.getElem?_eq_getElem hj]; rfl)

def numOk (n : Int) : Prop := -1 ≤ n ∧ n ≤ 1099511627776
instance (n : Int) : Decidable (numOk n) := by unfold numOk; infer_instance
def numS (n : Int) : ByteArray := if numOk n then ⟨(numL (n + 1).toNat).toArray⟩ else ⟨#[]⟩
def numE (n : Int) : Int := if numOk n then 0 else 30

theorem numL_length6 (m : Nat) (h : m ≤ 1099511627777) : (numL m).length ≤ 6 := by
  have h1 := numL_mono m 1099511627777 h
  have h2 : (numL 1099511627777).length = 6 := by
    simp [numL]
  omega

set_option maxRecDepth 100000 in
set_option maxHeartbeats 1600000 in
theorem ref03_num (n : Int) (w : World) (hn : (Lit.int .i64 n).wf = true) :
    Calls Try.prog 16 #[.int .i64 n] w fun e w' => e = .returned (.tuple #[.string (numS n), .int .i64 (numE n)]) ∧ Below w.heap.size w w' := by
  have hb := bounds_i64 hn
  by_cases hk : numOk n
  · have e1 : numS n = ⟨(numL (n + 1).toNat).toArray⟩ := if_pos hk
    have e2 : numE n = 0 := if_pos hk
    rw [e1, e2]
    obtain ⟨m0, hm0⟩ : ∃ m0 : Nat, n + 1 = (m0 : Int) := ⟨(n + 1).toNat, by have := hk.1; omega⟩
    have hle : m0 ≤ 1099511627777 := by have := hk.2; omega
    rw [show (n + 1).toNat = m0 by omega]
    have d1 : decide (n < -1) = false := by have := hk.1; simp; omega
    have d2 : decide (1099511627776 < n) = false := by have := hk.2; simp; omega
    have H6 := Lib.hid (numL_length6 m0 hle)
    go_enter Try.func16, Try.ntmps16
    go_wp2
    go_loopw [4, 5] (fun v i wr => ∃ (m : Nat) (acc : List UInt8) (A : Option Addr) (c : Nat), m ≤ 1099511627777 ∧ i = .int .i64 m ∧ v = .slice A acc.length c ∧ acc ++ numL m = numL m0 ∧ Own wr w.heap.size 5 A acc.length c (acc.map byteV) ∧ Below w.heap.size w wr) (fun _ i _ => (intOf i).toNat)
    case atStart => exact ⟨m0, [], none, 0, hle, rfl, rfl, rfl, Own.nil _ _ _, Below.refl _ _⟩
    case round =>
      obtain ⟨m, acc, A, c, hm, rfl, rfl, hacc, hown, hbr⟩ := hrel
      have hlen : acc.length ≤ 6 := by
        have := congrArg List.length hacc
        rw [List.length_append] at this
        have := H6.out
        omega
      have HACC := Lib.hid hacc
      clear hacc
      by_cases h0 : m = 0
      · subst h0
        have hconv := run_own_string 42 9 5 hown Try.underlying42 Try.underlying5 Try.underlying9
        go_wp2
        go_ret2
        have e : acc = numL m0 := by rw [← HACC.out, numL_zero, List.append_nil]
        rw [e]
        exact ⟨rfl, hbr⟩
      · have hpos : (0 : Int) < m := by omega
        have hlow : ((m : Int) % 256) = ((UInt8.ofNat (m % 256)).toNat : Int) := by rw [ofNat_small _ (by omega)]; omega
        have HLOW := Lib.hid hlow
        clear hlow
        go_wp2_with (at_builtin; refine wpList_app 42 5 1 (.int .u8 0) rfl _ _ rfl Try.underlying42 info03_u8 rfl rfl (hown.later ((Below.refl _ _).alloc (Nat.le_refl _) _)) rfl (reads_lit _ [_] _ 1 rfl) (by simp [Value.oneCell']) rfl (by unfold maxLen; omega) (by omega) (by have := hbr.size; simp; omega) ?_; intro A2 c2 w3 hown3 hgr3 hbd3)
        go_roundw
        case rel => exact ⟨m / 256, acc ++ [UInt8.ofNat (m % 256)], A2, c2, by omega, by go_num, by rw [List.length_append]; rfl, by rw [← HACC.out, numL_pos m h0, List.append_assoc]; rfl, by
          rw [HLOW.out] at hown3
          rw [List.length_append, List.map_append]
          exact hown3, (hbr.alloc (by have := hbr.size; omega) _).trans hbd3⟩
        case measure => simp [intOf]; omega
  · have e1 : numS n = ⟨#[]⟩ := if_neg hk
    have e2 : numE n = 30 := if_neg hk
    rw [e1, e2]
    unfold numOk at hk
    have d : decide (n < -1) = true ∨ (decide (n < -1) = false ∧ decide (1099511627776 < n) = true) := by
      by_cases h : n < -1
      · exact Or.inl (by simp; omega)
      · exact Or.inr ⟨by simp; omega, by simp; omega⟩
    rcases d with d1 | ⟨d1, d2⟩
    all_goals
      go_enter Try.func16, Try.ntmps16
      go_wp2
      go_ret2
      exact ⟨rfl, Below.refl _ _⟩

def getOk (s : ByteArray) : Prop := s.size ≤ 6 ∧ numOk ((valL (bsOf s) : Nat) - 1 : Int) ∧ numL (valL (bsOf s)) = bsOf s
instance (s : ByteArray) : Decidable (getOk s) := by unfold getOk; infer_instance
def getV (s : ByteArray) : Int := if getOk s then ((valL (bsOf s) : Nat) - 1 : Int) else 0
def getE (s : ByteArray) : Int := if getOk s then 0 else 30
theorem valL_drop (l : List UInt8) (k : Nat) (h : k < l.length) : valL (l.drop k) = l[k].toNat + 256 * valL (l.drop (k + 1)) := by
  rw [List.drop_eq_getElem_cons h]
  rfl
theorem valL_lt6 (l : List UInt8) (h : l.length ≤ 6) : valL l < 281474976710656 :=
  Nat.lt_of_lt_of_le (valL_lt l) (Nat.le_trans (Nat.pow_le_pow_right (by omega) h) (by decide))
theorem getE_mk (s : ByteArray) (h6 : s.size ≤ 6) (x : Int) (hx : ((valL (bsOf s) : Nat) : Int) - 1 = x) :
    getOk s ↔ numOk x ∧ bsOf (numS x) = bsOf s := by
  subst hx
  unfold getOk numS
  refine ⟨fun ⟨_, h1, h2⟩ => ⟨h1, ?_⟩, fun ⟨h1, h2⟩ => ⟨h6, h1, ?_⟩⟩
  · rw [if_pos h1, show (((valL (bsOf s) : Nat) : Int) - 1 + 1).toNat = valL (bsOf s) by omega, h2]
  · rw [if_pos h1, show (((valL (bsOf s) : Nat) : Int) - 1 + 1).toNat = valL (bsOf s) by omega] at h2
    exact h2
theorem text_eqb3 (x y : ByteArray) : (x.toList == y.toList) = decide (bsOf x = bsOf y) := by
  rw [ByteArray.toList_eq, ByteArray.toList_eq, Bool.eq_iff_iff, beq_iff_eq, decide_eq_true_eq]

set_option maxRecDepth 100000 in
set_option maxHeartbeats 1600000 in
theorem ref03_get (s : ByteArray) (w : World) (hs : s.size ≤ 140737488351232) :
    Calls Try.prog 18 #[.string s] w fun e w' => e = .returned (.tuple #[.int .i64 (getV s), .int .i64 (getE s)]) ∧ Below w.heap.size w w' := by
  by_cases h6 : s.size ≤ 6
  · obtain ⟨l, hl⟩ : ∃ l, s.data.toList = l := ⟨_, rfl⟩
    have hll : l.length = s.size := by rw [← hl]; rfl
    obtain ⟨v, hv⟩ : ∃ v : Nat, valL l = v := ⟨_, rfl⟩
    have hvl : v < 281474976710656 := by rw [← hv]; exact valL_lt6 l (by omega)
    have hok := getE_mk s h6 ((v : Int) - 1) (by rw [← hv, ← hl])
    have hval : getV s = if getOk s then (v : Int) - 1 else 0 := by unfold getV; rw [← hv, ← hl]
    have HOK := Lib.hid hok
    have HVAL := Lib.hid hval
    have HV := Lib.hid hv
    have C1 := Lib.hid (fun w' => ref03_num ((v : Int) - 1) w' (WalkArith.wf_i64 (by omega)))
    have d0 : decide ((6 : Int) < s.size) = false := by simp; omega
    clear hok hval hv
    go_enter Try.func18, Try.ntmps18
    go_wp2
    go_loopw [4, 5] (fun x i wr => ∃ (k : Nat) (a : Nat), k ≤ s.size ∧ i = .int .i64 ((k : Int) - 1) ∧ x = .int .i64 (a : Int) ∧ a = valL (l.drop k) ∧ a < 281474976710656 ∧ w = wr) (fun _ i _ => (intOf i + 1).toNat)
    case atStart => exact ⟨s.size, 0, Nat.le_refl _, rfl, rfl, by rw [List.drop_of_length_le (by omega)]; rfl, by decide, rfl⟩
    case round =>
      obtain ⟨k, a, hk, rfl, rfl, ha, hal, rfl⟩ := hrel
      have HA := Lib.hid ha
      clear ha
      by_cases h0 : k = 0
      · subst h0
        have e : a = v := by rw [HA.out, List.drop_zero]; exact HV.out
        subst e
        have dk : decide ((0 : Int) ≤ ((0 : Nat) : Int) - 1) = false := by decide
        obtain ⟨st, hst⟩ : ∃ st, numS ((a : Int) - 1) = st := ⟨_, rfl⟩
        obtain ⟨er, her⟩ : ∃ er, numE ((a : Int) - 1) = er := ⟨_, rfl⟩
        have hcase : (er = 30 ∧ getV s = 0 ∧ getE s = 30) ∨ (er = 0 ∧ (st.toList == s.toList) = false ∧ getV s = 0 ∧ getE s = 30) ∨ (er = 0 ∧ (st.toList == s.toList) = true ∧ getV s = (a : Int) - 1 ∧ getE s = 0) := by
          have h1 := HOK.out
          have h2 := HVAL.out
          rw [hst] at h1
          by_cases hn : numOk ((a : Int) - 1)
          · by_cases he : bsOf st = bsOf s
            · have hg : getOk s := h1.2 ⟨hn, he⟩
              exact Or.inr (Or.inr ⟨by rw [← her]; exact if_pos hn, by rw [text_eqb3]; simpa using he, by rw [h2, if_pos hg], if_pos hg⟩)
            · have hg : ¬ getOk s := fun h => he (h1.1 h).2
              exact Or.inr (Or.inl ⟨by rw [← her]; exact if_pos hn, by rw [text_eqb3]; simpa using he, by rw [h2, if_neg hg], if_neg hg⟩)
          · have hg : ¬ getOk s := fun h => hn (h1.1 h).1
            exact Or.inl ⟨by rw [← her]; exact if_neg hn, by rw [h2, if_neg hg], if_neg hg⟩
        rw [hst, her] at C1
        clear hst her HOK HVAL HV HA
        rcases hcase with ⟨rfl, ev, ee⟩ | ⟨rfl, et, ev, ee⟩ | ⟨rfl, et, ev, ee⟩
        all_goals
          go_wp2_with fail
          refine (C1.out _).mono ?_
          rintro e w1 ⟨rfl, b1⟩
          go_wp2
          go_ret2
          rw [ev, ee]
          exact ⟨rfl, b1⟩
      · obtain ⟨j, rfl⟩ : ∃ j, k = j + 1 := ⟨k - 1, by omega⟩
        have hj : j < s.size := by omega
        have hjl : j < l.length := by omega
        have dk : decide ((0 : Int) ≤ (((j + 1 : Nat)) : Int) - 1) = true := by simp
        have ej : (((j + 1 : Nat)) : Int) - 1 = (j : Int) := by omega
        rw [ej] at dk ⊢
        have h2 : s[j].toNat + 256 * a < 281474976710656 := by
          have h3 := valL_lt6 (l.drop j) (by rw [List.length_drop]; omega)
          rw [valL_drop l j hjl, ← HA.out] at h3
          simp only [← hl] at h3
          exact h3
        go_wp2
        go_roundw
        case rel => exact ⟨j, s[j].toNat + 256 * a, by omega, rfl, by go_num, by rw [valL_drop l j hjl, ← HA.out]; simp only [← hl]; rfl, h2, trivial⟩
        case measure => simp [intOf]
  · have hg : ¬ getOk s := fun h => h6 h.1
    rw [show getV s = 0 from if_neg hg, show getE s = 30 from if_neg hg]
    have d0 : decide ((6 : Int) < s.size) = true := by simp; omega
    go_enter Try.func18, Try.ntmps18
    go_wp2
    go_ret2
    exact ⟨rfl, Below.refl _ _⟩
end Go.Proofs.Ytkdkekmgnejhpaa
