/- The document's answer of layer 4, walked. -/
import Derived.Test.YtlefchholkkkfaaFrameMath
import Derived.Test.YtlefchholkkkfaaCrcRef
namespace Go.Proofs.Ytlefchholkkkfaa
open Go.RowKit Go.ChangeShapes Go.WideShapes

/-- 'string([]byte{..})' of a literal -/
theorem run_lit {P : Program} (src dst e t : TypeId) (w : World) (cs : Array Value) (l : List UInt8) (n : Nat) (hc : cs.toList = l.map byteV) (hn : l.length = n)
    (hs : P.underlying src = some (.slice e)) (he : P.underlying e = some (.int .u8)) (hd : P.underlying dst = some .string) :
    (convert src dst (.slice (some ⟨w.heap.size, 0, none⟩) n n)).run P (w.alloc (.cells cs t)) = .ok (.string ⟨l.toArray⟩) (w.alloc (.cells cs t)) := by
  subst hn
  refine run_convert_bytes_back (P := P) _ src dst e ⟨w.heap.size, 0, none⟩ l.length l hs he hd (fun j hj => ?_)
  rw [add_plain]
  obtain ⟨b, o, e1, _, hx⟩ := (reads_lit w (l.map byteV) t l.length (by simp)).2 (by omega)
  simp only [Option.some.injEq, Addr.mk.injEq] at e1
  obtain ⟨rfl, rfl, _⟩ := e1
  have := hx j (byteV l[j]) (by rw [List.getElem?_map, List.getElem?_eq_getElem hj]; rfl)
  rw [← hc] at this
  exact this
theorem bs_cat (s t : ByteArray) : bsOf (s ++ t) = bsOf s ++ bsOf t := by simp
theorem size_cat (s t : ByteArray) : (s ++ t).size = s.size + t.size := by simp
theorem bs_back (s : ByteArray) : (⟨(bsOf s).toArray⟩ : ByteArray) = s := rfl
theorem bs_sub (s : ByteArray) (n m : Nat) : bsOf (s.extract n m) = ((bsOf s).drop n).take (m - n) := by
  simp [bsOf]
theorem text_same (x y : ByteArray) : (x.toList == y.toList) = decide (bsOf x = bsOf y) := by
  rw [ByteArray.toList_eq, ByteArray.toList_eq, Bool.eq_iff_iff, beq_iff_eq, decide_eq_true_eq]

set_option maxRecDepth 100000 in
set_option maxHeartbeats 1600000 in
theorem ref04_lay (s : ByteArray) (w : World) (hs : s.size ≤ 1125899906842624) :
    Calls Try.prog 12 #[.string s] w fun e w' => e = .returned (.tuple #[.string (textO (frO (bsOf s))), .int .i64 (codeO 40 (frO (bsOf s)))]) ∧ Below w.heap.size w w' := by
  have hl : (bsOf s).length = s.size := rfl
  by_cases h8 : 800 < s.size
  · have e1 : frO (bsOf s) = none := if_neg (by omega)
    have d : decide ((800 : Int) < s.size) = true := by simp; omega
    rw [e1]
    go_enter Try.func12, Try.ntmps12
    go_wp2
    go_ret2
    exact ⟨rfl, Below.refl _ _⟩
  · have e1 : frO (bsOf s) = some (frameL (bsOf s)) := if_pos (by omega)
    have d : decide ((800 : Int) < s.size) = false := by simp; omega
    obtain ⟨h0, hh0⟩ : ∃ h : ByteArray, h = ⟨(headL s.size).toArray⟩ := ⟨_, rfl⟩
    have hh1 : bsOf h0 = headL s.size := by rw [hh0]
    have hh2 : h0.size = 4 := by rw [hh0]; rfl
    have hb : bsOf (h0 ++ s) = bodyL (bsOf s) := by rw [bs_cat, hh1]; rfl
    have hz : (h0 ++ s).size ≤ 804 := by rw [size_cat]; omega
    obtain ⟨c, hc⟩ : ∃ c, goN sum0 (bodyL (bsOf s)) = c := ⟨_, rfl⟩
    have hcl : c < 16777216 := by rw [← hc]; exact goN_lt _ _ sum0_lt
    obtain ⟨t0, ht0⟩ : ∃ t : ByteArray, t = ⟨(tailL c).toArray⟩ := ⟨_, rfl⟩
    have ht1 : bsOf t0 = tailL c := by rw [ht0]
    have ht2 : t0.size = 3 := by rw [ht0]; rfl
    have hfin : (⟨(frameL (bsOf s)).toArray⟩ : ByteArray) = h0 ++ s ++ t0 := by
      have : bsOf (h0 ++ s ++ t0) = frameL (bsOf s) := by
        rw [bs_cat, hb, ht1]
        unfold frameL
        rw [hc]
      rw [← this]
    have K1 := run_lit (P := Try.prog) 27 9 5 5 w #[.int .u8 87, .int .u8 76, .int .u8 ((s.size : Int) % 256), .int .u8 ((s.size : Int) / 256)] (headL s.size) 4
      (by simp only [headL, List.map_cons, List.map_nil, byteV, small8 _ (show s.size % 256 < 256 by omega), small8 _ (show s.size / 256 < 256 by omega)]; rfl) rfl Try.underlying27 Try.underlying5 Try.underlying9
    have K2 := fun w' => run_lit (P := Try.prog) 27 9 5 5 w' #[.int .u8 ((c : Int) / 65536), .int .u8 ((c : Int) / 256 % 256), .int .u8 ((c : Int) % 256)] (tailL c) 3
      (by simp only [tailL, List.map_cons, List.map_nil, byteV, small8 _ (show c / 65536 < 256 by omega), small8 _ (show c / 256 % 256 < 256 by omega), small8 _ (show c % 256 < 256 by omega)]; rfl) rfl Try.underlying27 Try.underlying5 Try.underlying9
    rw [← hh0] at K1
    rw [← ht0] at K2
    have C1 := Lib.hid (fun w' => ref02_sum (h0 ++ s) w' (by omega))
    rw [hb, show firstSum = sum0 from rfl, hc] at C1
    have HF := Lib.hid hfin
    rw [e1]
    clear e1 hh0 hh1 hb hc ht0 ht1 hfin hl hs
    go_enter Try.func12, Try.ntmps12
    go_wp2_with fail
    refine (C1.out _).mono ?_
    rintro e w1 ⟨rfl, rfl⟩
    have K3 := K2 (w.alloc (.cells #[.int .u8 87, .int .u8 76, .int .u8 ((s.size : Int) % 256), .int .u8 ((s.size : Int) / 256)] 5))
    rw [show (w.alloc (.cells #[.int .u8 87, .int .u8 76, .int .u8 ((s.size : Int) % 256), .int .u8 ((s.size : Int) / 256)] 5)).heap.size = w.heap.size + 1 by simp] at K3
    go_wp2
    go_ret2
    refine ⟨?_, ((Below.refl _ _).alloc (Nat.le_refl _) _).alloc (by simp) _⟩
    rw [show textO (some (frameL (bsOf s))) = h0 ++ s ++ t0 from HF.out]
    rfl

theorem ref04_lay_val (s : ByteArray) (w : World) (o : Option (List UInt8)) (S : ByteArray) (E : Int) (hs : s.size ≤ 1125899906842624) (ho : frO (bsOf s) = o) (hS : textO o = S) (hE : codeO 40 o = E) :
    Calls Try.prog 12 #[.string s] w fun e w' => e = .returned (.tuple #[.string S, .int .i64 E]) ∧ Below w.heap.size w w' := by
  subst ho hS hE
  exact ref04_lay s w hs

set_option maxRecDepth 100000 in
set_option maxHeartbeats 1600000 in
theorem ref04_open (s : ByteArray) (w : World) (hs : s.size ≤ 1125899906842624) :
    Calls Try.prog 14 #[.string s] w fun e w' => e = .returned (.tuple #[.string (textO (openO (bsOf s))), .int .i64 (codeO 40 (openO (bsOf s)))]) ∧ Below w.heap.size w w' := by
  have hl : (bsOf s).length = s.size := rfl
  by_cases h7 : s.size < 7
  · have e1 : openO (bsOf s) = none := if_neg (fun h => by have := h.1; omega)
    have d : decide ((s.size : Int) < 7) = true := by simp; omega
    rw [e1]
    go_enter Try.func14, Try.ntmps14
    go_wp2
    go_ret2
    exact ⟨rfl, Below.refl _ _⟩
  · have d : decide ((s.size : Int) < 7) = false := by simp; omega
    by_cases h8 : 807 < s.size
    · have e1 : openO (bsOf s) = none := if_neg (fun h => by have := h.2.1; omega)
      have d2 : decide ((807 : Int) < s.size) = true := by simp; omega
      rw [e1]
      go_enter Try.func14, Try.ntmps14
      go_wp2
      go_ret2
      exact ⟨rfl, Below.refl _ _⟩
    · have d2 : decide ((807 : Int) < s.size) = false := by simp; omega
      obtain ⟨p, hp⟩ : ∃ p, s.extract 4 (s.size - 3) = p := ⟨_, rfl⟩
      have hpb : bsOf p = midL (bsOf s) := by
        rw [← hp, bs_sub]
        unfold midL
        rw [hl, show s.size - 3 - 4 = s.size - 7 by omega]
      have hps : p.size = s.size - 7 := by rw [← hp]; simp; omega
      have ho : frO (bsOf p) = some (frameL (midL (bsOf s))) := by
        rw [hpb]
        refine if_pos ?_
        rw [← hpb]
        show p.size ≤ 800
        omega
      obtain ⟨T, hT⟩ : ∃ T : ByteArray, textO (some (frameL (midL (bsOf s)))) = T := ⟨_, rfl⟩
      have C1 := Lib.hid (fun w' => ref04_lay_val p w' _ T 0 (by omega) ho hT rfl)
      have hcase : ((T.toList == s.toList) = false ∧ openO (bsOf s) = none) ∨ ((T.toList == s.toList) = true ∧ openO (bsOf s) = some (bsOf p)) := by
        have e : bsOf T = frameL (midL (bsOf s)) := by rw [← hT]; rfl
        rw [text_same, e]
        by_cases h : frameL (midL (bsOf s)) = bsOf s
        · exact Or.inr ⟨by simp [h], by rw [hpb]; exact if_pos ⟨by omega, by omega, h⟩⟩
        · exact Or.inl ⟨by simp [h], if_neg (fun hh => h hh.2.2)⟩
      have i4 : (4 : Int) ≤ (s.size : Int) - 3 := by omega
      have it : ((s.size : Int) - 3).toNat = s.size - 3 := by omega
      clear hT ho hpb hps hl
      rcases hcase with ⟨ht, ho⟩ | ⟨ht, ho⟩
      all_goals
        rw [ho]
        clear ho
        go_enter Try.func14, Try.ntmps14
        go_wp2_with fail
        refine (C1.out _).mono ?_
        rintro e w1 ⟨rfl, b1⟩
        go_wp2
        go_ret2
        exact ⟨rfl, b1⟩
theorem ref04_open_val (s : ByteArray) (w : World) (o : Option (List UInt8)) (S : ByteArray) (E : Int) (hs : s.size ≤ 1125899906842624) (ho : openO (bsOf s) = o) (hS : textO o = S) (hE : codeO 40 o = E) :
    Calls Try.prog 14 #[.string s] w fun e w' => e = .returned (.tuple #[.string S, .int .i64 E]) ∧ Below w.heap.size w w' := by
  subst ho hS hE
  exact ref04_open s w hs
end Go.Proofs.Ytlefchholkkkfaa
