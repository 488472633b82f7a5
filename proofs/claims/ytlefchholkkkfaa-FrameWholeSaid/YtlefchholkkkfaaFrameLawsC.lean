/- The statements of layer 4: walks, continued: bytes and bits that are others. -/
import Derived.Test.YtlefchholkkkfaaFrameLawsB
namespace Go.Proofs.Ytlefchholkkkfaa
open Go.RowKit Go.ChangeShapes Go.WideShapes

theorem byte_at {w : World} {g : Nat} {l : List UInt8} (h : Row w g (l.map byteV)) (k : Nat) (hk : k < l.length) : w.cell? ⟨g, k, none⟩ = some (.int .u8 (l[k].toNat : Int)) := h.cell (by rw [List.getElem?_map, List.getElem?_eq_getElem hk]; rfl)
theorem byte_set {w : World} {g : Nat} {l : List UInt8} (h : Row w g (l.map byteV)) (k : Nat) (b : UInt8) : Row (w.setCell ⟨g, k, none⟩ (.int .u8 (b.toNat : Int))) g ((l.set k b).map byteV) := by
  have := h.set_ k (byteV b)
  rw [← List.map_set] at this
  exact this
theorem info04_u8 : (Try.prog.info? 5).map (fun i => (i.zero, i.size, i.bytes)) = some (some (.int .u8 0), 1, 1) := by kernel_rfl
theorem zeros_are (n : Nat) : List.replicate n (Value.int .u8 0) = (List.replicate n (0 : UInt8)).map byteV := by
  rw [List.map_replicate]
  rfl
theorem xor_bytes (x y : UInt8) : bits .xor .u8 (x.toNat : Int) (y.toNat : Int) = ((x ^^^ y).toNat : Int) := by
  show IntKind.u8.wrap ((BitVec.ofInt 8 (x.toNat : Int) ^^^ BitVec.ofInt 8 (y.toNat : Int)).toNat : Int) = _
  have hx := x.toNat_lt
  have hy := y.toNat_lt
  have e : ∀ z : Nat, z < 256 → (BitVec.ofInt 8 (z : Int)).toNat = z := fun z hz => by
    rw [BitVec.ofInt_natCast, BitVec.toNat_ofNat]; exact Nat.mod_eq_of_lt (by omega)
  have hxy : x.toNat ^^^ y.toNat < 2 ^ 8 := Nat.xor_lt_two_pow (by omega) (by omega)
  rw [BitVec.toNat_xor, e _ hx, e _ hy, UInt8.toNat_xor, IntKind.wrap_u8]
  omega
/-- what Open tells of a text, with a frame beside it -/
theorem open_case (x T : ByteArray) (q : List UInt8) (hT : openO (bsOf T) = some q) : (openO (bsOf x) = none ∧ (x.toList == T.toList) = false) ∨ (∃ y : ByteArray, openO (bsOf x) = some (bsOf y) ∧ (⟨(frameL (bsOf y)).toArray⟩ : ByteArray) = x ∧ y.size ≤ 800) := by
  cases h : openO (bsOf x) with
  | none =>
    refine Or.inl ⟨rfl, ?_⟩
    rw [text_same]
    have : ¬ bsOf x = bsOf T := fun e => by rw [e, hT] at h; cases h
    simp [this]
  | some p =>
    obtain ⟨e, hl⟩ := open_is _ _ h
    exact Or.inr ⟨⟨p.toArray⟩, rfl, by show (⟨(frameL p).toArray⟩ : ByteArray) = x; rw [e], by show p.toArray.size ≤ 800; simpa using hl⟩

set_option maxRecDepth 100000 in
set_option maxHeartbeats 1600000 in
/-- FrameForth -/
theorem frameForth_any (s p : ByteArray) (at0 : Int) (b : UInt8) (w : World) (hs : s.size ≤ 140737488351232) (hp : p.size ≤ 140737488351232) (ha : (Lit.int .i64 at0).wf = true) :
    Holds Try.prog 5 #[.string s, .string p, .int .i64 at0, .int .u8 (b.toNat : Int)] w := by
  obtain ⟨N, hN, hN1, hN2⟩ := min_is 800 800 rfl p.size
  have hN0 : (0 : Int) ≤ N := by omega
  have hN3 : (N : Int) ≤ p.size := by omega
  obtain ⟨q, hq⟩ : ∃ q, p.extract 0 N = q := ⟨_, rfl⟩
  have hqs : q.size = N := by rw [← hq]; exact cut_size p N hN1
  obtain ⟨S, hS⟩ : ∃ S, (⟨(frameL (bsOf q)).toArray⟩ : ByteArray) = S := ⟨_, rfl⟩
  have hSs : S.size = q.size + 7 := frame_size q S hS
  have hSb := frame_bytes q S hS
  have hql : (bsOf q).length ≤ 800 := by show q.size ≤ 800; omega
  have hSo : openO (bsOf S) = some (bsOf q) := by rw [hSb]; exact open_frame _ hql
  have C1 := Lib.hid (fun w' => frame_laid q w' S (by omega) hS)
  have HSO := Lib.hid hSo
  have HA := Lib.hid ha
  have hz7 : 7 ≤ S.size := by omega
  have hz8 : S.size ≤ 807 := by omega
  have hz0 : ((S.size : Int) == 0) = false := by simp only [beq_eq_false_iff_ne, ne_eq]; omega
  clear hS hSs hSb hql hSo hp hqs ha
  have b0 := Below.refl w.heap.size w
  unfold Holds
  go_enter Try.func5, Try.ntmps5
  go_wp2_with fail
  refine (awake04 _).mono ?_
  rintro e w1 ⟨rfl, b1⟩
  go_wp2_with fail
  refine (C1.out _).mono ?_
  rintro e w2 ⟨rfl, b2⟩
  replace b2 := below_call b1 b2
  clear C1
  go_wp2_with (refine wpList_strbytes 9 27 5 rfl _ rfl Try.underlying9 Try.underlying27 Try.underlying5 _ rfl ?_; intro w3 cap hz3 b3 hrow3 hcap3)
  have hB3 : Below w.heap.size w w3 := below_call b2 b3
  have hg3 : w.heap.size ≤ w2.heap.size := b2.size
  refine (pick04 at0 _ _ HA.out (by omega) (by omega)).mono ?_
  rintro e w4 ⟨k, hk, rfl, rfl⟩
  obtain ⟨l, hl⟩ : ∃ l, S.data.toList = l := ⟨_, rfl⟩
  have hll : l.length = S.size := by rw [← hl]; rfl
  rw [hl] at hrow3
  have hkl : k < l.length := by omega
  have ck := byte_at hrow3 k hkl
  have fk := hrow3.free (j := k) (by simp; exact hkl)
  have hset := byte_set hrow3 k b
  have ik : (k : Int) < S.size := by omega
  have hBs := hB3.setCell (p := ⟨w2.heap.size, k, none⟩) hg3 (.int .u8 (b.toNat : Int))
  obtain ⟨T, hT⟩ : ∃ T : ByteArray, (⟨(l.set k b).toArray⟩ : ByteArray) = T := ⟨_, rfl⟩
  have hTs : T.size = S.size := by rw [← hT, ← hll]; show (List.toArray _).size = _; simp
  have hconv := run_row_string (P := Try.prog) 27 9 5 hset (by rw [List.length_set, hll]) Try.underlying27 Try.underlying5 Try.underlying9 cap
  rw [hT] at hconv
  have h4 : (w3.setCell ⟨w2.heap.size, k, none⟩ (.int .u8 (b.toNat : Int))).heap.size = w3.heap.size := by simp [World.setCell]
  clear hT hset hrow3 hB3 
  go_wp2
  obtain ⟨W, hW⟩ : ∃ W, w3.setCell ⟨w2.heap.size, k, none⟩ (.int .u8 (b.toNat : Int)) = W := ⟨_, rfl⟩
  rw [hW] at hBs h4 ⊢
  have r4 : Reads (W.alloc (.cells #[.string s, .string T, .string S] 9)) (w3.heap.size + 1) (some ⟨w3.heap.size, 0, none⟩) 3 [.string s, .string T, .string S] := by
    have := reads_lit W [.string s, .string T, .string S] 9 3 rfl
    rw [h4] at this
    exact this
  have b4 := hBs.alloc (o := .cells #[.string s, .string T, .string S] 9) hBs.size
  have hsz4 : w3.heap.size + 1 ≤ (W.alloc (.cells #[.string s, .string T, .string S] 9)).heap.size := by simp [h4]
  have hTs2 : T.size ≤ 807 := by omega
  clear hW hconv ck fk hBs hg3 hcap3 hz3 b3 hk hkl ik hTs hll hl hz0 h4
  generalize W.alloc (.cells #[.string s, .string T, .string S] 9) = W4 at *
  go_loopw [47] (fun i wr => ∃ j : Nat, j ≤ 3 ∧ i = .int .i64 j ∧ Reads wr (w3.heap.size + 1) (some ⟨w3.heap.size, 0, none⟩) 3 [.string s, .string T, .string S] ∧ Below w.heap.size w wr ∧ w3.heap.size + 1 ≤ wr.heap.size) (fun i _ => 3 - (intOf i).toNat)
  case atStart => exact ⟨0, by omega, rfl, r4, b4, hsz4⟩
  case round =>
    obtain ⟨j, hj, rfl, rd, hbr, hsz⟩ := hrel
    by_cases hj3 : j < 3
    · obtain ⟨x, hxl, hxs⟩ : ∃ x : ByteArray, [Value.string s, Value.string T, Value.string S][j]? = some (.string x) ∧ x.size ≤ 140737488351232 := by
        match j, hj3 with
        | 0, _ => exact ⟨s, rfl, hs⟩
        | 1, _ => exact ⟨T, rfl, by omega⟩
        | 2, _ => exact ⟨S, rfl, by omega⟩
      have cx : wr.cell? ⟨w3.heap.size, j, none⟩ = some (.string x) := by
        obtain ⟨b, o, u, e1, e2, e3, e4⟩ := rd.at_ hj3
        simp only [Option.some.injEq, Addr.mk.injEq] at e1
        obtain ⟨rfl, rfl, _⟩ := e1
        rw [e3] at hxl
        rw [Nat.zero_add] at e4
        rw [e4, hxl]
      have dk : decide ((j : Int) < 3) = true := by simp; omega
      have dk2 : decide (j < 3) = true := by simp; omega
      have kn : (j : Int) < 3 := by omega
      rcases open_case x S _ HSO.out with ⟨ho, hne⟩ | ⟨y, ho, hy, hys⟩
      · have C2 := Lib.hid (fun w' => frame_open_val x w' none ⟨#[]⟩ 40 (by omega) ho rfl rfl)
        clear ho hxl
        go_wp2_with fail
        refine (C2.out _).mono ?_
        rintro e w5 ⟨rfl, b5⟩
        have rd5 := rd.below (b5.mono hsz)
        have hs5 := Nat.le_trans hsz b5.size
        replace b5 := below_call hbr b5
        go_wp2
        go_roundw
        case rel => exact ⟨j + 1, by omega, by first | rfl | go_num, rd5, b5, hs5⟩
        case measure => simp [intOf]; omega
      · have C2 := Lib.hid (fun w' => frame_open_val x w' (some (bsOf y)) y 0 (by omega) ho rfl rfl)
        have C3 := Lib.hid (fun w' => frame_laid y w' x hys hy)
        clear ho hxl hy
        go_wp2_with fail
        refine (C2.out _).mono ?_
        rintro e w5 ⟨rfl, b5⟩
        have rd5 := rd.below (b5.mono hsz)
        have hs5 := Nat.le_trans hsz b5.size
        replace b5 := below_call hbr b5
        go_wp2_with fail
        refine (C3.out _).mono ?_
        rintro e w6 ⟨rfl, b6⟩
        have rd6 := rd5.below (b6.mono hs5)
        have hs6 := Nat.le_trans hs5 b6.size
        replace b6 := below_call b5 b6
        go_wp2
        go_roundw
        case rel => exact ⟨j + 1, by omega, by first | rfl | go_num, rd6, b6, hs6⟩
        case measure => simp [intOf]; omega
    · have e : j = 3 := by omega
      subst e
      go_wp2
      go_ret
      exact ⟨rfl, hbr⟩

set_option maxRecDepth 100000 in
set_option maxHeartbeats 1600000 in
/-- FrameLong -/
theorem frameLong_any (n : Int) (b : UInt8) (w : World) (hn : (Lit.int .i64 n).wf = true) :
    Holds Try.prog 9 #[.int .i64 n, .int .u8 (b.toNat : Int)] w := by
  have P1 := Lib.hid (fun w' => pick04 n 901 w' hn (by decide) (by decide))
  clear hn
  have b0 := Below.refl w.heap.size w
  unfold Holds
  go_enter Try.func9, Try.ntmps9
  go_wp2_with fail
  refine (awake04 _).mono ?_
  rintro e w1 ⟨rfl, b1⟩
  go_wp2_with fail
  refine (P1.out _).mono ?_
  rintro e w2 ⟨g, hg, rfl, rfl⟩
  have hg1 : w.heap.size ≤ w1.heap.size := b1.size
  go_wp2_with (at_make; refine wpList_mk 27 5 (.int .u8 0) 1 rfl _ _ rfl Try.underlying27 info04_u8 rfl (n := g) rfl rfl (by omega) (by unfold maxLen; omega) ?_; intro w3 hlt3 b3 hrow3 hown3)
  rw [zeros_are] at hrow3
  replace b3 := below_call b1 b3
  clear hown3 hlt3
  go_loopw [7] (fun i wr => ∃ (k : Nat) (l : List UInt8), k ≤ g ∧ i = .int .i64 k ∧ l.length = g ∧ l.take k = List.replicate k b ∧ Row wr w1.heap.size (l.map byteV) ∧ Below w.heap.size w wr) (fun i _ => g - (intOf i).toNat)
  case atStart => exact ⟨0, List.replicate g 0, Nat.zero_le _, rfl, List.length_replicate, rfl, hrow3, b3⟩
  case round =>
    obtain ⟨k, l, hk, rfl, hl, htk, hrow, hbr⟩ := hrel
    by_cases hkg : k < g
    · have dk : decide ((k : Int) < g) = true := by simp; omega
      have dk2 : decide (k < g) = true := by simp; omega
      have ik : (k : Int) < g := by omega
      have ck := byte_at hrow k (by omega)
      have fk := hrow.free (j := k) (by simp; omega)
      have hset := byte_set hrow k b
      have htk2 : (l.set k b).take (k + 1) = List.replicate (k + 1) b := by
        rw [List.take_add_one, List.take_set_of_le (Nat.le_refl k), htk, List.getElem?_set_self (by omega), Option.toList_some, List.replicate_succ']
      have HTK := Lib.hid htk2
      clear htk htk2
      go_wp2
      go_roundw
      case rel => exact ⟨k + 1, l.set k b, by omega, by first | rfl | go_num, by rw [List.length_set, hl], HTK.out, hset, hbr.setCell (by exact hg1) _⟩
      case measure => simp [intOf]; omega
    · have e : k = g := by omega
      subst e
      have dk : decide ((k : Int) < k) = false := by simp
      rw [List.take_of_length_le (by omega)] at htk
      subst htk
      obtain ⟨q, hq⟩ : ∃ q : ByteArray, q = ⟨(List.replicate k b).toArray⟩ := ⟨_, rfl⟩
      have hqs : q.size = k := by rw [hq]; show (List.toArray _).size = _; simp
      have hconv := run_row_string (P := Try.prog) 27 9 5 hrow (List.length_replicate) Try.underlying27 Try.underlying5 Try.underlying9 k
      rw [← hq] at hconv
      have HQ := Lib.hid hq
      clear hq hl hkg hk
      by_cases h8 : 800 < k
      · have C1 := Lib.hid (fun w' => frame_lay_val q w' none ⟨#[]⟩ 40 (by omega) (if_neg (by show ¬ q.size ≤ 800; omega)) rfl rfl)
        have d8 : decide ((800 : Int) < k) = true := by simp; omega
        go_wp2_with fail
        refine (C1.out _).mono ?_
        rintro e w5 ⟨rfl, b5⟩
        go_wp2
        go_ret
        exact ⟨rfl, below_call hbr b5⟩
      · obtain ⟨S, hS⟩ : ∃ S, (⟨(frameL (bsOf q)).toArray⟩ : ByteArray) = S := ⟨_, rfl⟩
        have hSs : S.size = k + 7 := by rw [frame_size q S hS, hqs]
        have hSo : openO (bsOf S) = some (bsOf q) := by rw [frame_bytes q S hS]; exact open_frame _ (by show q.size ≤ 800; omega)
        have C1 := Lib.hid (fun w' => frame_laid q w' S (by omega) hS)
        have C2 := Lib.hid (fun w' => frame_open_val S w' _ q 0 (by omega) hSo rfl rfl)
        have d8 : decide ((800 : Int) < k) = false := by simp; omega
        clear hS hSo
        go_wp2_with fail
        refine (C1.out _).mono ?_
        rintro e w5 ⟨rfl, b5⟩
        replace hrow := hrow.below b5 hrow.lt
        replace b5 := below_call hbr b5
        go_wp2_with fail
        refine (C2.out _).mono ?_
        rintro e w6 ⟨rfl, b6⟩
        replace hrow := hrow.below b6 hrow.lt
        replace b6 := below_call b5 b6
        have hconv2 := run_row_string (P := Try.prog) 27 9 5 hrow (List.length_replicate) Try.underlying27 Try.underlying5 Try.underlying9 k
        rw [← HQ.out] at hconv2
        clear hrow C1 C2 hconv
        go_wp2
        go_ret
        exact ⟨rfl, b6⟩

set_option maxRecDepth 100000 in
set_option maxHeartbeats 1600000 in
/-- FrameTurned -/
theorem frameTurned_any (p0 : ByteArray) (f0 m0 : Int) (w : World) (hp : p0.size ≤ 140737488351232) (hf : (Lit.int .i64 f0).wf = true) (hm : (Lit.int .i64 m0).wf = true) :
    Holds Try.prog 7 #[.string p0, .int .i64 f0, .int .i64 m0] w := by
  obtain ⟨N, hN, hN1, hN2⟩ := min_is 800 800 rfl p0.size
  have hN0 : (0 : Int) ≤ N := by omega
  have hN3 : (N : Int) ≤ p0.size := by omega
  obtain ⟨q, hq⟩ : ∃ q, p0.extract 0 N = q := ⟨_, rfl⟩
  have hqs : q.size = N := by rw [← hq]; exact cut_size p0 N hN1
  obtain ⟨s, hS⟩ : ∃ s, (⟨(frameL (bsOf q)).toArray⟩ : ByteArray) = s := ⟨_, rfl⟩
  have hSs : s.size = q.size + 7 := frame_size q s hS
  have hSb := frame_bytes q s hS
  have hql : (bsOf q).length ≤ 800 := by show q.size ≤ 800; omega
  have C0 := Lib.hid (fun w' => frame_laid q w' s (by omega) hS)
  obtain ⟨l, hl⟩ : ∃ l, s.data.toList = l := ⟨_, rfl⟩
  have hll : l.length = s.size := by rw [← hl]; rfl
  have hlf : l = frameL (bsOf q) := by rw [← hl]; exact hSb
  have hlq : s.size = (bsOf q).length + 7 := hSs
  have HLF := Lib.hid hlf
  have HQL := Lib.hid hql
  have HLQ := Lib.hid hlq
  have h7 : decide ((s.size : Int) < 7) = false := by simp; omega
  have h72 : decide (s.size < 7) = false := by simp; omega
  have hz7 : 7 ≤ s.size := by omega
  have hz8 : s.size ≤ 807 := by omega
  have HM := Lib.hid hm
  have HF := Lib.hid hf
  clear hS hSs hSb hql hlf hlq hp hqs hm hf
  have b0 := Below.refl w.heap.size w
  unfold Holds
  go_enter Try.func7, Try.ntmps7
  go_wp2_with fail
  refine (awake04 _).mono ?_
  rintro e w1 ⟨rfl, b1⟩
  go_wp2_with fail
  refine (C0.out _).mono ?_
  rintro e w2 ⟨rfl, b2⟩
  replace b2 := below_call b1 b2
  clear C0
  go_wp2_with fail
  refine (pick04 m0 16777215 _ HM.out (by decide) (by decide)).mono ?_
  rintro e w3 ⟨m1, hm1, rfl, rfl⟩
  have hg2 : w.heap.size ≤ w2.heap.size := b2.size
  go_wp2_with (refine wpList_strbytes 9 27 5 rfl _ rfl Try.underlying9 Try.underlying27 Try.underlying5 _ rfl ?_; intro w3 cap hz3 b3 hrow3 hcap3)
  have hB3 : Below w.heap.size w w3 := below_call b2 b3
  refine (pick04 f0 _ _ HF.out (by omega) (by omega)).mono ?_
  rintro e w4 ⟨F, hF, rfl, rfl⟩
  rw [hl] at hrow3
  clear hm1 hz3 hcap3
  go_wp2
  go_loopw [13, 14] (fun v i wr => ∃ (t : Nat) (lt : List UInt8) (D : Bool), t ≤ 24 ∧ i = .int .i64 t ∧ v = .bool D ∧ D = anyOf (1 + m1) t ∧ (t = 0 ∨ F + t ≤ 8 * s.size) ∧ RunAt l lt F (1 + m1) t ∧ Below w.heap.size w wr ∧ Row wr w2.heap.size (lt.map byteV)) (fun _ i _ => 24 - (intOf i).toNat)
  case atStart => exact ⟨0, l, false, by omega, rfl, rfl, rfl, Or.inl rfl, RunAt.start _ _ _, hB3, hrow3⟩
  case round =>
    obtain ⟨t, lt, D, ht, rfl, rfl, hD, hFt, hrun, hbr, hrow⟩ := hrel
    have hltl : lt.length = s.size := by rw [hrun.1, hll]
    have HD := Lib.hid hD
    have HRUN := Lib.hid hrun
    clear hD hrun
    by_cases hlt : t < 24 ∧ F + t < 8 * s.size
    · obtain ⟨g1, g2⟩ := hlt
      have d1 : decide ((t : Int) < 24) = true := by simp; omega
      have d2 : decide ((F : Int) + t < 8 * s.size) = true := by simp; omega
      have eb := bit_form m1 (23 - t)
      cases hb : (1 + m1).testBit (23 - t) with
      | false =>
        rw [hb] at eb
        have HB := Lib.hid hb
        clear hb
        go_wp2
        go_roundw
        case rel => exact ⟨t + 1, lt, D, by omega, by go_num, rfl, by rw [anyOf_more, HB.out, Bool.or_false]; exact HD.out, Or.inr (by omega), HRUN.out.not HB.out, hbr, hrow⟩
        case measure => simp [intOf]; omega
      | true =>
        rw [hb] at eb
        have HB := Lib.hid hb
        clear hb
        obtain ⟨q1, hq1⟩ : ∃ q : Nat, (F + t) / 8 = q := ⟨_, rfl⟩
        obtain ⟨r, hr⟩ : ∃ r : Nat, (F + t) % 8 = r := ⟨_, rfl⟩
        have hq8 : q1 < lt.length := by omega
        have hr8 : r < 8 := by omega
        have eq1 : ((F : Int) + t) / 8 = (q1 : Int) := by omega
        have er1 : ((F : Int) + t) % 8 = (r : Int) := by omega
        have em : (128 : Int) / 2 ^ r = ((maskB r).toNat : Int) := mask_form r hr8
        have ct := byte_at hrow q1 hq8
        have ft := hrow.free (j := q1) (by simp; exact hq8)
        have hset := byte_set hrow q1 (lt[q1] ^^^ maskB r)
        rw [← xor_bytes] at hset
        have hrun2 : RunAt l (lt.set q1 (lt[q1] ^^^ maskB r)) F (1 + m1) (t + 1) := by
          have := HRUN.out.yes HB.out (by rw [hq1]; exact hq8)
          simp only [hq1, hr] at this
          exact this
        have HR2 := Lib.hid hrun2
        have iq : (q1 : Int) < s.size := by omega
        clear hrun2 hq1 hr
        go_wp2
        go_region
        go_wp2
        go_roundw
        case rel => exact ⟨t + 1, _, true, by omega, by go_num, rfl, by rw [anyOf_more, HB.out, Bool.or_true], Or.inr (by omega), HR2.out, (hbr.setCell (by exact hg2) _).drew, hset⟩
        case measure => simp [intOf]; omega
    · have hFt2 : F + t ≤ 8 * s.size := by omega
      have hrun3 := HRUN.out
      rw [HLF.out] at hrun3
      have told := frame_turned (bsOf q) lt HQL.out hrun3 ht (by rw [← HLQ.out]; exact hFt2)
      rw [← HD.out] at told
      obtain ⟨st, hst⟩ : ∃ st : ByteArray, st = ⟨lt.toArray⟩ := ⟨_, rfl⟩
      have hconv := run_row_string 27 9 5 hrow hltl Try.underlying27 Try.underlying5 Try.underlying9 cap
      rw [← hst] at hconv
      have hbs : bsOf st = lt := by rw [hst]
      have hsz : st.size = s.size := by rw [← hltl, ← hbs]; rfl
      obtain ⟨o, ho⟩ : ∃ o, openO lt = o := ⟨_, rfl⟩
      obtain ⟨S1, hS1⟩ : ∃ S1, textO o = S1 := ⟨_, rfl⟩
      obtain ⟨E1, hE1⟩ : ∃ E1, codeO 40 o = E1 := ⟨_, rfl⟩
      have hE2 : (E1 == 0) = !D := by
        rw [ho] at told
        cases D with
        | true => rw [← hE1, told.1.2 rfl]; rfl
        | false => rw [← hE1, told.2 rfl]; rfl
      have C1 := Lib.hid (fun w' => frame_open_val st w' o S1 E1 (by omega) (by rw [hbs, ho]) hS1 hE1)
      have HE2 := Lib.hid hE2
      clear told hrun3 ho hS1 hE1 hE2 hbs hst
      have d12 : decide ((t : Int) < 24) = false ∨ (decide ((t : Int) < 24) = true ∧ decide ((F : Int) + t < 8 * s.size) = false) := by
        by_cases h : t < 24
        · exact Or.inr ⟨by simp; omega, by simp; omega⟩
        · exact Or.inl (by simp; omega)
      rcases d12 with d1 | ⟨d1, d2⟩
      all_goals
        clear hlt
        go_wp2_with fail
        refine (C1.out _).mono ?_
        rintro e w5 ⟨rfl, b5⟩
        go_wp2
        go_ret
        refine ⟨?_, below_call hbr b5⟩
        simp [HE2.out]
end Go.Proofs.Ytlefchholkkkfaa
