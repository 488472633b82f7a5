/- Restart. -/
import Derived.Test.YtoalckcpahnpmaaDiskFlush
import Derived.Test.YtoalckcpahnpmaaDiskList
namespace Go.Proofs.Ytoalckcpahnpmaa
open Go.RowKit Go.ChangeShapes Go.WideShapes

/-- 'n & 1', n of whatever sign -/
theorem i64_low1 (n : Int) : bits .and .i64 n 1 = n % 2 := by
  have h1 : (BitVec.ofInt 64 n &&& BitVec.ofInt 64 1).toNat = (n % 2).toNat := by
    rw [BitVec.toNat_and]
    have h2 : (BitVec.ofInt 64 1).toNat = 2 ^ 1 - 1 := by decide
    rw [h2, Nat.and_two_pow_sub_one_eq_mod, BitVec.toNat_ofInt]
    have h3 : ((n % ((2 ^ 64 : Nat) : Int)).toNat % 2 ^ 1 : Nat) = (n % 2).toNat := by
      have e : ((2 ^ 64 : Nat) : Int) = 18446744073709551616 := by decide
      rw [e]
      omega
    exact h3
  show IntKind.i64.wrap ((BitVec.ofInt 64 n &&& BitVec.ofInt 64 1).toNat : Int) = _
  rw [h1, IntKind.wrap_i64] <;> omega
theorem reads_apart {F : Nat → Prop} {w w' : World} {B n : Nat} {A : Option Addr} {xs : List Value} (h : Reads w B A n xs) (_hB : B ≤ w.heap.size) (ap : Apart F w w') (hA : 0 < n → ∀ b o, A = some ⟨b, o, none⟩ → ¬ F b) : Reads w' B A n xs :=
  ⟨h.1, fun hn => by
    obtain ⟨b, o, e, hlt, hc⟩ := h.2 hn
    exact ⟨b, o, e, hlt, fun j u hu => ap.cell (p := ⟨b, o + j, none⟩) (hA hn b o e) (hc j u hu)⟩⟩
/-- what lasts behind the first i rounds of Restart -/
def restF (S : DiskSt) (keep : List Int) (i : Nat) : Nat → ByteArray := fun k => if k ∈ S.cached.take i then (if S.stays keep k = true then S.read k else S.sure k) else S.sure k
theorem restF_keep {S : DiskSt} {keep : List Int} {i m : Nat} {u : ByteArray} (hm : S.cached[i]? = some m) (hu : S.last m = some u) (hs : S.stays keep m = true) (k : Nat) : restF S keep (i + 1) k = updF (restF S keep i) m u k := by
  unfold restF updF
  by_cases e : k = m
  · subst e
    rw [if_pos rfl, if_pos ((take_mem hm).2 (Or.inr rfl)), if_pos hs]
    unfold DiskSt.read
    rw [hu]
    rfl
  · rw [if_neg e]
    show _ = if k ∈ S.cached.take i then (if S.stays keep k = true then S.read k else S.sure k) else S.sure k
    by_cases e2 : k ∈ S.cached.take i
    · rw [if_pos e2, if_pos ((take_mem hm).2 (Or.inl e2))]
    · rw [if_neg e2, if_neg (fun h => ((take_mem hm).1 h).elim e2 e)]
theorem restF_drop {S : DiskSt} {keep : List Int} {i m : Nat} (hm : S.cached[i]? = some m) (hs : S.stays keep m = false) (k : Nat) : restF S keep (i + 1) k = restF S keep i k := by
  unfold restF
  by_cases e : k = m
  · subst e
    rw [if_pos ((take_mem hm).2 (Or.inr rfl)), if_neg (nodup_take (cached_nodup S) hm), hs]
    rfl
  · by_cases e2 : k ∈ S.cached.take i
    · rw [if_pos e2, if_pos ((take_mem hm).2 (Or.inl e2))]
    · rw [if_neg e2, if_neg (fun h => ((take_mem hm).1 h).elim e2 e)]
theorem restF_end {S : DiskSt} {keep : List Int} (k : Nat) : (S.restart keep).sure k = restF S keep S.cached.length k := by
  show (if S.stays keep k = true then S.read k else S.sure k) = _
  unfold restF
  rw [List.take_length]
  by_cases e : k ∈ S.cached
  · rw [if_pos e]
  · rw [if_neg e, if_neg (fun h => e (stays_mem h))]
set_option maxHeartbeats 800000 in
theorem disk_restart (S : DiskSt) (a : Addr) (A : Option Addr) (n c : Nat) (l : List Int) (_hw : S.Whole) (_hnc : n ≤ c) :
    ActsL Try.prog 14 #[.pointer (some a), .slice A n c] (.returned (.tuple #[])) A n (l.map (.int .i64)) (Disk S a) (Disk (S.restart l) a) := by
  intro w F h hlt hr hA
  have C := disk_cached_own S a w ⟨F, h⟩
  obtain ⟨b, gs, gm, cs, left, rfl, hd, R, hF⟩ := h
  show Calls _ _ _ _ fun e w' => e = _ ∧ Done (S.restart l) ⟨b, 0, none⟩ F w w'
  have hln : l.length = n := by have := hr.len; simpa using this
  have hcl := Nat.le_trans (cached_len S) R.small.1
  obtain ⟨N, hN⟩ : ∃ N, S.cached.length = N := ⟨_, rfl⟩
  rw [hN] at C hcl
  have HD := Lib.hid hd
  have HF := Lib.hid hF
  have HLT := Lib.hid hlt
  have HRD := Lib.hid hr
  have HA := Lib.hid hA
  have HC := Lib.hid C
  have HLN := Lib.hid hln
  have HN := Lib.hid hN
  have HR := Lib.hid R
  clear C hd hF hlt hr hA hln hN R
  go_enter Try.func14, Try.ntmps14
  go_wp2_with fail
  refine (HC.out).mono ?_
  rintro e w1 ⟨A1, c1, rfl, o1, b1⟩
  have O1 := Lib.hid o1
  have R1 := Lib.hid ((HR.out.below b1).ext (S' := { S with sure := restF S l 0 }) rfl rfl rfl rfl (fun k _ => by
    show restF S l 0 k = S.sure k
    unfold restF
    rw [List.take_zero, if_neg (by simp)]) rfl)
  have B1 := Lib.hid b1
  have K1 := Lib.hid (HRD.out.below b1)
  clear HC o1 b1 HR
  go_wp2
  go_loopw [9] (fun i wr => ∃ (k : Nat), k ≤ N ∧ i = .int .i64 k ∧ RowsD { S with sure := restF S l k } b gs gm cs left wr ∧ Apart F w1 wr) (fun i _ => N - (intOf i).toNat)
  case atStart => exact ⟨0, Nat.zero_le _, rfl, R1.out, Apart.refl F w1⟩
  case round =>
    obtain ⟨k, hk, rfl, hRR, hAA⟩ := hrel
    by_cases hkN : k < N
    · have dk : decide ((k : Int) < N) = true := by simp; omega
      have kN : (k : Int) < N := by omega
      obtain ⟨g1, p1, v1, rfl, hg1, hv1, q1⟩ := (O1.out.reads).at_ hkN
      rw [List.getElem?_map] at hv1
      obtain ⟨m, hm, rfl⟩ := Option.map_eq_some_iff.1 hv1
      obtain ⟨hmn, u, hu⟩ := cached_at hm
      have nF : ¬ F g1 := fun hf => absurd (HLT.out g1 hf) (Nat.not_lt.2 (fresh7 O1.out))
      have q1' : wr.cell? ⟨g1, p1 + k, none⟩ = some (.int .i64 (m : Int)) := hAA.cell (p := ⟨g1, p1 + k, none⟩) nF q1
      have mN : (m : Int) < S.n := by omega
      have hst := stays_at (keep := l) hm
      rw [HLN.out] at hst
      have hFs : F gs := (HF.out gs).2 (Or.inr (Or.inl rfl))
      have drop : S.stays l m = false → RowsD { S with sure := restF S l (k + 1) } b gs gm cs left wr := fun hs => hRR.ext rfl rfl rfl rfl (fun j _ => restF_drop hm hs j) rfl
      have keepR : S.stays l m = true → RowsD { S with sure := restF S l (k + 1) } b gs gm cs left (wr.drew.setCells gs (m * 64) (secV u)) ∧ Apart F w1 (wr.drew.setCells gs (m * 64) (secV u)) := fun hs =>
        ⟨(hRR.drew.put HD.out (k := m) hmn u).ext rfl rfl rfl rfl (fun j _ => restF_keep hm hu hs j) rfl, hAA.drew.then_ (apart_cells (F := F) (secV u) (m * 64) wr.drew hFs)⟩
      have DROP := Lib.hid drop
      have KEEP := Lib.hid keepR
      have HAA := Lib.hid hAA
      obtain ⟨es, clock, hb, M⟩ := hRR.r2
      have hlk := run_look1 M (w := wr.drew) hb (k := m) (M.small m u hu) hu
      replace hlk : (Instr.lookup 51 (.map (some gm)) (.int .i64 (m : Int)) false).run Try.prog wr.drew = .ok (.agg (secV u).toArray) wr.drew := hlk
      have hput := run_secput hRR.r1.drew (k := m) hmn u
      have c0 := hRR.c0
      have c1' := hRR.c1
      clear drop keepR hRR hAA es hb M
      by_cases hkn : k < n
      · have dn : decide ((k : Int) < n) = true := by simp; omega
        have kn : (k : Int) < n := by omega
        obtain ⟨g2, p2, v2, rfl, hg2, hv2, q2⟩ := (K1.out).at_ hkn
        rw [List.getElem?_map] at hv2
        obtain ⟨z, hz, rfl⟩ := Option.map_eq_some_iff.1 hv2
        have nF2 : ¬ F g2 := HA.out (by omega) g2 p2 rfl
        have q2' : wr.cell? ⟨g2, p2 + k, none⟩ = some (.int .i64 z) := HAA.out.cell (p := ⟨g2, p2 + k, none⟩) nF2 q2
        have hb1 := i64_low1 z
        rw [show l.getD k 0 = z by rw [List.getD_eq_getElem?_getD, hz]; rfl] at hst
        by_cases hod : z % 2 = 1
        · have d1 : (z % 2 == 1) = true := by simp; omega
          have hs : S.stays l m = true := by
            rw [hst]
            simp
            omega
          have Y := Lib.hid (KEEP.out hs)
          clear hst hs hod DROP KEEP
          have c0w : wr.drew.cell? ⟨b, 0, none⟩ = some (.slice (some ⟨gs, 0, none⟩) S.n cs) := c0
          have c1w : wr.drew.cell? ⟨b, 1, none⟩ = some (.map (some gm)) := c1'
          obtain ⟨W4, hW4⟩ : ∃ W4, wr.drew = W4 := ⟨_, rfl⟩
          rw [hW4] at hlk hput Y c0w c1w
          have HW4 := Lib.hid hW4
          have Y := Lib.hid Y.out
          clear hW4
          go_wp2_with fail
          refine wp_region_still_tail 12 (by kernel_rfl) (by kernel_rfl) ?_
          simp only [List.take_succ_cons, List.take_zero, List.drop_succ_cons, List.drop_zero]
          rw [show { wr with drawn := wr.drawn + 1 } = W4 from HW4.out]
          iterate 12 still_step
          refine wpStill_nil ?_
          go_wp2
          go_roundw
          case rel => exact ⟨k + 1, by omega, by go_num, Y.out.1, Y.out.2⟩
          case measure => simp [intOf]; omega
        · have d1 : (z % 2 == 1) = false := by simp; omega
          have hs : S.stays l m = false := by
            rw [hst]
            simp
            omega
          have Y := Lib.hid (DROP.out hs)
          clear hst hs hod DROP KEEP hlk hput
          go_wp2
          go_roundw
          case rel => exact ⟨k + 1, by omega, by go_num, Y.out, HAA.out⟩
          case measure => simp [intOf]; omega
      · have dn : decide ((k : Int) < n) = false := by simp; omega
        have hs : S.stays l m = false := by
          rw [hst, decide_eq_false hkn]
          rfl
        have Y := Lib.hid (DROP.out hs)
        clear hst hs DROP KEEP hlk hput
        go_wp2
        go_roundw
        case rel => exact ⟨k + 1, by omega, by go_num, Y.out, HAA.out⟩
        case measure => simp [intOf]; omega
    · obtain rfl : k = N := by omega
      have dk : decide ((k : Int) < k) = false := by simp
      have hlt1 : ∀ j, F j → j < wr.heap.size := fun j hj => Nat.lt_of_lt_of_le (Nat.lt_of_lt_of_le (HLT.out j hj) B1.out.size) hAA.size
      have C2 := Lib.hid (disk_wake { S with sure := restF S l k } ⟨b, 0, none⟩ wr F ⟨b, gs, gm, cs, left, rfl, HD.out, hRR, HF.out⟩ hlt1)
      have AP := Lib.hid ((Apart.of_below (F := F) B1.out).then_ hAA)
      have eR : wokeS { S with sure := restF S l k } = S.restart l := by
        unfold wokeS
        rw [← HN.out]
        rw [show restF S l S.cached.length = (S.restart l).sure from funext fun j => (restF_end j).symm]
        rfl
      rw [eR] at C2
      clear hRR hAA hlt1 eR
      go_wp2_with fail
      refine (C2.out).mono ?_
      rintro e w3 ⟨rfl, ap3, F3, D3, hF3⟩
      have Y := Lib.hid (show Done (S.restart l) ⟨b, 0, none⟩ F w w3 from ⟨AP.out.then_ ap3, F3, D3, fun j hj => ⟨(hF3 j hj).1, (hF3 j hj).2.imp id (fun hle => Nat.le_trans AP.out.size hle)⟩⟩)
      clear ap3 D3 hF3
      go_wp2
      go_end0
      exact ⟨rfl, Y.out⟩
end Go.Proofs.Ytoalckcpahnpmaa
