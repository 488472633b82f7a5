/- XorParts: walk. -/
import Derived.Test.YthoomjajplloaaaXorLawsE
import Derived.Lib.Strings
namespace Go.Proofs.Ythoomjajplloaaa
open Go.RowKit

abbrev headOf (x : ByteArray) (c : Nat) : ByteArray := x.extract 0 c
abbrev tailOf (x : ByteArray) (c : Nat) : ByteArray := x.extract c x.size
theorem bs_head (x : ByteArray) (c : Nat) : bs (headOf x c) = (bs x).take c := by
  show (x.extract 0 c).data.toList = _
  rw [Lib.extract_data]
  simp
theorem bs_tail (x : ByteArray) (c : Nat) : bs (tailOf x c) = (bs x).drop c := by
  show (x.extract c x.size).data.toList = _
  rw [Lib.extract_data, List.take_of_length_le (by rw [List.length_drop, size_list]; exact Nat.le_refl _)]
theorem map_take_snoc {α β : Type} (f : α → β) (l : List α) (i : Nat) (x : α) (h : l[i]? = some x) : (l.take (i + 1)).map f = (l.take i).map f ++ [f x] := by
  rw [List.take_add_one, h, List.map_append]
  rfl
/-- two slices of the call's own, in blocks of their own -/
def Apart (A : Option Addr) (n c : Nat) (A' : Option Addr) (n' c' : Nat) : Prop := ∀ g, (Value.slice A n c).ownBlock = some g → (Value.slice A' n' c').ownBlock ≠ some g
theorem Apart.symm {A : Option Addr} {n c : Nat} {A' : Option Addr} {n' c' : Nat} (h : Apart A n c A' n' c') : Apart A' n' c' A n c := fun g h1 h2 => h g h2 h1
theorem Apart.kept {A : Option Addr} {n c : Nat} {A' : Option Addr} {n' c' : Nat} (h : Apart A n c A' n' c') {w w' : World} {B : Nat} {e : TypeId} {xs : List Value} (ho : Own w B e A' n' c' xs)
    (hg : w.grownBy w' (Value.slice A n c).ownBlock) : Own w' B e A' n' c' xs := by
  refine World.ownsRow.kept ho hg ?_
  cases hv : (Value.slice A' n' c').ownBlock with
  | none => exact .inl rfl
  | some g => exact .inr fun e1 => h g e1.symm hv
theorem Apart.grow {A : Option Addr} {n c : Nat} {A' : Option Addr} {n' c' : Nat} (h : Apart A n c A' n' c') {w : World} {B : Nat} {e : TypeId} {xs : List Value} (ho : Own w B e A' n' c' xs)
    {A2 : Option Addr} {n2 c2 : Nat} (h2 : (Value.slice A2 n2 c2).ownBlock = (Value.slice A n c).ownBlock ∨ (Value.slice A2 n2 c2).ownBlock = some w.heap.size) : Apart A2 n2 c2 A' n' c' := by
  intro g hg hg'
  rcases h2 with e1 | e1
  · exact h g (e1 ▸ hg) hg'
  · rw [e1] at hg
    have := (ho.lt' g hg').1
    simp only [Option.some.injEq] at hg
    omega
theorem Apart.none_ (A : Option Addr) (n c m d : Nat) : Apart none m d A n c := fun g h => by cases h

set_option maxRecDepth 100000 in
set_option maxHeartbeats 3200000 in
/-- XorParts -/
theorem parts_any (A : Option Addr) (n k : Nat) (raw : List ByteArray) (many long cut : Int) (w : World) (hm : (Lit.int .i64 many).wf = true) (hl : (Lit.int .i64 long).wf = true) (ht : (Lit.int .i64 cut).wf = true)
    (hn : n ≤ 8796093021952) (hr : Reads w w.heap.size A n (raw.map .string)) (hs : ∀ s ∈ raw, s.size ≤ 140737488351232) :
    Holds Try.prog 8 #[.slice A n k, .int .i64 many, .int .i64 long, .int .i64 cut] w := by
  have HR := Lib.hid hr
  have HS := Lib.hid hs
  clear hr hs
  unfold Holds
  go_enter Try.func8, Try.ntmps8
  go_wp2_with fail
  refine (awake_any _).mono ?_
  rintro e w0 ⟨rfl, b0⟩
  go_wp2_with fail
  refine (pick_some long 41 _ hl (by omega) (by omega)).mono ?_
  rintro e w1 ⟨⟨lg, hlg, rfl⟩, rfl⟩
  go_wp2_with fail
  refine (pick_some many 9 _ hm (by omega) (by omega)).mono ?_
  rintro e w1 ⟨⟨m, hm9, rfl⟩, rfl⟩
  obtain ⟨q, hq⟩ : ∃ q : Nat, (q : Int) = 1 + (m : Int) := ⟨1 + m, by omega⟩
  have hq1 : 1 ≤ q := by omega
  have hq9 : q ≤ 9 := by omega
  have HQ := Lib.hid hq.symm
  clear hq
  go_wp2_with fail
  refine (texts_some A n k raw _ _ q lg _ HQ.out rfl (by omega) ((HR.out.below b0).more b0.size) HS.out (by omega) (by omega)).mono ?_
  rintro e w1 ⟨A', c', l, rfl, hlen, hsz, hown, b1⟩
  replace b1 := below_call b0 b1
  have HL := Lib.hid hlen
  have HZ := Lib.hid hsz
  obtain ⟨b, o, hA, hbb, hcell⟩ := hown.reads.2 (by omega)
  subst hA
  have hcap := hown.cap
  have hrl := hown.reads
  have HC := Lib.hid hcell
  have HN : Hid (l ≠ []) := by rintro rfl; have := HL.out; simp at this; omega
  clear hlen hsz hcell
  go_wp2_with fail
  refine (pick_some cut (lg + 1) _ ht (by omega) (by omega)).mono ?_
  rintro e w2 ⟨⟨c, hc, rfl⟩, rfl⟩
  have hcl : c ≤ lg := by omega
  go_wp2
  go_loopw [12, 13, 14] (fun u v i wr => ∃ (k : Nat) (AL AR : Option Addr) (cL cR : Nat), k ≤ q ∧ i = .int .i64 k ∧ u = .slice AL k cL ∧ v = .slice AR k cR ∧ Own wr w1.heap.size 9 AL k cL (((l.take k).map (headOf · c)).map .string) ∧
      Own wr w1.heap.size 9 AR k cR (((l.take k).map (tailOf · c)).map .string) ∧ Apart AL k cL AR k cR ∧ Below w1.heap.size w1 wr) (fun _ _ i _ => q - (intOf i).toNat)
  case atStart => exact ⟨0, none, none, 0, 0, Nat.zero_le _, rfl, rfl, rfl, Own.nil _ _ _, Own.nil _ _ _, Apart.none_ _ _ _ _ _, Below.refl _ _⟩
  case round =>
    obtain ⟨i, AL, AR, cL, cR, hi, rfl, rfl, rfl, hL, hR, hap, hbr⟩ := hrel
    by_cases hlt : i < q
    · obtain ⟨x, hx⟩ : ∃ s, l[i]? = some s := ⟨_, List.getElem?_eq_getElem (by have := HL.out; omega)⟩
      have hxs := HZ.out x (List.mem_of_getElem? hx)
      have hcx : c ≤ x.size := by omega
      have hxb : x.size ≤ 41 := by omega
      have hk1 : w1.cell? ⟨b, o + i, none⟩ = some (.string x) := HC.out i _ (by rw [List.getElem?_map, hx]; rfl)
      have K1 := Lib.hid hk1
      have kr : wr.cell? ⟨b, o + i, none⟩ = some (.string x) := (hbr.cell (by exact hbb)).trans hk1
      have HX := Lib.hid hx
      have hzr := hbr.size
      clear hx hxs hk1
      go_wp2_with (first
        | (at_builtin; refine wpList_app2 (N := i + 1) 22 9 16 (.string ⟨#[]⟩) rfl _ _ rfl Try.underlying22 info_str rfl rfl (hL.later ((Below.refl _ _).alloc (Nat.le_refl _) _)) rfl (reads_lit _ [_] _ 1 rfl) (by simp [Value.oneCell']) rfl (by unfold maxLen; omega) (by omega) (by simp; omega) ?_; intro A2 c2 w2 hL2 hg2 hb2 hat2; have B2 : Below w1.heap.size w1 w2 := (hbr.alloc hbr.size _).trans hb2; have k2 : w2.cell? ⟨b, o + i, none⟩ = some (.string x) := (B2.cell (by exact hbb)).trans K1.out; have hR2 := hap.kept (hR.later ((Below.refl _ _).alloc (Nat.le_refl _) _)) hg2; have hap2 := hap.grow (hR.later ((Below.refl _ _).alloc (Nat.le_refl _) _)) hat2)
        | (at_builtin; refine wpList_app2 (N := i + 1) 22 9 16 (.string ⟨#[]⟩) rfl _ _ rfl Try.underlying22 info_str rfl rfl (hR2.later ((Below.refl _ _).alloc (Nat.le_refl _) _)) rfl (reads_lit _ [_] _ 1 rfl) (by simp [Value.oneCell']) rfl (by unfold maxLen; omega) (by omega) (by have := B2.size; simp; omega) ?_; intro A3 c3 w3 hR3 hg3 hb3 hat3))
      go_roundw
      case rel =>
        have hL3 := hap2.symm.kept (hL2.later ((Below.refl _ _).alloc (Nat.le_refl _) _)) hg3
        have hap3 := (hap2.symm.grow (hL2.later ((Below.refl _ _).alloc (Nat.le_refl _) _)) hat3).symm
        exact ⟨i + 1, A2, A3, c2, c3, by omega, by go_num, rfl, rfl, by rw [map_take_snoc _ l i x HX.out, List.map_append]; exact hL3, by rw [map_take_snoc _ l i x HX.out, List.map_append]; exact hR3, hap3, (B2.alloc B2.size _).trans hb3⟩
      case measure => simp [intOf]; omega
    · have hiq : i = q := by omega
      rw [List.take_of_length_le (by have := HL.out; omega)] at hL hR
      have hz1 : ∀ s ∈ l.map (headOf · c), s.size = c := fun s hs => by
        obtain ⟨y, hy, rfl⟩ := List.mem_map.1 hs
        rw [← size_list, bs_head, List.length_take, size_list, HZ.out y hy]
        omega
      have hz2 : ∀ s ∈ l.map (tailOf · c), s.size = lg - c := fun s hs => by
        obtain ⟨y, hy, rfl⟩ := List.mem_map.1 hs
        rw [← size_list, bs_tail, List.length_drop, size_list, HZ.out y hy]
      have e1 : (l.map (headOf · c)).map bs = (l.map bs).map (·.take c) := by
        rw [List.map_map, List.map_map]
        exact List.map_congr_left fun y _ => bs_head y c
      have e2 : (l.map (tailOf · c)).map bs = (l.map bs).map (·.drop c) := by
        rw [List.map_map, List.map_map]
        exact List.map_congr_left fun y _ => bs_tail y c
      have hcut := sumL_take (allLen_of HZ.out) hcl
      obtain ⟨s1, E1⟩ : ∃ s1, Hid (strR (some (sumL c ((l.map bs).map (·.take c)))) = s1) := ⟨_, rfl⟩
      obtain ⟨s2, E2⟩ : ∃ s2, Hid (strR (some (sumL (lg - c) ((l.map bs).map (·.drop c)))) = s2) := ⟨_, rfl⟩
      have e3 : strR (some (sumL lg (l.map bs))) = s1 ++ s2 := by
        refine bs_inj ?_
        rw [show bs (s1 ++ s2) = bs s1 ++ bs s2 by simp, ← E1.out, ← E2.out]
        show bs (⟨_⟩ : ByteArray) = bs (⟨_⟩ : ByteArray) ++ bs (⟨_⟩ : ByteArray)
        rw [bs_mk, bs_mk, bs_mk, ← hcut.1, ← hcut.2, List.take_append_drop]
      have q1 : s1.size ≤ 41 := by
        rw [← E1.out, ← size_list]
        show (bs (⟨_⟩ : ByteArray)).length ≤ _
        rw [bs_mk, sumL_len (by rw [← e1]; exact allLen_of hz1)]
        omega
      have q2 : s2.size ≤ 41 := by
        rw [← E2.out, ← size_list]
        show (bs (⟨_⟩ : ByteArray)).length ≤ _
        rw [bs_mk, sumL_len (by rw [← e2]; exact allLen_of hz2)]
        omega
      have call0 := all_any (some ⟨b, o, none⟩) q c' w1.heap.size l wr (by omega) (hrl.below hbr) hbr.size (fun s hs => by rw [HZ.out s hs]; omega) hcap
      rw [sums_all HZ.out HN.out] at call0
      have call1 : ∀ w4, Below wr.heap.size wr w4 → Calls Try.prog 15 #[.slice AL i cL] w4 fun e w' => e = .returned (.tuple #[.string s1, .int .i64 0]) ∧ Below w4.heap.size w4 w' := fun w4 hb4 => by
        have h1 := all_any AL i cL wr.heap.size (l.map (headOf · c)) w4 (by omega) (hL.reads.below hb4) hb4.size (fun s hs => by rw [hz1 s hs]; omega) hL.cap
        rw [sums_all hz1 (by simpa using HN.out), e1] at h1
        exact h1.val s1 0 E1.out rfl
      have call2 : ∀ w4, Below wr.heap.size wr w4 → Calls Try.prog 15 #[.slice AR i cR] w4 fun e w' => e = .returned (.tuple #[.string s2, .int .i64 0]) ∧ Below w4.heap.size w4 w' := fun w4 hb4 => by
        have h1 := all_any AR i cR wr.heap.size (l.map (tailOf · c)) w4 (by omega) (hR.reads.below hb4) hb4.size (fun s hs => by rw [hz2 s hs]; omega) hR.cap
        rw [sums_all hz2 (by simpa using HN.out), e2] at h1
        exact h1.val s2 0 E2.out rfl
      have C0 := Lib.hid (call0.val _ 0 e3 rfl)
      have C1 := Lib.hid call1
      have C2 := Lib.hid call2
      clear hz1 hz2 e1 e2 e3 hcut call0 call1 call2 hiq
      go_wp2_with fail
      refine C0.out.mono ?_
      rintro e w4 ⟨rfl, b4⟩
      go_wp2_with fail
      refine (C1.out _ b4).mono ?_
      rintro e w5 ⟨rfl, b5⟩
      replace b5 := below_call b4 b5
      go_wp2_with fail
      refine (C2.out _ b5).mono ?_
      rintro e w6 ⟨rfl, b6⟩
      replace b6 := below_call b5 b6
      go_wp2
      go_ret
      exact ⟨by simp, below_call b1 (below_call hbr b6)⟩
end Go.Proofs.Ythoomjajplloaaa
