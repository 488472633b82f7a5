/- Walks over the statements' own helpers of layer 1. -/
import Derived.Test.YthckkmoafobmnaaXorRef
namespace Go.Proofs.Ythckkmoafobmnaa
open Go.RowKit

def pickN (c : Int) (n : Nat) : Nat := (if c < 0 then -(c + 1) else c).toNat % n
theorem pickN_lt (c : Int) (n : Nat) (h : 0 < n) : pickN c n < n := Nat.mod_lt _ h

set_option maxHeartbeats 400000 in
theorem pick_any (c : Int) (n : Int) (w : World) (hc : (Lit.int .i64 c).wf = true) (hn : 1 ≤ n) (hn2 : n ≤ 9223372036854775807) :
    Calls Try.prog 37 #[.int .i64 c, .int .i64 n] w fun e w' => e = .returned (.int .i64 (pickN c n.toNat)) ∧ w = w' := by
  have hb := bounds_i64 hc
  have hn0 : (n == 0) = false := by simp; omega
  obtain ⟨m, rfl⟩ : ∃ m : Nat, n = m := ⟨n.toNat, by omega⟩
  by_cases h : c < 0
  · have hp : pickN c m = (-(c + 1)).toNat % m := by unfold pickN; rw [if_pos h]
    have HP := Lib.hid hp
    clear hp
    go_enter Try.func37, Try.ntmps37
    go_wp2
    go_ret
    exact ⟨ret_int (by rw [Int.toNat_natCast, HP.out, Int.natCast_emod, Int.toNat_of_nonneg (by omega), ← Int.neg_tmod, Int.tmod_eq_emod_of_nonneg (by omega)]), rfl⟩
  · have hp : pickN c m = c.toNat % m := by unfold pickN; rw [if_neg h]
    have HP := Lib.hid hp
    clear hp
    go_enter Try.func37, Try.ntmps37
    go_wp2
    go_ret
    exact ⟨ret_int (by rw [HP.out, Int.natCast_emod, Int.toNat_of_nonneg (by omega)]), rfl⟩

theorem info_u8 : (Try.prog.info? 5).map (fun i => (i.zero, i.size, i.bytes)) = some (some (.int .u8 0), 1, 1) := by kernel_rfl
theorem size_u8 : (Try.prog.info? 5).map (·.size) = some 1 := by kernel_rfl

/-- a text, cut or with noughts behind, at a length -/
def fitL (l : List UInt8) (long : Nat) : List UInt8 := l.take long ++ List.replicate (long - l.length) 0
theorem fitL_length (l : List UInt8) (long : Nat) : (fitL l long).length = long := by simp [fitL]; omega
theorem fit_row (l : List UInt8) (long : Nat) : (l.take long).map byteV ++ (List.replicate long (Value.int .u8 0)).drop l.length = (fitL l long).map byteV := by
  simp only [fitL, List.map_append, List.map_replicate, List.drop_replicate]
  rfl
/-- the texts that a statement speaks of -/
def textsL (raw : List ByteArray) (many long : Nat) : List ByteArray := (List.range many).map fun i => ⟨(fitL (bs (raw.getD i .empty)) long).toArray⟩

theorem textsL_snoc (raw : List ByteArray) (k long : Nat) (s : ByteArray) (h : raw[k]? = some s) : textsL raw (k + 1) long = textsL raw k long ++ [⟨(fitL (bs s) long).toArray⟩] := by
  simp [textsL, List.range_succ, List.getD, h]
theorem textsL_past (raw : List ByteArray) (k long : Nat) (h : raw.length ≤ k) : textsL raw (k + 1) long = textsL raw k long ++ [⟨(List.replicate long 0).toArray⟩] := by
  simp [textsL, List.range_succ, List.getD, List.getElem?_eq_none h, fitL, bs]
theorem own_head {w : World} {B : Nat} {e : TypeId} {A : Option Addr} {n c : Nat} {xs : List Value} (h : Own w B e A n c xs) {b : Addr} (hb : A = some b) : ∃ g, b = ⟨g, 0, none⟩ := by
  rcases h.2 with ⟨hv, _⟩ | ⟨g, cap, cur, hv, _⟩
  · rw [hb] at hv; simp at hv
  · rw [hb] at hv; simp at hv; exact ⟨g, hv.1⟩

set_option maxHeartbeats 800000 in
theorem texts_any (A : Option Addr) (n c : Nat) (raw : List ByteArray) (many long : Nat) (w : World) (hc : n ≤ 8796093022208) (hr : Reads w w.heap.size A n (raw.map .string))
    (hs : ∀ s ∈ raw, s.size ≤ 140737488351232) (hm : many ≤ 1000) (hlg : long ≤ 1000) :
    Calls Try.prog 20 #[.slice A n c, .int .i64 many, .int .i64 long] w fun e w' => ∃ A' c', e = .returned (.slice A' many c') ∧ Own w' w.heap.size 9 A' many c' ((textsL raw many long).map .string) ∧ Below w.heap.size w w' := by
  have hlen : raw.length = n := by simpa using hr.1
  have HR := Lib.hid hr
  have HS := Lib.hid hs
  have HL := Lib.hid hlen
  clear hr hs hlen
  go_enter Try.func20, Try.ntmps20
  go_wp2
  go_loopw [7, 8] (fun v i wr => ∃ (k : Nat) (A' : Option Addr) (c' : Nat), k ≤ many ∧ i = .int .i64 k ∧ v = .slice A' k c' ∧ Own wr w.heap.size 9 A' k c' ((textsL raw k long).map .string) ∧ Below w.heap.size w wr) (fun _ i _ => many - (intOf i).toNat)
  case atStart => exact ⟨0, none, 0, Nat.zero_le _, rfl, rfl, Own.nil _ _ _, Below.refl _ _⟩
  case round =>
    obtain ⟨k, A', c', hk, rfl, rfl, hown, hbr⟩ := hrel
    by_cases hlt : k < many
    · by_cases hin : k < n
      · have hk' : k < raw.length := by have := HL.out; omega
        obtain ⟨b, o, u, hA, hb, hu, hck0⟩ := HR.out.at_ hin
        have hsk : raw[k]? = some raw[k] := List.getElem?_eq_getElem hk'
        have hck : wr.cell? ⟨b, o + k, none⟩ = some (.string raw[k]) := by
          rw [hbr.cell (by exact hb), hck0, ← hu, List.getElem?_map, hsk]
          rfl
        obtain ⟨sk, HSK⟩ : ∃ s, Hid (raw[k]? = some s) ∧ wr.cell? ⟨b, o + k, none⟩ = some (.string s) := ⟨_, hsk, hck⟩
        have hcell := HSK.2
        have HK := HSK.1
        clear hck0 hck hu HSK hsk
        subst hA
        have hfit : ((bsOf sk).take long).map byteV ++ (List.replicate long (Value.int .u8 0)).drop (bsOf sk).length = (fitL (bs sk) long).map byteV := fit_row _ _
        have hsnoc : textsL raw (k + 1) long = textsL raw k long ++ [⟨(fitL (bs sk) long).toArray⟩] := textsL_snoc raw k long sk HK.out
        have HF := Lib.hid hfit
        have HT := Lib.hid hsnoc
        have HLL := Lib.hid (fitL_length (bs sk) long)
        clear hfit hsnoc
        go_wp2_with (first
          | (refine wpList_mk 41 5 (.int .u8 0) 1 rfl _ _ rfl Try.underlying41 info_u8 rfl rfl rfl (by omega) (by unfold maxLen; omega) ?_; intro w1 hz1 hb1 hrow1 hown1; have hcell1 := (hb1.cell (p := ⟨b, o + k, none⟩) (block_lt_of_cell hcell)).trans hcell)
          | (refine wpList_copystr 41 9 5 rfl _ _ rfl Try.underlying41 size_u8 rfl rfl hrow1 (by simp) wr.heap.size (Nat.le_refl _) ?_; intro w2 hz2 hb2 hrow2; rw [HF.out] at hrow2; have hconv := run_row_string 41 9 5 hrow2 HLL.out Try.underlying41 Try.underlying5 Try.underlying9 long)
          | (at_builtin; refine wpList_app 24 9 16 (.string ⟨#[]⟩) rfl _ _ rfl Try.underlying24 info_str rfl rfl (hown.later ((hb1.trans hb2).alloc (by omega) _)) rfl (reads_lit _ [_] _ 1 rfl) (by simp [Value.oneCell']) rfl (by unfold maxLen; omega) (by omega) (by have := hbr.size; simp; omega) ?_; intro A2 c2 w3 hown3 hgr3 hbd3))
        go_roundw
        case rel => exact ⟨k + 1, A2, c2, by omega, by go_num, rfl, by rw [HT.out, List.map_append]; exact hown3, ((hbr.trans ((hb1.trans hb2).mono hbr.size)).alloc (by have := hbr.size; omega) _).trans hbd3⟩
        case measure => simp [intOf]; omega
      · have hpast : ¬ (k : Int) < (n : Int) := by omega
        have HT := Lib.hid (textsL_past raw k long (by have := HL.out; omega))
        have hz0 : List.replicate long (Value.int .u8 0) = (List.replicate long (0 : UInt8)).map byteV := by rw [List.map_replicate]; rfl
        have HZ := Lib.hid hz0
        clear hz0
        go_wp2_with (first
          | (refine wpList_mk 41 5 (.int .u8 0) 1 rfl _ _ rfl Try.underlying41 info_u8 rfl rfl rfl (by omega) (by unfold maxLen; omega) ?_; intro w1 hz1 hb1 hrow1 hown1; rw [HZ.out] at hrow1; have hconv := run_row_string 41 9 5 hrow1 List.length_replicate Try.underlying41 Try.underlying5 Try.underlying9 long)
          | (at_builtin; refine wpList_app 24 9 16 (.string ⟨#[]⟩) rfl _ _ rfl Try.underlying24 info_str rfl rfl (hown.later (hb1.alloc (by omega) _)) rfl (reads_lit _ [_] _ 1 rfl) (by simp [Value.oneCell']) rfl (by unfold maxLen; omega) (by omega) (by have := hbr.size; simp; omega) ?_; intro A2 c2 w3 hown3 hgr3 hbd3))
        go_roundw
        case rel => exact ⟨k + 1, A2, c2, by omega, by go_num, rfl, by rw [HT.out, List.map_append]; exact hown3, ((hbr.trans (hb1.mono hbr.size)).alloc (by have := hbr.size; omega) _).trans hbd3⟩
        case measure => simp [intOf]; omega
    · go_wp2
      go_ret
      have e : k = many := by omega
      subst e
      exact ⟨A', c', rfl, hown, hbr⟩

/-- which one: some number below n -/
theorem pick_some (c : Int) (n : Int) (w : World) (hc : (Lit.int .i64 c).wf = true) (hn : 1 ≤ n) (hn2 : n ≤ 9223372036854775807) :
    Calls Try.prog 37 #[.int .i64 c, .int .i64 n] w fun e w' => (∃ p : Nat, (p : Int) < n ∧ e = .returned (.int .i64 p)) ∧ w = w' :=
  (pick_any c n w hc hn hn2).mono fun _ _ ⟨he, hw⟩ => ⟨⟨_, by have := pickN_lt c n.toNat (by omega); omega, he⟩, hw⟩

/-- what Texts gives: so many texts, all as long -/
def TextsPost (m lg : Nat) (w : World) (e : Ending) (w' : World) : Prop :=
  ∃ (A' : Option Addr) (c' : Nat) (l : List ByteArray), e = .returned (.slice A' m c') ∧ l.length = m ∧ (∀ s ∈ l, s.size = lg) ∧ Own w' w.heap.size 9 A' m c' (l.map .string) ∧ Below w.heap.size w w'
theorem textsL_sizes (raw : List ByteArray) (m lg : Nat) : (textsL raw m lg).length = m ∧ ∀ s ∈ textsL raw m lg, s.size = lg := by
  refine ⟨by simp [textsL], fun s hs => ?_⟩
  obtain ⟨i, _, rfl⟩ := List.mem_map.1 hs
  rw [← size_list, bs_mk, fitL_length]
theorem texts_some (A : Option Addr) (n c : Nat) (raw : List ByteArray) (many long : Int) (m lg : Nat) (w : World) (h1 : many = m) (h2 : long = lg) (hc : n ≤ 8796093022208) (hr : Reads w w.heap.size A n (raw.map .string))
    (hs : ∀ s ∈ raw, s.size ≤ 140737488351232) (hm : m ≤ 1000) (hlg : lg ≤ 1000) :
    Calls Try.prog 20 #[.slice A n c, .int .i64 many, .int .i64 long] w (TextsPost m lg w) := by
  subst h1; subst h2
  exact (texts_any A n c raw m lg w hc hr hs hm hlg).mono fun e w' ⟨A', c', he, ho, hb⟩ => ⟨A', c', textsL raw m lg, he, (textsL_sizes raw m lg).1, (textsL_sizes raw m lg).2, ho, hb⟩
end Go.Proofs.Ythckkmoafobmnaa
