/- Sectors in memory: sixty-four bytes a sector, one behind the other in a block; a map from numbers to sectors. -/
import Derived.Test.YtoalckcpahnpmaaDiskFacts
import Derived.Deep.MidRow
import Derived.Deep.WholeRow
import Derived.Maps.RangeRun
import Derived.Maps.Keyed
import Derived.StillTailTactics
namespace Go.Proofs.Ytoalckcpahnpmaa
open Go.RowKit Go.ChangeShapes Go.WideShapes Go.Maps
open Go.ChangeMaps (setBlock heap_setBlock_same heap_setBlock_other modify_eq_set)

/-- a sector's cells -/
def secV (s : ByteArray) : List Value := (List.range 64).map fun j => byteV ((bsOf s).getD j 0)
theorem secV_len (s : ByteArray) : (secV s).length = 64 := by simp [secV]
theorem secV_size (s : ByteArray) : (secV s).toArray.size = 64 := by simp [secV]
theorem secV_of {s : ByteArray} (h : s.size = 64) : secV s = (bsOf s).map byteV := by
  have hl : (bsOf s).length = 64 := by rw [Array.length_toList]; exact h
  refine List.ext_getElem? fun p => ?_
  by_cases hp : p < 64
  · rw [secV, List.getElem?_map, List.getElem?_range hp, List.getElem?_map, List.getElem?_eq_getElem (by rw [hl]; exact hp)]
    show some (byteV ((bsOf s).getD p 0)) = some (byteV _)
    rw [List.getD_eq_getElem?_getD, List.getElem?_eq_getElem (by rw [hl]; exact hp)]
    rfl
  · rw [List.getElem?_eq_none (by rw [secV_len]; omega), List.getElem?_eq_none (by rw [List.length_map, hl]; omega)]
theorem secV_one (s : ByteArray) : ∀ v ∈ secV s, v.oneCell' = true := fun v hv => by
  obtain ⟨j, _, rfl⟩ := List.mem_map.1 hv
  rfl
theorem secV_all (s : ByteArray) : (secV s).toArray.all (·.oneCell') = true := all_oneCell_toArray (secV_one s)
theorem secV_nought : secV noughtB = List.replicate 64 (.int .u8 0) := by rfl
/-- a sector as a value -/
def secA (s : ByteArray) : Value := .agg (secV s).toArray

/-- n sectors lie in block g -/
structure Secs (w : World) (g n : Nat) (f : Nat → ByteArray) : Prop where
  lt : g < w.heap.size
  at_ : ∀ k, k < n → w.rangeAt g (k * 64) (secV (f k))
  free : ∀ k, k < n → w.there g (k * 64) 64
section
variable {w w' : World} {g n : Nat} {f f' : Nat → ByteArray}
theorem Secs.same (h : Secs w g n f) (hs : w.heap.size ≤ w'.heap.size) (e : w'.heap[g]? = w.heap[g]?) : Secs w' g n f :=
  ⟨Nat.lt_of_lt_of_le h.lt hs, fun k hk j v hj => (World.cell?_of_block (w := w) (a := ⟨g, k * 64 + j, none⟩) e).trans (h.at_ k hk j v hj), fun k hk j hj => by
    obtain ⟨a, b⟩ := h.free k hk j hj
    exact ⟨by rw [World.cell?_of_block (w := w) (a := ⟨g, k * 64 + j, none⟩) e]; exact a, (World.frozen?_of_block (w := w) (a := ⟨g, k * 64 + j, none⟩) e).trans b⟩⟩
theorem Secs.below (h : Secs w g n f) {B : Nat} (hb : Below B w w') (hg : g < B) : Secs w' g n f := h.same hb.size (hb.block g hg)
theorem Secs.drew (h : Secs w g n f) : Secs w.drew g n f := ⟨h.lt, h.at_, h.free⟩
theorem Secs.alloc (h : Secs w g n f) (o : Obj) : Secs (w.alloc o) g n f := h.below ((Below.refl w.heap.size w).alloc (Nat.le_refl _) o) h.lt
theorem Secs.far (h : Secs w g n f) {p : Addr} (hp : p.block ≠ g) (u : Value) : Secs (w.setCell p u) g n f :=
  h.same (by simp [World.setCell]) (Below.heap_setCell w p u g (fun e => hp e.symm))
theorem Secs.ext (h : Secs w g n f) (e : ∀ k, k < n → f' k = f k) : Secs w g n f' := ⟨h.lt, fun k hk => by rw [e k hk]; exact h.at_ k hk, h.free⟩
theorem setCells_block (g : Nat) : ∀ (vs : List Value) (o : Nat) (w : World) (k : Nat), k ≠ g → (w.setCells g o vs).heap[k]? = w.heap[k]?
  | [], _, _, _, _ => rfl
  | v :: vs, o, w, k, hk => (setCells_block g vs (o + 1) _ k hk).trans (Below.heap_setCell w ⟨g, o, none⟩ v k hk)
theorem Secs.farCells (h : Secs w g n f) {b : Nat} (hp : b ≠ g) (o : Nat) (vs : List Value) : Secs (w.setCells b o vs) g n f :=
  h.same (Nat.le_of_eq (setCells_size vs o w).symm) (setCells_block b vs o w g (fun e => hp e.symm))
/-- a sector is another one -/
theorem Secs.put (h : Secs w g n f) {k : Nat} (hk : k < n) (s : ByteArray) : Secs (w.setCells g (k * 64) (secV s)) g n (updF f k s) := by
  refine ⟨by rw [setCells_size]; exact h.lt, fun i hi => ?_, fun i hi => World.there_setCells (h.free i hi) _ _ _⟩
  by_cases e : i = k
  · subst e
    rw [show updF f i s i = s from if_pos rfl]
    exact World.rangeAt_setCells_same w g (i * 64) (secV s) (by rw [secV_len]; exact h.free i hi)
  · rw [show updF f k s i = f i from if_neg e]
    refine World.rangeAt_setCells_apart (h.at_ i hi) g (k * 64) (secV s) (Or.inr ?_)
    rw [secV_len, secV_len]
    omega
theorem apart_cells {F : Nat → Prop} {g : Nat} (vs : List Value) (o : Nat) (w : World) (hp : F g) : Apart F w (w.setCells g o vs) := by
  induction vs generalizing o w with
  | nil => exact ⟨rfl, rfl, rfl, Nat.le_refl _, fun _ _ _ => rfl⟩
  | cons v vs ih => exact (apart_set (p := ⟨g, o, none⟩) v hp).trans (ih (o + 1) _) (fun _ h => Or.inl h)
end

/-- a load of many cells in a region that draws -/
theorem still_load_mid {P : Program} {ops : Array Oper} {o : Oper} {a : Act} {w : World} {K : Act → Prop} (hg : o.guard = none) (ty : TypeId) (x : Operand) (ho : o.op = .load ty x)
    (b off : Nat) (hx : a.eval x = .pointer (some ⟨b, off, none⟩)) (cs : List Value) (d : TypeDesc) (hc : w.rangeAt b off cs) (hu : P.underlying ty = some d) (hd : d.isRow = true) (hi : (P.info? ty).map (·.size) = some cs.length)
    (h : K (a.put o.dst (.agg cs.toArray))) : if Region.wanted o (yielded ops a.tmps) then o.still P a w K else K (a.put o.dst undef) := by
  rw [if_pos (by simp [Region.wanted, hg])]
  unfold Oper.still execOp
  simp only [ho, hx, run_loadAt_mid w b off ty cs d hc hu hd hi, Sem.run_bind, Sem.run_pure, Result.andThen_ok, Oper.stillUpon_value]
  exact h
/-- many cells stored into the block that was made last -/
theorem wpList_store_new {P : Program} {ops : Array Oper} {rest : List Oper} {o : Oper} {a : Act} {W : World} {Q : Exit → Act → World → Prop} (hg : o.guard = none) (ty : TypeId) (x y : Operand) (ho : o.op = .store ty x y)
    {c c' : Array Value} (hx : a.eval x = .pointer (some ⟨W.heap.size, 0, none⟩)) (hy : a.eval y = .agg c') (hi : (P.info? ty).map (·.size) = some c'.size) (hs : c.size = c'.size) (h1 : c'.all (·.oneCell') = true)
    (h : wpList P ops Q rest (a.put o.dst undef) (W.alloc (.cells c' ty))) : wpList P ops Q (o :: rest) a (W.alloc (.cells c ty)) :=
  wpList_plain hg fun _ hK => by
    unfold Oper.wp execOp
    simp only [ho, hx, hy, run_storeAt_new W ty c c' hi hs h1, Sem.run_bind, Sem.run_pure, Result.andThen_ok]
    exact hK _ _ h
/-- the entries of a map of sectors -/
structure Mapped (es : Array MapEntry) (clock : Nat) (f : Nat → Option ByteArray) : Prop where
  old : ∀ e ∈ es.toList, e.born < clock
  borns : (es.toList.map (·.born)).Nodup
  keys : es.toList.Pairwise fun x y => x.key ≠ y.key
  shape : ∀ e ∈ es.toList, ∃ (k : Nat) (s : ByteArray), e.key = .int .i64 (k : Int) ∧ e.val = secA s ∧ f k = some s
  has : ∀ k s, f k = some s → ∃ e ∈ es.toList, e.key = .int .i64 (k : Int) ∧ e.val = secA s
  small : ∀ k s, f k = some s → k < 64
/-- block b is a map of sectors -/
def MapAt (w : World) (b : Nat) (f : Nat → Option ByteArray) : Prop := ∃ es clock, w.heap[b]? = some (.map es clock) ∧ Mapped es clock f
theorem key_inj {j k : Nat} (h : Value.int .i64 (j : Int) = .int .i64 (k : Int)) : j = k := by
  injection h with _ h
  omega
theorem Mapped.one {es : Array MapEntry} {clock : Nat} {f : Nat → Option ByteArray} (M : Mapped es clock f) {e : MapEntry} (he : e ∈ es.toList) {k : Nat} (hk : e.key = .int .i64 (k : Int)) : ∃ s, e.val = secA s ∧ f k = some s := by
  obtain ⟨j, s, h1, h2, h3⟩ := M.shape e he
  rw [hk] at h1
  obtain rfl := key_inj h1
  exact ⟨s, h2, h3⟩
theorem Mapped.none_ (clock : Nat) : Mapped #[] clock fun _ => none :=
  ⟨by simp, by simp, by simp, by simp, (fun _ _ h => by cases h), (fun _ _ h => by cases h)⟩
theorem zero_sec : (∀ w, (zeroValue 55).run Try.prog w = .ok (secA noughtB) w) ∧ (Try.prog.info? 55).map (·.size) = some 64 :=
  zero_of_info (by rw [secA, secV_nought]; kernel_rfl)
theorem int_law : Keyed Try.prog 3 := int_keyed Try.underlying3
theorem int_key {k : Nat} (h : k < 64) : keyOf Try.prog 3 (.int .i64 (k : Int)) = some (.int .i64 (k : Int)) := keyOf_int_mk Try.underlying3 (WalkArith.wf_i64 (by omega))
section
variable {w : World} {b clock : Nat} {es : Array MapEntry} {f : Nat → Option ByteArray}
theorem Mapped.keyed (M : Mapped es clock f) : ∀ e ∈ es.toList, ∃ l, keyOf Try.prog 3 e.key = some l := fun e he => by
  obtain ⟨j, s, h1, _, h3⟩ := M.shape e he
  exact ⟨_, by rw [h1]; exact int_key (M.small j s h3)⟩
theorem run_look (M : Mapped es clock f) (hb : w.heap[b]? = some (.map es clock)) {k : Nat} (hk : k < 64) :
    (Instr.lookup 51 (.map (some b)) (.int .i64 (k : Int)) true).run Try.prog w = .ok (.tuple #[secA ((f k).getD noughtB), .bool (f k).isSome]) w := by
  rcases int_law.find w (int_key hk) es.toList M.keyed with ⟨h1, h2⟩ | ⟨j, e0, h1, h2, h3⟩
  · have e : f k = none := by
      cases hf : f k with
      | none => rfl
      | some s =>
        obtain ⟨e, he, hk2, _⟩ := M.has k s hf
        exact absurd hk2 (h2 e he)
    rw [e]
    simp [Instr.lookup, run_underlying Try.underlying51, MapKept.run_getObj_map hb, int_law.check w _ (int_key hk), h1, zero_sec.1, Result.andThen]
  · obtain ⟨s, hv, hs⟩ := M.one (List.mem_of_getElem? h2) h3
    rw [hs]
    simp [Instr.lookup, run_underlying Try.underlying51, MapKept.run_getObj_map hb, int_law.check w _ (int_key hk), h1, hv, Result.andThen]
theorem run_look1 (M : Mapped es clock f) (hb : w.heap[b]? = some (.map es clock)) {k : Nat} (hk : k < 64) {s : ByteArray} (hs : f k = some s) :
    (Instr.lookup 51 (.map (some b)) (.int .i64 (k : Int)) false).run Try.prog w = .ok (secA s) w := by
  rcases int_law.find w (int_key hk) es.toList M.keyed with ⟨h1, h2⟩ | ⟨j, e0, h1, h2, h3⟩
  · obtain ⟨e, he, hk2, _⟩ := M.has k s hs
    exact absurd hk2 (h2 e he)
  · obtain ⟨s2, hv, hs2⟩ := M.one (List.mem_of_getElem? h2) h3
    rw [hs] at hs2
    cases hs2
    simp [Instr.lookup, run_underlying Try.underlying51, MapKept.run_getObj_map hb, int_law.check w _ (int_key hk), h1, hv, Result.andThen]
theorem Mapped.push (M : Mapped es clock f) {k : Nat} (hk : k < 64) (s : ByteArray) (hn : ∀ e ∈ es.toList, e.key ≠ .int .i64 (k : Int)) :
    Mapped (es.push ⟨.int .i64 (k : Int), secA s, clock⟩) (clock + 1) (updF f k (some s)) := by
  have hl : (es.push (⟨.int .i64 (k : Int), secA s, clock⟩ : MapEntry)).toList = es.toList ++ [⟨.int .i64 (k : Int), secA s, clock⟩] := by simp
  refine ⟨?_, ?_, ?_, ?_, ?_, ?_⟩
  · rw [hl]
    intro e he
    rcases List.mem_append.1 he with he | he
    · exact Nat.lt_succ_of_lt (M.old e he)
    · rw [List.mem_singleton.1 he]
      exact Nat.lt_succ_self _
  · rw [hl, List.map_append, List.nodup_append]
    refine ⟨M.borns, by simp, fun x hx y hy e => ?_⟩
    obtain ⟨z, hz, rfl⟩ := List.mem_map.1 hx
    have h := M.old z hz
    rw [e, List.mem_singleton.1 hy] at h
    exact Nat.lt_irrefl _ h
  · rw [hl, List.pairwise_append]
    refine ⟨M.keys, by simp, fun x hx y hy => ?_⟩
    rw [List.mem_singleton.1 hy]
    exact hn x hx
  · rw [hl]
    intro e he
    rcases List.mem_append.1 he with he | he
    · obtain ⟨j, t, h1, h2, h3⟩ := M.shape e he
      refine ⟨j, t, h1, h2, ?_⟩
      rw [show updF f k (some s) j = f j from if_neg (fun x => hn e he (by rw [h1, x]))]
      exact h3
    · rw [List.mem_singleton.1 he]
      exact ⟨k, s, rfl, rfl, if_pos rfl⟩
  · rw [hl]
    intro j t hj
    unfold updF at hj
    split at hj
    · rename_i e
      cases hj
      exact ⟨_, List.mem_append.2 (Or.inr (List.mem_singleton.2 rfl)), by rw [e], rfl⟩
    · obtain ⟨e, he, h1, h2⟩ := M.has j t hj
      exact ⟨e, List.mem_append.2 (Or.inl he), h1, h2⟩
  · intro j t hj
    unfold updF at hj
    split at hj
    · rename_i e
      rw [e]
      exact hk
    · exact M.small j t hj
theorem Mapped.set_ (M : Mapped es clock f) {k : Nat} (hk : k < 64) (s : ByteArray) {j : Nat} {e0 : MapEntry} (hj : es.toList[j]? = some e0) (h0 : e0.key = .int .i64 (k : Int)) :
    Mapped (es.modify j fun e => { e with key := .int .i64 (k : Int), val := secA s }) clock (updF f k (some s)) := by
  have hl : (es.modify j fun e => { e with key := .int .i64 (k : Int), val := secA s }).toList = es.toList.set j { e0 with key := .int .i64 (k : Int), val := secA s } := by rw [Array.toList_modify, modify_eq_set _ _ _ _ hj]
  have hm : e0 ∈ es.toList := List.mem_of_getElem? hj
  have hjl : j < es.toList.length := (List.getElem?_eq_some_iff.1 hj).1
  have hj2 : es.toList[j] = e0 := (List.getElem?_eq_some_iff.1 hj).2
  have at_ : ∀ i e, (es.toList.set j { e0 with key := .int .i64 (k : Int), val := secA s })[i]? = some e → (i = j ∧ e = { e0 with key := .int .i64 (k : Int), val := secA s }) ∨ (i ≠ j ∧ es.toList[i]? = some e) := by
    intro i e he
    rw [List.getElem?_set] at he
    split at he
    · rename_i hij
      cases he
      exact Or.inl ⟨hij.symm, rfl⟩
    · rename_i hij
      exact Or.inr ⟨fun x => hij x.symm, he⟩
  have ekeys : (es.toList.set j { e0 with key := .int .i64 (k : Int), val := secA s }).map (·.key) = es.toList.map (·.key) := by
    rw [List.map_set]
    show (es.toList.map (·.key)).set j (.int .i64 (k : Int)) = _
    rw [← h0, ← hj2]
    have : (es.toList.map (·.key))[j]? = some (es.toList[j]).key := by rw [List.getElem?_map, hj, hj2]; rfl
    exact List.ext_getElem? fun p => by
      rw [List.getElem?_set]
      split
      · rename_i e
        subst e
        rw [if_pos (by simpa using hjl), this]
      · rfl
  have eborns : (es.toList.set j { e0 with key := .int .i64 (k : Int), val := secA s }).map (·.born) = es.toList.map (·.born) := by
    rw [List.map_set]
    show (es.toList.map (·.born)).set j e0.born = _
    rw [← hj2]
    have : (es.toList.map (·.born))[j]? = some (es.toList[j]).born := by rw [List.getElem?_map, hj, hj2]; rfl
    exact List.ext_getElem? fun p => by
      rw [List.getElem?_set]
      split
      · rename_i e
        subst e
        rw [if_pos (by simpa using hjl), this]
      · rfl
  have two : ∀ i e, es.toList[i]? = some e → e.key = .int .i64 (k : Int) → i = j := by
    intro i e he hek
    have hn : (es.toList.map (·.key)).Nodup := by
      unfold List.Nodup
      rw [List.pairwise_map]
      exact M.keys
    refine (List.getElem?_inj (by simpa using (List.getElem?_eq_some_iff.1 he).1) hn).1 ?_
    rw [List.getElem?_map, he, List.getElem?_map, hj]
    show some e.key = some e0.key
    rw [hek, h0]
  refine ⟨?_, ?_, ?_, ?_, ?_, ?_⟩
  · rw [hl]
    intro e he
    obtain ⟨i, hi⟩ := List.mem_iff_getElem?.1 he
    rcases at_ i e hi with ⟨_, rfl⟩ | ⟨_, h⟩
    · exact M.old e0 hm
    · exact M.old e (List.mem_of_getElem? h)
  · rw [hl, eborns]
    exact M.borns
  · rw [hl]
    refine (List.pairwise_map (f := fun e : MapEntry => e.key) (R := fun x y => x ≠ y)).1 ?_
    rw [ekeys, List.pairwise_map]
    exact M.keys
  · rw [hl]
    intro e he
    obtain ⟨i, hi⟩ := List.mem_iff_getElem?.1 he
    rcases at_ i e hi with ⟨_, rfl⟩ | ⟨hne, h⟩
    · exact ⟨k, s, rfl, rfl, if_pos rfl⟩
    · obtain ⟨q, t, h1, h2, h3⟩ := M.shape e (List.mem_of_getElem? h)
      refine ⟨q, t, h1, h2, ?_⟩
      rw [show updF f k (some s) q = f q from if_neg (fun x => hne (two i e h (by rw [h1, x])))]
      exact h3
  · rw [hl]
    intro q t hq
    unfold updF at hq
    split at hq
    · rename_i e
      cases hq
      exact ⟨_, List.mem_of_getElem? (i := j) (by rw [List.getElem?_set_self hjl]), by rw [e], rfl⟩
    · rename_i e
      obtain ⟨x, hx, h1, h2⟩ := M.has q t hq
      obtain ⟨i, hi⟩ := List.mem_iff_getElem?.1 hx
      refine ⟨x, List.mem_of_getElem? (i := i) ?_, h1, h2⟩
      rw [List.getElem?_set_ne (fun hij => e ?_)]
      · exact hi
      · subst hij
        rw [hj] at hi
        cases hi
        rw [h0] at h1
        exact (key_inj h1).symm
  · intro q t hq
    unfold updF at hq
    split at hq
    · rename_i e
      rw [e]
      exact hk
    · exact M.small q t hq
theorem run_upd (M : Mapped es clock f) (hb : w.heap[b]? = some (.map es clock)) {k : Nat} (hk : k < 64) (s : ByteArray) : ∃ es' clock',
    (Instr.mapUpdate 51 (.map (some b)) (.int .i64 (k : Int)) (secA s)).run Try.prog w = .ok () (setBlock w b (.map es' clock')) ∧ Mapped es' clock' (updF f k (some s)) := by
  rcases int_law.find w (int_key hk) es.toList M.keyed with ⟨h1, h2⟩ | ⟨j, e0, h1, h2, h3⟩
  · refine ⟨_, _, ?_, M.push hk s h2⟩
    simp [Instr.mapUpdate, run_underlying Try.underlying51, MapKept.run_getObj_map hb, int_law.check w false (int_key hk), h1, MapKept.run_setObj_map _ hb, Result.andThen, setBlock]
  · refine ⟨_, _, ?_, M.set_ hk s h2 h3⟩
    have hj : es[j]? = some e0 := by simpa using h2
    simp [Instr.mapUpdate, run_underlying Try.underlying51, MapKept.run_getObj_map hb, int_law.check w false (int_key hk), h1, hj, h3, int_law.stays w (int_key hk), MapKept.run_setObj_map _ hb, Result.andThen, setBlock]
end
/-- sixty-four noughts, as the walk writes them -/
theorem nought_lit : (#[.int .u8 0, .int .u8 0, .int .u8 0, .int .u8 0, .int .u8 0, .int .u8 0, .int .u8 0, .int .u8 0, .int .u8 0, .int .u8 0, .int .u8 0, .int .u8 0, .int .u8 0, .int .u8 0, .int .u8 0, .int .u8 0, .int .u8 0, .int .u8 0, .int .u8 0, .int .u8 0, .int .u8 0, .int .u8 0, .int .u8 0, .int .u8 0, .int .u8 0, .int .u8 0, .int .u8 0, .int .u8 0, .int .u8 0, .int .u8 0, .int .u8 0, .int .u8 0, .int .u8 0, .int .u8 0, .int .u8 0, .int .u8 0, .int .u8 0, .int .u8 0, .int .u8 0, .int .u8 0, .int .u8 0, .int .u8 0, .int .u8 0, .int .u8 0, .int .u8 0, .int .u8 0, .int .u8 0, .int .u8 0, .int .u8 0, .int .u8 0, .int .u8 0, .int .u8 0, .int .u8 0, .int .u8 0, .int .u8 0, .int .u8 0, .int .u8 0, .int .u8 0, .int .u8 0, .int .u8 0, .int .u8 0, .int .u8 0, .int .u8 0, .int .u8 0] : Array Value) = (secV noughtB).toArray := rfl
theorem run_copy64 (W : World) {s : ByteArray} (hs : s.size = 64) :
    (Builtin.copy_ #[30, 9] 3 #[.slice (some ⟨W.heap.size, 0, none⟩) 64 64, .string s]).run Try.prog (W.alloc (.cells #[.int .u8 0, .int .u8 0, .int .u8 0, .int .u8 0, .int .u8 0, .int .u8 0, .int .u8 0, .int .u8 0, .int .u8 0, .int .u8 0, .int .u8 0, .int .u8 0, .int .u8 0, .int .u8 0, .int .u8 0, .int .u8 0, .int .u8 0, .int .u8 0, .int .u8 0, .int .u8 0, .int .u8 0, .int .u8 0, .int .u8 0, .int .u8 0, .int .u8 0, .int .u8 0, .int .u8 0, .int .u8 0, .int .u8 0, .int .u8 0, .int .u8 0, .int .u8 0, .int .u8 0, .int .u8 0, .int .u8 0, .int .u8 0, .int .u8 0, .int .u8 0, .int .u8 0, .int .u8 0, .int .u8 0, .int .u8 0, .int .u8 0, .int .u8 0, .int .u8 0, .int .u8 0, .int .u8 0, .int .u8 0, .int .u8 0, .int .u8 0, .int .u8 0, .int .u8 0, .int .u8 0, .int .u8 0, .int .u8 0, .int .u8 0, .int .u8 0, .int .u8 0, .int .u8 0, .int .u8 0, .int .u8 0, .int .u8 0, .int .u8 0, .int .u8 0] 55)) = .ok (.int .i64 64) (W.alloc (.cells (secV s).toArray 55)) := by
  rw [nought_lit]
  have hst := run_storeCells_new (P := Try.prog) W 55 (secV noughtB).toArray (secV s).toArray (by rw [zero_sec.2, secV_size]) (by rw [secV_size, secV_size]) (secV_all s)
  have he : (Try.prog.info? 5).map (·.size) = some 1 := by kernel_rfl
  obtain ⟨i, hi, _⟩ := Option.map_eq_some_iff.1 he
  have e1 : (s.extract 0 64).data.map (fun b : UInt8 => Value.int .u8 (b.toNat : Int)) = (secV s).toArray := by
    rw [secV_of hs]
    have : s.extract 0 64 = s := by
      have h := ByteArray.extract_zero_size (b := s)
      rwa [hs] at h
    rw [this]
    show s.data.map _ = (s.data.toList.map byteV).toArray
    rw [← List.map_toArray, Array.toArray_toList]
    rfl
  have hm : s.size.min 64 = 64 := by rw [hs]; rfl
  have e2 : List.take 64 (List.map (fun b : UInt8 => Value.int .u8 (b.toNat : Int)) s.data.toList) = (secV s).toArray.toList := by
    rw [← e1]
    simp
  generalize (secV noughtB).toArray = Z at hst ⊢
  generalize (secV s).toArray = V at hst e2 ⊢
  simp [Builtin.copy_, run_underlying Try.underlying30, Builtin.lenOf, Builtin.firstCells, sizeOf, typeInfo, hi, hm]
  rw [e2, hst]
  rfl
/-- a sector is laid into a new one -/
theorem run_secstore (W : World) (s : ByteArray) :
    (storeCells ⟨W.heap.size, 0, none⟩ (secV s)).run Try.prog (W.alloc (.cells #[.int .u8 0, .int .u8 0, .int .u8 0, .int .u8 0, .int .u8 0, .int .u8 0, .int .u8 0, .int .u8 0, .int .u8 0, .int .u8 0, .int .u8 0, .int .u8 0, .int .u8 0, .int .u8 0, .int .u8 0, .int .u8 0, .int .u8 0, .int .u8 0, .int .u8 0, .int .u8 0, .int .u8 0, .int .u8 0, .int .u8 0, .int .u8 0, .int .u8 0, .int .u8 0, .int .u8 0, .int .u8 0, .int .u8 0, .int .u8 0, .int .u8 0, .int .u8 0, .int .u8 0, .int .u8 0, .int .u8 0, .int .u8 0, .int .u8 0, .int .u8 0, .int .u8 0, .int .u8 0, .int .u8 0, .int .u8 0, .int .u8 0, .int .u8 0, .int .u8 0, .int .u8 0, .int .u8 0, .int .u8 0, .int .u8 0, .int .u8 0, .int .u8 0, .int .u8 0, .int .u8 0, .int .u8 0, .int .u8 0, .int .u8 0, .int .u8 0, .int .u8 0, .int .u8 0, .int .u8 0, .int .u8 0, .int .u8 0, .int .u8 0, .int .u8 0] 55)) = .ok () (W.alloc (.cells (secV s).toArray 55)) := by
  rw [nought_lit]
  exact run_storeCells_new (P := Try.prog) W 55 (secV noughtB).toArray (secV s).toArray (by rw [zero_sec.2, secV_size]) (by rw [secV_size, secV_size]) (secV_all s)
theorem run_secstore2 (W : World) (s : ByteArray) :
    (storeCells ⟨W.heap.size, 0, none⟩ (secV s)).run Try.prog (W.alloc (.cells (secV noughtB).toArray 55)) = .ok () (W.alloc (.cells (secV s).toArray 55)) :=
  run_storeCells_new (P := Try.prog) W 55 (secV noughtB).toArray (secV s).toArray (by rw [zero_sec.2, secV_size]) (by rw [secV_size, secV_size]) (secV_all s)
/-- the text of a sector that was copied -/
theorem run_secstr (W : World) {s : ByteArray} (hs : s.size = 64) :
    (convert 30 9 (.slice (some ⟨W.heap.size, 0, none⟩) 64 64)).run Try.prog (W.alloc (.cells (secV s).toArray 55)) = .ok (.string s) (W.alloc (.cells (secV s).toArray 55)) := by
  have hr := row_cells W (secV s) 55
  have hl : (bsOf s).length = 64 := by rw [Array.length_toList]; exact hs
  rw [secV_of hs] at hr
  have h := run_row_string (P := Try.prog) 30 9 5 hr hl Try.underlying30 Try.underlying5 Try.underlying9 64
  rw [show (⟨(bsOf s).toArray⟩ : ByteArray) = s by rw [Array.toArray_toList]] at h
  rw [secV_of hs]
  exact h
theorem reads_lit2 (w : World) (o : Obj) (cs : List Value) (t : TypeId) (n : Nat) (hn : cs.length = n) : Reads ((w.alloc o).alloc (.cells cs.toArray t)) (w.heap.size + 1 + 1) (some ⟨w.heap.size + 1, 0, none⟩) n cs := by
  have h := reads_lit (w.alloc o) cs t n hn
  have e : (w.alloc o).heap.size = w.heap.size + 1 := by simp
  rw [e] at h
  exact h
/-- another map block -/
theorem MapAt.same {w w' : World} {b : Nat} {f : Nat → Option ByteArray} (h : MapAt w b f) (e : w'.heap[b]? = w.heap[b]?) : MapAt w' b f := by
  obtain ⟨es, clock, hb, M⟩ := h
  exact ⟨es, clock, e.trans hb, M⟩
theorem MapAt.lt {w : World} {b : Nat} {f : Nat → Option ByteArray} (h : MapAt w b f) : b < w.heap.size := by
  obtain ⟨es, clock, hb, _⟩ := h
  exact (Array.getElem?_eq_some_iff.1 hb).1
theorem setBlock_size (w : World) (b : Nat) (o : Obj) : (setBlock w b o).heap.size = w.heap.size := by simp [setBlock]
theorem apart_block {F : Nat → Prop} {w : World} {b : Nat} {es : Array MapEntry} {clock : Nat} (hb : w.heap[b]? = some (.map es clock)) (o : Obj) (hp : F b) : Apart F w (setBlock w b o) :=
  ⟨rfl, rfl, rfl, Nat.le_of_eq (setBlock_size w b o).symm, fun _ _ hk => heap_setBlock_other hb o (fun e => hk (e ▸ hp))⟩
end Go.Proofs.Ytoalckcpahnpmaa
