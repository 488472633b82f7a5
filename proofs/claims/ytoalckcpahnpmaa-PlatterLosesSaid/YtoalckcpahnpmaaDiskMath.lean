/- Plain facts about a disk. Nothing of the program stands here. -/
import Derived.Test.YtoalckcpahnpmaaThing
namespace Go.Proofs.Ytoalckcpahnpmaa
open Go.RowKit

def noughtB : ByteArray := ⟨(List.replicate 64 (0 : UInt8)).toArray⟩
theorem noughtB_size : noughtB.size = 64 := rfl
def updF {α : Type} (f : Nat → α) (k : Nat) (x : α) : Nat → α := fun j => if j = k then x else f j
/-- what lasts, what is cached, the acts, the act at which it goes off, is it off? -/
structure DiskSt where
  n : Nat
  sure : Nat → ByteArray
  last : Nat → Option ByteArray
  acts : Nat
  armed : Nat
  off : Bool
namespace DiskSt
def new (n : Nat) : DiskSt := ⟨n, fun _ => noughtB, fun _ => none, 0, 0, false⟩
def read (S : DiskSt) (k : Nat) : ByteArray := (S.last k).getD (S.sure k)
/-- is the next act not done? -/
def fails (S : DiskSt) : Bool := S.off || S.acts + 1 == S.armed
def act (S : DiskSt) : DiskSt := if S.off then S else { S with acts := S.acts + 1, off := S.acts + 1 == S.armed }
def err (S : DiskSt) : Int := if S.fails then 70 else 0
def write (S : DiskSt) (k : Nat) (s : ByteArray) : DiskSt := if S.fails then S.act else { S.act with last := updF S.last k (some s) }
/-- is there such a sector, and such a text? -/
def fits (S : DiskSt) (k : Int) (s : ByteArray) : Bool := decide (0 ≤ k) && decide (k < S.n) && decide (s.size = 64)
def has (S : DiskSt) (k : Int) : Bool := decide (0 ≤ k) && decide (k < S.n)
def writeE (S : DiskSt) (k : Int) (s : ByteArray) : Int := if S.fails then 70 else if S.fits k s then 0 else 1
def writeA (S : DiskSt) (k : Int) (s : ByteArray) : DiskSt := if S.fails then S.act else if S.fits k s then S.write k.toNat s else S.act
def readE (S : DiskSt) (k : Int) : Int := if S.off then 70 else if S.has k then 0 else 1
def readT (S : DiskSt) (k : Int) : ByteArray := if S.off then ⟨#[]⟩ else if S.has k then S.read k.toNat else ⟨#[]⟩
def flush (S : DiskSt) : DiskSt := if S.fails then S.act else { S.act with sure := S.read, last := fun _ => none }
def arm (S : DiskSt) (m : Int) : DiskSt := if 0 ≤ m ∧ m ≤ 1099511627776 then { S with armed := if m = 0 then 0 else S.acts + m.toNat } else S
def armE (m : Int) : Int := if 0 ≤ m ∧ m ≤ 1099511627776 then 0 else 1
def cached (S : DiskSt) : List Nat := (List.range S.n).filter fun k => (S.last k).isSome
/-- does sector k last, though it was cached alone? -/
def stays (S : DiskSt) (keep : List Int) (k : Nat) : Bool := ((List.range S.cached.length).any fun i => decide (S.cached[i]? = some k) && decide (i < keep.length) && decide ((keep.getD i 0) % 2 ≠ 0))
def restart (S : DiskSt) (keep : List Int) : DiskSt := { S with sure := fun k => if S.stays keep k then S.read k else S.sure k, last := fun _ => none, armed := 0, off := false }
def lose (S : DiskSt) : DiskSt := { S with sure := fun _ => noughtB, last := fun _ => none, armed := 0, off := false }
/-- the acts are few: no number overflows -/
def Few (S : DiskSt) : Prop := S.acts ≤ 1000000
/-- all its texts are whole sectors -/
def Whole (S : DiskSt) : Prop := (∀ k, (S.sure k).size = 64) ∧ ∀ k s, S.last k = some s → s.size = 64
theorem write_fits {S : DiskSt} {k : Nat} {s : ByteArray} (hk : k < S.n) (hs : s.size = 64) : S.writeE k s = S.err ∧ S.writeA k s = S.write k s := by
  have h : S.fits k s = true := by
    unfold fits
    simp [hs]
    omega
  unfold writeE writeA err
  rw [h]
  cases hf : S.fails
  · exact ⟨rfl, by simp⟩
  · refine ⟨rfl, ?_⟩
    show S.act = S.write k s
    unfold write
    rw [hf]
    rfl
theorem read_has {S : DiskSt} {k : Nat} (ho : S.off = false) (hk : k < S.n) : S.readE k = 0 ∧ S.readT k = S.read k := by
  have h : S.has k = true := by
    unfold has
    simp
    omega
  unfold readE readT
  rw [ho, h]
  exact ⟨rfl, rfl⟩
theorem read_size {S : DiskSt} (h : S.Whole) (k : Nat) : (S.read k).size = 64 := by
  unfold read
  cases e : S.last k with
  | none => exact h.1 k
  | some s => exact h.2 k s e
theorem whole_new (n : Nat) : (DiskSt.new n).Whole := ⟨fun _ => rfl, fun _ _ h => by cases h⟩
theorem whole_act {S : DiskSt} (h : S.Whole) : S.act.Whole := by
  unfold act
  split
  · exact h
  · exact h
theorem whole_write {S : DiskSt} (h : S.Whole) {k : Nat} {s : ByteArray} (hs : s.size = 64) : (S.write k s).Whole := by
  unfold write
  split
  · exact whole_act h
  · refine ⟨(whole_act h).1, fun j u hj => ?_⟩
    have hj2 : updF S.last k (some s) j = some u := hj
    unfold updF at hj2
    split at hj2
    · cases hj2
      exact hs
    · exact h.2 j u hj2
theorem whole_flush {S : DiskSt} (h : S.Whole) : S.flush.Whole := by
  unfold flush
  split
  · exact whole_act h
  · exact ⟨fun k => read_size h k, fun _ _ h => by cases h⟩
theorem whole_arm {S : DiskSt} (h : S.Whole) (m : Int) : (S.arm m).Whole := by
  unfold arm
  split
  · exact h
  · exact h
theorem whole_restart {S : DiskSt} (h : S.Whole) (l : List Int) : (S.restart l).Whole := by
  refine ⟨fun k => ?_, fun _ _ h => by cases h⟩
  show (if S.stays l k then S.read k else S.sure k).size = 64
  split
  · exact read_size h k
  · exact h.1 k
theorem whole_lose {S : DiskSt} : S.lose.Whole := ⟨fun _ => rfl, fun _ _ h => by cases h⟩
theorem acts_act (S : DiskSt) : S.act.acts ≤ S.acts + 1 := by
  unfold act
  split
  · exact Nat.le_succ _
  · exact Nat.le_refl _
theorem acts_write (S : DiskSt) (k : Nat) (s : ByteArray) : (S.write k s).acts ≤ S.acts + 1 := by
  unfold write
  split
  · exact acts_act S
  · exact acts_act S
theorem acts_flush (S : DiskSt) : S.flush.acts ≤ S.acts + 1 := by
  unfold flush
  split
  · exact acts_act S
  · exact acts_act S
theorem acts_arm (S : DiskSt) (m : Int) : (S.arm m).acts = S.acts := by
  unfold arm
  split <;> rfl
theorem n_act (S : DiskSt) : S.act.n = S.n := by
  unfold act
  split <;> rfl
theorem n_write (S : DiskSt) (k : Nat) (s : ByteArray) : (S.write k s).n = S.n := by
  unfold write
  split <;> exact n_act S
theorem n_flush (S : DiskSt) : S.flush.n = S.n := by
  unfold flush
  split <;> exact n_act S
theorem n_arm (S : DiskSt) (m : Int) : (S.arm m).n = S.n := by
  unfold arm
  split <;> rfl
/-- on, and not armed -/
def On (S : DiskSt) : Prop := S.off = false ∧ S.armed = 0
theorem On.off_ {S : DiskSt} (h : S.On) : S.off = false := h.1
theorem On.fails {S : DiskSt} (h : S.On) : S.fails = false := by
  unfold DiskSt.fails
  rw [h.1, h.2]
  rfl
theorem On.err {S : DiskSt} (h : S.On) : S.err = 0 := by
  unfold DiskSt.err
  rw [h.fails]
  rfl
theorem On.act {S : DiskSt} (h : S.On) : S.act = { S with acts := S.acts + 1 } := by
  unfold DiskSt.act
  rw [if_neg (by rw [h.1]; decide), h.2, h.1]
  rfl
theorem On.write {S : DiskSt} (h : S.On) (k : Nat) (s : ByteArray) : S.write k s = { S with acts := S.acts + 1, last := updF S.last k (some s) } := by
  unfold DiskSt.write
  rw [if_neg (by rw [h.fails]; decide), h.act]
theorem On.flush {S : DiskSt} (h : S.On) : S.flush = { S with acts := S.acts + 1, sure := S.read, last := fun _ => none } := by
  unfold DiskSt.flush
  rw [if_neg (by rw [h.fails]; decide), h.act]
theorem On.write_on {S : DiskSt} (h : S.On) (k : Nat) (s : ByteArray) : (S.write k s).On := by
  rw [h.write]
  exact h
theorem On.flush_on {S : DiskSt} (h : S.On) : S.flush.On := by
  rw [h.flush]
  exact h
theorem On.write_read {S : DiskSt} (h : S.On) (k : Nat) (s : ByteArray) : (S.write k s).read = updF S.read k s := by
  rw [h.write]
  funext j
  unfold read updF
  by_cases e : j = k
  · simp [e]
  · simp [e]
theorem On.flush_read {S : DiskSt} (h : S.On) : S.flush.read = S.read := by
  rw [h.flush]
  rfl
end DiskSt
end Go.Proofs.Ytoalckcpahnpmaa
