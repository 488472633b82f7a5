/- How an argument that is a slice of raw acts is opened. -/
import Derived.Test.YtoalckcpahnpmaaStructs
import Derived.Test.YtoalckcpahnpmaaDiskSix
namespace Go.Proofs.Ytoalckcpahnpmaa
open Go.RowKit Go.ChangeShapes Go.WideShapes

theorem cells_int : Try.prog.cellsOf 3 = 1 := by kernel_rfl
theorem bytes_int : 1 ≤ Try.prog.bytesOf 3 := by
  have h : Try.prog.bytesOf 3 = 8 := by kernel_rfl
  omega
theorem cells_act : Try.prog.cellsOf 33 = 6 := by kernel_rfl
theorem bytes_act : 1 ≤ Try.prog.bytesOf 33 := by
  have h : Try.prog.bytesOf 33 = 72 := by kernel_rfl
  omega
theorem fields_act : ∃ f0 f1 f2 f3 f4 f5 : Field, Try.prog.underlying 33 = some (.struct #[f0, f1, f2, f3, f4, f5]) ∧ (f0.offset = 0 ∧ f1.offset = 1 ∧ f2.offset = 2 ∧ f3.offset = 3 ∧ f4.offset = 4 ∧ f5.offset = 5) ∧
    f0.type = 3 ∧ f1.type = 3 ∧ f2.type = 3 ∧ f3.type = 3 ∧ f4.type = 9 ∧ f5.type = 23 :=
  ⟨_, _, _, _, _, _, Try.underlying33, ⟨rfl, rfl, rfl, rfl, rfl, rfl⟩, rfl, rfl, rfl, rfl, rfl, rfl⟩
theorem cells_ints : Try.prog.cellsOf 23 = 1 := by kernel_rfl

section
variable {H : Type} {enc : TypeId × Value → H} {w : World} {r : Reach} {b0 : Nat} {v : Value} {d : DataW H} {ps : List MemPlace}
theorem open_acts (hval : Value.okWide Try.prog w r b0 22 v)
    (hd : DataW.Trod enc Try.prog w 0 (fun _ => true) true 22 v d ps) (hlt : ∀ x ∈ ps, x.block < w.heap.size) (hsz : (d.weights Try.prog 22).all (· ≤ reachBytes) = true) :
    ∃ (A : Option Addr) (n c : Nat) (V : Nat → Nat → Value), v = .slice A n c ∧ n ≤ c ∧ n ≤ 140737488351232 ∧ ReadsS w w.heap.size A n 6 V ∧ ActsOk n V ∧ ∀ i, i < n → (∃ s, V i 4 = .string s) ∧ ∃ A' n' c', V i 5 = .slice A' n' c' := by
  obtain ⟨f0, f1, f2, f3, f4, f5, hu, ⟨o0, o1, o2, o3, o4, o5⟩, t0, t1, t2, t3, t4, t5⟩ := fields_act
  obtain ⟨A, n, c, V, hv, hnc, hn, hr, hf⟩ := open_structs Try.underlying22 hu cells_act (fun j f h => by
    have hj : j < 6 := (Array.getElem?_eq_some_iff.1 h).1
    match j, hj, h with
    | 0, _, h =>
      have e : f0 = f := Option.some.inj h
      rw [← e]
      exact ⟨o0, by rw [t0]; exact cells_int⟩
    | 1, _, h =>
      have e : f1 = f := Option.some.inj h
      rw [← e]
      exact ⟨o1, by rw [t1]; exact cells_int⟩
    | 2, _, h =>
      have e : f2 = f := Option.some.inj h
      rw [← e]
      exact ⟨o2, by rw [t2]; exact cells_int⟩
    | 3, _, h =>
      have e : f3 = f := Option.some.inj h
      rw [← e]
      exact ⟨o3, by rw [t3]; exact cells_int⟩
    | 4, _, h =>
      have e : f4 = f := Option.some.inj h
      rw [← e]
      exact ⟨o4, by rw [t4]; exact cells_str⟩
    | 5, _, h =>
      have e : f5 = f := Option.some.inj h
      rw [← e]
      exact ⟨o5, by rw [t5]; exact cells_ints⟩) bytes_act (show 0 < 6 by decide) hval hd hlt hsz
  refine ⟨A, n, c, V, hv, hnc, hn, hr, fun i hi => ?_, fun i hi => ?_⟩
  · have g0 := hf i 0 f0 hi rfl
    have g1 := hf i 1 f1 hi rfl
    have g2 := hf i 2 f2 hi rfl
    have g3 := hf i 3 f3 hi rfl
    rw [t0] at g0
    rw [t1] at g1
    rw [t2] at g2
    rw [t3] at g3
    obtain ⟨a, ha, wa⟩ := int_field Try.underlying3 g0
    obtain ⟨b, hb, wb⟩ := int_field Try.underlying3 g1
    obtain ⟨c', hc', wc⟩ := int_field Try.underlying3 g2
    obtain ⟨d', hd', wd⟩ := int_field Try.underlying3 g3
    exact ⟨a, b, c', d', ha, hb, hc', hd', wa, wb, wc, wd⟩
  · have g4 := hf i 4 f4 hi rfl
    have g5 := hf i 5 f5 hi rfl
    rw [t4] at g4
    rw [t5] at g5
    obtain ⟨k, x, g4⟩ := g4
    obtain ⟨k2, x2, g5⟩ := g5
    obtain ⟨s, hs, _⟩ := DataW.trod_string Try.underlying9 g4
    refine ⟨⟨s, by simpa using hs⟩, ?_⟩
    rcases Go.Deep.open_slice Try.underlying23 g5 with ⟨hcs, _⟩ | ⟨a, len, cap, _, _, _, _, hcs, _⟩
    · exact ⟨none, 0, 0, by simpa using hcs⟩
    · exact ⟨some a, len, cap, by simpa using hcs⟩
end
end Go.Proofs.Ytoalckcpahnpmaa
