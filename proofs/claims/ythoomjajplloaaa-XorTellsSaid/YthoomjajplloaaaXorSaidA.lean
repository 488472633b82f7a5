/- XorTells holds: whatever three texts and list of texts come in, the calls of package xor answer as the document's own answers do. Conditions: none. -/
import Derived.Test.YthoomjajplloaaaXorLaws
namespace Go.Proofs.Ythoomjajplloaaa
open Go.RowKit Go.ChangeShapes Go.WideShapes

theorem cells_str : Try.prog.cellsOf 9 = 1 := by kernel_rfl
theorem bytes_str : Try.prog.bytesOf 9 = 16 := by kernel_rfl

set_option maxRecDepth 100000 in
theorem xorTells_lifted (os : Os) (started : os.Started) (H : Type) (enc : TypeId × Value → H) :
    ReturnsInHanded {} Try.checked os 3 .any (Rows.xorTellsSpec.pre6 enc Try.prog Try.f3 Rows.xorTellsRow.domain false) (Rows.xorTellsSpec.post enc Try.prog Try.f3 false true false false) := by
  refine law_lifted (C := Try.checked) (k := 4) own_knob started (by kernel_rfl) Try.func3 rfl rfl Try.underlying4 laid_out (by kernel_rfl) rfl
    (fun ds h => by match ds, h with | [_, _, _, _], _ => rfl)
    (ChangeSpec.witness6 (enc := enc) (C := Try.checked) false ⟨#[], #[.string .empty, .string .empty, .string .empty, .slice none 0 0], []⟩ 8 (by kernel_rfl) (by kernel_rfl) (by kernel_rfl) (by kernel_rfl)) ?_
  intro W base args ds p hval0 hA0 hlt hsz0
  have hval : ∀ (j : Nat) t v, Try.f3.params[j]? = some t → args[j]? = some v → Value.okWide Try.prog W .any base t v := hval0
  have hA : DataW.TrodAll enc Try.prog W 0 (fun _ => true) true Try.f3.params.toList args.toList ds p := hA0
  have hsz : (DataW.weightsEach Try.prog Try.f3.params.toList ds).all (· ≤ reachBytes) = true := hsz0
  rw [Try.params3] at hA hval hsz
  obtain ⟨v0, v1, v2, v3, d0, d1, d2, d3, p0, p1, p2, p3, rfl, rfl, rfl, h0, h1, h2, h3⟩ := trodAll_four hA
  simp only [DataW.weightsEach, List.all_append, Bool.and_eq_true] at hsz
  obtain ⟨a, rfl, ha⟩ := open_str Try.underlying9 (hval 0 9 v0 rfl rfl) h0 hsz.1
  obtain ⟨b, rfl, hb⟩ := open_str Try.underlying9 (hval 1 9 v1 rfl rfl) h1 hsz.2.1
  obtain ⟨c, rfl, hc⟩ := open_str Try.underlying9 (hval 2 9 v2 rfl rfl) h2 hsz.2.2.1
  obtain ⟨A, n, k, ss, rfl, hnk, hk, _, hr, hs⟩ := open_strs Try.underlying22 Try.underlying9 cells_str bytes_str (hval 3 22 v3 rfl rfl) h3 (fun x hx => hlt x (by simp [hx])) hsz.2.2.2.1
  exact tells_any a b c A n k ss W ha hb hc (by omega) hnk hr hs

theorem xorTells_holds : Rows.XorTellsSaid :=
  OpenClaim.holds_of_wide 3 Try.f3 rfl rfl rfl rfl rfl rfl rfl ⟨rfl, rfl, rfl, rfl, rfl⟩ rfl rfl rfl rfl rfl (by kernel_rfl) Try.func3 (by kernel_rfl)
    (of_decide_eq_true (by kernel_rfl)) (by unfold Func.isWrapper; first | (rw [if_pos (by decide +kernel)]; kernel_rfl) | (rw [if_neg (by decide +kernel)]; exact ⟨rfl, rfl⟩))
    (fun os started H enc _ => xorTells_lifted os started H enc)
end Go.Proofs.Ythoomjajplloaaa
