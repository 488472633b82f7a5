/- Proved here, each for every input: PlatterKeeps, PlatterArms, PlatterLoses, PlatterApart, PlatterReads. Conditions: none. -/
import Derived.Test.YtoalckcpahnpmaaOpenA
import Derived.Test.YtoalckcpahnpmaaDiskLawsA
import Derived.Test.YtoalckcpahnpmaaDiskLawsB
import Derived.Test.YtoalckcpahnpmaaDiskLawsC
import Derived.Test.YtoalckcpahnpmaaDiskLawsD
import Derived.Test.YtoalckcpahnpmaaDiskLawsE
namespace Go.Proofs.Ytoalckcpahnpmaa
open Go.RowKit Go.ChangeShapes Go.WideShapes

set_option maxRecDepth 100000 in
theorem platterKeeps_lifted (os : Os) (started : os.Started) (H : Type) (enc : TypeId × Value → H) :
    ReturnsInHanded {} Try.checked os 3 .any (Rows.platterKeepsSpec.pre6 enc Try.prog Try.f3 Rows.platterKeepsRow.domain false) (Rows.platterKeepsSpec.post enc Try.prog Try.f3 false true false false) := by
  refine law_lifted (C := Try.checked) (k := 3) own_knob started (by kernel_rfl) Try.func3 rfl rfl Try.underlying4 laid_out (by kernel_rfl) rfl
    (fun ds h => by match ds, h with | [_, _, _], _ => rfl)
    (ChangeSpec.witness6 (enc := enc) (C := Try.checked) false ⟨#[], #[.slice none 0 0, .slice none 0 0, .slice none 0 0], []⟩ 8 (by kernel_rfl) (by kernel_rfl) (by kernel_rfl) (by kernel_rfl)) ?_
  intro W base args ds p hval0 hA0 hlt hsz0
  have hval : ∀ (j : Nat) t v, Try.f3.params[j]? = some t → args[j]? = some v → Value.okWide Try.prog W .any base t v := hval0
  have hA : DataW.TrodAll enc Try.prog W 0 (fun _ => true) true Try.f3.params.toList args.toList ds p := hA0
  have hsz : (DataW.weightsEach Try.prog Try.f3.params.toList ds).all (· ≤ reachBytes) = true := hsz0
  rw [Try.params3] at hA hval hsz
  obtain ⟨v0, vs0, d0, ds0, p0, q0, e0, rfl, rfl, h0, r0⟩ := trodAll_cons hA
  obtain ⟨v1, vs1, d1, ds1, p1, q1, e1, rfl, rfl, h1, r1⟩ := trodAll_cons r0
  subst e1
  obtain ⟨v2, vs2, d2, ds2, p2, q2, e2, rfl, rfl, h2, r2⟩ := trodAll_cons r1
  subst e2
  obtain ⟨rfl, rfl, rfl⟩ := trodAll_nil r2
  obtain rfl : args = #[v0, v1, v2] := by cases args; simp_all
  simp only [DataW.weightsEach, List.all_append, Bool.and_eq_true] at hsz
  obtain ⟨A0, n0, k0, x0, rfl, l0, m0, t0, s0, u0⟩ := open_acts (hval 0 22 v0 rfl rfl) h0 (fun x hx => hlt x (by simp [hx])) hsz.1
  obtain ⟨A1, n1, k1, x1, rfl, l1, m1, t1, s1⟩ := open_intsL Try.underlying23 Try.underlying3 cells_int bytes_int (hval 1 23 v1 rfl rfl) h1 (fun x hx => hlt x (by simp [hx])) hsz.2.1
  obtain ⟨A2, n2, k2, x2, rfl, l2, m2, t2, s2⟩ := open_intsL Try.underlying23 Try.underlying3 cells_int bytes_int (hval 2 23 v2 rfl rfl) h2 (fun x hx => hlt x (by simp [hx])) hsz.2.2.1
  exact keeps_any A0 A1 A2 n0 k0 n1 k1 n2 k2 x0 x1 x2 W m0 t0 s0 l1 t1 l2 t2

/-- PlatterKeeps -/
theorem platterKeeps_holds : Rows.PlatterKeepsSaid :=
  OpenClaim.holds_of_wide 3 Try.f3 rfl rfl rfl rfl rfl rfl rfl ⟨rfl, rfl, rfl, rfl, rfl⟩ rfl rfl rfl rfl rfl (by kernel_rfl) Try.func3 (by kernel_rfl)
    (of_decide_eq_true (by kernel_rfl)) (by unfold Func.isWrapper; first | (rw [if_pos (by decide +kernel)]; kernel_rfl) | (rw [if_neg (by decide +kernel)]; exact ⟨rfl, rfl⟩))
    (fun os started H enc _ => platterKeeps_lifted os started H enc)

set_option maxRecDepth 100000 in
theorem platterArms_lifted (os : Os) (started : os.Started) (H : Type) (enc : TypeId × Value → H) :
    ReturnsInHanded {} Try.checked os 4 .any (Rows.platterArmsSpec.pre6 enc Try.prog Try.f4 Rows.platterArmsRow.domain false) (Rows.platterArmsSpec.post enc Try.prog Try.f4 false true false false) := by
  refine law_lifted (C := Try.checked) (k := 2) own_knob started (by kernel_rfl) Try.func4 rfl rfl Try.underlying4 laid_out (by kernel_rfl) rfl
    (fun ds h => by match ds, h with | [_, _], _ => rfl)
    (ChangeSpec.witness6 (enc := enc) (C := Try.checked) false ⟨#[], #[.slice none 0 0, .int .i64 0], []⟩ 8 (by kernel_rfl) (by kernel_rfl) (by kernel_rfl) (by kernel_rfl)) ?_
  intro W base args ds p hval0 hA0 hlt hsz0
  have hval : ∀ (j : Nat) t v, Try.f4.params[j]? = some t → args[j]? = some v → Value.okWide Try.prog W .any base t v := hval0
  have hA : DataW.TrodAll enc Try.prog W 0 (fun _ => true) true Try.f4.params.toList args.toList ds p := hA0
  have hsz : (DataW.weightsEach Try.prog Try.f4.params.toList ds).all (· ≤ reachBytes) = true := hsz0
  rw [Try.params4] at hA hval hsz
  obtain ⟨v0, vs0, d0, ds0, p0, q0, e0, rfl, rfl, h0, r0⟩ := trodAll_cons hA
  obtain ⟨v1, vs1, d1, ds1, p1, q1, e1, rfl, rfl, h1, r1⟩ := trodAll_cons r0
  subst e1
  obtain ⟨rfl, rfl, rfl⟩ := trodAll_nil r1
  obtain rfl : args = #[v0, v1] := by cases args; simp_all
  simp only [DataW.weightsEach, List.all_append, Bool.and_eq_true] at hsz
  obtain ⟨A0, n0, k0, x0, rfl, l0, m0, t0, s0⟩ := open_intsL Try.underlying23 Try.underlying3 cells_int bytes_int (hval 0 23 v0 rfl rfl) h0 (fun x hx => hlt x (by simp [hx])) hsz.1
  obtain ⟨x1, rfl, _, _, s1⟩ := open_int Try.underlying3 (hval 1 3 v1 rfl rfl) h1
  exact arms_any A0 n0 k0 x0 x1 W m0 t0 s0 s1

/-- PlatterArms -/
theorem platterArms_holds : Rows.PlatterArmsSaid :=
  OpenClaim.holds_of_wide 4 Try.f4 rfl rfl rfl rfl rfl rfl rfl ⟨rfl, rfl, rfl, rfl, rfl⟩ rfl rfl rfl rfl rfl (by kernel_rfl) Try.func4 (by kernel_rfl)
    (of_decide_eq_true (by kernel_rfl)) (by unfold Func.isWrapper; first | (rw [if_pos (by decide +kernel)]; kernel_rfl) | (rw [if_neg (by decide +kernel)]; exact ⟨rfl, rfl⟩))
    (fun os started H enc _ => platterArms_lifted os started H enc)

set_option maxRecDepth 100000 in
theorem platterLoses_lifted (os : Os) (started : os.Started) (H : Type) (enc : TypeId × Value → H) :
    ReturnsInHanded {} Try.checked os 5 .any (Rows.platterLosesSpec.pre6 enc Try.prog Try.f5 Rows.platterLosesRow.domain false) (Rows.platterLosesSpec.post enc Try.prog Try.f5 false true false false) := by
  refine law_lifted (C := Try.checked) (k := 3) own_knob started (by kernel_rfl) Try.func5 rfl rfl Try.underlying4 laid_out (by kernel_rfl) rfl
    (fun ds h => by match ds, h with | [_, _, _], _ => rfl)
    (ChangeSpec.witness6 (enc := enc) (C := Try.checked) false ⟨#[], #[.slice none 0 0, .slice none 0 0, .slice none 0 0], []⟩ 8 (by kernel_rfl) (by kernel_rfl) (by kernel_rfl) (by kernel_rfl)) ?_
  intro W base args ds p hval0 hA0 hlt hsz0
  have hval : ∀ (j : Nat) t v, Try.f5.params[j]? = some t → args[j]? = some v → Value.okWide Try.prog W .any base t v := hval0
  have hA : DataW.TrodAll enc Try.prog W 0 (fun _ => true) true Try.f5.params.toList args.toList ds p := hA0
  have hsz : (DataW.weightsEach Try.prog Try.f5.params.toList ds).all (· ≤ reachBytes) = true := hsz0
  rw [Try.params5] at hA hval hsz
  obtain ⟨v0, vs0, d0, ds0, p0, q0, e0, rfl, rfl, h0, r0⟩ := trodAll_cons hA
  obtain ⟨v1, vs1, d1, ds1, p1, q1, e1, rfl, rfl, h1, r1⟩ := trodAll_cons r0
  subst e1
  obtain ⟨v2, vs2, d2, ds2, p2, q2, e2, rfl, rfl, h2, r2⟩ := trodAll_cons r1
  subst e2
  obtain ⟨rfl, rfl, rfl⟩ := trodAll_nil r2
  obtain rfl : args = #[v0, v1, v2] := by cases args; simp_all
  simp only [DataW.weightsEach, List.all_append, Bool.and_eq_true] at hsz
  obtain ⟨A0, n0, k0, x0, rfl, l0, m0, t0, s0, u0⟩ := open_acts (hval 0 22 v0 rfl rfl) h0 (fun x hx => hlt x (by simp [hx])) hsz.1
  obtain ⟨A1, n1, k1, x1, rfl, l1, m1, t1, s1⟩ := open_intsL Try.underlying23 Try.underlying3 cells_int bytes_int (hval 1 23 v1 rfl rfl) h1 (fun x hx => hlt x (by simp [hx])) hsz.2.1
  obtain ⟨A2, n2, k2, x2, rfl, l2, m2, t2, s2⟩ := open_intsL Try.underlying23 Try.underlying3 cells_int bytes_int (hval 2 23 v2 rfl rfl) h2 (fun x hx => hlt x (by simp [hx])) hsz.2.2.1
  exact loses_any A0 A1 A2 n0 k0 n1 k1 n2 k2 x0 x1 x2 W m0 t0 s0 u0 m1 t1 s1 l2 t2

/-- PlatterLoses -/
theorem platterLoses_holds : Rows.PlatterLosesSaid :=
  OpenClaim.holds_of_wide 5 Try.f5 rfl rfl rfl rfl rfl rfl rfl ⟨rfl, rfl, rfl, rfl, rfl⟩ rfl rfl rfl rfl rfl (by kernel_rfl) Try.func5 (by kernel_rfl)
    (of_decide_eq_true (by kernel_rfl)) (by unfold Func.isWrapper; first | (rw [if_pos (by decide +kernel)]; kernel_rfl) | (rw [if_neg (by decide +kernel)]; exact ⟨rfl, rfl⟩))
    (fun os started H enc _ => platterLoses_lifted os started H enc)

set_option maxRecDepth 100000 in
theorem platterApart_lifted (os : Os) (started : os.Started) (H : Type) (enc : TypeId × Value → H) :
    ReturnsInHanded {} Try.checked os 6 .any (Rows.platterApartSpec.pre6 enc Try.prog Try.f6 Rows.platterApartRow.domain false) (Rows.platterApartSpec.post enc Try.prog Try.f6 false true false false) := by
  refine law_lifted (C := Try.checked) (k := 3) own_knob started (by kernel_rfl) Try.func6 rfl rfl Try.underlying4 laid_out (by kernel_rfl) rfl
    (fun ds h => by match ds, h with | [_, _, _], _ => rfl)
    (ChangeSpec.witness6 (enc := enc) (C := Try.checked) false ⟨#[], #[.slice none 0 0, .slice none 0 0, .int .i64 0], []⟩ 8 (by kernel_rfl) (by kernel_rfl) (by kernel_rfl) (by kernel_rfl)) ?_
  intro W base args ds p hval0 hA0 hlt hsz0
  have hval : ∀ (j : Nat) t v, Try.f6.params[j]? = some t → args[j]? = some v → Value.okWide Try.prog W .any base t v := hval0
  have hA : DataW.TrodAll enc Try.prog W 0 (fun _ => true) true Try.f6.params.toList args.toList ds p := hA0
  have hsz : (DataW.weightsEach Try.prog Try.f6.params.toList ds).all (· ≤ reachBytes) = true := hsz0
  rw [Try.params6] at hA hval hsz
  obtain ⟨v0, vs0, d0, ds0, p0, q0, e0, rfl, rfl, h0, r0⟩ := trodAll_cons hA
  obtain ⟨v1, vs1, d1, ds1, p1, q1, e1, rfl, rfl, h1, r1⟩ := trodAll_cons r0
  subst e1
  obtain ⟨v2, vs2, d2, ds2, p2, q2, e2, rfl, rfl, h2, r2⟩ := trodAll_cons r1
  subst e2
  obtain ⟨rfl, rfl, rfl⟩ := trodAll_nil r2
  obtain rfl : args = #[v0, v1, v2] := by cases args; simp_all
  simp only [DataW.weightsEach, List.all_append, Bool.and_eq_true] at hsz
  obtain ⟨A0, n0, k0, x0, rfl, l0, m0, t0, s0, u0⟩ := open_acts (hval 0 22 v0 rfl rfl) h0 (fun x hx => hlt x (by simp [hx])) hsz.1
  obtain ⟨A1, n1, k1, x1, rfl, l1, m1, t1, s1⟩ := open_intsL Try.underlying23 Try.underlying3 cells_int bytes_int (hval 1 23 v1 rfl rfl) h1 (fun x hx => hlt x (by simp [hx])) hsz.2.1
  obtain ⟨x2, rfl, _, _, s2⟩ := open_int Try.underlying3 (hval 2 3 v2 rfl rfl) h2
  exact apart_any A0 A1 n0 k0 n1 k1 x0 x1 x2 W m0 t0 s0 l1 t1 s2

/-- PlatterApart -/
theorem platterApart_holds : Rows.PlatterApartSaid :=
  OpenClaim.holds_of_wide 6 Try.f6 rfl rfl rfl rfl rfl rfl rfl ⟨rfl, rfl, rfl, rfl, rfl⟩ rfl rfl rfl rfl rfl (by kernel_rfl) Try.func6 (by kernel_rfl)
    (of_decide_eq_true (by kernel_rfl)) (by unfold Func.isWrapper; first | (rw [if_pos (by decide +kernel)]; kernel_rfl) | (rw [if_neg (by decide +kernel)]; exact ⟨rfl, rfl⟩))
    (fun os started H enc _ => platterApart_lifted os started H enc)

set_option maxRecDepth 100000 in
theorem platterReads_lifted (os : Os) (started : os.Started) (H : Type) (enc : TypeId × Value → H) :
    ReturnsInHanded {} Try.checked os 7 .any (Rows.platterReadsSpec.pre6 enc Try.prog Try.f7 Rows.platterReadsRow.domain false) (Rows.platterReadsSpec.post enc Try.prog Try.f7 false true false false) := by
  refine law_lifted (C := Try.checked) (k := 1) own_knob started (by kernel_rfl) Try.func7 rfl rfl Try.underlying4 laid_out (by kernel_rfl) rfl
    (fun ds h => by match ds, h with | [_], _ => rfl)
    (ChangeSpec.witness6 (enc := enc) (C := Try.checked) false ⟨#[], #[.slice none 0 0], []⟩ 8 (by kernel_rfl) (by kernel_rfl) (by kernel_rfl) (by kernel_rfl)) ?_
  intro W base args ds p hval0 hA0 hlt hsz0
  have hval : ∀ (j : Nat) t v, Try.f7.params[j]? = some t → args[j]? = some v → Value.okWide Try.prog W .any base t v := hval0
  have hA : DataW.TrodAll enc Try.prog W 0 (fun _ => true) true Try.f7.params.toList args.toList ds p := hA0
  have hsz : (DataW.weightsEach Try.prog Try.f7.params.toList ds).all (· ≤ reachBytes) = true := hsz0
  rw [Try.params7] at hA hval hsz
  obtain ⟨v0, vs0, d0, ds0, p0, q0, e0, rfl, rfl, h0, r0⟩ := trodAll_cons hA
  obtain ⟨rfl, rfl, rfl⟩ := trodAll_nil r0
  obtain rfl : args = #[v0] := by cases args; simp_all
  simp only [DataW.weightsEach, List.all_append, Bool.and_eq_true] at hsz
  obtain ⟨A0, n0, k0, x0, rfl, l0, m0, t0, s0, u0⟩ := open_acts (hval 0 22 v0 rfl rfl) h0 (fun x hx => hlt x (by simp [hx])) hsz.1
  exact reads_any A0 n0 k0 x0 W m0 t0 s0

/-- PlatterReads -/
theorem platterReads_holds : Rows.PlatterReadsSaid :=
  OpenClaim.holds_of_wide 7 Try.f7 rfl rfl rfl rfl rfl rfl rfl ⟨rfl, rfl, rfl, rfl, rfl⟩ rfl rfl rfl rfl rfl (by kernel_rfl) Try.func7 (by kernel_rfl)
    (of_decide_eq_true (by kernel_rfl)) (by unfold Func.isWrapper; first | (rw [if_pos (by decide +kernel)]; kernel_rfl) | (rw [if_neg (by decide +kernel)]; exact ⟨rfl, rfl⟩))
    (fun os started H enc _ => platterReads_lifted os started H enc)

end Go.Proofs.Ytoalckcpahnpmaa
