/- A scope with several labels: what holds at each jump, and a measure that every pass lowers. -/
import Derived.Test.YtkdkekmgnejhpaaLib
import Derived.ScopeJumps
import Derived.WalkMore
namespace Go.Proofs.Ytkdkekmgnejhpaa
open Go.RowKit

/-- as Q; by a goto to label l: J l -/
def jumpsTo (J : Nat → Act → World → Prop) (Q : Exit → Act → World → Prop) : Exit → Act → World → Prop
  | .goto l, a, w => J l a w
  | e, a, w => Q e a w

section
variable {P : Program} {a : Act} {w : World} {Q : Exit → Act → World → Prop}
theorem wp_scope_many {c : Code} (J : Nat → Act → World → Prop) (μ : Nat → Act → World → Nat)
    (first : c.wp P (jumpsTo J Q) a w)
    (pass : ∀ l a w, J l a w → ∃ rest, findLabel c l = some rest ∧ rest.wp P (jumpsTo (fun l' a' w' => J l' a' w' ∧ μ l' a' w' < μ l a w) Q) a w) : (Code.scope c).wp P Q a w := by
  intro b k cs
  have key : ∀ n l rest a w, μ l a w = n → J l a w → findLabel c l = some rest → ∃ e a' w', Q e a' w' ∧ Arrives P (lone (b.at a (.code rest :: .inScope c :: k)) cs w) b k cs e a' w' := by
    intro n
    induction n using Nat.strongRecOn with
    | _ n ih =>
      intro l rest a w hn hJ hl
      obtain ⟨rest', hl', hw⟩ := pass l a w hJ
      rw [hl] at hl'
      obtain rfl := Option.some.inj hl'
      obtain ⟨e, a1, w1, hq, harr⟩ := hw b (.inScope c :: k) cs
      cases e with
      | goto l' =>
        obtain ⟨hJ', hlt⟩ := hq
        obtain ⟨r2, hf2, _⟩ := pass l' a1 w1 hJ'
        obtain ⟨e2, a2, w2, hq2, harr2⟩ := ih _ (by omega) l' r2 a1 w1 rfl hJ' hf2
        have hg : gotoIn l' (.inScope c :: k) = some (.code r2 :: .inScope c :: k) := by simp [gotoIn, hf2]
        exact ⟨e2, a2, w2, hq2, .of_steps (harr _ hg) harr2⟩
      | normal => exact ⟨.normal, a1, w1, hq, Steps.trans harr (.one step_inScope)⟩
      | exit id => exact ⟨.exit id, a1, w1, hq, fun k' hk => harr k' (by simp [exitTo, hk])⟩
      | _ => exact ⟨_, a1, w1, hq, harr⟩
  obtain ⟨e, a1, w1, hq, harr⟩ := first b (.inScope c :: k) cs
  cases e with
  | goto l =>
    obtain ⟨r, hf, _⟩ := pass l a1 w1 hq
    obtain ⟨e2, a2, w2, hq2, harr2⟩ := key _ l r a1 w1 rfl hq hf
    have hg : gotoIn l (.inScope c :: k) = some (.code r :: .inScope c :: k) := by simp [gotoIn, hf]
    exact ⟨e2, a2, w2, hq2, .of_steps (.head step_scope (harr _ hg)) harr2⟩
  | normal => exact ⟨.normal, a1, w1, hq, .head step_scope (Steps.trans harr (.one step_inScope))⟩
  | exit id => exact ⟨.exit id, a1, w1, hq, fun k' hk => .head step_scope (harr k' (by simp [exitTo, hk]))⟩
  | _ => exact ⟨_, a1, w1, hq, .of_steps (.one step_scope) harr⟩
/-- the same, where the run comes to the label l0 from ahead of it too -/
theorem wp_scope_from {c X : Code} (l0 : Nat) (J : Nat → Act → World → Prop) (μ : Nat → Act → World → Nat) (h0 : findLabel c l0 = some (Code.skip.seq X))
    (first : (∀ a w, J l0 a w → X.wp P (jumpsTo J Q) a w) → c.wp P (jumpsTo J Q) a w)
    (again : ∀ a w, J l0 a w → X.wp P (jumpsTo (fun l' a' w' => J l' a' w' ∧ μ l' a' w' < μ l0 a w) Q) a w)
    (pass : ∀ l a w, J l a w → l = l0 ∨ ∃ rest, findLabel c l = some rest ∧ rest.wp P (jumpsTo (fun l' a' w' => J l' a' w' ∧ μ l' a' w' < μ l a w) Q) a w) : (Code.scope c).wp P Q a w :=
  wp_scope_many J μ (first fun a w hJ => by
    refine Code.wp_mono (fun e a w h => ?_) (again a w hJ)
    cases e with
    | goto l => exact h.1
    | _ => exact h) fun l a w hJ => by
    rcases pass l a w hJ with rfl | h
    · exact ⟨_, h0, wp_seq (wp_skip (again a w hJ))⟩
    · exact h
end
end Go.Proofs.Ytkdkekmgnejhpaa
