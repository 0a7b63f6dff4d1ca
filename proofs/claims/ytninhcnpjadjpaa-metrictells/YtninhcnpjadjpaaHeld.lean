/-
  Regions that draw their order: the condition on the world may be made stronger behind an operation that is carried out. No Go text is walked here.
-/
import Derived.Deep.RegionHeld
import Derived.Below
namespace Go.Proofs.Ytninhcnpjadjpaa
open Go.RowKit

section
variable {P : Program} {ops : Array Oper} {Q : Exit → Act → World → Prop} {md : Region.Mode} {S S' : World → Prop}

theorem held_imp (himp : ∀ w, S' w → S w) : ∀ (fuel : Nat) (listed : Array Bool) (a : Act) (w : World), wpAnyH P md ops Q S' fuel listed a w → wpAnyH P md ops Q S fuel listed a w
  | 0, _, _, _, h => h
  | fuel + 1, _, _, _, h => ⟨h.1, fun i hi => wpOp_mono (fun a' w' h' => ⟨himp w' h'.1, held_imp himp fuel _ a' w' h'.2⟩) (h.2 i hi)⟩

theorem Shut.stronger {fuel : Nat} {listed : Array Bool} {K : Act → World → Prop} (h : Shut (∀ a w, S w → (S w → wpAnyH P md ops Q S fuel listed a w) → K a w)) (S' : World → Prop) (himp : ∀ w, S' w → S w) :
    Shut (∀ a w, S' w → (S' w → wpAnyH P md ops Q S' fuel listed a w) → K a w) := fun a w h1 h2 => h a w (himp w h1) (fun _ => held_imp himp _ _ _ _ (h2 h1))
end
end Go.Proofs.Ytninhcnpjadjpaa
