/-
  A region that draws its order, walked by a condition on the world (UptoLast, UptoAll): a stronger condition may be taken on the way.
  Conditions: none.
-/
import Derived.Test.YtkfpameaopjjnaaUptoAll
namespace Go.Proofs.Ytkfpameaopjjnaa
section
variable {P : Program} {ops : Array Oper} {Q : Exit → Act → World → Prop} {md : Region.Mode} {S S2 : World → Prop} {m : Nat}
theorem wpUpto.strong (h : ∀ V, S2 V → S V) : ∀ {n : Nat} {l : Array Bool} {a : Act} {w : World}, wpUpto P md ops Q S2 m n l a w → wpUpto P md ops Q S m n l a w
  | 0, _, _, _, k => k
  | _ + 1, _, _, _, k => ⟨k.1, fun i hi => wpOp_mono (fun _ _ hx => ⟨fun hne => h _ (hx.1 hne), wpUpto.strong h hx.2⟩) (k.2 i hi)⟩
end
end Go.Proofs.Ytkfpameaopjjnaa
