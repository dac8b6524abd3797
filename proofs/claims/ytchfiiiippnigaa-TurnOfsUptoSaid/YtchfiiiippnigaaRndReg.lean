/-
  A region that draws its order, in a round of a range over a function: walked as outside of one, if it defers nothing. Over no program.
  Conditions: none.
-/
import Derived.Test.YtchfiiiippnigaaUptoAll
import Derived.OrdersIn
import Derived.RangeFuncNested
namespace Go.Proofs.Ytchfiiiippnigaa
section
variable {P : Program} {ops : Array Oper} {Q : Exit → Act → World → Prop} {md : Region.Mode} {S : World → Prop} {m l n : Nat}

def defers (o : Oper) : Bool := match o.op with | .defer _ => true | _ => false
theorem rowsIn_round {row : String} {args : Array Value} {w : World} {R : Value → World → Prop} (h : Rows P row args w R) : RowsIn (Fence.wide.inRound l) n P row args w R := fun c cs _ =>
  let ⟨v, w', r, s⟩ := h c cs; ⟨v, w', r, stepsIn_wide.2 s⟩
theorem callsIn_round {f : FuncId} {args : Array Value} {w : World} {R : Ending → World → Prop} (h : Calls P f args w R) : CallsIn (Fence.wide.inRound l) n P f args w R := callsIn_wide (n := n).2 h
theorem opIn_round {o : Oper} {a : Act} {w : World} {K : Act → World → Prop} (hd : defers o = false) (h : o.wp P a w K Q) : o.wpIn (Fence.wide.inRound l) n P a w K Q := by
  refine ⟨fun f _ => trivial, ?_⟩
  rw [Oper.semAt_eq _ _ _ (fun c e => by simp [defers, e] at hd)]
  unfold Oper.wp at h
  generalize (execOp a.eval o).run P w = r at *
  cases r with
  | ok x w' =>
    cases x <;> simp only [Oper.upon] at h <;> simp only [Oper.uponIn]
    case value => exact h
    case skip => exact h
    case defer => exact h
    case enter f args => exact ⟨fun e => by simp [Fence.wide] at e, (callsIn_round h).mono fun e w'' he => by cases e <;> exact he⟩
    case row row args => exact ⟨fun e => by simp [Fence.wide] at e, rowsIn_round h⟩
  | halt x w' => cases x <;> simp only [Oper.upon] at h <;> simp only [Oper.uponIn] <;> exact h
theorem anyIn_round (hQ : ¬ LetsOut Q) (hd : ops.all (fun o => !defers o) = true) : ∀ {k : Nat} {li : Array Bool} {a : Act} {w : World}, wpAny P md ops Q k li a w → wpAnyIn (Fence.wide.inRound l) n P md ops Q k li a w
  | 0, _, _, _, h => h
  | k + 1, li, a, w, h => ⟨h.1, fun i hi => by
    have h2 := h.2 i hi
    unfold wpOp at h2
    unfold wpOpIn
    split at h2
    · rename_i he
      simp only [he]
      exact anyIn_round hQ hd h2
    · rename_i o ho
      simp only [ho]
      have hdo : defers o = false := by
        have := Array.all_eq_true'.1 hd o (Array.mem_of_getElem? ho)
        simpa using this
      split at h2
      · rename_i hw
        rw [if_pos hw]
        rcases h2 with h2 | h2
        · exact Oper.wpIn_mono (fun a w hx => anyIn_round hQ hd hx) (opIn_round hdo h2)
        · exact (hQ h2.2).elim
      · rename_i hw
        rw [if_neg hw]
        exact ⟨fun _ _ => trivial, anyIn_round hQ hd h2⟩⟩

/-- Q at the region's own end, and at no other. -/
def AtEnd (Q : Exit → Act → World → Prop) : Exit → Act → World → Prop
  | .normal, a, w => Q .normal a w
  | _, _, _ => False
theorem AtEnd.normal {a : Act} {w : World} (h : Q .normal a w) : AtEnd Q .normal a w := h
theorem AtEnd.imp : ∀ (e : Exit) (a : Act) (w : World), AtEnd Q e a w → Q e a w := fun e a w h => by
  cases e <;> first | exact h | exact (h : False).elim

/-- The beginning. -/
theorem wpIn_region_round (S : World → Prop) (m : Nat) {id : Nat} {a : Act} {w : World} (hm : P.follows .mixedOrders = true) (hd : ops.all (fun o => !defers o) = true) (hS : S w.drew)
    (h : S w.drew → wpUpto P .any ops (AtEnd Q) S m ops.size (Array.replicate ops.size false) a w.drew) : (Code.region id ops true).wpIn (Fence.wide.inRound l) n P Q a w :=
  wpIn_mono (wpIn_region_any hm (anyIn_round (by rintro ⟨a, w, h⟩; exact h) hd (wpUpto.any (h hS)))) AtEnd.imp
end
end Go.Proofs.Ytchfiiiippnigaa
