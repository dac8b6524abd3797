/-
  Words and their parts, read out of the arguments.
  Conditions: none.
-/
import Derived.Test.YteapcahpkapbbaaPrtMem
import Derived.Test.YteapcahpkapbbaaSlArg
namespace Go.Proofs.Yteapcahpkapbbaa
open Go.RowKit

section
open Go.ChangeShapes Go.WideShapes Go.Deep
variable {H : Type} {enc : TypeId × Value → H} {W : World} {base : Nat} {sp : Nat → Bool} {held : Bool}
theorem prt_fields : ∃ f0 f1, Try.prog.underlying 57 = some (.struct #[f0, f1]) ∧ f0.offset = 0 ∧ f1.offset = 1 ∧ f0.type = 4 ∧ f1.type = 9 := ⟨_, _, Try.underlying57, rfl, rfl, rfl, rfl⟩
theorem wrd_fields : ∃ f0 f1 f2, Try.prog.underlying 33 = some (.struct #[f0, f1, f2]) ∧ f0.offset = 0 ∧ f1.offset = 1 ∧ f2.offset = 2 ∧ f0.type = 3 ∧ f1.type = 3 ∧ f2.type = 31 := ⟨_, _, _, Try.underlying33, rfl, rfl, rfl, rfl, rfl, rfl⟩
theorem cells_bool : Try.prog.cellsOf 4 = 1 := by kernel_rfl
theorem cells_str : Try.prog.cellsOf 9 = 1 := by kernel_rfl
theorem cells_int : Try.prog.cellsOf 3 = 1 := by kernel_rfl
theorem cells_prts : Try.prog.cellsOf 31 = 1 := by kernel_rfl
/-- How a part, a word is read. -/
def PrtRead (d : DataW H) (p : Prt) : Prop := ∃ a : DataW H, ∃ t : List UInt8, d = .agg [a, .lit (.string t)] ∧ t.length = p.s.length
def WrdRead (d : DataW H) (x : Wrd) : Prop := ∃ a b c : DataW H, d = .agg [a, b, c] ∧ LsRead PrtRead c x.parts
/-- What is known of what comes in: bytes, and lengths. -/
def PrtIn (p : Prt) : Prop := (∀ c ∈ p.s, c < 256) ∧ p.s.length ≤ maxLen
def WrdIn (x : Wrd) : Prop := (-9223372036854775808 ≤ x.kind ∧ x.kind ≤ 9223372036854775807) ∧ (∀ p ∈ x.parts, PrtIn p) ∧ x.parts.length ≤ maxLen
set_option maxRecDepth 100000 in
theorem prts_of_trod {fuel : Nat} {v : Value} {y : DataW H × List MemPlace} (h : DataW.trod enc Try.prog W base sp held fuel 31 [v] = some y) :
    ∃ l, Prts all W v l ∧ (∀ p ∈ l, PrtIn p) ∧ LsRead PrtRead y.1 l ∧ l.length ≤ maxLen := by
  refine sli_of_trod Try.underlying31 (by kernel_rfl) (fun a cs n y hcl hat ht => ?_) h
  obtain ⟨f0, f1, hf, o0, o1, t0, t1⟩ := prt_fields
  obtain ⟨ys, n', _, hy, hlen, hyl, hg⟩ := DataW.trod_struct hf ht
  have g0 := hg 0 f0 rfl
  have g1 := hg 1 f1 rfl
  rw [o0, t0, cells_bool] at g0
  rw [o1, t1, cells_str] at g1
  match cs, hcl with
  | [v0, v1], _ =>
    have c0 := hat 0 (by omega)
    have c1 := hat 1 (by omega)
    match ys, hyl with
    | [y0, y1], _ =>
      simp only [List.drop, List.take, List.getElem?_cons_zero, List.getElem?_cons_succ] at g0 g1 c0 c1
      obtain ⟨k, e0, _⟩ := DataW.trod_bool Try.underlying4 g0
      obtain ⟨s, e1, e2, hs⟩ := DataW.trod_string Try.underlying9 g1
      simp at e0 e1
      subst e0 e1
      obtain ⟨b, o, rfl⟩ := no_spot c0
      rw [add_eq] at c0 c1
      obtain ⟨l, rfl, hl, hll⟩ := str_of s
      refine ⟨b, o, rfl, ⟨k, l⟩, ⟨c0, c1⟩, ⟨hl, by rw [str_len] at hs; exact hs⟩, y0.1, (str l).data.toList, ?_, hll.symm⟩
      rw [hy, e2]; rfl
end
end Go.Proofs.Yteapcahpkapbbaa
