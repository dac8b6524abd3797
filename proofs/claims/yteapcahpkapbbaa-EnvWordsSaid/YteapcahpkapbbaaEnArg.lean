/-
  The acts of layer 16's laws (a kind, a name, a value, a word) in memory, as they are read out of the arguments.
  Conditions: none.
-/
import Derived.Test.YteapcahpkapbbaaPrtArg
namespace Go.Proofs.Yteapcahpkapbbaa
open Go.RowKit

/-- An act. -/
structure EAct where
  kind : Int
  name : List Nat
  value : List Nat
  w : Wrd
def EActAt : AtF EAct := fun S W b o x => W.cell? ⟨b, o, none⟩ = some (.int .i64 x.kind) ∧ W.cell? ⟨b, o + 1, none⟩ = some (.string (str x.name)) ∧ W.cell? ⟨b, o + 2, none⟩ = some (.string (str x.value)) ∧
  W.cell? ⟨b, o + 3, none⟩ = some (.int .i64 x.w.at_) ∧ W.cell? ⟨b, o + 4, none⟩ = some (.int .i64 x.w.kind) ∧ ∃ v, W.cell? ⟨b, o + 5, none⟩ = some v ∧ SlI 2 PrtAt S W v x.w.parts
theorem eact_ok : AtF.Ok EActAt := ⟨fun h => World.block_lt_of_cell? _ _ h.1, fun h hb hs => by
    obtain ⟨h1, h2, h3, h4, h5, v, h6, h7⟩ := h
    exact ⟨still_cell hs hb h1, still_cell hs hb h2, still_cell hs hb h3, still_cell hs hb h4, still_cell hs hb h5, v, still_cell hs hb h6, h7.still prt_ok hs⟩, fun h hT => by
    obtain ⟨h1, h2, h3, h4, h5, v, h6, h7⟩ := h
    exact ⟨h1, h2, h3, h4, h5, v, h6, h7.fit prt_ok hT⟩⟩
abbrev EActs (S : Nat → Prop) (W : World) (v : Value) (l : List EAct) : Prop := SlI 6 EActAt S W v l
def StrIn (s : List Nat) : Prop := (∀ c ∈ s, c < 256) ∧ s.length ≤ maxLen
def PartsIn (ps : List Prt) : Prop := (∀ p ∈ ps, PrtIn p) ∧ ps.length ≤ maxLen
def EActIn (x : EAct) : Prop := StrIn x.name ∧ StrIn x.value ∧ PartsIn x.w.parts

section
open Go.ChangeShapes Go.WideShapes Go.Deep
variable {H : Type} {enc : TypeId × Value → H} {W : World} {base : Nat} {sp : Nat → Bool} {held : Bool}
theorem eact_fields : ∃ f0 f1 f2 f3, Try.prog.underlying 35 = some (.struct #[f0, f1, f2, f3]) ∧ f0.offset = 0 ∧ f1.offset = 1 ∧ f2.offset = 2 ∧ f3.offset = 3 ∧ f0.type = 3 ∧ f1.type = 9 ∧ f2.type = 9 ∧ f3.type = 33 :=
  ⟨_, _, _, _, Try.underlying35, rfl, rfl, rfl, rfl, rfl, rfl, rfl, rfl⟩
theorem cells_word : Try.prog.cellsOf 33 = 3 := by kernel_rfl
/-- How an act is read. -/
def EActRead (d : DataW H) (x : EAct) : Prop := ∃ a b c e : DataW H, d = .agg [a, b, c, e] ∧ WrdRead e x.w
/-- A word's three cells. -/
theorem word_of_trod {fuel : Nat} {v0 v1 v2 : Value} {y : DataW H × List MemPlace} (h : DataW.trod enc Try.prog W base sp held fuel 33 [v0, v1, v2] = some y) :
    ∃ a k ps, v0 = .int .i64 a ∧ v1 = .int .i64 k ∧ Prts all W v2 ps ∧ PartsIn ps ∧ WrdRead y.1 ⟨a, k, ps⟩ := by
  obtain ⟨f0, f1, f2, hf, o0, o1, o2, t0, t1, t2⟩ := wrd_fields
  obtain ⟨ys, n', _, hy, hlen, hyl, hg⟩ := DataW.trod_struct hf h
  have g0 := hg 0 f0 rfl
  have g1 := hg 1 f1 rfl
  have g2 := hg 2 f2 rfl
  rw [o0, t0, cells_int] at g0
  rw [o1, t1, cells_int] at g1
  rw [o2, t2, cells_prts] at g2
  match ys, hyl with
  | [y0, y1, y2], _ =>
    simp only [List.drop, List.take, List.getElem?_cons_zero, List.getElem?_cons_succ] at g0 g1 g2
    obtain ⟨k, e0, _, _⟩ := DataW.trod_int Try.underlying3 g0
    obtain ⟨kd, e1, _, hw⟩ := DataW.trod_int Try.underlying3 g1
    obtain ⟨ps, h1, h2, h3, h4⟩ := prts_of_trod g2
    simp at e0 e1
    refine ⟨k, kd, ps, e0, e1, h1, ⟨h2, h4⟩, y0.1, y1.1, y2.1, ?_, h3⟩
    rw [hy]; rfl
set_option maxRecDepth 100000 in
theorem eacts_of_trod {fuel : Nat} {v : Value} {y : DataW H × List MemPlace} (h : DataW.trod enc Try.prog W base sp held fuel 22 [v] = some y) :
    ∃ l, EActs all W v l ∧ (∀ p ∈ l, EActIn p) ∧ LsRead EActRead y.1 l ∧ l.length ≤ maxLen := by
  refine sli_of_trod Try.underlying22 (show Try.prog.cellsOf 35 = 6 by kernel_rfl) (fun a cs n y hcl hat ht => ?_) h
  obtain ⟨f0, f1, f2, f3, hf, o0, o1, o2, o3, t0, t1, t2, t3⟩ := eact_fields
  obtain ⟨ys, n', _, hy, hlen, hyl, hg⟩ := DataW.trod_struct hf ht
  have g0 := hg 0 f0 rfl
  have g1 := hg 1 f1 rfl
  have g2 := hg 2 f2 rfl
  have g3 := hg 3 f3 rfl
  rw [o0, t0, cells_int] at g0
  rw [o1, t1, cells_str] at g1
  rw [o2, t2, cells_str] at g2
  rw [o3, t3, cells_word] at g3
  match cs, hcl with
  | [v0, v1, v2, v3, v4, v5], _ =>
    have c0 := hat 0 (by omega)
    have c1 := hat 1 (by omega)
    have c2 := hat 2 (by omega)
    have c3 := hat 3 (by omega)
    have c4 := hat 4 (by omega)
    have c5 := hat 5 (by omega)
    match ys, hyl with
    | [y0, y1, y2, y3], _ =>
      simp only [List.drop, List.take, List.getElem?_cons_zero, List.getElem?_cons_succ] at g0 g1 g2 g3 c0 c1 c2 c3 c4 c5
      obtain ⟨k, e0, _, _⟩ := DataW.trod_int Try.underlying3 g0
      obtain ⟨s1, e1, _, m1⟩ := DataW.trod_string Try.underlying9 g1
      obtain ⟨s2, e2, _, m2⟩ := DataW.trod_string Try.underlying9 g2
      obtain ⟨wa, wk, ps, e3, e4, hp, hpi, hrd⟩ := word_of_trod g3
      simp at e0 e1 e2
      subst e0 e1 e2 e3 e4
      obtain ⟨b, o, rfl⟩ := no_spot c0
      rw [add_eq] at c0 c1 c2 c3 c4 c5
      obtain ⟨l1, rfl, q1, _⟩ := str_of s1
      obtain ⟨l2, rfl, q2, _⟩ := str_of s2
      rw [str_len] at m1 m2
      refine ⟨b, o, rfl, ⟨k, l1, l2, ⟨wa, wk, ps⟩⟩, ⟨c0, c1, c2, c3, c4, v5, c5, hp⟩, ⟨⟨q1, m1⟩, ⟨q2, m2⟩, hpi⟩, y0.1, y1.1, y2.1, y3.1, ?_, hrd⟩
      rw [hy]; rfl
end
end Go.Proofs.Yteapcahpkapbbaa
