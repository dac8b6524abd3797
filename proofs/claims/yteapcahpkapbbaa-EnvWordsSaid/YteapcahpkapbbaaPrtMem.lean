/-
  Words and their parts in memory, read.
  Conditions: none.
-/
import Derived.Test.YteapcahpkapbbaaSlI
import Derived.Test.YteapcahpkapbbaaStrCat
import Derived.Test.YteapcahpkapbbaaPrt
namespace Go.Proofs.Yteapcahpkapbbaa
open Go.RowKit

def PrtAt : AtF Prt := fun _ W b o p => W.cell? ⟨b, o, none⟩ = some (.bool p.var) ∧ W.cell? ⟨b, o + 1, none⟩ = some (.string (str p.s))
def WrdAt : AtF Wrd := fun S W b o x => W.cell? ⟨b, o, none⟩ = some (.int .i64 x.at_) ∧ W.cell? ⟨b, o + 1, none⟩ = some (.int .i64 x.kind) ∧ ∃ v, W.cell? ⟨b, o + 2, none⟩ = some v ∧ SlI 2 PrtAt S W v x.parts
theorem prt_ok : AtF.Ok PrtAt := ⟨fun h => World.block_lt_of_cell? _ _ h.1, fun h hb hs => ⟨still_cell hs hb h.1, still_cell hs hb h.2⟩, fun h _ => h⟩
theorem wrd_ok : AtF.Ok WrdAt := ⟨fun h => World.block_lt_of_cell? _ _ h.1, fun h hb hs => by
    obtain ⟨h1, h2, v, h3, h4⟩ := h
    exact ⟨still_cell hs hb h1, still_cell hs hb h2, v, still_cell hs hb h3, h4.still prt_ok hs⟩, fun h hT => by
    obtain ⟨h1, h2, v, h3, h4⟩ := h
    exact ⟨h1, h2, v, h3, h4.fit prt_ok hT⟩⟩
abbrev Prts (S : Nat → Prop) (W : World) (v : Value) (l : List Prt) : Prop := SlI 2 PrtAt S W v l
abbrev Wrds (S : Nat → Prop) (W : World) (v : Value) (l : List Wrd) : Prop := SlI 3 WrdAt S W v l
end Go.Proofs.Yteapcahpkapbbaa
