/-
  Words and their parts, as plain lists of bytes.
  Conditions: none.
-/
import Derived.Below
namespace Go.Proofs.Yteapcahpkapbbaa

/-- A part: a text, or a variable's name; a word. -/
structure Prt where
  var : Bool
  s : List Nat
structure Wrd where
  at_ : Int
  kind : Int
  parts : List Prt
theorem Prt.ext_ {a b : Prt} (h1 : a.var = b.var) (h2 : a.s = b.s) : a = b := by cases a; cases b; simp_all
end Go.Proofs.Yteapcahpkapbbaa
