/-
  The document's Unquote.
  Conditions: at most 140737488351232 bytes.
-/
import Derived.Test.YtphmhglebeapaaaQRQ
namespace Go.Proofs.Ytphmhglebeapaaa
open Go.RowKit

/-- What Unquote tells. -/
def UnqTo (w : World) (l : List Nat) (e : Ending) (w' : World) : Prop :=
  ∃ A n c, e = .returned (.tuple #[.slice A n c, .int .i64 ((unquoteL l).2.1 : Nat), .int .i64 ((unquoteL l).2.2 : Nat)]) ∧ Rd w' (.slice A n c) (bv (unquoteL l).1) ∧ n = (unquoteL l).1.length ∧ Below w.heap.size w w'
theorem UnqTo.bad {w w' : World} {l : List Nat} {p e : Nat} (h : unquoteL l = ([], p, e)) (hb : Below w.heap.size w w') : UnqTo w l (.returned (.tuple #[.slice none 0 0, .int .i64 (p : Nat), .int .i64 (e : Nat)])) w' :=
  ⟨none, 0, 0, by rw [h], by rw [h]; exact (Row.nil w' 5).rd, by rw [h]; rfl, hb⟩
theorem UnqTo.good {w w' : World} {l out : List Nat} {A : Option Addr} {c : Nat} {g : Option Nat} (h : unquoteL l = (out, 0, 0)) (hr : RowAt w w' A c g out) : UnqTo w l (.returned (.tuple #[.slice A out.length c, .int .i64 0, .int .i64 0])) w' :=
  ⟨A, out.length, c, by rw [h]; rfl, by rw [h]; exact hr.1.rd, by rw [h], hr.2.2⟩

/-! ### One step of what is told -/
theorem unS_end {l : List Nat} {i : Nat} (hi : i = l.length) (out : List Nat) : unS (l.drop i) i out = ([], 0, 5) := by
  rw [hi, List.drop_length, unS]
theorem drop_cons {l : List Nat} {i c : Nat} (h : l[i]? = some c) : l.drop i = c :: l.drop (i + 1) := by
  have hlt := (List.getElem?_eq_some_iff.1 h).1
  rw [List.drop_eq_getElem_cons hlt, (List.getElem?_eq_some_iff.1 h).2]
theorem drop_nil {l : List Nat} {i : Nat} : l.drop (i + 1) = [] ↔ l.length ≤ i + 1 := List.drop_eq_nil_iff
theorem unS_close {l : List Nat} {i : Nat} (h : l[i]? = some 34) (out : List Nat) : unS (l.drop i) i out = if i + 1 = l.length then (out, 0, 0) else ([], i + 1, 4) := by
  have hlt := (List.getElem?_eq_some_iff.1 h).1
  rw [drop_cons h, unS, if_pos rfl]
  by_cases he : i + 1 = l.length
  · rw [if_pos (drop_nil.2 (by omega)), if_pos he]
  · rw [if_neg (fun e => by have := drop_nil.1 e; omega), if_neg he]
theorem unS_open {l : List Nat} {i : Nat} (h : l[i]? = some 91) (out : List Nat) : unS (l.drop i) i out = ([], i, 4) := by
  rw [drop_cons h, unS, if_neg (by omega), if_pos rfl]
theorem unS_name {l : List Nat} {i : Nat} (h : l[i]? = some 36) {d : Nat} (hd : l[i + 1]? = some d) (hn : nameB d = true) (out : List Nat) : unS (l.drop i) i out = ([], i, 4) := by
  rw [drop_cons h, unS, if_neg (by omega), if_neg (by omega), if_pos ⟨rfl, by rw [drop_cons hd]; exact hn⟩]
theorem unS_short {l : List Nat} {i : Nat} (h : l[i]? = some 92) (he : i + 1 = l.length) (out : List Nat) : unS (l.drop i) i out = ([], 0, 5) := by
  rw [drop_cons h, unS, if_neg (by omega), if_neg (by omega), if_neg (fun e => by omega), if_pos rfl, if_pos (drop_nil.2 (by omega))]
theorem unS_esc {l : List Nat} {i : Nat} (h : l[i]? = some 92) (he : i + 1 < l.length) (out : List Nat) : unS (l.drop i) i out = unS (l.drop (i + 1 + (escL (l.drop (i + 1))).2)) (i + 1 + (escL (l.drop (i + 1))).2) (out ++ [(escL (l.drop (i + 1))).1]) := by
  rw [drop_cons h, unS, if_neg (by omega), if_neg (by omega), if_neg (fun e => by omega), if_pos rfl, if_neg (fun e => by have := drop_nil.1 e; omega), List.drop_drop]
theorem unS_self {l : List Nat} {i c : Nat} (h : l[i]? = some c) (h1 : c ≠ 34) (h2 : c ≠ 91) (h3 : c ≠ 36 ∨ ∀ d, l[i + 1]? = some d → nameB d = false) (h4 : c ≠ 92) (out : List Nat) : unS (l.drop i) i out = unS (l.drop (i + 1)) (i + 1) (out ++ [c]) := by
  rw [drop_cons h, unS, if_neg h1, if_neg h2, if_neg, if_neg h4]
  rintro ⟨e, hn⟩
  rcases h3 with h3 | h3
  · exact h3 e
  · cases hd : l[i + 1]? with
    | none =>
      have : l.drop (i + 1) = [] := drop_nil.2 (by simpa using hd)
      rw [this] at hn; cases hn
    | some d =>
      rw [drop_cons hd] at hn
      have := h3 d hd
      simp [nameNext, this] at hn
theorem unq_start {l : List Nat} (h : l[0]? = some 34) : unquoteL l = unS (l.drop 1) 1 [] := by
  cases l with
  | nil => simp at h
  | cons c r => simp at h; subst h; rfl
theorem unq_other {l : List Nat} (h : l[0]? ≠ some 34) : unquoteL l = ([], 0, 4) := by
  cases l with
  | nil => rfl
  | cons c r => simp at h; simp [unquoteL, h]
end Go.Proofs.Ytphmhglebeapaaa
