/-
  The document's Escape.
  Conditions: s is at most 281474976710656 bytes.
-/
import Derived.Test.YteapcahpkapbbaaQRef
import Derived.WalkKit
import Derived.Deep.DeepCutAuto
import Derived.Deep.CutBlock
namespace Go.Proofs.Yteapcahpkapbbaa
open Go.RowKit

theorem str_at {l : List Nat} (hl : ∀ c ∈ l, c < 256) {k : Nat} {d : Nat} (h : l[k]? = some d) : ∃ hk : k < (str l).size, ((str l)[k]'hk).toNat = d := by
  have hlt := (List.getElem?_eq_some_iff.1 h).1
  refine ⟨by rw [str_len]; exact hlt, ?_⟩
  have hd := hl d (List.mem_of_getElem? h)
  have e : (str l).data.toList[k]? = some (UInt8.ofNat d) := by
    unfold str
    rw [strOfNums_data, List.map_map, List.getElem?_map, h]
    simp
  have e2 : (str l).data[k]? = some (UInt8.ofNat d) := by rw [← Array.getElem?_toList]; exact e
  have hk : k < (str l).data.size := (Array.getElem?_eq_some_iff.1 e2).1
  have e3 := (Array.getElem?_eq_some_iff.1 e2).2
  show ((str l).data[k]'hk).toNat = d
  rw [e3]
  simp; omega

/-- What Escape tells. -/
def EscTo (l : List Nat) (z : Int) (w : World) (e : Ending) (w' : World) : Prop :=
  e = .returned (.tuple #[.int .u8 ((escape l z).1 : Nat), .int .i64 ((escape l z).2.1 : Nat), .int .i64 ((escape l z).2.2 : Nat)]) ∧ w = w'

theorem digs_none {n x : Nat} {r : List Nat} (h : n = 0 ∨ r = [] ∨ ∃ d t, r = d :: t ∧ octd d = false) : digs n x r = (x, 0) := by
  cases n with
  | zero => rfl
  | succ n =>
    rcases h with h | rfl | ⟨d, t, rfl, hd⟩
    · omega
    · rfl
    · simp [digs, hd]
theorem digs_one {n x d : Nat} {t : List Nat} (hd : octd d = true) : digs (n + 1) x (d :: t) = ((digs n (8 * x + (d - 48)) t).1, (digs n (8 * x + (d - 48)) t).2 + 1) := by simp [digs, hd]
/-- Behind n digits that tell x. -/
def Dug (r : List Nat) (n x : Nat) : Prop := n ≤ 3 ∧ n ≤ r.length ∧ x < 8 ^ n ∧ digs 3 0 r = ((digs (3 - n) x (r.drop n)).1, n + (digs (3 - n) x (r.drop n)).2)
theorem Dug.start (r : List Nat) : Dug r 0 0 := ⟨by omega, by omega, by simp, by simp⟩
theorem Dug.small {r : List Nat} {n x : Nat} (h : Dug r n x) : x ≤ 511 := by
  have h1 := h.2.2.1
  have h2 := h.1
  match n, h2 with
  | 0, _ => simp at h1; omega
  | 1, _ => simp at h1; omega
  | 2, _ => simp at h1; omega
  | 3, _ => simp at h1; omega
theorem Dug.next {r : List Nat} {n x d : Nat} (h : Dug r n x) (hn : n < 3) (hd : r[n]? = some d) (ho : octd d = true) : Dug r (n + 1) (8 * x + (d - 48)) := by
  obtain ⟨h1, h2, h3, h4⟩ := h
  have hlt := (List.getElem?_eq_some_iff.1 hd).1
  have e : r.drop n = d :: r.drop (n + 1) := by rw [List.drop_eq_getElem_cons hlt]; rw [(List.getElem?_eq_some_iff.1 hd).2]
  refine ⟨by omega, by omega, ?_, ?_⟩
  · simp only [octd, decide_eq_true_eq] at ho
    rw [Nat.pow_succ]; omega
  · rw [h4, e, show 3 - n = (3 - (n + 1)) + 1 by omega, digs_one ho]
    dsimp only
    rw [show n + ((digs (3 - (n + 1)) (8 * x + (d - 48)) (r.drop (n + 1))).2 + 1) = n + 1 + (digs (3 - (n + 1)) (8 * x + (d - 48)) (r.drop (n + 1))).2 by omega]
theorem Dug.last {r : List Nat} {n x : Nat} (h : Dug r n x) (hs : n = 3 ∨ n = r.length ∨ ∃ d, r[n]? = some d ∧ octd d = false) : digs 3 0 r = (x, n) := by
  obtain ⟨h1, h2, h3, h4⟩ := h
  rw [h4, digs_none]
  · rfl
  · rcases hs with h | h | ⟨d, hd, ho⟩
    · left; omega
    · right; left; rw [h]; simp
    · right; right
      have hlt := (List.getElem?_eq_some_iff.1 hd).1
      exact ⟨d, r.drop (n + 1), by rw [List.drop_eq_getElem_cons hlt, (List.getElem?_eq_some_iff.1 hd).2], ho⟩
theorem escape_at {l : List Nat} {k : Nat} (hk : k + 1 < l.length) (h : l[k]? = some 92) : escape l (k : Int) = ((escL (l.drop (k + 1))).1, k + 1 + (escL (l.drop (k + 1))).2, 0) := by
  unfold escape
  rw [Int.toNat_natCast, if_pos ⟨by omega, by omega, h⟩, if_neg (by omega)]
theorem escL_some {r : List Nat} {n x : Nat} (h : digs 3 0 r = (x, n)) (h0 : 0 < n) : escL r = (x % 256, n) := by
  unfold escL; rw [h]; dsimp only; rw [if_neg (by omega)]
theorem escL_zero {r : List Nat} {x : Nat} (h : digs 3 0 r = (x, 0)) {d : Nat} (hd : r[0]? = some d) : escL r = (letter d, 1) := by
  unfold escL; rw [h]; dsimp only; rw [if_pos rfl]
  cases r with
  | nil => simp at hd
  | cons a r => simp at hd; subst hd; rfl

end Go.Proofs.Yteapcahpkapbbaa
