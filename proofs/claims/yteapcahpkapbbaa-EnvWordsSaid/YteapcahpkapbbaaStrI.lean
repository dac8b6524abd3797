/-
  A row of strings that grows (StrsI), and what is handed out of it (StrsTo); when one string is ahead of another one.
  Conditions: none.
-/
import Derived.Test.YteapcahpkapbbaaEnMath
import Derived.Test.YteapcahpkapbbaaStrCat
namespace Go.Proofs.Yteapcahpkapbbaa
open Go.RowKit

theorem str_bytes (l : List Nat) : (str l).toList = l.map fun c => UInt8.ofNat c := by
  rw [ByteArray.toList_eq]
  unfold str
  rw [strOfNums_data, List.map_map]
  refine List.map_congr_left fun c _ => ?_
  simp
theorem less_str : ∀ {a b : List Nat}, (∀ c ∈ a, c < 256) → (∀ c ∈ b, c < 256) → Op.bytesLess (str a).toList (str b).toList = lessN a b := by
  intro a b ha hb
  rw [str_bytes, str_bytes]
  induction a generalizing b with
  | nil => cases b <;> rfl
  | cons x a ih =>
    cases b with
    | nil => rfl
    | cons y b =>
      have hx := ha x (by simp)
      have hy := hb y (by simp)
      have e1 : (UInt8.ofNat x < UInt8.ofNat y) = (x < y) := by rw [UInt8.lt_iff_toNat_lt]; simp; omega
      have e2 : (UInt8.ofNat x == UInt8.ofNat y) = decide (x = y) := by
        rw [Bool.eq_iff_iff, beq_iff_eq, decide_eq_true_eq]
        constructor
        · intro h; have := congrArg UInt8.toNat h; simp at this; omega
        · rintro rfl; rfl
      rw [List.map_cons, List.map_cons, Op.bytesLess, lessN, ih (fun c h => ha c (by simp [h])) (fun c h => hb c (by simp [h])), e2]
      simp only [e1]

/-- Strings as values. -/
def sv (l : List (List Nat)) : List Value := l.map fun s => .string (str s)
theorem sv_len (l : List (List Nat)) : (sv l).length = l.length := by simp [sv]
theorem sv_one (l : List (List Nat)) : ∀ u ∈ sv l, u.oneCell' = true := by
  intro u hu
  obtain ⟨s, _, rfl⟩ := List.mem_map.1 hu
  rfl
theorem sv_append (l m : List (List Nat)) : sv (l ++ m) = sv l ++ sv m := by simp [sv]
theorem sv_set (l : List (List Nat)) (i : Nat) (s : List Nat) : (sv l).set i (.string (str s)) = sv (l.set i s) := by simp [sv, List.map_set]
theorem sv_at {l : List (List Nat)} {i : Nat} {s : List Nat} (h : l[i]? = some s) : (sv l)[i]? = some (.string (str s)) := by simp [sv, h]
theorem str_info : (Try.prog.info? 9).map (fun i => (i.zero, i.size, i.bytes)) = some (some (.string ⟨#[]⟩), 1, 16) := by kernel_rfl

/-- A row of strings that grows. -/
def StrsI (w0 : World) (v : Value) (xs : List (List Nat)) (W : World) : Prop :=
  ∃ go, Row W 9 go v (sv xs) ∧ (∀ b, go = some b → w0.heap.size ≤ b) ∧ Below w0.heap.size w0 W
/-- Strings that are handed out in a row of their own. -/
def StrsTo (w : World) (xs : List (List Nat)) (e : Ending) (w' : World) : Prop := ∃ A c, e = .returned (.slice A xs.length c) ∧ StrsI w (.slice A xs.length c) xs w'
section
variable {w0 W W' : World} {v v' : Value} {xs ys : List (List Nat)}
theorem StrsI.form (h : StrsI w0 v xs W) : ∃ A c, v = .slice A xs.length c := by
  obtain ⟨go, hr, _⟩ := h
  obtain ⟨A, c, e⟩ := hr.form
  exact ⟨A, c, by rw [e, sv_len]⟩
theorem StrsI.nil (w : World) : StrsI w (.slice none 0 0) [] w := ⟨none, Row.nil w _, (fun b e => by cases e), Below.refl _ _⟩
theorem StrsI.drewN (h : StrsI w0 v xs W) (n : Nat) : StrsI w0 v xs (W.drewN n) := by
  obtain ⟨go, hr, hg, hb⟩ := h
  exact ⟨go, hr, hg, ⟨hb.os, hb.tape, hb.output, hb.size, hb.block⟩⟩
theorem StrsI.below (h : StrsI w0 v xs W) (hb' : Below W.heap.size W W') : StrsI w0 v xs W' := by
  obtain ⟨go, hr, hg, hb⟩ := h
  exact ⟨go, hr.below hb' (fun b e => hr.lt e), hg, hb.trans (hb'.mono hb.size)⟩
theorem StrsI.grown {go go' : Option Nat} (hg : ∀ b, go = some b → w0.heap.size ≤ b) (hb : Below w0.heap.size w0 W)
    (hr' : Row W' 9 go' v' (sv xs ++ sv ys)) (hgr : W.grownBy W' go) (hg' : go' = go ∨ go' = some W.heap.size) : StrsI w0 v' (xs ++ ys) W' := by
  refine ⟨go', by rw [sv_append]; exact hr', fun b e => ?_, hb.grown hgr hb.size hg⟩
  rcases hg' with rfl | rfl
  · exact hg b e
  · cases e; exact hb.size
/-- Where they lie. -/
theorem StrsI.at_ {A : Option Addr} {n c k : Nat} {s : List Nat} (h : StrsI w0 (.slice A n c) xs W) (hk : xs[k]? = some s) : ∃ b o, A = some ⟨b, o, none⟩ ∧ W.cell? ⟨b, o + k, none⟩ = some (.string (str s)) := by
  obtain ⟨go, hr, _⟩ := h
  obtain ⟨A', c', e, _, _, hx⟩ := hr.rd
  injection e with e1 e2 e3
  have hl := (List.getElem?_eq_some_iff.1 hk).1
  obtain ⟨b, o, e4, hc⟩ := hx (by rw [sv_len]; omega)
  exact ⟨b, o, by rw [e1, e4], hc k _ (sv_at hk)⟩
/-- A store into it. -/
theorem StrsI.set_ {b o n c k : Nat} (h : StrsI w0 (.slice (some ⟨b, o, none⟩) n c) xs W) (hk : k < xs.length) (s : List Nat) :
    StrsI w0 (.slice (some ⟨b, o, none⟩) n c) (xs.set k s) (W.setCell ⟨b, o + k, none⟩ (.string (str s))) ∧ W.frozen? ⟨b, o + k, none⟩ = false := by
  obtain ⟨go, hr, hg, hb⟩ := h
  obtain ⟨A', c', e, hle, hm, h1, hgg⟩ := hr
  injection e with e1 e2 e3
  rw [sv_len] at hle e2
  rcases hgg with ⟨e4, _⟩ | ⟨b', o', cs, hc, e5, e6, hcs, hfit, hx⟩
  · omega
  · rw [e6] at e1
    injection e1 with e1
    injection e1 with e7 e8 _
    subst e7 e8 e3
    have hblk : Blk W b 9 cs := hcs
    have hbb := hg b e5
    refine ⟨⟨go, ⟨_, c, by rw [sv_len, List.length_set, e2], by rw [sv_len, List.length_set]; exact hle, hm, sv_one _, .inr ⟨b, o, _, hc, e5, rfl, hblk.set_ (o + k) _, by simpa using hfit, fun j u hj => ?_⟩⟩, hg, ?_⟩, hblk.frozen _⟩
    · rw [← sv_set, List.getElem?_set] at hj
      rw [Array.getElem?_setIfInBounds]
      by_cases hjk : k = j
      · subst hjk
        rw [if_pos rfl, if_pos (by rw [sv_len]; exact hk)] at hj
        rw [if_pos rfl, if_pos (by omega)]
        exact hj
      · rw [if_neg hjk] at hj
        rw [if_neg (by omega)]
        exact hx j u hj
    · exact hb.trans ⟨rfl, rfl, rfl, by simp [World.setCell], fun i hi => Below.heap_setCell _ _ _ i (by show i ≠ b; omega)⟩
end
end Go.Proofs.Yteapcahpkapbbaa
