/-
  Rows of rows of bytes: read (Lists), and growing in memory of the call's own (ListsI).
  Conditions: none.
-/
import Derived.Test.YtialecghpekcnaaCut
import Derived.Test.YtialecghpekcnaaRdT
namespace Go.Proofs.Ytialecghpekcnaa
open Go.RowKit

/-- What holds of each. -/
def Each (P : Value → List Nat → Prop) : List Value → List (List Nat) → Prop
  | [], [] => True
  | v :: vs, l :: ll => P v l ∧ Each P vs ll
  | _, _ => False
theorem Each.len {P : Value → List Nat → Prop} : ∀ {vs : List Value} {ll : List (List Nat)}, Each P vs ll → vs.length = ll.length
  | [], [], _ => rfl
  | _ :: vs, _ :: ll, h => by rw [List.length_cons, List.length_cons, Each.len h.2]
theorem Each.mono {P Q : Value → List Nat → Prop} (hq : ∀ v l, P v l → Q v l) : ∀ {vs : List Value} {ll : List (List Nat)}, Each P vs ll → Each Q vs ll
  | [], [], _ => trivial
  | _ :: _, _ :: _, h => ⟨hq _ _ h.1, Each.mono hq h.2⟩
theorem Each.snoc {P : Value → List Nat → Prop} {v : Value} {l : List Nat} (hv : P v l) : ∀ {vs : List Value} {ll : List (List Nat)}, Each P vs ll → Each P (vs ++ [v]) (ll ++ [l])
  | [], [], _ => ⟨hv, trivial⟩
  | _ :: _, _ :: _, h => ⟨h.1, Each.snoc hv h.2⟩
theorem Each.append {P : Value → List Nat → Prop} {us : List Value} {mm : List (List Nat)} (hm : Each P us mm) : ∀ {vs : List Value} {ll : List (List Nat)}, Each P vs ll → Each P (vs ++ us) (ll ++ mm)
  | [], [], _ => hm
  | _ :: _, _ :: _, h => ⟨h.1, Each.append hm h.2⟩
theorem Each.take {P : Value → List Nat → Prop} : ∀ {k : Nat} {vs : List Value} {ll : List (List Nat)}, Each P vs ll → Each P (vs.take k) (ll.take k)
  | 0, _, _, _ => by rw [List.take_zero, List.take_zero]; trivial
  | _ + 1, [], [], _ => trivial
  | _ + 1, _ :: _, _ :: _, h => ⟨h.1, Each.take h.2⟩
theorem Each.get {P : Value → List Nat → Prop} : ∀ {vs : List Value} {ll : List (List Nat)}, Each P vs ll → ∀ (i : Nat) (h : i < ll.length), ∃ v, vs[i]? = some v ∧ P v ll[i]
  | [], [], _, i, h => by simp at h
  | v :: _, _ :: _, h, 0, _ => ⟨v, rfl, h.1⟩
  | _ :: _, _ :: _, h, i + 1, hi => by
    obtain ⟨v, h1, h2⟩ := Each.get h.2 i (by simpa using hi)
    exact ⟨v, by simpa using h1, h2⟩

/-- A slice of slices of bytes. -/
def Lists (w : World) (v : Value) (ll : List (List Nat)) : Prop :=
  ∃ vs, Rd w v vs ∧ Each (fun v l => ∃ A c, v = .slice A l.length c ∧ Rd w v (bv l)) vs ll
section
variable {w w' : World} {v : Value} {ll : List (List Nat)}
theorem Lists.kept (h : Lists w v ll) (hb : Below w.heap.size w w') : Lists w' v ll := by
  obtain ⟨vs, h1, h2⟩ := h
  exact ⟨vs, h1.kept hb, h2.mono fun v l h => by obtain ⟨A, c, e, hr⟩ := h; exact ⟨A, c, e, hr.kept hb⟩⟩
theorem Lists.drewN (h : Lists w v ll) (n : Nat) : Lists (w.drewN n) v ll := h
theorem Lists.form (h : Lists w v ll) : ∃ A c, v = .slice A ll.length c := by
  obtain ⟨vs, ⟨A, c, e, _⟩, h2⟩ := h
  exact ⟨A, c, by rw [e, h2.len]⟩
theorem Lists.n {A : Option Addr} {n c : Nat} (h : Lists w (.slice A n c) ll) : n = ll.length := by
  obtain ⟨A', c', e⟩ := h.form
  injection e
theorem Lists.at_ {A : Option Addr} {n c k : Nat} (h : Lists w (.slice A n c) ll) (hk : k < ll.length) :
    ∃ b o A' c', A = some ⟨b, o, none⟩ ∧ w.cell? ⟨b, o + k, none⟩ = some (.slice A' (ll[k]).length c') ∧ Rd w (.slice A' (ll[k]).length c') (bv ll[k]) := by
  obtain ⟨vs, h1, h2⟩ := h
  obtain ⟨u, hu, A', c', rfl, hr⟩ := h2.get k hk
  obtain ⟨A2, c2, e, _, _, hx0⟩ := h1
  injection e with e1 e2 e3
  subst e1 e2 e3
  obtain ⟨b, o, rfl, hx⟩ := hx0 (by rw [h2.len]; omega)
  exact ⟨b, o, A', c', rfl, hx k _ hu, hr⟩
end

/-- l[:k] of rows, under one name. -/
theorem list_info : (Try.prog.info? 22).map (fun i => (i.zero, i.size, i.bytes)) = some (some (.slice none 0 0), 1, 24) := by kernel_rfl
theorem run_upto_L {w : World} {A : Option Addr} {n c k : Nat} {ll : List (List Nat)} (h : Lists w (.slice A n c) ll) (hk : k ≤ n) :
    ∃ A', (∀ W, (Instr.slice 23 (.slice A n c) none (some (.int .i64 (k : Int))) none).run Try.prog W = .ok (.slice A' k c) W) ∧ Lists w (.slice A' k c) (ll.take k) := by
  obtain ⟨vs, h1, h2⟩ := h
  have hle := h1.le
  refine ⟨_, fun W => ?_, vs.take k, h1.upto hk, h2.take⟩
  obtain ⟨i0, hi0, hz0, hz1, hz2⟩ := info_parts list_info
  have hs : (sizeOf (Try.prog.elem 23)).run Try.prog W = .ok 1 W := by
    rw [show Try.prog.elem 23 = 22 by kernel_rfl]
    simp [sizeOf, typeInfo, hi0, hz1]
  rw [run_slice_h W 23 A n c (by kernel_rfl) .i64 (k : Int) (by omega) (by omega), hs]
  simp only [Result.andThen, Int.toNat_natCast, sliced, Nat.mul_one, Nat.sub_zero]

/-- A new slice of one thing. -/
theorem Rd.one (W : World) (e : TypeId) (u : Value) (h : u.oneCell' = true) : Rd (W.alloc (.cells #[u] e)) (.slice (some ⟨W.heap.size, 0, none⟩) 1 1) [u] := (Row.new W e #[u] 1 rfl (by simp only [maxLen]; omega) (by omega) (by simpa using h)).rd

/-- Rows that are gathered in memory of the call's own. -/
def ListsI (w0 : World) (v : Value) (ll : List (List Nat)) (W : World) : Prop :=
  ∃ go vs, Row W 22 go v vs ∧ (∀ b, go = some b → w0.heap.size ≤ b) ∧ Below w0.heap.size w0 W ∧ Each (fun v l => ∃ A c, v = .slice A l.length c ∧ RdT (fun b => go ≠ some b) W v (bv l)) vs ll
section
variable {w0 W W' : World} {v v' : Value} {ll : List (List Nat)}
theorem ListsI.nil (w : World) : ListsI w (.slice none 0 0) [] w := ⟨none, [], Row.nil w _, (fun b e => by cases e), Below.refl _ _, trivial⟩
theorem ListsI.form (h : ListsI w0 v ll W) : ∃ A c, v = .slice A ll.length c := by
  obtain ⟨go, vs, hr, _, _, he⟩ := h
  obtain ⟨A, c, e⟩ := hr.form
  exact ⟨A, c, by rw [e, he.len]⟩
theorem ListsI.lists (h : ListsI w0 v ll W) : Lists W v ll := by
  obtain ⟨go, vs, hr, _, _, he⟩ := h
  exact ⟨vs, hr.rd, he.mono fun v l h => by obtain ⟨A, c, e, h⟩ := h; exact ⟨A, c, e, h.1⟩⟩
theorem ListsI.bel (h : ListsI w0 v ll W) : Below w0.heap.size w0 W := by obtain ⟨_, _, _, _, h, _⟩ := h; exact h
theorem ListsI.below (h : ListsI w0 v ll W) (hb : Below W.heap.size W W') : ListsI w0 v ll W' := by
  obtain ⟨go, vs, hr, hg, hbel, he⟩ := h
  exact ⟨go, vs, hr.below hb (fun b e => hr.lt e), hg, hbel.trans (hb.mono hbel.size), he.mono fun v l h => by obtain ⟨A, c, e, h⟩ := h; exact ⟨A, c, e, h.below hb⟩⟩
theorem ListsI.drewN (h : ListsI w0 v ll W) (n : Nat) : ListsI w0 v ll (W.drewN n) := h.below ⟨rfl, rfl, rfl, Nat.le_refl _, fun _ _ => rfl⟩
/-- One more, of a row that was read ahead of the append. -/
theorem ListsI.grown {go go' : Option Nat} {vs : List Value} {A : Option Addr} {c : Nat} {l : List Nat} (hg : ∀ b, go = some b → w0.heap.size ≤ b) (hb : Below w0.heap.size w0 W)
    (he : Each (fun v l => ∃ A c, v = .slice A l.length c ∧ RdT (fun b => go ≠ some b) W v (bv l)) vs ll) (hnew : RdT (fun b => go ≠ some b) W (.slice A l.length c) (bv l))
    (hr' : Row W' 22 go' v' (vs ++ [.slice A l.length c])) (hgr : W.grownBy W' go) (hg' : go' = go ∨ go' = some W.heap.size) : ListsI w0 v' (ll ++ [l]) W' := by
  have hst : Still (fun b => go ≠ some b ∧ b < W.heap.size) W W' := ⟨hgr.size, fun b hb hl => hgr.block b hl fun e => hb.1 e.symm⟩
  have hup : ∀ v (l : List Nat), RdT (fun b => go ≠ some b) W v (bv l) → RdT (fun b => go' ≠ some b) W' v (bv l) := fun v l h => (h.bound.still hst).mono fun b hb e => by
    rcases hg' with rfl | rfl
    · exact hb.1 e
    · cases e; omega
  refine ⟨go', vs ++ [.slice A l.length c], hr', fun b e => ?_, hb.grown hgr hb.size hg, ?_⟩
  · rcases hg' with rfl | rfl
    · exact hg b e
    · cases e; exact hb.size
  · exact Each.snoc ⟨A, c, rfl, hup _ _ hnew⟩ (he.mono fun v l h => by obtain ⟨A, c, e, h⟩ := h; exact ⟨A, c, e, hup _ _ h⟩)
/-- More, of rows that lay ahead of the call. -/
theorem ListsI.more {go go' : Option Nat} {vs us : List Value} {mm : List (List Nat)} (hg : ∀ b, go = some b → w0.heap.size ≤ b) (hb : Below w0.heap.size w0 W)
    (he : Each (fun v l => ∃ A c, v = .slice A l.length c ∧ RdT (fun b => go ≠ some b) W v (bv l)) vs ll) (hm : Each (fun v l => ∃ A c, v = .slice A l.length c ∧ Rd w0 v (bv l)) us mm)
    (hr' : Row W' 22 go' v' (vs ++ us)) (hgr : W.grownBy W' go) (hg' : go' = go ∨ go' = some W.heap.size) : ListsI w0 v' (ll ++ mm) W' := by
  have hst : Still (fun b => go ≠ some b ∧ b < W.heap.size) W W' := ⟨hgr.size, fun b hb hl => hgr.block b hl fun e => hb.1 e.symm⟩
  have hup : ∀ v (l : List Nat), RdT (fun b => go ≠ some b) W v (bv l) → RdT (fun b => go' ≠ some b) W' v (bv l) := fun v l h => (h.bound.still hst).mono fun b hb e => by
    rcases hg' with rfl | rfl
    · exact hb.1 e
    · cases e; omega
  have hold : ∀ v (l : List Nat), Rd w0 v (bv l) → RdT (fun b => go ≠ some b) W v (bv l) := fun v l h => (h.old.below hb).mono fun b h1 e => by have := hg b e; omega
  refine ⟨go', vs ++ us, hr', fun b e => ?_, hb.grown hgr hb.size hg, ?_⟩
  · rcases hg' with rfl | rfl
    · exact hg b e
    · cases e; exact hb.size
  · exact Each.append (hm.mono fun v l h => by obtain ⟨A, c, e, h⟩ := h; exact ⟨A, c, e, hup _ _ (hold _ _ h)⟩) (he.mono fun v l h => by obtain ⟨A, c, e, h⟩ := h; exact ⟨A, c, e, hup _ _ h⟩)
/-- What lay ahead of the call is none of the row's block. -/
theorem ListsI.old {go : Option Nat} {v : Value} {xs : List Value} (hg : ∀ b, go = some b → w0.heap.size ≤ b) (hb : Below w0.heap.size w0 W) (h : Rd w0 v xs) : RdT (fun b => go ≠ some b) W v xs :=
  (h.old.below hb).mono fun b h1 e => by have := hg b e; omega
end

/-- Bytes that are gathered in memory of the call's own. -/
def BytI (w0 : World) (v : Value) (l : List Nat) (W : World) : Prop :=
  ∃ go, Row W 5 go v (bv l) ∧ (∀ b, go = some b → w0.heap.size ≤ b) ∧ Below w0.heap.size w0 W
theorem BytI.form {w0 W : World} {v : Value} {l : List Nat} (h : BytI w0 v l W) : ∃ A c, v = .slice A l.length c := by
  obtain ⟨go, hr, _⟩ := h
  obtain ⟨A, c, e⟩ := hr.form
  exact ⟨A, c, by rw [e, bv_len]⟩
theorem BytI.rd {w0 W : World} {v : Value} {l : List Nat} (h : BytI w0 v l W) : Rd W v (bv l) := by obtain ⟨go, hr, _⟩ := h; exact hr.rd
theorem BytI.bel {w0 W : World} {v : Value} {l : List Nat} (h : BytI w0 v l W) : Below w0.heap.size w0 W := by obtain ⟨_, _, _, h⟩ := h; exact h
theorem BytI.grown {w0 W W' : World} {v' : Value} {go go' : Option Nat} {l m : List Nat} (hg : ∀ b, go = some b → w0.heap.size ≤ b) (hb : Below w0.heap.size w0 W)
    (hr' : Row W' 5 go' v' (bv l ++ bv m)) (hgr : W.grownBy W' go) (hg' : go' = go ∨ go' = some W.heap.size) : BytI w0 v' (l ++ m) W' := by
  refine ⟨go', by rw [bv_append]; exact hr', fun b e => ?_, hb.grown hgr hb.size hg⟩
  rcases hg' with rfl | rfl
  · exact hg b e
  · cases e; exact hb.size
end Go.Proofs.Ytialecghpekcnaa
