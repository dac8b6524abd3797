/-
  Lists of turns, read: in blocks of S.
  Conditions: none.
-/
import Derived.Test.YtchfiiiippnigaaCut
import Derived.Test.YtchfiiiippnigaaRdT
import Derived.Test.YtchfiiiippnigaaTurnMath
namespace Go.Proofs.Ytchfiiiippnigaa
open Go.RowKit

/-- A turn's two cells. -/
def TnAt (S : Nat → Prop) (W : World) (b o : Nat) (x : Tn) : Prop :=
  ∃ A1 c1 A2 c2, W.cell? ⟨b, o, none⟩ = some (.slice A1 x.out.length c1) ∧ W.cell? ⟨b, o + 1, none⟩ = some (.slice A2 x.inn.length c2) ∧ RdT S W (.slice A1 x.out.length c1) (bv x.out) ∧ RdT S W (.slice A2 x.inn.length c2) (bv x.inn)
/-- A list of turns. -/
def TnsIn (S : Nat → Prop) (W : World) (v : Value) (l : List Tn) : Prop :=
  ∃ A c, v = .slice A l.length c ∧ l.length ≤ c ∧ (0 < l.length → ∃ b o, A = some ⟨b, o, none⟩ ∧ S b ∧ ∀ j x, l[j]? = some x → TnAt S W b (o + j * 2) x)
/-- A list of turns, anywhere. -/
abbrev Tns (W : World) (v : Value) (l : List Tn) : Prop := TnsIn (fun _ => True) W v l
section
variable {S T : Nat → Prop} {W W' : World} {v : Value} {l : List Tn} {b o : Nat} {x : Tn}
theorem TnAt.still (h : TnAt S W b o x) (hb : S b) (hs : Still S W W') : TnAt S W' b o x := by
  obtain ⟨A1, c1, A2, c2, h1, h2, r1, r2⟩ := h
  exact ⟨A1, c1, A2, c2, (World.cell?_of_block (a := ⟨b, o, none⟩) (hs.same b hb (World.block_lt_of_cell? W _ h1))).trans h1, (World.cell?_of_block (a := ⟨b, o + 1, none⟩) (hs.same b hb (World.block_lt_of_cell? W _ h2))).trans h2, r1.still hs, r2.still hs⟩
theorem TnAt.mono (h : TnAt S W b o x) (hT : ∀ b, S b → T b) : TnAt T W b o x := by
  obtain ⟨A1, c1, A2, c2, h1, h2, r1, r2⟩ := h
  exact ⟨A1, c1, A2, c2, h1, h2, r1.mono hT, r2.mono hT⟩
theorem TnsIn.still (h : TnsIn S W v l) (hs : Still S W W') : TnsIn S W' v l := by
  obtain ⟨A, c, e, hle, hr⟩ := h
  refine ⟨A, c, e, hle, fun hp => ?_⟩
  obtain ⟨b, o, eA, hb, hx⟩ := hr hp
  exact ⟨b, o, eA, hb, fun j x hj => (hx j x hj).still hb hs⟩
theorem TnsIn.mono (h : TnsIn S W v l) (hT : ∀ b, S b → T b) : TnsIn T W v l := by
  obtain ⟨A, c, e, hle, hr⟩ := h
  refine ⟨A, c, e, hle, fun hp => ?_⟩
  obtain ⟨b, o, eA, hb, hx⟩ := hr hp
  exact ⟨b, o, eA, hT _ hb, fun j x hj => (hx j x hj).mono hT⟩
theorem TnsIn.below (h : TnsIn S W v l) (hb : Below W.heap.size W W') : TnsIn S W' v l := h.still ⟨hb.size, fun b _ hl => hb.block b hl⟩
theorem TnsIn.any (h : TnsIn S W v l) : Tns W v l := h.mono fun _ _ => trivial
theorem TnsIn.drewN (h : TnsIn S W v l) (n : Nat) : TnsIn S (W.drewN n) v l := h
theorem TnsIn.form (h : TnsIn S W v l) : ∃ A c, v = .slice A l.length c ∧ l.length ≤ c := by
  obtain ⟨A, c, e, hle, _⟩ := h; exact ⟨A, c, e, hle⟩
theorem TnsIn.n {A : Option Addr} {n c : Nat} (h : TnsIn S W (.slice A n c) l) : n = l.length := by
  obtain ⟨A', c', e, _⟩ := h
  injection e
theorem TnsIn.nil (W : World) (A : Option Addr) (c : Nat) : TnsIn S W (.slice A 0 c) [] := ⟨A, c, rfl, by simp, fun h => by simp at h⟩
/-- Where the k-th turn lies. -/
theorem TnsIn.at_ {A : Option Addr} {n c k : Nat} (h : TnsIn S W (.slice A n c) l) (hk : k < l.length) :
    ∃ b o A1 c1 A2 c2, A = some ⟨b, o, none⟩ ∧ S b ∧ W.cell? ⟨b, o + k * 2, none⟩ = some (.slice A1 (l[k]).out.length c1) ∧ W.cell? ⟨b, o + k * 2 + 1, none⟩ = some (.slice A2 (l[k]).inn.length c2) ∧
      RdT S W (.slice A1 (l[k]).out.length c1) (bv (l[k]).out) ∧ RdT S W (.slice A2 (l[k]).inn.length c2) (bv (l[k]).inn) := by
  obtain ⟨A', c', e, _, hr⟩ := h
  injection e with e1 e2 e3
  subst e1 e2 e3
  obtain ⟨b, o, rfl, hb, hx⟩ := hr (by omega)
  obtain ⟨A1, c1, A2, c2, h1, h2, r1, r2⟩ := hx k _ (List.getElem?_eq_getElem hk)
  exact ⟨b, o, A1, c1, A2, c2, rfl, hb, h1, h2, r1, r2⟩
end
/-- Each byte of these turns. -/
def TnBytes (l : List Tn) : Prop := ∀ x ∈ l, (∀ b ∈ x.out, b < 256) ∧ ∀ b ∈ x.inn, b < 256
end Go.Proofs.Ytchfiiiippnigaa
