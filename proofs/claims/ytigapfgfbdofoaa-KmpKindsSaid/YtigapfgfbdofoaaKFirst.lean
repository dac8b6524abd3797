/-
  kmp.First, of numbers: the first place, and whether there is one.
  Conditions: text and pattern of at most 4294967296 things.
-/
import Derived.Test.YtigapfgfbdofoaaKAll
namespace Go.Proofs.Ytigapfgfbdofoaa
open Go.RowKit Go.Shelf

attribute [local go_sem] Oper.semAt_some

/-- What First tells. -/
def FirstTo (w : World) (xs : List Nat) (e : Ending) (w' : World) : Prop := e = .returned (.tuple #[.int .i64 ((xs.headD 0 : Nat) : Int), .bool (!xs.isEmpty)]) ∧ Below w.heap.size w w'

/-- The two results' variables, before and behind the only round. -/
def Both (w : World) (T : Nat → Prop) (x : Int) (ok : Bool) (W : World) : Prop :=
  Blk W w.heap.size 3 #[.int .i64 x] ∧ Blk W (w.heap.size + 1) 4 #[.bool ok] ∧ ¬ T w.heap.size ∧ ¬ T (w.heap.size + 1) ∧ Below w.heap.size w W
theorem Both.only {w : World} {T T' : Nat → Prop} {B : Nat} {x : Int} {ok : Bool} {A C : World} (h : Both w T x ok A) (hB : w.heap.size ≤ B) (ho : Only (fun b => T b ∧ B ≤ b) A C) (ht : ∀ b, T' b → T b ∨ (A.heap.size ≤ b ∧ b < C.heap.size)) : Both w T' x ok C := by
  obtain ⟨h1, h2, t1, t2, hb⟩ := h
  have l2 := h2.lt
  refine ⟨h1.only ho (fun h => t1 h.1), h2.only ho (fun h => t2 h.1), fun h => (ht _ h).elim t1 (by omega), fun h => (ht _ h).elim t2 (by omega), hb.trans (ho.below hb.size fun i hi h => by omega)⟩

theorem Both.set {w W : World} {T : Nat → Prop} {x x' : Int} {ok ok' : Bool} (h : Both w T x ok W) :
    Both w T x' ok' ((W.setCell ⟨w.heap.size, 0, none⟩ (.int .i64 x')).setCell ⟨w.heap.size + 1, 0, none⟩ (.bool ok')) ∧
      Only (fun b => b = w.heap.size ∨ b = w.heap.size + 1) W ((W.setCell ⟨w.heap.size, 0, none⟩ (.int .i64 x')).setCell ⟨w.heap.size + 1, 0, none⟩ (.bool ok')) := by
  obtain ⟨h1, h2, t1, t2, hb⟩ := h
  have ho := ((Only.refl (fun b => b = w.heap.size ∨ b = w.heap.size + 1) W).setCell (p := ⟨w.heap.size, 0, none⟩) (.inl (.inl rfl)) (.int .i64 x')).setCell (p := ⟨w.heap.size + 1, 0, none⟩) (.inl (.inr rfl)) (.bool ok')
  refine ⟨⟨?_, ?_, t1, t2, hb.trans (ho.below hb.size fun i hi h => by omega)⟩, ho⟩
  · have := h1.set_ 0 (.int .i64 x')
    exact Blk.far (by simpa using this) (p := ⟨w.heap.size + 1, 0, none⟩) (by simp) _
  · have := (h2.far (p := ⟨w.heap.size, 0, none⟩) (by simp) (.int .i64 x')).set_ 0 (.bool ok')
    simpa using this
theorem Both.put {w W : World} {T : Nat → Prop} {x : Int} {ok : Bool} (h : Both w T x ok W) (D : Nat) (h0 : D ≠ w.heap.size) (h1 : D ≠ w.heap.size + 1) (o' : Obj) {z : Nat} (hz : w.heap.size ≤ z) (hD : z ≤ D) :
    Blk (W.putObj D o') w.heap.size 3 #[.int .i64 x] ∧ Blk (W.putObj D o') (w.heap.size + 1) 4 #[.bool ok] ∧ Below w.heap.size w (W.putObj D o') :=
  ⟨h.1.keep (World.putObj_heap_other (Ne.symm h0)), h.2.1.keep (World.putObj_heap_other (Ne.symm h1)), h.2.2.2.2.trans ((Only.putObj W D o').below h.2.2.2.2.size fun i hi h => by omega)⟩

set_option maxRecDepth 100000 in
set_option maxHeartbeats 2000000 in
theorem First_i (A B : Option Addr) (n c m d : Nat) (text p : List Int) (hlt : text.length ≤ 4294967296) (hlp : p.length ≤ 4294967296) (w : World) (ht : Rd w (.slice A n c) (iv text)) (hp : Rd w (.slice B m d) (iv p)) :
    Calls Try.prog 13 #[.slice A n c, .slice B m d] w (FirstTo w (places text p)) := by
  refine (callsIn_wide (n := 3)).1 ?_
  obtain ⟨w1, hw1⟩ : ∃ w1, w1 = (w.alloc (.cells #[.int .i64 0] 3)).alloc (.cells #[.bool false] 4) := ⟨_, rfl⟩
  have hb1 : Below w.heap.size w w1 := by rw [hw1]; exact ((Below.refl _ w).alloc (Nat.le_refl _) _).alloc (by simp) _
  have hz1 : w1.heap.size = w.heap.size + 2 := by rw [hw1]; simp
  have k1 : Blk w1 w.heap.size 3 #[.int .i64 0] := by rw [hw1]; exact (Blk.new w _ _).alloc _
  have k2 : Blk w1 (w.heap.size + 1) 4 #[.bool false] := by rw [hw1]; have := Blk.new (w.alloc (.cells #[.int .i64 0] 3)) 4 #[.bool false]; rwa [World.size_alloc] at this
  have HP := Lib.hid ((callsIn_wide (n := 2)).2 (places_i A B n c m d w1))
  have X1 := Lib.hid (And.intro hb1 (And.intro hz1 (And.intro k1 (And.intro k2 (And.intro ht hp)))))
  have HW := Lib.hid hw1
  clear hb1 hz1 k1 k2 ht hp hw1
  refine callsIn_of_wp_marks Try.func13 rfl trivial ?_ rfl
  simp only [Try.ntmps13, List.size_toArray, List.length_cons, List.length_nil, Nat.reduceAdd, Nat.reduceSub, Array.replicate_succ, Array.replicate_zero, List.push_toArray, List.append_toArray, List.nil_append, List.cons_append]
  gi_wp2_with fail
  rw [← HW.out]
  refine ⟨trivial, ?_⟩
  refine HP.out.mono ?_
  rintro e w2 ⟨Bp, Bt, rfl, h1, h2, hgp, hgt, hb2⟩
  have X2 : Hid (Keeps (fun b => b < w.heap.size ∨ (w.heap.size + 2 ≤ b ∧ b < w2.heap.size)) w2 Bp Bt (.slice B m d) (.slice A n c) text p ∧ Both w (fun b => b < w.heap.size ∨ (w.heap.size + 2 ≤ b ∧ b < w2.heap.size)) 0 false w2 ∧ w.heap.size ≤ w2.heap.size ∧ w.heap.size + 2 ≤ w2.heap.size) := by
    obtain ⟨hb1, hz1, k1, k2, ht, hp⟩ := X1.out
    have hb12 := hb1.trans (hb2.mono hb1.size)
    have hs2 := hb2.size
    refine Lib.hid ⟨⟨h1, h2, ((hp.old).below hb12).mono fun b h => .inl h, ((ht.old).below hb12).mono fun b h => .inl h, .inr ⟨by omega, h1.lt⟩, .inr ⟨by omega, h2.lt⟩⟩, ⟨k1.below hb2 (by omega), k2.below hb2 (by omega), by omega, by omega, hb12⟩, by omega, by omega⟩
  have HS := Lib.hid (places_T 2 (by omega) Bp Bt _ _ text p hlt hlp _ w2 X2.out.1)
  generalize places text p = xs at *
  clear h1 h2 hgp hgt hb2 HP X1 HW
  gi_wp2_with fail
  refine wpIn_rangeT rfl (by omega) (gf := 34) (lb := #[.pointer (some ⟨Bp, 0, none⟩), .pointer (some ⟨Bt, 0, none⟩)]) rfl trivial (enters_of Try.func34 (by kernel_rfl) rfl)
    (by rintro b (h | h) <;> have := X2.out.2.2 <;> omega) HS.out (Below.refl _ _) (fun _ => rfl)
    (fun T pre W => pre = [] ∧ Both w T 0 false W) (fun c T pre W => c = .ret ∧ ∃ x : Nat, pre = [x] ∧ Both w T x true W)
    (fun T T' s A C h ho ht => ⟨h.1, h.2.only X2.out.2.2.1 ho ht⟩) (fun c T T' s A C ⟨h1, x, h2, h3⟩ ho ht => ⟨h1, x, h2, h3.only X2.out.2.2.1 ho ht⟩) ⟨rfl, X2.out.2.1⟩
    (fun x _ a' _ => a' = { tmps := #[.slice A n c, .slice B m d, undef, undef, .pointer (some ⟨w.heap.size, 0, none⟩), .pointer (some ⟨w.heap.size + 1, 0, none⟩), .int .i64 ((x : Nat) : Int), .slice A n c, .slice B m d, .func (.func 34) #[] #[.pointer (some ⟨Bp, 0, none⟩), .pointer (some ⟨Bt, 0, none⟩)], .int .i64 (x : Int), undef], defers := [] })
    (fun x _ _ _ _ _ h _ _ => h) ?assign ?body ?done ?stop
  case assign =>
    intro l T pre x W K _ hI _ hK
    gi_wp2
    exact hK _ _ (Still.refl _ _) hI rfl
  case body =>
    rintro l T pre x _ W - - - hTl ⟨rfl, hI⟩ rfl hpl
    have c1 : W.cell? ⟨w.heap.size, 0, none⟩ = some (.int .i64 0) := hI.1.cell 0
    have c2 : W.cell? ⟨w.heap.size + 1, 0, none⟩ = some (.bool false) := hI.2.1.cell 0
    have f1 := hI.1.frozen 0
    have f2 := hI.2.1.frozen 0
    have Y := Lib.hid hI
    clear hI
    gi_wp2
    have hs := Both.set (x' := (x : Int)) (ok' := true) Y.out
    exact ⟨Still.of_only hs.2 (fun b _ hb h => by rcases h with rfl | rfl; exact Y.out.2.2.1 hb; exact Y.out.2.2.2.1 hb), rfl, x, rfl, hs.1⟩
  case done =>
    rintro D T ys W hD hTD rfl ⟨rfl, hI⟩ hK
    have c1 : W.cell? ⟨w.heap.size, 0, none⟩ = some (.int .i64 0) := hI.1.cell 0
    have c2 : W.cell? ⟨w.heap.size + 1, 0, none⟩ = some (.bool false) := hI.2.1.cell 0
    have f1 := hI.1.frozen 0
    have f2 := hI.2.1.frozen 0
    have Y := Lib.hid (And.intro hI hTD)
    clear hI hTD
    gi_wp2
    have hs := Both.set (x' := 0) (ok' := false) Y.out.1
    have hD0 : D ≠ w.heap.size := fun e => Y.out.1.2.2.1 (e ▸ Y.out.2)
    have hD1 : D ≠ w.heap.size + 1 := fun e => Y.out.1.2.2.2.1 (e ▸ Y.out.2)
    have hz := X2.out.2.2
    have hK2 : ((W.setCell ⟨w.heap.size, 0, none⟩ (.int .i64 0)).setCell ⟨w.heap.size + 1, 0, none⟩ (.bool false)).heap[D]? = some (.deferred (some [])) := (Below.heap_setCell _ _ _ D hD1).trans ((Below.heap_setCell W _ _ D hD0).trans hK)
    generalize (W.setCell ⟨w.heap.size, 0, none⟩ (.int .i64 0)).setCell ⟨w.heap.size + 1, 0, none⟩ (.bool false) = W2 at hs hK2 ⊢
    have hs2 := hs.1.put D hD0 hD1 (.deferred none) hz.1 hD
    refine ⟨by simp, .inl ⟨_, _, rfl, run_takeDeferred hK2, ?_⟩⟩
    generalize W2.putObj D (.deferred none) = W3 at hs2 ⊢
    have d1 : W3.cell? ⟨w.heap.size, 0, none⟩ = some (.int .i64 0) := hs2.1.cell 0
    have d2 : W3.cell? ⟨w.heap.size + 1, 0, none⟩ = some (.bool false) := hs2.2.1.cell 0
    exact ⟨.tuple #[.int .i64 0, .bool false], by simp [results, Try.results13, go_sem, d1, d2], rfl, hs2.2.2⟩
  case stop =>
    rintro D _ T _ W hD hTD hpre ⟨rfl, x, rfl, hI⟩ hK
    have c1 : W.cell? ⟨w.heap.size, 0, none⟩ = some (.int .i64 (x : Int)) := hI.1.cell 0
    have c2 : W.cell? ⟨w.heap.size + 1, 0, none⟩ = some (.bool true) := hI.2.1.cell 0
    have Y := Lib.hid (And.intro hI (And.intro hTD hpre))
    clear hI hTD hpre
    gi_wp2
    have hD0 : D ≠ w.heap.size := fun e => Y.out.1.2.2.1 (e ▸ Y.out.2.1)
    have hD1 : D ≠ w.heap.size + 1 := fun e => Y.out.1.2.2.2.1 (e ▸ Y.out.2.1)
    have hz := X2.out.2.2
    have hs2 := Y.out.1.put D hD0 hD1 (.deferred none) hz.1 hD
    obtain ⟨ys, rfl⟩ := Y.out.2.2
    refine ⟨by simp, .inl ⟨_, _, rfl, run_takeDeferred hK, ?_⟩⟩
    generalize W.putObj D (.deferred none) = W3 at hs2 ⊢
    have d1 : W3.cell? ⟨w.heap.size, 0, none⟩ = some (.int .i64 (x : Int)) := hs2.1.cell 0
    have d2 : W3.cell? ⟨w.heap.size + 1, 0, none⟩ = some (.bool true) := hs2.2.1.cell 0
    exact ⟨.tuple #[.int .i64 (x : Int), .bool true], by simp [results, Try.results13, go_sem, d1, d2], rfl, hs2.2.2⟩
end Go.Proofs.Ytigapfgfbdofoaa
