/-
  What a branch looks with, in memory, and what makes it; regions that draw their order.
  Conditions: those of each theorem.
-/
import Derived.Deep.RegionHeld3
import Derived.Test.YtcipljpalohjiaaDoorMtMath
import Derived.Test.YtcipljpalohjiaaDoorKmpMath
import Derived.Test.YtcipljpalohjiaaDoorMtA
import Derived.Test.YtcipljpalohjiaaDoorKByte
import Derived.Test.YtcipljpalohjiaaDoorMtB
import Derived.Test.YtcipljpalohjiaaDoorGlRLike
import Derived.Lib.ConvBytes
import Derived.Laws.AppendOwn
namespace Go.Proofs.YtcipljpalohjiaaDoor
section
variable {P : Program} {ops : Array Oper} {Q : Exit → Act → World → Prop} {md : Region.Mode} {S : World → Prop} {m : Nat}

/-- Whatever order is picked; S holds behind each operation but number m. -/
def wpUpto (P : Program) (md : Region.Mode) (ops : Array Oper) (Q : Exit → Act → World → Prop) (S : World → Prop) (m : Nat) : Nat → Array Bool → Act → World → Prop
  | 0, l, a, w => Region.ready md ops l = [] ∧ Q .normal a w
  | n + 1, l, a, w => (Region.ready md ops l = [] → Q .normal a w) ∧ ∀ i ∈ Region.ready md ops l, wpOp P ops Q i (fun a' w' => (i ≠ m → S w') ∧ wpUpto P md ops Q S m n (l.setIfInBounds i true) a' w') a w

theorem wpUpto.any : ∀ {n : Nat} {l : Array Bool} {a : Act} {w : World}, wpUpto P md ops Q S m n l a w → wpAny P md ops Q n l a w
  | 0, _, _, _, h => h
  | _ + 1, _, _, _, h => ⟨h.1, fun i hi => wpOp_mono (fun _ _ hx => wpUpto.any hx.2) (h.2 i hi)⟩

/-- Operation m waits for operation i. -/
def waitsFor (md : Region.Mode) (ops : Array Oper) (m i : Nat) : Bool :=
  match ops[m]? with
  | none => false
  | some o => o.after.any fun e => Region.binds md e && e.on == i

theorem not_ready {l : Array Bool} {i : Nat} (hw : waitsFor md ops m i = true) (hi : l.getD i true = false) : m ∉ Region.ready md ops l := by
  intro hm
  obtain ⟨_, o, ho, hall⟩ := mem_ready.1 hm
  unfold waitsFor at hw
  rw [ho] at hw
  obtain ⟨e, he, hb⟩ := Array.any_eq_true'.1 hw
  simp only [Bool.and_eq_true, beq_iff_eq] at hb
  have h1 := hall e he hb.1
  rw [hb.2] at h1
  rcases Nat.lt_or_ge i l.size with h | h
  · simp [h] at hi h1
    rw [hi] at h1
    cases h1
  · simp [Array.getElem?_eq_none h] at h1

theorem wpUpto.first {i : Nat} {o : Oper} {v : Value} (hi : ops[i]? = some o) (hw : waitsFor md ops m i = true) (hsel : Region.noSelect ops = true) (hQ : ∀ c a w, Q (.panic c) (a.put o.dst v) w → Q (.panic c) a w) :
    ∀ (n : Nat) (l : Array Bool) (a : Act) (w : World), (∀ j oj, ops[j]? = some oj → j ≠ i → l.getD j true = false → (∀ e ∈ oj.after, Region.binds md e = true → e.on ≠ i) → o.apart ops oj = true) →
      i ∈ Region.ready md ops l → YieldsIf P ops S o v a → S w → wpUpto P md ops Q S m n (l.setIfInBounds i true) (a.put o.dst v) w → wpUpto P md ops Q S m (n + 1) l a w := by
  intro n
  induction n with
  | zero =>
    intro l a w _ hr hy hS H
    refine ⟨fun h => absurd (h ▸ hr) (by simp), fun j hj => ?_⟩
    by_cases hji : j = i
    · rw [hji]; exact hy.wpOp hi hS ⟨fun _ => hS, hji ▸ H⟩
    · exact absurd (H.1 ▸ ready_mono hj hji) (by simp)
  | succ n ih =>
    intro l a w hfree hr hy hS H
    refine ⟨fun h => absurd (h ▸ hr) (by simp), fun j hj => ?_⟩
    by_cases hji : j = i
    · rw [hji]; exact hy.wpOp hi hS ⟨fun _ => hS, hji ▸ H⟩
    · have hun : l.getD i true = false := (mem_ready.1 hr).1
      have hjm : j ≠ m := fun e => not_ready (m := m) hw hun (e ▸ hj)
      obtain ⟨hju, oj, hoj, hall⟩ := mem_ready.1 hj
      have hno : ∀ e ∈ oj.after, Region.binds md e = true → e.on ≠ i := fun e he hb heq => by
        have h1 := hall e he hb
        rw [heq] at h1
        rcases Nat.lt_or_ge i l.size with h | h
        · simp [h] at hun h1; rw [hun] at h1; cases h1
        · simp [Array.getElem?_eq_none h] at h1
      have hstep := wpOp_putIf hoj (hfree j oj hoj hji hju hno) (fun cs b => Region.noSelect_spec hsel i o cs b hi) (fun cs b => Region.noSelect_spec hsel j oj cs b hoj) hQ hy (H.2 j (ready_mono hj hji))
      refine wpOp_mono (fun a' w' hx => ⟨hx.2.1, ih (l.setIfInBounds j true) a' w' (fun k ok hk hki hku hkn => hfree k ok hk hki ?_ hkn) (ready_mono hr (Ne.symm hji)) hx.1 (hx.2.1 hjm) ?_⟩) hstep
      · by_cases hjk : j = k
        · rw [← hjk]; exact hju
        · rw [getD_set_ne true hjk] at hku; exact hku
      · rw [Array.setIfInBounds_comm _ _ hji]; exact hx.2.2

/-- Number i is taken first; the operation comes as a letter with its equation. -/
theorem wpUpto.take (i : Nat) {n : Nat} {l : Array Bool} {a : Act} {w : World} (hw : waitsFor md ops m i = true) (hsel : Region.noSelect ops = true) (hf : Region.free md ops l i = true) (hr : (Region.ready md ops l).contains i = true) (hS : S w)
    (h : ∀ o, ops[i]? = some o → ∃ v, (∀ c a w, Q (.panic c) (a.put o.dst v) w → Q (.panic c) a w) ∧ YieldsIf P ops S o v a ∧ wpUpto P md ops Q S m n (l.setIfInBounds i true) (a.put o.dst v) w) : wpUpto P md ops Q S m (n + 1) l a w := by
  have hr' : i ∈ Region.ready md ops l := by simpa using hr
  obtain ⟨_, o, ho, _⟩ := mem_ready.1 hr'
  obtain ⟨v, hQ, hy, hx⟩ := h o ho
  exact wpUpto.first ho hw hsel hQ n l a w (Region.free_spec ho hf) hr' hy hS hx

/-- One alone may come up: behind it S is shown anew. -/
theorem wpUpto.one (i : Nat) {n : Nat} {l : Array Bool} {a : Act} {w : World} (hr : Region.ready md ops l = [i])
    (h : ∀ o, ops[i]? = some o → ∀ K : Act → World → Prop, Shut (∀ a w, S w → (S w → wpUpto P md ops Q S m n (l.setIfInBounds i true) a w) → K a w) → if Region.wanted o (yielded ops a.tmps) = true then Oper.wp P o a w K Q else K (a.put o.dst undef) w) :
    wpUpto P md ops Q S m (n + 1) l a w := by
  refine ⟨fun h0 => absurd (hr ▸ h0) (by simp), fun j hj => ?_⟩
  obtain ⟨_, o, ho, _⟩ := mem_ready.1 hj
  rw [hr] at hj
  obtain rfl := List.mem_singleton.1 hj
  exact wpOp_step ho fun K hK => h o ho K (fun a w hS hx => hK a w ⟨fun _ => hS, hx hS⟩)

/-- The last one alone may come up. -/
theorem wpUpto.last {n : Nat} {l : Array Bool} {a : Act} {w : World} (hr : Region.ready md ops l = [m])
    (h : ∀ o, ops[m]? = some o → ∀ K : Act → World → Prop, Shut (∀ a w, wpUpto P md ops Q S m n (l.setIfInBounds m true) a w → K a w) → if Region.wanted o (yielded ops a.tmps) = true then Oper.wp P o a w K Q else K (a.put o.dst undef) w) :
    wpUpto P md ops Q S m (n + 1) l a w := by
  refine ⟨fun h0 => absurd (hr ▸ h0) (by simp), fun j hj => ?_⟩
  obtain ⟨_, o, ho, _⟩ := mem_ready.1 hj
  rw [hr] at hj
  obtain rfl := List.mem_singleton.1 hj
  exact wpOp_step ho fun K hK => h o ho K (fun a w hx => hK a w ⟨fun hne => absurd rfl hne, hx⟩)

theorem wpUpto.done {l : Array Bool} {a : Act} {w : World} (hr : Region.ready md ops l = []) (h : Q .normal a w) : ∀ n, wpUpto P md ops Q S m n l a w
  | 0 => ⟨hr, h⟩
  | _ + 1 => ⟨fun _ => h, by rw [hr]; simp⟩

/-- The beginning. -/
theorem wp_region_upto (S : World → Prop) (m : Nat) {id : Nat} {a : Act} {w : World} (hm : P.follows .mixedOrders = true) (hS : S w.drew)
    (h : S w.drew → wpUpto P .any ops Q S m ops.size (Array.replicate ops.size false) a w.drew) : (Code.region id ops true).wp P Q a w :=
  wp_region_any hm (wpUpto.any (h hS))
end
end Go.Proofs.YtcipljpalohjiaaDoor
namespace Go.Proofs.YtcipljpalohjiaaDoor
section
variable {P : Program} {ops : Array Oper} {Q : Exit → Act → World → Prop} {md : Region.Mode} {S : World → Prop} {m : Nat}

theorem wpUpto.firstAll {i : Nat} {o : Oper} {v : Value} (hi : ops[i]? = some o) (hw : ops[m]? = none) (hsel : Region.noSelect ops = true) (hQ : ∀ c a w, Q (.panic c) (a.put o.dst v) w → Q (.panic c) a w) :
    ∀ (n : Nat) (l : Array Bool) (a : Act) (w : World), (∀ j oj, ops[j]? = some oj → j ≠ i → l.getD j true = false → (∀ e ∈ oj.after, Region.binds md e = true → e.on ≠ i) → o.apart ops oj = true) →
      i ∈ Region.ready md ops l → YieldsIf P ops S o v a → S w → wpUpto P md ops Q S m n (l.setIfInBounds i true) (a.put o.dst v) w → wpUpto P md ops Q S m (n + 1) l a w := by
  intro n
  induction n with
  | zero =>
    intro l a w _ hr hy hS H
    refine ⟨fun h => absurd (h ▸ hr) (by simp), fun j hj => ?_⟩
    by_cases hji : j = i
    · rw [hji]; exact hy.wpOp hi hS ⟨fun _ => hS, hji ▸ H⟩
    · exact absurd (H.1 ▸ ready_mono hj hji) (by simp)
  | succ n ih =>
    intro l a w hfree hr hy hS H
    refine ⟨fun h => absurd (h ▸ hr) (by simp), fun j hj => ?_⟩
    by_cases hji : j = i
    · rw [hji]; exact hy.wpOp hi hS ⟨fun _ => hS, hji ▸ H⟩
    · have hun : l.getD i true = false := (mem_ready.1 hr).1
      have hjm : j ≠ m := fun e => by
        obtain ⟨_, o', ho', _⟩ := mem_ready.1 hj
        rw [e, hw] at ho'
        cases ho'
      obtain ⟨hju, oj, hoj, hall⟩ := mem_ready.1 hj
      have hno : ∀ e ∈ oj.after, Region.binds md e = true → e.on ≠ i := fun e he hb heq => by
        have h1 := hall e he hb
        rw [heq] at h1
        rcases Nat.lt_or_ge i l.size with h | h
        · simp [h] at hun h1; rw [hun] at h1; cases h1
        · simp [Array.getElem?_eq_none h] at h1
      have hstep := wpOp_putIf hoj (hfree j oj hoj hji hju hno) (fun cs b => Region.noSelect_spec hsel i o cs b hi) (fun cs b => Region.noSelect_spec hsel j oj cs b hoj) hQ hy (H.2 j (ready_mono hj hji))
      refine wpOp_mono (fun a' w' hx => ⟨hx.2.1, ih (l.setIfInBounds j true) a' w' (fun k ok hk hki hku hkn => hfree k ok hk hki ?_ hkn) (ready_mono hr (Ne.symm hji)) hx.1 (hx.2.1 hjm) ?_⟩) hstep
      · by_cases hjk : j = k
        · rw [← hjk]; exact hju
        · rw [getD_set_ne true hjk] at hku; exact hku
      · rw [Array.setIfInBounds_comm _ _ hji]; exact hx.2.2

/-- Number i is taken first; the operation comes as a letter with its equation. -/
theorem wpUpto.takeAll (i : Nat) {n : Nat} {l : Array Bool} {a : Act} {w : World} (hw : ops[m]? = none) (hsel : Region.noSelect ops = true) (hf : Region.free md ops l i = true) (hr : (Region.ready md ops l).contains i = true) (hS : S w)
    (h : ∀ o, ops[i]? = some o → ∃ v, (∀ c a w, Q (.panic c) (a.put o.dst v) w → Q (.panic c) a w) ∧ YieldsIf P ops S o v a ∧ wpUpto P md ops Q S m n (l.setIfInBounds i true) (a.put o.dst v) w) : wpUpto P md ops Q S m (n + 1) l a w := by
  have hr' : i ∈ Region.ready md ops l := by simpa using hr
  obtain ⟨_, o, ho, _⟩ := mem_ready.1 hr'
  obtain ⟨v, hQ, hy, hx⟩ := h o ho
  exact wpUpto.firstAll ho hw hsel hQ n l a w (Region.free_spec ho hf) hr' hy hS hx

end
end Go.Proofs.YtcipljpalohjiaaDoor
namespace Go.Proofs.YtcipljpalohjiaaDoor

theorem ends_at {b p : List Nat} {e : Nat} (he : e ≤ b.length) : endsB (b.take e) p = true ↔ p.length ≤ e ∧ At b p (e - p.length) := by
  unfold endsB At
  rw [List.length_take, Nat.min_eq_left he, Bool.and_eq_true, decide_eq_true_eq, decide_eq_true_eq]
  constructor
  · rintro ⟨h1, h2⟩
    refine ⟨h1, by omega, by omega, ?_⟩
    rw [List.drop_take, show e - (e - p.length) = p.length by omega] at h2
    exact h2
  · rintro ⟨h1, _, _, h2⟩
    refine ⟨h1, ?_⟩
    rw [List.drop_take, show e - (e - p.length) = p.length by omega]
    exact h2
theorem hit_exact {n : Nat} {b p : List Nat} {e : Nat} (he : e ≤ b.length) : hitS (n : Nat) (b.take e) [⟨0, p⟩] = if p.length ≤ n ∧ p.length ≤ e ∧ At b p (e - p.length) then some (0, e - p.length) else none := by
  rw [hitS, hitFrom, fromS, if_pos rfl]
  by_cases h : p.length ≤ n ∧ p.length ≤ e ∧ At b p (e - p.length)
  · rw [if_pos h, if_pos ⟨by have := h.1; dsimp only; omega, (ends_at he).2 h.2⟩, List.length_take, Nat.min_eq_left he]
  · rw [if_neg h, if_neg fun h2 => h ⟨by have := h2.1; dsimp only at this; omega, (ends_at he).1 h2.2⟩]
    rfl
theorem places_head {b p : List Nat} {a : Nat} {t : List Nat} (h : places b p = a :: t) : At b p a ∧ ∀ j, j < a → ¬ At b p j := by
  have h2 : ((List.range (b.length + 1)).filter (fun i => decide (At b p i))).head? = some a := by
    show (places b p).head? = _
    rw [h]; rfl
  rw [List.head?_filter, List.find?_range_eq_some] at h2
  exact ⟨of_decide_eq_true h2.1, fun j hj => by have := h2.2.2 j hj; simpa using this⟩
theorem places_none {b p : List Nat} (h : places b p = []) : ∀ j, ¬ At b p j := fun j hj => by
  have h2 : j ∈ places b p := List.mem_filter.2 ⟨List.mem_range.2 (by have := hj.1; omega), decide_eq_true hj⟩
  rw [h] at h2; cases h2
/-- An exact pattern alone is hit first where its first place ends, if it is no longer than may be. -/
theorem exact_first (n : Nat) (b p : List Nat) : firstHit (n : Nat) b [⟨0, p⟩] = if n < p.length then none else (places b p).head?.map fun a => (0, a, a + p.length) := by
  split
  · exact first_no fun k hk => by rw [hit_exact hk, if_neg (by omega)]
  · cases hp : places b p with
    | nil => exact first_no fun k hk => by rw [hit_exact hk, if_neg fun h => places_none hp _ h.2.2]
    | cons a t =>
      obtain ⟨h1, h2⟩ := places_head hp
      have hb := h1.1
      have hc := h1.2.1
      refine first_is (i := 0) (f := a) (e := a + p.length) (by omega) ?_ fun k hk => ?_
      · rw [hit_exact (by omega), if_pos ⟨by omega, by omega, by rw [Nat.add_sub_cancel]; exact h1⟩, Nat.add_sub_cancel]
      · rw [hit_exact (by omega), if_neg]
        rintro ⟨_, h3, h4⟩
        exact h2 _ (by omega) h4
/-- The same over numbers. -/
theorem at_int {b p : List Nat} {i : Nat} : At (b.map fun c => ((c : Nat) : Int)) (p.map fun c => ((c : Nat) : Int)) i ↔ At b p i := by
  unfold At
  rw [List.length_map, List.length_map, ← List.map_drop, ← List.map_take]
  have inj : ∀ (x y : List Nat), (x.map fun c => ((c : Nat) : Int)) = (y.map fun c => ((c : Nat) : Int)) ↔ x = y := fun x y => by
    constructor
    · intro h
      induction x generalizing y with
      | nil => cases y with
        | nil => rfl
        | cons d y => cases h
      | cons c x ih => cases y with
        | nil => cases h
        | cons d y =>
          rw [List.map_cons, List.map_cons] at h
          injection h with h1 h2
          rw [Int.ofNat.inj h1, ih y h2]
    · rintro rfl; rfl
  rw [inj]
theorem places_int (b p : List Nat) : places (b.map fun c => ((c : Nat) : Int)) (p.map fun c => ((c : Nat) : Int)) = places b p := by
  unfold places
  rw [List.length_map]
  congr 1
  funext i
  exact decide_eq_decide.2 at_int
end Go.Proofs.YtcipljpalohjiaaDoor
namespace Go.Proofs.YtcipljpalohjiaaDoor
open Go.RowKit

/-- The bytes b are asked for: none, or one more than came. -/
def NextOk (came : Option (List Nat)) (b : List Nat) (c : Nat) : Prop := b = [] ∨ ∃ b0, came = some b0 ∧ b = b0 ++ [c]
/-- What a look tells, and leaves. -/
def LookTo (T : Thing) (n : Nat) (x : Brc) (b : List Nat) (F : Nat → Prop) (w : World) (e : Ending) (w' : World) : Prop :=
  ∃ z : Int, e = .returned (.tuple #[.int .i64 z, .bool (fromS (n : Nat) b x).isSome]) ∧ (∀ f, fromS (n : Nat) b x = some f → z = (f : Nat)) ∧ Turned T F w w'

/-! ### Never -/
def NevT (v : Value) (x : Brc) (n : Nat) : Thing := fun F W => (∀ b, F b → b < W.heap.size) ∧ v = .func (.func 47) #[] #[] ∧ (x.kind = 2 ∨ x.kind = 3 ∨ x.kind = 0 ∧ n < x.pat.length)
theorem nev_framed (v : Value) (x : Brc) (n : Nat) : Framed (NevT v x n) :=
  ⟨fun h ho _ => ⟨fun b hb => Nat.lt_of_lt_of_le (h.1 b hb) ho.size, h.2⟩, fun h => h.1⟩
theorem NevT.from {F : Nat → Prop} {W : World} {v : Value} {x : Brc} {n : Nat} (h : NevT v x n F W) (b : List Nat) : fromS (n : Nat) b x = none := by
  unfold fromS
  rcases h.2.2 with h | h | ⟨h, h2⟩
  · rw [if_neg (by omega), if_neg (by omega)]
  · rw [if_neg (by omega), if_neg (by omega)]
  · rw [if_pos h, if_neg (fun k => by omega)]
set_option maxRecDepth 100000 in
set_option maxHeartbeats 1000000 in
theorem nev_call {F : Nat → Prop} {w : World} {v : Value} {x : Brc} {n : Nat} (h : NevT v x n F w) (came : Int) (c : Nat) (b : List Nat) :
    Calls Tryd.prog 47 #[.int .i64 came, .int .u8 (c : Nat)] w (LookTo (NevT v x n) n x b F w) := by
  have H := Lib.hid h
  clear h
  go_enter Tryd.func47, Tryd.ntmps47
  go_wp2
  go_ret2
  refine ⟨0, ?_, fun f hf => ?_, Turned.refl H.out⟩
  · rw [H.out.from b]; rfl
  · rw [H.out.from b] at hf; cases hf

/-! ### A text itself -/
section
variable {T : Nat → Prop} {w : World} {q k : Nat} {p : List Int}
theorem Reset_b (h : SAtB T w q p k) : Calls Tryd.prog 35 #[.pointer (some ⟨q, 0, none⟩)] w fun e w' => e = .returned (.tuple #[]) ∧ SAtB T w' q p 0 ∧ Only (fun b => b = q) w w' := by
  have H := Lib.hid h
  obtain ⟨A, c, gp, gb, h1, -⟩ := h
  have c2 : w.cell? ⟨q, 2, none⟩ = some (.int .i64 (k : Int)) := h1.cell 2
  have f2 := h1.frozen 2
  clear h1
  go_enter Tryd.func35, Tryd.ntmps35
  go_wp2
  go_end0
  exact ⟨rfl, H.out.set_ 0⟩
end
def SrT (q : Nat) (p : List Int) (k : Nat) : Thing := fun F W => (∀ b, F b → b < W.heap.size) ∧ SAtB F W q p k
theorem sr_framed (q : Nat) (p : List Int) (k : Nat) : Framed (SrT q p k) :=
  ⟨fun h ho hd => ⟨fun b hb => Nat.lt_of_lt_of_le (h.1 b hb) ho.size, h.2.only ho hd⟩, fun h => h.1⟩
def ExK (sb pb q : Nat) (p : List Nat) : Thing := fun F W => (∀ b, F b → b < W.heap.size) ∧ F sb ∧ F pb ∧ Blk W sb 73 #[.pointer (some ⟨q, 0, none⟩)] ∧ Blk W pb 9 #[.string (str p)]
theorem exK_framed (sb pb q : Nat) (p : List Nat) : Framed (ExK sb pb q p) :=
  ⟨fun h ho hd => ⟨fun b hb => Nat.lt_of_lt_of_le (h.1 b hb) ho.size, h.2.1, h.2.2.1, h.2.2.2.1.only ho (hd _ h.2.1), h.2.2.2.2.only ho (hd _ h.2.2.1)⟩, fun h => h.1⟩
def exV (sb pb : Nat) : Value := .func (.func 34) #[] #[.pointer (some ⟨sb, 0, none⟩), .pointer (some ⟨pb, 0, none⟩)]
structure ExF (v : Value) (x : Brc) (n : Nat) (came : Option (List Nat)) (sb pb q k : Nat) (F : Nat → Prop) (W : World) : Prop where
  val : v = exV sb pb
  kind : x.kind = 0
  len : x.pat.length ≤ n
  byt : ∀ c ∈ x.pat, c < 256
  at_ : ∀ b, came = some b → k = longest (ni b) (ni x.pat)
  it : Star (ExK sb pb q x.pat) (SrT q (ni x.pat) k) F W
def ExT (v : Value) (x : Brc) (n : Nat) (came : Option (List Nat)) : Thing := fun F W => ∃ sb pb q k, ExF v x n came sb pb q k F W
theorem ex_framed (v : Value) (x : Brc) (n : Nat) (came : Option (List Nat)) : Framed (ExT v x n came) := by
  have f := fun sb pb q p k => Star.framed (exK_framed sb pb q p) (sr_framed q (ni x.pat) k)
  constructor
  · rintro F S w w' ⟨sb, pb, q, k, h⟩ ho hd
    exact ⟨sb, pb, q, k, { h with it := (f _ _ _ _ _).only h.it ho hd }⟩
  · rintro F w ⟨sb, pb, q, k, h⟩; exact (f _ _ _ _ _).lt h.it
/-- The bytes end with a text just if the longest beginning of it that they end with is all of it. -/
theorem ends_longest (b p : List Nat) : endsB b p = decide (longest (ni b) (ni p) = p.length) := by
  rw [Bool.eq_iff_iff, decide_eq_true_eq]
  have e : endsB (b.take b.length) p = true ↔ _ := ends_at (Nat.le_refl b.length)
  rw [List.take_of_length_le (Nat.le_refl _)] at e
  rw [e]
  have hlen : (ni p).length = p.length := ni_len p
  have hlb : (ni b).length = b.length := ni_len b
  constructor
  · rintro ⟨h1, h2⟩
    have h3 := (at_int (b := b) (p := p)).2 h2
    have h4 := (at_ends (text := ni b) (p := ni p) (i := b.length - p.length) (by rw [hlen, hlb]; omega)).1 h3
    rw [hlen, show b.length - p.length + p.length = b.length by omega, List.take_of_length_le (by rw [hlb]; omega)] at h4
    exact h4
  · intro h
    have h1 := (longest_suf (ni b) (ni p)).2.1
    rw [h, hlb] at h1
    refine ⟨h1, (at_int (b := b) (p := p)).1 ((at_ends (text := ni b) (p := ni p) (i := b.length - p.length) (by rw [hlen, hlb]; omega)).2 ?_)⟩
    rw [hlen, show b.length - p.length + p.length = b.length by omega, List.take_of_length_le (by rw [hlb]; omega)]
    exact h
theorem from_exact {n : Nat} {b : List Nat} {x : Brc} (hk : x.kind = 0) (hl : x.pat.length ≤ n) : fromS (n : Nat) b x = if longest (ni b) (ni x.pat) = x.pat.length then some (b.length - x.pat.length) else none := by
  unfold fromS
  rw [if_pos hk, ends_longest]
  by_cases h : longest (ni b) (ni x.pat) = x.pat.length
  · rw [if_pos h, if_pos ⟨by omega, decide_eq_true h⟩]
  · rw [if_neg h, if_neg (fun k => h (of_decide_eq_true k.2))]
set_option maxRecDepth 100000 in
set_option maxHeartbeats 2000000 in
theorem ex_call {F : Nat → Prop} {w : World} {v : Value} {x : Brc} {n : Nat} {came : Option (List Nat)} {sb pb q k : Nat} (h : ExF v x n came sb pb q k F w) (c : Nat) (b : List Nat) (hb : NextOk came b c) (hm : b.length ≤ 1099511627776) (hn : n ≤ 1048576) :
    Calls Tryd.prog 34 #[.int .i64 (b.length : Nat), .int .u8 (c : Nat), .pointer (some ⟨sb, 0, none⟩), .pointer (some ⟨pb, 0, none⟩)] w (LookTo (ExT v x n (some b)) n x b F w) := by
  have H := Lib.hid h
  obtain ⟨A, B, hs⟩ := h.it
  have HS := Lib.hid hs
  have cs : w.cell? ⟨sb, 0, none⟩ = some (.pointer (some ⟨q, 0, none⟩)) := hs.fst.2.2.2.1.cell 0
  have hsz := str_len x.pat
  have hlen := h.len
  have step : Hid (∀ (w1 : World) (k' : Nat), k' = longest (ni b) (ni x.pat) → SAtB B w1 q (ni x.pat) k' → Only (fun d => d = q) w w1 → Turned (ExT v x n (some b)) F w w1 ∧ w1.cell? ⟨pb, 0, none⟩ = some (.string (str x.pat))) := Lib.hid fun w1 k' hk hsa ho => by
    have hq : B q := HS.out.snd.2.own
    have hoB : Only B w w1 := ho.mono (fun i _ e => by subst e; exact hq)
    have t : Turned (SrT q (ni x.pat) k') B w w1 := ⟨B, ⟨fun d hd => Nat.lt_of_lt_of_le (HS.out.snd.1 d hd) ho.size, hsa⟩, hoB, fun _ => .inl⟩
    have t2 := HS.out.right (exK_framed _ _ _ _) t
    refine ⟨t2.imp fun G hg => ⟨sb, pb, q, k', { H.out with at_ := fun b' e => by cases e; exact hk, it := hg }⟩, ?_⟩
    exact (HS.out.fst.2.2.2.2.only hoB (HS.out.ap pb HS.out.fst.2.2.1)).cell 0
  have HFX := Lib.hid (from_exact (n := n) (b := b) H.out.kind H.out.len)
  rcases hb with rfl | ⟨b0, hb0, rfl⟩
  · have HR := Lib.hid (Reset_b hs.snd.2)
    have kz : (((([] : List Nat).length : Nat) : Int) == 0) = true := rfl
    clear h hs
    go_enter Tryd.func34, Tryd.ntmps34
    go_wp2_with fail
    refine HR.out.mono ?_
    rintro e w1 ⟨rfl, hsa, ho⟩
    obtain ⟨ht, cp⟩ := step.out w1 0 (longest_nil _).symm hsa ho
    have HT := Lib.hid ht
    have kq : ((str x.pat).toList == []) = decide (x.pat = []) := by
      have := str_beq (m := []) H.out.byt (by simp)
      rw [show (str []).toList = [] by rw [ByteArray.toList_eq]; rfl] at this
      exact this
    obtain ⟨r, hr⟩ : ∃ r, decide (x.pat = []) = r := ⟨_, rfl⟩
    rw [hr] at kq
    have HQ := Lib.hid hr
    clear ht ho hsa hr cs
    go_wp2_with fail
    go_quiet (fail)
    go_wp2_with fail
    go_ret2
    have e0 : (fromS (n : Nat) [] x) = if x.pat = [] then some 0 else none := by
      rw [HFX.out, show longest (ni []) (ni x.pat) = 0 from longest_nil _]
      by_cases hp : x.pat = []
      · rw [if_pos hp, if_pos (by rw [hp]; rfl), hp]; rfl
      · rw [if_neg hp, if_neg (fun h => hp (List.eq_nil_of_length_eq_zero h.symm))]
    refine ⟨0, ?_, fun f hf => ?_, HT.out.keep (ex_framed _ _ _ _) ⟨rfl, rfl, rfl, Nat.le_refl _, fun _ _ => rfl⟩⟩
    · rw [e0, ← HQ.out]
      by_cases hp : x.pat = []
      · simp [hp]
      · simp [hp]
    · rw [e0] at hf
      split at hf
      · cases hf; rfl
      · cases hf
  · obtain ⟨m, hmm⟩ : ∃ m, (b0 ++ [c]).length = m := ⟨_, rfl⟩
    have hm0 : 1 ≤ m := by rw [← hmm]; simp
    have kz : ((m : Int) == 0) = false := beq_eq_false_iff_ne.2 (by omega)
    have hmb : m ≤ 1099511627776 := by rw [← hmm]; exact hm
    have hsa := hs.snd.2
    rw [H.out.at_ b0 hb0] at hsa
    have HFD := Lib.hid (Feed_atb (ni b0) (c : Int) hsa (by rw [ni_len]; omega))
    rw [← ni_snoc] at HFD
    obtain ⟨r, hr⟩ : ∃ r, decide (longest (ni (b0 ++ [c])) (ni x.pat) = (ni x.pat).length) = r := ⟨_, rfl⟩
    have HQ := Lib.hid hr
    have HMM := Lib.hid hmm
    rw [hmm]
    clear h hs hsa hr hb0 hm hmm
    go_enter Tryd.func34, Tryd.ntmps34
    go_wp2_with fail
    refine HFD.out.mono ?_
    rintro e w1 ⟨rfl, hsa, ho⟩
    obtain ⟨ht, cp⟩ := step.out w1 _ rfl hsa ho
    have HT := Lib.hid ht
    rw [HQ.out]
    clear ht ho hsa cs
    go_wp2_with fail
    go_ret2
    have hq := HQ.out
    rw [ni_len] at hq
    have hfx := HFX.out
    rw [HMM.out] at hfx
    have hle := (longest_suf (ni (b0 ++ [c])) (ni x.pat)).2.1
    rw [ni_len, HMM.out] at hle
    refine ⟨(m : Int) - (x.pat.length : Int), ?_, fun f hf => ?_, HT.out⟩
    · rw [hfx, ← hq]
      by_cases hp : longest (ni (b0 ++ [c])) (ni x.pat) = x.pat.length
      · simp [hp]
      · simp [hp]
    · rw [hfx] at hf
      split at hf
      · rename_i hp
        cases hf
        omega
      · cases hf
theorem NextOk.one (b : List Nat) (c : Nat) : NextOk (some b) (b ++ [c]) c := .inr ⟨b, rfl, rfl⟩

/-! ### A pattern without a star -/
def RowK (tb mb a g n : Nat) (L : List VT) : Thing := fun F W => F tb ∧ F mb ∧ Blk W tb 85 #[.pointer (some ⟨a, 0, none⟩)] ∧ Blk W mb 3 #[.int .i64 (n : Nat)] ∧ TrRo a g L F W
theorem rowK_framed (tb mb a g n : Nat) (L : List VT) : Framed (RowK tb mb a g n L) :=
  ⟨fun h ho hd => ⟨h.1, h.2.1, h.2.2.1.only ho (hd _ h.1), h.2.2.2.1.only ho (hd _ h.2.1), (trRo_framed _ _ _).only h.2.2.2.2 ho hd⟩, fun h => h.2.2.2.2.1⟩
def rowV (tb mb : Nat) : Value := .func (.func 57) #[] #[.pointer (some ⟨tb, 0, none⟩), .pointer (some ⟨mb, 0, none⟩)]
structure RowF (v : Value) (x : Brc) (n : Nat) (came : Option (List Nat)) (tb mb a g : Nat) (L : List VT) (z : Nat → Int) (F : Nat → Prop) (W : World) : Prop where
  val : v = rowV tb mb
  kind : x.kind = 1
  few : L.length ≤ 1024
  thg : thingsS x.pat = some (L.map Prod.snd)
  sng : ∀ t ∈ L.map Prod.snd, t.any = false
  at_ : ∀ b, came = some b → ∀ i, i ≤ L.length → z i = lastS ((L.map Prod.snd).take i) b
  it : Star (RowK tb mb a g n L) (TrMu g L z) F W
def RowT (v : Value) (x : Brc) (n : Nat) (came : Option (List Nat)) : Thing := fun F W => ∃ tb mb a g L z, RowF v x n came tb mb a g L z F W
theorem row_framed (v : Value) (x : Brc) (n : Nat) (came : Option (List Nat)) : Framed (RowT v x n came) := by
  have f := fun tb mb a g L z => Star.framed (rowK_framed tb mb a g n L) (trMu_framed g L z)
  constructor
  · rintro F S w w' ⟨tb, mb, a, g, L, z, h⟩ ho hd
    exact ⟨tb, mb, a, g, L, z, { h with it := (f _ _ _ _ _ _).only h.it ho hd }⟩
  · rintro F w ⟨tb, mb, a, g, L, z, h⟩; exact (f _ _ _ _ _ _).lt h.it
/-- What a trail knows behind b, out of what it knew. -/
theorem next_all {L : List VT} {z : Nat → Int} {came : Option (List Nat)} {b : List Nat} {c : Nat} (hb : NextOk came b c) (hz : ∀ b, came = some b → ∀ i, i ≤ L.length → z i = lastS ((L.map Prod.snd).take i) b) :
    ∀ (i : Nat) (u : Value) (t : Thg), L[i]? = some (u, t) → lastS ((L.map Prod.snd).take (i + 1)) b = nextS t c (lastS ((L.map Prod.snd).take i) b) (tellP b.length z i) (tellP b.length z (i + 1)) := by
  intro i u t hx
  have hx2 : (L.map Prod.snd)[i]? = some t := by rw [List.getElem?_map, hx]; rfl
  have hi := (List.getElem?_eq_some_iff.1 hx).1
  rcases hb with rfl | ⟨b0, hb0, rfl⟩
  · exact next_none hx2 c
  · rw [next_is hx2 b0 c]
    have e : tellP (b0 ++ [c]).length z = z := by unfold tellP; rw [if_neg (by simp)]
    rw [e, hz b0 hb0 i (by omega), hz b0 hb0 (i + 1) (by omega)]
theorem from_glob {n : Nat} {b : List Nat} {x : Brc} {t : List Thg} (hk : x.kind = 1) (h : thingsS x.pat = some t) : fromS (n : Nat) b x = spanS t b (n : Nat) := by
  unfold fromS
  rw [if_neg (by omega), if_pos hk, h]
set_option maxRecDepth 100000 in
set_option maxHeartbeats 2000000 in
theorem row_call {F : Nat → Prop} {w : World} {v : Value} {x : Brc} {n : Nat} {came : Option (List Nat)} {tb mb a g : Nat} {L : List VT} {z : Nat → Int} (h : RowF v x n came tb mb a g L z F w) (c : Nat) (hc : c < 256) (b : List Nat) (hb : NextOk came b c) (hm : b.length ≤ 1099511627776) :
    Calls Tryd.prog 57 #[.int .i64 (b.length : Nat), .int .u8 (c : Nat), .pointer (some ⟨tb, 0, none⟩), .pointer (some ⟨mb, 0, none⟩)] w (LookTo (RowT v x n (some b)) n x b F w) := by
  have H := Lib.hid h
  obtain ⟨A, B, hs⟩ := h.it
  have HS := Lib.hid hs
  have ct : w.cell? ⟨tb, 0, none⟩ = some (.pointer (some ⟨a, 0, none⟩)) := hs.fst.2.2.1.cell 0
  have ht := tell_is hs.fst.2.2.2.2 hs.snd hs.ap h.few b.length c hc (N := fun i => lastS ((L.map Prod.snd).take i) b) (last_nil b) (next_all hb h.at_)
  rw [show (L.map Prod.snd).take L.length = L.map Prod.snd from List.take_of_length_le (by simp)] at ht
  have HTL := Lib.hid ht
  have HSP := Lib.hid ((from_glob (n := n) (b := b) h.kind h.thg).trans (span_row (most := (n : Nat)) h.sng))
  obtain ⟨d1, d2⟩ := last_bound (L.map Prod.snd) b
  generalize lastS (L.map Prod.snd) b = last at *
  generalize hmm : b.length = m at *
  clear h hs ht hb
  go_enter Tryd.func57, Tryd.ntmps57
  go_wp2_with fail
  refine HTL.out.mono ?_
  rintro e w1 ⟨rfl, t⟩
  have hbx := t
  obtain ⟨G, hg, ho, hF⟩ := t
  have cm : w1.cell? ⟨mb, 0, none⟩ = some (.int .i64 (n : Nat)) := (HS.out.fst.2.2.2.1.only ho (HS.out.ap mb HS.out.fst.2.1)).cell 0
  have Z0 : Turned (RowT v x n (some b)) F w w1 := (HS.out.right (rowK_framed _ _ _ _ _ _) hbx).imp fun G hg => ⟨tb, mb, a, g, L, _, { H.out with at_ := fun b' e i _ => by cases e; rfl, it := hg }⟩
  have Z := Lib.hid Z0
  clear Z0
  clear hg ho hF hbx ct HTL
  by_cases h1 : last = -1
  · have k1 : (last != -1) = false := by rw [h1]; rfl
    have HSN : Hid (fromS (n : Nat) b x = none) := Lib.hid (by rw [HSP.out, if_neg (fun k => k.1 h1)])
    go_wp2_with fail
    go_quiet (fail)
    go_wp2_with fail
    go_ret2
    exact ⟨-1, by rw [HSN.out]; rfl, fun f hf => (by rw [HSN.out] at hf; cases hf), Z.out.keep (row_framed _ _ _ _) ⟨rfl, rfl, rfl, Nat.le_refl _, fun _ _ => rfl⟩⟩
  · have k1 : (last != -1) = true := by simpa using h1
    obtain ⟨r, hr⟩ : ∃ r, decide ((m : Int) - last ≤ (n : Int)) = r := ⟨_, rfl⟩
    have HR := Lib.hid hr
    have HSN : Hid (fromS (n : Nat) b x = if r = true then some last.toNat else none) := Lib.hid (by
      rw [HSP.out, ← hr]
      by_cases hle : (m : Int) - last ≤ (n : Int)
      · rw [if_pos ⟨h1, hle⟩, if_pos (decide_eq_true hle)]
      · rw [if_neg (fun k => hle k.2), if_neg (fun k => hle (of_decide_eq_true k))])
    have hl0 : 0 ≤ last := by omega
    have HL0 := Lib.hid hl0
    go_wp2_with fail
    go_quiet (fail)
    go_wp2_with fail
    go_ret2
    refine ⟨last, ?_, fun f hf => ?_, Z.out.keep (row_framed _ _ _ _) ⟨rfl, rfl, rfl, Nat.le_refl _, fun _ _ => rfl⟩⟩
    · rw [HSN.out]
      cases r <;> simp
    · rw [HSN.out] at hf
      split at hf
      · cases hf; omega
      · cases hf
end Go.Proofs.YtcipljpalohjiaaDoor
namespace Go.Proofs.YtcipljpalohjiaaDoor
open Go.RowKit

/-- What it only reads: the boxes of both trails, of the number and of how many things are ahead, and the trails' own. -/
def GloK (hb tb mb ab a1 g1 a2 g2 n : Nat) (L1 L2 : List VT) : Thing := fun F W => (F hb ∧ F tb ∧ F mb ∧ F ab) ∧ Blk W hb 85 #[.pointer (some ⟨a1, 0, none⟩)] ∧ Blk W tb 85 #[.pointer (some ⟨a2, 0, none⟩)] ∧ Blk W mb 3 #[.int .i64 (n : Nat)] ∧ Blk W ab 3 #[.int .i64 (L1.length : Nat)] ∧ TrRo a1 g1 L1 F W ∧ TrRo a2 g2 L2 F W
theorem gloK_framed (hb tb mb ab a1 g1 a2 g2 n : Nat) (L1 L2 : List VT) : Framed (GloK hb tb mb ab a1 g1 a2 g2 n L1 L2) :=
  ⟨fun h ho hd => ⟨h.1, h.2.1.only ho (hd _ h.1.1), h.2.2.1.only ho (hd _ h.1.2.1), h.2.2.2.1.only ho (hd _ h.1.2.2.1), h.2.2.2.2.1.only ho (hd _ h.1.2.2.2), (trRo_framed _ _ _).only h.2.2.2.2.2.1 ho hd, (trRo_framed _ _ _).only h.2.2.2.2.2.2 ho hd⟩, fun h => h.2.2.2.2.2.1.1⟩
def gloV (pb hb tb mb ab : Nat) : Value := .func (.func 43) #[] #[.pointer (some ⟨pb, 0, none⟩), .pointer (some ⟨hb, 0, none⟩), .pointer (some ⟨tb, 0, none⟩), .pointer (some ⟨mb, 0, none⟩), .pointer (some ⟨ab, 0, none⟩)]
/-- All of it in memory. -/
def GloS (pb hb tb mb ab a1 g1 a2 g2 n top : Nat) (L1 L2 : List VT) (M : Nat → Prop) (z1 z2 : Nat → Int) : Thing := Star (GloK hb tb mb ab a1 g1 a2 g2 n L1 L2) (Star (PlT pb top M) (Star (TrMu g1 L1 z1) (TrMu g2 L2 z2)))
theorem gloS_framed (pb hb tb mb ab a1 g1 a2 g2 n top : Nat) (L1 L2 : List VT) (M : Nat → Prop) (z1 z2 : Nat → Int) : Framed (GloS pb hb tb mb ab a1 g1 a2 g2 n top L1 L2 M z1 z2) :=
  Star.framed (gloK_framed _ _ _ _ _ _ _ _ _ _ _) (Star.framed (pl_framed _ _ _) (Star.framed (trMu_framed _ _ _) (trMu_framed _ _ _)))
structure GloF (v : Value) (x : Brc) (n : Nat) (came : Option (List Nat)) (pb hb tb mb ab a1 g1 a2 g2 top : Nat) (L1 L2 : List VT) (st : Thg) (M : Nat → Prop) (z1 z2 : Nat → Int) (F : Nat → Prop) (W : World) : Prop where
  val : v = gloV pb hb tb mb ab
  kind : x.kind = 1
  few : L1.length ≤ 1024 ∧ L2.length ≤ 1024
  thg : thingsS x.pat = some (L1.map Prod.snd ++ st :: L2.map Prod.snd)
  star : st.any = true
  sng : ∀ t ∈ L1.map Prod.snd, t.any = false
  own : ¬ F 0
  at1 : ∀ b, came = some b → ∀ i, i ≤ L1.length → z1 i = lastS ((L1.map Prod.snd).take i) b
  at2 : ∀ b, came = some b → ∀ i, i ≤ L2.length → z2 i = lastS ((L2.map Prod.snd).take i) b
  atM : ∀ b, came = some b → (top = 0 ∨ top + L1.length ≤ b.length) ∧ ∀ f : Nat, (b.length : Int) - f ≤ (n : Nat) → (M f ↔ headAt (L1.map Prod.snd) b f)
  top_ : top ≤ 1099511627776
  it : GloS pb hb tb mb ab a1 g1 a2 g2 n top L1 L2 M z1 z2 F W
def GloT (v : Value) (x : Brc) (n : Nat) (came : Option (List Nat)) : Thing := fun F W => ∃ pb hb tb mb ab a1 g1 a2 g2 top L1 L2 st M z1 z2, GloF v x n came pb hb tb mb ab a1 g1 a2 g2 top L1 L2 st M z1 z2 F W
theorem glo_framed (v : Value) (x : Brc) (n : Nat) (came : Option (List Nat)) : Framed (GloT v x n came) := by
  constructor
  · rintro F S w w' ⟨pb, hb, tb, mb, ab, a1, g1, a2, g2, top, L1, L2, st, M, z1, z2, h⟩ ho hd
    exact ⟨pb, hb, tb, mb, ab, a1, g1, a2, g2, top, L1, L2, st, M, z1, z2, { h with it := (gloS_framed _ _ _ _ _ _ _ _ _ _ _ _ _ _ _ _).only h.it ho hd }⟩
  · rintro F w ⟨pb, hb, tb, mb, ab, a1, g1, a2, g2, top, L1, L2, st, M, z1, z2, h⟩; exact (gloS_framed _ _ _ _ _ _ _ _ _ _ _ _ _ _ _ _).lt h.it
/-! ### Its steps -/
section
variable {pb hb tb mb ab a1 g1 a2 g2 n top : Nat} {L1 L2 : List VT} {M : Nat → Prop} {z1 z2 : Nat → Int} {F : Nat → Prop} {w : World}
theorem GloS.cells (h : GloS pb hb tb mb ab a1 g1 a2 g2 n top L1 L2 M z1 z2 F w) : w.cell? ⟨hb, 0, none⟩ = some (.pointer (some ⟨a1, 0, none⟩)) ∧ w.cell? ⟨tb, 0, none⟩ = some (.pointer (some ⟨a2, 0, none⟩)) ∧ w.cell? ⟨mb, 0, none⟩ = some (.int .i64 (n : Nat)) ∧ w.cell? ⟨ab, 0, none⟩ = some (.int .i64 (L1.length : Nat)) := by
  obtain ⟨A, B, hs⟩ := h
  obtain ⟨-, h1, h2, h3, h4, -⟩ := hs.fst
  exact ⟨h1.cell 0, h2.cell 0, h3.cell 0, h4.cell 0⟩
theorem GloS.head (h : GloS pb hb tb mb ab a1 g1 a2 g2 n top L1 L2 M z1 z2 F w) {N : Nat → Int} {came : Nat} (c : Nat) (hc : c < 256) (hn : L1.length ≤ 1024) (h0 : N 0 = (came : Nat))
    (hN : ∀ (i : Nat) (u : Value) (t : Thg), L1[i]? = some (u, t) → N (i + 1) = nextS t c (N i) (tellP came z1 i) (tellP came z1 (i + 1))) :
    Calls Tryd.prog 44 #[.pointer (some ⟨a1, 0, none⟩), .int .i64 (came : Nat), .int .u8 (c : Nat)] w fun e w' => e = .returned (.int .i64 (N L1.length)) ∧ Turned (GloS pb hb tb mb ab a1 g1 a2 g2 n top L1 L2 M N z2) F w w' := by
  obtain ⟨A, B, hs⟩ := h
  obtain ⟨C, D, hs2⟩ := hs.snd
  obtain ⟨D1, D2, hs3⟩ := hs2.snd
  refine (tell_is hs.fst.2.2.2.2.2.1 hs3.fst (fun b ha hd => hs.ap b ha ((hs2.un b).2 (.inr ((hs3.un b).2 (.inl hd))))) hn came c hc h0 hN).mono fun e w' ⟨he, t⟩ => ⟨he, ?_⟩
  exact hs.right (gloK_framed _ _ _ _ _ _ _ _ _ _ _) (hs2.right (pl_framed _ _ _) (hs3.left (trMu_framed _ _ _) t))
theorem GloS.tail (h : GloS pb hb tb mb ab a1 g1 a2 g2 n top L1 L2 M z1 z2 F w) {N : Nat → Int} {came : Nat} (c : Nat) (hc : c < 256) (hn : L2.length ≤ 1024) (h0 : N 0 = (came : Nat))
    (hN : ∀ (i : Nat) (u : Value) (t : Thg), L2[i]? = some (u, t) → N (i + 1) = nextS t c (N i) (tellP came z2 i) (tellP came z2 (i + 1))) :
    Calls Tryd.prog 44 #[.pointer (some ⟨a2, 0, none⟩), .int .i64 (came : Nat), .int .u8 (c : Nat)] w fun e w' => e = .returned (.int .i64 (N L2.length)) ∧ Turned (GloS pb hb tb mb ab a1 g1 a2 g2 n top L1 L2 M z1 N) F w w' := by
  obtain ⟨A, B, hs⟩ := h
  obtain ⟨C, D, hs2⟩ := hs.snd
  obtain ⟨D1, D2, hs3⟩ := hs2.snd
  refine (tell_is hs.fst.2.2.2.2.2.2 hs3.snd (fun b ha hd => hs.ap b ha ((hs2.un b).2 (.inr ((hs3.un b).2 (.inr hd))))) hn came c hc h0 hN).mono fun e w' ⟨he, t⟩ => ⟨he, ?_⟩
  exact hs.right (gloK_framed _ _ _ _ _ _ _ _ _ _ _) (hs2.right (pl_framed _ _ _) (hs3.right (trMu_framed _ _ _) t))
theorem GloS.place (h : GloS pb hb tb mb ab a1 g1 a2 g2 n top L1 L2 M z1 z2 F w) : ∃ C, PlT pb top M C w ∧ (∀ b, C b → F b) ∧ ∀ top' M' w', Turned (PlT pb top' M') C w w' → Turned (GloS pb hb tb mb ab a1 g1 a2 g2 n top' L1 L2 M' z1 z2) F w w' := by
  obtain ⟨A, B, hs⟩ := h
  obtain ⟨C, D, hs2⟩ := hs.snd
  exact ⟨C, hs2.fst, fun b hb => (hs.un b).2 (.inr ((hs2.un b).2 (.inl hb))), fun top' M' w' t => hs.right (gloK_framed _ _ _ _ _ _ _ _ _ _ _) (hs2.left (Star.framed (trMu_framed _ _ _) (trMu_framed _ _ _)) t)⟩
theorem GloS.add (h : GloS pb hb tb mb ab a1 g1 a2 g2 n top L1 L2 M z1 z2 F w) (p : Nat) (hp : top ≤ p) (hm : p ≤ 1099511627776) :
    Calls Tryd.prog 45 #[.pointer (some ⟨pb, 0, none⟩), .int .i64 (p : Nat)] w fun e w' => e = .returned (.tuple #[]) ∧ Turned (GloS pb hb tb mb ab a1 g1 a2 g2 n p L1 L2 (fun f => M f ∨ f = p) z1 z2) F w w' := by
  obtain ⟨C, h1, -, h2⟩ := h.place
  exact (add_is h1 p hp hm).mono fun e w' ⟨he, t⟩ => ⟨he, h2 _ _ _ t⟩
theorem GloS.least (h : GloS pb hb tb mb ab a1 g1 a2 g2 n top L1 L2 M z1 z2 F w) (hT : Tz w) (hF : ¬ F 0) (z : Int) (hz : -1099511627776 ≤ z ∧ z ≤ 1099511627776) (hm : top ≤ 1099511627776) :
    Calls Tryd.prog 46 #[.pointer (some ⟨pb, 0, none⟩), .int .i64 z] w fun e w' => ∃ (k : Option Nat) (M' : Nat → Prop), e = .returned (.tuple #[.int .i64 (k.getD 0 : Nat), .bool k.isSome]) ∧ Turned (GloS pb hb tb mb ab a1 g1 a2 g2 n top L1 L2 M' z1 z2) F w w' ∧
      (∀ f, k = some f → M f ∧ z ≤ f ∧ ∀ j : Nat, j < f → z ≤ j → ¬ M j) ∧ (k = none → ∀ j : Nat, z ≤ j → ¬ M j) ∧ (∀ j : Nat, z ≤ j → (M' j ↔ M j)) := by
  obtain ⟨C, h1, hC, h2⟩ := h.place
  exact (least_is h1 hT (fun k => hF (hC _ k)) z hz hm).mono fun e w' ⟨k, M', he, t, hk⟩ => ⟨k, M', he, h2 _ _ _ t, hk⟩
/-- No places. -/
theorem PlT.clear {C : Nat → Prop} (h : PlT pb top M C w) : Turned (PlT pb 0 fun _ => False) C w ((w.setCell ⟨pb, 0, none⟩ (.slice none 0 0)).setCell ⟨pb, 1, none⟩ (.int .i64 0)) := by
  obtain ⟨hl, hq, g, A, c, ws, B, h⟩ := h
  have ho : Only C w ((w.setCell ⟨pb, 0, none⟩ (.slice none 0 0)).setCell ⟨pb, 1, none⟩ (.int .i64 0)) := ((Only.refl C w).setCell (p := ⟨pb, 0, none⟩) (.inl hq) _).setCell (p := ⟨pb, 1, none⟩) (.inl hq) _
  refine ⟨C, ⟨fun b hb => Nat.lt_of_lt_of_le (hl b hb) ho.size, hq, none, none, 0, [], 0, ⟨?_, Row.nil _ _, by simp, by simp, by simp, fun f => ⟨fun k => k.elim, mem_nil⟩⟩⟩, ho, fun _ => .inl⟩
  have := (h.blk.set_ 0 (.slice none 0 0)).set_ 1 (.int .i64 0)
  simpa using this
end

set_option maxRecDepth 100000 in
set_option maxHeartbeats 8000000 in
theorem glo_call {F : Nat → Prop} {w : World} {v : Value} {x : Brc} {n : Nat} {came : Option (List Nat)} {pb hb tb mb ab a1 g1 a2 g2 top : Nat} {L1 L2 : List VT} {st : Thg} {M : Nat → Prop} {z1 z2 : Nat → Int} (h : GloF v x n came pb hb tb mb ab a1 g1 a2 g2 top L1 L2 st M z1 z2 F w) (hT : Tz w) (c : Nat) (hc : c < 256) (b : List Nat) (hbn : NextOk came b c) (hm : b.length ≤ 1073741824) (hn : n ≤ 1048576) :
    Calls Tryd.prog 43 #[.int .i64 (b.length : Nat), .int .u8 (c : Nat), .pointer (some ⟨pb, 0, none⟩), .pointer (some ⟨hb, 0, none⟩), .pointer (some ⟨tb, 0, none⟩), .pointer (some ⟨mb, 0, none⟩), .pointer (some ⟨ab, 0, none⟩)] w (LookTo (GloT v x n (some b)) n x b F w) := by
  have H := Lib.hid h
  have HT := Lib.hid hT
  have HZ1 := Lib.hid (next_all hbn h.at1)
  have HZ2 := Lib.hid (next_all hbn h.at2)
  obtain ⟨m, hmm⟩ : ∃ m, b.length = m := ⟨_, rfl⟩
  have HMM := Lib.hid hmm
  obtain ⟨lh, hlh0⟩ : ∃ lh, lastS (L1.map Prod.snd) b = lh := ⟨_, rfl⟩
  obtain ⟨lt, hlt0⟩ : ∃ lt, lastS (L2.map Prod.snd) b = lt := ⟨_, rfl⟩
  have HLH := Lib.hid hlh0
  have HLT := Lib.hid hlt0
  have lb1 := last_bound (L1.map Prod.snd) b
  have lb2 := last_bound (L2.map Prod.snd) b
  have hfew := h.few
  rw [hlh0, hmm] at lb1
  rw [hlt0, hmm] at lb2
  rw [hmm] at hm ⊢
  obtain ⟨lb1a, lb1b⟩ := lb1
  obtain ⟨lb2a, lb2b⟩ := lb2
  obtain ⟨few1, few2⟩ := hfew
  rcases hbn with hb0 | ⟨b0, hcame, hb0⟩
  · have hm0 : m = 0 := by rw [← hmm, hb0]; rfl
    have kz : ((m : Int) == 0) = true := by rw [hm0]; rfl
    obtain ⟨C, p1, -, p2⟩ := h.it.place
    have TS := Lib.hid (p2 _ _ _ p1.clear)
    have HM0 : Hid (∀ f : Nat, (m : Int) - f ≤ (n : Nat) → (((fun _ => False : Nat → Prop) f ∨ lh = (f : Nat)) ↔ headAt (L1.map Prod.snd) b f)) := Lib.hid fun f _ => by
      rw [hb0, head_none H.out.sng, ← hb0, HLH.out]
      exact ⟨fun k => k.elim (fun k => k.elim) id, .inr⟩
    obtain ⟨M0, hM0⟩ : ∃ M0, M0 = (fun _ => False : Nat → Prop) := ⟨_, rfl⟩
    rw [← hM0] at TS HM0
    obtain ⟨top0, htop0, TS⟩ : ∃ t : Nat, t ≤ 0 ∧ Hid (Turned (GloS pb hb tb mb ab a1 g1 a2 g2 n t L1 L2 M0 z1 z2) F w ((w.setCell ⟨pb, 0, none⟩ (.slice none 0 0)).setCell ⟨pb, 1, none⟩ (.int .i64 0))) := ⟨0, Nat.le_refl _, TS⟩
    have c0 : ∃ u, w.cell? ⟨pb, 0, none⟩ = some u := by obtain ⟨_, _, g, A, d, ws, B, hp⟩ := p1; exact ⟨_, hp.blk.cell 0⟩
    have c1 : ∃ u, (w.setCell ⟨pb, 0, none⟩ (.slice none 0 0)).cell? ⟨pb, 1, none⟩ = some u := by obtain ⟨_, _, g, A, d, ws, B, hp⟩ := p1; exact ⟨_, (hp.blk.set_ 0 _).cell 1⟩
    have f0 : w.frozen? ⟨pb, 0, none⟩ = false := by obtain ⟨_, _, g, A, d, ws, B, hp⟩ := p1; exact hp.blk.frozen 0
    have f1 : (w.setCell ⟨pb, 0, none⟩ (.slice none 0 0)).frozen? ⟨pb, 1, none⟩ = false := by obtain ⟨_, _, g, A, d, ws, B, hp⟩ := p1; exact (hp.blk.set_ 0 _).frozen 1
    obtain ⟨u0, c0⟩ := c0
    obtain ⟨u1, c1⟩ := c1
    clear h hT hmm hlh0 hlt0 hb0 hM0 p1 p2 hm0
    go_enter Tryd.func43, Tryd.ntmps43
    go_upto_region 3 with (fail)
    generalize ((w.setCell ⟨pb, 0, none⟩ (.slice none 0 0)).setCell ⟨pb, 1, none⟩ (.int .i64 0)) = w0 at *
    have T0 := TS
    clear TS c0 c1 f0 f1
    obtain ⟨F1, hg1, ho1, hF1⟩ := T0.out
    obtain ⟨chb, -, -, -⟩ := hg1.cells
    have HC1 := Lib.hid (hg1.head c hc H.out.few.1 (N := fun i => lastS ((L1.map Prod.snd).take i) b) (last_nil b) HZ1.out)
    rw [show (L1.map Prod.snd).take L1.length = L1.map Prod.snd from List.take_of_length_le (by simp), HLH.out, HMM.out] at HC1
    have X1 := Lib.hid (And.intro ho1 hF1)
    clear hg1 ho1 hF1
    go_wp2_with fail
    refine HC1.out.mono ?_
    rintro e w1 ⟨rfl, t1⟩
    have T1 := Lib.hid (t1.then_ X1.out.1 X1.out.2)
    clear t1 X1 T0 HC1 chb
    by_cases hlh : lh = -1
    · have k1 : (lh != -1) = false := by rw [hlh]; rfl
      have HM1 : Hid (∀ f : Nat, (m : Int) - f ≤ (n : Nat) → (M0 f ↔ headAt (L1.map Prod.snd) b f)) := Lib.hid fun f hf => by
        rw [← HM0.out f hf]
        exact ⟨fun h => .inl h, fun h => h.elim id (fun h => by omega)⟩
      have htop1 : top0 ≤ 1099511627776 := by omega
      have htopm : top0 = 0 ∨ top0 + L1.length ≤ m := by omega
      have T2 := T1
      clear T1 HM0
      obtain ⟨w2, hw2⟩ : ∃ w2, w2 = w1 := ⟨_, rfl⟩
      have HW2 := Lib.hid hw2
      subst hw2
      obtain ⟨F2, hg2, ho2, hF2⟩ := T2.out
      obtain ⟨-, ctb, -, -⟩ := hg2.cells
      have HC2 := Lib.hid (hg2.tail c hc H.out.few.2 (N := fun i => lastS ((L2.map Prod.snd).take i) b) (last_nil b) HZ2.out)
      rw [show (L2.map Prod.snd).take L2.length = L2.map Prod.snd from List.take_of_length_le (by simp), HLT.out, HMM.out] at HC2
      have X2 := Lib.hid (And.intro ho2 hF2)
      clear hg2 ho2 hF2
      go_wp2_with fail
      refine HC2.out.mono ?_
      rintro e w3 ⟨rfl, t3⟩
      have T3 := Lib.hid (t3.then_ X2.out.1 X2.out.2)
      clear t3 X2 T2 HC2 ctb
      obtain ⟨F3, hg3, ho3, hF3⟩ := T3.out
      obtain ⟨-, -, cmb, -⟩ := hg3.cells
      have HC3 := Lib.hid (hg3.least (HT.out.only ho3 H.out.own) (fun k => (hF3 _ k).elim H.out.own (fun h => by have := HT.out.1; omega)) ((m : Int) - (n : Int)) ⟨by omega, by omega⟩ htop1)
      have X3 := Lib.hid (And.intro ho3 hF3)
      clear hg3 ho3 hF3
      go_wp2_with fail
      refine HC3.out.mono ?_
      rintro e w4 ⟨k, M', rfl, t4, hk1, hk2, hk3⟩
      have T4 := Lib.hid (t4.then_ X3.out.1 X3.out.2)
      have HK := Lib.hid (And.intro hk1 (And.intro hk2 hk3))
      clear t4 X3 T3 HC3 cmb hk1 hk2 hk3
      obtain ⟨F4, hg4, ho4, hF4⟩ := T4.out
      obtain ⟨-, -, -, cab⟩ := hg4.cells
      have Z : Hid (Turned (GloT v x n (some b)) F w w4) := Lib.hid ⟨F4, ⟨pb, hb, tb, mb, ab, a1, g1, a2, g2, _, L1, L2, st, M', _, _, { H.out with
          own := fun k => (hF4 _ k).elim H.out.own (fun h => by have := HT.out.1; omega)
          at1 := fun b' e i _ => by cases e; rfl
          at2 := fun b' e i _ => by cases e; rfl
          atM := fun b' e => by
            cases e
            refine ⟨by rw [HMM.out]; exact htopm, fun f hf => ?_⟩
            rw [HMM.out] at hf
            rw [HK.out.2.2 f (by omega)]
            exact HM1.out f hf
          top_ := htop1
          it := hg4 }⟩, ho4, hF4⟩
      clear hg4 ho4 hF4 T4
      have HSP := Lib.hid (span_glob (most := (n : Nat)) (k := k) (b := b) (m := L2.map Prod.snd) H.out.sng H.out.star
        (fun f e => ⟨(HM1.out f (by have := (HK.out.1 f e).2.1; omega)).1 ((HK.out.1 f e).1), by have := (HK.out.1 f e).2.1; rw [HMM.out]; omega, fun j hj hj2 hh => (HK.out.1 f e).2.2 j hj (by rw [HMM.out] at hj2; omega) ((HM1.out j (by rw [HMM.out] at hj2; exact hj2)).2 hh)⟩)
        (fun e j hj hh => HK.out.2.1 e j (by rw [HMM.out] at hj; omega) ((HM1.out j (by rw [HMM.out] at hj; exact hj)).2 hh)))
      rw [HLT.out, List.length_map] at HSP
      have HFG := Lib.hid (from_glob (n := n) (b := b) H.out.kind H.out.thg)
      cases k with
      | none =>
        have HN : Hid (fromS (n : Nat) b x = none) := Lib.hid (HFG.out.trans HSP.out)
        go_wp2_with fail
        go_quiet (fail)
        go_wp2_with fail
        go_ret2
        exact ⟨0, by rw [HN.out]; rfl, fun f hf => (by rw [HN.out] at hf; cases hf), Z.out.keep (glo_framed _ _ _ _) ⟨rfl, rfl, rfl, Nat.le_refl _, fun _ _ => rfl⟩⟩
      | some f =>
        obtain ⟨r, hr⟩ : ∃ r, decide ((f : Int) + (L1.length : Int) ≤ lt) = r := ⟨_, rfl⟩
        have HN : Hid (fromS (n : Nat) b x = if r = true then some f else none) := Lib.hid (by
          rw [HFG.out, HSP.out, ← hr]
          by_cases hle : (f : Int) + (L1.length : Int) ≤ lt
          · show (if ((f + L1.length : Nat) : Int) ≤ lt then some f else none) = _
            rw [if_pos (by omega), if_pos (decide_eq_true hle)]
          · show (if ((f + L1.length : Nat) : Int) ≤ lt then some f else none) = _
            rw [if_neg (by omega), if_neg (fun k => hle (of_decide_eq_true k))])
        have hf40 : (f : Int) ≤ 1099511627776 := by
          have h1 := (HM1.out f (by have := (HK.out.1 f rfl).2.1; omega)).1 (HK.out.1 f rfl).1
          have := h1.1
          rw [HMM.out] at this
          omega
        go_wp2_with fail
        go_quiet (fail)
        go_wp2_with fail
        go_ret2
        refine ⟨f, ?_, fun f' hf => ?_, Z.out.keep (glo_framed _ _ _ _) ⟨rfl, rfl, rfl, Nat.le_refl _, fun _ _ => rfl⟩⟩
        · rw [HN.out]
          cases r <;> simp
        · rw [HN.out] at hf
          split at hf
          · cases hf; rfl
          · cases hf
    · have k1 : (lh != -1) = true := by simpa using hlh
      obtain ⟨p, hp⟩ : ∃ p : Nat, lh = p := ⟨lh.toNat, by omega⟩
      have hpe : p + L1.length = m := by
        rcases last_row (r := L1.map Prod.snd) (b := b) H.out.sng with ⟨h, _⟩ | ⟨f, h, he, _⟩
        · rw [HLH.out] at h; omega
        · rw [HLH.out] at h
          rw [List.length_map, HMM.out] at he
          omega
      have HM1 : Hid (∀ f : Nat, (m : Int) - f ≤ (n : Nat) → ((M0 f ∨ f = p) ↔ headAt (L1.map Prod.snd) b f)) := Lib.hid fun f hf => by
        rw [← HM0.out f hf]
        constructor
        · rintro (h | h)
          · exact .inl h
          · exact .inr (by omega)
        · rintro (h | h)
          · exact .inl h
          · exact .inr (by omega)
      subst hp
      have htop1 : p ≤ 1099511627776 := by omega
      have htopm : p = 0 ∨ p + L1.length ≤ m := by omega
      obtain ⟨F1, hg1, ho1, hF1⟩ := T1.out
      have HC1 := Lib.hid (hg1.add p (by omega) htop1)
      have X1 := Lib.hid (And.intro ho1 hF1)
      clear hg1 ho1 hF1 HM0 hlh
      go_wp2_with fail
      refine HC1.out.mono ?_
      rintro e w2 ⟨rfl, t2⟩
      have T2 := Lib.hid (t2.then_ X1.out.1 X1.out.2)
      clear t2 X1 T1 HC1
      obtain ⟨F2, hg2, ho2, hF2⟩ := T2.out
      obtain ⟨-, ctb, -, -⟩ := hg2.cells
      have HC2 := Lib.hid (hg2.tail c hc H.out.few.2 (N := fun i => lastS ((L2.map Prod.snd).take i) b) (last_nil b) HZ2.out)
      rw [show (L2.map Prod.snd).take L2.length = L2.map Prod.snd from List.take_of_length_le (by simp), HLT.out, HMM.out] at HC2
      have X2 := Lib.hid (And.intro ho2 hF2)
      clear hg2 ho2 hF2
      go_wp2_with fail
      refine HC2.out.mono ?_
      rintro e w3 ⟨rfl, t3⟩
      have T3 := Lib.hid (t3.then_ X2.out.1 X2.out.2)
      clear t3 X2 T2 HC2 ctb
      obtain ⟨F3, hg3, ho3, hF3⟩ := T3.out
      obtain ⟨-, -, cmb, -⟩ := hg3.cells
      have HC3 := Lib.hid (hg3.least (HT.out.only ho3 H.out.own) (fun k => (hF3 _ k).elim H.out.own (fun h => by have := HT.out.1; omega)) ((m : Int) - (n : Int)) ⟨by omega, by omega⟩ htop1)
      have X3 := Lib.hid (And.intro ho3 hF3)
      clear hg3 ho3 hF3
      go_wp2_with fail
      refine HC3.out.mono ?_
      rintro e w4 ⟨k, M', rfl, t4, hk1, hk2, hk3⟩
      have T4 := Lib.hid (t4.then_ X3.out.1 X3.out.2)
      have HK := Lib.hid (And.intro hk1 (And.intro hk2 hk3))
      clear t4 X3 T3 HC3 cmb hk1 hk2 hk3
      obtain ⟨F4, hg4, ho4, hF4⟩ := T4.out
      obtain ⟨-, -, -, cab⟩ := hg4.cells
      have Z : Hid (Turned (GloT v x n (some b)) F w w4) := Lib.hid ⟨F4, ⟨pb, hb, tb, mb, ab, a1, g1, a2, g2, _, L1, L2, st, M', _, _, { H.out with
          own := fun k => (hF4 _ k).elim H.out.own (fun h => by have := HT.out.1; omega)
          at1 := fun b' e i _ => by cases e; rfl
          at2 := fun b' e i _ => by cases e; rfl
          atM := fun b' e => by
            cases e
            refine ⟨by rw [HMM.out]; exact htopm, fun f hf => ?_⟩
            rw [HMM.out] at hf
            rw [HK.out.2.2 f (by omega)]
            exact HM1.out f hf
          top_ := htop1
          it := hg4 }⟩, ho4, hF4⟩
      clear hg4 ho4 hF4 T4
      have HSP := Lib.hid (span_glob (most := (n : Nat)) (k := k) (b := b) (m := L2.map Prod.snd) H.out.sng H.out.star
        (fun f e => ⟨(HM1.out f (by have := (HK.out.1 f e).2.1; omega)).1 ((HK.out.1 f e).1), by have := (HK.out.1 f e).2.1; rw [HMM.out]; omega, fun j hj hj2 hh => (HK.out.1 f e).2.2 j hj (by rw [HMM.out] at hj2; omega) ((HM1.out j (by rw [HMM.out] at hj2; exact hj2)).2 hh)⟩)
        (fun e j hj hh => HK.out.2.1 e j (by rw [HMM.out] at hj; omega) ((HM1.out j (by rw [HMM.out] at hj; exact hj)).2 hh)))
      rw [HLT.out, List.length_map] at HSP
      have HFG := Lib.hid (from_glob (n := n) (b := b) H.out.kind H.out.thg)
      cases k with
      | none =>
        have HN : Hid (fromS (n : Nat) b x = none) := Lib.hid (HFG.out.trans HSP.out)
        go_wp2_with fail
        go_quiet (fail)
        go_wp2_with fail
        go_ret2
        exact ⟨0, by rw [HN.out]; rfl, fun f hf => (by rw [HN.out] at hf; cases hf), Z.out.keep (glo_framed _ _ _ _) ⟨rfl, rfl, rfl, Nat.le_refl _, fun _ _ => rfl⟩⟩
      | some f =>
        obtain ⟨r, hr⟩ : ∃ r, decide ((f : Int) + (L1.length : Int) ≤ lt) = r := ⟨_, rfl⟩
        have HN : Hid (fromS (n : Nat) b x = if r = true then some f else none) := Lib.hid (by
          rw [HFG.out, HSP.out, ← hr]
          by_cases hle : (f : Int) + (L1.length : Int) ≤ lt
          · show (if ((f + L1.length : Nat) : Int) ≤ lt then some f else none) = _
            rw [if_pos (by omega), if_pos (decide_eq_true hle)]
          · show (if ((f + L1.length : Nat) : Int) ≤ lt then some f else none) = _
            rw [if_neg (by omega), if_neg (fun k => hle (of_decide_eq_true k))])
        have hf40 : (f : Int) ≤ 1099511627776 := by
          have h1 := (HM1.out f (by have := (HK.out.1 f rfl).2.1; omega)).1 (HK.out.1 f rfl).1
          have := h1.1
          rw [HMM.out] at this
          omega
        go_wp2_with fail
        go_quiet (fail)
        go_wp2_with fail
        go_ret2
        refine ⟨f, ?_, fun f' hf => ?_, Z.out.keep (glo_framed _ _ _ _) ⟨rfl, rfl, rfl, Nat.le_refl _, fun _ _ => rfl⟩⟩
        · rw [HN.out]
          cases r <;> simp
        · rw [HN.out] at hf
          split at hf
          · cases hf; rfl
          · cases hf
  · have hm0 : 1 ≤ m := by rw [← hmm, hb0]; simp
    have kz : ((m : Int) == 0) = false := beq_eq_false_iff_ne.2 (by omega)
    have hM := h.atM b0 hcame
    have hm1 : m = b0.length + 1 := by rw [← hmm, hb0]; simp
    obtain ⟨M0, hM0⟩ : ∃ M0, M0 = M := ⟨_, rfl⟩
    subst hM0
    obtain ⟨top0, htop0'⟩ : ∃ t, t = top := ⟨_, rfl⟩
    subst htop0'
    have htop0 : top0 = 0 ∨ top0 + L1.length < m := by have := hM.1; omega
    have HM0 : Hid (∀ f : Nat, (m : Int) - f ≤ (n : Nat) → ((M0 f ∨ lh = (f : Nat)) ↔ headAt (L1.map Prod.snd) b f)) := Lib.hid fun f hf => by
      rw [hM.2 f (by omega), hb0, head_snoc H.out.sng, ← hb0, HLH.out]
    have T0 := Lib.hid (Turned.refl h.it)
    clear h hT hmm hlh0 hlt0 hb0 hM hcame hm1
    go_enter Tryd.func43, Tryd.ntmps43
    obtain ⟨F1, hg1, ho1, hF1⟩ := T0.out
    obtain ⟨chb, -, -, -⟩ := hg1.cells
    have HC1 := Lib.hid (hg1.head c hc H.out.few.1 (N := fun i => lastS ((L1.map Prod.snd).take i) b) (last_nil b) HZ1.out)
    rw [show (L1.map Prod.snd).take L1.length = L1.map Prod.snd from List.take_of_length_le (by simp), HLH.out, HMM.out] at HC1
    have X1 := Lib.hid (And.intro ho1 hF1)
    clear hg1 ho1 hF1
    go_wp2_with fail
    refine HC1.out.mono ?_
    rintro e w1 ⟨rfl, t1⟩
    have T1 := Lib.hid (t1.then_ X1.out.1 X1.out.2)
    clear t1 X1 T0 HC1 chb
    by_cases hlh : lh = -1
    · have k1 : (lh != -1) = false := by rw [hlh]; rfl
      have HM1 : Hid (∀ f : Nat, (m : Int) - f ≤ (n : Nat) → (M0 f ↔ headAt (L1.map Prod.snd) b f)) := Lib.hid fun f hf => by
        rw [← HM0.out f hf]
        exact ⟨fun h => .inl h, fun h => h.elim id (fun h => by omega)⟩
      have htop1 : top0 ≤ 1099511627776 := by omega
      have htopm : top0 = 0 ∨ top0 + L1.length ≤ m := by omega
      have T2 := T1
      clear T1 HM0
      obtain ⟨w2, hw2⟩ : ∃ w2, w2 = w1 := ⟨_, rfl⟩
      have HW2 := Lib.hid hw2
      subst hw2
      obtain ⟨F2, hg2, ho2, hF2⟩ := T2.out
      obtain ⟨-, ctb, -, -⟩ := hg2.cells
      have HC2 := Lib.hid (hg2.tail c hc H.out.few.2 (N := fun i => lastS ((L2.map Prod.snd).take i) b) (last_nil b) HZ2.out)
      rw [show (L2.map Prod.snd).take L2.length = L2.map Prod.snd from List.take_of_length_le (by simp), HLT.out, HMM.out] at HC2
      have X2 := Lib.hid (And.intro ho2 hF2)
      clear hg2 ho2 hF2
      go_wp2_with fail
      refine HC2.out.mono ?_
      rintro e w3 ⟨rfl, t3⟩
      have T3 := Lib.hid (t3.then_ X2.out.1 X2.out.2)
      clear t3 X2 T2 HC2 ctb
      obtain ⟨F3, hg3, ho3, hF3⟩ := T3.out
      obtain ⟨-, -, cmb, -⟩ := hg3.cells
      have HC3 := Lib.hid (hg3.least (HT.out.only ho3 H.out.own) (fun k => (hF3 _ k).elim H.out.own (fun h => by have := HT.out.1; omega)) ((m : Int) - (n : Int)) ⟨by omega, by omega⟩ htop1)
      have X3 := Lib.hid (And.intro ho3 hF3)
      clear hg3 ho3 hF3
      go_wp2_with fail
      refine HC3.out.mono ?_
      rintro e w4 ⟨k, M', rfl, t4, hk1, hk2, hk3⟩
      have T4 := Lib.hid (t4.then_ X3.out.1 X3.out.2)
      have HK := Lib.hid (And.intro hk1 (And.intro hk2 hk3))
      clear t4 X3 T3 HC3 cmb hk1 hk2 hk3
      obtain ⟨F4, hg4, ho4, hF4⟩ := T4.out
      obtain ⟨-, -, -, cab⟩ := hg4.cells
      have Z : Hid (Turned (GloT v x n (some b)) F w w4) := Lib.hid ⟨F4, ⟨pb, hb, tb, mb, ab, a1, g1, a2, g2, _, L1, L2, st, M', _, _, { H.out with
          own := fun k => (hF4 _ k).elim H.out.own (fun h => by have := HT.out.1; omega)
          at1 := fun b' e i _ => by cases e; rfl
          at2 := fun b' e i _ => by cases e; rfl
          atM := fun b' e => by
            cases e
            refine ⟨by rw [HMM.out]; exact htopm, fun f hf => ?_⟩
            rw [HMM.out] at hf
            rw [HK.out.2.2 f (by omega)]
            exact HM1.out f hf
          top_ := htop1
          it := hg4 }⟩, ho4, hF4⟩
      clear hg4 ho4 hF4 T4
      have HSP := Lib.hid (span_glob (most := (n : Nat)) (k := k) (b := b) (m := L2.map Prod.snd) H.out.sng H.out.star
        (fun f e => ⟨(HM1.out f (by have := (HK.out.1 f e).2.1; omega)).1 ((HK.out.1 f e).1), by have := (HK.out.1 f e).2.1; rw [HMM.out]; omega, fun j hj hj2 hh => (HK.out.1 f e).2.2 j hj (by rw [HMM.out] at hj2; omega) ((HM1.out j (by rw [HMM.out] at hj2; exact hj2)).2 hh)⟩)
        (fun e j hj hh => HK.out.2.1 e j (by rw [HMM.out] at hj; omega) ((HM1.out j (by rw [HMM.out] at hj; exact hj)).2 hh)))
      rw [HLT.out, List.length_map] at HSP
      have HFG := Lib.hid (from_glob (n := n) (b := b) H.out.kind H.out.thg)
      cases k with
      | none =>
        have HN : Hid (fromS (n : Nat) b x = none) := Lib.hid (HFG.out.trans HSP.out)
        go_wp2_with fail
        go_quiet (fail)
        go_wp2_with fail
        go_ret2
        exact ⟨0, by rw [HN.out]; rfl, fun f hf => (by rw [HN.out] at hf; cases hf), Z.out.keep (glo_framed _ _ _ _) ⟨rfl, rfl, rfl, Nat.le_refl _, fun _ _ => rfl⟩⟩
      | some f =>
        obtain ⟨r, hr⟩ : ∃ r, decide ((f : Int) + (L1.length : Int) ≤ lt) = r := ⟨_, rfl⟩
        have HN : Hid (fromS (n : Nat) b x = if r = true then some f else none) := Lib.hid (by
          rw [HFG.out, HSP.out, ← hr]
          by_cases hle : (f : Int) + (L1.length : Int) ≤ lt
          · show (if ((f + L1.length : Nat) : Int) ≤ lt then some f else none) = _
            rw [if_pos (by omega), if_pos (decide_eq_true hle)]
          · show (if ((f + L1.length : Nat) : Int) ≤ lt then some f else none) = _
            rw [if_neg (by omega), if_neg (fun k => hle (of_decide_eq_true k))])
        have hf40 : (f : Int) ≤ 1099511627776 := by
          have h1 := (HM1.out f (by have := (HK.out.1 f rfl).2.1; omega)).1 (HK.out.1 f rfl).1
          have := h1.1
          rw [HMM.out] at this
          omega
        go_wp2_with fail
        go_quiet (fail)
        go_wp2_with fail
        go_ret2
        refine ⟨f, ?_, fun f' hf => ?_, Z.out.keep (glo_framed _ _ _ _) ⟨rfl, rfl, rfl, Nat.le_refl _, fun _ _ => rfl⟩⟩
        · rw [HN.out]
          cases r <;> simp
        · rw [HN.out] at hf
          split at hf
          · cases hf; rfl
          · cases hf
    · have k1 : (lh != -1) = true := by simpa using hlh
      obtain ⟨p, hp⟩ : ∃ p : Nat, lh = p := ⟨lh.toNat, by omega⟩
      have hpe : p + L1.length = m := by
        rcases last_row (r := L1.map Prod.snd) (b := b) H.out.sng with ⟨h, _⟩ | ⟨f, h, he, _⟩
        · rw [HLH.out] at h; omega
        · rw [HLH.out] at h
          rw [List.length_map, HMM.out] at he
          omega
      have HM1 : Hid (∀ f : Nat, (m : Int) - f ≤ (n : Nat) → ((M0 f ∨ f = p) ↔ headAt (L1.map Prod.snd) b f)) := Lib.hid fun f hf => by
        rw [← HM0.out f hf]
        constructor
        · rintro (h | h)
          · exact .inl h
          · exact .inr (by omega)
        · rintro (h | h)
          · exact .inl h
          · exact .inr (by omega)
      subst hp
      have htop1 : p ≤ 1099511627776 := by omega
      have htopm : p = 0 ∨ p + L1.length ≤ m := by omega
      obtain ⟨F1, hg1, ho1, hF1⟩ := T1.out
      have HC1 := Lib.hid (hg1.add p (by omega) htop1)
      have X1 := Lib.hid (And.intro ho1 hF1)
      clear hg1 ho1 hF1 HM0 hlh
      go_wp2_with fail
      refine HC1.out.mono ?_
      rintro e w2 ⟨rfl, t2⟩
      have T2 := Lib.hid (t2.then_ X1.out.1 X1.out.2)
      clear t2 X1 T1 HC1
      obtain ⟨F2, hg2, ho2, hF2⟩ := T2.out
      obtain ⟨-, ctb, -, -⟩ := hg2.cells
      have HC2 := Lib.hid (hg2.tail c hc H.out.few.2 (N := fun i => lastS ((L2.map Prod.snd).take i) b) (last_nil b) HZ2.out)
      rw [show (L2.map Prod.snd).take L2.length = L2.map Prod.snd from List.take_of_length_le (by simp), HLT.out, HMM.out] at HC2
      have X2 := Lib.hid (And.intro ho2 hF2)
      clear hg2 ho2 hF2
      go_wp2_with fail
      refine HC2.out.mono ?_
      rintro e w3 ⟨rfl, t3⟩
      have T3 := Lib.hid (t3.then_ X2.out.1 X2.out.2)
      clear t3 X2 T2 HC2 ctb
      obtain ⟨F3, hg3, ho3, hF3⟩ := T3.out
      obtain ⟨-, -, cmb, -⟩ := hg3.cells
      have HC3 := Lib.hid (hg3.least (HT.out.only ho3 H.out.own) (fun k => (hF3 _ k).elim H.out.own (fun h => by have := HT.out.1; omega)) ((m : Int) - (n : Int)) ⟨by omega, by omega⟩ htop1)
      have X3 := Lib.hid (And.intro ho3 hF3)
      clear hg3 ho3 hF3
      go_wp2_with fail
      refine HC3.out.mono ?_
      rintro e w4 ⟨k, M', rfl, t4, hk1, hk2, hk3⟩
      have T4 := Lib.hid (t4.then_ X3.out.1 X3.out.2)
      have HK := Lib.hid (And.intro hk1 (And.intro hk2 hk3))
      clear t4 X3 T3 HC3 cmb hk1 hk2 hk3
      obtain ⟨F4, hg4, ho4, hF4⟩ := T4.out
      obtain ⟨-, -, -, cab⟩ := hg4.cells
      have Z : Hid (Turned (GloT v x n (some b)) F w w4) := Lib.hid ⟨F4, ⟨pb, hb, tb, mb, ab, a1, g1, a2, g2, _, L1, L2, st, M', _, _, { H.out with
          own := fun k => (hF4 _ k).elim H.out.own (fun h => by have := HT.out.1; omega)
          at1 := fun b' e i _ => by cases e; rfl
          at2 := fun b' e i _ => by cases e; rfl
          atM := fun b' e => by
            cases e
            refine ⟨by rw [HMM.out]; exact htopm, fun f hf => ?_⟩
            rw [HMM.out] at hf
            rw [HK.out.2.2 f (by omega)]
            exact HM1.out f hf
          top_ := htop1
          it := hg4 }⟩, ho4, hF4⟩
      clear hg4 ho4 hF4 T4
      have HSP := Lib.hid (span_glob (most := (n : Nat)) (k := k) (b := b) (m := L2.map Prod.snd) H.out.sng H.out.star
        (fun f e => ⟨(HM1.out f (by have := (HK.out.1 f e).2.1; omega)).1 ((HK.out.1 f e).1), by have := (HK.out.1 f e).2.1; rw [HMM.out]; omega, fun j hj hj2 hh => (HK.out.1 f e).2.2 j hj (by rw [HMM.out] at hj2; omega) ((HM1.out j (by rw [HMM.out] at hj2; exact hj2)).2 hh)⟩)
        (fun e j hj hh => HK.out.2.1 e j (by rw [HMM.out] at hj; omega) ((HM1.out j (by rw [HMM.out] at hj; exact hj)).2 hh)))
      rw [HLT.out, List.length_map] at HSP
      have HFG := Lib.hid (from_glob (n := n) (b := b) H.out.kind H.out.thg)
      cases k with
      | none =>
        have HN : Hid (fromS (n : Nat) b x = none) := Lib.hid (HFG.out.trans HSP.out)
        go_wp2_with fail
        go_quiet (fail)
        go_wp2_with fail
        go_ret2
        exact ⟨0, by rw [HN.out]; rfl, fun f hf => (by rw [HN.out] at hf; cases hf), Z.out.keep (glo_framed _ _ _ _) ⟨rfl, rfl, rfl, Nat.le_refl _, fun _ _ => rfl⟩⟩
      | some f =>
        obtain ⟨r, hr⟩ : ∃ r, decide ((f : Int) + (L1.length : Int) ≤ lt) = r := ⟨_, rfl⟩
        have HN : Hid (fromS (n : Nat) b x = if r = true then some f else none) := Lib.hid (by
          rw [HFG.out, HSP.out, ← hr]
          by_cases hle : (f : Int) + (L1.length : Int) ≤ lt
          · show (if ((f + L1.length : Nat) : Int) ≤ lt then some f else none) = _
            rw [if_pos (by omega), if_pos (decide_eq_true hle)]
          · show (if ((f + L1.length : Nat) : Int) ≤ lt then some f else none) = _
            rw [if_neg (by omega), if_neg (fun k => hle (of_decide_eq_true k))])
        have hf40 : (f : Int) ≤ 1099511627776 := by
          have h1 := (HM1.out f (by have := (HK.out.1 f rfl).2.1; omega)).1 (HK.out.1 f rfl).1
          have := h1.1
          rw [HMM.out] at this
          omega
        go_wp2_with fail
        go_quiet (fail)
        go_wp2_with fail
        go_ret2
        refine ⟨f, ?_, fun f' hf => ?_, Z.out.keep (glo_framed _ _ _ _) ⟨rfl, rfl, rfl, Nat.le_refl _, fun _ _ => rfl⟩⟩
        · rw [HN.out]
          cases r <;> simp
        · rw [HN.out] at hf
          split at hf
          · cases hf; rfl
          · cases hf
end Go.Proofs.YtcipljpalohjiaaDoor
namespace Go.Proofs.YtcipljpalohjiaaDoor
open Go.RowKit

theorem iz_made (n : Nat) : madeCells (Value.int .i64 0).cells n = iz n (fun _ => 0) := by
  apply Array.ext_getElem?
  intro j
  by_cases hj : j < n
  · rw [iz_at _ hj]
    simp [madeCells, hj, Value.cells, Nat.mod_one]
  · rw [Array.getElem?_eq_none (by rw [size_madeCells]; omega), Array.getElem?_eq_none (by rw [iz_size]; omega)]
theorem made_iz {n : Nat} (hn : n ≤ 1024) (W : World) : (Instr.makeSlice 46 (.int .i64 ((n : Int) + 1)) (.int .i64 ((n : Int) + 1))).run Tryd.prog W = .ok (.slice (some ⟨W.heap.size, 0, none⟩) (n + 1) (n + 1)) (W.alloc (.cells (iz (n + 1) (fun _ => 0)) 3)) := by
  obtain ⟨i0, hi, hz0, hz1, hz2⟩ := info_parts int_info
  have h := run_make (P := Tryd.prog) W 46 3 i0 (.int .i64 0) Tryd.underlying46 hi hz0 .i64 .i64 ((n : Int) + 1) ((n : Int) + 1) (by omega) (by omega) (by rw [hz2]; omega) (by omega)
  rw [hz1, show ((n : Int) + 1).toNat = n + 1 by omega, Nat.mul_one, iz_made] at h
  exact h
/-- The bytes of a text. -/
theorem conv_bytes (l : List Nat) (hl : ∀ c ∈ l, c < 256) (w : World) : ∃ W' cap, (convert 9 22 (.string (str l))).run Tryd.prog w = .ok (.slice (some ⟨w.heap.size, 0, none⟩) l.length cap) W' ∧ Rd W' (.slice (some ⟨w.heap.size, 0, none⟩) l.length cap) (bv l) ∧ Below w.heap.size w W' := by
  refine ⟨Lib.bytesWorld w 5 (str l), grownCap w l.length 0 5, ?_, ?_, ?_⟩
  · have := Lib.run_convert_string_bytes (P := Tryd.prog) w 9 22 5 (str l) Tryd.underlying9 Tryd.underlying22 Tryd.underlying5
    rw [str_len] at this
    exact this
  · have hb : (bv l).length = l.length := List.length_map _
    refine ⟨_, _, by rw [hb], by rw [hb]; exact grownCap_ge _ _ _ _, fun u hu => by obtain ⟨z, _, rfl⟩ := List.mem_map.1 hu; rfl, fun _ => ⟨_, _, rfl, fun j u hj => ?_⟩⟩
    have hlt := (List.getElem?_eq_some_iff.1 hj).1
    rw [hb] at hlt
    obtain ⟨d, hd⟩ : ∃ d, l[j]? = some d := ⟨_, List.getElem?_eq_getElem hlt⟩
    rw [bv, List.getElem?_map, hd] at hj
    cases hj
    rw [Nat.zero_add, Lib.bytesWorld_cell w _ _ j (by rw [str_len]; exact hlt)]
    obtain ⟨hk, e⟩ := str_at hl hd
    have e2 : (str l).data.toList.getD j 0 = (str l)[j]'hk := by
      have e3 : (str l).data[j]? = some ((str l).data[j]'hk) := Array.getElem?_eq_getElem hk
      rw [List.getD_eq_getElem?_getD, Array.getElem?_toList, e3]
      rfl
    rw [e2, e]
  · exact ⟨rfl, rfl, rfl, by rw [Lib.bytesWorld_size]; omega, fun j hj => Lib.bytesWorld_at_old w _ _ j hj⟩

theorem Row.rdT {w : World} {e : TypeId} {g : Option Nat} {v : Value} {xs : List Value} (h : Row w e g v xs) : RdT (fun b => g = some b) w v xs := by
  refine ⟨h.rd, fun b o n c ev hp => ?_⟩
  obtain ⟨A, c', rfl, hle, hm, h1, hg⟩ := h
  injection ev with e1 e2 e3
  rcases hg with ⟨rfl, _⟩ | ⟨b0, o0, cs, hc, hgb, eA, _⟩
  · omega
  · rw [e1] at eA
    injection eA with eA
    cases eA
    exact hgb
/-- A trail that a call has made. -/
structure NewTr (V V' : World) (a g : Nat) (v : Value) (n : Nat) : Prop where
  a0 : V.heap.size ≤ a
  g0 : V.heap.size ≤ g
  ba : Blk V' a 106 #[v, .slice (some ⟨g, 0, none⟩) (n + 1) (n + 1)]
  bg : Blk V' g 3 (iz (n + 1) fun _ => 0)
  below : Below V.heap.size V V'
set_option maxRecDepth 100000 in
set_option maxHeartbeats 2000000 in
theorem newTrail_is (A : Option Addr) (n c : Nat) (hn : n ≤ 1024) (w : World) :
    Calls Tryd.prog 42 #[.slice A n c] w fun e w' => ∃ a g, e = .returned (.pointer (some ⟨a, 0, none⟩)) ∧ NewTr w w' a g (.slice A n c) n := by
  go_enter Tryd.func42, Tryd.ntmps42
  have hmk := made_iz hn w
  go_wp2_with fail
  go_ret
  have b1 := (Below.refl w.heap.size w).alloc (Nat.le_refl _) (.cells (iz (n + 1) fun _ => 0) 3)
  have b2 := b1.alloc b1.size (.cells #[.slice A n c, .slice (some ⟨w.heap.size, 0, none⟩) (n + 1) (n + 1)] 106)
  have g1 := (Blk.new w 3 (iz (n + 1) fun _ => 0)).alloc (.cells #[.slice A n c, .slice (some ⟨w.heap.size, 0, none⟩) (n + 1) (n + 1)] 106)
  have a1 := Blk.new (w.alloc (.cells (iz (n + 1) fun _ => 0) 3)) 106 #[.slice A n c, .slice (some ⟨w.heap.size, 0, none⟩) (n + 1) (n + 1)]
  rw [World.size_alloc] at a1
  exact ⟨_, _, rfl, by omega, Nat.le_refl _, a1, g1, b2⟩
set_option maxRecDepth 100000 in
set_option maxHeartbeats 2000000 in
theorem lookNever_is (x : Brc) (n : Nat) (hx : x.kind = 2 ∨ x.kind = 3 ∨ x.kind = 0 ∧ n < x.pat.length) (w : World) :
    Calls Tryd.prog 29 #[] w fun e w' => ∃ v, e = .returned v ∧ NevT v x n (fun _ => False) w' ∧ w = w' := by
  go_enter Tryd.func29, Tryd.ntmps29
  go_wp2_with fail
  go_ret
  exact ⟨_, rfl, ⟨fun _ e => e.elim, rfl, hx⟩, rfl⟩
set_option maxRecDepth 100000 in
set_option maxHeartbeats 4000000 in
theorem lookExact_is (x : Brc) (n : Nat) (hk : x.kind = 0) (hp : ∀ c ∈ x.pat, c < 256) (hl : x.pat.length ≤ 9223372036854775807) (hn : n ≤ 1048576) (w : World) :
    Calls Tryd.prog 26 #[.int .i64 (n : Nat), .string (str x.pat)] w fun e w' => ∃ v F, e = .returned v ∧ (NevT v x n F w' ∨ ExT v x n none F w') ∧ (∀ b, F b → w.heap.size ≤ b) ∧ Below w.heap.size w w' := by
  have hsz := str_len x.pat
  have hmf : ∀ (fn : Fn) (first cap : Array Value) (w : World), (Instr.makeFunc fn first cap).run Tryd.prog w = .ok (.func fn first cap) w := fun _ _ _ _ => rfl
  have hb1 := (Below.refl w.heap.size w).alloc (Nat.le_refl _) (.cells #[.string (str x.pat)] 9)
  have HB1 := Lib.hid hb1
  by_cases hlt : n < x.pat.length
  · have r1 : decide ((n : Int) < (x.pat.length : Int)) = true := decide_eq_true (by omega)
    have HN := Lib.hid (lookNever_is x n (.inr (.inr ⟨hk, hlt⟩)) (w.alloc (.cells #[.string (str x.pat)] 9)))
    clear hp hk hb1 hmf
    go_enter Tryd.func26, Tryd.ntmps26
    go_wp2_with fail
    refine HN.out.mono ?_
    rintro e w1 ⟨v, rfl, hv, rfl⟩
    go_wp2_with fail
    go_ret
    exact ⟨v, _, rfl, .inl hv, fun _ e => e.elim, HB1.out⟩
  · have r1 : decide ((n : Int) < (x.pat.length : Int)) = false := decide_eq_false (by omega)
    have HK := Lib.hid hk
    have HP := Lib.hid hp
    have hl2 : x.pat.length ≤ n := by omega
    have B0 := Lib.hid (Blk.new w 9 #[.string (str x.pat)])
    obtain ⟨w2, cap, hcv, hrd, hb2⟩ := conv_bytes x.pat hp (w.alloc (.cells #[.string (str x.pat)] 9))
    have X2 := Lib.hid (hb1.trans (hb2.mono hb1.size))
    have C2 := Lib.hid (B0.out.below hb2 B0.out.lt)
    have HN := Lib.hid (New_b _ _ _ _ w2 (by rw [← bv_cv]; exact hrd) (by rw [ni_len]; omega))
    rw [World.size_alloc] at hcv
    rw [World.size_alloc] at HN
    clear hrd hp hk hb1 hb2
    go_enter Tryd.func26, Tryd.ntmps26
    go_wp2_with fail
    refine HN.out.mono ?_
    rintro e w3 ⟨q, rfl, hsa, hb3⟩
    have S3 := Lib.hid hsa
    have C3 := Lib.hid (C2.out.below hb3 C2.out.lt)
    have X3 := Lib.hid (X2.out.trans (hb3.mono X2.out.size))
    have L2 := Lib.hid (And.intro C2.out.lt hb3.size)
    clear hsa hb3 HN hcv C2 X2
    go_wp2_with fail
    go_ret
    have hs := S3.out
    obtain ⟨A1, c1, gp, gb, h1, h2, h3, t1, t2, t3⟩ := hs
    obtain ⟨l1, l2⟩ := L2.out
    have sB : SAtB (fun b => w2.heap.size ≤ b ∧ b < w3.heap.size) w3 q (ni x.pat) 0 := ⟨A1, c1, gp, gb, h1, h2, h3, ⟨t1, h1.lt⟩, ⟨t2, h3.lt⟩, fun b e => ⟨t3 b e, h2.lt e⟩⟩
    have n1 := Blk.new w3 73 #[.pointer (some ⟨q, 0, none⟩)]
    have n2 := C3.out.alloc (.cells #[.pointer (some ⟨q, 0, none⟩)] 73)
    refine ⟨exV w3.heap.size w.heap.size, fun b => (b = w3.heap.size ∨ b = w.heap.size) ∨ (w2.heap.size ≤ b ∧ b < w3.heap.size), rfl, .inr ⟨w3.heap.size, w.heap.size, q, 0, ⟨rfl, HK.out, hl2, HP.out, fun b e => (by cases e), ⟨fun b => b = w3.heap.size ∨ b = w.heap.size, fun b => w2.heap.size ≤ b ∧ b < w3.heap.size, ⟨⟨fun b hb => ?_, .inl rfl, .inr rfl, n1, n2⟩, ⟨fun b hb => ?_, sB.alloc _⟩, fun b ha hb => ?_, fun _ => Iff.rfl⟩⟩⟩⟩, fun b hb => ?_, X3.out.alloc X3.out.size _⟩
    · rw [World.size_alloc]; omega
    · rw [World.size_alloc]; omega
    · omega
    · have := X3.out.size; omega
/-! ### A pattern without a star -/
set_option maxRecDepth 100000 in
set_option maxHeartbeats 4000000 in
theorem lookRow_is (x : Brc) (n : Nat) (hk : x.kind = 1) {w0 w : World} {v : Value} {L : List VT} {g0 : Option Nat} {F0 : Nat → Prop} (hT : ThsF w0 w v L g0 F0) (hn : L.length ≤ 1024) (ht : thingsS x.pat = some (L.map Prod.snd)) (hs : ∀ t ∈ L.map Prod.snd, t.any = false) :
    Calls Tryd.prog 41 #[.int .i64 (n : Nat), v] w fun e w' => ∃ v F, e = .returned v ∧ RowT v x n none F w' ∧ (∀ b, F b → w0.heap.size ≤ b) ∧ Below w.heap.size w w' := by
  have hmf : ∀ (fn : Fn) (first cap : Array Value) (w : World), (Instr.makeFunc fn first cap).run Tryd.prog w = .ok (.func fn first cap) w := fun _ _ _ _ => rfl
  have H := Lib.hid hT
  obtain ⟨A, c, hv⟩ := hT.row.form
  rw [List.length_map] at hv
  subst hv
  have hb1 := Lib.hid ((Below.refl w.heap.size w).alloc (Nat.le_refl _) (.cells #[.int .i64 (n : Nat)] 3))
  have B0 := Lib.hid (Blk.new w 3 #[.int .i64 (n : Nat)])
  have HK := Lib.hid (And.intro hk (And.intro hn (And.intro ht hs)))
  have HN := Lib.hid (newTrail_is A L.length c hn (w.alloc (.cells #[.int .i64 (n : Nat)] 3)))
  clear hT hk ht hs
  go_enter Tryd.func41, Tryd.ntmps41
  go_wp2_with fail
  refine HN.out.mono ?_
  rintro e w2 ⟨a, g, rfl, tr⟩
  have TR := Lib.hid tr
  clear tr HN
  go_wp2_with fail
  go_ret
  have tr := TR.out
  have h := H.out
  have hs1 := hb1.out.size
  have e1 : (w.alloc (.cells #[.int .i64 (n : Nat)] 3)).heap.size = w.heap.size + 1 := World.size_alloc _ _
  have a0 := tr.a0
  have g0' := tr.g0
  have hlta := tr.ba.lt
  have hltg := tr.bg.lt
  have hag : a ≠ g := tr.ba.ne_ tr.bg (by decide)
  rw [e1] at a0 g0'
  have hw := h.below.size
  have hw2 := (tr.below).size
  rw [e1] at hw2
  have bel : Below w.heap.size w (w2.alloc (.cells #[.pointer (some ⟨a, 0, none⟩)] 85)) := (hb1.out.trans (tr.below.mono hs1)).alloc (Nat.le_trans hs1 (tr.below).size) _
  have hst := (Stars.framed (ones_framed L)).only h.st (Only.of_below bel (Nat.le_refl _) (fun _ => False)) (fun _ _ e => e)
  have hlst := (Stars.framed (ones_framed L)).lt h.st
  have hrow := h.row.below bel (fun b e => h.row.lt e)
  refine ⟨rowV w2.heap.size w.heap.size, fun b => (b = w2.heap.size ∨ b = w.heap.size ∨ b = a ∨ g0 = some b) ∨ (b = g ∨ F0 b), rfl, ⟨w2.heap.size, w.heap.size, a, g, L, fun _ => 0, ⟨rfl, HK.out.1, hn, HK.out.2.2.1, HK.out.2.2.2, fun b e => (by cases e), ⟨fun b => b = w2.heap.size ∨ b = w.heap.size ∨ b = a ∨ g0 = some b, fun b => b = g ∨ F0 b, ⟨⟨.inl rfl, .inr (.inl rfl), Blk.new w2 _ _, ?_, fun b hb => ?_, .inr (.inr (.inl rfl)), A, c, tr.ba.alloc _, hrow.rdT.mono fun b e => .inr (.inr (.inr e))⟩, ⟨fun b => b = g, F0, ⟨⟨fun b hb => ?_, rfl, tr.bg.alloc _⟩, hst, fun b hb hf => ?_, fun _ => Iff.rfl⟩⟩, fun b hb hc => ?_, fun _ => Iff.rfl⟩⟩⟩⟩, fun b hb => ?_, bel⟩
  · exact (B0.out.below tr.below (by rw [e1]; omega)).alloc _
  · rw [World.size_alloc]
    rcases hb with rfl | rfl | rfl | hb
    · omega
    · omega
    · omega
    · have := h.row.lt hb; omega
  · rw [World.size_alloc]; omega
  · have := hlst b hf; omega
  · rcases hc with rfl | hf
    · rcases hb with rfl | rfl | hb | hb
      · omega
      · omega
      · exact hag hb.symm
      · have := h.row.lt hb; omega
    · have hlt := hlst b hf
      rcases hb with rfl | rfl | hb | hb
      · omega
      · omega
      · omega
      · exact h.ap b hb hf
  · rcases hb with (rfl | rfl | rfl | hb) | (rfl | hb)
    · omega
    · omega
    · omega
    · exact h.new b hb
    · omega
    · exact h.nst b hb
end Go.Proofs.YtcipljpalohjiaaDoor
namespace Go.Proofs.YtcipljpalohjiaaDoor
open Go.RowKit

theorem Stars.split {w : World} : ∀ {l m : List Thing} {F : Nat → Prop}, Stars (l ++ m) F w → ∃ A B, Stars l A w ∧ Stars m B w ∧ (∀ b, A b → ¬ B b) ∧ ∀ b, A b ∨ B b → F b
  | [], m, F, h => ⟨fun _ => False, F, fun _ e => e.elim, h, fun _ e => e.elim, fun b hb => hb.elim (fun e => e.elim) id⟩
  | P :: l, m, F, h => by
    obtain ⟨A, B, hs⟩ := h
    obtain ⟨A1, B1, h1, h2, h3, h4⟩ := Stars.split (l := l) (m := m) hs.snd
    refine ⟨fun b => A b ∨ A1 b, B1, ⟨A, A1, hs.fst, h1, fun b ha hb => hs.ap b ha (h4 b (.inl hb)), fun _ => Iff.rfl⟩, h2, fun b ha hb => ?_, fun b hb => (hs.un b).2 ?_⟩
    · rcases ha with ha | ha
      · exact hs.ap b ha (h4 b (.inr hb))
      · exact h3 b ha hb
    · rcases hb with (hb | hb) | hb
      · exact .inl hb
      · exact .inr (h4 b (.inl hb))
      · exact .inr (h4 b (.inr hb))

/-! ### Two trails and their boxes, made in any order -/
structure TrB (w V : World) (a g : Nat) (v : Value) (n : Nat) : Prop where
  a0 : w.heap.size ≤ a
  g0 : w.heap.size ≤ g
  ba : Blk V a 106 #[v, .slice (some ⟨g, 0, none⟩) (n + 1) (n + 1)]
  bg : Blk V g 3 (iz (n + 1) fun _ => 0)
abbrev box0 : Obj := .cells #[.pointer none] 85
structure Made2 (w V : World) (v1 v2 : Value) (n1 n2 : Nat) (t1 t2 : Option (Nat × Nat)) (bs : List Nat) : Prop where
  below : Below w.heap.size w V
  m1 : ∀ a g, t1 = some (a, g) → TrB w V a g v1 n1
  m2 : ∀ a g, t2 = some (a, g) → TrB w V a g v2 n2
  bx : ∀ b ∈ bs, w.heap.size ≤ b ∧ Blk V b 85 #[.pointer none]
  ne : ∀ p q, t1 = some p → t2 = some q → p.1 ≠ q.1 ∧ p.2 ≠ q.2
  nd : bs.Nodup
section
variable {w V V' : World} {v1 v2 : Value} {n1 n2 : Nat} {t1 t2 : Option (Nat × Nat)} {bs : List Nat} {a g : Nat}
theorem TrB.below {v : Value} {n : Nat} (h : TrB w V a g v n) (hb : Below V.heap.size V V') : TrB w V' a g v n := { h with ba := h.ba.below hb h.ba.lt, bg := h.bg.below hb h.bg.lt }
theorem Made2.start (h : Below w.heap.size w V) : Made2 w V v1 v2 n1 n2 none none [] := ⟨h, by simp, by simp, by simp, by simp, by simp⟩
theorem Made2.keep (h : Made2 w V v1 v2 n1 n2 t1 t2 bs) (hb : Below V.heap.size V V') : Made2 w V' v1 v2 n1 n2 t1 t2 bs :=
  ⟨h.below.trans (hb.mono h.below.size), fun a g e => (h.m1 a g e).below hb, fun a g e => (h.m2 a g e).below hb, fun b hb2 => ⟨(h.bx b hb2).1, (h.bx b hb2).2.below hb (h.bx b hb2).2.lt⟩, h.ne, h.nd⟩
theorem Made2.call1 (h : Made2 w V v1 v2 n1 n2 none none bs) (k : NewTr V V' a g v1 n1) : Made2 w V' v1 v2 n1 n2 (some (a, g)) none bs := by
  have h2 := h.keep k.below
  have hs := h.below.size
  exact { h2 with m1 := fun a' g' e => by cases e; exact ⟨Nat.le_trans hs k.a0, Nat.le_trans hs k.g0, k.ba, k.bg⟩, ne := by simp }
theorem Made2.call2 {p : Nat × Nat} (h : Made2 w V v1 v2 n1 n2 (some p) none bs) (k : NewTr V V' a g v2 n2) : Made2 w V' v1 v2 n1 n2 (some p) (some (a, g)) bs := by
  have h2 := h.keep k.below
  have hs := h.below.size
  refine { h2 with m2 := fun a' g' e => by cases e; exact ⟨Nat.le_trans hs k.a0, Nat.le_trans hs k.g0, k.ba, k.bg⟩, ne := fun p' q' e1 e2 => ?_ }
  cases e1
  cases e2
  have t := h.m1 p.1 p.2 rfl
  have := t.ba.lt
  have := t.bg.lt
  have := k.a0
  have := k.g0
  constructor <;> show _ ≠ _ <;> omega
theorem Made2.box (h : Made2 w V v1 v2 n1 n2 t1 t2 bs) : Made2 w (V.alloc box0) v1 v2 n1 n2 t1 t2 (V.heap.size :: bs) := by
  have h2 := h.keep ((Below.refl V.heap.size V).alloc (Nat.le_refl _) box0)
  refine { h2 with bx := fun b hb => ?_, nd := ?_ }
  · rcases List.mem_cons.1 hb with rfl | hb
    · exact ⟨h.below.size, Blk.new V _ _⟩
    · exact h2.bx b hb
  · refine List.nodup_cons.2 ⟨fun hm => ?_, h.nd⟩
    have := (h.bx _ hm).2.lt
    omega
end

theorem ThsF.keep {w W W' : World} {v : Value} {L : List VT} {g : Option Nat} {F : Nat → Prop} (h : ThsF w W v L g F) (hb : Below W.heap.size W W') : ThsF w W' v L g F := by
  have ho : Only (fun _ => False) W W' := Only.of_below hb (Nat.le_refl _) _
  exact ⟨h.row.below hb (fun b e => h.row.lt e), h.new, (Stars.framed (ones_framed L)).only h.st ho (fun _ _ e => e), h.nst, h.ap, h.below.trans (hb.mono h.below.size)⟩
set_option maxRecDepth 100000 in
/-- A row's beginning, and what is behind one more. -/
theorem row_cuts {w : World} {g : Option Nat} {A : Option Addr} {c i : Nat} {xs : List Value} (h : Row w 82 g (.slice A xs.length c) xs) (hi : i < xs.length) :
    ∃ A2 c2, (∀ W, (Instr.slice 79 (.slice A xs.length c) none (some (.int .i64 (i : Nat))) none).run Tryd.prog W = .ok (.slice A i c) W) ∧ RdT (fun b => g = some b) w (.slice A i c) (xs.take i) ∧
      (∀ W, (Instr.slice 79 (.slice A xs.length c) (some (.int .i64 ((i : Int) + 1))) none none).run Tryd.prog W = .ok (.slice A2 (xs.length - (i + 1)) c2) W) ∧ RdT (fun b => g = some b) w (.slice A2 (xs.length - (i + 1)) c2) (xs.drop (i + 1)) := by
  obtain ⟨A0, c0, e1, hle, hm, h1, hg⟩ := h
  injection e1 with e1 e2 e3
  subst e1 e3
  rcases hg with ⟨e, _⟩ | ⟨b, o, cs, hc, hgb, rfl, hb, hoc, hcell⟩
  · omega
  obtain ⟨i0, hi0, hz0, hz1, hz2⟩ := info_parts thing_info
  have hs : ∀ W, (sizeOf (Tryd.prog.elem 79)).run Tryd.prog W = .ok 1 W := fun W => by
    rw [show Tryd.prog.elem 79 = 82 by kernel_rfl]
    simp [sizeOf, typeInfo, hi0, hz1]
  have hlt : (xs.take i).length = i := by rw [List.length_take]; omega
  have hld : (xs.drop (i + 1)).length = xs.length - (i + 1) := List.length_drop
  refine ⟨if c = i + 1 then some ⟨b, o, none⟩ else some ⟨b, o + (i + 1), none⟩, c - (i + 1), fun W => ?_, ⟨⟨_, _, by rw [hlt], by omega, fun u hu => h1 u (List.mem_of_mem_take hu), fun _ => ⟨b, o, rfl, fun j u hj => ?_⟩⟩, fun b' o' n' c' ev hp => ?_⟩, fun W => ?_, ⟨⟨_, _, by rw [hld], by omega, fun u hu => h1 u (List.mem_of_mem_drop hu), fun hp => ?_⟩, fun b' o' n' c' ev hp => ?_⟩⟩
  · rw [run_slice_h W 79 (some ⟨b, o, none⟩) xs.length c (by kernel_rfl) .i64 (i : Int) (by omega) (by omega), hs]
    simp [Result.andThen, sliced, Addr.add]
  · have hj2 := (List.getElem?_eq_some_iff.1 hj).1
    rw [List.getElem?_take, if_pos (by omega)] at hj
    exact (cell_of_row w b (o + j) cs 82 (0, 0) hb).trans (hcell j u hj)
  · injection ev with e1 e2 e3
    injection e1 with e1
    cases e1
    exact hgb
  · rw [run_slice_l W 79 (some ⟨b, o, none⟩) xs.length c (by kernel_rfl) .i64 ((i : Int) + 1) (by omega) (by omega), hs, show ((i : Int) + 1).toNat = i + 1 by omega]
    by_cases h1c : c = i + 1
    · simp [Result.andThen, sliced, h1c]
    · simp [Result.andThen, sliced, h1c, Addr.add]
  · rw [hld] at hp
    rw [if_neg (by omega)]
    refine ⟨b, o + (i + 1), rfl, fun j u hj => ?_⟩
    rw [List.getElem?_drop] at hj
    rw [show o + (i + 1) + j = o + (i + 1 + j) by omega]
    exact (cell_of_row w b (o + (i + 1 + j)) cs 82 (0, 0) hb).trans (hcell (i + 1 + j) u hj)
  · rw [hld] at hp
    rw [if_neg (by omega)] at ev
    injection ev with e1 e2 e3
    injection e1 with e1
    cases e1
    exact hgb

/-- One of three may come up. -/
theorem wpUpto.three {P : Program} {ops : Array Oper} {Q : Exit → Act → World → Prop} {md : Region.Mode} {S : World → Prop} {m : Nat} (i j k : Nat) {n : Nat} {l : Array Bool} {a : Act} {w : World} (hr : Region.ready md ops l = [i, j, k])
    (h1 : ∀ o, ops[i]? = some o → ∀ K : Act → World → Prop, Shut (∀ a w, S w → (S w → wpUpto P md ops Q S m n (l.setIfInBounds i true) a w) → K a w) → if Region.wanted o (yielded ops a.tmps) = true then Oper.wp P o a w K Q else K (a.put o.dst undef) w)
    (h2 : ∀ o, ops[j]? = some o → ∀ K : Act → World → Prop, Shut (∀ a w, S w → (S w → wpUpto P md ops Q S m n (l.setIfInBounds j true) a w) → K a w) → if Region.wanted o (yielded ops a.tmps) = true then Oper.wp P o a w K Q else K (a.put o.dst undef) w)
    (h3 : ∀ o, ops[k]? = some o → ∀ K : Act → World → Prop, Shut (∀ a w, S w → (S w → wpUpto P md ops Q S m n (l.setIfInBounds k true) a w) → K a w) → if Region.wanted o (yielded ops a.tmps) = true then Oper.wp P o a w K Q else K (a.put o.dst undef) w) :
    wpUpto P md ops Q S m (n + 1) l a w := by
  refine ⟨fun h0 => absurd (hr ▸ h0) (by simp), fun q hq => ?_⟩
  obtain ⟨_, o, ho, _⟩ := mem_ready.1 hq
  rw [hr] at hq
  simp only [List.mem_cons, List.not_mem_nil, or_false] at hq
  rcases hq with rfl | rfl | rfl
  · exact wpOp_step ho fun K hK => h1 o ho K (fun a w hS hx => hK a w ⟨fun _ => hS, hx hS⟩)
  · exact wpOp_step ho fun K hK => h2 o ho K (fun a w hS hx => hK a w ⟨fun _ => hS, hx hS⟩)
  · exact wpOp_step ho fun K hK => h3 o ho K (fun a w hS hx => hK a w ⟨fun _ => hS, hx hS⟩)
theorem wpUpto.pair {P : Program} {ops : Array Oper} {Q : Exit → Act → World → Prop} {md : Region.Mode} {S : World → Prop} {m : Nat} (i j : Nat) {n : Nat} {l : Array Bool} {a : Act} {w : World} (hr : Region.ready md ops l = [i, j])
    (h1 : ∀ o, ops[i]? = some o → ∀ K : Act → World → Prop, Shut (∀ a w, S w → (S w → wpUpto P md ops Q S m n (l.setIfInBounds i true) a w) → K a w) → if Region.wanted o (yielded ops a.tmps) = true then Oper.wp P o a w K Q else K (a.put o.dst undef) w)
    (h2 : ∀ o, ops[j]? = some o → ∀ K : Act → World → Prop, Shut (∀ a w, S w → (S w → wpUpto P md ops Q S m n (l.setIfInBounds j true) a w) → K a w) → if Region.wanted o (yielded ops a.tmps) = true then Oper.wp P o a w K Q else K (a.put o.dst undef) w) :
    wpUpto P md ops Q S m (n + 1) l a w := by
  refine ⟨fun h0 => absurd (hr ▸ h0) (by simp), fun q hq => ?_⟩
  obtain ⟨_, o, ho, _⟩ := mem_ready.1 hq
  rw [hr] at hq
  simp only [List.mem_cons, List.not_mem_nil, or_false] at hq
  rcases hq with rfl | rfl
  · exact wpOp_step ho fun K hK => h1 o ho K (fun a w hS hx => hK a w ⟨fun _ => hS, hx hS⟩)
  · exact wpOp_step ho fun K hK => h2 o ho K (fun a w hS hx => hK a w ⟨fun _ => hS, hx hS⟩)
theorem below_put {w0 V : World} (h : Below w0.heap.size w0 V) {p : Addr} (hp : w0.heap.size ≤ p.block) (u : Value) : Below w0.heap.size w0 (V.setCell p u) :=
  h.trans ⟨rfl, rfl, rfl, by simp [World.setCell], fun k hk => Below.heap_setCell _ _ _ k (by omega)⟩

set_option maxHeartbeats 2000000 in
/-- What looks for a pattern with a star, behind all that was made. -/
theorem glo_made {w w1 w5 V : World} {x : Brc} {n i n2 c c2 : Nat} {A A2 : Option Addr} {L : List VT} {st : Thg} {g0 : Option Nat} {F0 : Nat → Prop} {a1 g1 a2 g2 b7 b8 ab : Nat} {bs : List Nat}
    (hk : x.kind = 1) (hg : 0 < w.heap.size) (ht : thingsS x.pat = some (L.map Prod.snd)) (hL : L.length ≤ 1024)
    (hT : ThsF (w.alloc (.cells #[.int .i64 (n : Nat)] 3)) w1 (.slice A L.length c) L g0 F0) (hst : (L.map Prod.snd)[i]? = some st) (hany : st.any = true) (hsng : ∀ y ∈ (L.map Prod.snd).take i, y.any = false)
    (hn2 : n2 = L.length - (i + 1)) (h1 : RdT (fun b => g0 = some b) w1 (.slice A i c) ((L.map Prod.fst).take i)) (h2 : RdT (fun b => g0 = some b) w1 (.slice A2 n2 c2) ((L.map Prod.fst).drop (i + 1)))
    (hab : ab = w1.heap.size) (h15 : Below w1.heap.size w1 w5) (hlab : ab < w5.heap.size) (hm : Made2 w5 V (.slice A i c) (.slice A2 n2 c2) i n2 (some (a1, g1)) (some (a2, g2)) bs) (h7 : b7 ∈ bs) (h8 : b8 ∈ bs) (h78 : b7 ≠ b8)
    (hbm : Blk w5 w.heap.size 3 #[.int .i64 (n : Nat)]) (hba : Blk w5 ab 3 #[.int .i64 (i : Nat)]) (hb0 : Below w.heap.size w w1) {W2 : World}
    (hW : W2 = ((V.setCell ⟨b7, 0, none⟩ (.pointer (some ⟨a1, 0, none⟩))).setCell ⟨b8, 0, none⟩ (.pointer (some ⟨a2, 0, none⟩))).alloc (.cells #[.slice none 0 0, .int .i64 0] 89)) :
    ∃ F, GloT (gloV V.heap.size b7 b8 w.heap.size ab) x n none F W2 ∧ (∀ b, F b → w.heap.size ≤ b) ∧ Below w.heap.size w W2 := by
  subst hW
  have hi : i < L.length := by have := (List.getElem?_eq_some_iff.1 hst).1; rwa [List.length_map] at this
  obtain ⟨⟨u, st'⟩, hx⟩ : ∃ y, L[i]? = some y := ⟨_, List.getElem?_eq_getElem hi⟩
  have hst2 : st' = st := by rw [List.getElem?_map, hx] at hst; exact Option.some.inj hst
  subst hst2
  have eL : L = L.take i ++ (u, st') :: L.drop (i + 1) := by
    conv => lhs; rw [← List.take_append_drop i L, List.drop_eq_getElem_cons hi, (List.getElem?_eq_some_iff.1 hx).2]
  have l1 : (L.take i).length = i := by rw [List.length_take]; omega
  have l2 : (L.drop (i + 1)).length = n2 := by rw [List.length_drop, hn2]
  obtain ⟨t1, t2⟩ := hm.m1 a1 g1 rfl, hm.m2 a2 g2 rfl
  obtain ⟨n7, k7⟩ := hm.bx b7 h7
  obtain ⟨n8, k8⟩ := hm.bx b8 h8
  have hne := hm.ne _ _ rfl rfl
  have e78 : a1 ≠ a2 ∧ g1 ≠ g2 := hne
  have sz5 := h15.size
  have szV := hm.below.size
  have szw : (w.alloc (.cells #[.int .i64 (n : Nat)] 3)).heap.size = w.heap.size + 1 := World.size_alloc _ _
  have hsT := hT.below.size
  rw [szw] at hsT
  have la1 := t1.ba.lt
  have lg1 := t1.bg.lt
  have la2 := t2.ba.lt
  have lg2 := t2.bg.lt
  have lb7 := k7.lt
  have lb8 := k8.lt
  have d1 : a1 ≠ g1 := t1.ba.ne_ t1.bg (by decide)
  have d2 : a2 ≠ g2 := t2.ba.ne_ t2.bg (by decide)
  have d3 : a1 ≠ g2 := t1.ba.ne_ t2.bg (by decide)
  have d4 : a2 ≠ g1 := t2.ba.ne_ t1.bg (by decide)
  have d5 : b7 ≠ g1 := k7.ne_ t1.bg (by decide)
  have d6 : b7 ≠ g2 := k7.ne_ t2.bg (by decide)
  have d7 : b8 ≠ g1 := k8.ne_ t1.bg (by decide)
  have d8 : b8 ≠ g2 := k8.ne_ t2.bg (by decide)
  have d9 : a1 ≠ b7 := t1.ba.ne_ k7 (by decide)
  have d10 : a1 ≠ b8 := t1.ba.ne_ k8 (by decide)
  have d11 : a2 ≠ b7 := t2.ba.ne_ k7 (by decide)
  have d12 : a2 ≠ b8 := t2.ba.ne_ k8 (by decide)
  obtain ⟨ta1, tg1, tba1, tbg1⟩ := t1
  obtain ⟨ta2, tg2, tba2, tbg2⟩ := t2
  -- the worlds
  have hVW : Only (fun b => b = b7 ∨ b = b8) V ((V.setCell ⟨b7, 0, none⟩ (.pointer (some ⟨a1, 0, none⟩))).setCell ⟨b8, 0, none⟩ (.pointer (some ⟨a2, 0, none⟩))) := ((Only.refl _ V).setCell (p := ⟨b7, 0, none⟩) (.inl (.inl rfl)) _).setCell (p := ⟨b8, 0, none⟩) (.inl (.inr rfl)) _
  have hVW2 := hVW.alloc (.cells #[.slice none 0 0, .int .i64 0] 89)
  have q7 := ((k7.set_ 0 (.pointer (some ⟨a1, 0, none⟩))).far (p := ⟨b8, 0, none⟩) h78 (.pointer (some ⟨a2, 0, none⟩))).alloc (.cells #[.slice none 0 0, .int .i64 0] 89)
  have q8 := ((k8.far (p := ⟨b7, 0, none⟩) h78.symm (.pointer (some ⟨a1, 0, none⟩))).set_ 0 (.pointer (some ⟨a2, 0, none⟩))).alloc (.cells #[.slice none 0 0, .int .i64 0] 89)
  have szW : ((V.setCell ⟨b7, 0, none⟩ (.pointer (some ⟨a1, 0, none⟩))).setCell ⟨b8, 0, none⟩ (.pointer (some ⟨a2, 0, none⟩))).heap.size = V.heap.size := by simp [World.setCell]
  have q9 := Blk.new ((V.setCell ⟨b7, 0, none⟩ (.pointer (some ⟨a1, 0, none⟩))).setCell ⟨b8, 0, none⟩ (.pointer (some ⟨a2, 0, none⟩))) 89 #[.slice none 0 0, .int .i64 0]
  rw [szW] at q9
  have b5W : Below w5.heap.size w5 (((V.setCell ⟨b7, 0, none⟩ (.pointer (some ⟨a1, 0, none⟩))).setCell ⟨b8, 0, none⟩ (.pointer (some ⟨a2, 0, none⟩))).alloc (.cells #[.slice none 0 0, .int .i64 0] 89)) :=
    (below_put (below_put hm.below (p := ⟨b7, 0, none⟩) n7 _) (p := ⟨b8, 0, none⟩) n8 _).alloc (by rw [szW]; exact szV) _
  have b1W := h15.trans (b5W.mono sz5)
  have hTW := hT.keep b1W
  have hlt0 := (Stars.framed (ones_framed L)).lt hT.st
  have hsp := hTW.st
  have eo : ones L = ones (L.take i) ++ OneT u st' :: ones (L.drop (i + 1)) := by
    conv => lhs; rw [eL]
    simp [ones]
  rw [eo] at hsp
  obtain ⟨FA, FB, s1, s2, s3, s4⟩ := Stars.split hsp
  obtain ⟨FC, FD, hs5⟩ := s2
  have hFD : ∀ b, FD b → FB b := fun b hb => (hs5.un b).2 (.inr hb)
  have hFA0 : ∀ b, FA b → F0 b := fun b hb => s4 b (.inl hb)
  have hFD0 : ∀ b, FD b → F0 b := fun b hb => s4 b (.inr (hFD b hb))
  have f0 : ∀ b, F0 b → w.heap.size + 1 ≤ b ∧ b < w1.heap.size := fun b hb => ⟨by have := hT.nst b hb; omega, hlt0 b hb⟩
  have fg : ∀ b, g0 = some b → w.heap.size + 1 ≤ b ∧ b < w1.heap.size ∧ ¬ F0 b := fun b hb => ⟨by have := hT.new b hb; omega, hT.row.lt hb, hT.ap b hb⟩
  have hm1 : (L.take i).map Prod.fst = (L.map Prod.fst).take i := List.map_take
  have hm2 : (L.drop (i + 1)).map Prod.fst = (L.map Prod.fst).drop (i + 1) := List.map_drop
  have hm3 : (L.take i).map Prod.snd = (L.map Prod.snd).take i := List.map_take
  generalize hW3 : ((V.setCell ⟨b7, 0, none⟩ (.pointer (some ⟨a1, 0, none⟩))).setCell ⟨b8, 0, none⟩ (.pointer (some ⟨a2, 0, none⟩))).alloc (.cells #[.slice none 0 0, .int .i64 0] 89) = W3 at *
  have szW3 : W3.heap.size = V.heap.size + 1 := by rw [← hW3, World.size_alloc, szW]
  have hAK : ∀ b, ((b = b7 ∨ b = b8 ∨ b = w.heap.size ∨ b = ab) ∨ b = a1 ∨ b = a2 ∨ g0 = some b) → b < W3.heap.size := by
    rintro b ((rfl | rfl | rfl | rfl) | rfl | rfl | hb)
    · omega
    · omega
    · omega
    · omega
    · omega
    · omega
    · have := fg b hb; omega
  refine ⟨fun b => ((b = b7 ∨ b = b8 ∨ b = w.heap.size ∨ b = ab) ∨ b = a1 ∨ b = a2 ∨ g0 = some b) ∨ (b = V.heap.size ∨ ((b = g1 ∨ FA b) ∨ (b = g2 ∨ FD b))), ⟨V.heap.size, b7, b8, w.heap.size, ab, a1, g1, a2, g2, 0, L.take i, L.drop (i + 1), st', fun _ => False, fun _ => 0, fun _ => 0,
    { val := rfl, kind := hk, few := ⟨by omega, by omega⟩, thg := ?_, star := hany, sng := by rw [hm3]; exact hsng, own := ?_, at1 := fun b e => (by cases e), at2 := fun b e => (by cases e), atM := fun b e => (by cases e), top_ := by omega,
      it := ⟨_, _, ⟨⟨⟨.inl (.inl rfl), .inl (.inr (.inl rfl)), .inl (.inr (.inr (.inl rfl))), .inl (.inr (.inr (.inr rfl)))⟩, ?_, ?_, hbm.below b5W hbm.lt, ?_, ⟨hAK, .inr (.inl rfl), A, c, ?_, ?_⟩, ⟨hAK, .inr (.inr (.inl rfl)), A2, c2, ?_, ?_⟩⟩,
        ⟨fun b => b = V.heap.size, _, ⟨⟨fun b hb => by omega, rfl, none, none, 0, [], 0, ⟨q9, Row.nil _ _, by simp, by simp, by simp, fun f => ⟨fun k => k.elim, mem_nil⟩⟩⟩,
          ⟨fun b => b = g1 ∨ FA b, fun b => b = g2 ∨ FD b, ⟨⟨fun b => b = g1, FA, ⟨⟨fun b hb => by omega, rfl, ?_⟩, s1, ?_, fun _ => Iff.rfl⟩⟩, ⟨fun b => b = g2, FD, ⟨⟨fun b hb => by omega, rfl, ?_⟩, hs5.snd, ?_, fun _ => Iff.rfl⟩⟩, ?_, fun _ => Iff.rfl⟩⟩, ?_, fun _ => Iff.rfl⟩⟩, ?_, fun _ => Iff.rfl⟩⟩ }⟩, ?_, hb0.trans (b1W.mono hb0.size)⟩
  · rw [ht]
    conv => lhs; rw [eL]
    simp
  · rintro (((h | h | h | h) | h | h | h) | h | (h | h) | (h | h))
    all_goals first | omega | (have := fg _ h; omega) | (have := f0 _ (hFA0 _ h); omega) | (have := f0 _ (hFD0 _ h); omega)
  · simpa using q7
  · simpa using q8
  · rw [l1]; exact hba.below b5W hba.lt
  · rw [l1]; exact tba1.only hVW2 (by omega)
  · rw [l1, hm1]; exact (h1.mono fun b e => .inr (.inr (.inr e))).still ⟨b1W.size, fun b _ hl => b1W.block b hl⟩
  · rw [l2]; exact tba2.only hVW2 (by omega)
  · rw [l2, hm2]; exact (h2.mono fun b e => .inr (.inr (.inr e))).still ⟨b1W.size, fun b _ hl => b1W.block b hl⟩
  · rw [l1]; exact tbg1.only hVW2 (by omega)
  · intro b hb hf
    have := f0 _ (hFA0 _ hf)
    omega
  · rw [l2]; exact tbg2.only hVW2 (by omega)
  · intro b hb hf
    have := f0 _ (hFD0 _ hf)
    omega
  · rintro b (hb | hb) (hc | hc)
    · exact e78.2 (by omega)
    · have := f0 _ (hFD0 _ hc); omega
    · have := f0 _ (hFA0 _ hb); omega
    · exact s3 b hb (hFD b hc)
  · rintro b hb ((hc | hc) | (hc | hc))
    · omega
    · have := f0 _ (hFA0 _ hc); omega
    · omega
    · have := f0 _ (hFD0 _ hc); omega
  · rintro b ((h | h | h | h) | h | h | h) (hc | (hc | hc) | (hc | hc))
    all_goals first
      | omega
      | (have := fg _ h; omega)
      | (have := f0 _ (hFA0 _ hc); omega)
      | (have := f0 _ (hFD0 _ hc); omega)
      | exact (fg _ h).2.2 (hFA0 _ hc)
      | exact (fg _ h).2.2 (hFD0 _ hc)
  · rintro b (((h | h | h | h) | h | h | h) | h | (h | h) | (h | h))
    all_goals first | omega | (have := fg _ h; omega) | (have := f0 _ (hFA0 _ h); omega) | (have := f0 _ (hFD0 _ h); omega)

set_option maxRecDepth 100000 in
set_option maxHeartbeats 8000000 in
theorem lookGlob_is (x : Brc) (n : Nat) (ts : List Thg) (hk : x.kind = 1) (hp : ∀ c ∈ x.pat, c < 256) (hl : x.pat.length ≤ 1024) (ht : thingsS x.pat = some ts) (w : World) (hg : 0 < w.heap.size) :
    Calls Tryd.prog 28 #[.int .i64 (n : Nat), .string (str x.pat)] w fun e w' => ∃ v F, e = .returned v ∧ (RowT v x n none F w' ∨ GloT v x n none F w') ∧ (∀ b, F b → w.heap.size ≤ b) ∧ Below w.heap.size w w' := by
  have hmf : ∀ (fn : Fn) (first cap : Array Value) (w : World), (Instr.makeFunc fn first cap).run Tryd.prog w = .ok (.func fn first cap) w := fun _ _ _ _ => rfl
  have hb1 := Lib.hid ((Below.refl w.heap.size w).alloc (Nat.le_refl _) (.cells #[.int .i64 (n : Nat)] 3))
  have B0 := Lib.hid (Blk.new w 3 #[.int .i64 (n : Nat)])
  have HP := Lib.hid (thingsOf_is x.pat ts hp hl ht (w.alloc (.cells #[.int .i64 (n : Nat)] 3)))
  have hln := things_len x.pat.length x.pat ts (Nat.le_refl _) ht
  have HH := Lib.hid (And.intro hk (And.intro hg ht))
  clear hp hk ht hg
  go_enter Tryd.func28, Tryd.ntmps28
  go_wp2_with fail
  refine HP.out.mono ?_
  rintro e w1 ⟨v, L, rfl, hL, hth⟩
  subst hL
  obtain ⟨A, c, rfl⟩ := hth.form
  obtain ⟨g0, F0, hT⟩ := hth
  rw [List.length_map] at hln
  have hL4 : L.length ≤ 1024 := by omega
  have HT := Lib.hid hT
  have HI := Lib.hid (IndexFunc_is hT.row.rd hT.st hL4)
  have B1 := Lib.hid (B0.out.below hT.below (by simp))
  have X1 := Lib.hid (hb1.out.trans (hT.below.mono hb1.out.size))
  have hTk := Lib.hid (fun V (hb : Below w1.heap.size w1 V) => hT.keep hb)
  have hlen : (L.map Prod.fst).length = L.length := List.length_map _
  have HCUT := Lib.hid (fun i (hi : i < L.length) => by
    have := row_cuts (i := i) (xs := L.map Prod.fst) (A := A) (c := c) (by rw [hlen]; exact hT.row) (by rw [hlen]; exact hi)
    rw [hlen] at this
    exact this)
  clear hT HP hln hlen
  go_wp2_with fail
  refine HI.out.mono ?_
  rintro e w2 ⟨z, rfl, hz, rfl⟩
  clear HI
  rcases hz with ⟨rfl, hno⟩ | ⟨i, st, rfl, hst, hany, hsng⟩
  · have hbx : Below w1.heap.size w1 (w1.alloc (.cells #[.int .i64 (-1)] 3)) := (Below.refl w1.heap.size w1).alloc (Nat.le_refl _) _
    have HR := Lib.hid (lookRow_is x n HH.out.1 (hTk.out _ hbx) hL4 HH.out.2.2 hno)
    have cm : (w1.alloc (.cells #[.int .i64 (-1)] 3)).cell? ⟨w.heap.size, 0, none⟩ = some (.int .i64 (n : Nat)) := (B1.out.alloc _).cell 0
    have X2 := Lib.hid (X1.out.trans (hbx.mono X1.out.size))
    clear hbx hno
    go_wp2_with fail
    refine HR.out.mono ?_
    rintro e w3 ⟨v, F, rfl, hv, hF, hb3⟩
    have Z := Lib.hid (And.intro hv (And.intro hF hb3))
    clear hv hF hb3 HR cm
    go_wp2_with fail
    go_ret
    exact ⟨v, F, rfl, .inl Z.out.1, fun b hb => by have := Z.out.2.1 b hb; simp at this; omega, X2.out.trans (Z.out.2.2.mono X2.out.size)⟩
  · have hi : i < L.length := by have := (List.getElem?_eq_some_iff.1 hst).1; rwa [List.length_map] at this
    obtain ⟨A2, c2, hr1, hrd1, hr2, hrd2⟩ := HCUT.out i hi
    obtain ⟨n2, hn2⟩ : ∃ n2, n2 = L.length - (i + 1) := ⟨_, rfl⟩
    rw [← hn2] at hr2 hrd2
    have HRD := Lib.hid (And.intro hrd1 hrd2)
    have HS := Lib.hid (And.intro hst (And.intro hany hsng))
    have hN1 := Lib.hid (fun V => newTrail_is A i c (by omega) V)
    have hN2 := Lib.hid (fun V => newTrail_is A2 n2 c2 (by omega) V)
    obtain ⟨w5, hw5⟩ : ∃ w5, w5 = w1.alloc (.cells #[.int .i64 (i : Nat)] 3) := ⟨_, rfl⟩
    obtain ⟨ab, hab⟩ : ∃ ab, ab = w1.heap.size := ⟨_, rfl⟩
    have hB5 : Blk w5 ab 3 #[.int .i64 (i : Nat)] := by rw [hw5, hab]; exact Blk.new _ _ _
    have cab : w5.cell? ⟨ab, 0, none⟩ = some (.int .i64 (i : Nat)) := hB5.cell 0
    have hbx : Below w1.heap.size w1 w5 := by rw [hw5]; exact (Below.refl w1.heap.size w1).alloc (Nat.le_refl _) _
    have X5 := Lib.hid (X1.out.trans (hbx.mono X1.out.size))
    have B5 := Lib.hid hB5
    have BM := Lib.hid (B1.out.below hbx B1.out.lt)
    have HT5 := Lib.hid (hTk.out _ hbx)
    have AB := Lib.hid hab
    have W5 := Lib.hid hw5
    have hM0 : Made2 w5 w5.drew (.slice A i c) (.slice A2 n2 c2) i n2 none none [] := Made2.start ⟨rfl, rfl, rfl, Nat.le_refl _, fun _ _ => rfl⟩
    have i0 : ¬ ((i : Int) < 0) := by omega
    have hi2 : IntKind.i64.wrap ((i : Int) + 1) = (i : Int) + 1 := IntWalk.i64_in _ (by omega)
    have HNN := Lib.hid hn2
    have HBX := Lib.hid hbx
    clear hst hany hsng hrd1 hrd2 hB5 hbx hn2 HCUT hTk B0 hb1
    go_upto_region 5 with (fail)
    rw [← hw5, ← hab]
    clear hw5 hab
    have x0 : ∀ V, Below w5.heap.size w5 V → V.cell? ⟨ab, 0, none⟩ = some (.int .i64 (i : Nat)) := fun V hV => (B5.out.below hV B5.out.lt).cell 0
    refine wp_region_noPanic ?_
    refine wp_region_upto (fun V => Below w5.heap.size w5 V) 99 (by kernel_rfl) ?_ (fun hHeld => ?_)
    · exact hM0.below
    refine wpUpto.takeAll 0 (by kernel_rfl) (by kernel_rfl) (by kernel_rfl) (by kernel_rfl) (by assumption) ?_
    intro o ho
    simp only [List.getElem?_toArray, List.getElem?_cons_zero, Option.some.injEq] at ho
    subst ho
    refine ⟨?_, fun _ _ _ h => h, Or.inl ⟨by rfl, ?_⟩, ?_⟩
    rotate_left
    · intro w hSw
      go_simp
      try with_reducible rfl
    simp only [Act.put, List.setIfInBounds_toArray, List.set_cons_zero, List.set_cons_succ]
    refine wpUpto.takeAll 1 (by kernel_rfl) (by kernel_rfl) (by kernel_rfl) (by kernel_rfl) (by assumption) ?_
    intro o ho
    simp only [List.getElem?_toArray, List.getElem?_cons_succ, List.getElem?_cons_zero, Option.some.injEq] at ho
    subst ho
    refine ⟨?_, fun _ _ _ h => h, Or.inl ⟨by rfl, ?_⟩, ?_⟩
    rotate_left
    · intro w hSw
      go_simp
      try with_reducible rfl
    simp only [Act.put, List.setIfInBounds_toArray, List.set_cons_zero, List.set_cons_succ]
    refine wpUpto.takeAll 2 (by kernel_rfl) (by kernel_rfl) (by kernel_rfl) (by kernel_rfl) (by assumption) ?_
    intro o ho
    simp only [List.getElem?_toArray, List.getElem?_cons_succ, List.getElem?_cons_zero, Option.some.injEq] at ho
    subst ho
    refine ⟨?_, fun _ _ _ h => h, Or.inl ⟨by rfl, ?_⟩, ?_⟩
    rotate_left
    · intro w hSw
      go_simp
      try with_reducible rfl
    simp only [Act.put, List.setIfInBounds_toArray, List.set_cons_zero, List.set_cons_succ]
    refine wpUpto.takeAll 4 (by kernel_rfl) (by kernel_rfl) (by kernel_rfl) (by kernel_rfl) (by assumption) ?_
    intro o ho
    simp only [List.getElem?_toArray, List.getElem?_cons_succ, List.getElem?_cons_zero, Option.some.injEq] at ho
    subst ho
    refine ⟨?_, fun _ _ _ h => h, Or.inl ⟨by rfl, ?_⟩, ?_⟩
    rotate_left
    · intro w hSw
      go_simp
      try with_reducible rfl
    simp only [Act.put, List.setIfInBounds_toArray, List.set_cons_zero, List.set_cons_succ]
    refine wpUpto.takeAll 5 (by kernel_rfl) (by kernel_rfl) (by kernel_rfl) (by kernel_rfl) (by assumption) ?_
    intro o ho
    simp only [List.getElem?_toArray, List.getElem?_cons_succ, List.getElem?_cons_zero, Option.some.injEq] at ho
    subst ho
    refine ⟨?_, fun _ _ _ h => h, Or.inl ⟨by rfl, ?_⟩, ?_⟩
    rotate_left
    · intro w hSw
      go_simp
      try with_reducible rfl
    simp only [Act.put, List.setIfInBounds_toArray, List.set_cons_zero, List.set_cons_succ]
    refine wpUpto.takeAll 6 (by kernel_rfl) (by kernel_rfl) (by kernel_rfl) (by kernel_rfl) (by assumption) ?_
    intro o ho
    simp only [List.getElem?_toArray, List.getElem?_cons_succ, List.getElem?_cons_zero, Option.some.injEq] at ho
    subst ho
    refine ⟨?_, fun _ _ _ h => h, Or.inl ⟨by rfl, ?_⟩, ?_⟩
    rotate_left
    · intro w hSw
      go_simp
      try with_reducible rfl
    simp only [Act.put, List.setIfInBounds_toArray, List.set_cons_zero, List.set_cons_succ]
    refine wpUpto.takeAll 7 (by kernel_rfl) (by kernel_rfl) (by kernel_rfl) (by kernel_rfl) (by assumption) ?_
    intro o ho
    simp only [List.getElem?_toArray, List.getElem?_cons_succ, List.getElem?_cons_zero, Option.some.injEq] at ho
    subst ho
    refine ⟨?_, fun _ _ _ h => h, Or.inl ⟨by rfl, ?_⟩, ?_⟩
    rotate_left
    · intro w hSw
      go_simp
      try with_reducible rfl
    simp only [Act.put, List.setIfInBounds_toArray, List.set_cons_zero, List.set_cons_succ]
    refine wpUpto.three 3 9 10 (by kernel_rfl) ?_ ?_ ?_
    ·
      intro o ho K hK
      simp only [List.getElem?_toArray, List.getElem?_cons_succ, List.getElem?_cons_zero, Option.some.injEq] at ho
      subst ho
      go_simp
      go_at_call 42
      refine (hN1.out _).mono ?_
      rintro e wA1 ⟨a1, gg1, rfl, tr⟩
      have hM1 := hM0.call1 tr
      clear tr
      refine hK.out _ _ ?_ (fun hHeld => ?_)
      · exact hM1.below
      clear hK K
      try simp only [Act.put, List.setIfInBounds_toArray, List.set_cons_zero, List.set_cons_succ]
      refine wpUpto.three 8 9 10 (by kernel_rfl) ?_ ?_ ?_
      ·
        intro o ho K hK
        simp only [List.getElem?_toArray, List.getElem?_cons_succ, List.getElem?_cons_zero, Option.some.injEq] at ho
        subst ho
        go_simp
        go_at_call 42
        refine (hN2.out _).mono ?_
        rintro e wA2 ⟨a2, gg2, rfl, tr⟩
        have hM2 := hM1.call2 tr
        clear tr
        refine hK.out _ _ ?_ (fun hHeld => ?_)
        · exact hM2.below
        clear hK K
        try simp only [Act.put, List.setIfInBounds_toArray, List.set_cons_zero, List.set_cons_succ]
        refine wpUpto.pair 9 10 (by kernel_rfl) ?_ ?_
        ·
          intro o ho K hK
          simp only [List.getElem?_toArray, List.getElem?_cons_succ, List.getElem?_cons_zero, Option.some.injEq] at ho
          subst ho
          go_simp
          have hM3 := hM2.box
          refine hK.out _ _ ?_ (fun hHeld => ?_)
          · exact hM3.below
          clear hK K
          try simp only [Act.put, List.setIfInBounds_toArray, List.set_cons_zero, List.set_cons_succ]
          refine wpUpto.one 10 (by kernel_rfl) ?_
          intro o ho K hK
          simp only [List.getElem?_toArray, List.getElem?_cons_succ, List.getElem?_cons_zero, Option.some.injEq] at ho
          subst ho
          go_simp
          have hM4 := hM3.box
          refine hK.out _ _ ?_ (fun hHeld => ?_)
          · exact hM4.below
          clear hK K
          try simp only [Act.put, List.setIfInBounds_toArray, List.set_cons_zero, List.set_cons_succ]
          generalize ((wA2.alloc box0).alloc box0) = V0 at hM4 ⊢
          have k7 := (hM4.bx ((wA2.heap.size)) (by simp)).2
          have k8 := (hM4.bx ((wA2.heap.size + 1)) (by simp)).2
          have h78 : (wA2.heap.size) ≠ (wA2.heap.size + 1) := by have := hM4.nd; simp at this; omega
          have c7 : V0.cell? ⟨(wA2.heap.size), 0, none⟩ = some (.pointer none) := k7.cell 0
          have f7 : V0.frozen? ⟨(wA2.heap.size), 0, none⟩ = false := k7.frozen 0
          have c8 : (V0.setCell ⟨(wA2.heap.size), 0, none⟩ (.pointer (some ⟨a1, 0, none⟩))).cell? ⟨(wA2.heap.size + 1), 0, none⟩ = some (.pointer none) := (k8.far (p := ⟨(wA2.heap.size), 0, none⟩) h78.symm _).cell 0
          have f8 : (V0.setCell ⟨(wA2.heap.size), 0, none⟩ (.pointer (some ⟨a1, 0, none⟩))).frozen? ⟨(wA2.heap.size + 1), 0, none⟩ = false := (k8.far (p := ⟨(wA2.heap.size), 0, none⟩) h78.symm _).frozen 0
          have FIN := Lib.hid (fun W2 hW => glo_made (W2 := W2) HH.out.1 HH.out.2.1 HH.out.2.2 hL4 HT.out HS.out.1 HS.out.2.1 HS.out.2.2 HNN.out HRD.out.1 HRD.out.2 AB.out HBX.out B5.out.lt hM4 (b7 := (wA2.heap.size)) (b8 := (wA2.heap.size + 1)) (by simp) (by simp) h78 BM.out B5.out X1.out hW)
          have S7 := Lib.hid (below_put hM4.below (p := ⟨(wA2.heap.size), 0, none⟩) (hM4.bx ((wA2.heap.size)) (by simp)).1 (.pointer (some ⟨a1, 0, none⟩)))
          have S8 := Lib.hid (below_put S7.out (p := ⟨(wA2.heap.size + 1), 0, none⟩) (hM4.bx ((wA2.heap.size + 1)) (by simp)).1 (.pointer (some ⟨a2, 0, none⟩)))
          clear k7 k8 h78
          refine wpUpto.one 11 (by kernel_rfl) ?_
          intro o ho K hK
          simp only [List.getElem?_toArray, List.getElem?_cons_succ, List.getElem?_cons_zero, Option.some.injEq] at ho
          subst ho
          go_simp
          refine hK.out _ _ ?_ (fun hHeld => ?_)
          · exact S7.out
          clear hK K
          try simp only [Act.put, List.setIfInBounds_toArray, List.set_cons_zero, List.set_cons_succ]
          refine wpUpto.one 12 (by kernel_rfl) ?_
          intro o ho K hK
          simp only [List.getElem?_toArray, List.getElem?_cons_succ, List.getElem?_cons_zero, Option.some.injEq] at ho
          subst ho
          go_simp
          refine hK.out _ _ ?_ (fun hHeld => ?_)
          · exact S8.out
          clear hK K
          try simp only [Act.put, List.setIfInBounds_toArray, List.set_cons_zero, List.set_cons_succ]
          refine wpUpto.done (by kernel_rfl) ?_ _
          refine NoPanic.normal ?_
          clear c7 f7 c8 f8
          go_wp2_with fail
          go_ret
          obtain ⟨F, q1, q2, q3⟩ := FIN.out _ rfl
          exact ⟨_, F, rfl, .inr q1, q2, q3⟩
        ·
          intro o ho K hK
          simp only [List.getElem?_toArray, List.getElem?_cons_succ, List.getElem?_cons_zero, Option.some.injEq] at ho
          subst ho
          go_simp
          have hM5 := hM2.box
          refine hK.out _ _ ?_ (fun hHeld => ?_)
          · exact hM5.below
          clear hK K
          try simp only [Act.put, List.setIfInBounds_toArray, List.set_cons_zero, List.set_cons_succ]
          refine wpUpto.one 9 (by kernel_rfl) ?_
          intro o ho K hK
          simp only [List.getElem?_toArray, List.getElem?_cons_succ, List.getElem?_cons_zero, Option.some.injEq] at ho
          subst ho
          go_simp
          have hM6 := hM5.box
          refine hK.out _ _ ?_ (fun hHeld => ?_)
          · exact hM6.below
          clear hK K
          try simp only [Act.put, List.setIfInBounds_toArray, List.set_cons_zero, List.set_cons_succ]
          generalize ((wA2.alloc box0).alloc box0) = V0 at hM6 ⊢
          have k7 := (hM6.bx ((wA2.heap.size + 1)) (by simp)).2
          have k8 := (hM6.bx ((wA2.heap.size)) (by simp)).2
          have h78 : (wA2.heap.size + 1) ≠ (wA2.heap.size) := by have := hM6.nd; simp at this; omega
          have c7 : V0.cell? ⟨(wA2.heap.size + 1), 0, none⟩ = some (.pointer none) := k7.cell 0
          have f7 : V0.frozen? ⟨(wA2.heap.size + 1), 0, none⟩ = false := k7.frozen 0
          have c8 : (V0.setCell ⟨(wA2.heap.size + 1), 0, none⟩ (.pointer (some ⟨a1, 0, none⟩))).cell? ⟨(wA2.heap.size), 0, none⟩ = some (.pointer none) := (k8.far (p := ⟨(wA2.heap.size + 1), 0, none⟩) h78.symm _).cell 0
          have f8 : (V0.setCell ⟨(wA2.heap.size + 1), 0, none⟩ (.pointer (some ⟨a1, 0, none⟩))).frozen? ⟨(wA2.heap.size), 0, none⟩ = false := (k8.far (p := ⟨(wA2.heap.size + 1), 0, none⟩) h78.symm _).frozen 0
          have FIN := Lib.hid (fun W2 hW => glo_made (W2 := W2) HH.out.1 HH.out.2.1 HH.out.2.2 hL4 HT.out HS.out.1 HS.out.2.1 HS.out.2.2 HNN.out HRD.out.1 HRD.out.2 AB.out HBX.out B5.out.lt hM6 (b7 := (wA2.heap.size + 1)) (b8 := (wA2.heap.size)) (by simp) (by simp) h78 BM.out B5.out X1.out hW)
          have S7 := Lib.hid (below_put hM6.below (p := ⟨(wA2.heap.size + 1), 0, none⟩) (hM6.bx ((wA2.heap.size + 1)) (by simp)).1 (.pointer (some ⟨a1, 0, none⟩)))
          have S8 := Lib.hid (below_put S7.out (p := ⟨(wA2.heap.size), 0, none⟩) (hM6.bx ((wA2.heap.size)) (by simp)).1 (.pointer (some ⟨a2, 0, none⟩)))
          clear k7 k8 h78
          refine wpUpto.one 11 (by kernel_rfl) ?_
          intro o ho K hK
          simp only [List.getElem?_toArray, List.getElem?_cons_succ, List.getElem?_cons_zero, Option.some.injEq] at ho
          subst ho
          go_simp
          refine hK.out _ _ ?_ (fun hHeld => ?_)
          · exact S7.out
          clear hK K
          try simp only [Act.put, List.setIfInBounds_toArray, List.set_cons_zero, List.set_cons_succ]
          refine wpUpto.one 12 (by kernel_rfl) ?_
          intro o ho K hK
          simp only [List.getElem?_toArray, List.getElem?_cons_succ, List.getElem?_cons_zero, Option.some.injEq] at ho
          subst ho
          go_simp
          refine hK.out _ _ ?_ (fun hHeld => ?_)
          · exact S8.out
          clear hK K
          try simp only [Act.put, List.setIfInBounds_toArray, List.set_cons_zero, List.set_cons_succ]
          refine wpUpto.done (by kernel_rfl) ?_ _
          refine NoPanic.normal ?_
          clear c7 f7 c8 f8
          go_wp2_with fail
          go_ret
          obtain ⟨F, q1, q2, q3⟩ := FIN.out _ rfl
          exact ⟨_, F, rfl, .inr q1, q2, q3⟩
      ·
        intro o ho K hK
        simp only [List.getElem?_toArray, List.getElem?_cons_succ, List.getElem?_cons_zero, Option.some.injEq] at ho
        subst ho
        go_simp
        have hM7 := hM1.box
        refine hK.out _ _ ?_ (fun hHeld => ?_)
        · exact hM7.below
        clear hK K
        try simp only [Act.put, List.setIfInBounds_toArray, List.set_cons_zero, List.set_cons_succ]
        refine wpUpto.pair 8 10 (by kernel_rfl) ?_ ?_
        ·
          intro o ho K hK
          simp only [List.getElem?_toArray, List.getElem?_cons_succ, List.getElem?_cons_zero, Option.some.injEq] at ho
          subst ho
          go_simp
          go_at_call 42
          refine (hN2.out _).mono ?_
          rintro e wA8 ⟨a2, gg2, rfl, tr⟩
          have hM8 := hM7.call2 tr
          clear tr
          refine hK.out _ _ ?_ (fun hHeld => ?_)
          · exact hM8.below
          clear hK K
          try simp only [Act.put, List.setIfInBounds_toArray, List.set_cons_zero, List.set_cons_succ]
          refine wpUpto.one 10 (by kernel_rfl) ?_
          intro o ho K hK
          simp only [List.getElem?_toArray, List.getElem?_cons_succ, List.getElem?_cons_zero, Option.some.injEq] at ho
          subst ho
          go_simp
          have hM9 := hM8.box
          refine hK.out _ _ ?_ (fun hHeld => ?_)
          · exact hM9.below
          clear hK K
          try simp only [Act.put, List.setIfInBounds_toArray, List.set_cons_zero, List.set_cons_succ]
          generalize (wA8.alloc box0) = V0 at hM9 ⊢
          have k7 := (hM9.bx ((wA1.heap.size)) (by simp)).2
          have k8 := (hM9.bx ((wA8.heap.size)) (by simp)).2
          have h78 : (wA1.heap.size) ≠ (wA8.heap.size) := by have := hM9.nd; simp at this; omega
          have c7 : V0.cell? ⟨(wA1.heap.size), 0, none⟩ = some (.pointer none) := k7.cell 0
          have f7 : V0.frozen? ⟨(wA1.heap.size), 0, none⟩ = false := k7.frozen 0
          have c8 : (V0.setCell ⟨(wA1.heap.size), 0, none⟩ (.pointer (some ⟨a1, 0, none⟩))).cell? ⟨(wA8.heap.size), 0, none⟩ = some (.pointer none) := (k8.far (p := ⟨(wA1.heap.size), 0, none⟩) h78.symm _).cell 0
          have f8 : (V0.setCell ⟨(wA1.heap.size), 0, none⟩ (.pointer (some ⟨a1, 0, none⟩))).frozen? ⟨(wA8.heap.size), 0, none⟩ = false := (k8.far (p := ⟨(wA1.heap.size), 0, none⟩) h78.symm _).frozen 0
          have FIN := Lib.hid (fun W2 hW => glo_made (W2 := W2) HH.out.1 HH.out.2.1 HH.out.2.2 hL4 HT.out HS.out.1 HS.out.2.1 HS.out.2.2 HNN.out HRD.out.1 HRD.out.2 AB.out HBX.out B5.out.lt hM9 (b7 := (wA1.heap.size)) (b8 := (wA8.heap.size)) (by simp) (by simp) h78 BM.out B5.out X1.out hW)
          have S7 := Lib.hid (below_put hM9.below (p := ⟨(wA1.heap.size), 0, none⟩) (hM9.bx ((wA1.heap.size)) (by simp)).1 (.pointer (some ⟨a1, 0, none⟩)))
          have S8 := Lib.hid (below_put S7.out (p := ⟨(wA8.heap.size), 0, none⟩) (hM9.bx ((wA8.heap.size)) (by simp)).1 (.pointer (some ⟨a2, 0, none⟩)))
          clear k7 k8 h78
          refine wpUpto.one 11 (by kernel_rfl) ?_
          intro o ho K hK
          simp only [List.getElem?_toArray, List.getElem?_cons_succ, List.getElem?_cons_zero, Option.some.injEq] at ho
          subst ho
          go_simp
          refine hK.out _ _ ?_ (fun hHeld => ?_)
          · exact S7.out
          clear hK K
          try simp only [Act.put, List.setIfInBounds_toArray, List.set_cons_zero, List.set_cons_succ]
          refine wpUpto.one 12 (by kernel_rfl) ?_
          intro o ho K hK
          simp only [List.getElem?_toArray, List.getElem?_cons_succ, List.getElem?_cons_zero, Option.some.injEq] at ho
          subst ho
          go_simp
          refine hK.out _ _ ?_ (fun hHeld => ?_)
          · exact S8.out
          clear hK K
          try simp only [Act.put, List.setIfInBounds_toArray, List.set_cons_zero, List.set_cons_succ]
          refine wpUpto.done (by kernel_rfl) ?_ _
          refine NoPanic.normal ?_
          clear c7 f7 c8 f8
          go_wp2_with fail
          go_ret
          obtain ⟨F, q1, q2, q3⟩ := FIN.out _ rfl
          exact ⟨_, F, rfl, .inr q1, q2, q3⟩
        ·
          intro o ho K hK
          simp only [List.getElem?_toArray, List.getElem?_cons_succ, List.getElem?_cons_zero, Option.some.injEq] at ho
          subst ho
          go_simp
          have hM10 := hM7.box
          refine hK.out _ _ ?_ (fun hHeld => ?_)
          · exact hM10.below
          clear hK K
          try simp only [Act.put, List.setIfInBounds_toArray, List.set_cons_zero, List.set_cons_succ]
          refine wpUpto.one 8 (by kernel_rfl) ?_
          intro o ho K hK
          simp only [List.getElem?_toArray, List.getElem?_cons_succ, List.getElem?_cons_zero, Option.some.injEq] at ho
          subst ho
          go_simp
          go_at_call 42
          refine (hN2.out _).mono ?_
          rintro e wA11 ⟨a2, gg2, rfl, tr⟩
          have hM11 := hM10.call2 tr
          clear tr
          refine hK.out _ _ ?_ (fun hHeld => ?_)
          · exact hM11.below
          clear hK K
          try simp only [Act.put, List.setIfInBounds_toArray, List.set_cons_zero, List.set_cons_succ]
          generalize wA11 = V0 at hM11 ⊢
          have k7 := (hM11.bx ((wA1.heap.size)) (by simp)).2
          have k8 := (hM11.bx ((wA1.heap.size + 1)) (by simp)).2
          have h78 : (wA1.heap.size) ≠ (wA1.heap.size + 1) := by have := hM11.nd; simp at this; omega
          have c7 : V0.cell? ⟨(wA1.heap.size), 0, none⟩ = some (.pointer none) := k7.cell 0
          have f7 : V0.frozen? ⟨(wA1.heap.size), 0, none⟩ = false := k7.frozen 0
          have c8 : (V0.setCell ⟨(wA1.heap.size), 0, none⟩ (.pointer (some ⟨a1, 0, none⟩))).cell? ⟨(wA1.heap.size + 1), 0, none⟩ = some (.pointer none) := (k8.far (p := ⟨(wA1.heap.size), 0, none⟩) h78.symm _).cell 0
          have f8 : (V0.setCell ⟨(wA1.heap.size), 0, none⟩ (.pointer (some ⟨a1, 0, none⟩))).frozen? ⟨(wA1.heap.size + 1), 0, none⟩ = false := (k8.far (p := ⟨(wA1.heap.size), 0, none⟩) h78.symm _).frozen 0
          have FIN := Lib.hid (fun W2 hW => glo_made (W2 := W2) HH.out.1 HH.out.2.1 HH.out.2.2 hL4 HT.out HS.out.1 HS.out.2.1 HS.out.2.2 HNN.out HRD.out.1 HRD.out.2 AB.out HBX.out B5.out.lt hM11 (b7 := (wA1.heap.size)) (b8 := (wA1.heap.size + 1)) (by simp) (by simp) h78 BM.out B5.out X1.out hW)
          have S7 := Lib.hid (below_put hM11.below (p := ⟨(wA1.heap.size), 0, none⟩) (hM11.bx ((wA1.heap.size)) (by simp)).1 (.pointer (some ⟨a1, 0, none⟩)))
          have S8 := Lib.hid (below_put S7.out (p := ⟨(wA1.heap.size + 1), 0, none⟩) (hM11.bx ((wA1.heap.size + 1)) (by simp)).1 (.pointer (some ⟨a2, 0, none⟩)))
          clear k7 k8 h78
          refine wpUpto.one 11 (by kernel_rfl) ?_
          intro o ho K hK
          simp only [List.getElem?_toArray, List.getElem?_cons_succ, List.getElem?_cons_zero, Option.some.injEq] at ho
          subst ho
          go_simp
          refine hK.out _ _ ?_ (fun hHeld => ?_)
          · exact S7.out
          clear hK K
          try simp only [Act.put, List.setIfInBounds_toArray, List.set_cons_zero, List.set_cons_succ]
          refine wpUpto.one 12 (by kernel_rfl) ?_
          intro o ho K hK
          simp only [List.getElem?_toArray, List.getElem?_cons_succ, List.getElem?_cons_zero, Option.some.injEq] at ho
          subst ho
          go_simp
          refine hK.out _ _ ?_ (fun hHeld => ?_)
          · exact S8.out
          clear hK K
          try simp only [Act.put, List.setIfInBounds_toArray, List.set_cons_zero, List.set_cons_succ]
          refine wpUpto.done (by kernel_rfl) ?_ _
          refine NoPanic.normal ?_
          clear c7 f7 c8 f8
          go_wp2_with fail
          go_ret
          obtain ⟨F, q1, q2, q3⟩ := FIN.out _ rfl
          exact ⟨_, F, rfl, .inr q1, q2, q3⟩
      ·
        intro o ho K hK
        simp only [List.getElem?_toArray, List.getElem?_cons_succ, List.getElem?_cons_zero, Option.some.injEq] at ho
        subst ho
        go_simp
        have hM12 := hM1.box
        refine hK.out _ _ ?_ (fun hHeld => ?_)
        · exact hM12.below
        clear hK K
        try simp only [Act.put, List.setIfInBounds_toArray, List.set_cons_zero, List.set_cons_succ]
        refine wpUpto.pair 8 9 (by kernel_rfl) ?_ ?_
        ·
          intro o ho K hK
          simp only [List.getElem?_toArray, List.getElem?_cons_succ, List.getElem?_cons_zero, Option.some.injEq] at ho
          subst ho
          go_simp
          go_at_call 42
          refine (hN2.out _).mono ?_
          rintro e wA13 ⟨a2, gg2, rfl, tr⟩
          have hM13 := hM12.call2 tr
          clear tr
          refine hK.out _ _ ?_ (fun hHeld => ?_)
          · exact hM13.below
          clear hK K
          try simp only [Act.put, List.setIfInBounds_toArray, List.set_cons_zero, List.set_cons_succ]
          refine wpUpto.one 9 (by kernel_rfl) ?_
          intro o ho K hK
          simp only [List.getElem?_toArray, List.getElem?_cons_succ, List.getElem?_cons_zero, Option.some.injEq] at ho
          subst ho
          go_simp
          have hM14 := hM13.box
          refine hK.out _ _ ?_ (fun hHeld => ?_)
          · exact hM14.below
          clear hK K
          try simp only [Act.put, List.setIfInBounds_toArray, List.set_cons_zero, List.set_cons_succ]
          generalize (wA13.alloc box0) = V0 at hM14 ⊢
          have k7 := (hM14.bx ((wA13.heap.size)) (by simp)).2
          have k8 := (hM14.bx ((wA1.heap.size)) (by simp)).2
          have h78 : (wA13.heap.size) ≠ (wA1.heap.size) := by have := hM14.nd; simp at this; omega
          have c7 : V0.cell? ⟨(wA13.heap.size), 0, none⟩ = some (.pointer none) := k7.cell 0
          have f7 : V0.frozen? ⟨(wA13.heap.size), 0, none⟩ = false := k7.frozen 0
          have c8 : (V0.setCell ⟨(wA13.heap.size), 0, none⟩ (.pointer (some ⟨a1, 0, none⟩))).cell? ⟨(wA1.heap.size), 0, none⟩ = some (.pointer none) := (k8.far (p := ⟨(wA13.heap.size), 0, none⟩) h78.symm _).cell 0
          have f8 : (V0.setCell ⟨(wA13.heap.size), 0, none⟩ (.pointer (some ⟨a1, 0, none⟩))).frozen? ⟨(wA1.heap.size), 0, none⟩ = false := (k8.far (p := ⟨(wA13.heap.size), 0, none⟩) h78.symm _).frozen 0
          have FIN := Lib.hid (fun W2 hW => glo_made (W2 := W2) HH.out.1 HH.out.2.1 HH.out.2.2 hL4 HT.out HS.out.1 HS.out.2.1 HS.out.2.2 HNN.out HRD.out.1 HRD.out.2 AB.out HBX.out B5.out.lt hM14 (b7 := (wA13.heap.size)) (b8 := (wA1.heap.size)) (by simp) (by simp) h78 BM.out B5.out X1.out hW)
          have S7 := Lib.hid (below_put hM14.below (p := ⟨(wA13.heap.size), 0, none⟩) (hM14.bx ((wA13.heap.size)) (by simp)).1 (.pointer (some ⟨a1, 0, none⟩)))
          have S8 := Lib.hid (below_put S7.out (p := ⟨(wA1.heap.size), 0, none⟩) (hM14.bx ((wA1.heap.size)) (by simp)).1 (.pointer (some ⟨a2, 0, none⟩)))
          clear k7 k8 h78
          refine wpUpto.one 11 (by kernel_rfl) ?_
          intro o ho K hK
          simp only [List.getElem?_toArray, List.getElem?_cons_succ, List.getElem?_cons_zero, Option.some.injEq] at ho
          subst ho
          go_simp
          refine hK.out _ _ ?_ (fun hHeld => ?_)
          · exact S7.out
          clear hK K
          try simp only [Act.put, List.setIfInBounds_toArray, List.set_cons_zero, List.set_cons_succ]
          refine wpUpto.one 12 (by kernel_rfl) ?_
          intro o ho K hK
          simp only [List.getElem?_toArray, List.getElem?_cons_succ, List.getElem?_cons_zero, Option.some.injEq] at ho
          subst ho
          go_simp
          refine hK.out _ _ ?_ (fun hHeld => ?_)
          · exact S8.out
          clear hK K
          try simp only [Act.put, List.setIfInBounds_toArray, List.set_cons_zero, List.set_cons_succ]
          refine wpUpto.done (by kernel_rfl) ?_ _
          refine NoPanic.normal ?_
          clear c7 f7 c8 f8
          go_wp2_with fail
          go_ret
          obtain ⟨F, q1, q2, q3⟩ := FIN.out _ rfl
          exact ⟨_, F, rfl, .inr q1, q2, q3⟩
        ·
          intro o ho K hK
          simp only [List.getElem?_toArray, List.getElem?_cons_succ, List.getElem?_cons_zero, Option.some.injEq] at ho
          subst ho
          go_simp
          have hM15 := hM12.box
          refine hK.out _ _ ?_ (fun hHeld => ?_)
          · exact hM15.below
          clear hK K
          try simp only [Act.put, List.setIfInBounds_toArray, List.set_cons_zero, List.set_cons_succ]
          refine wpUpto.one 8 (by kernel_rfl) ?_
          intro o ho K hK
          simp only [List.getElem?_toArray, List.getElem?_cons_succ, List.getElem?_cons_zero, Option.some.injEq] at ho
          subst ho
          go_simp
          go_at_call 42
          refine (hN2.out _).mono ?_
          rintro e wA16 ⟨a2, gg2, rfl, tr⟩
          have hM16 := hM15.call2 tr
          clear tr
          refine hK.out _ _ ?_ (fun hHeld => ?_)
          · exact hM16.below
          clear hK K
          try simp only [Act.put, List.setIfInBounds_toArray, List.set_cons_zero, List.set_cons_succ]
          generalize wA16 = V0 at hM16 ⊢
          have k7 := (hM16.bx ((wA1.heap.size + 1)) (by simp)).2
          have k8 := (hM16.bx ((wA1.heap.size)) (by simp)).2
          have h78 : (wA1.heap.size + 1) ≠ (wA1.heap.size) := by have := hM16.nd; simp at this; omega
          have c7 : V0.cell? ⟨(wA1.heap.size + 1), 0, none⟩ = some (.pointer none) := k7.cell 0
          have f7 : V0.frozen? ⟨(wA1.heap.size + 1), 0, none⟩ = false := k7.frozen 0
          have c8 : (V0.setCell ⟨(wA1.heap.size + 1), 0, none⟩ (.pointer (some ⟨a1, 0, none⟩))).cell? ⟨(wA1.heap.size), 0, none⟩ = some (.pointer none) := (k8.far (p := ⟨(wA1.heap.size + 1), 0, none⟩) h78.symm _).cell 0
          have f8 : (V0.setCell ⟨(wA1.heap.size + 1), 0, none⟩ (.pointer (some ⟨a1, 0, none⟩))).frozen? ⟨(wA1.heap.size), 0, none⟩ = false := (k8.far (p := ⟨(wA1.heap.size + 1), 0, none⟩) h78.symm _).frozen 0
          have FIN := Lib.hid (fun W2 hW => glo_made (W2 := W2) HH.out.1 HH.out.2.1 HH.out.2.2 hL4 HT.out HS.out.1 HS.out.2.1 HS.out.2.2 HNN.out HRD.out.1 HRD.out.2 AB.out HBX.out B5.out.lt hM16 (b7 := (wA1.heap.size + 1)) (b8 := (wA1.heap.size)) (by simp) (by simp) h78 BM.out B5.out X1.out hW)
          have S7 := Lib.hid (below_put hM16.below (p := ⟨(wA1.heap.size + 1), 0, none⟩) (hM16.bx ((wA1.heap.size + 1)) (by simp)).1 (.pointer (some ⟨a1, 0, none⟩)))
          have S8 := Lib.hid (below_put S7.out (p := ⟨(wA1.heap.size), 0, none⟩) (hM16.bx ((wA1.heap.size)) (by simp)).1 (.pointer (some ⟨a2, 0, none⟩)))
          clear k7 k8 h78
          refine wpUpto.one 11 (by kernel_rfl) ?_
          intro o ho K hK
          simp only [List.getElem?_toArray, List.getElem?_cons_succ, List.getElem?_cons_zero, Option.some.injEq] at ho
          subst ho
          go_simp
          refine hK.out _ _ ?_ (fun hHeld => ?_)
          · exact S7.out
          clear hK K
          try simp only [Act.put, List.setIfInBounds_toArray, List.set_cons_zero, List.set_cons_succ]
          refine wpUpto.one 12 (by kernel_rfl) ?_
          intro o ho K hK
          simp only [List.getElem?_toArray, List.getElem?_cons_succ, List.getElem?_cons_zero, Option.some.injEq] at ho
          subst ho
          go_simp
          refine hK.out _ _ ?_ (fun hHeld => ?_)
          · exact S8.out
          clear hK K
          try simp only [Act.put, List.setIfInBounds_toArray, List.set_cons_zero, List.set_cons_succ]
          refine wpUpto.done (by kernel_rfl) ?_ _
          refine NoPanic.normal ?_
          clear c7 f7 c8 f8
          go_wp2_with fail
          go_ret
          obtain ⟨F, q1, q2, q3⟩ := FIN.out _ rfl
          exact ⟨_, F, rfl, .inr q1, q2, q3⟩
    ·
      intro o ho K hK
      simp only [List.getElem?_toArray, List.getElem?_cons_succ, List.getElem?_cons_zero, Option.some.injEq] at ho
      subst ho
      go_simp
      have hM17 := hM0.box
      refine hK.out _ _ ?_ (fun hHeld => ?_)
      · exact hM17.below
      clear hK K
      try simp only [Act.put, List.setIfInBounds_toArray, List.set_cons_zero, List.set_cons_succ]
      refine wpUpto.pair 3 10 (by kernel_rfl) ?_ ?_
      ·
        intro o ho K hK
        simp only [List.getElem?_toArray, List.getElem?_cons_succ, List.getElem?_cons_zero, Option.some.injEq] at ho
        subst ho
        go_simp
        go_at_call 42
        refine (hN1.out _).mono ?_
        rintro e wA18 ⟨a1, gg1, rfl, tr⟩
        have hM18 := hM17.call1 tr
        clear tr
        refine hK.out _ _ ?_ (fun hHeld => ?_)
        · exact hM18.below
        clear hK K
        try simp only [Act.put, List.setIfInBounds_toArray, List.set_cons_zero, List.set_cons_succ]
        refine wpUpto.pair 8 10 (by kernel_rfl) ?_ ?_
        ·
          intro o ho K hK
          simp only [List.getElem?_toArray, List.getElem?_cons_succ, List.getElem?_cons_zero, Option.some.injEq] at ho
          subst ho
          go_simp
          go_at_call 42
          refine (hN2.out _).mono ?_
          rintro e wA19 ⟨a2, gg2, rfl, tr⟩
          have hM19 := hM18.call2 tr
          clear tr
          refine hK.out _ _ ?_ (fun hHeld => ?_)
          · exact hM19.below
          clear hK K
          try simp only [Act.put, List.setIfInBounds_toArray, List.set_cons_zero, List.set_cons_succ]
          refine wpUpto.one 10 (by kernel_rfl) ?_
          intro o ho K hK
          simp only [List.getElem?_toArray, List.getElem?_cons_succ, List.getElem?_cons_zero, Option.some.injEq] at ho
          subst ho
          go_simp
          have hM20 := hM19.box
          refine hK.out _ _ ?_ (fun hHeld => ?_)
          · exact hM20.below
          clear hK K
          try simp only [Act.put, List.setIfInBounds_toArray, List.set_cons_zero, List.set_cons_succ]
          generalize (wA19.alloc box0) = V0 at hM20 ⊢
          have k7 := (hM20.bx ((w5.heap.size)) (by simp)).2
          have k8 := (hM20.bx ((wA19.heap.size)) (by simp)).2
          have h78 : (w5.heap.size) ≠ (wA19.heap.size) := by have := hM20.nd; simp at this; omega
          have c7 : V0.cell? ⟨(w5.heap.size), 0, none⟩ = some (.pointer none) := k7.cell 0
          have f7 : V0.frozen? ⟨(w5.heap.size), 0, none⟩ = false := k7.frozen 0
          have c8 : (V0.setCell ⟨(w5.heap.size), 0, none⟩ (.pointer (some ⟨a1, 0, none⟩))).cell? ⟨(wA19.heap.size), 0, none⟩ = some (.pointer none) := (k8.far (p := ⟨(w5.heap.size), 0, none⟩) h78.symm _).cell 0
          have f8 : (V0.setCell ⟨(w5.heap.size), 0, none⟩ (.pointer (some ⟨a1, 0, none⟩))).frozen? ⟨(wA19.heap.size), 0, none⟩ = false := (k8.far (p := ⟨(w5.heap.size), 0, none⟩) h78.symm _).frozen 0
          have FIN := Lib.hid (fun W2 hW => glo_made (W2 := W2) HH.out.1 HH.out.2.1 HH.out.2.2 hL4 HT.out HS.out.1 HS.out.2.1 HS.out.2.2 HNN.out HRD.out.1 HRD.out.2 AB.out HBX.out B5.out.lt hM20 (b7 := (w5.heap.size)) (b8 := (wA19.heap.size)) (by simp) (by simp) h78 BM.out B5.out X1.out hW)
          have S7 := Lib.hid (below_put hM20.below (p := ⟨(w5.heap.size), 0, none⟩) (hM20.bx ((w5.heap.size)) (by simp)).1 (.pointer (some ⟨a1, 0, none⟩)))
          have S8 := Lib.hid (below_put S7.out (p := ⟨(wA19.heap.size), 0, none⟩) (hM20.bx ((wA19.heap.size)) (by simp)).1 (.pointer (some ⟨a2, 0, none⟩)))
          clear k7 k8 h78
          refine wpUpto.one 11 (by kernel_rfl) ?_
          intro o ho K hK
          simp only [List.getElem?_toArray, List.getElem?_cons_succ, List.getElem?_cons_zero, Option.some.injEq] at ho
          subst ho
          go_simp
          refine hK.out _ _ ?_ (fun hHeld => ?_)
          · exact S7.out
          clear hK K
          try simp only [Act.put, List.setIfInBounds_toArray, List.set_cons_zero, List.set_cons_succ]
          refine wpUpto.one 12 (by kernel_rfl) ?_
          intro o ho K hK
          simp only [List.getElem?_toArray, List.getElem?_cons_succ, List.getElem?_cons_zero, Option.some.injEq] at ho
          subst ho
          go_simp
          refine hK.out _ _ ?_ (fun hHeld => ?_)
          · exact S8.out
          clear hK K
          try simp only [Act.put, List.setIfInBounds_toArray, List.set_cons_zero, List.set_cons_succ]
          refine wpUpto.done (by kernel_rfl) ?_ _
          refine NoPanic.normal ?_
          clear c7 f7 c8 f8
          go_wp2_with fail
          go_ret
          obtain ⟨F, q1, q2, q3⟩ := FIN.out _ rfl
          exact ⟨_, F, rfl, .inr q1, q2, q3⟩
        ·
          intro o ho K hK
          simp only [List.getElem?_toArray, List.getElem?_cons_succ, List.getElem?_cons_zero, Option.some.injEq] at ho
          subst ho
          go_simp
          have hM21 := hM18.box
          refine hK.out _ _ ?_ (fun hHeld => ?_)
          · exact hM21.below
          clear hK K
          try simp only [Act.put, List.setIfInBounds_toArray, List.set_cons_zero, List.set_cons_succ]
          refine wpUpto.one 8 (by kernel_rfl) ?_
          intro o ho K hK
          simp only [List.getElem?_toArray, List.getElem?_cons_succ, List.getElem?_cons_zero, Option.some.injEq] at ho
          subst ho
          go_simp
          go_at_call 42
          refine (hN2.out _).mono ?_
          rintro e wA22 ⟨a2, gg2, rfl, tr⟩
          have hM22 := hM21.call2 tr
          clear tr
          refine hK.out _ _ ?_ (fun hHeld => ?_)
          · exact hM22.below
          clear hK K
          try simp only [Act.put, List.setIfInBounds_toArray, List.set_cons_zero, List.set_cons_succ]
          generalize wA22 = V0 at hM22 ⊢
          have k7 := (hM22.bx ((w5.heap.size)) (by simp)).2
          have k8 := (hM22.bx ((wA18.heap.size)) (by simp)).2
          have h78 : (w5.heap.size) ≠ (wA18.heap.size) := by have := hM22.nd; simp at this; omega
          have c7 : V0.cell? ⟨(w5.heap.size), 0, none⟩ = some (.pointer none) := k7.cell 0
          have f7 : V0.frozen? ⟨(w5.heap.size), 0, none⟩ = false := k7.frozen 0
          have c8 : (V0.setCell ⟨(w5.heap.size), 0, none⟩ (.pointer (some ⟨a1, 0, none⟩))).cell? ⟨(wA18.heap.size), 0, none⟩ = some (.pointer none) := (k8.far (p := ⟨(w5.heap.size), 0, none⟩) h78.symm _).cell 0
          have f8 : (V0.setCell ⟨(w5.heap.size), 0, none⟩ (.pointer (some ⟨a1, 0, none⟩))).frozen? ⟨(wA18.heap.size), 0, none⟩ = false := (k8.far (p := ⟨(w5.heap.size), 0, none⟩) h78.symm _).frozen 0
          have FIN := Lib.hid (fun W2 hW => glo_made (W2 := W2) HH.out.1 HH.out.2.1 HH.out.2.2 hL4 HT.out HS.out.1 HS.out.2.1 HS.out.2.2 HNN.out HRD.out.1 HRD.out.2 AB.out HBX.out B5.out.lt hM22 (b7 := (w5.heap.size)) (b8 := (wA18.heap.size)) (by simp) (by simp) h78 BM.out B5.out X1.out hW)
          have S7 := Lib.hid (below_put hM22.below (p := ⟨(w5.heap.size), 0, none⟩) (hM22.bx ((w5.heap.size)) (by simp)).1 (.pointer (some ⟨a1, 0, none⟩)))
          have S8 := Lib.hid (below_put S7.out (p := ⟨(wA18.heap.size), 0, none⟩) (hM22.bx ((wA18.heap.size)) (by simp)).1 (.pointer (some ⟨a2, 0, none⟩)))
          clear k7 k8 h78
          refine wpUpto.one 11 (by kernel_rfl) ?_
          intro o ho K hK
          simp only [List.getElem?_toArray, List.getElem?_cons_succ, List.getElem?_cons_zero, Option.some.injEq] at ho
          subst ho
          go_simp
          refine hK.out _ _ ?_ (fun hHeld => ?_)
          · exact S7.out
          clear hK K
          try simp only [Act.put, List.setIfInBounds_toArray, List.set_cons_zero, List.set_cons_succ]
          refine wpUpto.one 12 (by kernel_rfl) ?_
          intro o ho K hK
          simp only [List.getElem?_toArray, List.getElem?_cons_succ, List.getElem?_cons_zero, Option.some.injEq] at ho
          subst ho
          go_simp
          refine hK.out _ _ ?_ (fun hHeld => ?_)
          · exact S8.out
          clear hK K
          try simp only [Act.put, List.setIfInBounds_toArray, List.set_cons_zero, List.set_cons_succ]
          refine wpUpto.done (by kernel_rfl) ?_ _
          refine NoPanic.normal ?_
          clear c7 f7 c8 f8
          go_wp2_with fail
          go_ret
          obtain ⟨F, q1, q2, q3⟩ := FIN.out _ rfl
          exact ⟨_, F, rfl, .inr q1, q2, q3⟩
      ·
        intro o ho K hK
        simp only [List.getElem?_toArray, List.getElem?_cons_succ, List.getElem?_cons_zero, Option.some.injEq] at ho
        subst ho
        go_simp
        have hM23 := hM17.box
        refine hK.out _ _ ?_ (fun hHeld => ?_)
        · exact hM23.below
        clear hK K
        try simp only [Act.put, List.setIfInBounds_toArray, List.set_cons_zero, List.set_cons_succ]
        refine wpUpto.one 3 (by kernel_rfl) ?_
        intro o ho K hK
        simp only [List.getElem?_toArray, List.getElem?_cons_succ, List.getElem?_cons_zero, Option.some.injEq] at ho
        subst ho
        go_simp
        go_at_call 42
        refine (hN1.out _).mono ?_
        rintro e wA24 ⟨a1, gg1, rfl, tr⟩
        have hM24 := hM23.call1 tr
        clear tr
        refine hK.out _ _ ?_ (fun hHeld => ?_)
        · exact hM24.below
        clear hK K
        try simp only [Act.put, List.setIfInBounds_toArray, List.set_cons_zero, List.set_cons_succ]
        refine wpUpto.one 8 (by kernel_rfl) ?_
        intro o ho K hK
        simp only [List.getElem?_toArray, List.getElem?_cons_succ, List.getElem?_cons_zero, Option.some.injEq] at ho
        subst ho
        go_simp
        go_at_call 42
        refine (hN2.out _).mono ?_
        rintro e wA25 ⟨a2, gg2, rfl, tr⟩
        have hM25 := hM24.call2 tr
        clear tr
        refine hK.out _ _ ?_ (fun hHeld => ?_)
        · exact hM25.below
        clear hK K
        try simp only [Act.put, List.setIfInBounds_toArray, List.set_cons_zero, List.set_cons_succ]
        generalize wA25 = V0 at hM25 ⊢
        have k7 := (hM25.bx ((w5.heap.size)) (by simp)).2
        have k8 := (hM25.bx ((w5.heap.size + 1)) (by simp)).2
        have h78 : (w5.heap.size) ≠ (w5.heap.size + 1) := by have := hM25.nd; simp at this; omega
        have c7 : V0.cell? ⟨(w5.heap.size), 0, none⟩ = some (.pointer none) := k7.cell 0
        have f7 : V0.frozen? ⟨(w5.heap.size), 0, none⟩ = false := k7.frozen 0
        have c8 : (V0.setCell ⟨(w5.heap.size), 0, none⟩ (.pointer (some ⟨a1, 0, none⟩))).cell? ⟨(w5.heap.size + 1), 0, none⟩ = some (.pointer none) := (k8.far (p := ⟨(w5.heap.size), 0, none⟩) h78.symm _).cell 0
        have f8 : (V0.setCell ⟨(w5.heap.size), 0, none⟩ (.pointer (some ⟨a1, 0, none⟩))).frozen? ⟨(w5.heap.size + 1), 0, none⟩ = false := (k8.far (p := ⟨(w5.heap.size), 0, none⟩) h78.symm _).frozen 0
        have FIN := Lib.hid (fun W2 hW => glo_made (W2 := W2) HH.out.1 HH.out.2.1 HH.out.2.2 hL4 HT.out HS.out.1 HS.out.2.1 HS.out.2.2 HNN.out HRD.out.1 HRD.out.2 AB.out HBX.out B5.out.lt hM25 (b7 := (w5.heap.size)) (b8 := (w5.heap.size + 1)) (by simp) (by simp) h78 BM.out B5.out X1.out hW)
        have S7 := Lib.hid (below_put hM25.below (p := ⟨(w5.heap.size), 0, none⟩) (hM25.bx ((w5.heap.size)) (by simp)).1 (.pointer (some ⟨a1, 0, none⟩)))
        have S8 := Lib.hid (below_put S7.out (p := ⟨(w5.heap.size + 1), 0, none⟩) (hM25.bx ((w5.heap.size + 1)) (by simp)).1 (.pointer (some ⟨a2, 0, none⟩)))
        clear k7 k8 h78
        refine wpUpto.one 11 (by kernel_rfl) ?_
        intro o ho K hK
        simp only [List.getElem?_toArray, List.getElem?_cons_succ, List.getElem?_cons_zero, Option.some.injEq] at ho
        subst ho
        go_simp
        refine hK.out _ _ ?_ (fun hHeld => ?_)
        · exact S7.out
        clear hK K
        try simp only [Act.put, List.setIfInBounds_toArray, List.set_cons_zero, List.set_cons_succ]
        refine wpUpto.one 12 (by kernel_rfl) ?_
        intro o ho K hK
        simp only [List.getElem?_toArray, List.getElem?_cons_succ, List.getElem?_cons_zero, Option.some.injEq] at ho
        subst ho
        go_simp
        refine hK.out _ _ ?_ (fun hHeld => ?_)
        · exact S8.out
        clear hK K
        try simp only [Act.put, List.setIfInBounds_toArray, List.set_cons_zero, List.set_cons_succ]
        refine wpUpto.done (by kernel_rfl) ?_ _
        refine NoPanic.normal ?_
        clear c7 f7 c8 f8
        go_wp2_with fail
        go_ret
        obtain ⟨F, q1, q2, q3⟩ := FIN.out _ rfl
        exact ⟨_, F, rfl, .inr q1, q2, q3⟩
    ·
      intro o ho K hK
      simp only [List.getElem?_toArray, List.getElem?_cons_succ, List.getElem?_cons_zero, Option.some.injEq] at ho
      subst ho
      go_simp
      have hM26 := hM0.box
      refine hK.out _ _ ?_ (fun hHeld => ?_)
      · exact hM26.below
      clear hK K
      try simp only [Act.put, List.setIfInBounds_toArray, List.set_cons_zero, List.set_cons_succ]
      refine wpUpto.pair 3 9 (by kernel_rfl) ?_ ?_
      ·
        intro o ho K hK
        simp only [List.getElem?_toArray, List.getElem?_cons_succ, List.getElem?_cons_zero, Option.some.injEq] at ho
        subst ho
        go_simp
        go_at_call 42
        refine (hN1.out _).mono ?_
        rintro e wA27 ⟨a1, gg1, rfl, tr⟩
        have hM27 := hM26.call1 tr
        clear tr
        refine hK.out _ _ ?_ (fun hHeld => ?_)
        · exact hM27.below
        clear hK K
        try simp only [Act.put, List.setIfInBounds_toArray, List.set_cons_zero, List.set_cons_succ]
        refine wpUpto.pair 8 9 (by kernel_rfl) ?_ ?_
        ·
          intro o ho K hK
          simp only [List.getElem?_toArray, List.getElem?_cons_succ, List.getElem?_cons_zero, Option.some.injEq] at ho
          subst ho
          go_simp
          go_at_call 42
          refine (hN2.out _).mono ?_
          rintro e wA28 ⟨a2, gg2, rfl, tr⟩
          have hM28 := hM27.call2 tr
          clear tr
          refine hK.out _ _ ?_ (fun hHeld => ?_)
          · exact hM28.below
          clear hK K
          try simp only [Act.put, List.setIfInBounds_toArray, List.set_cons_zero, List.set_cons_succ]
          refine wpUpto.one 9 (by kernel_rfl) ?_
          intro o ho K hK
          simp only [List.getElem?_toArray, List.getElem?_cons_succ, List.getElem?_cons_zero, Option.some.injEq] at ho
          subst ho
          go_simp
          have hM29 := hM28.box
          refine hK.out _ _ ?_ (fun hHeld => ?_)
          · exact hM29.below
          clear hK K
          try simp only [Act.put, List.setIfInBounds_toArray, List.set_cons_zero, List.set_cons_succ]
          generalize (wA28.alloc box0) = V0 at hM29 ⊢
          have k7 := (hM29.bx ((wA28.heap.size)) (by simp)).2
          have k8 := (hM29.bx ((w5.heap.size)) (by simp)).2
          have h78 : (wA28.heap.size) ≠ (w5.heap.size) := by have := hM29.nd; simp at this; omega
          have c7 : V0.cell? ⟨(wA28.heap.size), 0, none⟩ = some (.pointer none) := k7.cell 0
          have f7 : V0.frozen? ⟨(wA28.heap.size), 0, none⟩ = false := k7.frozen 0
          have c8 : (V0.setCell ⟨(wA28.heap.size), 0, none⟩ (.pointer (some ⟨a1, 0, none⟩))).cell? ⟨(w5.heap.size), 0, none⟩ = some (.pointer none) := (k8.far (p := ⟨(wA28.heap.size), 0, none⟩) h78.symm _).cell 0
          have f8 : (V0.setCell ⟨(wA28.heap.size), 0, none⟩ (.pointer (some ⟨a1, 0, none⟩))).frozen? ⟨(w5.heap.size), 0, none⟩ = false := (k8.far (p := ⟨(wA28.heap.size), 0, none⟩) h78.symm _).frozen 0
          have FIN := Lib.hid (fun W2 hW => glo_made (W2 := W2) HH.out.1 HH.out.2.1 HH.out.2.2 hL4 HT.out HS.out.1 HS.out.2.1 HS.out.2.2 HNN.out HRD.out.1 HRD.out.2 AB.out HBX.out B5.out.lt hM29 (b7 := (wA28.heap.size)) (b8 := (w5.heap.size)) (by simp) (by simp) h78 BM.out B5.out X1.out hW)
          have S7 := Lib.hid (below_put hM29.below (p := ⟨(wA28.heap.size), 0, none⟩) (hM29.bx ((wA28.heap.size)) (by simp)).1 (.pointer (some ⟨a1, 0, none⟩)))
          have S8 := Lib.hid (below_put S7.out (p := ⟨(w5.heap.size), 0, none⟩) (hM29.bx ((w5.heap.size)) (by simp)).1 (.pointer (some ⟨a2, 0, none⟩)))
          clear k7 k8 h78
          refine wpUpto.one 11 (by kernel_rfl) ?_
          intro o ho K hK
          simp only [List.getElem?_toArray, List.getElem?_cons_succ, List.getElem?_cons_zero, Option.some.injEq] at ho
          subst ho
          go_simp
          refine hK.out _ _ ?_ (fun hHeld => ?_)
          · exact S7.out
          clear hK K
          try simp only [Act.put, List.setIfInBounds_toArray, List.set_cons_zero, List.set_cons_succ]
          refine wpUpto.one 12 (by kernel_rfl) ?_
          intro o ho K hK
          simp only [List.getElem?_toArray, List.getElem?_cons_succ, List.getElem?_cons_zero, Option.some.injEq] at ho
          subst ho
          go_simp
          refine hK.out _ _ ?_ (fun hHeld => ?_)
          · exact S8.out
          clear hK K
          try simp only [Act.put, List.setIfInBounds_toArray, List.set_cons_zero, List.set_cons_succ]
          refine wpUpto.done (by kernel_rfl) ?_ _
          refine NoPanic.normal ?_
          clear c7 f7 c8 f8
          go_wp2_with fail
          go_ret
          obtain ⟨F, q1, q2, q3⟩ := FIN.out _ rfl
          exact ⟨_, F, rfl, .inr q1, q2, q3⟩
        ·
          intro o ho K hK
          simp only [List.getElem?_toArray, List.getElem?_cons_succ, List.getElem?_cons_zero, Option.some.injEq] at ho
          subst ho
          go_simp
          have hM30 := hM27.box
          refine hK.out _ _ ?_ (fun hHeld => ?_)
          · exact hM30.below
          clear hK K
          try simp only [Act.put, List.setIfInBounds_toArray, List.set_cons_zero, List.set_cons_succ]
          refine wpUpto.one 8 (by kernel_rfl) ?_
          intro o ho K hK
          simp only [List.getElem?_toArray, List.getElem?_cons_succ, List.getElem?_cons_zero, Option.some.injEq] at ho
          subst ho
          go_simp
          go_at_call 42
          refine (hN2.out _).mono ?_
          rintro e wA31 ⟨a2, gg2, rfl, tr⟩
          have hM31 := hM30.call2 tr
          clear tr
          refine hK.out _ _ ?_ (fun hHeld => ?_)
          · exact hM31.below
          clear hK K
          try simp only [Act.put, List.setIfInBounds_toArray, List.set_cons_zero, List.set_cons_succ]
          generalize wA31 = V0 at hM31 ⊢
          have k7 := (hM31.bx ((wA27.heap.size)) (by simp)).2
          have k8 := (hM31.bx ((w5.heap.size)) (by simp)).2
          have h78 : (wA27.heap.size) ≠ (w5.heap.size) := by have := hM31.nd; simp at this; omega
          have c7 : V0.cell? ⟨(wA27.heap.size), 0, none⟩ = some (.pointer none) := k7.cell 0
          have f7 : V0.frozen? ⟨(wA27.heap.size), 0, none⟩ = false := k7.frozen 0
          have c8 : (V0.setCell ⟨(wA27.heap.size), 0, none⟩ (.pointer (some ⟨a1, 0, none⟩))).cell? ⟨(w5.heap.size), 0, none⟩ = some (.pointer none) := (k8.far (p := ⟨(wA27.heap.size), 0, none⟩) h78.symm _).cell 0
          have f8 : (V0.setCell ⟨(wA27.heap.size), 0, none⟩ (.pointer (some ⟨a1, 0, none⟩))).frozen? ⟨(w5.heap.size), 0, none⟩ = false := (k8.far (p := ⟨(wA27.heap.size), 0, none⟩) h78.symm _).frozen 0
          have FIN := Lib.hid (fun W2 hW => glo_made (W2 := W2) HH.out.1 HH.out.2.1 HH.out.2.2 hL4 HT.out HS.out.1 HS.out.2.1 HS.out.2.2 HNN.out HRD.out.1 HRD.out.2 AB.out HBX.out B5.out.lt hM31 (b7 := (wA27.heap.size)) (b8 := (w5.heap.size)) (by simp) (by simp) h78 BM.out B5.out X1.out hW)
          have S7 := Lib.hid (below_put hM31.below (p := ⟨(wA27.heap.size), 0, none⟩) (hM31.bx ((wA27.heap.size)) (by simp)).1 (.pointer (some ⟨a1, 0, none⟩)))
          have S8 := Lib.hid (below_put S7.out (p := ⟨(w5.heap.size), 0, none⟩) (hM31.bx ((w5.heap.size)) (by simp)).1 (.pointer (some ⟨a2, 0, none⟩)))
          clear k7 k8 h78
          refine wpUpto.one 11 (by kernel_rfl) ?_
          intro o ho K hK
          simp only [List.getElem?_toArray, List.getElem?_cons_succ, List.getElem?_cons_zero, Option.some.injEq] at ho
          subst ho
          go_simp
          refine hK.out _ _ ?_ (fun hHeld => ?_)
          · exact S7.out
          clear hK K
          try simp only [Act.put, List.setIfInBounds_toArray, List.set_cons_zero, List.set_cons_succ]
          refine wpUpto.one 12 (by kernel_rfl) ?_
          intro o ho K hK
          simp only [List.getElem?_toArray, List.getElem?_cons_succ, List.getElem?_cons_zero, Option.some.injEq] at ho
          subst ho
          go_simp
          refine hK.out _ _ ?_ (fun hHeld => ?_)
          · exact S8.out
          clear hK K
          try simp only [Act.put, List.setIfInBounds_toArray, List.set_cons_zero, List.set_cons_succ]
          refine wpUpto.done (by kernel_rfl) ?_ _
          refine NoPanic.normal ?_
          clear c7 f7 c8 f8
          go_wp2_with fail
          go_ret
          obtain ⟨F, q1, q2, q3⟩ := FIN.out _ rfl
          exact ⟨_, F, rfl, .inr q1, q2, q3⟩
      ·
        intro o ho K hK
        simp only [List.getElem?_toArray, List.getElem?_cons_succ, List.getElem?_cons_zero, Option.some.injEq] at ho
        subst ho
        go_simp
        have hM32 := hM26.box
        refine hK.out _ _ ?_ (fun hHeld => ?_)
        · exact hM32.below
        clear hK K
        try simp only [Act.put, List.setIfInBounds_toArray, List.set_cons_zero, List.set_cons_succ]
        refine wpUpto.one 3 (by kernel_rfl) ?_
        intro o ho K hK
        simp only [List.getElem?_toArray, List.getElem?_cons_succ, List.getElem?_cons_zero, Option.some.injEq] at ho
        subst ho
        go_simp
        go_at_call 42
        refine (hN1.out _).mono ?_
        rintro e wA33 ⟨a1, gg1, rfl, tr⟩
        have hM33 := hM32.call1 tr
        clear tr
        refine hK.out _ _ ?_ (fun hHeld => ?_)
        · exact hM33.below
        clear hK K
        try simp only [Act.put, List.setIfInBounds_toArray, List.set_cons_zero, List.set_cons_succ]
        refine wpUpto.one 8 (by kernel_rfl) ?_
        intro o ho K hK
        simp only [List.getElem?_toArray, List.getElem?_cons_succ, List.getElem?_cons_zero, Option.some.injEq] at ho
        subst ho
        go_simp
        go_at_call 42
        refine (hN2.out _).mono ?_
        rintro e wA34 ⟨a2, gg2, rfl, tr⟩
        have hM34 := hM33.call2 tr
        clear tr
        refine hK.out _ _ ?_ (fun hHeld => ?_)
        · exact hM34.below
        clear hK K
        try simp only [Act.put, List.setIfInBounds_toArray, List.set_cons_zero, List.set_cons_succ]
        generalize wA34 = V0 at hM34 ⊢
        have k7 := (hM34.bx ((w5.heap.size + 1)) (by simp)).2
        have k8 := (hM34.bx ((w5.heap.size)) (by simp)).2
        have h78 : (w5.heap.size + 1) ≠ (w5.heap.size) := by have := hM34.nd; simp at this; omega
        have c7 : V0.cell? ⟨(w5.heap.size + 1), 0, none⟩ = some (.pointer none) := k7.cell 0
        have f7 : V0.frozen? ⟨(w5.heap.size + 1), 0, none⟩ = false := k7.frozen 0
        have c8 : (V0.setCell ⟨(w5.heap.size + 1), 0, none⟩ (.pointer (some ⟨a1, 0, none⟩))).cell? ⟨(w5.heap.size), 0, none⟩ = some (.pointer none) := (k8.far (p := ⟨(w5.heap.size + 1), 0, none⟩) h78.symm _).cell 0
        have f8 : (V0.setCell ⟨(w5.heap.size + 1), 0, none⟩ (.pointer (some ⟨a1, 0, none⟩))).frozen? ⟨(w5.heap.size), 0, none⟩ = false := (k8.far (p := ⟨(w5.heap.size + 1), 0, none⟩) h78.symm _).frozen 0
        have FIN := Lib.hid (fun W2 hW => glo_made (W2 := W2) HH.out.1 HH.out.2.1 HH.out.2.2 hL4 HT.out HS.out.1 HS.out.2.1 HS.out.2.2 HNN.out HRD.out.1 HRD.out.2 AB.out HBX.out B5.out.lt hM34 (b7 := (w5.heap.size + 1)) (b8 := (w5.heap.size)) (by simp) (by simp) h78 BM.out B5.out X1.out hW)
        have S7 := Lib.hid (below_put hM34.below (p := ⟨(w5.heap.size + 1), 0, none⟩) (hM34.bx ((w5.heap.size + 1)) (by simp)).1 (.pointer (some ⟨a1, 0, none⟩)))
        have S8 := Lib.hid (below_put S7.out (p := ⟨(w5.heap.size), 0, none⟩) (hM34.bx ((w5.heap.size)) (by simp)).1 (.pointer (some ⟨a2, 0, none⟩)))
        clear k7 k8 h78
        refine wpUpto.one 11 (by kernel_rfl) ?_
        intro o ho K hK
        simp only [List.getElem?_toArray, List.getElem?_cons_succ, List.getElem?_cons_zero, Option.some.injEq] at ho
        subst ho
        go_simp
        refine hK.out _ _ ?_ (fun hHeld => ?_)
        · exact S7.out
        clear hK K
        try simp only [Act.put, List.setIfInBounds_toArray, List.set_cons_zero, List.set_cons_succ]
        refine wpUpto.one 12 (by kernel_rfl) ?_
        intro o ho K hK
        simp only [List.getElem?_toArray, List.getElem?_cons_succ, List.getElem?_cons_zero, Option.some.injEq] at ho
        subst ho
        go_simp
        refine hK.out _ _ ?_ (fun hHeld => ?_)
        · exact S8.out
        clear hK K
        try simp only [Act.put, List.setIfInBounds_toArray, List.set_cons_zero, List.set_cons_succ]
        refine wpUpto.done (by kernel_rfl) ?_ _
        refine NoPanic.normal ?_
        clear c7 f7 c8 f8
        go_wp2_with fail
        go_ret
        obtain ⟨F, q1, q2, q3⟩ := FIN.out _ rfl
        exact ⟨_, F, rfl, .inr q1, q2, q3⟩
end Go.Proofs.YtcipljpalohjiaaDoor
