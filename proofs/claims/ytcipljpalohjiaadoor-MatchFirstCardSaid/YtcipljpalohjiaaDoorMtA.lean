/-
  A matcher's things and trails in memory: what they are like, tell.
  Conditions: those of each theorem.
-/
import Derived.Test.YtcipljpalohjiaaDoorSep
import Derived.Test.YtcipljpalohjiaaDoorGlCn
import Derived.Test.YtcipljpalohjiaaDoorMtPur
import Derived.Test.YtcipljpalohjiaaDoorConst
import Derived.Test.YtcipljpalohjiaaDoorRowAt
import Derived.Test.YtcipljpalohjiaaDoorStrMid
import Derived.Test.YtcipljpalohjiaaDoorKInt
import Derived.Test.YtcipljpalohjiaaDoorRdT
import Derived.Deep.Slices
import Derived.BigQuiet
import Derived.Deep.QuietTactic
namespace Go.Proofs.YtcipljpalohjiaaDoor
open Go.RowKit

/-- Blocks, and nothing known of them. -/
def Room : Thing := fun F W => ∀ b, F b → b < W.heap.size
theorem room_framed : Framed Room := ⟨fun h ho _ b hb => Nat.lt_of_lt_of_le (h b hb) ho.size, fun h => h⟩
def Stars : List Thing → Thing
  | [] => Room
  | P :: l => Star P (Stars l)
section
variable {F : Nat → Prop} {w w' : World} {P P' : Thing}
theorem Stars.framed : ∀ {l : List Thing}, (∀ Q ∈ l, Framed Q) → Framed (Stars l)
  | [], _ => room_framed
  | _ :: _, h => Star.framed (h _ (by simp)) (Stars.framed fun Q hQ => h Q (by simp [hQ]))
/-- One of them, and what a call that turns it leaves of all. -/
theorem Stars.at_ : ∀ {l : List Thing} {i : Nat} {F : Nat → Prop}, (∀ Q ∈ l, Framed Q) → l[i]? = some P → Stars l F w → ∃ A, P A w ∧ (∀ b, A b → F b) ∧ ∀ P' w', Turned P' A w w' → Turned (Stars (l.set i P')) F w w'
  | [], _, _, _, hx, _ => by simp at hx
  | Q :: l, 0, F, hf, hx, h => by
    simp at hx
    subst hx
    obtain ⟨A, B, hs⟩ := h
    exact ⟨A, hs.fst, fun b hb => (hs.un b).2 (.inl hb), fun P' w' t => hs.left (Stars.framed fun R hR => hf R (by simp [hR])) t⟩
  | Q :: l, i + 1, F, hf, hx, h => by
    obtain ⟨A, B, hs⟩ := h
    obtain ⟨C, hp, hc, hk⟩ := Stars.at_ (l := l) (i := i) (F := B) (fun R hR => hf R (by simp [hR])) (by simpa using hx) hs.snd
    exact ⟨C, hp, fun b hb => (hs.un b).2 (.inr (hc b hb)), fun P' w' t => hs.right (hf Q (by simp)) (hk P' w' t)⟩
/-- One thing more, made behind them. -/
theorem Stars.snoc : ∀ {l : List Thing} {F G : Nat → Prop}, (∀ Q ∈ l, Framed Q) → Stars l F w → P G w → (∀ b, F b → ¬ G b) → (∀ b, G b → b < w.heap.size) → Stars (l ++ [P]) (fun b => F b ∨ G b) w
  | [], F, G, _, h, hp, hd, hl => ⟨G, F, hp, h, fun b hb hf => hd b hf hb, fun b => Or.comm⟩
  | Q :: l, F, G, hf, h, hp, hd, hl => by
    obtain ⟨A, B, hs⟩ := h
    refine ⟨A, fun b => B b ∨ G b, hs.fst, Stars.snoc (fun R hR => hf R (by simp [hR])) hs.snd hp (fun b hb => hd b ((hs.un b).2 (.inr hb))) hl, fun b ha hb => ?_, fun b => by rw [hs.un b, or_assoc]⟩
    rcases hb with hb | hb
    · exact hs.ap b ha hb
    · exact hd b ((hs.un b).2 (.inl ha)) hb
/-- More blocks, of which nothing is known. -/
theorem Stars.wide : ∀ {l : List Thing} {F G : Nat → Prop}, Stars l F w → (∀ b, G b → b < w.heap.size) → (∀ b, F b → G b) → Stars l G w
  | [], _, _, _, hl, _ => hl
  | Q :: l, F, G, h, hl, hg => by
    obtain ⟨A, B, hs⟩ := h
    refine ⟨A, fun b => G b ∧ ¬ A b, hs.fst, Stars.wide hs.snd (fun b hb => hl b hb.1) (fun b hb => ⟨hg b ((hs.un b).2 (.inr hb)), fun ha => hs.ap b ha hb⟩), fun b ha hb => hb.2 ha, fun b => ⟨fun h => ?_, ?_⟩⟩
    · rcases Classical.em (A b) with k | k
      · exact .inl k
      · exact .inr ⟨h, k⟩
    · rintro (k | k)
      · exact hg b ((hs.un b).2 (.inl k))
      · exact k.1
end
end Go.Proofs.YtcipljpalohjiaaDoor
namespace Go.Proofs.YtcipljpalohjiaaDoor
open Go.RowKit

def oneV (A q I : Nat) : Value := .func (.func 63) #[] #[.pointer (some ⟨A, 0, none⟩), .pointer (some ⟨q, 0, none⟩), .pointer (some ⟨I, 0, none⟩)]
structure OneF (F : Nat → Prop) (W : World) (v : Value) (t : Thg) (A q I : Nat) (p : List Nat) (fa fi : Nat → Bool) : Prop where
  val : v = oneV A q I
  fA : F A
  fq : F q
  fI : F I
  ne : A ≠ I
  bA : Blk W A 66 (bz 256 fa)
  bq : Blk W q 9 #[.string (str p)]
  bI : Blk W I 66 (bz 256 fi)
  len : p.length ≤ 1024
  byt : ∀ c ∈ p, c < 256
  thg : thingsS p = some [t]
  ask : ∀ c, c < 256 → fa c = true → fi c = t.one c
/-- A thing in memory. -/
def OneT (v : Value) (t : Thg) : Thing := fun F W => (∀ b, F b → b < W.heap.size) ∧ ((t.any = true ∧ v = .nilFunc) ∨ (t.any = false ∧ ∃ A q I p fa fi, OneF F W v t A q I p fa fi))
theorem one_framed (v : Value) (t : Thg) : Framed (OneT v t) := by
  constructor
  · rintro F S w w' ⟨hl, h⟩ ho hd
    refine ⟨fun b hb => Nat.lt_of_lt_of_le (hl b hb) ho.size, ?_⟩
    rcases h with h | ⟨h0, A, q, I, p, fa, fi, h⟩
    · exact .inl h
    · exact .inr ⟨h0, A, q, I, p, fa, fi, { h with bA := h.bA.only ho (hd A h.fA), bq := h.bq.only ho (hd q h.fq), bI := h.bI.only ho (hd I h.fI) }⟩
  · rintro F w ⟨hl, _⟩; exact hl
section
variable {F : Nat → Prop} {w : World} {v : Value} {t : Thg}
theorem OneT.star (h : OneT v t F w) : (v = .nilFunc ∧ t.any = true) ∨ (∃ fn f c, v = .func fn f c) ∧ t.any = false := by
  rcases h.2 with h | ⟨h0, A, q, I, p, fa, fi, h⟩
  · exact .inl ⟨h.2, h.1⟩
  · exact .inr ⟨⟨_, _, _, h.val⟩, h0⟩
theorem OneT.one' (h : OneT v t F w) : v.oneCell' = true := by
  rcases h.star with ⟨rfl, _⟩ | ⟨⟨_, _, _, rfl⟩, _⟩ <;> rfl
end

theorem eq_nil (W : World) : (binOp .eql 82 .nilFunc .nilFunc).run Tryd.prog W = .ok (.bool true) W := by
  kernel_rfl
theorem eq_fn (fn : Fn) (f c : Array Value) (W : World) : (binOp .eql 82 (.func fn f c) .nilFunc).run Tryd.prog W = .ok (.bool false) W := by
  kernel_rfl
set_option maxRecDepth 100000 in
set_option maxHeartbeats 1000000 in
theorem any_nil (w : World) : Calls Tryd.prog 40 #[.nilFunc] w fun e w' => e = .returned (.bool true) ∧ w = w' := by
  have hq := eq_nil w
  go_enter Tryd.func40, Tryd.ntmps40
  go_wp2_with fail
  go_ret
  exact ⟨rfl, rfl⟩
set_option maxRecDepth 100000 in
set_option maxHeartbeats 1000000 in
theorem any_fn (fn : Fn) (f c : Array Value) (w : World) : Calls Tryd.prog 40 #[.func fn f c] w fun e w' => e = .returned (.bool false) ∧ w = w' := by
  have hq := eq_fn fn f c w
  go_enter Tryd.func40, Tryd.ntmps40
  go_wp2_with fail
  go_ret
  exact ⟨rfl, rfl⟩
theorem any_is {F : Nat → Prop} {w0 : World} {v : Value} {t : Thg} (h : OneT v t F w0) (w : World) : Calls Tryd.prog 40 #[v] w fun e w' => e = .returned (.bool t.any) ∧ w = w' := by
  rcases h.star with ⟨rfl, e⟩ | ⟨⟨fn, f, c, rfl⟩, e⟩ <;> rw [e]
  · exact any_nil w
  · exact any_fn fn f c w

theorem OneF.turned {F : Nat → Prop} {w w' : World} {v : Value} {t : Thg} {A q I : Nat} {p : List Nat} {fa fi fa' fi' : Nat → Bool} (h : OneF F w v t A q I p fa fi) (h0 : t.any = false) (hl : ∀ b, F b → b < w.heap.size)
    (ho : Only F w w') (hA : Blk w' A 66 (bz 256 fa')) (hI : Blk w' I 66 (bz 256 fi')) (hq : Blk w' q 9 #[.string (str p)]) (hk : ∀ c, c < 256 → fa' c = true → fi' c = t.one c) : Turned (OneT v t) F w w' :=
  ⟨F, ⟨fun b hb => Nat.lt_of_lt_of_le (hl b hb) ho.size, .inr ⟨h0, A, q, I, p, fa', fi', { h with bA := hA, bq := hq, bI := hI, ask := hk }⟩⟩, ho, fun _ => .inl⟩

set_option maxRecDepth 100000 in
set_option maxHeartbeats 2000000 in
/-- A call of it: is the byte like it? -/
theorem one1_is {F : Nat → Prop} {w : World} {v : Value} {t : Thg} {A q I : Nat} {p : List Nat} {fa fi : Nat → Bool} (h : OneF F w v t A q I p fa fi) (h0 : t.any = false) (hl : ∀ b, F b → b < w.heap.size) (c : Nat) (hc : c < 256) :
    Calls Tryd.prog 63 #[.int .u8 (c : Nat), .pointer (some ⟨A, 0, none⟩), .pointer (some ⟨q, 0, none⟩), .pointer (some ⟨I, 0, none⟩)] w fun e w' => e = .returned (.bool (t.one c)) ∧ Turned (OneT v t) F w w' := by
  have HF := Lib.hid h
  have HL := Lib.hid hl
  have H0 := Lib.hid h0
  have cA : w.cell? ⟨A, c, none⟩ = some (.bool (fa c)) := (h.bA.cell c).trans (bz_at fa hc)
  have cI : w.cell? ⟨I, c, none⟩ = some (.bool (fi c)) := (h.bI.cell c).trans (bz_at fi hc)
  have hca : (bz 256 fa)[c]? = some (.bool (fa c)) := bz_at fa hc
  by_cases hf : fa c = true
  · have HE := Lib.hid (h.ask c hc hf)
    rw [hf] at cA
    clear h hl h0 hf hca
    generalize fi c = r at *
    go_enter Tryd.func63, Tryd.ntmps63
    go_wp2_with fail
    go_ret
    exact ⟨by rw [← HE.out]; rfl, HF.out.turned H0.out HL.out (Only.refl _ _) HF.out.bA HF.out.bI HF.out.bq HF.out.ask⟩
  · have hf : fa c = false := by simpa using hf
    rw [hf] at cA
    have cq : w.cell? ⟨q, 0, none⟩ = some (.string (str p)) := h.bq.cell 0
    have M := Match_is p [c] h.byt (by have := h.len; omega) (by simpa using hc) (by simp) (w.alloc (.cells #[.int .u8 (c : Nat)] 5))
    have ke : errS p = 0 := by unfold errS; rw [if_neg (by have := h.len; omega), h.thg]; rfl
    obtain ⟨r, HR⟩ : ∃ r, Hid (t.one c = r) := ⟨_, Lib.hid rfl⟩
    rw [ok_one h.len h.thg h0, ke, HR.out] at M
    have HM := Lib.hid M
    have HN := Lib.hid h.ne
    have ks : (convert 22 9 (.slice (some ⟨w.heap.size, 0, none⟩) 1 1)).run Tryd.prog (w.alloc (.cells #[.int .u8 (c : Nat)] 5)) = .ok (.string (str [c])) (w.alloc (.cells #[.int .u8 (c : Nat)] 5)) := run_str (w := w.alloc (.cells #[.int .u8 (c : Nat)] 5)) (Rd.ofBlk (heap_alloc_new w _) [c] rfl)
    have X1 := Lib.hid ((Below.refl w.heap.size w).alloc (Nat.le_refl _) (.cells #[.int .u8 (c : Nat)] 5))
    clear h hl h0 hf hca M cI
    go_enter Tryd.func63, Tryd.ntmps63
    go_wp2_with fail
    refine HM.out.mono ?_
    rintro e w2 ⟨rfl, hb⟩
    have X2 := Lib.hid (X1.out.trans (hb.mono X1.out.size))
    clear hb HM ks X1
    have bA := HF.out.bA.below X2.out HF.out.bA.lt
    have bI := HF.out.bI.below X2.out HF.out.bI.lt
    have bq := HF.out.bq.below X2.out HF.out.bq.lt
    have f1 := bI.frozen c
    have d1 : w2.cell? ⟨I, c, none⟩ = some (.bool (fi c)) := (bI.cell c).trans (bz_at fi hc)
    have d2 : (w2.setCell ⟨I, c, none⟩ (.bool r)).cell? ⟨A, c, none⟩ = some (.bool (fa c)) := ((bA.far (p := ⟨I, c, none⟩) HN.out _).cell c).trans (bz_at fa hc)
    have f2 : (w2.setCell ⟨I, c, none⟩ (.bool r)).frozen? ⟨A, c, none⟩ = false := (bA.far (p := ⟨I, c, none⟩) HN.out _).frozen c
    have hi3 := (bI.set_ c (.bool r)).far (p := ⟨A, c, none⟩) HN.out.symm (.bool true)
    have c5 : ((w2.setCell ⟨I, c, none⟩ (.bool r)).setCell ⟨A, c, none⟩ (.bool true)).cell? ⟨I, c, none⟩ = some (.bool r) := by
      rw [hi3.cell, bz_set, bz_at _ hc, if_pos rfl]
    have ha3 := (bA.far (p := ⟨I, c, none⟩) HN.out (.bool r)).set_ c (.bool true)
    rw [bz_set] at hi3 ha3
    have nq : q ≠ I := (bq.ne_ bI (by decide))
    have nq2 : q ≠ A := (bq.ne_ bA (by decide))
    have hq3 := (bq.far (p := ⟨I, c, none⟩) nq (.bool r)).far (p := ⟨A, c, none⟩) nq2 (.bool true)
    have ho : Only F w ((w2.setCell ⟨I, c, none⟩ (.bool r)).setCell ⟨A, c, none⟩ (.bool true)) := ((Only.of_below X2.out (Nat.le_refl _) F).setCell (p := ⟨I, c, none⟩) (.inl HF.out.fI) _).setCell (p := ⟨A, c, none⟩) (.inl HF.out.fA) _
    have hk : ∀ d, d < 256 → (if d = c then true else fa d) = true → (if d = c then r else fi d) = t.one d := fun d hd h => by
      by_cases e : d = c
      · subst e; rw [if_pos rfl, HR.out]
      · rw [if_neg e] at h ⊢; exact HF.out.ask d hd h
    have Z := Lib.hid (HF.out.turned H0.out HL.out ho ha3 hi3 hq3 hk)
    clear bA bI bq hi3 ha3 hq3 ho hk nq nq2 cA cq
    go_wp2_with fail
    go_ret
    exact ⟨by rw [HR.out]; rfl, Z.out⟩
theorem one_is {F : Nat → Prop} {w : World} {v : Value} {t : Thg} (h : OneT v t F w) (h0 : t.any = false) : ∃ A q I, v = oneV A q I ∧ ∀ c, c < 256 →
    Calls Tryd.prog 63 #[.int .u8 (c : Nat), .pointer (some ⟨A, 0, none⟩), .pointer (some ⟨q, 0, none⟩), .pointer (some ⟨I, 0, none⟩)] w fun e w' => e = .returned (.bool (t.one c)) ∧ Turned (OneT v t) F w w' := by
  rcases h.2 with ⟨h1, _⟩ | ⟨_, A, q, I, p, fa, fi, hf⟩
  · rw [h0] at h1; cases h1
  · exact ⟨A, q, I, hf.val, fun c hc => one1_is hf h0 h.1 c hc⟩

/-! ### thingOf -/
def NewB (w w' : World) : Nat → Prop := fun b => w.heap.size ≤ b ∧ b < w'.heap.size
set_option maxRecDepth 100000 in
set_option maxHeartbeats 2000000 in
theorem thingOf_is (p : List Nat) (t : Thg) (hp : ∀ c ∈ p, c < 256) (hl : p.length ≤ 1024) (ht : thingsS p = some [t]) (w : World) :
    Calls Tryd.prog 56 #[.string (str p)] w fun e w' => ∃ v, e = .returned v ∧ OneT v t (NewB w w') w' ∧ Below w.heap.size w w' := by
  have hs := any_star ht
  have hmf : ∀ (fn : Fn) (first cap : Array Value) (w : World), (Instr.makeFunc fn first cap).run Tryd.prog w = .ok (.func fn first cap) w := fun _ _ _ _ => rfl
  have hb1 := (Below.refl w.heap.size w).alloc (Nat.le_refl _) (.cells #[.string (str p)] 9)
  by_cases h42 : p = [42]
  · subst h42
    rw [decide_eq_true rfl] at hs
    have kq : ((str [42]).toList == [42]) = true := by rw [ByteArray.toList_eq]; rfl
    go_enter Tryd.func56, Tryd.ntmps56
    go_wp2_with fail
    go_ret
    exact ⟨_, rfl, ⟨fun b hb => hb.2, .inl ⟨hs, rfl⟩⟩, hb1⟩
  · rw [decide_eq_false h42] at hs
    have kq : ((str p).toList == [42]) = false := by
      have := str_beq (m := [42]) hp (by simp)
      rw [decide_eq_false h42, show (str [42]).toList = [42] by rw [ByteArray.toList_eq]; rfl] at this
      exact this
    have HS := Lib.hid hs
    have HT := Lib.hid ht
    have HP := Lib.hid hp
    clear hs ht hp h42
    go_enter Tryd.func56, Tryd.ntmps56
    go_wp2_with (with_reducible refine step_alloc_arr ?_)
    go_ret
    have hb3 := (hb1.alloc (by simp) (.cells (bz 256 fun _ => false) 66)).alloc (by simp; omega) (.cells (bz 256 fun _ => false) 66)
    have B0 := ((Blk.new w 9 #[.string (str p)]).alloc (.cells (bz 256 fun _ => false) 66)).alloc (.cells (bz 256 fun _ => false) 66)
    have B1 := (Blk.new (w.alloc (.cells #[.string (str p)] 9)) 66 (bz 256 fun _ => false)).alloc (.cells (bz 256 fun _ => false) 66)
    have B2 := Blk.new ((w.alloc (.cells #[.string (str p)] 9)).alloc (.cells (bz 256 fun _ => false) 66)) 66 (bz 256 fun _ => false)
    simp only [World.size_alloc] at B1 B2
    exact ⟨_, rfl, ⟨fun b hb => hb.2, .inr ⟨HS.out, w.heap.size + 1, w.heap.size, w.heap.size + 1 + 1, p, _, _, ⟨rfl, ⟨by omega, B1.lt⟩, ⟨by omega, B0.lt⟩, ⟨by omega, B2.lt⟩, by omega, B1, B0, B2, hl, HP.out, HT.out, fun _ _ h => by cases h⟩⟩⟩, hb3⟩
end Go.Proofs.YtcipljpalohjiaaDoor
namespace Go.Proofs.YtcipljpalohjiaaDoor
open Go.RowKit

abbrev VT := Value × Thg
def ones (L : List VT) : List Thing := L.map fun x => OneT x.1 x.2
theorem ones_framed (L : List VT) : ∀ Q ∈ ones L, Framed Q := by
  intro Q hQ
  obtain ⟨x, _, rfl⟩ := List.mem_map.1 hQ
  exact one_framed _ _
/-- Things so far: a row of function values, and what these know. -/
structure ThsF (w W : World) (v : Value) (L : List VT) (g : Option Nat) (F : Nat → Prop) : Prop where
  row : Row W 82 g v (L.map Prod.fst)
  new : ∀ b, g = some b → w.heap.size ≤ b
  st : Stars (ones L) F W
  nst : ∀ b, F b → w.heap.size ≤ b
  ap : ∀ b, g = some b → ¬ F b
  below : Below w.heap.size w W
def ThsS (w W : World) (v : Value) (L : List VT) : Prop := ∃ g F, ThsF w W v L g F
section
variable {w W W' : World} {v v' : Value} {L : List VT} {g g' : Option Nat} {F G : Nat → Prop}
theorem ThsS.nil (w : World) : ThsS w w (.slice none 0 0) [] := ⟨none, fun _ => False, Row.nil w _, by simp, fun _ e => e.elim, fun _ e => e.elim, by simp, Below.refl _ _⟩
theorem ThsS.form (h : ThsS w W v L) : ∃ A c, v = .slice A L.length c := by
  obtain ⟨g, F, h⟩ := h
  obtain ⟨A, c, e⟩ := h.row.form
  rw [List.length_map] at e
  exact ⟨A, c, e⟩
theorem ThsS.keep (h : ThsS w W v L) (hb : Below W.heap.size W W') : ThsS w W' v L := by
  obtain ⟨g, F, h⟩ := h
  have ho : Only (fun _ => False) W W' := Only.of_below hb (Nat.le_refl _) _
  exact ⟨g, F, h.row.below hb (fun b e => h.row.lt e), h.new, (Stars.framed (ones_framed L)).only h.st ho (fun _ _ e => e), h.nst, h.ap, h.below.trans (hb.mono h.below.size)⟩
/-- One thing more, made since W; the row has grown in a world since. -/
theorem ThsF.push {W1 : World} {u : Value} {t : Thg} (h : ThsF w W v L g F) (hu : OneT u t (NewB W W1) W1) (hb : Below W.heap.size W W1) (o : Obj)
    (hr : Row W' 82 g' v' (L.map Prod.fst ++ [u])) (hgr : (W1.alloc o).grownBy W' g) (hg' : g' = g ∨ g' = some (W1.alloc o).heap.size) : ThsS w W' v' (L ++ [(u, t)]) := by
  have hs := h.below.size
  have hs1 := hb.size
  have ho : Only (fun _ => False) W W1 := Only.of_below hb (Nat.le_refl _) _
  have st1 := (Stars.framed (ones_framed L)).only h.st ho (fun _ _ e => e)
  have lt := (Stars.framed (ones_framed L)).lt h.st
  have s2 := Stars.snoc (ones_framed L) st1 hu (fun b hF hN => by have := lt b hF; have := hN.1; omega) (fun b hN => hN.2)
  have e : ones L ++ [OneT u t] = ones (L ++ [(u, t)]) := by simp [ones]
  rw [e] at s2
  have ho2 : Only (fun b => g = some b) W1 W' := by
    have h3 : Only (fun b => g = some b) W1 (W1.alloc o) := (Only.refl _ W1).alloc o
    exact h3.grown hgr (fun k hk => .inl hk)
  refine ⟨g', fun b => F b ∨ NewB W W1 b, by simpa using hr, fun b e => ?_, (Stars.framed (ones_framed _)).only s2 ho2 (fun b hb2 e => ?_), fun b hb2 => ?_, fun b e hb2 => ?_, ?_⟩
  · rcases hg' with rfl | rfl
    · exact h.new b e
    · simp at e; omega
  · rcases hb2 with k | k
    · exact h.ap b e k
    · have := h.row.lt e; have := k.1; omega
  · rcases hb2 with k | k
    · exact h.nst b k
    · have := k.1; omega
  · rcases hg' with rfl | rfl
    · rcases hb2 with k | k
      · exact h.ap b e k
      · have := h.row.lt e; have := k.1; omega
    · simp at e
      rcases hb2 with k | k
      · have := lt b k; omega
      · have := k.2; omega
  · have b1 := h.below.trans (hb.mono hs)
    exact (ho2.more' b1 (fun i hi e => by have := h.new i e; omega))
end

theorem thing_info : (Tryd.prog.info? 82).map (fun i => (i.zero, i.size, i.bytes)) = some (some .nilFunc, 1, 8) := by kernel_rfl
def strN : Value → Nat
  | .string s => s.size
  | _ => 0
theorem strN_str (l : List Nat) : strN (.string (str l)) = l.length := str_len l
theorem err_some {p : List Nat} {t : Thg} (hp : p.length ≤ 1024) (h : thingsS p = some [t]) : errS p = 0 := by unfold errS; rw [if_neg (by omega), h]; rfl
theorem err_no {p : List Nat} (hp : p.length ≤ 1024) (h : thingsS p = none) : errS p = 4 := by unfold errS; rw [if_neg (by omega), h]; rfl

/-- What thingsOf makes. -/
def ThsMade (w : World) (ts : List Thg) (e : Ending) (w' : World) : Prop := ∃ v L, e = .returned v ∧ L.map Prod.snd = ts ∧ ThsS w w' v L

set_option maxRecDepth 100000 in
set_option maxHeartbeats 4000000 in
theorem thingsOf_is (p : List Nat) (ts : List Thg) (hp : ∀ c ∈ p, c < 256) (hl : p.length ≤ 1024) (ht : thingsS p = some ts) (w : World) :
    Calls Tryd.prog 38 #[.string (str p)] w (ThsMade w ts) := by
  obtain ⟨i0, hi0, hz0, hz1, hz2⟩ := info_parts thing_info
  have HP := Lib.hid (And.intro hp (And.intro hl ht))
  clear hp hl ht
  go_enter Tryd.func38, Tryd.ntmps38
  go_wp2_with fail
  go_loopw [0, 3] (fun u v wr => ∃ (q : List Nat) (L : List VT), u = .string (str q) ∧ q.length ≤ 1024 ∧ L.length ≤ 1024 - q.length ∧ Hid (ThsS w wr v L) ∧ Hid (∀ c ∈ q, c < 256) ∧ Hid (∃ r, thingsS q = some r ∧ ts = L.map Prod.snd ++ r)) (fun u _ _ => strN u)
  case atStart => exact ⟨p, [], rfl, HP.out.2.1, by simp, Lib.hid (ThsS.nil w), Lib.hid HP.out.1, Lib.hid ⟨ts, HP.out.2.2, rfl⟩⟩
  case round =>
    obtain ⟨q, L, rfl, hq, hL, HS, HB, HR⟩ := hrel
    have hsz := str_len q
    obtain ⟨A, c, rfl⟩ := HS.out.form
    by_cases h0 : q = []
    · subst h0
      have kq : ((str []).toList == []) = true := by rw [ByteArray.toList_eq]; rfl
      have kq2 : ((str []).toList != []) = false := by rw [bne, kq]; rfl
      clear hsz
      go_wp2_with fail
      go_ret
      obtain ⟨r, h1, h2⟩ := HR.out
      rw [things_nil] at h1
      cases h1
      exact ⟨_, L, rfl, by rw [h2, List.append_nil], HS.out⟩
    · have kq : ((str q).toList == []) = false := by
        have := str_beq (m := []) HB.out (by simp)
        rw [decide_eq_false h0, show (str []).toList = [] by rw [ByteArray.toList_eq]; rfl] at this
        exact this
      have kq2 : ((str q).toList != []) = true := by rw [bne, kq]; rfl
      obtain ⟨r, h1, h2⟩ := HR.out
      obtain ⟨N, t, m, hN1, hN2, rfl, hN3, hN4, hN5⟩ := things_step h1 h0
      have HT := Lib.hid hN3
      have HM := Lib.hid hN4
      have HK := Lib.hid hN5
      have HE := Lib.hid h2
      clear h0 h1 h2 hN3 hN4 hN5 HR
      go_wp2_with fail
      go_loopw [4] (fun u wr => ∃ n : Nat, 1 ≤ n ∧ n ≤ N ∧ u = .int .i64 (n : Nat) ∧ Hid (ThsS w wr (.slice A L.length c) L)) (fun u _ => N - (intOf u).toNat)
      case atStart => exact ⟨1, by omega, by omega, rfl, HS⟩
      case round =>
        obtain ⟨n, hn1, hn2, rfl, HS1⟩ := hrel
        clear HS
        have hup := fun W => run_strg_upto q n (by omega) W
        have HC := Lib.hid (Check_is (q.take n) (fun c hc => HB.out c (List.mem_of_mem_take hc)) (by rw [List.length_take]; omega) wr)
        have hlt : (q.take n).length ≤ 1024 := by rw [List.length_take]; omega
        by_cases hnN : n < N
        · rw [err_no hlt (HK.out n hn1 hnN)] at HC
          generalize str (q.take n) = sq at *
          clear hlt
          go_wp2_with fail
          refine HC.out.mono ?_
          rintro e w1 ⟨rfl, hb⟩
          have HS2 := Lib.hid (HS1.out.keep hb)
          clear hb HC HS1 hup
          go_wp2_with fail
          go_roundw
          case rel => exact ⟨n + 1, by omega, by omega, by go_num, HS2⟩
          case measure => simp [intOf]; omega
        · obtain rfl : n = N := by omega
          rw [err_some hlt HT.out] at HC
          have HQ := Lib.hid (fun W => thingOf_is (q.take n) t (fun c hc => HB.out c (List.mem_of_mem_take hc)) hlt HT.out W)
          have hfr := fun W => run_from_str q n (by omega) W
          have hdl : (q.drop n).length = q.length - n := List.length_drop
          have HD := Lib.hid hdl
          generalize hsq : str (q.take n) = sq at *
          generalize hsd : str (q.drop n) = sd at *
          have HSD := Lib.hid hsd
          clear hlt hdl hsq hsd
          go_wp2_with fail
          refine HC.out.mono ?_
          rintro e w1 ⟨rfl, hb⟩
          have HS2 := Lib.hid (HS1.out.keep hb)
          clear hb HC HS1
          go_wp2_with fail
          refine (HQ.out w1).mono ?_
          rintro e w2 ⟨u, rfl, hu, hb2⟩
          have HU := Lib.hid (And.intro hu hb2)
          clear HQ
          obtain ⟨g, F, hS⟩ := HS2.out
          have X := Lib.hid hS
          have hrow : Row w2 82 g (.slice A L.length c) (L.map Prod.fst) := hS.row.below hb2 (fun b e => hS.row.lt e)
          have HW := Lib.hid hrow
          have ll : (L.map Prod.fst).length = L.length := List.length_map _
          have LL := Lib.hid ll
          have hst := hu.star
          clear hb2 hS hrow ll hup
          rcases hst with ⟨rfl, _⟩ | ⟨⟨fo, fj, cb, rfl⟩, _⟩
          · clear hu
            go_wp2_with (at_builtin; refine wpList_append_row _ rfl (.tmp 14) (.tmp 19) _ rfl 82 i0 _ 8 Tryd.underlying79 hi0 hz0 hz1 hz2 rfl g _ (L.map Prod.fst) rfl (HW.out.alloc _) _ [.nilFunc] rfl (Rd.single w2 82 (.nilFunc) rfl) (by rw [LL.out]; simp only [maxLen, List.length_singleton]; omega) (by rw [LL.out]; simp only [List.length_singleton]; omega) ?_; intro A' c' w7 gn hrow hgr hgn; rw [LL.out] at hrow ⊢; have Y := Lib.hid (And.intro hrow (And.intro hgr hgn)); clear hrow hgr hgn)
            go_roundw
            case rel =>
              refine ⟨q.drop n, L ++ [(.nilFunc, t)], by rw [HSD.out], by rw [HD.out]; omega, by rw [HD.out, List.length_append, List.length_singleton]; omega, Lib.hid ?_, Lib.hid (fun c hc => HB.out c (List.mem_of_mem_drop hc)), Lib.hid ⟨m, HM.out, by rw [HE.out]; simp⟩⟩
              exact X.out.push HU.out.1 HU.out.2 _ Y.out.1 Y.out.2.1 Y.out.2.2
            case measure => rw [← HSD.out, strN_str, strN_str, HD.out]; omega
          · clear hu
            go_wp2_with (at_builtin; refine wpList_append_row _ rfl (.tmp 14) (.tmp 19) _ rfl 82 i0 _ 8 Tryd.underlying79 hi0 hz0 hz1 hz2 rfl g _ (L.map Prod.fst) rfl (HW.out.alloc _) _ [.func fo fj cb] rfl (Rd.single w2 82 (.func fo fj cb) rfl) (by rw [LL.out]; simp only [maxLen, List.length_singleton]; omega) (by rw [LL.out]; simp only [List.length_singleton]; omega) ?_; intro A' c' w7 gn hrow hgr hgn; rw [LL.out] at hrow ⊢; have Y := Lib.hid (And.intro hrow (And.intro hgr hgn)); clear hrow hgr hgn)
            go_roundw
            case rel =>
              refine ⟨q.drop n, L ++ [(.func fo fj cb, t)], by rw [HSD.out], by rw [HD.out]; omega, by rw [HD.out, List.length_append, List.length_singleton]; omega, Lib.hid ?_, Lib.hid (fun c hc => HB.out c (List.mem_of_mem_drop hc)), Lib.hid ⟨m, HM.out, by rw [HE.out]; simp⟩⟩
              exact X.out.push HU.out.1 HU.out.2 _ Y.out.1 Y.out.2.1 Y.out.2.2
            case measure => rw [← HSD.out, strN_str, strN_str, HD.out]; omega
end Go.Proofs.YtcipljpalohjiaaDoor
namespace Go.Proofs.YtcipljpalohjiaaDoor
open Go.RowKit

theorem ones_at {F : Nat → Prop} {w : World} {L : List VT} {i : Nat} {u : Value} {t : Thg} (h : Stars (ones L) F w) (hx : L[i]? = some (u, t)) : ∃ C, OneT u t C w ∧ (∀ b, C b → F b) ∧ ∀ w', Turned (OneT u t) C w w' → Turned (Stars (ones L)) F w w' := by
  have hx2 : (ones L)[i]? = some (OneT u t) := by rw [ones, List.getElem?_map, hx]; rfl
  obtain ⟨C, h1, h2, h3⟩ := Stars.at_ (ones_framed L) hx2 h
  refine ⟨C, h1, h2, fun w' t' => ?_⟩
  have h4 := h3 _ w' t'
  have e : (ones L).set i (OneT u t) = ones L := by
    have hlt := (List.getElem?_eq_some_iff.1 hx2).1
    rw [← (List.getElem?_eq_some_iff.1 hx2).2]
    exact List.set_getElem_self hlt
  rwa [e] at h4

/-! ### The first one that is like any bytes -/
def firstAny (ts : List Thg) (z : Int) : Prop := (z = -1 ∧ ∀ x ∈ ts, x.any = false) ∨ ∃ (i : Nat) (x : Thg), z = i ∧ ts[i]? = some x ∧ x.any = true ∧ ∀ y ∈ ts.take i, y.any = false
set_option maxRecDepth 100000 in
set_option maxHeartbeats 2000000 in
theorem IndexFunc_is {F : Nat → Prop} {w : World} {A : Option Addr} {c : Nat} {L : List VT} (hr : Rd w (.slice A L.length c) (L.map Prod.fst)) (hs : Stars (ones L) F w) (hn : L.length ≤ 1024) :
    Calls Tryd.prog 39 #[.slice A L.length c, .func (.func 40) #[] #[]] w fun e w' => ∃ z : Int, e = .returned (.int .i64 z) ∧ firstAny (L.map Prod.snd) z ∧ w = w' := by
  have HR := Lib.hid hr
  have HS := Lib.hid hs
  clear hr hs
  go_enter Tryd.func39, Tryd.ntmps39
  go_wp2_with fail
  go_loopw [8] (fun iv wr => ∃ i : Nat, i ≤ L.length ∧ iv = .int .i64 (i : Nat) ∧ w = wr ∧ Hid (∀ y ∈ (L.map Prod.snd).take i, y.any = false)) (fun iv _ => L.length - (intOf iv).toNat)
  case atStart => exact ⟨0, by omega, rfl, rfl, Lib.hid (by simp)⟩
  case round =>
    obtain ⟨i, hi, rfl, rfl, HE⟩ := hrel
    by_cases hlt : i < L.length
    · have r1 : decide ((i : Int) < (L.length : Int)) = true := decide_eq_true (by omega)
      have i1 : (i : Int) < (L.length : Int) := by omega
      obtain ⟨⟨u, t⟩, hx⟩ : ∃ x, L[i]? = some x := ⟨_, List.getElem?_eq_getElem hlt⟩
      obtain ⟨C, h1, -, -⟩ := ones_at HS.out hx
      have HA := Lib.hid (any_is h1 w)
      obtain ⟨A0, c0, e1, _, _, hcell⟩ := HR.out
      injection e1 with e1 e2 e3
      subst e1 e3
      obtain ⟨b, o, hA, hc2⟩ := hcell (by rw [List.length_map]; omega)
      subst hA
      have ci := hc2 i u (by rw [List.getElem?_map, hx]; rfl)
      have HX := Lib.hid hx
      clear h1 hx hcell hc2 e2
      go_wp2_with fail
      refine HA.out.mono ?_
      rintro e w5 ⟨rfl, rfl⟩
      by_cases ha : t.any = true
      · rw [ha]
        go_wp2_with fail
        go_ret
        exact ⟨(i : Int), rfl, .inr ⟨i, t, rfl, by rw [List.getElem?_map, HX.out]; rfl, ha, HE.out⟩, rfl⟩
      · have ha : t.any = false := by simpa using ha
        have HT := Lib.hid ha
        rw [ha]
        clear ha
        go_wp2_with fail
        go_roundw
        case rel =>
          refine ⟨i + 1, by omega, by go_num, (by first | rfl | trivial), Lib.hid (fun y hy => ?_)⟩
          rw [List.take_add_one, List.getElem?_map, HX.out] at hy
          simp only [Option.map_some, Option.toList_some, List.mem_append, List.mem_singleton] at hy
          rcases hy with hy | rfl
          · exact HE.out y hy
          · exact HT.out
        case measure => simp [intOf]; omega
    · obtain rfl : i = L.length := by omega
      have r1 : decide ((L.length : Int) < (L.length : Int)) = false := decide_eq_false (by omega)
      go_wp2_with fail
      go_ret
      refine ⟨-1, rfl, .inl ⟨rfl, fun y hy => HE.out y ?_⟩, (by first | rfl | trivial)⟩
      rwa [List.take_of_length_le (by simp)]

/-! ### A trail -/
def iz (n : Nat) (f : Nat → Int) : Array Value := ((List.range n).map fun i => Value.int .i64 (f i)).toArray
theorem iz_size (n : Nat) (f : Nat → Int) : (iz n f).size = n := by simp [iz]
theorem iz_at {n i : Nat} (f : Nat → Int) (h : i < n) : (iz n f)[i]? = some (.int .i64 (f i)) := by simp [iz, h]
theorem iz_ext {n : Nat} {f g : Nat → Int} (h : ∀ i, i < n → f i = g i) : iz n f = iz n g := by
  unfold iz
  congr 1
  apply List.map_congr_left
  intro i hi
  rw [h i (List.mem_range.1 hi)]
theorem iz_set (n i : Nat) (f : Nat → Int) (u : Int) : (iz n f).setIfInBounds i (.int .i64 u) = iz n (fun j => if j = i then u else f j) := by
  unfold iz
  rw [List.setIfInBounds_toArray]
  congr 1
  apply List.ext_getElem?
  intro j
  rw [List.getElem?_set]
  by_cases h : i = j
  · subst h
    by_cases hi : i < n
    · simp [hi]
    · simp [hi]
  · rw [if_neg h]
    by_cases hj : j < n
    · simp [hj, Ne.symm h]
    · simp [hj]

theorem Turned.then_ {Q : Thing} {F F1 : Nat → Prop} {w w1 w2 : World} (ho : Only F w w1) (hF : ∀ b, F1 b → F b ∨ w.heap.size ≤ b) (t : Turned Q F1 w1 w2) : Turned Q F w w2 := by
  obtain ⟨F2, hq, ho2, hF2⟩ := t
  have h1 := ho.size
  refine ⟨F2, hq, ho.trans ho2 (fun i hi hb => (hF i hb).resolve_right (by omega)), fun b hb => ?_⟩
  rcases hF2 b hb with hb | hb
  · exact hF b hb
  · exact .inr (by omega)

/-- What a trail only reads: its struct, and its things' row. -/
def TrRo (a g : Nat) (L : List VT) : Thing := fun F W => (∀ b, F b → b < W.heap.size) ∧ F a ∧ ∃ A c, Blk W a 106 #[.slice A L.length c, .slice (some ⟨g, 0, none⟩) (L.length + 1) (L.length + 1)] ∧ RdT F W (.slice A L.length c) (L.map Prod.fst)
theorem trRo_framed (a g : Nat) (L : List VT) : Framed (TrRo a g L) := by
  constructor
  · rintro F S w w' ⟨hl, ha, A, c, hb, hr⟩ ho hd
    exact ⟨fun b hb => Nat.lt_of_lt_of_le (hl b hb) ho.size, ha, A, c, hb.only ho (hd a ha), hr.still (Still.of_only ho fun b _ => hd b)⟩
  · rintro F w ⟨hl, _⟩; exact hl
/-- A trail's numbers. -/
def TrNu (g n : Nat) (z : Nat → Int) : Thing := fun F W => (∀ b, F b → b < W.heap.size) ∧ F g ∧ Blk W g 3 (iz n z)
theorem trNu_framed (g n : Nat) (z : Nat → Int) : Framed (TrNu g n z) := by
  constructor
  · rintro F S w w' ⟨hl, hg, hb⟩ ho hd
    exact ⟨fun b hb => Nat.lt_of_lt_of_le (hl b hb) ho.size, hg, hb.only ho (hd g hg)⟩
  · rintro F w ⟨hl, _⟩; exact hl
/-- What tell turns of a trail. -/
def TrMu (g : Nat) (L : List VT) (z : Nat → Int) : Thing := Star (TrNu g (L.length + 1) z) (Stars (ones L))
theorem trMu_framed (g : Nat) (L : List VT) (z : Nat → Int) : Framed (TrMu g L z) := Star.framed (trNu_framed _ _ _) (Stars.framed (ones_framed L))
section
variable {a g : Nat} {L : List VT} {z z' : Nat → Int} {A B : Nat → Prop} {w wr : World}
theorem TrMu.cell (h : TrMu g L z B w) {i : Nat} (hi : i ≤ L.length) : w.cell? ⟨g, i, none⟩ = some (.int .i64 (z i)) := by
  obtain ⟨C, D, hs⟩ := h
  exact (hs.fst.2.2.cell i).trans (iz_at z (by omega))
theorem TrMu.frozen (h : TrMu g L z B w) (i : Nat) : w.frozen? ⟨g, i, none⟩ = false := by
  obtain ⟨C, D, hs⟩ := h
  exact hs.fst.2.2.frozen i
theorem TrMu.put (h : TrMu g L z B w) (i : Nat) (u : Int) : Turned (TrMu g L (fun j => if j = i then u else z j)) B w (w.setCell ⟨g, i, none⟩ (.int .i64 u)) := by
  obtain ⟨C, D, hs⟩ := h
  obtain ⟨hl, hg, hb⟩ := hs.fst
  have ho : Only C w (w.setCell ⟨g, i, none⟩ (.int .i64 u)) := (Only.refl C w).setCell (p := ⟨g, i, none⟩) (.inl hg) _
  refine hs.left (Stars.framed (ones_framed L)) ⟨C, ⟨fun b hb => Nat.lt_of_lt_of_le (hl b hb) ho.size, hg, ?_⟩, ho, fun _ => .inl⟩
  have := hb.set_ i (.int .i64 u)
  rwa [iz_set] at this
theorem TrMu.same (h : TrMu g L z B w) (hz : ∀ i, i ≤ L.length → z i = z' i) : TrMu g L z' B w := by
  obtain ⟨C, D, hs⟩ := h
  exact ⟨C, D, ⟨hs.fst.1, hs.fst.2.1, by rw [← iz_ext (f := z) fun i hi => hz i (by omega)]; exact hs.fst.2.2⟩, hs.snd, hs.ap, hs.un⟩
theorem TrMu.thing (h : TrMu g L z B w) {i : Nat} {u : Value} {t : Thg} (hx : L[i]? = some (u, t)) : ∃ C, OneT u t C w ∧ ∀ w', Turned (OneT u t) C w w' → Turned (TrMu g L z) B w w' := by
  obtain ⟨C, D, hs⟩ := h
  obtain ⟨E, h1, -, h2⟩ := ones_at hs.snd hx
  exact ⟨E, h1, fun w' t' => hs.right (trNu_framed _ _ _) (h2 w' t')⟩
theorem TrRo.cells (h : TrRo a g L A w) : ∃ D c, ∀ (S : Nat → Prop) (wr : World), Only S w wr → (∀ b, A b → ¬ S b) → wr.cell? ⟨a, 0, none⟩ = some (.slice D L.length c) ∧ wr.cell? ⟨a, 1, none⟩ = some (.slice (some ⟨g, 0, none⟩) (L.length + 1) (L.length + 1)) ∧
    ∀ i u t, L[i]? = some (u, t) → ∃ b o, D = some ⟨b, o, none⟩ ∧ wr.cell? ⟨b, o + i, none⟩ = some u := by
  obtain ⟨hl, ha, D, c, hb, hr⟩ := h
  refine ⟨D, c, fun S wr ho hd => ?_⟩
  have hb2 := hb.only ho (hd a ha)
  have hr2 := (hr.still (Still.of_only ho fun b _ => hd b)).1
  refine ⟨hb2.cell 0, hb2.cell 1, fun i u t hx => ?_⟩
  obtain ⟨A0, c0, e1, _, _, hcell⟩ := hr2
  injection e1 with e1 e2 e3
  subst e1
  have hi := (List.getElem?_eq_some_iff.1 hx).1
  obtain ⟨b, o, hA, hc2⟩ := hcell (by rw [List.length_map]; omega)
  exact ⟨b, o, hA, hc2 i u (by rw [List.getElem?_map, hx]; rfl)⟩
/-- Behind what tell has turned so far, its cells. -/
theorem tr_at (hr : TrRo a g L A w) (hd : ∀ b, A b → ¬ B b) (t : Turned (TrMu g L z) B w wr) : ∃ B', TrRo a g L A wr ∧ TrMu g L z B' wr ∧ Only B w wr ∧ ∀ z' w', Turned (TrMu g L z') B' wr w' → Turned (TrMu g L z') B w w' := by
  obtain ⟨B', hm, ho, hB⟩ := t
  exact ⟨B', (trRo_framed a g L).only hr ho hd, hm, ho, fun z' w' t' => t'.then_ ho hB⟩
end
end Go.Proofs.YtcipljpalohjiaaDoor
namespace Go.Proofs.YtcipljpalohjiaaDoor
open Go.RowKit

/-- What tell starts from. -/
def tellP (came : Nat) (z : Nat → Int) : Nat → Int := if came = 0 then fun _ => -1 else z

theorem Turned.drw {Q : Thing} {F : Nat → Prop} {w w' : World} (t : Turned Q F w w') (fQ : Framed Q) : Turned Q F w w'.drew := t.keep fQ ⟨rfl, rfl, rfl, Nat.le_refl _, fun _ _ => rfl⟩
theorem Turned.drw2 {Q : Thing} {F : Nat → Prop} {w w' : World} (t : Turned Q F w w') (fQ : Framed Q) : Turned Q F w w'.drew.drew := (t.drw fQ).drw fQ

set_option maxRecDepth 100000 in
set_option maxHeartbeats 8000000 in
theorem tell_is {a g : Nat} {L : List VT} {z N : Nat → Int} {A B : Nat → Prop} {w : World} (hr : TrRo a g L A w) (hm : TrMu g L z B w) (hd : ∀ b, A b → ¬ B b) (hn : L.length ≤ 1024) (came c : Nat) (hc : c < 256)
    (h0 : N 0 = (came : Nat)) (hN : ∀ (i : Nat) (u : Value) (t : Thg), L[i]? = some (u, t) → N (i + 1) = nextS t c (N i) (tellP came z i) (tellP came z (i + 1))) :
    Calls Tryd.prog 44 #[.pointer (some ⟨a, 0, none⟩), .int .i64 (came : Nat), .int .u8 (c : Nat)] w fun e w' => e = .returned (.int .i64 (N L.length)) ∧ Turned (TrMu g L N) B w w' := by
  have HR := Lib.hid (And.intro hr hd)
  have H0 := Lib.hid h0
  have T0 := Lib.hid (Turned.refl hm)
  obtain ⟨D, dc, hcells⟩ := hr.cells
  have HC := Lib.hid hcells
  clear hr hd hm h0 hcells
  by_cases hz : came = 0
  · obtain ⟨P, hP⟩ : ∃ P, tellP came z = P := ⟨_, rfl⟩
    have HP : Hid (P = fun _ => -1) := Lib.hid (by rw [← hP]; unfold tellP; rw [if_pos hz])
    rw [hP] at hN
    have HN := Lib.hid hN
    have kz : ((came : Int) == 0) = true := by rw [hz]; rfl
    clear hN hP hz
    obtain ⟨B1, ro1, mu1, ho1, k1⟩ := tr_at HR.out.1 HR.out.2 T0.out
    obtain ⟨ca0, ca1, -⟩ := HC.out B w ho1 HR.out.2
    clear ro1 mu1 ho1 k1
    go_enter Tryd.func44, Tryd.ntmps44
    go_wp2_with fail
    go_loopw [19] (fun iv wr => ∃ i : Nat, i ≤ L.length + 1 ∧ iv = .int .i64 (i : Nat) ∧ Hid (Turned (TrMu g L (fun j => if j < i then -1 else z j)) B w wr)) (fun iv _ => L.length + 1 - (intOf iv).toNat)
    case atStart => exact ⟨0, by omega, rfl, Lib.hid (T0.out.imp fun G h => h.same fun j _ => by rw [if_neg (by omega)])⟩
    case round =>
      obtain ⟨i, hi, rfl, HT⟩ := hrel
      clear ca0 ca1
      by_cases hlt : i < L.length + 1
      · obtain ⟨B1, ro1, mu1, ho1, k1⟩ := tr_at HR.out.1 HR.out.2 HT.out
        obtain ⟨ca0, ca1, -⟩ := HC.out B wr ho1 HR.out.2
        have r1 : decide ((i : Int) < ((L.length + 1 : Nat) : Int)) = true := decide_eq_true (by omega)
        have r2 : decide ((i : Int) < (L.length : Int) + 1) = true := decide_eq_true (by omega)
        have cgi := mu1.cell (i := i) (by omega)
        have fgi := mu1.frozen i
        have T1 := Lib.hid (k1 _ _ (mu1.put i (-1)))
        clear ro1 mu1 ho1 k1
        go_wp2_with fail
        go_roundw
        case rel =>
          refine ⟨i + 1, by omega, by go_num, Lib.hid (T1.out.imp fun G h => h.same fun j _ => ?_)⟩
          by_cases hj : j = i
          · subst hj; rw [if_pos rfl, if_pos (by omega)]
          · rw [if_neg hj]
            by_cases hj2 : j < i
            · rw [if_pos hj2, if_pos (by omega)]
            · rw [if_neg hj2, if_neg (by omega)]
        case measure => simp [intOf]; omega
      · have hie : i = L.length + 1 := by omega
        have r1 : decide ((i : Int) < ((L.length + 1 : Nat) : Int)) = false := decide_eq_false (by omega)
        have r2 : decide ((i : Int) < (L.length : Int) + 1) = false := decide_eq_false (by omega)
        replace HT : Hid (Turned (TrMu g L P) B w wr) := Lib.hid (HT.out.imp fun G h => h.same fun j hj => by rw [if_pos (by omega), HP.out])
        clear T0 kz HP hlt hi hie
        generalize wr = w1 at *
        obtain ⟨B1, ro1, mu1, ho1, k1⟩ := tr_at HR.out.1 HR.out.2 HT.out
        obtain ⟨ca0, ca1, -⟩ := HC.out B w1 ho1 HR.out.2
        have cg0 := mu1.cell (i := 0) (by omega)
        have fg0 := mu1.frozen 0
        have T1 := Lib.hid (k1 _ _ (mu1.put 0 ((came : Int))))
        obtain ⟨_, -, hoS, -⟩ := T1.out
        obtain ⟨ca2, -, -⟩ := HC.out B _ hoS HR.out.2
        clear hoS
        generalize hp0 : P 0 = p0 at *
        have HP0 := Lib.hid hp0
        clear ro1 mu1 ho1 k1 hp0
        go_wp2_with fail
        have HTX := HT
        clear HT
        go_loopw [8, 46] (fun u iv wr => ∃ i : Nat, i ≤ L.length ∧ u = .int .i64 (P i) ∧ iv = .int .i64 (i : Nat) ∧ Hid (Turned (TrMu g L (fun j => if j ≤ i then N j else P j)) B w wr)) (fun _ iv _ => L.length - (intOf iv).toNat)
        case atStart => exact ⟨0, by omega, by rw [HP0.out], rfl, Lib.hid (T1.out.imp fun G h => h.same fun j _ => by
          by_cases hj : j = 0
          · subst hj; rw [if_pos rfl, if_pos (Nat.le_refl _), H0.out]
          · rw [if_neg hj, if_neg (by omega)])⟩
        case round =>
          obtain ⟨i, hi, rfl, rfl, HT⟩ := hrel
          clear T1 HTX ca0 ca1 cg0 fg0 ca2
          obtain ⟨B2, ro2, mu2, ho2, k2⟩ := tr_at HR.out.1 HR.out.2 HT.out
          obtain ⟨ca0, ca1, hrow⟩ := HC.out B wr ho2 HR.out.2
          by_cases hlt : i < L.length
          · obtain ⟨⟨u, t⟩, hx⟩ : ∃ x, L[i]? = some x := ⟨_, List.getElem?_eq_getElem hlt⟩
            have r1 : decide ((i : Int) < (L.length : Int)) = true := decide_eq_true (by omega)
            have i1 : (i : Int) < (L.length : Int) := by omega
            obtain ⟨b, o, hD, ci⟩ := hrow i u t hx
            subst hD
            have HX := Lib.hid (HN.out i u t hx)
            obtain ⟨C, h1, k3⟩ := mu2.thing hx
            have HA := Lib.hid (any_is h1 wr)
            have HO := Lib.hid (And.intro h1 k3)
            have HM := Lib.hid (And.intro mu2 k2)
            have cgi : wr.cell? ⟨g, i, none⟩ = some (.int .i64 (N i)) := by have := mu2.cell (i := i) (by omega); rwa [if_pos (Nat.le_refl _)] at this
            have cgj : wr.cell? ⟨g, i + 1, none⟩ = some (.int .i64 (P (i + 1))) := by have := mu2.cell (i := i + 1) (by omega); rwa [if_neg (by omega)] at this
            have fgj := mu2.frozen (i + 1)
            have ste : Hid (∀ (W : World) {v : Int} {G : Nat → Prop}, N (i + 1) = v → Turned (TrMu g L (fun j => if j ≤ i then N j else P j)) B w W → TrMu g L (fun j => if j ≤ i then N j else P j) G W → (∀ z' w', Turned (TrMu g L z') G W w' → Turned (TrMu g L z') B w w') → Turned (TrMu g L (fun j => if j ≤ i + 1 then N j else P j)) B w (W.setCell ⟨g, i + 1, none⟩ (.int .i64 v))) := Lib.hid fun W v G hv _ mu kk => (kk _ _ (mu.put (i + 1) v)).imp fun _ h => h.same fun j _ => by
              by_cases hj : j = i + 1
              · subst hj; rw [if_pos rfl, if_pos (Nat.le_refl _), hv]
              · rw [if_neg hj]
                by_cases hj2 : j ≤ i
                · rw [if_pos hj2, if_pos (by omega)]
                · rw [if_neg hj2, if_neg (by omega)]
            clear hx hrow ro2 mu2 ho2 k2 h1 k3
            unfold nextS at HX
            generalize hpi : P i = pi at *
            generalize hpj : P (i + 1) = pj at *
            have HPJ := Lib.hid hpj
            clear hpi hpj
            generalize hni : N i = ni at *
            have HNI := Lib.hid hni
            clear hni
            by_cases ha : t.any = true
            · rw [if_pos ha] at HX
              rw [ha] at HA
              go_wp2_with fail
              refine HA.out.mono ?_
              rintro e w5 ⟨rfl, rfl⟩
              go_wp2_with fail
              go_region
              have ca1d : wr.drew.cell? ⟨a, 1, none⟩ = some (.slice (some ⟨g, 0, none⟩) (L.length + 1) (L.length + 1)) := ca1
              have cgjd : wr.drew.cell? ⟨g, i + 1, none⟩ = some (.int .i64 pj) := cgj
              have fgjd : wr.drew.frozen? ⟨g, i + 1, none⟩ = false := fgj
              have S1 := Lib.hid (ste.out wr HX.out HT.out HM.out.1 HM.out.2)
              go_wp2_with fail
              go_region
              go_wp2_with fail
              go_roundw
              case rel => exact ⟨i + 1, by omega, by rw [HPJ.out], by go_num, Lib.hid (S1.out.drw2 (trMu_framed _ _ _))⟩
              case measure => simp [intOf]; omega
            · rw [if_neg ha] at HX
              have ha : t.any = false := by simpa using ha
              rw [ha] at HA
              by_cases hp : pi = -1
              · rw [if_neg (fun k => k.1 hp)] at HX
                subst hp
                have kp : ((-1 : Int) != -1) = false := rfl
                have S1 := Lib.hid (ste.out wr HX.out HT.out HM.out.1 HM.out.2)
                go_wp2_with fail
                refine HA.out.mono ?_
                rintro e w5 ⟨rfl, rfl⟩
                go_wp2_with fail
                go_region
                go_wp2_with fail
                go_roundw
                case rel => exact ⟨i + 1, by omega, by rw [HPJ.out], by go_num, Lib.hid (S1.out.drw (trMu_framed _ _ _))⟩
                case measure => simp [intOf]; omega
              · have kp : (pi != -1) = true := by simpa using hp
                obtain ⟨q1, q2, q3, hu, hcall⟩ := one_is HO.out.1 ha
                have HC1 := Lib.hid (hcall c hc)
                obtain ⟨r, hrr⟩ : ∃ r, t.one c = r := ⟨_, rfl⟩
                rw [hrr] at HX HC1
                unfold oneV at hu
                subst hu
                clear hcall hrr
                go_wp2_with fail
                refine HA.out.mono ?_
                rintro e w5 ⟨rfl, rfl⟩
                go_wp2_with fail
                refine HC1.out.mono ?_
                rintro e w5 ⟨rfl, ht⟩
                have T5 := Lib.hid (HM.out.2 _ _ (HO.out.2 _ ht))
                clear ht HC1 HA HO HM HT ci ca0 ca1 cgi cgj fgj
                obtain ⟨B5, ro5, mu5, ho5, k5⟩ := tr_at HR.out.1 HR.out.2 T5.out
                obtain ⟨ca0, ca1, -⟩ := HC.out B w5 ho5 HR.out.2
                have cgj : w5.cell? ⟨g, i + 1, none⟩ = some (.int .i64 pj) := by have := mu5.cell (i := i + 1) (by omega); rw [if_neg (by omega), HPJ.out] at this; exact this
                have fgj := mu5.frozen (i + 1)
                have S1 : Hid (∀ v : Int, N (i + 1) = v → Turned (TrMu g L (fun j => if j ≤ i + 1 then N j else P j)) B w (w5.setCell ⟨g, i + 1, none⟩ (.int .i64 v))) := Lib.hid (fun v hv => ste.out w5 hv T5.out mu5 k5)
                clear ro5 mu5 ho5 k5
                cases r with
                | true =>
                  rw [if_pos ⟨hp, rfl⟩] at HX
                  have S2 := Lib.hid (S1.out _ HX.out)
                  go_wp2_with fail
                  go_region
                  go_wp2_with fail
                  go_roundw
                  case rel => exact ⟨i + 1, by omega, by rw [HPJ.out], by go_num, Lib.hid (S2.out.drw (trMu_framed _ _ _))⟩
                  case measure => simp [intOf]; omega
                | false =>
                  rw [if_neg (fun k => by cases k.2)] at HX
                  have S2 := Lib.hid (S1.out _ HX.out)
                  go_wp2_with fail
                  go_region
                  go_wp2_with fail
                  go_roundw
                  case rel => exact ⟨i + 1, by omega, by rw [HPJ.out], by go_num, Lib.hid (S2.out.drw (trMu_framed _ _ _))⟩
                  case measure => simp [intOf]; omega
          · obtain rfl : i = L.length := by omega
            have r1 : decide ((L.length : Int) < (L.length : Int)) = false := decide_eq_false (by omega)
            have cgn : wr.cell? ⟨g, L.length, none⟩ = some (.int .i64 (N L.length)) := by have := mu2.cell (i := L.length) (Nat.le_refl _); rwa [if_pos (Nat.le_refl _)] at this
            have Z := Lib.hid (HT.out.imp fun G h => h.same (z' := N) fun j hj => if_pos hj)
            clear ro2 mu2 ho2 k2 hrow
            generalize hv : N L.length = v at *
            have HV := Lib.hid hv
            clear hv
            go_wp2_with fail
            go_region
            go_wp2_with fail
            go_ret
            exact ⟨by rw [HV.out]; rfl, Z.out.drw (trMu_framed _ _ _)⟩
  · have kz : ((came : Int) == 0) = false := beq_eq_false_iff_ne.2 (by omega)
    have hP : tellP came z = z := by unfold tellP; rw [if_neg hz]
    rw [hP] at hN
    have HN := Lib.hid hN
    have HT := T0
    clear hN hP T0 hz
    obtain ⟨P, hP⟩ : ∃ P, P = z := ⟨_, rfl⟩
    subst hP
    obtain ⟨W0, hW0⟩ : ∃ W0, W0 = w := ⟨_, rfl⟩
    go_enter Tryd.func44, Tryd.ntmps44
    obtain ⟨B1, ro1, mu1, ho1, k1⟩ := tr_at HR.out.1 HR.out.2 HT.out
    obtain ⟨ca0, ca1, -⟩ := HC.out B w ho1 HR.out.2
    have cg0 := mu1.cell (i := 0) (by omega)
    have fg0 := mu1.frozen 0
    have T1 := Lib.hid (k1 _ _ (mu1.put 0 ((came : Int))))
    obtain ⟨_, -, hoS, -⟩ := T1.out
    obtain ⟨ca2, -, -⟩ := HC.out B _ hoS HR.out.2
    clear hoS
    generalize hp0 : P 0 = p0 at *
    have HP0 := Lib.hid hp0
    clear ro1 mu1 ho1 k1 hp0
    go_wp2_with fail
    have HTX := HT
    clear HT
    go_loopw [8, 46] (fun u iv wr => ∃ i : Nat, i ≤ L.length ∧ u = .int .i64 (P i) ∧ iv = .int .i64 (i : Nat) ∧ Hid (Turned (TrMu g L (fun j => if j ≤ i then N j else P j)) B w wr)) (fun _ iv _ => L.length - (intOf iv).toNat)
    case atStart => exact ⟨0, by omega, by rw [HP0.out], rfl, Lib.hid (T1.out.imp fun G h => h.same fun j _ => by
      by_cases hj : j = 0
      · subst hj; rw [if_pos rfl, if_pos (Nat.le_refl _), H0.out]
      · rw [if_neg hj, if_neg (by omega)])⟩
    case round =>
      obtain ⟨i, hi, rfl, rfl, HT⟩ := hrel
      clear T1 HTX ca0 ca1 cg0 fg0 ca2
      obtain ⟨B2, ro2, mu2, ho2, k2⟩ := tr_at HR.out.1 HR.out.2 HT.out
      obtain ⟨ca0, ca1, hrow⟩ := HC.out B wr ho2 HR.out.2
      by_cases hlt : i < L.length
      · obtain ⟨⟨u, t⟩, hx⟩ : ∃ x, L[i]? = some x := ⟨_, List.getElem?_eq_getElem hlt⟩
        have r1 : decide ((i : Int) < (L.length : Int)) = true := decide_eq_true (by omega)
        have i1 : (i : Int) < (L.length : Int) := by omega
        obtain ⟨b, o, hD, ci⟩ := hrow i u t hx
        subst hD
        have HX := Lib.hid (HN.out i u t hx)
        obtain ⟨C, h1, k3⟩ := mu2.thing hx
        have HA := Lib.hid (any_is h1 wr)
        have HO := Lib.hid (And.intro h1 k3)
        have HM := Lib.hid (And.intro mu2 k2)
        have cgi : wr.cell? ⟨g, i, none⟩ = some (.int .i64 (N i)) := by have := mu2.cell (i := i) (by omega); rwa [if_pos (Nat.le_refl _)] at this
        have cgj : wr.cell? ⟨g, i + 1, none⟩ = some (.int .i64 (P (i + 1))) := by have := mu2.cell (i := i + 1) (by omega); rwa [if_neg (by omega)] at this
        have fgj := mu2.frozen (i + 1)
        have ste : Hid (∀ (W : World) {v : Int} {G : Nat → Prop}, N (i + 1) = v → Turned (TrMu g L (fun j => if j ≤ i then N j else P j)) B w W → TrMu g L (fun j => if j ≤ i then N j else P j) G W → (∀ z' w', Turned (TrMu g L z') G W w' → Turned (TrMu g L z') B w w') → Turned (TrMu g L (fun j => if j ≤ i + 1 then N j else P j)) B w (W.setCell ⟨g, i + 1, none⟩ (.int .i64 v))) := Lib.hid fun W v G hv _ mu kk => (kk _ _ (mu.put (i + 1) v)).imp fun _ h => h.same fun j _ => by
          by_cases hj : j = i + 1
          · subst hj; rw [if_pos rfl, if_pos (Nat.le_refl _), hv]
          · rw [if_neg hj]
            by_cases hj2 : j ≤ i
            · rw [if_pos hj2, if_pos (by omega)]
            · rw [if_neg hj2, if_neg (by omega)]
        clear hx hrow ro2 mu2 ho2 k2 h1 k3
        unfold nextS at HX
        generalize hpi : P i = pi at *
        generalize hpj : P (i + 1) = pj at *
        have HPJ := Lib.hid hpj
        clear hpi hpj
        generalize hni : N i = ni at *
        have HNI := Lib.hid hni
        clear hni
        by_cases ha : t.any = true
        · rw [if_pos ha] at HX
          rw [ha] at HA
          go_wp2_with fail
          refine HA.out.mono ?_
          rintro e w5 ⟨rfl, rfl⟩
          go_wp2_with fail
          go_region
          have ca1d : wr.drew.cell? ⟨a, 1, none⟩ = some (.slice (some ⟨g, 0, none⟩) (L.length + 1) (L.length + 1)) := ca1
          have cgjd : wr.drew.cell? ⟨g, i + 1, none⟩ = some (.int .i64 pj) := cgj
          have fgjd : wr.drew.frozen? ⟨g, i + 1, none⟩ = false := fgj
          have S1 := Lib.hid (ste.out wr HX.out HT.out HM.out.1 HM.out.2)
          go_wp2_with fail
          go_region
          go_wp2_with fail
          go_roundw
          case rel => exact ⟨i + 1, by omega, by rw [HPJ.out], by go_num, Lib.hid (S1.out.drw2 (trMu_framed _ _ _))⟩
          case measure => simp [intOf]; omega
        · rw [if_neg ha] at HX
          have ha : t.any = false := by simpa using ha
          rw [ha] at HA
          by_cases hp : pi = -1
          · rw [if_neg (fun k => k.1 hp)] at HX
            subst hp
            have kp : ((-1 : Int) != -1) = false := rfl
            have S1 := Lib.hid (ste.out wr HX.out HT.out HM.out.1 HM.out.2)
            go_wp2_with fail
            refine HA.out.mono ?_
            rintro e w5 ⟨rfl, rfl⟩
            go_wp2_with fail
            go_region
            go_wp2_with fail
            go_roundw
            case rel => exact ⟨i + 1, by omega, by rw [HPJ.out], by go_num, Lib.hid (S1.out.drw (trMu_framed _ _ _))⟩
            case measure => simp [intOf]; omega
          · have kp : (pi != -1) = true := by simpa using hp
            obtain ⟨q1, q2, q3, hu, hcall⟩ := one_is HO.out.1 ha
            have HC1 := Lib.hid (hcall c hc)
            obtain ⟨r, hrr⟩ : ∃ r, t.one c = r := ⟨_, rfl⟩
            rw [hrr] at HX HC1
            unfold oneV at hu
            subst hu
            clear hcall hrr
            go_wp2_with fail
            refine HA.out.mono ?_
            rintro e w5 ⟨rfl, rfl⟩
            go_wp2_with fail
            refine HC1.out.mono ?_
            rintro e w5 ⟨rfl, ht⟩
            have T5 := Lib.hid (HM.out.2 _ _ (HO.out.2 _ ht))
            clear ht HC1 HA HO HM HT ci ca0 ca1 cgi cgj fgj
            obtain ⟨B5, ro5, mu5, ho5, k5⟩ := tr_at HR.out.1 HR.out.2 T5.out
            obtain ⟨ca0, ca1, -⟩ := HC.out B w5 ho5 HR.out.2
            have cgj : w5.cell? ⟨g, i + 1, none⟩ = some (.int .i64 pj) := by have := mu5.cell (i := i + 1) (by omega); rw [if_neg (by omega), HPJ.out] at this; exact this
            have fgj := mu5.frozen (i + 1)
            have S1 : Hid (∀ v : Int, N (i + 1) = v → Turned (TrMu g L (fun j => if j ≤ i + 1 then N j else P j)) B w (w5.setCell ⟨g, i + 1, none⟩ (.int .i64 v))) := Lib.hid (fun v hv => ste.out w5 hv T5.out mu5 k5)
            clear ro5 mu5 ho5 k5
            cases r with
            | true =>
              rw [if_pos ⟨hp, rfl⟩] at HX
              have S2 := Lib.hid (S1.out _ HX.out)
              go_wp2_with fail
              go_region
              go_wp2_with fail
              go_roundw
              case rel => exact ⟨i + 1, by omega, by rw [HPJ.out], by go_num, Lib.hid (S2.out.drw (trMu_framed _ _ _))⟩
              case measure => simp [intOf]; omega
            | false =>
              rw [if_neg (fun k => by cases k.2)] at HX
              have S2 := Lib.hid (S1.out _ HX.out)
              go_wp2_with fail
              go_region
              go_wp2_with fail
              go_roundw
              case rel => exact ⟨i + 1, by omega, by rw [HPJ.out], by go_num, Lib.hid (S2.out.drw (trMu_framed _ _ _))⟩
              case measure => simp [intOf]; omega
      · obtain rfl : i = L.length := by omega
        have r1 : decide ((L.length : Int) < (L.length : Int)) = false := decide_eq_false (by omega)
        have cgn : wr.cell? ⟨g, L.length, none⟩ = some (.int .i64 (N L.length)) := by have := mu2.cell (i := L.length) (Nat.le_refl _); rwa [if_pos (Nat.le_refl _)] at this
        have Z := Lib.hid (HT.out.imp fun G h => h.same (z' := N) fun j hj => if_pos hj)
        clear ro2 mu2 ho2 k2 hrow
        generalize hv : N L.length = v at *
        have HV := Lib.hid hv
        clear hv
        go_wp2_with fail
        go_region
        go_wp2_with fail
        go_ret
        exact ⟨by rw [HV.out]; rfl, Z.out.drw (trMu_framed _ _ _)⟩
end Go.Proofs.YtcipljpalohjiaaDoor
