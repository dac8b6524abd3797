/-
  Lists of commands, read out of the arguments.
  Conditions: none.
-/
import Derived.Test.YtphmhglebeapaaaTclMem
import Derived.Test.YtphmhglebeapaaaArgs
import Derived.Test.YtphmhglebeapaaaStrArg
import Derived.Deep.Slices
import Derived.Deep.Fields
import Derived.Deep.Strs
import Derived.ChangeSame
import Derived.ChangeSlices
namespace Go.Proofs.Ytphmhglebeapaaa
open Go.RowKit

theorem choose_list {α : Type} {P : Nat → α → Prop} : ∀ {n : Nat}, (∀ i, i < n → ∃ x, P i x) → ∃ l : List α, l.length = n ∧ ∀ i (h : i < l.length), P i l[i]
  | 0, _ => ⟨[], rfl, fun i h => by simp at h⟩
  | n + 1, h => by
    obtain ⟨l, hl, hp⟩ := choose_list (n := n) fun i hi => h i (by omega)
    obtain ⟨x, hx⟩ := h n (by omega)
    refine ⟨l ++ [x], by simp [hl], fun i hi => ?_⟩
    rw [List.length_append, List.length_singleton] at hi
    by_cases e : i < l.length
    · rw [List.getElem_append_left e]; exact hp i e
    · obtain rfl : i = n := by omega
      rw [List.getElem_append_right (by omega)]
      simpa [hl] using hx
theorem no_spot {W : World} {a : Addr} {u : Value} (h : W.cell? (a.add 0) = some u) : ∃ b o, a = ⟨b, o, none⟩ := by
  have hs := World.cell?_spot h
  obtain ⟨b, o, s⟩ := a
  exact ⟨b, o, by simpa [Addr.add] using hs⟩

section
open Go.ChangeShapes Go.WideShapes Go.Deep
variable {H : Type} {enc : TypeId × Value → H} {P : Program} {W : World} {base : Nat} {sp : Nat → Bool} {held : Bool}

/-- How a list is read. -/
def LsRead {α : Type} (R : DataW H → α → Prop) (d : DataW H) (l : List α) : Prop := (d = .nil ∧ l = []) ∨ ∃ D r, d = .slice ((List.range l.length).map D) r ∧ ∀ i (h : i < l.length), R (D i) l[i]
theorem sli_of_trod {α : Type} {s : Nat} {At : AtF α} {R : DataW H → α → Prop} {G : α → Prop} {t e : TypeId} (ht : P.underlying t = some (.slice e)) (hs : P.cellsOf e = s)
    (key : ∀ (a : Addr) (cs : List Value) (n : Nat) (y : DataW H × List MemPlace), cs.length = s → (∀ j, j < s → W.cell? (a.add j) = cs[j]?) → DataW.trod enc P W base sp held n e cs = some y → ∃ b o, a = ⟨b, o, none⟩ ∧ ∃ x, At all W b o x ∧ G x ∧ R y.1 x)
    {fuel : Nat} {v : Value} {y : DataW H × List MemPlace} (h : DataW.trod enc P W base sp held fuel t [v] = some y) :
    ∃ l, SlI s At all W v l ∧ (∀ x ∈ l, G x) ∧ LsRead R y.1 l ∧ l.length ≤ maxLen := by
  rcases open_slice ht h with ⟨hcs, hx⟩ | ⟨a, len, cap, m, n, D, Pl, hcs, hb, hl, hm, hmm, hx, hi⟩
  · injection hcs with hv _
    subst hv
    exact ⟨[], SlI.nil none 0, by simp, .inl ⟨by rw [hx], rfl⟩, by simp⟩
  · injection hcs with hv _
    subst hv
    have hlm : len ≤ m := by rw [hmm]; split <;> omega
    have k1 : ∀ i, i < len → ∃ x, (∃ b o, a.add (i * s) = ⟨b, o, none⟩ ∧ At all W b o x) ∧ G x ∧ R (D i) x := fun i hil => by
      obtain ⟨cs', hc, ht'⟩ := hi i (by omega)
      rw [hs] at hc
      obtain ⟨_, hcl, hat⟩ := World.cells?_some hc
      obtain ⟨b, o, e1, x, h1, h2, h3⟩ := key _ cs' n _ hcl hat ht'
      exact ⟨x, ⟨b, o, e1, h1⟩, h2, h3⟩
    obtain ⟨l, hL, hp⟩ := choose_list k1
    refine ⟨l, ⟨some a, cap, by rw [hL], by omega, fun h0 => ?_⟩, fun x hx => ?_, .inr ⟨D, _, by rw [hL, hx], fun i h => (hp i h).2.2⟩, by omega⟩
    · obtain ⟨⟨b0, o0, e0, _⟩, _⟩ := hp 0 h0
      obtain ⟨b, o, sp'⟩ := a
      have hn : sp' = none := by
        cases sp' with
        | none => rfl
        | some _ => simp [Addr.add] at e0
      subst hn
      refine ⟨b, o, rfl, trivial, fun j x hj => ?_⟩
      obtain ⟨hjl, rfl⟩ := List.getElem?_eq_some_iff.1 hj
      obtain ⟨⟨b1, o1, e1, h1⟩, _⟩ := hp j hjl
      rw [add_eq] at e1
      injection e1 with e2 e3 _
      rw [← e2, ← e3] at h1
      exact h1
    · obtain ⟨i, hi2, rfl⟩ := List.getElem_of_mem hx
      exact (hp i hi2).2.1
end

section
open Go.ChangeShapes Go.WideShapes Go.Deep
variable {H : Type} {enc : TypeId × Value → H} {W : World} {base : Nat} {sp : Nat → Bool} {held : Bool}
theorem prt_fields : ∃ f0 f1, Try.prog.underlying 47 = some (.struct #[f0, f1]) ∧ f0.offset = 0 ∧ f1.offset = 1 ∧ f0.type = 4 ∧ f1.type = 9 := ⟨_, _, Try.underlying47, rfl, rfl, rfl, rfl⟩
theorem wrd_fields : ∃ f0 f1 f2, Try.prog.underlying 44 = some (.struct #[f0, f1, f2]) ∧ f0.offset = 0 ∧ f1.offset = 1 ∧ f2.offset = 2 ∧ f0.type = 3 ∧ f1.type = 3 ∧ f2.type = 42 := ⟨_, _, _, Try.underlying44, rfl, rfl, rfl, rfl, rfl, rfl⟩
theorem cmd_fields : ∃ f0 f1, Try.prog.underlying 39 = some (.struct #[f0, f1]) ∧ f0.offset = 0 ∧ f1.offset = 1 ∧ f0.type = 3 ∧ f1.type = 37 := ⟨_, _, Try.underlying39, rfl, rfl, rfl, rfl⟩
theorem cells_bool : Try.prog.cellsOf 4 = 1 := by kernel_rfl
theorem cells_str : Try.prog.cellsOf 9 = 1 := by kernel_rfl
theorem cells_int : Try.prog.cellsOf 3 = 1 := by kernel_rfl
theorem cells_prts : Try.prog.cellsOf 42 = 1 := by kernel_rfl
theorem cells_wrds : Try.prog.cellsOf 37 = 1 := by kernel_rfl

/-- How a part, a word, a command is read. -/
def PrtRead (d : DataW H) (p : Prt) : Prop := ∃ a : DataW H, ∃ t : List UInt8, d = .agg [a, .lit (.string t)] ∧ t.length = p.s.length
def WrdRead (d : DataW H) (x : Wrd) : Prop := ∃ a b c : DataW H, d = .agg [a, b, c] ∧ LsRead PrtRead c x.parts
def CmdRead (d : DataW H) (x : Cmd) : Prop := ∃ a b : DataW H, d = .agg [a, b] ∧ LsRead WrdRead b x.words
/-- What is known of what comes in: bytes, and lengths. -/
def PrtIn (p : Prt) : Prop := (∀ c ∈ p.s, c < 256) ∧ p.s.length ≤ maxLen
def WrdIn (x : Wrd) : Prop := (-9223372036854775808 ≤ x.kind ∧ x.kind ≤ 9223372036854775807) ∧ (∀ p ∈ x.parts, PrtIn p) ∧ x.parts.length ≤ maxLen
def CmdIn (c : Cmd) : Prop := (∀ x ∈ c.words, WrdIn x) ∧ c.words.length ≤ maxLen

set_option maxRecDepth 100000 in
theorem prts_of_trod {fuel : Nat} {v : Value} {y : DataW H × List MemPlace} (h : DataW.trod enc Try.prog W base sp held fuel 42 [v] = some y) :
    ∃ l, Prts all W v l ∧ (∀ p ∈ l, PrtIn p) ∧ LsRead PrtRead y.1 l ∧ l.length ≤ maxLen := by
  refine sli_of_trod Try.underlying42 (by kernel_rfl) (fun a cs n y hcl hat ht => ?_) h
  obtain ⟨f0, f1, hf, o0, o1, t0, t1⟩ := prt_fields
  obtain ⟨ys, n', _, hy, hlen, hyl, hg⟩ := DataW.trod_struct hf ht
  have g0 := hg 0 f0 rfl
  have g1 := hg 1 f1 rfl
  rw [o0, t0, cells_bool] at g0
  rw [o1, t1, cells_str] at g1
  match cs, hcl with
  | [v0, v1], _ =>
    have c0 := hat 0 (by omega)
    have c1 := hat 1 (by omega)
    match ys, hyl with
    | [y0, y1], _ =>
      simp only [List.drop, List.take, List.getElem?_cons_zero, List.getElem?_cons_succ] at g0 g1 c0 c1
      obtain ⟨k, e0, _⟩ := DataW.trod_bool Try.underlying4 g0
      obtain ⟨s, e1, e2, hs⟩ := DataW.trod_string Try.underlying9 g1
      simp at e0 e1
      subst e0 e1
      obtain ⟨b, o, rfl⟩ := no_spot c0
      rw [add_eq] at c0 c1
      obtain ⟨l, rfl, hl, hll⟩ := str_of s
      refine ⟨b, o, rfl, ⟨k, l⟩, ⟨c0, c1⟩, ⟨hl, by rw [str_len] at hs; exact hs⟩, y0.1, (str l).data.toList, ?_, hll.symm⟩
      rw [hy, e2]; rfl
set_option maxRecDepth 100000 in
theorem wrds_of_trod {fuel : Nat} {v : Value} {y : DataW H × List MemPlace} (h : DataW.trod enc Try.prog W base sp held fuel 37 [v] = some y) :
    ∃ l, Wrds all W v l ∧ (∀ p ∈ l, WrdIn p) ∧ LsRead WrdRead y.1 l ∧ l.length ≤ maxLen := by
  refine sli_of_trod Try.underlying37 (by kernel_rfl) (fun a cs n y hcl hat ht => ?_) h
  obtain ⟨f0, f1, f2, hf, o0, o1, o2, t0, t1, t2⟩ := wrd_fields
  obtain ⟨ys, n', _, hy, hlen, hyl, hg⟩ := DataW.trod_struct hf ht
  have g0 := hg 0 f0 rfl
  have g1 := hg 1 f1 rfl
  have g2 := hg 2 f2 rfl
  rw [o0, t0, cells_int] at g0
  rw [o1, t1, cells_int] at g1
  rw [o2, t2, cells_prts] at g2
  match cs, hcl with
  | [v0, v1, v2], _ =>
    have c0 := hat 0 (by omega)
    have c1 := hat 1 (by omega)
    have c2 := hat 2 (by omega)
    match ys, hyl with
    | [y0, y1, y2], _ =>
      simp only [List.drop, List.take, List.getElem?_cons_zero, List.getElem?_cons_succ] at g0 g1 g2 c0 c1 c2
      obtain ⟨k, e0, _, _⟩ := DataW.trod_int Try.underlying3 g0
      obtain ⟨kd, e1, _, hw⟩ := DataW.trod_int Try.underlying3 g1
      obtain ⟨ps, h1, h2, h3, h4⟩ := prts_of_trod g2
      simp at e0 e1
      subst e0 e1
      obtain ⟨b, o, rfl⟩ := no_spot c0
      rw [add_eq] at c0 c1 c2
      refine ⟨b, o, rfl, ⟨k, kd, ps⟩, ⟨c0, c1, v2, c2, h1⟩, ⟨wf_i64 hw, h2, h4⟩, y0.1, y1.1, y2.1, ?_, h3⟩
      rw [hy]; rfl
set_option maxRecDepth 100000 in
theorem cmds_of_trod {fuel : Nat} {v : Value} {y : DataW H × List MemPlace} (h : DataW.trod enc Try.prog W base sp held fuel 22 [v] = some y) :
    ∃ l, Cmds all W v l ∧ (∀ p ∈ l, CmdIn p) ∧ LsRead CmdRead y.1 l ∧ l.length ≤ maxLen := by
  refine sli_of_trod Try.underlying22 (by kernel_rfl) (fun a cs n y hcl hat ht => ?_) h
  obtain ⟨f0, f1, hf, o0, o1, t0, t1⟩ := cmd_fields
  obtain ⟨ys, n', _, hy, hlen, hyl, hg⟩ := DataW.trod_struct hf ht
  have g0 := hg 0 f0 rfl
  have g1 := hg 1 f1 rfl
  rw [o0, t0, cells_int] at g0
  rw [o1, t1, cells_wrds] at g1
  match cs, hcl with
  | [v0, v1], _ =>
    have c0 := hat 0 (by omega)
    have c1 := hat 1 (by omega)
    match ys, hyl with
    | [y0, y1], _ =>
      simp only [List.drop, List.take, List.getElem?_cons_zero, List.getElem?_cons_succ] at g0 g1 c0 c1
      obtain ⟨k, e0, _, _⟩ := DataW.trod_int Try.underlying3 g0
      obtain ⟨ps, h1, h2, h3, h4⟩ := wrds_of_trod g1
      simp at e0
      subst e0
      obtain ⟨b, o, rfl⟩ := no_spot c0
      rw [add_eq] at c0 c1
      refine ⟨b, o, rfl, ⟨k, ps⟩, ⟨c0, v1, c1, h1⟩, ⟨h2, h4⟩, y0.1, y1.1, ?_, h3⟩
      rw [hy]; rfl
end
end Go.Proofs.Ytphmhglebeapaaa
