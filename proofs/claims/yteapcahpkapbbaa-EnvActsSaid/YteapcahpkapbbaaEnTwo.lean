/-
  The program's variables and the document's, side by side since world w0.
  Conditions: those of each theorem.
-/
import Derived.Test.YteapcahpkapbbaaEnOps
namespace Go.Proofs.Yteapcahpkapbbaa
open Go.RowKit

abbrev BothE (q r : Nat) (l : Vrs) : Thing := Star (EnvT q l) (RefE r l)
theorem bothE_framed (q r : Nat) (l l' : Vrs) : Framed (Star (EnvT q l) (RefE r l')) := Star.framed (env_framed _ _) (refe_framed _ _)
section
variable {P P' Q Q' : Thing} {N : Nat → Prop} {w0 w : World} {f : FuncId} {args : Array Value} {φ : Ending → Prop}
theorem Has.callEL (h : Has (Star P Q) N w0 w) (fQ : Framed Q) (k : ∀ F, P F w → Calls Try.prog f args w fun e w' => φ e ∧ Turned P' F w w') : Calls Try.prog f args w fun e w' => φ e ∧ Has (Star P' Q) N w0 w' ∧ Stay N w w' := by
  obtain ⟨F, h⟩ := h
  obtain ⟨A, B, hs⟩ := h.it
  refine (k A hs.fst).mono ?_
  rintro e w' ⟨he, ht⟩
  exact ⟨he, h.turn (hs.left fQ ht)⟩
theorem Has.callER (h : Has (Star P Q) N w0 w) (fP : Framed P) (k : ∀ F, Q F w → Calls Try.prog f args w fun e w' => φ e ∧ Turned Q' F w w') : Calls Try.prog f args w fun e w' => φ e ∧ Has (Star P Q') N w0 w' ∧ Stay N w w' := by
  obtain ⟨F, h⟩ := h
  obtain ⟨A, B, hs⟩ := h.it
  refine (k B hs.snd).mono ?_
  rintro e w' ⟨he, ht⟩
  exact ⟨he, h.turn (hs.right fP ht)⟩
theorem Has.fstE (h : Has (Star P Q) N w0 w) : ∃ F, P F w := by obtain ⟨F, h⟩ := h; obtain ⟨A, B, hs⟩ := h.it; exact ⟨A, hs.fst⟩
theorem Has.sndE (h : Has (Star P Q) N w0 w) : ∃ F, Q F w := by obtain ⟨F, h⟩ := h; obtain ⟨A, B, hs⟩ := h.it; exact ⟨B, hs.snd⟩
/-- One more row, that a call has made and that is neither's. -/
theorem Has.rowE {e : TypeId} {g : Option Nat} {v : Value} {xs : List Value} {w' : World} (h : Has P N w0 w) (fP : Framed P) (hb : Below w.heap.size w w') (hr : Row w' e g v xs) (hg : ∀ x, g = some x → w.heap.size ≤ x) : Has P (fun x => N x ∨ g = some x) w0 w' := by
  obtain ⟨F, h⟩ := h
  have ho : Only (fun _ => False) w w' := Only.of_below hb (Nat.le_refl _) _
  refine ⟨F, fP.only h.it ho (fun _ _ e => e), h.new, ?_, h.below.trans (hb.mono h.below.size)⟩
  rintro x (hx | hx)
  · exact ⟨(h.np x hx).1, Nat.lt_of_lt_of_le (h.np x hx).2 hb.size⟩
  · exact ⟨fun hF => by have := fP.lt h.it x hF; have := hg x hx; omega, hr.lt hx⟩
end
section
variable {q r : Nat} {l l' : Vrs} {N : Nat → Prop} {w0 w : World}
theorem refe_new (w : World) : RefE w.heap.size [] (fun x => x = w.heap.size) (w.alloc (.cells #[.slice none 0 0] 30)) :=
  ⟨none, _, Blk.new w _ _, RowS.nil _ _ _, fun x => by simp, ok_nil⟩
theorem both_new (h : Has (EnvT q []) N w0 w) : Has (BothE q w.heap.size []) (fun _ => False) w0 (w.alloc (.cells #[.slice none 0 0] 30)) :=
  h.both (env_framed _ _) (refe_new w) (fun x e => by omega) ((Below.refl _ w).alloc (Nat.le_refl _) _)
theorem set_el (h : Has (Star (EnvT q l) (RefE r l')) N w0 w) (n v : List Nat) (hn : ∀ c ∈ n, c < 256) (hv : ∀ c ∈ v, c < 256) (hnl : n.length ≤ 9223372036854775807) (hvl : v.length ≤ 9223372036854775807) :
    Calls Try.prog 13 #[.pointer (some ⟨q, 0, none⟩), .string (str n), .string (str v)] w fun e w' => e = .returned (.int .i64 ((setV l n v).1 : Nat)) ∧ Has (Star (EnvT q (setV l n v).2) (RefE r l')) N w0 w' ∧ Stay N w w' :=
  h.callEL (refe_framed _ _) fun _ h => Set_is h n v hn hv hnl hvl
theorem set_er (h : Has (Star (EnvT q l) (RefE r l')) N w0 w) (n v : List Nat) (hn : ∀ c ∈ n, c < 256) (hv : ∀ c ∈ v, c < 256) (hnl : n.length ≤ 9223372036854775807) (hvl : v.length ≤ 9223372036854775807) :
    Calls Try.prog 14 #[.pointer (some ⟨r, 0, none⟩), .string (str n), .string (str v)] w fun e w' => e = .returned (.int .i64 ((setV l' n v).1 : Nat)) ∧ Has (Star (EnvT q l) (RefE r (setV l' n v).2)) N w0 w' ∧ Stay N w w' :=
  h.callER (env_framed _ _) fun _ h => RSet_is h n v hn hv hnl hvl
theorem get_el (h : Has (Star (EnvT q l) (RefE r l')) N w0 w) (n : List Nat) (hn : ∀ c ∈ n, c < 256) (hnl : n.length ≤ 9223372036854775807) :
    Calls Try.prog 15 #[.pointer (some ⟨q, 0, none⟩), .string (str n)] w fun e w' => e = .returned (getE (getV l n)) ∧ Below w.heap.size w w' := by
  obtain ⟨F, h⟩ := h.fstE; exact Get_is h n hn hnl
theorem get_er (h : Has (Star (EnvT q l) (RefE r l')) N w0 w) (n : List Nat) (hn : ∀ c ∈ n, c < 256) :
    Calls Try.prog 16 #[.pointer (some ⟨r, 0, none⟩), .string (str n)] w fun e w' => e = .returned (getE (getV l' n)) ∧ w = w' := by
  obtain ⟨F, h⟩ := h.sndE; exact RGet_is h n hn
theorem word_el {S : Nat → Prop} (h : Has (Star (EnvT q l) (RefE r l')) N w0 w) (a k : Int) (P : Value) (ps : List Prt) (hp : Prts S w P ps) (hok : PsOk ps) :
    Calls Try.prog 17 #[.pointer (some ⟨q, 0, none⟩), .agg #[.int .i64 a, .int .i64 k, P]] w fun e w' => e = .returned (wordE (wordV l ps)) ∧ Below w.heap.size w w' := by
  obtain ⟨F, h⟩ := h.fstE; exact Word_is h a k P ps hp hok
theorem word_er {S : Nat → Prop} (h : Has (Star (EnvT q l) (RefE r l')) N w0 w) (a k : Int) (P : Value) (ps : List Prt) (hp : Prts S w P ps) (hok : PsOk ps) :
    Calls Try.prog 18 #[.pointer (some ⟨r, 0, none⟩), .agg #[.int .i64 a, .int .i64 k, P]] w fun e w' => e = .returned (wordE (wordV l' ps)) ∧ Below w.heap.size w w' := by
  obtain ⟨F, h⟩ := h.sndE; exact RWord_is h a k P ps hp hok
theorem names_el (h : Has (Star (EnvT q l) (RefE r l')) N w0 w) : Calls Try.prog 19 #[.pointer (some ⟨q, 0, none⟩)] w (StrsTo w (namesV l)) := by
  obtain ⟨F, h⟩ := h.fstE; exact names_is h
theorem names_er (h : Has (Star (EnvT q l) (RefE r l')) N w0 w) : Calls Try.prog 20 #[.pointer (some ⟨r, 0, none⟩)] w (StrsTo w (namesV l')) := by
  obtain ⟨F, h⟩ := h.sndE; exact RNames_is h
end
end Go.Proofs.Yteapcahpkapbbaa
