/-
  What the relay between two lines does, over plain lists: line 0 is the child's, line 1 the user's; of line k the relay is side k, whoever speaks there side 1 - k; direction d comes from line d and goes to line 1 - d.
  Conditions: none.
-/
import Derived.Test.YtfmmomdfmmoklaaDoorPtyOps
import Derived.Test.YtfmmomdfmmoklaaDoorClk
import Derived.Test.YtfmmomdfmmoklaaDoorEvMath
namespace Go.Proofs.YtfmmomdfmmoklaaDoor
open Go.RowKit

/-- What there is: of line k the way from side s; of direction d what waits, and whether its end was seen; what the clock saw; the events. -/
structure Sys where
  rm : Nat
  f : Nat → Nat → Way
  ws : Nat → List Nat
  ov : Nat → Bool
  ck : Option Int
  ev : List PE

/-- One of many is another. -/
def upn {α : Type} (f : Nat → α) (k : Nat) (y : α) : Nat → α := fun j => if j = k then y else f j
theorem upn_at {α : Type} (f : Nat → α) (k : Nat) (y : α) : upn f k y k = y := by simp [upn]
theorem upn_far {α : Type} (f : Nat → α) {k j : Nat} (y : α) (h : j ≠ k) : upn f k y j = f j := by simp [upn, h]
theorem upn_same {α : Type} (f : Nat → α) (k : Nat) : upn f k (f k) = f := by
  funext j
  by_cases h : j = k
  · subst h; exact upn_at ..
  · exact upn_far _ _ h
theorem upd_same (f : Nat → Way) (s : Nat) : upd f s (f s) = f := upn_same f s

namespace Sys
/-- Line k's way from side s is another. -/
def line (x : Sys) (k s : Nat) (y : Way) : Sys := { x with f := upn x.f k (upd (x.f k) s y) }
/-- How many bytes may be read. -/
def room (x : Sys) (n : Int) : Int := min (min n 65536) (262144 - (whole x.ev : Int))
/-- Whether nothing is read. -/
def shut (x : Sys) (d : Nat) (n : Int) : Bool := decide (0 < (x.ws d).length) || x.ov d || decide (n < 1) || decide (x.ev.length = 4096)
/-- What comes to the relay from line d. -/
def inc (x : Sys) (d : Nat) : Way := x.f d (1 - d)
/-- What is read. -/
def got (x : Sys) (d : Nat) (n : Int) : List Nat := (x.inc d).xs.take (x.room n).toNat
def took (x : Sys) (d : Nat) (n t : Int) : Sys :=
  { x.line d (1 - d) ⟨(x.inc d).en, (x.inc d).xs.drop (x.room n).toNat⟩ with ws := upn x.ws d (x.got d n), ck := some (top x.ck t), ev := x.ev ++ [⟨d, top x.ck t, x.got d n⟩] }
/-- What goes from the relay in direction d. -/
def out (x : Sys) (d : Nat) : Way := x.f (1 - d) (1 - d)
def ended (x : Sys) (d : Nat) : Sys := { x.line (1 - d) (1 - d) ⟨true, (x.out d).xs⟩ with ov := upn x.ov d true }
def read (x : Sys) (d : Nat) (n t : Int) : Bool × Sys :=
  if x.shut d n then (false, x) else if x.got d n ≠ [] then (true, x.took d n t) else if (x.inc d).en && (x.inc d).xs.isEmpty then (true, x.ended d) else (false, x)
/-- How many bytes are handed on. -/
def many (x : Sys) (d : Nat) (n : Int) : Nat := putN x.rm (x.out d).en (x.out d).xs.length (min n (x.ws d).length).toNat
def sent (x : Sys) (d : Nat) (n : Int) : Sys := { x.line (1 - d) (1 - d) ⟨(x.out d).en, (x.out d).xs ++ (x.ws d).take (x.many d n)⟩ with ws := upn x.ws d ((x.ws d).drop (x.many d n)) }
def write (x : Sys) (d : Nat) (n : Int) : Bool × Sys := (decide (0 < x.many d n), x.sent d n)
def step (x : Sys) (kind n t : Int) : Bool × Sys :=
  if kind = 0 then (if x.ov 0 then (false, x) else x.read 1 n t) else if kind = 1 then x.read 0 n t else if kind = 2 then x.write 1 n else if kind = 3 then x.write 0 n else (false, x)

/-- What holds of it at all times. -/
structure Ok (x : Sys) : Prop where
  rm : x.rm ≤ 65536
  le : ∀ k, k < 2 → ∀ s, s < 2 → (x.f k s).xs.length ≤ x.rm
  byte : ∀ k, k < 2 → ∀ s, s < 2 → ∀ b ∈ (x.f k s).xs, b < 256
  wle : ∀ d, d < 2 → (x.ws d).length ≤ 65536
  wbyte : ∀ d, d < 2 → ∀ b ∈ x.ws d, b < 256
  all : whole x.ev ≤ 262144
  len : x.ev.length ≤ 4096
  dir : ∀ a ∈ x.ev, a.dir = 0 ∨ a.dir = 1
  ebyte : ∀ a ∈ x.ev, ∀ b ∈ a.data, b < 256
  esome : ∀ a ∈ x.ev, a.data ≠ []
  eless : ∀ a ∈ x.ev, a.data.length ≤ 65536
  low : ∀ a ∈ x.ev, ∃ c, x.ck = some c ∧ a.time ≤ c
  ris : risB x.ev = true

def start (rm : Nat) : Sys := ⟨rm, fun _ _ => ⟨false, []⟩, fun _ => [], fun _ => false, none, []⟩
theorem start_ok {rm : Nat} (h : rm ≤ 65536) : Ok (start rm) := by
  refine ⟨h, ?_, ?_, ?_, ?_, ?_, ?_, ?_, ?_, ?_, ?_, ?_, rfl⟩ <;> simp [start, whole]

section
variable {x : Sys} {d k s : Nat} {n t : Int} {y : Way}
theorem line_at (x : Sys) (k s : Nat) (y : Way) : (x.line k s y).f k = upd (x.f k) s y := upn_at ..
theorem line_far (x : Sys) {k j : Nat} (s : Nat) (y : Way) (h : j ≠ k) : (x.line k s y).f j = x.f j := upn_far _ _ h
theorem line_same (x : Sys) (k s : Nat) : x.line k s (x.f k s) = x := by
  unfold line
  rw [upd_same, upn_same]
theorem room_le (x : Sys) (n : Int) : (x.room n).toNat ≤ 65536 := by unfold room; omega
theorem room_all (h : whole x.ev ≤ 262144) (n : Int) : whole x.ev + (x.room n).toNat ≤ 262144 := by unfold room; omega
theorem got_le (x : Sys) (d : Nat) (n : Int) : (x.got d n).length ≤ (x.room n).toNat := List.length_take_le _ _
theorem Ok.line (h : Ok x) (hk : k < 2) (hs : s < 2) (h1 : y.xs.length ≤ x.rm) (h2 : ∀ b ∈ y.xs, b < 256) : Ok (x.line k s y) := by
  refine ⟨h.rm, fun j hj t ht => ?_, fun j hj t ht => ?_, h.wle, h.wbyte, h.all, h.len, h.dir, h.ebyte, h.esome, h.eless, h.low, h.ris⟩
  · by_cases hjk : j = k
    · subst hjk
      rw [line_at]
      by_cases hts : t = s
      · subst hts; rw [upd_at]; exact h1
      · rw [upd_far _ _ hts]; exact h.le j hj t ht
    · rw [line_far _ _ _ hjk]; exact h.le j hj t ht
  · by_cases hjk : j = k
    · subst hjk
      rw [line_at]
      by_cases hts : t = s
      · subst hts; rw [upd_at]; exact h2
      · rw [upd_far _ _ hts]; exact h.byte j hj t ht
    · rw [line_far _ _ _ hjk]; exact h.byte j hj t ht
theorem ris_snoc {l : List PE} {a : PE} (h : risB l = true) (hl : ∀ b ∈ l, b.time ≤ a.time) : risB (l ++ [a]) = true := by
  induction l with
  | nil => rfl
  | cons b l ih =>
    cases l with
    | nil => simp [risB]; exact hl b (by simp)
    | cons c l =>
      simp only [List.cons_append, risB, Bool.and_eq_true] at h ⊢
      exact ⟨h.1, ih h.2 (fun b hb => hl b (by simp at hb ⊢; exact .inr hb))⟩
theorem top_ge (o : Option Int) (t c : Int) (h : o = some c) : c ≤ top o t := by subst h; simp only [top]; omega
theorem Ok.took (h : Ok x) (hd : d < 2) (hlen : x.ev.length ≠ 4096) (hg : x.got d n ≠ []) : Ok (x.took d n t) := by
  have h1 := h.line (k := d) (s := 1 - d) (y := ⟨(x.inc d).en, (x.inc d).xs.drop (x.room n).toNat⟩) hd (by omega) (by
    show ((x.inc d).xs.drop _).length ≤ _
    have := h.le d hd (1 - d) (by omega)
    rw [List.length_drop]; unfold inc; omega) (fun b hb => h.byte d hd (1 - d) (by omega) b (List.mem_of_mem_drop hb))
  have hgl := x.got_le d n
  have hr := x.room_le n
  have hgb : ∀ b ∈ x.got d n, b < 256 := fun b hb => h.byte d hd (1 - d) (by omega) b (List.mem_of_mem_take hb)
  have mem : ∀ a ∈ x.ev ++ [⟨d, top x.ck t, x.got d n⟩], a ∈ x.ev ∨ a = ⟨d, top x.ck t, x.got d n⟩ := fun a ha => by simpa using ha
  refine ⟨h1.rm, h1.le, h1.byte, fun j hj => ?_, fun j hj => ?_, ?_, ?_, fun a ha => ?_, fun a ha => ?_, fun a ha => ?_, fun a ha => ?_, fun a ha => ?_, ?_⟩
  · show (upn x.ws d (x.got d n) j).length ≤ _
    by_cases hjd : j = d
    · subst hjd; rw [upn_at]; omega
    · rw [upn_far _ _ hjd]; exact h.wle j hj
  · show ∀ b ∈ upn x.ws d (x.got d n) j, b < 256
    by_cases hjd : j = d
    · subst hjd; rw [upn_at]; exact hgb
    · rw [upn_far _ _ hjd]; exact h.wbyte j hj
  · show whole (x.ev ++ [_]) ≤ _
    have := room_all h.all n
    rw [whole_append, whole_cons]
    simp only [show whole [] = 0 from rfl]
    omega
  · show (x.ev ++ [_]).length ≤ _
    have := h.len
    simp; omega
  · rcases mem a ha with k | rfl
    · exact h.dir a k
    · show (d : Int) = 0 ∨ (d : Int) = 1
      omega
  · rcases mem a ha with k | rfl
    · exact h.ebyte a k
    · exact hgb
  · rcases mem a ha with k | rfl
    · exact h.esome a k
    · exact hg
  · rcases mem a ha with k | rfl
    · exact h.eless a k
    · show (x.got d n).length ≤ _; omega
  · refine ⟨top x.ck t, rfl, ?_⟩
    rcases mem a ha with k | rfl
    · obtain ⟨c, h1, h2⟩ := h.low a k
      have := top_ge x.ck t c h1
      omega
    · exact Int.le_refl _
  · refine ris_snoc h.ris fun b hb => ?_
    obtain ⟨c, h1, h2⟩ := h.low b hb
    have := top_ge x.ck t c h1
    show b.time ≤ top x.ck t
    omega
theorem Ok.ended (h : Ok x) (hd : d < 2) : Ok (x.ended d) := by
  have h1 := h.line (k := 1 - d) (s := 1 - d) (y := ⟨true, (x.out d).xs⟩) (by omega) (by omega) (h.le (1 - d) (by omega) (1 - d) (by omega)) (h.byte (1 - d) (by omega) (1 - d) (by omega))
  exact ⟨h1.rm, h1.le, h1.byte, h1.wle, h1.wbyte, h1.all, h1.len, h1.dir, h1.ebyte, h1.esome, h1.eless, h1.low, h1.ris⟩
theorem Ok.read (h : Ok x) (hd : d < 2) : Ok (x.read d n t).2 := by
  unfold Sys.read
  split
  · exact h
  · next hs =>
    split
    · next hg =>
      refine h.took hd ?_ hg
      simp only [shut, Bool.or_eq_true, decide_eq_true_eq] at hs
      exact fun e => hs (.inr e)
    · split
      · exact h.ended hd
      · exact h
theorem many_le (x : Sys) (d : Nat) (n : Int) : x.many d n ≤ (x.ws d).length := by
  have := putN_le_m x.rm (x.out d).en (x.out d).xs.length (min n (x.ws d).length).toNat
  unfold many
  omega
theorem many_room (x : Sys) (d : Nat) (n : Int) : x.many d n ≤ x.rm - (x.out d).xs.length := putN_le ..
theorem Ok.sent (h : Ok x) (hd : d < 2) : Ok (x.sent d n) := by
  have hm := x.many_room d n
  have hl : (x.out d).xs.length ≤ x.rm := h.le (1 - d) (by omega) (1 - d) (by omega)
  have h1 := h.line (k := 1 - d) (s := 1 - d) (y := ⟨(x.out d).en, (x.out d).xs ++ (x.ws d).take (x.many d n)⟩) (by omega) (by omega) (by
    show ((x.out d).xs ++ (x.ws d).take (x.many d n)).length ≤ _
    rw [List.length_append, List.length_take]; omega) (fun b hb => by
      rcases List.mem_append.1 hb with hb | hb
      · exact h.byte (1 - d) (by omega) (1 - d) (by omega) b hb
      · exact h.wbyte d hd b (List.mem_of_mem_take hb))
  refine ⟨h1.rm, h1.le, h1.byte, fun j hj => ?_, fun j hj => ?_, h1.all, h1.len, h1.dir, h1.ebyte, h1.esome, h1.eless, h1.low, h1.ris⟩
  · show (upn x.ws d ((x.ws d).drop (x.many d n)) j).length ≤ _
    by_cases hjd : j = d
    · subst hjd; rw [upn_at, List.length_drop]; have := h.wle j hj; omega
    · rw [upn_far _ _ hjd]; exact h.wle j hj
  · show ∀ b ∈ upn x.ws d ((x.ws d).drop (x.many d n)) j, b < 256
    by_cases hjd : j = d
    · subst hjd; rw [upn_at]; exact fun b hb => h.wbyte j hj b (List.mem_of_mem_drop hb)
    · rw [upn_far _ _ hjd]; exact h.wbyte j hj
theorem Ok.step (h : Ok x) (kind n t : Int) : Ok (x.step kind n t).2 := by
  unfold Sys.step
  split
  · split
    · exact h
    · exact h.read (by omega)
  · split
    · exact h.read (by omega)
    · split
      · exact h.sent (by omega)
      · split
        · exact h.sent (by omega)
        · exact h
end
end Sys
end Go.Proofs.YtfmmomdfmmoklaaDoor
