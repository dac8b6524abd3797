/-
  cuecardlaw05.TransJoins answers true for all events and one more.
  Conditions: times within an int64; the events take at most 2^47 - 4096 bytes.
-/
import Derived.Test.YtbaibabnfbjdeaaTPuts
import Derived.Test.YtbaibabnfbjdeaaUpto
import Derived.Deep.RegionHeld3
import Derived.Test.YtbaibabnfbjdeaaAppRun
namespace Go.Proofs.Ytbaibabnfbjdeaa
open Go.RowKit

theorem Evs.src {W : World} {A : Option Addr} {n c : Nat} {l : List Ev} (h : Evs W (.slice A n c) l) : Src Try.prog 3 22 (.slice A n c) l.length (evcs l) W := by
  have hn := h.n
  subst hn
  obtain ⟨_, _, A', c', e, hle, hr⟩ := h
  injection e with e1 e2 e3
  subst e1 e3
  rcases Nat.eq_zero_or_pos l.length with h0 | hp
  · have hl : l = [] := List.eq_nil_of_length_eq_zero h0
    subst hl
    cases A with
    | none => exact Src.ofNil W Try.underlying22 c
    | some a => exact Src.ofSlice W Try.underlying22 a 0 c [] rfl (by intro j u hu; simp at hu) (by simp)
  · obtain ⟨b, o, rfl, _, hx⟩ := hr hp
    refine Src.ofSlice W Try.underlying22 ⟨b, o, none⟩ l.length c (evcs l) (by rw [evcs_len]) (fun j u hu => ?_) (evcs_one l)
    rw [add_eq]
    have hj := (List.getElem?_eq_some_iff.1 hu).1
    rw [evcs_len] at hj
    obtain ⟨a, ha⟩ : ∃ a, l[j / 3]? = some a := ⟨_, List.getElem?_eq_getElem (by omega)⟩
    have hat := hx (j / 3) a ha
    obtain ⟨x0, x1, x2⟩ := evcs_at ha
    have h3 : j % 3 = 0 ∨ j % 3 = 1 ∨ j % 3 = 2 := by omega
    rcases h3 with h3 | h3 | h3
    · have e : j = j / 3 * 3 := by omega
      rw [e] at hu ⊢
      rw [x0] at hu
      cases hu
      rw [show o + j / 3 * 3 = o + j / 3 * 3 from rfl]
      exact hat.dir
    · have e : j = j / 3 * 3 + 1 := by omega
      rw [e] at hu ⊢
      rw [x1] at hu
      cases hu
      rw [← Nat.add_assoc]
      exact hat.time
    · have e : j = j / 3 * 3 + 2 := by omega
      rw [e] at hu ⊢
      rw [x2] at hu
      cases hu
      rw [← Nat.add_assoc]
      exact hat.data

/-- append(append([]Event{}, l...), e), as two equations. -/
theorem joined {V : World} {A : Option Addr} {c : Nat} {l : List Ev} {d t : Int} {Aa : Option Addr} {ca : Nat} {bs : List Nat} (h : Evs V (.slice A l.length c) l) (he : EvOk (fun _ => True) V ⟨d, t, Aa, ca, bs⟩) (hn : (l.length + 1) * 40 ≤ 140737488355328) :
    ∃ A5 c5 w5 A7 c7 w7, (Builtin.append_ #[22, 22] 22 #[.slice (some ⟨V.heap.size, 0, none⟩) 0 0, .slice A l.length c]).run Try.prog (V.drew.alloc (.cells #[] 43)) = .ok (.slice A5 l.length c5) w5 ∧
      (Builtin.append_ #[22, 22] 22 #[.slice A5 l.length c5, .slice (some ⟨w5.heap.size, 0, none⟩) 1 1]).run Try.prog (w5.alloc (.cells #[.int .i64 d, .int .i64 t, .slice Aa bs.length ca] 43)) = .ok (.slice A7 (l.length + 1) c7) w7 ∧
      Below V.heap.size V w5 ∧ Below V.heap.size V w7 ∧ Evs w7 (.slice A7 (l.length + 1) c7) (l ++ [⟨d, t, Aa, ca, bs⟩]) := by
  obtain ⟨i0, hi0, hz0, hz1, hz2⟩ := info_parts ev_info
  have hbd : Below V.heap.size V (V.drew.alloc (.cells #[] 43)) := (Below.refl V.heap.size V).drew.alloc (Nat.le_refl _) _
  have r0 : RowS (V.drew.alloc (.cells #[] 43)) 43 3 none (.slice (some ⟨V.heap.size, 0, none⟩) 0 0) 0 [] := ⟨_, 0, rfl, rfl, Nat.le_refl _, Nat.zero_le _, by simp, .inl ⟨rfl, rfl⟩⟩
  obtain ⟨v5, w5, g5, hrun5, hr5, hg5, hg5'⟩ := run_append_rowS (P := Try.prog) _ 22 22 22 43 i0 _ 3 40 Try.underlying22 hi0 hz0 hz1 hz2 rfl r0 _ l.length (evcs l) (h.below hbd).src (by simp only [maxLen]; omega) (by omega)
  obtain ⟨A5, c5, rfl, _⟩ := hr5.form
  simp only [Nat.zero_add, List.nil_append] at hrun5 hr5
  have hb5 : Below V.heap.size V w5 := hbd.grown hg5 hbd.size (by simp)
  have hf5 : ∀ b, g5 = some b → V.heap.size ≤ b := by
    intro b e
    rcases hg5' with e' | e'
    · rw [e'] at e; cases e
    · rw [e] at e'; simp at e'; omega
  have hb6 : Below w5.heap.size w5 (w5.alloc (.cells #[.int .i64 d, .int .i64 t, .slice Aa bs.length ca] 43)) := (Below.refl _ w5).alloc (Nat.le_refl _) _
  obtain ⟨v7, w7, g7, hrun7, hr7, hg7, hg7'⟩ := run_append_rowS (P := Try.prog) _ 22 22 22 43 i0 _ 3 40 Try.underlying22 hi0 hz0 hz1 hz2 rfl (hr5.alloc (.cells #[.int .i64 d, .int .i64 t, .slice Aa bs.length ca] 43)) _ 1 (evc ⟨d, t, Aa, ca, bs⟩) (ev_src (w := w5) ⟨d, t, Aa, ca, bs⟩) (by simp only [maxLen]; omega) (by omega)
  obtain ⟨A7, c7, rfl, hle7⟩ := hr7.form
  have hb7 : Below V.heap.size V w7 := (hb5.trans (hb6.mono hb5.size)).grown hg7 (by have := hb5.size; simp; omega) hf5
  refine ⟨A5, c5, w5, A7, c7, w7, hrun5, hrun7, hb5, hb7, ?_⟩
  refine ⟨by simp; omega, fun a ha => ?_, A7, c7, by simp, by simpa using hle7, fun hp => ?_⟩
  · rcases List.mem_append.1 ha with ha | ha
    · exact (h.below hb7).ok ha
    · rw [List.mem_singleton.1 ha]; exact he.keep fun b _ hlt => hb7.block b hlt
  · obtain ⟨b, o, c', e, _, _, hx⟩ := hr7.cells (by omega)
    injection e with e1 e2 e3
    refine ⟨b, o, e1, trivial, fun j a ha => ?_⟩
    rw [← evcs_snoc] at hx
    obtain ⟨x0, x1, x2⟩ := evcs_at ha
    exact ⟨hx _ _ x0, by rw [Nat.add_assoc]; exact hx _ _ x1, by rw [Nat.add_assoc]; exact hx _ _ x2⟩

/-- The same where the one event's slice was made ahead, in block q. -/
theorem joined_at {V V1 : World} {A A0 : Option Addr} {c q : Nat} {l : List Ev} {d t : Int} {Aa : Option Addr} {ca : Nat} {bs : List Nat} (h : Evs V (.slice A l.length c) l) (he : EvOk (fun _ => True) V ⟨d, t, Aa, ca, bs⟩) (hn : (l.length + 1) * 40 ≤ 140737488355328) (hbd : Below V.heap.size V V1) (bq : Blk V1 q 43 #[.int .i64 d, .int .i64 t, .slice Aa bs.length ca]) :
    ∃ A5 c5 w5 A7 c7 w7, (Builtin.append_ #[22, 22] 22 #[.slice A0 0 0, .slice A l.length c]).run Try.prog V1 = .ok (.slice A5 l.length c5) w5 ∧
      (Builtin.append_ #[22, 22] 22 #[.slice A5 l.length c5, .slice (some ⟨q, 0, none⟩) 1 1]).run Try.prog w5 = .ok (.slice A7 (l.length + 1) c7) w7 ∧
      Below V.heap.size V w5 ∧ Below V.heap.size V w7 ∧ Evs w7 (.slice A7 (l.length + 1) c7) (l ++ [⟨d, t, Aa, ca, bs⟩]) := by
  obtain ⟨i0, hi0, hz0, hz1, hz2⟩ := info_parts ev_info
  have r0 : RowS V1 43 3 none (.slice A0 0 0) 0 [] := ⟨_, 0, rfl, rfl, Nat.le_refl _, Nat.zero_le _, by simp, .inl ⟨rfl, rfl⟩⟩
  obtain ⟨v5, w5, g5, hrun5, hr5, hg5, hg5'⟩ := run_append_rowS (P := Try.prog) _ 22 22 22 43 i0 _ 3 40 Try.underlying22 hi0 hz0 hz1 hz2 rfl r0 _ l.length (evcs l) (h.below hbd).src (by simp only [maxLen]; omega) (by omega)
  obtain ⟨A5, c5, rfl, _⟩ := hr5.form
  simp only [Nat.zero_add, List.nil_append] at hrun5 hr5
  have hb5 : Below V.heap.size V w5 := hbd.grown hg5 hbd.size (by simp)
  have hf5 : ∀ b, g5 = some b → V.heap.size ≤ b := by
    intro b e
    rcases hg5' with e' | e'
    · rw [e'] at e; cases e
    · rw [e] at e'; cases e'; exact hbd.size
  have bq5 : Blk w5 q 43 #[.int .i64 d, .int .i64 t, .slice Aa bs.length ca] := bq.keep (hg5.block q bq.lt (by simp))
  have hsrc : Src Try.prog 3 22 (.slice (some ⟨q, 0, none⟩) 1 1) 1 (evc ⟨d, t, Aa, ca, bs⟩) w5 :=
    Src.ofSlice _ Try.underlying22 ⟨q, 0, none⟩ 1 1 (evc ⟨d, t, Aa, ca, bs⟩) rfl (fun j u hu => by rw [add_eq, Nat.zero_add, bq5.cell j, List.getElem?_toArray]; exact hu) (fun u hu => evcs_one [⟨d, t, Aa, ca, bs⟩] u (by simpa [evcs] using hu))
  obtain ⟨v7, w7, g7, hrun7, hr7, hg7, hg7'⟩ := run_append_rowS (P := Try.prog) _ 22 22 22 43 i0 _ 3 40 Try.underlying22 hi0 hz0 hz1 hz2 rfl hr5 _ 1 (evc ⟨d, t, Aa, ca, bs⟩) hsrc (by simp only [maxLen]; omega) (by omega)
  obtain ⟨A7, c7, rfl, hle7⟩ := hr7.form
  have hb7 : Below V.heap.size V w7 := hb5.grown hg7 hb5.size hf5
  refine ⟨A5, c5, w5, A7, c7, w7, hrun5, hrun7, hb5, hb7, ?_⟩
  refine ⟨by simp; omega, fun a ha => ?_, A7, c7, by simp, by simpa using hle7, fun hp => ?_⟩
  · rcases List.mem_append.1 ha with ha | ha
    · exact (h.below hb7).ok ha
    · rw [List.mem_singleton.1 ha]; exact he.keep fun b _ hlt => hb7.block b hlt
  · obtain ⟨b, o, c', e, _, _, hx⟩ := hr7.cells (by omega)
    injection e with e1 e2 e3
    refine ⟨b, o, e1, trivial, fun j a ha => ?_⟩
    rw [← evcs_snoc] at hx
    obtain ⟨x0, x1, x2⟩ := evcs_at ha
    exact ⟨hx _ _ x0, by rw [Nat.add_assoc]; exact hx _ _ x1, by rw [Nat.add_assoc]; exact hx _ _ x2⟩

/-- Bytes of events with one more behind. -/
theorem joins_more {l : List PE} {a : PE} : (trEnc (l ++ [a]) false).take (trEnc l false).length = trEnc l false ∧ (trEnc l false).length < (trEnc (l ++ [a]) false).length := by
  have e : trEnc (l ++ [a]) false = trEnc l false ++ enc1 (lastT 0 l) a := by simp [trEnc, fin, encs_snoc]
  have h := enc1_len (lastT 0 l) a
  rw [e]
  exact ⟨by simp, by rw [List.length_append]; omega⟩
theorem joins_end {l : List PE} : trEnc l true = trEnc l false ++ [3] := by simp [trEnc, fin]
theorem right_init {l : List PE} {a : PE} (h : Right 0 0 (l ++ [a])) : Right 0 0 l := by
  have := right_take l.length h
  rwa [List.take_left' rfl] at this
end Go.Proofs.Ytbaibabnfbjdeaa
