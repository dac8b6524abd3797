/-
  A strings.Builder that nothing but empty texts was written to; Len; a builder by its bytes alone (BldS).
  Conditions: those of each theorem.
-/
import Derived.Test.YteapcahpkapbbaaBld
namespace Go.Proofs.Yteapcahpkapbbaa
open Go.RowKit

/-- A builder that holds nothing, and has no row. -/
def BldN (w : World) (b : Nat) : Prop := ∃ p, Blk w b 72 #[p, .slice none 0 0] ∧ (p = .pointer none ∨ p = .pointer (some ⟨b, 0, none⟩))
section
variable {w0 w w' : World} {b : Nat}
theorem BldN.new (w : World) : BldN (w.alloc (.cells #[.pointer none, .slice none 0 0] 72)) w.heap.size := ⟨_, Blk.new w _ _, .inl rfl⟩
theorem BldN.lt (h : BldN w b) : b < w.heap.size := by obtain ⟨p, h, _⟩ := h; exact h.lt
theorem BldN.below (h : BldN w b) (hb : Below w.heap.size w w') : BldN w' b := by
  obtain ⟨p, h, hp⟩ := h
  exact ⟨p, h.below hb h.lt, hp⟩
theorem BldN.bld (h : BldN w b) (h0 : w0.heap.size ≤ b) (hb : Below w0.heap.size w0 w) : Bld w0 w b none [] := by
  obtain ⟨p, h, hp⟩ := h
  exact ⟨p, none, 0, h, hp, h0, Row.nil _ _, by simp, hb⟩

set_option maxRecDepth 100000 in
set_option maxHeartbeats 1000000 in
theorem copyCheckN_is (h : BldN w b) :
    Calls Try.prog 37 #[.pointer (some ⟨b, 0, none⟩)] w fun e w' => e = .returned (.tuple #[]) ∧ BldN w' b ∧ Only (fun i => i = b) w w' := by
  obtain ⟨p, h1, h2⟩ := h
  obtain ⟨j, hj, hjs⟩ := Option.map_eq_some_iff.1 bld_size
  have hsh : w.shape? b = some (72, 2) := by
    have h1' := h1
    unfold Blk at h1'
    simp [World.shape?, h1']
  have c0 : w.cell? ⟨b, 0, none⟩ = some p := by rw [h1.cell]; rfl
  have f0 : w.frozen? ⟨b, 0, none⟩ = false := h1.frozen 0
  have HB := Lib.hid h1
  clear h1
  rcases h2 with rfl | rfl
  · go_enter Try.func37, Try.ntmps37
    go_wp2
    rw [Lib.run_to_unsafe w ⟨b, 0, none⟩ Try.underlying70 Try.underlying93 hj (by rw [hjs]; decide) hsh (Nat.zero_lt_succ 1)]
    simp only [Result.andThen]
    rw [Oper.upon_value]
    go_wp2
    rw [run_callFunc_extern Try.func43 (by kernel_rfl) (by kernel_rfl) (by kernel_rfl) (e := Extern.AbiNoEscape.same) (by kernel_rfl)]
    rw [Lib.run_noEscape]
    simp only [Result.andThen]
    rw [Oper.upon_value]
    go_wp2
    rw [Lib.run_from_unsafe w ⟨b, 0, none⟩ Try.underlying93 Try.underlying70 hj hsh bld_lies]
    simp only [Result.andThen]
    rw [Oper.upon_value]
    go_wp2
    go_end0
    exact ⟨rfl, ⟨_, HB.out.set_ 0 _, .inr rfl⟩, (Only.refl (fun i => i = b) w).setCell (p := ⟨b, 0, none⟩) (.inl rfl) _⟩
  · go_enter Try.func37, Try.ntmps37
    go_wp2
    rw [Lib.run_neq_ptr_same w _ Try.underlying70 hj]
    go_wp2
    go_end0
    exact ⟨rfl, ⟨_, HB.out, .inr rfl⟩, Only.refl _ _⟩

set_option maxRecDepth 100000 in
/-- Nothing, put behind nothing. -/
theorem run_append_nothing (ty : TypeId) (W : World) : (Builtin.append_ #[59, 9] ty #[.slice none 0 0, .string ⟨#[]⟩]).run Try.prog W = .ok (.slice none 0 0) W := by
  obtain ⟨i0, hi, hz0, hz1, hz2⟩ := info_parts byte_info
  simp [Builtin.append_, run_underlying Try.underlying59, run_underlying Try.underlying9, sizeOf, typeInfo, hi, hz1, Builtin.lenOf, Builtin.firstCells, Result.andThen]
  rw [if_pos (by rfl)]
  rfl

set_option maxRecDepth 100000 in
set_option maxHeartbeats 2000000 in
theorem WriteNil_is (h : BldN w b) :
    Calls Try.prog 30 #[.pointer (some ⟨b, 0, none⟩), .string ⟨#[]⟩] w fun e w' => e = .returned (.tuple #[.int .i64 0, .nilIface]) ∧ BldN w' b ∧ Only (fun i => i = b) w w' := by
  have HC := Lib.hid (copyCheckN_is h)
  clear h
  go_enter Try.func30, Try.ntmps30
  go_wp2_with fail
  refine HC.out.mono ?_
  rintro e w1 ⟨rfl, ⟨p, h1, hp⟩, hO⟩
  have c1 : w1.cell? ⟨b, 1, none⟩ = some (.slice none 0 0) := by rw [h1.cell]; rfl
  have f1 : w1.frozen? ⟨b, 1, none⟩ = false := h1.frozen 1
  have hrun := fun ty => run_append_nothing ty w1
  have X := Lib.hid (And.intro h1 (And.intro hp hO))
  clear h1 hp hO HC
  go_wp2_with fail
  go_ret2
  obtain ⟨h1, hp, hO⟩ := X.out
  exact ⟨rfl, ⟨p, by have := h1.set_ 1 (.slice none 0 0); simpa using this, hp⟩, hO.setCell (.inl rfl) _⟩

set_option maxRecDepth 100000 in
set_option maxHeartbeats 2000000 in
theorem StringNil_is (h : BldN w b) :
    Calls Try.prog 31 #[.pointer (some ⟨b, 0, none⟩)] w fun e w' => e = .returned (.string (str [])) ∧ Below w.heap.size w w' := by
  obtain ⟨p, h, _⟩ := h
  have c1 : w.drew.cell? ⟨b, 1, none⟩ = some (.slice none 0 0) := by
    show w.cell? _ = _
    rw [h.cell]; rfl
  have hSD : (Builtin.unsafeSliceData_ #[59] 87 #[.slice none 0 0]).run Try.prog w.drew = .ok (.pointer none) w.drew := Lib.run_unsafeSliceData_nil _ _ _ _ _
  have hUS : (Builtin.unsafeString_ #[87, 3] 9 #[.pointer none, .int .i64 0]).run Try.prog w.drew = .ok (.string .empty) w.drew := Lib.run_unsafeString_none _ _ _ _ _
  have HF : Hid (Below w.heap.size w w.drew) := Lib.hid ⟨rfl, rfl, rfl, Nat.le_refl _, fun _ _ => rfl⟩
  clear h
  go_enter Try.func31, Try.ntmps31
  go_wp2
  go_region
  all_goals
    go_wp2
    go_ret
    exact ⟨rfl, HF.out⟩
end
set_option maxRecDepth 100000 in
set_option maxHeartbeats 2000000 in
theorem Len_is {w0 w : World} {b : Nat} {g : Option Nat} {l : List Nat} (h : Bld w0 w b g l) :
    Calls Try.prog 29 #[.pointer (some ⟨b, 0, none⟩)] w fun e w' => e = .returned (.int .i64 (l.length : Nat)) ∧ w = w' := by
  obtain ⟨p, A, c, h1, h2, h3, h4⟩ := h
  have c1 : w.cell? ⟨b, 1, none⟩ = some (.slice A l.length c) := by rw [h1.cell]; rfl
  clear h1 h2 h3 h4
  go_enter Try.func29, Try.ntmps29
  go_wp2
  go_ret
  exact ⟨rfl, rfl⟩

/-! ### A builder by its bytes alone -/
/-- A builder of one's own in block b (all of it since w0), whatever was written to it. -/
def BldS (w0 w : World) (b : Nat) (l : List Nat) : Prop := w0.heap.size ≤ b ∧ Below w0.heap.size w0 w ∧ ((l = [] ∧ BldN w b) ∨ (l ≠ [] ∧ ∃ g, Bld w0 w b g l))
section
variable {w0 w w' : World} {b : Nat} {l : List Nat}
theorem BldS.bel (h : BldS w0 w b l) : Below w0.heap.size w0 w := h.2.1
theorem BldS.new (w : World) : BldS w (w.alloc (.cells #[.pointer none, .slice none 0 0] 72)) w.heap.size [] :=
  ⟨Nat.le_refl _, (Below.refl _ w).alloc (Nat.le_refl _) _, .inl ⟨rfl, BldN.new w⟩⟩
theorem BldS.below (h : BldS w0 w b l) (hb : Below w.heap.size w w') : BldS w0 w' b l := by
  obtain ⟨h1, h2, h3⟩ := h
  refine ⟨h1, h2.trans (hb.mono h2.size), ?_⟩
  rcases h3 with ⟨e, h⟩ | ⟨e, g, h⟩
  · exact .inl ⟨e, h.below hb⟩
  · exact .inr ⟨e, g, h.below hb⟩
theorem BldS.bld (h : BldS w0 w b l) : ∃ g, Bld w0 w b g l := by
  obtain ⟨h1, h2, h3⟩ := h
  rcases h3 with ⟨rfl, h⟩ | ⟨e, g, h⟩
  · exact ⟨none, h.bld h1 h2⟩
  · exact ⟨g, h⟩
theorem sLen_is (h : BldS w0 w b l) : Calls Try.prog 29 #[.pointer (some ⟨b, 0, none⟩)] w fun e w' => e = .returned (.int .i64 (l.length : Nat)) ∧ w = w' := by
  obtain ⟨g, h⟩ := h.bld
  exact Len_is h
theorem sWriteString_is (h : BldS w0 w b l) (m : List Nat) (hm : ∀ d ∈ m, d < 256) (hl : l.length + m.length ≤ 140737488355327) :
    Calls Try.prog 30 #[.pointer (some ⟨b, 0, none⟩), .string (str m)] w fun e w' => e = .returned (.tuple #[.int .i64 (m.length : Nat), .nilIface]) ∧ BldS w0 w' b (l ++ m) := by
  by_cases hn : l ++ m = []
  · obtain ⟨rfl, rfl⟩ := List.append_eq_nil_iff.1 hn
    obtain ⟨h1, h2, h3⟩ := h
    have h4 : BldN w b := by
      rcases h3 with ⟨_, h⟩ | ⟨e, _⟩
      · exact h
      · exact absurd rfl e
    refine (WriteNil_is h4).mono ?_
    rintro e w' ⟨rfl, h5, hO⟩
    exact ⟨rfl, h1, hO.more' h2 (fun i hi e => by omega), .inl ⟨rfl, h5⟩⟩
  · obtain ⟨g, hb⟩ := h.bld
    refine (WriteString_is hb m hm hl).mono ?_
    rintro e w' ⟨rfl, g', hb', hO, _⟩
    exact ⟨rfl, h.1, hb'.bel, .inr ⟨hn, g', hb'⟩⟩
theorem sString_is (h : BldS w0 w b l) (hl : ∀ c ∈ l, c < 256) (hn : l.length ≤ 140737488355327) :
    Calls Try.prog 31 #[.pointer (some ⟨b, 0, none⟩)] w fun e w' => e = .returned (.string (str l)) ∧ Below w0.heap.size w0 w' := by
  obtain ⟨h1, h2, h3⟩ := h
  rcases h3 with ⟨rfl, h⟩ | ⟨e, g, h⟩
  · refine (StringNil_is h).mono ?_
    rintro e w' ⟨rfl, hb⟩
    exact ⟨rfl, h2.trans (hb.mono h2.size)⟩
  · exact String_is h hl e hn
end
end Go.Proofs.Yteapcahpkapbbaa
