/-
  Turns of events: how many, and their bytes; t[:k] of turns.
  Conditions: none.
-/
import Derived.Test.YtchfiiiippnigaaTnEvents
namespace Go.Proofs.Ytchfiiiippnigaa
open Go.RowKit

/-- How many bytes turns' events have. -/
theorem whole_tevs (t : List Tn) : whole (tevs t) = (outs t).length + (inns t).length := by
  induction t with
  | nil => rfl
  | cons b t ih =>
    have h1 : whole (tevs1 b) = b.out.length + b.inn.length := by
      unfold tevs1
      by_cases ho : b.out = [] <;> by_cases hi : b.inn = [] <;> simp [ho, hi, whole]
    have e1 : outs (b :: t) = b.out ++ outs t := by simp [outs]
    have e2 : inns (b :: t) = b.inn ++ inns t := by simp [inns]
    rw [tevs_cons, whole_append, h1, ih, e1, e2, List.length_append, List.length_append]
    omega
/-- Turns of events have no more bytes, and no others. -/
theorem turns_small {w : World} {v : Value} {L : List Ev} (h : Evs w v L) (hw : L.length + whole (pes L) ≤ 1048576) : TnBytes (turns (pes L)) ∧ (turns (pes L)).length ≤ 1048576 ∧ (outs (turns (pes L))).length ≤ 1048576 ∧ (inns (turns (pes L))).length ≤ 1048576 := by
  have ho : (outs (turns (pes L))).length ≤ 1048576 := by rw [turns_outs]; have := byts_le 0 (pes L); omega
  have hi : (inns (turns (pes L))).length ≤ 1048576 := by rw [turns_inns]; have := byts_le 1 (pes L); omega
  have hb : ∀ (d : Int) b, b ∈ byts d (pes L) → b < 256 := by
    intro d b hb
    unfold byts pes at hb
    simp only [List.mem_flatMap, List.mem_map] at hb
    obtain ⟨p, ⟨a, ha, rfl⟩, hb⟩ := hb
    split at hb
    · exact (h.ok ha).byte b hb
    · cases hb
  have hmem : ∀ x ∈ turns (pes L), (∀ b ∈ x.out, b ∈ outs (turns (pes L))) ∧ ∀ b ∈ x.inn, b ∈ inns (turns (pes L)) := fun x hx => ⟨fun b hb => List.mem_flatMap.2 ⟨x, hx, hb⟩, fun b hb => List.mem_flatMap.2 ⟨x, hx, hb⟩⟩
  refine ⟨fun x hx => ⟨fun b hb' => hb 0 b (by rw [← turns_outs]; exact (hmem x hx).1 b hb'), fun b hb' => hb 1 b (by rw [← turns_inns]; exact (hmem x hx).2 b hb')⟩, ?_, ho, hi⟩
  have hs := turns_sound (pes L)
  have : ∀ t : List Tn, (∀ x ∈ t, x.out ≠ [] ∨ x.inn ≠ []) → t.length ≤ (outs t).length + (inns t).length := by
    intro t
    induction t with
    | nil => intro _; simp
    | cons b t ih =>
      intro h
      have h1 := ih fun x hx => h x (List.mem_cons_of_mem _ hx)
      have e1 : outs (b :: t) = b.out ++ outs t := by simp [outs]
      have e2 : inns (b :: t) = b.inn ++ inns t := by simp [inns]
      rw [e1, e2, List.length_append, List.length_append, List.length_cons]
      rcases h b (by simp) with k | k
      · have := List.length_pos_iff.2 k; omega
      · have := List.length_pos_iff.2 k; omega
  have h2 := this _ hs.any
  have h3 : (outs (turns (pes L))).length + (inns (turns (pes L))).length ≤ whole (pes L) := by
    rw [turns_outs, turns_inns]
    have : ∀ l : List PE, (byts 0 l).length + (byts 1 l).length ≤ whole l := by
      intro l
      induction l with
      | nil => simp [byts, whole]
      | cons a l ih =>
        rw [byts_cons, byts_cons, whole_cons, List.length_append, List.length_append]
        by_cases h0 : a.dir = 0
        · rw [if_pos h0, if_neg (by omega)]; simp; omega
        · rw [if_neg h0]
          by_cases h1 : a.dir = 1
          · rw [if_pos h1]; simp; omega
          · rw [if_neg h1]; simp; omega
    exact this _
  omega
theorem tevs_few (t : List Tn) : (tevs t).length ≤ (outs t).length + (inns t).length := by
  induction t with
  | nil => simp [tevs]
  | cons b t ih =>
    have e1 : outs (b :: t) = b.out ++ outs t := by simp [outs]
    have e2 : inns (b :: t) = b.inn ++ inns t := by simp [inns]
    have h1 : (tevs1 b).length ≤ b.out.length + b.inn.length := by
      unfold tevs1
      by_cases ho : b.out = [] <;> by_cases hi : b.inn = []
      · simp [ho, hi]
      · have := List.length_pos_iff.2 hi; simp [ho, hi]; omega
      · have := List.length_pos_iff.2 ho; simp [ho, hi]; omega
      · have := List.length_pos_iff.2 hi; have := List.length_pos_iff.2 ho; simp [ho, hi]; omega
    rw [tevs_cons, e1, e2, List.length_append, List.length_append, List.length_append]
    omega
theorem outs_take (t : List Tn) (k : Nat) : (outs (t.take k)).length ≤ (outs t).length := by
  have h2 := congrArg (fun t => (outs t).length) (List.take_append_drop k t)
  simp only [outs_append, List.length_append] at h2
  omega
theorem inns_take (t : List Tn) (k : Nat) : (inns (t.take k)).length ≤ (inns t).length := by
  have h2 := congrArg (fun t => (inns t).length) (List.take_append_drop k t)
  simp only [inns_append, List.length_append] at h2
  omega
/-- t[:k] of turns, under one name. -/
theorem run_upto_T {S : Nat → Prop} {w : World} {A : Option Addr} {n c k : Nat} {t : List Tn} (h : TnsIn S w (.slice A n c) t) (hk : k ≤ n) :
    ∃ A', (∀ W, (Instr.slice 24 (.slice A n c) none (some (.int .i64 (k : Int))) none).run Try.prog W = .ok (.slice A' k c) W) ∧ TnsIn S w (.slice A' k c) (t.take k) := by
  have hn := h.n
  obtain ⟨A', c', e, hle, hr⟩ := h
  injection e with e1 e2 e3
  subst e1 e3
  have hl : (t.take k).length = k := by rw [List.length_take]; omega
  refine ⟨if c = 0 then A else A.map (·.add 0), fun W => ?_, ?_⟩
  · obtain ⟨i0, hi0, hz0, hz1, hz2⟩ := info_parts tn_info
    have hs : (sizeOf (Try.prog.elem 24)).run Try.prog W = .ok 2 W := by
      rw [show Try.prog.elem 24 = 33 by kernel_rfl]
      simp [sizeOf, typeInfo, hi0, hz1]
    rw [run_slice_h W 24 A n c (by kernel_rfl) .i64 (k : Int) (by omega) (by omega), hs]
    simp only [Result.andThen, Int.toNat_natCast, sliced, Nat.zero_mul, Nat.sub_zero]
  · refine ⟨_, c, by rw [hl], by omega, fun hp => ?_⟩
    obtain ⟨b, o, rfl, hb, hx⟩ := hr (by omega)
    refine ⟨b, o, ?_, hb, fun j x hj => ?_⟩
    · split
      · rfl
      · simp [add_eq]
    · rw [List.getElem?_take] at hj
      split at hj
      · exact hx j x hj
      · cases hj
end Go.Proofs.Ytchfiiiippnigaa
