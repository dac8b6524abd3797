/-
  l[:k] of a list of events, under one name; how many events and bytes there are each way.
  Conditions: none.
-/
import Derived.Test.YtakcoplpmhgoiaaEMerged
namespace Go.Proofs.Ytakcoplpmhgoiaa
open Go.RowKit

theorem ev_size (W : World) : (sizeOf (Try.prog.elem 22)).run Try.prog W = .ok 3 W := by
  obtain ⟨i0, hi0, hz0, hz1, hz2⟩ := info_parts ev_info
  rw [show Try.prog.elem 22 = 25 by kernel_rfl]
  simp [sizeOf, typeInfo, hi0, hz1]
theorem EvsIn.take {S : Nat → Prop} {w : World} {A : Option Addr} {n c k : Nat} {L : List Ev} (h : EvsIn S w (.slice A n c) L) (hk : k ≤ n) : EvsIn S w (.slice A k c) (L.take k) := by
  have hn := h.n
  have hc := h.cap
  obtain ⟨hm, ho, A', c', e, hle, hr⟩ := h
  injection e with e1 e2 e3
  subst e1 e3
  have hl : (L.take k).length = k := by simp; omega
  refine ⟨by omega, fun a ha => ho a (List.mem_of_mem_take ha), A, c, by rw [hl], by omega, fun hp => ?_⟩
  obtain ⟨b, o, rfl, hS, hx⟩ := hr (by omega)
  refine ⟨b, o, rfl, hS, fun j a ha => hx j a ?_⟩
  rw [List.getElem?_take] at ha
  split at ha
  · exact ha
  · cases ha
/-- l[:k], under one name. -/
theorem run_firstE {S : Nat → Prop} {w : World} {A : Option Addr} {n c k : Nat} {L : List Ev} (h : EvsIn S w (.slice A n c) L) (hk : k ≤ n) :
    ∃ A', (∀ W, (Instr.slice 22 (.slice A n c) none (some (.int .i64 (k : Int))) none).run Try.prog W = .ok (.slice A' k c) W) ∧ EvsIn S w (.slice A' k c) (L.take k) := by
  refine ⟨if c = 0 then A else A.map (·.add 0), fun W => ?_, ?_⟩
  · have hle := h.cap
    rw [run_slice_h W 22 A n c (by kernel_rfl) .i64 (k : Int) (by omega) (by omega), ev_size W]
    simp only [Result.andThen, Int.toNat_natCast, sliced, Nat.zero_mul, Nat.sub_zero]
  · have h1 := h.take hk
    obtain ⟨hm, ho, A', c', e, hle, hr⟩ := h1
    injection e with e1 e2 e3
    subst e1 e3
    refine ⟨hm, ho, _, _, by rw [← e2], hle, fun hp => ?_⟩
    obtain ⟨b, o, rfl, hS, hx⟩ := hr hp
    refine ⟨b, o, ?_, hS, hx⟩
    split
    · rfl
    · simp [add_eq]
theorem pes_takeL (L : List Ev) (k : Nat) : pes (L.take k) = (pes L).take k := by simp [pes, List.map_take]

/-- How many events, and bytes, the first j directions have. -/
def cnt (ps : List PE) : Nat → Nat
  | 0 => 0
  | j + 1 => cnt ps j + (fil (j : Int) ps).length
def byl (ps : List PE) : Nat → Nat
  | 0 => 0
  | j + 1 => byl ps j + (byts (j : Int) ps).length
/-- How many events have no direction. -/
def oth (ps : List PE) : Nat := (ps.filter fun a => decide (a.dir ≠ 0 ∧ a.dir ≠ 1)).length
theorem whole_fil (d : Int) : ∀ ps : List PE, whole (fil d ps) = (byts d ps).length
  | [] => rfl
  | a :: ps => by
    have ih := whole_fil d ps
    rw [byts_cons, List.length_append, ← ih]
    by_cases e : a.dir = d
    · simp [fil, whole, e]
    · simp [fil, whole, e]
theorem cnt_all : ∀ ps : List PE, cnt ps 2 + oth ps = ps.length
  | [] => rfl
  | a :: ps => by
    have ih := cnt_all ps
    simp only [cnt, oth, fil] at ih ⊢
    rw [List.length_cons, ← ih]
    by_cases e0 : a.dir = 0
    · simp [e0]; omega
    · by_cases e1 : a.dir = 1
      · simp [e1]; omega
      · simp [e0, e1]; omega
theorem oth_next {L : List Ev} {k : Nat} {d t : Int} {Aa : Option Addr} {ca : Nat} {bs : List Nat} (h : L[k]? = some ⟨d, t, Aa, ca, bs⟩) : oth ((pes L).take (k + 1)) = oth ((pes L).take k) + (if d ≠ 0 ∧ d ≠ 1 then 1 else 0) := by
  rw [pes_take h, oth, List.filter_append, List.length_append]
  congr 1
  by_cases e : d ≠ 0 ∧ d ≠ 1
  · rw [if_pos e]; simp [Ev.pe, e]
  · rw [if_neg e, List.length_eq_zero_iff, List.filter_eq_nil_iff]
    intro a ha
    rw [List.mem_singleton.1 ha]
    exact fun h => e (of_decide_eq_true h)
theorem oth_le (ps : List PE) : oth ps ≤ ps.length := List.length_filter_le _ _
theorem cnt_le (ps : List PE) : ∀ j, cnt ps j ≤ j * ps.length
  | 0 => by simp [cnt]
  | j + 1 => by
    have h1 := cnt_le ps j
    have h2 := List.length_filter_le (fun a : PE => decide (a.dir = (j : Int))) ps
    unfold cnt fil
    rw [Nat.add_mul]
    omega
theorem byl_le (ps : List PE) : ∀ j, byl ps j ≤ j * whole ps
  | 0 => by simp [byl]
  | j + 1 => by
    have h1 := byl_le ps j
    have h2 := byts_le (j : Int) ps
    unfold byl
    rw [Nat.add_mul]
    omega
end Go.Proofs.Ytakcoplpmhgoiaa
