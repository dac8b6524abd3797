/-
  Slices of bytes as the model has them (bv), what string(b) is, and when two such strings are the same.
  Conditions: none.
-/
import Derived.Test.YteapcahpkapbbaaMem
import Derived.Test.YteapcahpkapbbaaProg
import Derived.Laws.BytesArg
import Derived.Lib.Hide
import Derived.Laws.Strings
import Derived.Lib.Walk
import Derived.LoopTactic
namespace Go.Proofs.Yteapcahpkapbbaa
open Go.RowKit

/-- Bytes as the model has them. -/
def bv (l : List Nat) : List Value := l.map fun c : Nat => .int .u8 (c : Int)
theorem bv_len (l : List Nat) : (bv l).length = l.length := by simp [bv]
theorem bv_one (l : List Nat) : ∀ u ∈ bv l, u.oneCell' = true := by
  intro u hu
  obtain ⟨c, _, rfl⟩ := List.mem_map.1 hu
  rfl
theorem bv_at (l : List Nat) (j : Nat) : (bv l)[j]? = (l[j]?).map fun c : Nat => .int .u8 (c : Int) := by simp [bv]
theorem bv_append (l m : List Nat) : bv (l ++ m) = bv l ++ bv m := by simp [bv]

theorem byte_info : (Try.prog.info? 5).map (fun i => (i.zero, i.size, i.bytes)) = some (some (.int .u8 0), 1, 1) := by kernel_rfl

theorem Rd.bytes {w : World} {A : Option Addr} {n c : Nat} {bs : List Nat} (h : Rd w (.slice A n c) (bv bs)) : n = bs.length := by
  obtain ⟨_, _, e, _⟩ := h
  injection e with _ e2 _
  rw [e2, bv_len]
theorem Rd.byteAt {w : World} {A : Option Addr} {n c : Nat} {bs : List Nat} (h : Rd w (.slice A n c) (bv bs)) {k : Nat} (hk : k < n) : ∃ b o d, A = some ⟨b, o, none⟩ ∧ w.cell? ⟨b, o + k, none⟩ = some (.int .u8 (d : Nat)) ∧ bs[k]? = some d := by
  have hn := h.bytes
  obtain ⟨A', c', e, _, _, hr⟩ := h
  injection e with e1 e2 e3
  subst e1 e3
  obtain ⟨b, o, rfl, hx⟩ := hr (by rw [bv_len]; omega)
  obtain ⟨d, hd⟩ : ∃ d, bs[k]? = some d := ⟨_, List.getElem?_eq_getElem (by omega)⟩
  exact ⟨b, o, d, rfl, hx k _ (by rw [bv_at, hd]; rfl), hd⟩
theorem Rd.kept {w w' : World} {v : Value} {xs : List Value} (h : Rd w v xs) (hb : Below w.heap.size w w') : Rd w' v xs := by
  obtain ⟨A, c, rfl, hle, h1, hr⟩ := h
  refine ⟨A, c, rfl, hle, h1, fun hp => ?_⟩
  obtain ⟨b, o, rfl, hx⟩ := hr hp
  exact ⟨b, o, rfl, fun j u hu => (hb.cell (p := ⟨b, o + j, none⟩) (World.block_lt_of_cell? w _ (hx j u hu))).trans (hx j u hu)⟩

/-- The string of these bytes. -/
def str (l : List Nat) : ByteArray := strOfNums (l.map fun c : Nat => (c : Int))

set_option maxRecDepth 100000 in
theorem run_str {w : World} {A : Option Addr} {n c : Nat} {l : List Nat} (h : Rd w (.slice A n c) (bv l)) : (convert 59 9 (.slice A n c)).run Try.prog w = .ok (.string (str l)) w := by
  have hn := h.bytes
  obtain ⟨A', c', e, _, _, hr⟩ := h
  injection e with e1 e2 e3
  subst e1 e3
  rcases Nat.eq_zero_or_pos n with h0 | h0
  · have hl : l = [] := List.eq_nil_of_length_eq_zero (by omega)
    subst hl
    subst h0
    cases A with
    | none => exact run_convert_bytes_nil w _ _ Try.underlying59 Try.underlying5 _ _ _ Try.underlying9
    | some a => 
      rw [run_convert_bytes_string w _ _ _ _ _ _ Try.underlying59 Try.underlying5 Try.underlying9, run_bytesToString w a 0 c [] (by simp [loadCells, loadCellsFrom])]
      rfl
  · obtain ⟨b, o, rfl, hx⟩ := hr (by rw [bv_len]; omega)
    refine run_convert_bytes_arg w _ _ Try.underlying59 Try.underlying5 b o n c (l.map fun c : Nat => (c : Int)) (by simp [hn]) (fun i hi => ?_) _ Try.underlying9
    have hi' : i < l.length := by omega
    rw [hx i (.int .u8 (l[i] : Nat)) (by rw [bv_at, List.getElem?_eq_getElem hi']; rfl)]
    simp [List.getD, hi']

theorem str_inj {l m : List Nat} (hl : ∀ d ∈ l, d < 256) (hm : ∀ d ∈ m, d < 256) (h : str l = str m) : l = m := by
  have h1 : (str l).data.toList = (str m).data.toList := by rw [h]
  unfold str at h1
  rw [strOfNums_data, strOfNums_data, List.map_map, List.map_map] at h1
  have key : ∀ (a : List Nat), (∀ d ∈ a, d < 256) → (a.map ((fun n : Int => UInt8.ofNat n.toNat) ∘ fun c : Nat => (c : Int))).map UInt8.toNat = a := by
    intro a ha
    induction a with
    | nil => rfl
    | cons d a ih =>
      have hd := ha d (by simp)
      simp only [List.map_cons, Function.comp, Int.toNat_natCast]
      rw [show (UInt8.ofNat d).toNat = d by simp; omega]
      congr 1
      exact ih fun x hx => ha x (by simp [hx])
  rw [← key l hl, ← key m hm, h1]
theorem str_beq {l m : List Nat} (hl : ∀ d ∈ l, d < 256) (hm : ∀ d ∈ m, d < 256) : ((str l).toList == (str m).toList) = decide (l = m) := by
  rw [Bool.eq_iff_iff]
  simp only [beq_iff_eq, decide_eq_true_eq, ByteArray.toList_eq]
  refine ⟨fun h => str_inj hl hm ?_, fun h => by rw [h]⟩
  cases e1 : str l
  cases e2 : str m
  rw [e1, e2] at h
  simp only [ByteArray.mk.injEq]
  exact Array.toList_inj.1 h
theorem str_bne {l m : List Nat} (hl : ∀ d ∈ l, d < 256) (hm : ∀ d ∈ m, d < 256) : ((str l).toList != (str m).toList) = !decide (l = m) := by
  rw [bne, str_beq hl hm]

end Go.Proofs.Yteapcahpkapbbaa
