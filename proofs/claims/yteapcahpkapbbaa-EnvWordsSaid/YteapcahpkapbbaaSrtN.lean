/-
  slices.Sort over texts in plain lists: what it leaves of a row of texts.
  Conditions: bytes.
-/
import Derived.Test.YteapcahpkapbbaaStrI
import Derived.Test.YteapcahpkapbbaaBld
import Derived.Test.YteapcahpkapbbaaShelf
import Derived.Sort.OwnSorted
namespace Go.Proofs.Yteapcahpkapbbaa
open Go.RowKit Go.Sort

/-- A text's bytes. -/
def u8s (x : List Nat) : List UInt8 := x.map fun c => UInt8.ofNat c
theorem enc_u8 (x : List Nat) : encStr (u8s x) = .string (str x) := by
  show Value.string ⟨(u8s x).toArray⟩ = _
  rw [u8s, str_toList]
theorem u8_lt : ∀ {a b : List Nat}, (∀ c ∈ a, c < 256) → (∀ c ∈ b, c < 256) → (u8s a < u8s b ↔ lessN a b = true)
  | a, [], _, _ => by cases a <;> simp [u8s, lessN]
  | [], y :: b, _, _ => by simp [u8s, lessN]
  | x :: a, y :: b, ha, hb => by
    have hx := ha x (by simp)
    have hy := hb y (by simp)
    have ih := u8_lt (a := a) (b := b) (fun c h => ha c (by simp [h])) (fun c h => hb c (by simp [h]))
    show (UInt8.ofNat x :: u8s a < UInt8.ofNat y :: u8s b) ↔ _
    rw [List.cons_lt_cons_iff, ih, lessN]
    have e1 : (UInt8.ofNat x < UInt8.ofNat y) ↔ x < y := by rw [UInt8.lt_iff_toNat_lt]; simp; omega
    have e2 : (UInt8.ofNat x = UInt8.ofNat y) ↔ x = y := by
      constructor
      · intro h; have := congrArg UInt8.toNat h; simp at this; omega
      · rintro rfl; rfl
    rw [e1, e2]
    simp
theorem u8_le {a b : List Nat} (ha : ∀ c ∈ a, c < 256) (hb : ∀ c ∈ b, c < 256) : u8s a ≤ u8s b ↔ lessN b a = false := by
  rw [← List.not_lt, u8_lt hb ha]
  simp
theorem ins_perm (l : List (List Nat)) (n : List Nat) : (insN l n).Perm (n :: l) := by
  induction l with
  | nil => exact List.Perm.refl _
  | cons a t ih =>
    rw [insN]
    split
    · exact List.Perm.refl _
    · exact (List.Perm.cons a ih).trans (List.Perm.swap n a t)
theorem sort_perm (l : List (List Nat)) : (sortN l).Perm l := by
  have gen : ∀ (l o : List (List Nat)), (l.foldl insN o).Perm (o ++ l) := by
    intro l
    induction l with
    | nil => intro o; simp
    | cons a t ih =>
      intro o
      rw [List.foldl_cons]
      refine (ih _).trans ?_
      refine ((ins_perm o a).append_right t).trans ?_
      exact List.perm_middle.symm
  have := gen l []
  simpa [sortN] using this
/-- What the library's sort makes of texts. -/
theorem merge_u8 {xs : List (List Nat)} (h : ∀ x ∈ xs, ∀ c ∈ x, c < 256) : ((xs.map u8s).mergeSort fun x y => decide (x ≤ y)) = (sortN xs).map u8s := by
  have tr : ∀ a b c : List UInt8, decide (a ≤ b) = true → decide (b ≤ c) = true → decide (a ≤ c) = true := fun a b c h1 h2 => by simp only [decide_eq_true_eq] at *; exact List.le_trans h1 h2
  have tot : ∀ a b : List UInt8, (decide (a ≤ b) || decide (b ≤ a)) = true := fun a b => by simp only [Bool.or_eq_true, decide_eq_true_eq]; exact List.le_total a b
  have hs : ∀ x ∈ sortN xs, ∀ c ∈ x, c < 256 := fun x hx => h x (sort_mem.1 hx)
  refine List.Perm.eq_of_pairwise (le := fun a b => decide (a ≤ b) = true) (fun a b _ _ h1 h2 => ?_) (List.pairwise_mergeSort tr tot _) ?_ ((List.mergeSort_perm _ _).trans ((sort_perm xs).map u8s).symm)
  · simp only [decide_eq_true_eq] at h1 h2
    exact List.le_antisymm h1 h2
  · refine List.pairwise_map.2 ((sort_order xs).imp_of_mem fun {a b} ha hb hab => ?_)
    simp only [decide_eq_true_eq]
    exact (u8_le (hs a ha) (hs b hb)).2 hab
theorem sort_of_perm {l m : List (List Nat)} (hm : m.Nodup) (h : l.Perm m) : sortN l = sortN m :=
  order_same (sort_strict (h.nodup_iff.2 hm)) (sort_strict hm) fun x => by rw [sort_mem, sort_mem]; exact h.mem_iff

theorem put_at {cs : Array Value} {o j : Nat} {xs : List (List Nat)} {u : Value} (hsz : o + xs.length ≤ cs.size) (hu : (sv xs)[j]? = some u) : (putCells encStr o (xs.map u8s).toArray cs)[o + j]? = some u := by
  have hj := (List.getElem?_eq_some_iff.1 hu).1
  rw [sv_len] at hj
  have e : (sv xs)[j]? = some (.string (str xs[j])) := by simp [sv, hj]
  rw [e] at hu
  injection hu with hu
  subst hu
  unfold putCells
  rw [Array.getElem?_mapIdx, Array.getElem?_eq_getElem (by omega)]
  simp only [Option.map_some, List.size_toArray, List.length_map, Nat.le_add_right, true_and, Nat.add_sub_cancel_left]
  rw [if_pos (by omega)]
  congr 1
  rw [← enc_u8]
  congr 1
  simp [hj]

/-- slices.Sort of a row of texts that is one's own. -/
theorem Sort_is {w : World} {g : Option Nat} {A : Option Addr} {c : Nat} {xs : List (List Nat)} (h : Row w 9 g (.slice A xs.length c) (sv xs)) (hb : ∀ x ∈ xs, ∀ k ∈ x, k < 256) (hl : xs.length ≤ 1000) :
    Calls Try.prog 39 #[.slice A xs.length c] w fun e w' => e = .returned (.tuple #[]) ∧ Row w' 9 g (.slice A xs.length c) (sv (sortN xs)) ∧ w.grownBy w' g := by
  obtain ⟨A', c', e', hle, hcm, hone, hg⟩ := h
  rw [sv_len] at hle e'
  injection e' with e1 e2 e3
  subst e1 e3
  cases hxs : xs with
  | nil =>
    refine (Try.slices_Sort_string_none A c w).mono ?_
    rintro e w' ⟨rfl, rfl⟩
    subst hxs
    refine ⟨rfl, ⟨A, c, rfl, Nat.zero_le _, hcm, by simp [sv, sortN], hg⟩, ⟨rfl, rfl, rfl, Nat.le_refl _, fun _ _ _ => rfl⟩⟩
  | cons x0 t =>
    rw [← hxs]
    have hpos : 0 < xs.length := by rw [hxs]; simp
    rcases hg with ⟨h0, _⟩ | ⟨b, o, cs, hc, rfl, rfl, hblk, hfit, hx⟩
    · omega
    have hlt : b < w.heap.size := (Array.getElem?_eq_some_iff.1 hblk).1
    have hH : Holds encStr w b o (xs.map u8s).toArray := by
      intro j hj
      have hj' : j < xs.length := by simpa using hj
      refine ⟨?_, by simp [World.frozen?, hblk]⟩
      have e : (sv xs)[j]? = some (.string (str xs[j])) := by simp [sv, hj']
      rw [cell_of_row w b (o + j) cs _ (0, 0) hblk, hx j _ e, ← enc_u8]
      congr 2
      simp [hj']
    have hS := Try.slices_Sort_string b o c (xs.map u8s) w hH hlt (by rw [List.length_map]; omega)
    rw [List.length_map, merge_u8 hb] at hS
    refine hS.mono ?_
    rintro e w' ⟨rfl, n, os, rfl⟩
    have hsz : (sortN xs).length = xs.length := sort_len xs
    refine ⟨rfl, ⟨_, c, by rw [sv_len, hsz], by rw [sv_len, hsz]; exact hle, hcm, sv_one _, .inr ⟨b, o, putCells encStr o ((sortN xs).map u8s).toArray cs, hc, rfl, rfl, ?_, by simp [putCells]; exact hfit, fun j u hu => put_at (by rw [hsz]; omega) hu⟩⟩, ?_⟩
    · rw [heap_grow_old _ _ (by simpa using hlt)]
      simp [putRow, mapBlock, Sort.ahead, Array.getElem?_modify, hblk, onCells]
    · refine ⟨rfl, rfl, rfl, by simp, fun k hk hne => ?_⟩
      rw [heap_grow_old _ _ (by simpa using hk)]
      have : b ≠ k := fun e => hne (by rw [e])
      simp [putRow, mapBlock, Sort.ahead, Array.getElem?_modify, this]
end Go.Proofs.Yteapcahpkapbbaa
