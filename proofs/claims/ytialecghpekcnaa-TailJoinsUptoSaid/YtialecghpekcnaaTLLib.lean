/-
  bytes.Clone, slices.Reverse of bytes in a row of their own, slices.Max of numbers: their contracts.
  Conditions: at most 1048576 things; Max of one at least.
-/
import Derived.Test.YtialecghpekcnaaTLMath2
import Derived.Test.YtialecghpekcnaaRowSet
namespace Go.Proofs.Ytialecghpekcnaa
open Go.RowKit

set_option maxRecDepth 100000 in
theorem BClone_is (A : Option Addr) (n c : Nat) (l : List Nat) (w : World) (h : Rd w (.slice A n c) (bv l)) (hn : n ≤ 1048576) :
    Calls Try.prog 16 #[.slice A n c] w fun e w' => ∃ B d, e = .returned (.slice B l.length d) ∧ BytI w (.slice B l.length d) l w' := by
  obtain ⟨i0, hi0, hz0, hz1, hz2⟩ := info_parts byte_info
  have hl := h.bytes
  subst hl
  have hnil := fun W => Lib.run_eql_slice_nil (P := Try.prog) W 22 5 A l.length c 0 0 Try.underlying22
  cases A with
  | none =>
    have hl : l = [] := by
      obtain ⟨A', c', e, _, _, hr⟩ := h
      injection e with e1 e2 e3
      rcases Nat.eq_zero_or_pos l.length with h0 | h0
      · exact List.eq_nil_of_length_eq_zero h0
      · obtain ⟨b, o, e4, _⟩ := hr (by rw [bv_len]; exact h0)
        rw [← e1] at e4; cases e4
    subst hl
    simp only [List.length_nil] at hnil ⊢
    clear h
    go_enter Try.func16, Try.ntmps16
    go_wp2
    go_ret
    exact ⟨none, 0, rfl, none, Row.nil _ _, by simp, Below.refl _ _⟩
  | some a =>
    have H := Lib.hid h
    clear h
    go_enter Try.func16, Try.ntmps16
    go_wp2_with (at_builtin; refine wpList_append_row _ rfl (.tmp 5) (.tmp 6) _ rfl 5 i0 _ 1 Try.underlying22 hi0 hz0 hz1 hz2 rfl none _ [] rfl (Row.empty _ _ _) _ (bv l) rfl (H.out.alloc _) (by rw [bv_len]; simp only [maxLen, List.length_nil]; omega) (by rw [bv_len]; simp only [List.length_nil]; omega) ?_; intro B' d' w7 gn hrow' hgr hgn; simp only [bv_len, List.length_nil, Nat.zero_add, List.nil_append] at hrow' ⊢; have Y := Lib.hid (And.intro hrow' (And.intro hgr hgn)); clear hrow' hgr hgn)
    go_ret
    obtain ⟨y1, y2, y3⟩ := Y.out
    refine ⟨B', d', rfl, gn, y1, ?_, ((Below.refl _ w).alloc (Nat.le_refl _) _).grown y2 (by simp) (by simp)⟩
    intro b e
    rcases y3 with rfl | rfl
    · cases e
    · simp at e; omega

/-- Between two rounds: so many bytes at both ends have changed places. -/
def Turning (l L : List Nat) (i : Nat) : Prop := L.length = l.length ∧ ∀ k, k < l.length → L[k]? = if k < i ∨ l.length ≤ k + i then l[l.length - 1 - k]? else l[k]?
theorem Turning.zero (l : List Nat) : Turning l l 0 := ⟨rfl, fun k hk => by rw [if_neg (by omega)]⟩
theorem Turning.done {l L : List Nat} {i : Nat} (h : Turning l L i) (hi : l.length ≤ 2 * i + 1) : L = l.reverse := by
  refine List.ext_getElem? fun k => ?_
  by_cases hk : k < l.length
  · rw [h.2 k hk, List.getElem?_reverse hk]
    split
    · rfl
    · next hn => congr 1; omega
  · rw [List.getElem?_eq_none (by have := h.1; omega), List.getElem?_eq_none (by rw [List.length_reverse]; omega)]
theorem Turning.at_ {l L : List Nat} {i : Nat} (h : Turning l L i) (hi : 2 * i + 1 < l.length) : ∃ x y, L[i]? = some x ∧ L[l.length - 1 - i]? = some y ∧ Turning l ((L.set i y).set (l.length - 1 - i) x) (i + 1) := by
  have hl := h.1
  have h1 := h.2 i (by omega)
  have h2 := h.2 (l.length - 1 - i) (by omega)
  rw [if_neg (by omega)] at h1 h2
  obtain ⟨x, hx⟩ : ∃ x, L[i]? = some x := ⟨_, List.getElem?_eq_getElem (by omega)⟩
  obtain ⟨y, hy⟩ : ∃ y, L[l.length - 1 - i]? = some y := ⟨_, List.getElem?_eq_getElem (by omega)⟩
  refine ⟨x, y, hx, hy, by simp [hl], fun k hk => ?_⟩
  rw [List.getElem?_set, List.getElem?_set]
  by_cases e1 : l.length - 1 - i = k
  · rw [if_pos e1, if_pos (by simp; omega), if_pos (by omega), ← hx, h1]
    congr 1; omega
  · rw [if_neg e1]
    by_cases e2 : i = k
    · rw [if_pos e2, if_pos (by omega), if_pos (by omega), ← hy, h2]
      congr 1; omega
    · rw [if_neg e2, h.2 k hk]
      by_cases e3 : k < i ∨ l.length ≤ k + i
      · rw [if_pos e3, if_pos (by omega)]
      · rw [if_neg e3, if_neg (by omega)]

set_option maxRecDepth 100000 in
set_option maxHeartbeats 2000000 in
theorem Reverse_is (A : Option Addr) (g : Option Nat) (n c : Nat) (l : List Nat) (w : World) (h : Row w 5 g (.slice A n c) (bv l)) (hn : n ≤ 1048576) :
    Calls Try.prog 18 #[.slice A n c] w fun e w' => e = .returned (.tuple #[]) ∧ Row w' 5 g (.slice A n c) (bv l.reverse) ∧ Only (fun b => some b = g) w w' := by
  obtain rfl := h.rd.bytes
  have H0 : Hid (Row w 5 g (.slice A l.length c) (bv l) ∧ Only (fun b => some b = g) w w ∧ Turning l l 0) := Lib.hid ⟨h, Only.refl _ _, Turning.zero l⟩
  clear h
  go_enter Try.func18, Try.ntmps18
  have w0 : IntKind.i64.wrap ((l.length : Int) - 1) = (l.length : Int) - 1 := IntWalk.i64_in _ (by omega)
  go_wp2
  go_loopw [2, 3] (fun vi vj wr => ∃ (i : Nat) (L : List Nat), 2 * i ≤ l.length + 1 ∧ vi = .int .i64 (i : Int) ∧ vj = .int .i64 ((l.length : Int) - 1 - (i : Int)) ∧ Hid (Row wr 5 g (.slice A l.length c) (bv L) ∧ Only (fun b => some b = g) w wr ∧ Turning l L i)) (fun vi _ _ => l.length - (intOf vi).toNat)
  case atStart => exact ⟨0, l, by omega, rfl, by simp, H0⟩
  case round =>
    obtain ⟨i, L, hi, rfl, rfl, HC⟩ := hrel
    by_cases hlt : 2 * i + 1 < l.length
    · obtain ⟨j, hj⟩ : ∃ j : Nat, j = l.length - 1 - i := ⟨_, rfl⟩
      have hjz : (l.length : Int) - 1 - (i : Int) = (j : Int) := by omega
      rw [hjz]
      have q1 : decide (i < j) = true := by simp; omega
      obtain ⟨x, y, hx, hy, hT⟩ := HC.out.2.2.at_ hlt
      rw [← hj] at hy hT
      have hLl := HC.out.2.2.1
      have hr := HC.out.1
      have hA : ∃ b o, A = some ⟨b, o, none⟩ := by
        obtain ⟨b, o, d, e, _⟩ := hr.rd.byteAt (k := i) (by omega)
        exact ⟨b, o, e⟩
      obtain ⟨b, o, rfl⟩ := hA
      have y1 : wr.cell? ⟨b, o + i, none⟩ = some (.int .u8 (x : Nat)) := by
        obtain ⟨b', o', d, e, h1, h2⟩ := hr.rd.byteAt (k := i) (by omega)
        cases e; rw [hx] at h2; cases h2; exact h1
      have y2 : wr.cell? ⟨b, o + j, none⟩ = some (.int .u8 (y : Nat)) := by
        obtain ⟨b', o', d, e, h1, h2⟩ := hr.rd.byteAt (k := j) (by omega)
        cases e; rw [hy] at h2; cases h2; exact h1
      have f1 := (hr.set_ (k := i) (u := .int .u8 (y : Nat)) (by rw [bv_len]; omega) rfl).2.2
      have f2 := (hr.set_ (k := j) (u := .int .u8 (x : Nat)) (by rw [bv_len]; omega) rfl).2.2
      have y3 : (wr.setCell ⟨b, o + i, none⟩ (.int .u8 (y : Nat))).cell? ⟨b, o + j, none⟩ = some (.int .u8 (y : Nat)) := by
        exact (World.cell?_setCell_other wr _ _ _ (fun e => by injection e with _ e _; omega)).trans y2
      have f3 : (wr.setCell ⟨b, o + i, none⟩ (.int .u8 (y : Nat))).frozen? ⟨b, o + j, none⟩ = false := by
        exact ((hr.set_ (k := i) (u := .int .u8 (y : Nat)) (by rw [bv_len]; omega) rfl).1.set_ (k := j) (u := .int .u8 (x : Nat)) (by rw [List.length_set, bv_len]; omega) rfl).2.2
      have hil : i < l.length := by omega
      have hjl : j < l.length := by omega
      have HX := Lib.hid (And.intro hr (And.intro hT (And.intro hj (And.intro hlt (And.intro hLl HC.out.2.1)))))
      have w1 : IntKind.i64.wrap ((i : Int) + 1) = (i : Int) + 1 := IntWalk.i64_in _ (by omega)
      have w2 : IntKind.i64.wrap ((j : Int) - 1) = (j : Int) - 1 := IntWalk.i64_in _ (by omega)
      clear hr hT hj hlt hLl hx hy hjz hi HC
      go_wp2
      go_region
      go_wp2
      go_roundw
      case rel =>
        have s1 := HX.out.1.set_ (k := i) (u := .int .u8 (y : Nat)) (by rw [bv_len]; have := HX.out.2.2; omega) rfl
        have s2 := s1.1.set_ (k := j) (u := .int .u8 (x : Nat)) (by rw [List.length_set, bv_len]; have := HX.out.2.2; omega) rfl
        have hv : bv ((L.set i y).set j x) = ((bv L).set i (.int .u8 (y : Nat))).set j (.int .u8 (x : Nat)) := by simp [bv, List.map_set]
        refine ⟨i + 1, (L.set i y).set j x, by have := HX.out.2.2; omega, by go_num, ?_, Lib.hid ⟨?_, ?_, HX.out.2.1⟩⟩
        · have := HX.out.2.2; go_num
        · rw [hv]; exact s2.1
        · exact (HX.out.2.2.2.2.2.grown s1.2.1 (fun k e => .inl e.symm)).grown s2.2.1 (fun k e => .inl e.symm) |>.drew
      case measure => simp [intOf]; have := HX.out.2.2; omega
    · have q1 : ((i : Int) < (l.length : Int) - 1 - (i : Int)) = False := by simp; omega
      have HD := Lib.hid (HC.out.2.2.done (by omega))
      go_wp2
      go_end0
      exact ⟨rfl, by rw [← HD.out]; exact HC.out.1, HC.out.2.1⟩

set_option maxRecDepth 100000 in
set_option maxHeartbeats 1000000 in
theorem Max_is (A : Option Addr) (n c : Nat) (zs : List Int) (w : World) (h : Rd w (.slice A n c) (iv zs)) (hn : n ≤ 1048576) (h0 : 0 < n) :
    Calls Try.prog 19 #[.slice A n c] w fun e w' => ∃ m, e = .returned (.int .i64 m) ∧ m ∈ zs ∧ (∀ z ∈ zs, z ≤ m) ∧ ∃ nd, w' = w.drewN nd := by
  obtain ⟨hnz, hc1, r1⟩ := h.ints
  obtain ⟨b, o, rfl, hx⟩ := r1 (by omega)
  obtain ⟨z0, zt, hzs⟩ : ∃ z0 zt, zs = z0 :: zt := by
    cases zs with
    | nil => simp at hnz; omega
    | cons z0 zt => exact ⟨z0, zt, rfl⟩
  have HX := Lib.hid hx
  have x0 : w.cell? ⟨b, o, none⟩ = some (.int .i64 z0) := by have := hx 0 (by omega); rw [hzs] at this; exact this
  have x0' : w.cell? ⟨b, o + 0, none⟩ = some (.int .i64 z0) := x0
  have q0 : decide (n < 1) = false := by simp; omega
  have q0' : (n = 0) = False := by simp; omega
  have hlen : 1 ≤ n := h0
  have HZS := Lib.hid (And.intro hzs hnz)
  clear h hx r1 hzs hnz hc1
  go_enter Try.func19, Try.ntmps19
  go_wp2
  go_loopw [3, 4] (fun vm vi wr => ∃ (i : Nat) (m : Int), 1 ≤ i ∧ i ≤ n ∧ vi = .int .i64 (i : Int) ∧ vm = .int .i64 m ∧ Hid (m ∈ zs ∧ ∀ j, j < i → zs[j]?.getD 0 ≤ m) ∧ ∃ nd, wr = w.drewN nd) (fun _ vi _ => n - (intOf vi).toNat)
  case atStart =>
    refine ⟨1, z0, by omega, by omega, rfl, rfl, Lib.hid ?_, 0, rfl⟩
    rw [HZS.out.1]
    refine ⟨by simp, fun j hj => ?_⟩
    obtain rfl : j = 0 := by omega
    exact Int.le_refl _
  case round =>
    obtain ⟨i, m, hi1, hi, rfl, rfl, HM, nd, rfl⟩ := hrel
    by_cases hlt : i < n
    · obtain ⟨z, hz⟩ : ∃ z, z = zs[i]?.getD 0 := ⟨_, rfl⟩
      have y : (w.drewN nd).cell? ⟨b, o + i, none⟩ = some (.int .i64 z) := by rw [hz]; exact HX.out i (by have := HZS.out.2; omega)
      have HN : Hid (max m z ∈ zs ∧ ∀ j, j < i + 1 → zs[j]?.getD 0 ≤ max m z) := Lib.hid (by
        have hzm : z ∈ zs := by rw [hz, List.getElem?_eq_getElem (by have := HZS.out.2; omega)]; exact List.getElem_mem _
        refine ⟨?_, fun j hj => ?_⟩
        · rcases Int.le_total m z with h | h
          · rw [Int.max_eq_right h]; exact hzm
          · rw [Int.max_eq_left h]; exact HM.out.1
        · by_cases e : j = i
          · subst e; rw [← hz]; exact Int.le_max_right _ _
          · exact Int.le_trans (HM.out.2 j (by omega)) (Int.le_max_left _ _))
      obtain ⟨m2, hm2⟩ : ∃ m2, max m z = m2 := ⟨_, rfl⟩
      rw [hm2] at HN
      have hm3 : (max m z : Int) = m2 := hm2
      have w1 : IntKind.i64.wrap ((i : Int) + 1) = (i : Int) + 1 := IntWalk.i64_in _ (by omega)
      clear hz hm2
      go_wp2
      go_roundw
      case rel => exact ⟨i + 1, m2, by omega, by omega, by go_num, rfl, HN, nd, rfl⟩
      case measure => simp [intOf]; omega
    · have HD : Hid (m ∈ zs ∧ ∀ z ∈ zs, z ≤ m) := Lib.hid ⟨HM.out.1, fun z hz => by
        obtain ⟨j, hj, rfl⟩ := List.getElem_of_mem hz
        have := HM.out.2 j (by have := HZS.out.2; omega)
        rwa [List.getElem?_eq_getElem hj] at this⟩
      go_wp2
      go_ret
      exact ⟨m, rfl, HD.out.1, HD.out.2, nd, rfl⟩
end Go.Proofs.Ytialecghpekcnaa
