/-
  The contract of queue.Queue[byte]'s Put: of what is handed in as many as there is room for wait behind the others.
  Conditions: none but that the queue was made by New, or is nil.
-/
import Derived.Test.YtfmmomdfmmoklaaDoorQbTake
import Derived.Deep.RegionLaw
namespace Go.Proofs.YtfmmomdfmmoklaaDoor
open Go.RowKit

theorem Put_nil (B : Option Addr) (m c : Nat) (w : World) : Calls Tryd.prog 46 #[.pointer none, .slice B m c] w fun e w' => e = .returned (.int .i64 0) ∧ w = w' := by
  go_enter Tryd.func46, Tryd.ntmps46
  go_wp2
  go_ret
  exact ⟨rfl, rfl⟩

/-- How many are taken in. -/
def putN (room : Nat) (en : Bool) (n m : Nat) : Nat := min m (if en then 0 else room - n)

/-- What Put leaves. -/
def PutTo (w : World) (q : Nat) (g : Option Nat) (room : Nat) (en : Bool) (k : Nat) (zs : List Value) (e : Ending) (w' : World) : Prop :=
  ∃ g', e = .returned (.int .i64 k) ∧ QAt w' q g' room en zs ∧ Only (fun b => b = q ∨ some b = g) w w' ∧ (g' = g ∨ ∃ b, g' = some b ∧ w.heap.size ≤ b)

theorem roomOf_eq {room : Nat} {en : Bool} {n : Nat} (h : n ≤ room) : roomOf room en n = ((if en then 0 else room - n : Nat) : Int) := by
  unfold roomOf; split <;> omega

theorem Put_at {w : World} {q : Nat} {g : Option Nat} {room : Nat} {en : Bool} {xs : List Value} (h : QAt w q g room en xs) (hroom : room ≤ 65536) (hle : xs.length ≤ room)
    {B : Option Addr} {m c : Nat} {ys : List Value} (hr : Rd w (.slice B m c) ys) (hm : m ≤ 9223372036854775807) :
    Calls Tryd.prog 46 #[.pointer (some ⟨q, 0, none⟩), .slice B m c] w (PutTo w q g room en (putN room en xs.length m) (xs ++ ys.take (putN room en xs.length m))) := by
  obtain ⟨i0, hi0, hz0, hz1, hz2⟩ := info_parts qbyte_info
  have HR := Room_at h hroom hle
  rw [roomOf_eq hle] at HR
  have hkr : putN room en xs.length m ≤ (if en then 0 else room - xs.length) := Nat.min_le_right _ _
  have hkm : putN room en xs.length m ≤ m := Nat.min_le_left _ _
  have hk : putN room en xs.length m = min m (if en then 0 else room - xs.length) := rfl
  have hr0 : (if en then 0 else room - xs.length) ≤ room - xs.length := by split <;> omega
  generalize (if en then 0 else room - xs.length) = r at *
  generalize putN room en xs.length m = k at *
  have hmc : m ≤ c := by
    obtain ⟨_, _, e, hle, _⟩ := hr
    injection e with _ e2 e3
    omega
  have hml : m = ys.length := by
    obtain ⟨_, _, e, hle, _⟩ := hr
    injection e
  have hkc : k ≤ c := by omega
  have HRd := Lib.hid (hr.take hkm)
  have H := Lib.hid h
  have HHR := Lib.hid HR
  have HK := Lib.hid hk
  have HML := Lib.hid hml
  clear h hr HR hk hml
  have hkl : (ys.take k).length = k := by have := HML.out; simp; omega
  generalize ys.take k = zs at *
  have HKL := Lib.hid hkl
  clear hkl HML
  have fin : ∀ (w1 w' : World) (nd : Nat) (A' : Option Addr) (c' : Nat) (g' : Option Nat), w1 = (w.drewN nd).drew → w1.grownBy w' g → Row w' 5 g' (.slice A' (xs.length + zs.length) c') (xs ++ zs) → (g' = g ∨ g' = some w1.heap.size) →
      PutTo w q g room en k (xs ++ zs) (.returned (.int .i64 k)) (w'.setCell ⟨q, 0, none⟩ (.slice A' (xs.length + zs.length) c')) := by
    rintro w1 w' nd A' c' g' rfl hgr hrow hg'
    have hne := H.out.ne_
    have hlt := H.out.blk_lt
    obtain ⟨v, hb, _⟩ := H.out
    have hb' : Blk w' q 100 #[v, .int .i64 room, .bool en] := Blk.keep (w := (w.drewN nd).drew) hb (hgr.block q hlt (Ne.symm hne))
    refine ⟨g', rfl, ⟨_, hb'.set_ 0 _, hrow.far (p := ⟨q, 0, none⟩) ?_ _⟩, ?_, ?_⟩
    · rcases hg' with rfl | rfl
      · exact hne
      · intro e; have e' : w.heap.size = q := by simpa using e
        omega
    · exact (Only.grown (w := (w.drewN nd).drew) ((Only.refl (fun b => b = q ∨ some b = g) w).drewN nd).drew hgr (fun k e => .inl (.inr e.symm))).setCell (p := ⟨q, 0, none⟩) (.inl (.inl rfl)) _
    · rcases hg' with rfl | rfl
      · exact .inl rfl
      · exact .inr ⟨_, rfl, Nat.le_refl _⟩
  have FIN := Lib.hid fin
  clear fin
  have hlim : Hid (xs.length + zs.length ≤ 65536) := by show _ ≤ _; rw [HKL.out]; omega
  rcases Nat.lt_or_ge r m with hrm | hrm
  · have hkr' : k = r := by have := HK.out; omega
    obtain rfl := hkr'
    clear HK
    cases B
    all_goals
      go_enter Tryd.func46, Tryd.ntmps46
      go_wp2_with fail
      refine HHR.out.mono ?_
      rintro e w1 ⟨rfl, nd, rfl⟩
      have h1 : QAt (w.drewN nd) q g room en xs := H.out.drewN nd
      have hne := h1.ne_
      have hqlt := h1.blk_lt
      obtain ⟨v, hb, hrow⟩ := h1
      obtain ⟨A, cc, rfl⟩ := hrow.form
      have c0 : (w.drewN nd).cell? ⟨q, 0, none⟩ = some (.slice A xs.length cc) := hb.cell 0
      have f0 := hb.frozen 0
      have X := Lib.hid (And.intro hb (And.intro hrow (And.intro hne hqlt)))
      have HRd' : Hid (Rd (w.drewN nd) _ zs) := HRd.out.drewN nd
      clear hb hrow hne hqlt
      go_wp2
      obtain ⟨w1, hw1⟩ : ∃ w1, w1 = w.drewN nd := ⟨_, rfl⟩
      rw [← hw1] at c0 f0 X HRd' ⊢
      have HW1 := Lib.hid hw1
      clear hw1
      go_region_law (refine step_append_row _ rfl (.tmp 17) (.tmp 20) _ rfl 5 i0 _ 1 Tryd.underlying31 hi0 hz0 hz1 hz2 rfl g (.slice A xs.length cc) xs (by simp [Act.eval]) (by exact X.out.2.1) _ zs (by simp [Act.eval]) (Rd.drew HRd'.out) (by have := hlim.out; simp only [maxLen]; omega) (by have := hlim.out; omega) ?_; intro A' c' w' g' hrow' hgr hg'; have d0 : w'.cell? ⟨q, 0, none⟩ = some (.slice A xs.length cc) := ((X.out.1).keep (hgr.block q X.out.2.2.2 (Ne.symm X.out.2.2.1))).cell 0; have e0 : w'.frozen? ⟨q, 0, none⟩ = false := ((X.out.1).keep (hgr.block q X.out.2.2.2 (Ne.symm X.out.2.2.1))).frozen 0; have Y := Lib.hid (And.intro hrow' (And.intro hgr hg')); clear hrow' hgr hg')
      go_wp2
      go_ret
      exact FIN.out w1.drew w' nd A' c' g' (by rw [HW1.out]) Y.out.2.1 Y.out.1 Y.out.2.2
  · have hkr' : k = m := by have := HK.out; omega
    obtain rfl := hkr'
    clear HK
    cases B
    all_goals
      go_enter Tryd.func46, Tryd.ntmps46
      go_wp2_with fail
      refine HHR.out.mono ?_
      rintro e w1 ⟨rfl, nd, rfl⟩
      have h1 : QAt (w.drewN nd) q g room en xs := H.out.drewN nd
      have hne := h1.ne_
      have hqlt := h1.blk_lt
      obtain ⟨v, hb, hrow⟩ := h1
      obtain ⟨A, cc, rfl⟩ := hrow.form
      have c0 : (w.drewN nd).cell? ⟨q, 0, none⟩ = some (.slice A xs.length cc) := hb.cell 0
      have f0 := hb.frozen 0
      have X := Lib.hid (And.intro hb (And.intro hrow (And.intro hne hqlt)))
      have HRd' : Hid (Rd (w.drewN nd) _ zs) := HRd.out.drewN nd
      clear hb hrow hne hqlt
      go_wp2
      obtain ⟨w1, hw1⟩ : ∃ w1, w1 = w.drewN nd := ⟨_, rfl⟩
      rw [← hw1] at c0 f0 X HRd' ⊢
      have HW1 := Lib.hid hw1
      clear hw1
      go_region_law (refine step_append_row _ rfl (.tmp 17) (.tmp 20) _ rfl 5 i0 _ 1 Tryd.underlying31 hi0 hz0 hz1 hz2 rfl g (.slice A xs.length cc) xs (by simp [Act.eval]) (by exact X.out.2.1) _ zs (by simp [Act.eval]) (Rd.drew HRd'.out) (by have := hlim.out; simp only [maxLen]; omega) (by have := hlim.out; omega) ?_; intro A' c' w' g' hrow' hgr hg'; have d0 : w'.cell? ⟨q, 0, none⟩ = some (.slice A xs.length cc) := ((X.out.1).keep (hgr.block q X.out.2.2.2 (Ne.symm X.out.2.2.1))).cell 0; have e0 : w'.frozen? ⟨q, 0, none⟩ = false := ((X.out.1).keep (hgr.block q X.out.2.2.2 (Ne.symm X.out.2.2.1))).frozen 0; have Y := Lib.hid (And.intro hrow' (And.intro hgr hg')); clear hrow' hgr hg')
      go_wp2
      go_ret
      exact FIN.out w1.drew w' nd A' c' g' (by rw [HW1.out]) Y.out.2.1 Y.out.1 Y.out.2.2
end Go.Proofs.YtfmmomdfmmoklaaDoor
