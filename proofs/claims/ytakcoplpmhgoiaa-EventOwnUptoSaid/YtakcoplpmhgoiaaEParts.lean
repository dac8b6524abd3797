/-
  cuecardlaw04.EventParts answers true for all events and every direction.
  Conditions: events and bytes together at most 1048576.
-/
import Derived.Test.YtakcoplpmhgoiaaEvRMerge
namespace Go.Proofs.Ytakcoplpmhgoiaa
open Go.RowKit

/-- What string(b) is, as long as what lay stays. -/
theorem str_keeps {w : World} {g : Option Nat} {A : Option Addr} {c : Nat} {l : List Nat} (h : Row w 5 g (.slice A l.length c) (bv l)) :
    ∀ W, Below w.heap.size w W → (convert 23 9 (.slice A l.length c)).run Try.prog W = .ok (.string (str l)) W :=
  fun _ hb => run_str (h.below hb (fun _ e => h.lt e)).rd
theorem below2 {w a b : World} (h1 : Below w.heap.size w a) (h2 : Below a.heap.size a b) : Below w.heap.size w b := h1.trans (h2.mono h1.size)
theorem RSame_yes (v u : Value) (l m : List Ev) (w : World) (h : Evs w v l) (h' : Evs w u m) (he : pes l = pes m) :
    Calls Try.prog 13 #[v, u] w fun e w' => e = .returned (.bool true) ∧ Below w.heap.size w w' :=
  (RSame_any v u l m w h h').mono fun e w' ⟨h1, h2⟩ => ⟨by rw [h1, decide_eq_true he], h2⟩
theorem MR.evsM {n0 : Nat} {W : World} {g : Option Nat} {v : Value} {l : List Ev} {L : List Ev} (h : MR n0 W g v l) (hp : pes l = mrg (pes L)) (hL : L.length ≤ 1048576) : Evs W v l := h.evs (by
  have h1 := congrArg List.length hp
  have h2 := mrg_len (pes L)
  rw [pes_len] at h1 h2
  omega)
theorem data_le {L : List Ev} {m : Nat} (h : L.length + whole (pes L) ≤ m) : ∀ a ∈ L, a.data.length ≤ m := fun a ha => by
  obtain ⟨i, hi⟩ := List.mem_iff_getElem?.1 ha
  have h1 := whole_at (pes_at hi)
  have h2 : a.pe.data.length = a.data.length := rfl
  omega
theorem fil_next {L : List Ev} {dir : Int} {k : Nat} {d t : Int} {Aa : Option Addr} {ca : Nat} {bs : List Nat} (h : L[k]? = some ⟨d, t, Aa, ca, bs⟩) : fil dir ((pes L).take (k + 1)) = fil dir ((pes L).take k) ++ (if d = dir then [⟨d, t, bs⟩] else []) := by
  rw [pes_take h, fil, List.filter_append]
  congr 1
  by_cases e : d = dir <;> simp [Ev.pe, e]
theorem fil_len (dir : Int) (l : List PE) (k : Nat) : (fil dir (l.take k)).length ≤ l.length := by
  have h1 := List.length_filter_le (fun a : PE => decide (a.dir = dir)) (l.take k)
  have h2 := List.length_take_le' k l
  unfold fil
  omega

/-- The list of those that are wanted. -/
def Want (w W : World) (g : Option Nat) (v : Value) (l : List Ev) (ps : List PE) : Prop := EL (fun b => b < w.heap.size) (fun b => w.heap.size ≤ b) W g v l ∧ pes l = ps ∧ Below w.heap.size w W
theorem Want.step {w W W1 w7 : World} {g g' : Option Nat} {v V : Value} {l : List Ev} {ps : List PE} {a : Ev} {tmp : Obj} (h : Want w W g v l ps) (hb : Below W.heap.size W W1) (ha : EvOk (fun b => b < w.heap.size) W a) (hr : RowS w7 25 3 g' V (l.length + 1) (evcs l ++ evc a)) (hg : (W1.alloc tmp).grownBy w7 g) (hg' : g' = g ∨ g' = some (W1.alloc tmp).heap.size) :
    Want w w7 g' V (l ++ [a]) (ps ++ [a.pe]) := by
  obtain ⟨h1, h2, h3⟩ := h
  have hb1 : Below W.heap.size W (W1.alloc tmp) := hb.alloc hb.size _
  have h4 : Below w.heap.size w (W1.alloc tmp) := below2 h3 hb1
  refine ⟨(h1.below hb1).snoc ((ha.below hb1).mono fun b _ hb => .inl hb) hr hg hg' ⟨h4.size, by have := h4.size; omega⟩, by rw [pes_snoc, h2], h4.grown hg h4.size (fun b e => (h1.fresh b e).1)⟩

set_option maxRecDepth 100000 in
set_option maxHeartbeats 4000000 in
theorem parts_true (v : Value) (L : List Ev) (dir : Int) (w : World) (h : Evs w v L) (hw : L.length + whole (pes L) ≤ 1048576) :
    Calls Try.prog 4 #[v, .int .i64 dir] w fun e w' => e = .returned (.bool true) ∧ Below w.heap.size w w' := by
  obtain ⟨A, c, rfl, hle⟩ := h.form
  have HE := Lib.hid h
  have HDL := Lib.hid (data_le hw)
  clear h hle
  go_enter Try.func4, Try.ntmps4
  go_wp2_with fail
  go_loopw [5, 10] (fun s i wr => ∃ (k : Nat) (B : Option Addr) (dm : Nat) (g : Option Nat) (l : List Ev), k ≤ L.length ∧ i = .int .i64 k ∧ s = .slice B l.length dm ∧ l.length ≤ 1048576 ∧ Hid (Want w wr g (.slice B l.length dm) l (fil dir ((pes L).take k)))) (fun _ i _ => L.length - (intOf i).toNat)
  case atStart => exact ⟨0, none, 0, none, [], by omega, rfl, rfl, by simp, EL.nil _ _ _, rfl, Below.refl _ _⟩
  case round =>
    obtain ⟨k, B, dm, g, l, hk, rfl, rfl, hl6, HW⟩ := hrel
    by_cases hlt : k < L.length
    · obtain ⟨b, o, d, t, Aa, ca, bs, rfl, ha, c0, c1, c2, hbm, -⟩ := HE.out.seeAt HW.out.2.2 hlt
      have HOK : Hid (EvOk (fun b => b < w.heap.size) wr ⟨d, t, Aa, ca, bs⟩) := ((Evs.old HE.out).ok (List.mem_of_getElem? ha)).below HW.out.2.2
      have HN := Lib.hid (fil_next (dir := dir) ha)
      have HF := Lib.hid (fil_len dir (pes L) (k + 1))
      clear ha
      by_cases hd : d = dir
      · subst hd
        rw [if_pos rfl] at HN
        go_wp2_with (at_builtin; refine wpList_append_ev _ rfl (.tmp 18) (.tmp 20) rfl g _ l.length (evcs l) rfl ((HW.out.1.row.alloc _).alloc _) _ (evc ⟨d, t, Aa, ca, bs⟩) rfl (by have h1 := ev_src (w := wr.alloc (.cells #[.int .i64 d, .int .i64 t, .slice Aa bs.length ca] 25)) ⟨d, t, Aa, ca, bs⟩; rwa [World.size_alloc] at h1) (by omega) ?_; intro A' c' w7 g' hrow' hgr hg'; have Y := Lib.hid (And.intro hrow' (And.intro hgr hg')); clear hrow' hgr hg')
        have Z := Lib.hid (HW.out.step ((Below.refl _ wr).alloc (Nat.le_refl _) _) HOK.out Y.out.1 Y.out.2.1 Y.out.2.2)
        have hl7 : (l ++ [(⟨d, t, Aa, ca, bs⟩ : Ev)]).length ≤ 1048576 := by
          have h1 := congrArg List.length Z.out.2.1
          have h2 := HF.out
          rw [HN.out] at h2
          rw [pes_len] at h1 h2
          have e : (⟨d, t, Aa, ca, bs⟩ : Ev).pe = ⟨d, t, bs⟩ := rfl
          rw [e] at h1
          omega
        go_roundw
        case rel => exact ⟨k + 1, A', c', g', l ++ [⟨d, t, Aa, ca, bs⟩], by omega, by go_num, by simp, hl7, by rw [HN.out, show (l ++ [(⟨d, t, Aa, ca, bs⟩ : Ev)]).length = l.length + 1 by simp]; exact Z.out⟩
        case measure => simp [intOf]; omega
      · have hne : (d == dir) = false := by simpa using hd
        rw [if_neg hd, List.append_nil] at HN
        go_wp2_with fail
        go_roundw
        case rel => exact ⟨k + 1, B, dm, g, l, by omega, by go_num, rfl, hl6, by rw [HN.out]; exact ⟨HW.out.1.below ((Below.refl _ wr).alloc (Nat.le_refl _) _), HW.out.2.1, HW.out.2.2.alloc HW.out.2.2.size _⟩⟩
        case measure => simp [intOf]; omega
    · obtain rfl : k = L.length := by omega
      rw [pes_all] at HW
      have HEr := Lib.hid (HE.out.below HW.out.2.2)
      have HEw : Hid (Evs wr (.slice B l.length dm) l) := Lib.hid (HW.out.1.evsIn (S := fun _ => True) (by omega) (fun _ _ => trivial) (fun _ _ => trivial))
      have HPw := Lib.hid HW.out.2.1
      have HB := Lib.hid HW.out.2.2
      clear HW HE
      go_wp2_with fail
      have hD : Below wr.heap.size wr wr.drew := ⟨rfl, rfl, rfl, Nat.le_refl _, fun _ _ => rfl⟩
      go_region_held (fun W => Below wr.heap.size wr W) (first | exact hD | exact hA' | exact hO' | exact hS' | exact hY' | exact hR' | exact hM' | exact hN' | exact hT' | assumption) (first
        | (go_at_call 9; refine (alive_true _).mono ?_; rintro e wA ⟨rfl, hA⟩; have hA' := below2 hD hA; clear hA)
        | (go_at_call 15; refine (of_any dir _ L _ (HEr.out.below (by assumption)) (by omega) HDL.out).mono ?_; rintro e wO ⟨AO, cO, lO, rfl, hEO, hPO, hO⟩; have hO' := below2 hA' hO; have HO := Lib.hid (And.intro hEO hPO); clear hEO hPO hO)
        | (go_at_call 16; refine (Bytes_any dir _ L _ (HEr.out.below (by assumption)) (by omega) HDL.out).mono ?_; rintro e wY ⟨AY, cY, gY, rfl, hrY, -, hY⟩; have kY := str_keeps hrY; have rY := Below.refl wY.heap.size wY; have hY' := below2 hS' hY; clear hrY hY)
        | (go_at_call 17; refine (RBytes_any dir _ L _ (HEr.out.below (by assumption)) (by omega)).mono ?_; rintro e wR ⟨AR, cR, gR, rfl, hrR, -, hR⟩; have kR := str_keeps hrR; have rR := Below.refl wR.heap.size wR; have hR' := below2 hY' hR; clear hrR)
        | (go_at_call 18; refine (Merge_any _ L _ (HEr.out.below (by assumption)) hw).mono ?_; rintro e wM ⟨AM, cM, gM, lM, rfl, hrM, hPM, hM⟩; have hM' := below2 hR' hM; have HM := Lib.hid (And.intro hrM hPM); clear hrM hPM hM)
        | (go_at_call 19; refine (RMerge_any _ L _ (HEr.out.below (by assumption)) hw).mono ?_; rintro e wN ⟨AN, cN, gN, lN, rfl, hrN, hPN, hN⟩; have hN' := below2 hM' hN; have HN := Lib.hid (And.intro hrN (And.intro hPN hN)); clear hrN hPN hN)
        | (go_at_call 13; (with_reducible refine (RSame_yes (.slice AO lO.length cO) (.slice B l.length dm) lO l wO HO.out.1 (Evs.below HEw.out hO') (HO.out.2.trans HPw.out.symm)).mono ?_); rintro e wS ⟨rfl, hS⟩; have hS' := below2 hO' hS; clear hS)
        | (go_at_call 13; (with_reducible refine (RSame_yes (.slice AM lM.length cM) (.slice AN lN.length cN) lM lN wN ((HM.out.1.evsM HM.out.2 (by omega)).below HN.out.2.2) (HN.out.1.evsM HN.out.2.1 (by omega)) (HM.out.2.trans HN.out.2.1.symm)).mono ?_); rintro e wT ⟨rfl, hT⟩; have hT' := below2 hN' hT; clear hT))
      all_goals go_wp2
      all_goals go_ret
      all_goals exact ⟨rfl, below2 HB.out hT'⟩
end Go.Proofs.Ytakcoplpmhgoiaa
