/-
  The document's branches, check, hit, first hit.
  Conditions: those of each theorem.
-/
import Derived.Test.YtcipljpalohjiaaDoorGlPl
import Derived.Test.YtcipljpalohjiaaDoorGlRLike
import Derived.Test.YtcipljpalohjiaaDoorMtMath
import Derived.Test.YtcipljpalohjiaaDoorSlI
import Derived.Test.YtcipljpalohjiaaDoorGlRSpan
import Derived.Test.YtcipljpalohjiaaDoorIdxB
import Derived.Test.YtcipljpalohjiaaDoorGlRLk
import Derived.WalkKit
import Derived.Deep.QuietTactic
import Derived.BigQuiet
namespace Go.Proofs.YtcipljpalohjiaaDoor
open Go.RowKit

theorem err_long {p : List Nat} (h : 1024 < p.length) : errS p = 6 := if_pos h
theorem err_bad {p : List Nat} (h : ¬ 1024 < p.length) (k : thingsS p = none) : errS p = 4 := by rw [errS, if_neg h, if_pos (by rw [k]; rfl)]
theorem err_ok {p : List Nat} {l : List Thg} (h : p.length ≤ 1024) (k : thingsS p = some l) : errS p = 0 := by rw [errS, if_neg (by omega), if_neg (by rw [k]; simp)]
theorem err_zero {p : List Nat} (h : errS p = 0) : p.length ≤ 1024 ∧ ∃ l, thingsS p = some l := by
  unfold errS at h
  by_cases h1 : 1024 < p.length
  · rw [if_pos h1] at h; omega
  · rw [if_neg h1] at h
    cases hk : thingsS p with
    | none => rw [hk] at h; simp at h
    | some l => exact ⟨by omega, l, rfl⟩
theorem ok_is {p : List Nat} {l : List Thg} (h : p.length ≤ 1024) (k : thingsS p = some l) (t : List Nat) : okS p t = likeS l t := by
  rw [okS, decide_eq_true h, k]; rfl
theorem ok_not {p : List Nat} (h : errS p ≠ 0) (t : List Nat) : okS p t = false := by
  unfold okS
  by_cases h1 : p.length ≤ 1024
  · cases hk : thingsS p with
    | none => simp
    | some l => exact absurd (err_ok h1 hk) h
  · rw [decide_eq_false h1]; rfl
theorem place_is {p : List Nat} {l : List Thg} (h : p.length ≤ 1024) (k : thingsS p = some l) (t : List Nat) (most : Int) : placeS p t most = spanS l t most := by
  rw [placeS, if_neg (by omega), k]
theorem place_not {p : List Nat} (h : errS p ≠ 0) (t : List Nat) (most : Int) : placeS p t most = none := by
  unfold placeS
  split
  · rfl
  · cases hk : thingsS p with
    | none => rfl
    | some l => exact absurd (err_ok (by omega) hk) h
theorem err_small (p : List Nat) : errS p ≤ 6 := by
  unfold errS
  split
  · omega
  · split <;> omega

theorem ThingsTo.err {w W : World} {p : List Nat} {r : Ending} (h : ThingsTo w p r W) (he : errS p ≠ 0) : r = .returned (.tuple #[.slice none 0 0, .int .i64 (errS p : Nat)]) ∧ Below w.heap.size w W := by
  obtain ⟨v, hb, h⟩ := h
  by_cases h1 : 1024 < p.length
  · rw [if_pos h1] at h
    rw [err_long h1]
    exact ⟨h, hb⟩
  · rw [if_neg h1] at h
    cases hk : thingsS p with
    | none =>
      rw [hk] at h
      rw [err_bad h1 hk]
      exact ⟨h, hb⟩
    | some l => exact absurd (err_ok (by omega) hk) he
theorem ThingsTo.ok {w W : World} {p : List Nat} {r : Ending} (h : ThingsTo w p r W) (he : errS p = 0) : ∃ v l, r = .returned (.tuple #[v, .int .i64 0]) ∧ ThR W v l ∧ thingsS p = some l ∧ l.length ≤ 1048576 ∧ Below w.heap.size w W := by
  obtain ⟨h1, l, hk⟩ := err_zero he
  obtain ⟨v, hb, h⟩ := h
  rw [if_neg (by omega), hk] at h
  have := things_len p.length p l (Nat.le_refl _) hk
  exact ⟨v, l, h.1, h.2.reads, hk, by omega, hb⟩

end Go.Proofs.YtcipljpalohjiaaDoor
namespace Go.Proofs.YtcipljpalohjiaaDoor
open Go.RowKit

def BrcAt : AtF Brc := fun _ W b o x => W.cell? ⟨b, o, none⟩ = some (.int .i64 x.kind) ∧ W.cell? ⟨b, o + 1, none⟩ = some (.string (str x.pat))
theorem brc_ok : AtF.Ok BrcAt := ⟨fun h => World.block_lt_of_cell? _ _ h.1, fun h hb hs => ⟨still_cell hs hb h.1, still_cell hs hb h.2⟩, fun h _ => h⟩
abbrev Brs (S : Nat → Prop) (W : World) (v : Value) (l : List Brc) : Prop := SlI 2 BrcAt S W v l
/-- Bytes, and no longer than a string is. -/
def BrIn (x : Brc) : Prop := (∀ d ∈ x.pat, d < 256) ∧ x.pat.length ≤ 9223372036854775807 ∧ -9223372036854775808 ≤ x.kind ∧ x.kind ≤ 9223372036854775807

set_option maxRecDepth 100000 in
set_option maxHeartbeats 4000000 in
theorem RCheck_is {S : Nat → Prop} (most : Int) (v : Value) (l : List Brc) (w : World) (h : Brs S w v l) (hx : ∀ x ∈ l, BrIn x) :
    Calls Tryd.prog 12 #[.int .i64 most, v] w fun e w' => e = .returned (.int .i64 (checkS most l : Nat)) ∧ Below w.heap.size w w' := by
  obtain ⟨A, c, rfl, hle⟩ := h.form
  have HB := Lib.hid h
  have HX := Lib.hid hx
  clear h hx
  by_cases h1 : most < 1 ∨ 1048576 < most
  · have HC : Hid (checkS most l = 3) := Lib.hid (if_pos h1)
    rcases h1 with h1 | h1
    all_goals
      go_enter Tryd.func12, Tryd.ntmps12
      go_wp2_with fail
      go_ret
      exact ⟨by rw [HC.out]; rfl, Below.refl _ w⟩
  by_cases h2 : 64 < l.length
  · have HC : Hid (checkS most l = 10) := Lib.hid (by rw [checkS, if_neg h1, if_pos h2])
    have h11 : ¬ most < 1 := by omega
    have h12 : ¬ (1048576 : Int) < most := by omega
    clear h1
    go_enter Tryd.func12, Tryd.ntmps12
    go_wp2_with fail
    go_ret
    exact ⟨by rw [HC.out]; rfl, Below.refl _ w⟩
  have HC : Hid (checkS most l = wrongsB l) := Lib.hid (by rw [checkS, if_neg h1, if_neg h2])
  have h11 : ¬ most < 1 := by omega
  have h12 : ¬ (1048576 : Int) < most := by omega
  have h13 : l.length ≤ 64 := by omega
  clear h1 h2
  go_enter Tryd.func12, Tryd.ntmps12
  go_wp2_with fail
  go_loopw [5] (fun iv wr => ∃ i : Nat, i ≤ l.length ∧ iv = .int .i64 (i : Nat) ∧ Hid (Below w.heap.size w wr) ∧ Hid (wrongsB (l.take i) = 0)) (fun iv _ => l.length - (intOf iv).toNat)
  case atStart => exact ⟨0, by omega, rfl, Lib.hid (Below.refl _ w), Lib.hid rfl⟩
  case round =>
    obtain ⟨i, hi, rfl, HW, HZ⟩ := hrel
    by_cases hlt : i < l.length
    · obtain ⟨x, hx⟩ : ∃ x, l[i]? = some x := ⟨_, List.getElem?_eq_getElem hlt⟩
      obtain ⟨b, o, rfl, -, c0, c1⟩ := (SlI.below brc_ok HB.out HW.out).at_ hx
      have HI := Lib.hid (HX.out x (List.mem_of_getElem? hx))
      have HXX := Lib.hid hx
      clear hx
      have hr1 : decide ((i : Int) < (l.length : Int)) = true := decide_eq_true (by omega)
      by_cases hk : x.kind < 0 ∨ 3 < x.kind
      · have HR : Hid (wrongsB l = 2) := Lib.hid (by
          have hw : wrongB x = 2 := if_pos hk
          rw [wrongs_take HXX.out HZ.out, if_neg (by omega), hw])
        rcases hk with hk | hk
        all_goals
          go_wp2_with fail
          go_ret
          exact ⟨by rw [HC.out, HR.out]; rfl, HW.out⟩
      · have k1 : ¬ x.kind < 0 := by omega
        have k2 : ¬ 3 < x.kind := by omega
        by_cases hk1 : x.kind = 1
        · have q1 : (x.kind == 1) = true := by simp [hk1]
          have HT := Lib.hid (RThings_is x.pat HI.out.1 HI.out.2.1 wr)
          have HWB : Hid (wrongB x = errS x.pat) := Lib.hid (by rw [wrongB, if_neg hk, if_pos hk1])
          clear hk hk1
          go_wp2_with fail
          refine HT.out.mono ?_
          intro e w1 hth
          by_cases he : errS x.pat = 0
          · obtain ⟨v1, t, rfl, -, -, -, hb⟩ := hth.ok he
            have HW1 := Lib.hid (HW.out.trans (hb.mono HW.out.size))
            have HN := Lib.hid (wrongs_next HXX.out HZ.out (by rw [HWB.out, he]))
            clear hth hb he
            go_wp2_with fail
            go_roundw
            case rel => exact ⟨i + 1, by omega, by go_num, HW1, HN⟩
            case measure => simp [intOf]; omega
          · obtain ⟨rfl, hb⟩ := hth.err he
            have HW1 := Lib.hid (HW.out.trans (hb.mono HW.out.size))
            have HR : Hid (wrongsB l = errS x.pat) := Lib.hid (by rw [wrongs_take HXX.out HZ.out, if_neg (by rw [HWB.out]; exact he), HWB.out])
            have q2 : (((errS x.pat : Nat) : Int) != 0) = true := by simp; omega
            clear hth hb he
            go_wp2_with fail
            go_ret
            exact ⟨by rw [HC.out, HR.out]; rfl, HW1.out⟩
        · have q1 : (x.kind == 1) = false := by simpa using hk1
          have HN := Lib.hid (wrongs_next HXX.out HZ.out (by rw [wrongB, if_neg hk, if_neg hk1]))
          clear hk hk1
          go_wp2_with fail
          go_roundw
          case rel => exact ⟨i + 1, by omega, by go_num, HW, HN⟩
          case measure => simp [intOf]; omega
    · obtain rfl : i = l.length := by omega
      rw [List.take_length] at HZ
      have hr1 : decide ((l.length : Int) < (l.length : Int)) = false := decide_eq_false (by omega)
      go_wp2_with fail
      go_ret
      exact ⟨by rw [HC.out, HZ.out]; rfl, HW.out⟩

def fromV (k : Option Nat) : Value := .int .i64 (match k with | some f => ((f : Nat) : Int) | none => -1)
set_option maxRecDepth 100000 in
set_option maxHeartbeats 4000000 in
theorem Rfrom_is (most : Int) (hm : 1 ≤ most ∧ most ≤ 1048576) (b : List Nat) (hb : ∀ d ∈ b, d < 256) (hn : b.length ≤ 140737488351232) (x : Brc) (hx : BrIn x) (hr : x.kind = 1 → errS x.pat = 0) (w : World) :
    Calls Tryd.prog 23 #[.int .i64 most, .string (str b), .agg #[.int .i64 x.kind, .string (str x.pat)]] w fun e w' => e = .returned (fromV (fromS most b x)) ∧ Below w.heap.size w w' := by
  obtain ⟨kd, p⟩ := x
  obtain ⟨hp, hpn, hk1, hk2⟩ := hx
  dsimp only at hp hpn hr hk1 hk2 ⊢
  have hsb := str_len b
  have hsp := str_len p
  have HB := Lib.hid hb
  have HP := Lib.hid hp
  have X0 := Lib.hid ((Below.refl _ w).alloc (Nat.le_refl _) (.cells #[.int .i64 kd, .string (str p)] 45))
  obtain ⟨hm1, hm2⟩ := hm
  by_cases h0 : kd = 0
  · subst h0
    by_cases h1 : p.length ≤ b.length
    · obtain ⟨f, hf⟩ : ∃ f, f = b.length - p.length := ⟨_, rfl⟩
      have e1 : (b.length : Int) - (p.length : Int) = (f : Int) := by omega
      have hfb : f ≤ b.length := by omega
      have q1 : decide ((0 : Int) ≤ (f : Int)) = true := decide_eq_true (by omega)
      by_cases h2 : (p.length : Int) ≤ most
      · have hrun := fun W => run_from_str b f hfb W
        have heq := str_beq (l := b.drop f) (m := p) (fun d hd => hb d (List.mem_of_mem_drop hd)) hp
        by_cases h3 : b.drop f = p
        · have HR : Hid (fromS most b ⟨0, p⟩ = some f) := Lib.hid (by
            rw [fromS, if_pos rfl, if_pos ⟨h2, by rw [endsB, decide_eq_true h1, ← hf, decide_eq_true h3]; rfl⟩, ← hf])
          rw [decide_eq_true h3] at heq
          generalize str (b.drop f) = sd at *
          clear hb hp hf h3 hr
          go_enter Tryd.func23, Tryd.ntmps23
          go_wp2_with fail
          go_quiet (fail)
          have X1 := Lib.hid (X0.out.trans ((drewG_below _ nq).mono X0.out.size))
          generalize World.drewN _ nq = w1 at *
          go_wp2_with fail
          go_ret
          exact ⟨by rw [HR.out]; rfl, X1.out⟩
        · have HR : Hid (fromS most b ⟨0, p⟩ = none) := Lib.hid (by
            rw [fromS, if_pos rfl, if_neg]
            rintro ⟨_, h4⟩
            rw [endsB, ← hf, decide_eq_false h3, Bool.and_false] at h4
            cases h4)
          rw [decide_eq_false h3] at heq
          generalize str (b.drop f) = sd at *
          have c0 : ∀ W, Below (w.alloc (.cells #[.int .i64 0, .string (str p)] 45)).heap.size (w.alloc (.cells #[.int .i64 0, .string (str p)] 45)) W → W.cell? ⟨w.heap.size, 0, none⟩ = some (.int .i64 0) := fun W hW => ((Blk.new w 45 #[.int .i64 0, .string (str p)]).below hW (by simp)).cell 0
          have C0 := Lib.hid c0
          clear hb hp hf h3 hr c0
          go_enter Tryd.func23, Tryd.ntmps23
          go_wp2_with fail
          go_quiet (fail)
          have X1 := Lib.hid (X0.out.trans ((drewG_below _ nq).mono X0.out.size))
          have c1 := C0.out _ (drewG_below _ nq)
          generalize World.drewN _ nq = w1 at *
          go_wp2_with fail
          go_ret
          exact ⟨by rw [HR.out]; rfl, X1.out⟩
      · have HR : Hid (fromS most b ⟨0, p⟩ = none) := Lib.hid (by rw [fromS, if_pos rfl, if_neg fun h => h2 h.1])
        have q2 : decide ((p.length : Int) ≤ most) = false := decide_eq_false h2
        have c0 : ∀ W, Below (w.alloc (.cells #[.int .i64 0, .string (str p)] 45)).heap.size (w.alloc (.cells #[.int .i64 0, .string (str p)] 45)) W → W.cell? ⟨w.heap.size, 0, none⟩ = some (.int .i64 0) := fun W hW => ((Blk.new w 45 #[.int .i64 0, .string (str p)]).below hW (by simp)).cell 0
        have C0 := Lib.hid c0
        clear hb hp hf hr c0
        go_enter Tryd.func23, Tryd.ntmps23
        go_wp2_with fail
        go_quiet (fail)
        have X1 := Lib.hid (X0.out.trans ((drewG_below _ nq).mono X0.out.size))
        have c1 := C0.out _ (drewG_below _ nq)
        generalize World.drewN _ nq = w1 at *
        go_wp2_with fail
        go_ret
        exact ⟨by rw [HR.out]; rfl, X1.out⟩
    · have HR : Hid (fromS most b ⟨0, p⟩ = none) := Lib.hid (by
        rw [fromS, if_pos rfl, if_neg]
        rintro ⟨_, h4⟩
        rw [endsB, decide_eq_false h1, Bool.false_and] at h4
        cases h4)
      have q1 : decide ((0 : Int) ≤ (b.length : Int) - (p.length : Int)) = false := decide_eq_false (by omega)
      have c0 : ∀ W, Below (w.alloc (.cells #[.int .i64 0, .string (str p)] 45)).heap.size (w.alloc (.cells #[.int .i64 0, .string (str p)] 45)) W → W.cell? ⟨w.heap.size, 0, none⟩ = some (.int .i64 0) := fun W hW => ((Blk.new w 45 #[.int .i64 0, .string (str p)]).below hW (by simp)).cell 0
      have C0 := Lib.hid c0
      clear hb hp hr c0
      go_enter Tryd.func23, Tryd.ntmps23
      go_wp2_with fail
      go_quiet (fail)
      have X1 := Lib.hid (X0.out.trans ((drewG_below _ nq).mono X0.out.size))
      have c1 := C0.out _ (drewG_below _ nq)
      generalize World.drewN _ nq = w1 at *
      go_wp2_with fail
      go_ret
      exact ⟨by rw [HR.out]; rfl, X1.out⟩
  · have q0 : (kd == 0) = false := beq_eq_false_iff_ne.2 h0
    by_cases h1 : kd = 1
    · subst h1
      have he := hr rfl
      have HT := Lib.hid (RThings_is p hp hpn (w.alloc (.cells #[.int .i64 1, .string (str p)] 45)))
      clear hb hp hr h0
      go_enter Tryd.func23, Tryd.ntmps23
      go_wp2_with fail
      refine HT.out.mono ?_
      intro e w1 hth
      obtain ⟨v, t, rfl, hv, ht, htl, hbl⟩ := hth.ok he
      have X1 := Lib.hid (X0.out.trans (hbl.mono X0.out.size))
      have HS := Lib.hid (RSpan_is v t b HB.out (by omega) htl most w1 hv)
      have HR : Hid (fromS most b ⟨1, p⟩ = spanS t b most) := Lib.hid (by rw [fromS, if_neg (show ¬ (1 : Int) = 0 by omega), if_pos rfl]; show (match thingsS p with | none => none | some t => spanS t b most) = _; rw [ht])
      clear hth hv ht htl hbl he HT
      cases hq : spanS t b most with
      | none =>
        rw [hq] at HS HR
        rw [show spanV none = .tuple #[.int .i64 0, .bool false] from rfl] at HS
        go_wp2_with fail
        refine HS.out.mono ?_
        rintro e w2 ⟨rfl, hb2⟩
        have X2 := Lib.hid (X1.out.trans (hb2.mono X1.out.size))
        clear hb2
        go_wp2_with fail
        go_ret
        exact ⟨by rw [HR.out]; rfl, X2.out⟩
      | some f =>
        rw [hq] at HS HR
        rw [show spanV (some f) = .tuple #[.int .i64 (f : Nat), .bool true] from rfl] at HS
        go_wp2_with fail
        refine HS.out.mono ?_
        rintro e w2 ⟨rfl, hb2⟩
        have X2 := Lib.hid (X1.out.trans (hb2.mono X1.out.size))
        clear hb2
        go_wp2_with fail
        go_ret
        exact ⟨by rw [HR.out]; rfl, X2.out⟩
    · have q1 : (kd == 1) = false := beq_eq_false_iff_ne.2 h1
      have HR : Hid (fromS most b ⟨kd, p⟩ = none) := Lib.hid (by rw [fromS, if_neg h0, if_neg h1])
      clear hb hp hr h0 h1
      go_enter Tryd.func23, Tryd.ntmps23
      go_wp2_with fail
      go_ret
      exact ⟨by rw [HR.out]; rfl, X0.out⟩

def hitV (k : Option (Nat × Nat)) : Value := match k with | some (i, f) => .tuple #[.int .i64 ((i : Nat) : Int), .int .i64 ((f : Nat) : Int)] | none => .tuple #[.int .i64 (-1), .int .i64 0]
set_option maxRecDepth 100000 in
set_option maxHeartbeats 4000000 in
theorem RHit_is {S : Nat → Prop} (most : Int) (hm : 1 ≤ most ∧ most ≤ 1048576) (b : List Nat) (hb : ∀ d ∈ b, d < 256) (hn : b.length ≤ 140737488351232) (v : Value) (l : List Brc) (w : World) (h : Brs S w v l) (hx : ∀ x ∈ l, BrIn x) (hr : ∀ x ∈ l, wrongB x = 0) (hl : l.length ≤ 1048576) :
    Calls Tryd.prog 13 #[.int .i64 most, .string (str b), v] w fun e w' => e = .returned (hitV (hitS most b l)) ∧ Below w.heap.size w w' := by
  obtain ⟨A, c, rfl, hle⟩ := h.form
  have HB := Lib.hid h
  have HX := Lib.hid hx
  have HF := Lib.hid (fun (x : Brc) (hxl : x ∈ l) W => Rfrom_is most hm b hb hn x (hx x hxl) (fun hk => by
    have h2 := hr x hxl
    unfold wrongB at h2
    rwa [if_neg (by omega), if_pos hk] at h2) W)
  clear h hx hr hb
  go_enter Tryd.func13, Tryd.ntmps13
  go_wp2_with fail
  go_loopw [8] (fun iv wr => ∃ i : Nat, i ≤ l.length ∧ iv = .int .i64 (i : Nat) ∧ Hid (Below w.heap.size w wr) ∧ Hid (hitS most b l = hitFrom most b (l.drop i) i)) (fun iv _ => l.length - (intOf iv).toNat)
  case atStart => exact ⟨0, by omega, rfl, Lib.hid (Below.refl _ w), Lib.hid rfl⟩
  case round =>
    obtain ⟨i, hi, rfl, HW, HH⟩ := hrel
    by_cases hlt : i < l.length
    · obtain ⟨x, hx⟩ : ∃ x, l[i]? = some x := ⟨_, List.getElem?_eq_getElem hlt⟩
      obtain ⟨bb, o, rfl, -, c0, c1⟩ := (SlI.below brc_ok HB.out HW.out).at_ hx
      have HC := Lib.hid (HF.out x (List.mem_of_getElem? hx) wr)
      have HD := Lib.hid (hit_drop (most := most) (b := b) hx)
      have hr1 : decide ((i : Int) < (l.length : Int)) = true := decide_eq_true (by omega)
      clear hx
      cases hq : fromS most b x with
      | none =>
        rw [hq] at HC HD
        rw [show fromV none = .int .i64 (-1) from rfl] at HC
        have HN : Hid (hitS most b l = hitFrom most b (l.drop (i + 1)) (i + 1)) := Lib.hid (HH.out.trans HD.out)
        clear HD hq
        go_wp2_with fail
        refine HC.out.mono ?_
        rintro e w1 ⟨rfl, hb1⟩
        have X1 := Lib.hid (HW.out.trans (hb1.mono HW.out.size))
        clear hb1
        go_wp2_with fail
        go_roundw
        case rel => exact ⟨i + 1, by omega, by go_num, X1, HN⟩
        case measure => simp [intOf]; omega
      | some f =>
        rw [hq] at HC HD
        rw [show fromV (some f) = .int .i64 ((f : Nat) : Int) from rfl] at HC
        have HN : Hid (hitS most b l = some (i, f)) := Lib.hid (HH.out.trans HD.out)
        have q1 : decide ((0 : Int) ≤ (f : Int)) = true := decide_eq_true (by omega)
        clear HD hq
        go_wp2_with fail
        refine HC.out.mono ?_
        rintro e w1 ⟨rfl, hb1⟩
        have X1 := Lib.hid (HW.out.trans (hb1.mono HW.out.size))
        clear hb1
        go_wp2_with fail
        go_ret2
        exact ⟨by rw [HN.out]; rfl, X1.out⟩
    · obtain rfl : i = l.length := by omega
      have HN : Hid (hitS most b l = none) := Lib.hid (by rw [HH.out, List.drop_of_length_le (Nat.le_refl _)]; rfl)
      have hr1 : decide ((l.length : Int) < (l.length : Int)) = false := decide_eq_false (by omega)
      go_wp2_with fail
      go_ret2
      exact ⟨by rw [HN.out]; rfl, HW.out⟩

def firstV (k : Option (Nat × Nat × Nat)) : Value := match k with | some (i, f, e) => .tuple #[.int .i64 ((i : Nat) : Int), .int .i64 ((f : Nat) : Int), .int .i64 ((e : Nat) : Int)] | none => .tuple #[.int .i64 (-1), .int .i64 0, .int .i64 0]
set_option maxRecDepth 100000 in
set_option maxHeartbeats 4000000 in
theorem RFirst_is {S : Nat → Prop} (most : Int) (hm : 1 ≤ most ∧ most ≤ 1048576) (b : List Nat) (hb : ∀ d ∈ b, d < 256) (hn : b.length ≤ 140737488351232) (v : Value) (l : List Brc) (w : World) (h : Brs S w v l) (hx : ∀ x ∈ l, BrIn x) (hr : ∀ x ∈ l, wrongB x = 0) (hl : l.length ≤ 1048576) :
    Calls Tryd.prog 19 #[.int .i64 most, .string (str b), v] w fun e w' => e = .returned (firstV (firstHit most b l)) ∧ Below w.heap.size w w' := by
  have hsb := str_len b
  have HF := Lib.hid (fun (k : Nat) W (hW : Below w.heap.size w W) => RHit_is most hm (b.take k) (fun d hd => hb d (List.mem_of_mem_take hd)) (by rw [List.length_take]; omega) v l W (SlI.below brc_ok h hW) hx hr hl)
  have hrun : ∀ k : Nat, k ≤ b.length → ∀ W, (Instr.slice 9 (.string (str b)) none (some (.int .i64 (k : Nat))) none).run Tryd.prog W = .ok (.string (str (b.take k))) W := fun k hk W => run_strg_upto b k hk W
  have HRUN := Lib.hid hrun
  clear h hx hr hb hrun
  go_enter Tryd.func19, Tryd.ntmps19
  go_wp2_with fail
  go_loopw [9] (fun iv wr => ∃ e : Nat, e ≤ b.length + 1 ∧ iv = .int .i64 (e : Nat) ∧ Hid (Below w.heap.size w wr) ∧ Hid (∀ k, k < e → hitS most (b.take k) l = none)) (fun iv _ => b.length + 1 - (intOf iv).toNat)
  case atStart => exact ⟨0, by omega, rfl, Lib.hid (Below.refl _ w), Lib.hid fun k hk => by omega⟩
  case round =>
    obtain ⟨e, he, rfl, HW, HN⟩ := hrel
    by_cases hle : e ≤ b.length
    · have hr1 : decide ((e : Int) ≤ (b.length : Int)) = true := decide_eq_true (by omega)
      have hrk := HRUN.out e hle
      have HC := Lib.hid (HF.out e wr HW.out)
      have HFI : Hid (∀ i f, hitS most (b.take e) l = some (i, f) → firstHit most b l = some (i, f, e)) := Lib.hid fun i f h => first_is hle h HN.out
      have HNX : Hid (hitS most (b.take e) l = none → ∀ k, k < e + 1 → hitS most (b.take k) l = none) := Lib.hid fun h k hk => by
        rcases Nat.lt_or_ge k e with h2 | h2
        · exact HN.out k h2
        · obtain rfl : k = e := by omega
          exact h
      generalize str (b.take e) = sb at *
      cases hq : hitS most (b.take e) l with
      | none =>
        rw [hq] at HC
        rw [show hitV none = .tuple #[.int .i64 (-1), .int .i64 0] from rfl] at HC
        have HN2 := Lib.hid (HNX.out hq)
        clear HNX HFI HN hq
        go_wp2_with fail
        refine HC.out.mono ?_
        rintro e2 w1 ⟨rfl, hb1⟩
        have X1 := Lib.hid (HW.out.trans (hb1.mono HW.out.size))
        clear hb1
        go_wp2_with fail
        go_roundw
        case rel => exact ⟨e + 1, by omega, by go_num, X1, HN2⟩
        case measure => simp [intOf]; omega
      | some p =>
        obtain ⟨i, f⟩ := p
        rw [hq] at HC
        rw [show hitV (some (i, f)) = .tuple #[.int .i64 ((i : Nat) : Int), .int .i64 ((f : Nat) : Int)] from rfl] at HC
        have HR := Lib.hid (HFI.out i f hq)
        have q1 : decide ((0 : Int) ≤ (i : Int)) = true := decide_eq_true (by omega)
        clear HNX HFI HN hq
        go_wp2_with fail
        refine HC.out.mono ?_
        rintro e2 w1 ⟨rfl, hb1⟩
        have X1 := Lib.hid (HW.out.trans (hb1.mono HW.out.size))
        clear hb1
        go_wp2_with fail
        go_ret3
        exact ⟨by rw [HR.out]; rfl, X1.out⟩
    · have hr1 : decide ((e : Int) ≤ (b.length : Int)) = false := decide_eq_false (by omega)
      have HR : Hid (firstHit most b l = none) := Lib.hid (first_no fun k hk => HN.out k (by omega))
      go_wp2_with fail
      go_ret3
      exact ⟨by rw [HR.out]; rfl, HW.out⟩
end Go.Proofs.YtcipljpalohjiaaDoor
