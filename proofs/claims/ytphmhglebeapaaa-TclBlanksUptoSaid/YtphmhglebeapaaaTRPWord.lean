/-
  The document's printed word.
  Conditions: bytes, at most 12001 parts of at most 12001 bytes.
-/
import Derived.Test.YtphmhglebeapaaaTRText
import Derived.Test.YtphmhglebeapaaaTRBr
namespace Go.Proofs.Ytphmhglebeapaaa
open Go.RowKit

/-- Parts, one by one. -/
def okAt (ps : List Prt) (j : Nat) (p : Prt) : Prop := if p.var then nameOk p.s else p.s ≠ [] ∧ (0 < j → ∃ q, ps[j - 1]? = some q ∧ q.var = true)
theorem partsOk_iff : ∀ (ps : List Prt) (after : Bool), partsOk after ps ↔ ∀ (j : Nat) (p : Prt), ps[j]? = some p → (if p.var then nameOk p.s else p.s ≠ [] ∧ (j = 0 → after = false) ∧ (0 < j → ∃ q, ps[j - 1]? = some q ∧ q.var = true))
  | [], after => by simp [partsOk]
  | a :: ps, after => by
    have ih := fun b => partsOk_iff ps b
    unfold partsOk
    constructor
    · intro h j p hp
      cases j with
      | zero =>
        simp at hp; subst hp
        by_cases hv : a.var = true
        · rw [if_pos hv] at h ⊢; exact h.1
        · rw [if_neg hv] at h ⊢; exact ⟨h.1, fun _ => h.2.1, fun h => by omega⟩
      | succ j =>
        simp at hp
        by_cases hv : a.var = true
        · rw [if_pos hv] at h
          have h1 := (ih false).1 h.2 j p hp
          by_cases hpv : p.var = true
          · rw [if_pos hpv] at h1 ⊢; exact h1
          · rw [if_neg hpv] at h1 ⊢
            refine ⟨h1.1, fun h => by omega, fun _ => ?_⟩
            cases j with
            | zero => exact ⟨a, rfl, hv⟩
            | succ j => have := h1.2.2 (by omega); simpa using this
        · rw [if_neg hv] at h
          have h1 := (ih true).1 h.2.2 j p hp
          by_cases hpv : p.var = true
          · rw [if_pos hpv] at h1 ⊢; exact h1
          · rw [if_neg hpv] at h1 ⊢
            refine ⟨h1.1, fun h => by omega, fun _ => ?_⟩
            cases j with
            | zero => have := h1.2.1 rfl; cases this
            | succ j => have := h1.2.2 (by omega); simpa using this
    · intro h
      have h0 := h 0 a rfl
      have hs : ∀ (b : Bool), (b = true → a.var = false) → partsOk b ps := fun b hb => (ih b).2 fun j p hp => by
        have h1 := h (j + 1) p (by simpa using hp)
        by_cases hpv : p.var = true
        · rw [if_pos hpv] at h1 ⊢; exact h1
        · rw [if_neg hpv] at h1 ⊢
          refine ⟨h1.1, fun hj => ?_, fun hj => ?_⟩
          · obtain ⟨q, hq, hqv⟩ := h1.2.2 (by omega)
            subst hj
            simp at hq; subst hq
            cases b with
            | false => rfl
            | true => rw [hb rfl] at hqv; cases hqv
          · have := h1.2.2 (by omega)
            obtain ⟨m, rfl⟩ : ∃ m, j = m + 1 := ⟨j - 1, by omega⟩
            simpa using this
      by_cases hv : a.var = true
      · rw [if_pos hv] at h0 ⊢; exact ⟨h0, hs false (by simp)⟩
      · rw [if_neg hv] at h0 ⊢; exact ⟨h0.1, h0.2.1 rfl, hs true (fun _ => by simpa using hv)⟩
theorem partsOk_at (ps : List Prt) : partsOk false ps ↔ ∀ (j : Nat) (p : Prt), ps[j]? = some p → okAt ps j p := by
  rw [partsOk_iff]
  refine forall_congr' fun j => forall_congr' fun p => imp_congr_right fun _ => ?_
  unfold okAt
  split
  · exact Iff.rfl
  · exact ⟨fun h => ⟨h.1, h.2.2⟩, fun h => ⟨h.1, fun _ => rfl, h.2⟩⟩
theorem partsT_snoc (kind : Int) : ∀ (ps : List Prt) (bh : Bool) (p : Prt), partsT kind bh (ps ++ [p]) = partsT kind bh ps ++ partT kind (bh || decide (0 < ps.length)) p
  | [], bh, p => by simp [partsT]
  | a :: ps, bh, p => by rw [List.cons_append, partsT, partsT, partsT_snoc kind ps true p]; simp
theorem partsT_take (kind : Int) {ps : List Prt} {i : Nat} {p : Prt} (h : ps[i]? = some p) : partsT kind false (ps.take (i + 1)) = partsT kind false (ps.take i) ++ partT kind (decide (0 < i)) p := by
  have hi := (List.getElem?_eq_some_iff.1 h).1
  rw [List.take_succ_eq_append_getElem hi, (List.getElem?_eq_some_iff.1 h).2, partsT_snoc]
  simp; rw [Nat.min_eq_left (by omega)]
theorem partsT_l4 (kind : Int) (bh : Bool) (ps : List Prt) (h : ∀ p ∈ ps, p.s.length ≤ 12001) : (partsT kind bh ps).length ≤ ps.length * 48005 := by
  induction ps generalizing bh with
  | nil => simp [partsT]
  | cons a ps ih =>
    rw [partsT, List.length_append, List.length_cons]
    have h1 := ih true (fun p hp => h p (List.mem_cons_of_mem _ hp))
    have h2 : (partT kind bh a).length ≤ 48005 := by
      have := h a (by simp)
      unfold partT
      split
      · simp; omega
      · have := textT_l4 kind bh a.s; omega
    rw [Nat.add_mul]; omega
/-- What prints a word. -/
def PWordTo (w : World) (x : Wrd) (e : Ending) (w' : World) : Prop :=
  ∃ (t : List Nat) (r : Bool), e = .returned (.tuple #[.string (str t), .bool r]) ∧ (r = true ↔ wordOk x) ∧ (r = true → t = wordT x) ∧ Below w.heap.size w w'
theorem PWordTo.no {w w' : World} {x : Wrd} (h : ¬ wordOk x) (hb : Below w.heap.size w w') : PWordTo w x (.returned (.tuple #[.string ⟨#[]⟩, .bool false])) w' :=
  ⟨[], false, by rw [str_nil], ⟨fun h => by simp at h, fun k => absurd k h⟩, fun h => by simp at h, hb⟩

set_option maxRecDepth 100000 in
set_option maxHeartbeats 4000000 in
theorem Rpword_out {S : Nat → Prop} {w : World} (x : Wrd) {v : Value} (hx : Prts S w v x.parts) (hn : x.parts.length ≤ 12001) (ho : x.kind < 0 ∨ 2 < x.kind ∨ (x.kind = 0 ∧ x.parts.length = 0) ∨ (x.kind = 2 ∧ 1 < x.parts.length)) :
    Calls Try.prog 31 #[.agg #[.int .i64 x.at_, .int .i64 x.kind, v]] w (PWordTo w x) := by
  obtain ⟨A, ca, rfl, _⟩ := hx.form
  have HW0 := Lib.hid ((Below.refl _ w).alloc (Nat.le_refl _) (.cells #[.int .i64 x.at_, .int .i64 x.kind, .slice A x.parts.length ca] 44) : Below w.heap.size w _)
  have HS : Hid (¬ wordOk x) := Lib.hid fun h => by
    rcases h with ⟨h1, h2, _⟩ | ⟨h1, _⟩ | ⟨h1, h2, _⟩
    · rcases ho with h | h | h | h
      · omega
      · omega
      · exact h2 (List.length_eq_zero_iff.1 h.2)
      · omega
    · omega
    · rcases ho with h | h | h | h
      · omega
      · omega
      · omega
      · rcases h2 with h2 | ⟨s, h2, _⟩
        · rw [h2] at h; simp at h
        · rw [h2] at h; simp at h
  clear hx
  by_cases h1 : x.kind < 0
  · have r1 : decide (x.kind < 0) = true := decide_eq_true h1
    clear ho h1
    go_enter Try.func31, Try.ntmps31
    go_wp2_with fail
    go_ret2
    exact PWordTo.no HS.out HW0.out
  · have r1 : decide (x.kind < 0) = false := decide_eq_false h1
    by_cases h2 : 2 < x.kind
    · have r2 : decide (2 < x.kind) = true := decide_eq_true h2
      clear ho h1 h2
      go_enter Try.func31, Try.ntmps31
      go_wp2_with fail
      go_ret2
      exact PWordTo.no HS.out HW0.out
    · have r2 : decide (2 < x.kind) = false := decide_eq_false h2
      by_cases h3 : x.kind = 0
      · have r3 : (x.kind == 0) = true := by simp [h3]
        have r4 : ((x.parts.length : Int) == 0) = true := beq_iff_eq.2 (by omega)
        clear ho h1 h2 h3
        go_enter Try.func31, Try.ntmps31
        go_wp2_with fail
        go_ret2
        exact PWordTo.no HS.out HW0.out
      · have r3 : (x.kind == 0) = false := by simp [h3]
        have r4 : (x.kind == 2) = true := by simp; omega
        have r5 : decide ((1 : Int) < (x.parts.length : Int)) = true := decide_eq_true (by omega)
        have r5n : decide (1 < x.parts.length) = true := decide_eq_true (by omega)
        clear ho h1 h2 h3
        go_enter Try.func31, Try.ntmps31
        go_wp2_with fail
        go_ret2
        exact PWordTo.no HS.out HW0.out
-- LOOP
set_option maxRecDepth 100000 in
set_option maxHeartbeats 4000000 in
theorem Rpword_0 {S : Nat → Prop} {w : World} (x : Wrd) {v : Value} (hx : Prts S w v x.parts) (hn : x.parts.length ≤ 12001) (hl : bytesW x) (hs : ∀ p ∈ x.parts, p.s.length ≤ 12001) (hk : x.kind = 0) (h0 : x.parts ≠ []) :
    Calls Try.prog 31 #[.agg #[.int .i64 x.at_, .int .i64 x.kind, v]] w (PWordTo w x) := by
  obtain ⟨A, ca, rfl, _⟩ := hx.form
  have HW0 : Hid (Below w.heap.size w _ ∧ Blk _ w.heap.size 44 #[.int .i64 x.at_, .int .i64 x.kind, .slice A x.parts.length ca]) := Lib.hid ⟨(Below.refl _ w).alloc (Nat.le_refl _) (.cells #[.int .i64 x.at_, .int .i64 x.kind, .slice A x.parts.length ca] 44), Blk.new w 44 #[.int .i64 x.at_, .int .i64 x.kind, .slice A x.parts.length ca]⟩
  have HX := Lib.hid hx
  have HL := Lib.hid (fun p hp => hl p hp)
  have HSZ := Lib.hid (fun p hp => hs p hp)
  have HLN : Hid (∀ k : Nat, (partsT x.kind false (x.parts.take k)).length ≤ 576108005) := Lib.hid fun k => by
    have h1 := partsT_l4 x.kind false (x.parts.take k) (fun p hp => hs p (List.mem_of_mem_take hp))
    have h2 := List.length_take_le' k x.parts
    have h3 : (x.parts.take k).length * 48005 ≤ 12001 * 48005 := Nat.mul_le_mul_right _ (by omega)
    omega
  have HTK := Lib.hid (fun (i : Nat) (p : Prt) (h : x.parts[i]? = some p) => partsT_take x.kind h)
  have HOK : Hid (wordOk x ↔ ∀ (j : Nat) (p : Prt), x.parts[j]? = some p → okAt x.parts j p) := Lib.hid (by
    rw [← partsOk_at]; unfold wordOk
    constructor
    · intro h
      rcases h with h | h | h
      · exact h.2.2
      · exact h.2
      · omega
    · intro h; exact .inl ⟨hk, h0, h⟩)
  have HWT : Hid (wordT x = partsT x.kind false x.parts) := Lib.hid (by unfold wordT; rw [if_neg (by omega), if_pos hk, hk])
  have r1 : decide (x.kind < 0) = false := decide_eq_false (by omega)
  have r2 : decide (2 < x.kind) = false := decide_eq_false (by omega)
  have r3 : (x.kind == 0) = true := by simp [hk]
  have r4 : (x.kind == 1) = false := by simp [hk]
  have r5 : (x.kind == 2) = false := by simp [hk]
  have r6 : ((x.parts.length : Int) == 0) = false := beq_eq_false_iff_ne.2 (by have := List.length_pos_iff.2 h0; omega)
  clear h0
  clear hx hl hs hk
  go_enter Try.func31, Try.ntmps31
  go_wp2_with fail
  go_loopw [4, 5] (fun sv iv wr => ∃ i : Nat, i ≤ x.parts.length ∧ iv = .int .i64 (i : Nat) ∧ sv = .string (str (partsT x.kind false (x.parts.take i))) ∧ Hid (Below w.heap.size w wr ∧ Blk wr w.heap.size 44 #[.int .i64 x.at_, .int .i64 x.kind, .slice A x.parts.length ca]) ∧ Hid (∀ (j : Nat) (p : Prt), j < i → x.parts[j]? = some p → okAt x.parts j p)) (fun _ iv _ => x.parts.length - (intOf iv).toNat)
  case atStart => exact ⟨0, by omega, rfl, rfl, HW0, Lib.hid fun j p h => by omega⟩
  case round =>
    obtain ⟨i, hi, rfl, rfl, HW, HE⟩ := hrel
    have b1 := HW.out.2.cell 1
    have b2 := HW.out.2.cell 2
    simp at b1 b2
    by_cases hlt : i < x.parts.length
    · have r7 : decide ((i : Int) < (x.parts.length : Int)) = true := decide_eq_true (by omega)
      have r7n : decide (i < x.parts.length) = true := decide_eq_true hlt
      have ii : (i : Int) < (x.parts.length : Int) := by omega
      obtain ⟨p, hp⟩ : ∃ p, x.parts[i]? = some p := ⟨_, List.getElem?_eq_getElem hlt⟩
      have HXR := HX.out.below prt_ok HW.out.1
      obtain ⟨q, o, rfl, _, pv, ps⟩ := SlI.at_ HXR hp
      have HP := Lib.hid hp
      have HBY := Lib.hid (HL.out p (List.mem_of_getElem? hp))
      have hps := HSZ.out p (List.mem_of_getElem? hp)
      have hsz := str_len p.s
      have HT := Lib.hid (HTK.out i p hp)
      have HNEXT : Hid (okAt x.parts i p → ∀ (j : Nat) (p : Prt), j < i + 1 → x.parts[j]? = some p → okAt x.parts j p) := Lib.hid fun ho j p' hj hp' => by
        rcases Nat.lt_or_ge j i with h | h
        · exact HE.out j p' h hp'
        · have e : j = i := by omega
          subst e
          rw [HP.out] at hp'; injection hp' with hp'; subst hp'; exact ho
      have hz0 := HLN.out i
      have hzl := str_len (partsT x.kind false (x.parts.take i))
      have hzl2 := HLN.out (i + 1)
      have HNO : Hid (¬ okAt x.parts i p → ¬ wordOk x) := Lib.hid fun h k => h (HOK.out.1 k i p HP.out)
      have HXW := Lib.hid HXR
      clear hp HXR
      obtain ⟨Z, hZ⟩ : ∃ Z, Z = partsT x.kind false (x.parts.take i) := ⟨_, rfl⟩
      rw [← hZ] at HT hz0 hzl ⊢
      obtain ⟨Z', hZ'⟩ : ∃ Z', Z' = partsT x.kind false (x.parts.take (i + 1)) := ⟨_, rfl⟩
      rw [← hZ'] at HT hzl2
      have HZ := Lib.hid hZ'
      clear hZ hZ'
      go_upto_region 8 with (fail)
      have hb5 : Below wr.heap.size wr (wr.alloc (.cells #[.bool p.var, .string (str p.s)] 47)) := (Below.refl _ wr).alloc (Nat.le_refl _) _
      have HPB := Lib.hid (Blk.new wr 47 #[.bool p.var, .string (str p.s)])
      have HW5 := Lib.hid (And.intro (HW.out.1.trans (hb5.mono HW.out.1.size)) (HW.out.2.below hb5 HW.out.2.lt))
      have HX5 := Lib.hid (HXW.out.below prt_ok hb5)
      clear hb5 HW HXW b1 b2 pv ps
      generalize wr.alloc _ = W5 at *
      generalize wr.heap.size = pz at *
      have b0 := HW5.out.2.cell 0
      have b1 := HW5.out.2.cell 1
      have b2 := HW5.out.2.cell 2
      have p0 := HPB.out.cell 0
      have p1 := HPB.out.cell 1
      simp at b0 b1 b2 p0 p1
      cases hv : p.var with
      | true =>
        have HOA : Hid (okAt x.parts i p ↔ nameOk p.s) := Lib.hid (by unfold okAt; rw [if_pos hv])
        have hcat1 : str Z ++ ⟨#[36]⟩ = str (Z ++ [36]) := str_app Z [36]
        have hcat2 : str (Z ++ [36]) ++ str p.s = str (Z ++ [36] ++ p.s) := str_app (Z ++ [36]) p.s
        have hz : (str Z).size + (⟨#[36]⟩ : ByteArray).size ≤ 9223372036854775807 := by rw [str_len]; show Z.length + 1 ≤ _; omega
        have hz1 : (str (Z ++ [36])).size + (str p.s).size ≤ 9223372036854775807 := by rw [str_len, str_len]; simp; omega
        have HQ : Hid (Z ++ [36] ++ p.s = Z') := Lib.hid (by rw [HT.out]; unfold partT; rw [if_pos hv]; simp)
        rw [HQ.out] at hcat2
        rw [hv] at p0
        clear hv
        go_wp2_with fail
        refine (Rname_is p.s HBY.out (by omega) W5).mono ?_
        rintro e w1 ⟨⟨r, rfl, hr⟩, rfl⟩
        cases r with
        | true =>
          have HA := Lib.hid (HNEXT.out (HOA.out.2 (hr.1 rfl)))
          clear hr
          go_wp2_with fail
          go_roundw
          case rel => exact ⟨i + 1, by omega, by go_num, by rw [HZ.out], HW5, HA⟩
          case measure => simp [intOf]; omega
        | false =>
          have HA := Lib.hid (HNO.out (fun h => by have := hr.2 (HOA.out.1 h); cases this))
          clear hr
          go_wp2_with fail
          go_ret2
          exact PWordTo.no HA.out HW5.out.1
      | false =>
        have HOA : Hid (okAt x.parts i p ↔ (p.s ≠ [] ∧ (0 < i → ∃ q, x.parts[i - 1]? = some q ∧ q.var = true))) := Lib.hid (by unfold okAt; rw [if_neg (by simp [hv])])
        have HQ : Hid (Z ++ textT x.kind (decide (0 < i)) p.s = Z') := Lib.hid (by rw [HT.out]; unfold partT; rw [if_neg (by simp [hv])])
        rw [hv] at p0
        have HTX := Lib.hid (Rtext_is x HX5.out i HP.out HBY.out (by omega))
        clear hv
        by_cases hse : p.s = []
        · have HA := Lib.hid (HNO.out (fun h => (HOA.out.1 h).1 hse))
          rw [hse, str_nil] at p1
          clear hse HTX
          go_wp2_with fail
          go_ret2
          exact PWordTo.no HA.out HW5.out.1
        · have hss := str_some hse
          have HSE := Lib.hid hse
          clear hse
          by_cases hi0 : i = 0
          · have r8 : decide ((0 : Int) < (i : Int)) = false := decide_eq_false (by omega)
            have r8n : decide (0 < i) = false := decide_eq_false (by omega)
            have HA := Lib.hid (HNEXT.out (HOA.out.2 ⟨HSE.out, fun h => by omega⟩))
            clear hi0
            have hcat := str_app Z (textT x.kind (decide (0 < i)) p.s)
            have hz : (str Z).size + (str (textT x.kind (decide (0 < i)) p.s)).size ≤ 9223372036854775807 := by rw [str_len, str_len]; have := textT_l4 x.kind (decide (0 < i)) p.s; omega
            rw [HQ.out] at hcat
            generalize textT x.kind (decide (0 < i)) p.s = tx at *
            go_wp2_with fail
            refine HTX.out.mono ?_
            rintro e w6 ⟨rfl, hb6⟩
            have HW6 := Lib.hid (And.intro (HW5.out.1.trans (hb6.mono HW5.out.1.size)) (HW5.out.2.below hb6 HW5.out.2.lt))
            clear hb6
            go_wp2_with fail
            go_roundw
            case rel => exact ⟨i + 1, by omega, by go_num, by rw [HZ.out], HW6, HA⟩
            case measure => simp [intOf]; omega
          · have r8 : decide ((0 : Int) < (i : Int)) = true := decide_eq_true (by omega)
            have r8n : decide (0 < i) = true := decide_eq_true (by omega)
            obtain ⟨p', hp'⟩ : ∃ p', x.parts[i - 1]? = some p' := ⟨_, List.getElem?_eq_getElem (by omega)⟩
            obtain ⟨q', o', e, _, pv', _⟩ := SlI.at_ HX5.out hp'
            cases e
            have i1 : ((i - 1 : Nat) : Int) = (i : Int) - 1 := by omega
            have HI1 := Lib.hid i1
            have ii1 : (i : Int) - 1 < (x.parts.length : Int) := by omega
            have ii0 : (0 : Int) ≤ (i : Int) - 1 := by omega
            have ii2 : ((i : Int) - 1).toNat = i - 1 := by omega
            cases hv' : p'.var with
            | true =>
              have HA := Lib.hid (HNEXT.out (HOA.out.2 ⟨HSE.out, fun _ => ⟨p', hp', hv'⟩⟩))
              rw [hv'] at pv'
              clear hi0 hp' hv' i1
              have hcat := str_app Z (textT x.kind (decide (0 < i)) p.s)
              have hz : (str Z).size + (str (textT x.kind (decide (0 < i)) p.s)).size ≤ 9223372036854775807 := by rw [str_len, str_len]; have := textT_l4 x.kind (decide (0 < i)) p.s; omega
              rw [HQ.out] at hcat
              generalize textT x.kind (decide (0 < i)) p.s = tx at *
              go_wp2_with fail
              refine HTX.out.mono ?_
              rintro e w6 ⟨rfl, hb6⟩
              have HW6 := Lib.hid (And.intro (HW5.out.1.trans (hb6.mono HW5.out.1.size)) (HW5.out.2.below hb6 HW5.out.2.lt))
              clear hb6
              go_wp2_with fail
              go_roundw
              case rel => exact ⟨i + 1, by omega, by go_num, by rw [HZ.out], HW6, HA⟩
              case measure => simp [intOf]; omega
            | false =>
              have HA := Lib.hid (HNO.out (fun h => by
                obtain ⟨y, hy, hyv⟩ := (HOA.out.1 h).2 (by omega)
                rw [hp'] at hy; injection hy with hy; subst hy; rw [hv'] at hyv; cases hyv))
              rw [hv'] at pv'
              clear hi0 hp' hv' HTX i1
              go_wp2_with fail
              go_ret2
              exact PWordTo.no HA.out HW5.out.1
    · have r7 : decide ((i : Int) < (x.parts.length : Int)) = false := decide_eq_false (by omega)
      have r7n : decide (i < x.parts.length) = false := decide_eq_false hlt
      have hz0 := HLN.out i
      have HALL : Hid (wordOk x) := Lib.hid (HOK.out.2 fun j p hj => HE.out j p (by have := (List.getElem?_eq_some_iff.1 hj).1; omega) hj)
      have htk : x.parts.take i = x.parts := List.take_of_length_le (by omega)
      rw [htk] at hz0 ⊢
      clear hlt htk
      obtain ⟨Z, hZ⟩ : ∃ Z, Z = partsT x.kind false x.parts := ⟨_, rfl⟩
      rw [← hZ] at hz0 ⊢
      have HZ := Lib.hid hZ
      clear hZ
      skip
      go_wp2_with fail
      go_ret2
      exact ⟨_, true, rfl, ⟨fun _ => HALL.out, fun _ => rfl⟩, fun _ => by rw [HWT.out, HZ.out], HW.out.1⟩
set_option maxRecDepth 100000 in
set_option maxHeartbeats 4000000 in
theorem Rpword_1 {S : Nat → Prop} {w : World} (x : Wrd) {v : Value} (hx : Prts S w v x.parts) (hn : x.parts.length ≤ 12001) (hl : bytesW x) (hs : ∀ p ∈ x.parts, p.s.length ≤ 12001) (hk : x.kind = 1) :
    Calls Try.prog 31 #[.agg #[.int .i64 x.at_, .int .i64 x.kind, v]] w (PWordTo w x) := by
  obtain ⟨A, ca, rfl, _⟩ := hx.form
  have HW0 : Hid (Below w.heap.size w _ ∧ Blk _ w.heap.size 44 #[.int .i64 x.at_, .int .i64 x.kind, .slice A x.parts.length ca]) := Lib.hid ⟨(Below.refl _ w).alloc (Nat.le_refl _) (.cells #[.int .i64 x.at_, .int .i64 x.kind, .slice A x.parts.length ca] 44), Blk.new w 44 #[.int .i64 x.at_, .int .i64 x.kind, .slice A x.parts.length ca]⟩
  have HX := Lib.hid hx
  have HL := Lib.hid (fun p hp => hl p hp)
  have HSZ := Lib.hid (fun p hp => hs p hp)
  have HLN : Hid (∀ k : Nat, (partsT x.kind false (x.parts.take k)).length ≤ 576108005) := Lib.hid fun k => by
    have h1 := partsT_l4 x.kind false (x.parts.take k) (fun p hp => hs p (List.mem_of_mem_take hp))
    have h2 := List.length_take_le' k x.parts
    have h3 : (x.parts.take k).length * 48005 ≤ 12001 * 48005 := Nat.mul_le_mul_right _ (by omega)
    omega
  have HTK := Lib.hid (fun (i : Nat) (p : Prt) (h : x.parts[i]? = some p) => partsT_take x.kind h)
  have HOK : Hid (wordOk x ↔ ∀ (j : Nat) (p : Prt), x.parts[j]? = some p → okAt x.parts j p) := Lib.hid (by
    rw [← partsOk_at]; unfold wordOk
    constructor
    · intro h
      rcases h with h | h | h
      · exact h.2.2
      · exact h.2
      · omega
    · intro h; exact .inr (.inl ⟨hk, h⟩))
  have HWT : Hid (wordT x = [34] ++ partsT x.kind false x.parts ++ [34]) := Lib.hid (by unfold wordT; rw [if_pos hk, hk])
  have r1 : decide (x.kind < 0) = false := decide_eq_false (by omega)
  have r2 : decide (2 < x.kind) = false := decide_eq_false (by omega)
  have r3 : (x.kind == 0) = false := by simp [hk]
  have r4 : (x.kind == 1) = true := by simp [hk]
  have r5 : (x.kind == 2) = false := by simp [hk]

  clear hx hl hs hk
  go_enter Try.func31, Try.ntmps31
  go_wp2_with fail
  go_loopw [4, 5] (fun sv iv wr => ∃ i : Nat, i ≤ x.parts.length ∧ iv = .int .i64 (i : Nat) ∧ sv = .string (str (partsT x.kind false (x.parts.take i))) ∧ Hid (Below w.heap.size w wr ∧ Blk wr w.heap.size 44 #[.int .i64 x.at_, .int .i64 x.kind, .slice A x.parts.length ca]) ∧ Hid (∀ (j : Nat) (p : Prt), j < i → x.parts[j]? = some p → okAt x.parts j p)) (fun _ iv _ => x.parts.length - (intOf iv).toNat)
  case atStart => exact ⟨0, by omega, rfl, rfl, HW0, Lib.hid fun j p h => by omega⟩
  case round =>
    obtain ⟨i, hi, rfl, rfl, HW, HE⟩ := hrel
    have b1 := HW.out.2.cell 1
    have b2 := HW.out.2.cell 2
    simp at b1 b2
    by_cases hlt : i < x.parts.length
    · have r7 : decide ((i : Int) < (x.parts.length : Int)) = true := decide_eq_true (by omega)
      have r7n : decide (i < x.parts.length) = true := decide_eq_true hlt
      have ii : (i : Int) < (x.parts.length : Int) := by omega
      obtain ⟨p, hp⟩ : ∃ p, x.parts[i]? = some p := ⟨_, List.getElem?_eq_getElem hlt⟩
      have HXR := HX.out.below prt_ok HW.out.1
      obtain ⟨q, o, rfl, _, pv, ps⟩ := SlI.at_ HXR hp
      have HP := Lib.hid hp
      have HBY := Lib.hid (HL.out p (List.mem_of_getElem? hp))
      have hps := HSZ.out p (List.mem_of_getElem? hp)
      have hsz := str_len p.s
      have HT := Lib.hid (HTK.out i p hp)
      have HNEXT : Hid (okAt x.parts i p → ∀ (j : Nat) (p : Prt), j < i + 1 → x.parts[j]? = some p → okAt x.parts j p) := Lib.hid fun ho j p' hj hp' => by
        rcases Nat.lt_or_ge j i with h | h
        · exact HE.out j p' h hp'
        · have e : j = i := by omega
          subst e
          rw [HP.out] at hp'; injection hp' with hp'; subst hp'; exact ho
      have hz0 := HLN.out i
      have hzl := str_len (partsT x.kind false (x.parts.take i))
      have hzl2 := HLN.out (i + 1)
      have HNO : Hid (¬ okAt x.parts i p → ¬ wordOk x) := Lib.hid fun h k => h (HOK.out.1 k i p HP.out)
      have HXW := Lib.hid HXR
      clear hp HXR
      obtain ⟨Z, hZ⟩ : ∃ Z, Z = partsT x.kind false (x.parts.take i) := ⟨_, rfl⟩
      rw [← hZ] at HT hz0 hzl ⊢
      obtain ⟨Z', hZ'⟩ : ∃ Z', Z' = partsT x.kind false (x.parts.take (i + 1)) := ⟨_, rfl⟩
      rw [← hZ'] at HT hzl2
      have HZ := Lib.hid hZ'
      clear hZ hZ'
      go_upto_region 8 with (fail)
      have hb5 : Below wr.heap.size wr (wr.alloc (.cells #[.bool p.var, .string (str p.s)] 47)) := (Below.refl _ wr).alloc (Nat.le_refl _) _
      have HPB := Lib.hid (Blk.new wr 47 #[.bool p.var, .string (str p.s)])
      have HW5 := Lib.hid (And.intro (HW.out.1.trans (hb5.mono HW.out.1.size)) (HW.out.2.below hb5 HW.out.2.lt))
      have HX5 := Lib.hid (HXW.out.below prt_ok hb5)
      clear hb5 HW HXW b1 b2 pv ps
      generalize wr.alloc _ = W5 at *
      generalize wr.heap.size = pz at *
      have b0 := HW5.out.2.cell 0
      have b1 := HW5.out.2.cell 1
      have b2 := HW5.out.2.cell 2
      have p0 := HPB.out.cell 0
      have p1 := HPB.out.cell 1
      simp at b0 b1 b2 p0 p1
      cases hv : p.var with
      | true =>
        have HOA : Hid (okAt x.parts i p ↔ nameOk p.s) := Lib.hid (by unfold okAt; rw [if_pos hv])
        have hcat1 : str Z ++ ⟨#[36]⟩ = str (Z ++ [36]) := str_app Z [36]
        have hcat2 : str (Z ++ [36]) ++ str p.s = str (Z ++ [36] ++ p.s) := str_app (Z ++ [36]) p.s
        have hz : (str Z).size + (⟨#[36]⟩ : ByteArray).size ≤ 9223372036854775807 := by rw [str_len]; show Z.length + 1 ≤ _; omega
        have hz1 : (str (Z ++ [36])).size + (str p.s).size ≤ 9223372036854775807 := by rw [str_len, str_len]; simp; omega
        have HQ : Hid (Z ++ [36] ++ p.s = Z') := Lib.hid (by rw [HT.out]; unfold partT; rw [if_pos hv]; simp)
        rw [HQ.out] at hcat2
        rw [hv] at p0
        clear hv
        go_wp2_with fail
        refine (Rname_is p.s HBY.out (by omega) W5).mono ?_
        rintro e w1 ⟨⟨r, rfl, hr⟩, rfl⟩
        cases r with
        | true =>
          have HA := Lib.hid (HNEXT.out (HOA.out.2 (hr.1 rfl)))
          clear hr
          go_wp2_with fail
          go_roundw
          case rel => exact ⟨i + 1, by omega, by go_num, by rw [HZ.out], HW5, HA⟩
          case measure => simp [intOf]; omega
        | false =>
          have HA := Lib.hid (HNO.out (fun h => by have := hr.2 (HOA.out.1 h); cases this))
          clear hr
          go_wp2_with fail
          go_ret2
          exact PWordTo.no HA.out HW5.out.1
      | false =>
        have HOA : Hid (okAt x.parts i p ↔ (p.s ≠ [] ∧ (0 < i → ∃ q, x.parts[i - 1]? = some q ∧ q.var = true))) := Lib.hid (by unfold okAt; rw [if_neg (by simp [hv])])
        have HQ : Hid (Z ++ textT x.kind (decide (0 < i)) p.s = Z') := Lib.hid (by rw [HT.out]; unfold partT; rw [if_neg (by simp [hv])])
        rw [hv] at p0
        have HTX := Lib.hid (Rtext_is x HX5.out i HP.out HBY.out (by omega))
        clear hv
        by_cases hse : p.s = []
        · have HA := Lib.hid (HNO.out (fun h => (HOA.out.1 h).1 hse))
          rw [hse, str_nil] at p1
          clear hse HTX
          go_wp2_with fail
          go_ret2
          exact PWordTo.no HA.out HW5.out.1
        · have hss := str_some hse
          have HSE := Lib.hid hse
          clear hse
          by_cases hi0 : i = 0
          · have r8 : decide ((0 : Int) < (i : Int)) = false := decide_eq_false (by omega)
            have r8n : decide (0 < i) = false := decide_eq_false (by omega)
            have HA := Lib.hid (HNEXT.out (HOA.out.2 ⟨HSE.out, fun h => by omega⟩))
            clear hi0
            have hcat := str_app Z (textT x.kind (decide (0 < i)) p.s)
            have hz : (str Z).size + (str (textT x.kind (decide (0 < i)) p.s)).size ≤ 9223372036854775807 := by rw [str_len, str_len]; have := textT_l4 x.kind (decide (0 < i)) p.s; omega
            rw [HQ.out] at hcat
            generalize textT x.kind (decide (0 < i)) p.s = tx at *
            go_wp2_with fail
            refine HTX.out.mono ?_
            rintro e w6 ⟨rfl, hb6⟩
            have HW6 := Lib.hid (And.intro (HW5.out.1.trans (hb6.mono HW5.out.1.size)) (HW5.out.2.below hb6 HW5.out.2.lt))
            clear hb6
            go_wp2_with fail
            go_roundw
            case rel => exact ⟨i + 1, by omega, by go_num, by rw [HZ.out], HW6, HA⟩
            case measure => simp [intOf]; omega
          · have r8 : decide ((0 : Int) < (i : Int)) = true := decide_eq_true (by omega)
            have r8n : decide (0 < i) = true := decide_eq_true (by omega)
            obtain ⟨p', hp'⟩ : ∃ p', x.parts[i - 1]? = some p' := ⟨_, List.getElem?_eq_getElem (by omega)⟩
            obtain ⟨q', o', e, _, pv', _⟩ := SlI.at_ HX5.out hp'
            cases e
            have i1 : ((i - 1 : Nat) : Int) = (i : Int) - 1 := by omega
            have HI1 := Lib.hid i1
            have ii1 : (i : Int) - 1 < (x.parts.length : Int) := by omega
            have ii0 : (0 : Int) ≤ (i : Int) - 1 := by omega
            have ii2 : ((i : Int) - 1).toNat = i - 1 := by omega
            cases hv' : p'.var with
            | true =>
              have HA := Lib.hid (HNEXT.out (HOA.out.2 ⟨HSE.out, fun _ => ⟨p', hp', hv'⟩⟩))
              rw [hv'] at pv'
              clear hi0 hp' hv' i1
              have hcat := str_app Z (textT x.kind (decide (0 < i)) p.s)
              have hz : (str Z).size + (str (textT x.kind (decide (0 < i)) p.s)).size ≤ 9223372036854775807 := by rw [str_len, str_len]; have := textT_l4 x.kind (decide (0 < i)) p.s; omega
              rw [HQ.out] at hcat
              generalize textT x.kind (decide (0 < i)) p.s = tx at *
              go_wp2_with fail
              refine HTX.out.mono ?_
              rintro e w6 ⟨rfl, hb6⟩
              have HW6 := Lib.hid (And.intro (HW5.out.1.trans (hb6.mono HW5.out.1.size)) (HW5.out.2.below hb6 HW5.out.2.lt))
              clear hb6
              go_wp2_with fail
              go_roundw
              case rel => exact ⟨i + 1, by omega, by go_num, by rw [HZ.out], HW6, HA⟩
              case measure => simp [intOf]; omega
            | false =>
              have HA := Lib.hid (HNO.out (fun h => by
                obtain ⟨y, hy, hyv⟩ := (HOA.out.1 h).2 (by omega)
                rw [hp'] at hy; injection hy with hy; subst hy; rw [hv'] at hyv; cases hyv))
              rw [hv'] at pv'
              clear hi0 hp' hv' HTX i1
              go_wp2_with fail
              go_ret2
              exact PWordTo.no HA.out HW5.out.1
    · have r7 : decide ((i : Int) < (x.parts.length : Int)) = false := decide_eq_false (by omega)
      have r7n : decide (i < x.parts.length) = false := decide_eq_false hlt
      have hz0 := HLN.out i
      have HALL : Hid (wordOk x) := Lib.hid (HOK.out.2 fun j p hj => HE.out j p (by have := (List.getElem?_eq_some_iff.1 hj).1; omega) hj)
      have htk : x.parts.take i = x.parts := List.take_of_length_le (by omega)
      rw [htk] at hz0 ⊢
      clear hlt htk
      obtain ⟨Z, hZ⟩ : ∃ Z, Z = partsT x.kind false x.parts := ⟨_, rfl⟩
      rw [← hZ] at hz0 ⊢
      have HZ := Lib.hid hZ
      clear hZ
      have hcat1 : (⟨#[34]⟩ : ByteArray) ++ str Z = str (34 :: Z) := str_app [34] Z
      have hcat2 : str (34 :: Z) ++ ⟨#[34]⟩ = str (34 :: Z ++ [34]) := str_app (34 :: Z) [34]
      have hz : (⟨#[34]⟩ : ByteArray).size + (str Z).size ≤ 9223372036854775807 := by rw [str_len]; show 1 + Z.length ≤ _; omega
      have hz1 : (str (34 :: Z)).size + (⟨#[34]⟩ : ByteArray).size ≤ 9223372036854775807 := by rw [str_len]; show (34 :: Z).length + 1 ≤ _; simp; omega
      go_wp2_with fail
      go_ret2
      exact ⟨_, true, rfl, ⟨fun _ => HALL.out, fun _ => rfl⟩, fun _ => by rw [HWT.out, HZ.out]; rfl, HW.out.1⟩

theorem parts_one {ps : List Prt} (h : ps.length ≤ 1) : ps = [] ∨ ∃ p, ps = [p] := by
  match ps, h with
  | [], _ => exact .inl rfl
  | [p], _ => exact .inr ⟨p, rfl⟩
set_option maxRecDepth 100000 in
set_option maxHeartbeats 4000000 in
theorem Rpword_2 {S : Nat → Prop} {w : World} (x : Wrd) {v : Value} (hx : Prts S w v x.parts) (hn : x.parts.length ≤ 1) (hl : bytesW x) (hs : ∀ p ∈ x.parts, p.s.length ≤ 12001) (hk : x.kind = 2) :
    Calls Try.prog 31 #[.agg #[.int .i64 x.at_, .int .i64 x.kind, v]] w (PWordTo w x) := by
  obtain ⟨A, ca, rfl, _⟩ := hx.form
  have HW0 : Hid (Below w.heap.size w _ ∧ Blk _ w.heap.size 44 #[.int .i64 x.at_, .int .i64 x.kind, .slice A x.parts.length ca]) := Lib.hid ⟨(Below.refl _ w).alloc (Nat.le_refl _) (.cells #[.int .i64 x.at_, .int .i64 x.kind, .slice A x.parts.length ca] 44), Blk.new w 44 #[.int .i64 x.at_, .int .i64 x.kind, .slice A x.parts.length ca]⟩
  have HX := Lib.hid hx
  have HL := Lib.hid (fun p hp => hl p hp)
  have HSZ := Lib.hid (fun p hp => hs p hp)
  have HLN : Hid (∀ k : Nat, ((x.parts.take k).flatMap (·.s)).length ≤ 12001) := Lib.hid fun k => by
    rcases parts_one hn with h | ⟨p, h⟩
    · rw [h]; simp
    · have := hs p (by rw [h]; simp)
      rw [h]; cases k <;> simp; exact this
  have HB : Hid (∀ k : Nat, ∀ c ∈ ((x.parts.take k).flatMap (·.s)), c < 256) := Lib.hid fun k c hc => by
    obtain ⟨p, hp, hc⟩ := List.mem_flatMap.1 hc
    exact hl p (List.mem_of_mem_take hp) c hc
  have HTK : Hid (∀ (i : Nat) (p : Prt), x.parts[i]? = some p → i = 0 ∧ p.s = (x.parts.take (i + 1)).flatMap (·.s)) := Lib.hid (fun i p h => by
    have hi := (List.getElem?_eq_some_iff.1 h).1
    have h0 : i = 0 := by omega
    subst h0
    refine ⟨rfl, ?_⟩
    rw [List.take_succ_eq_append_getElem hi, (List.getElem?_eq_some_iff.1 h).2]; simp)
  have HOK : Hid (wordOk x ↔ (∀ (j : Nat) (p : Prt), x.parts[j]? = some p → p.var = false ∧ p.s ≠ []) ∧ braceS 0 ([123] ++ x.parts.flatMap (·.s) ++ [125]) 0 0 = .ok ((x.parts.flatMap (·.s)).length + 2)) := Lib.hid (by
    unfold wordOk
    constructor
    · intro h
      rcases h with h | h | h
      · omega
      · omega
      · refine ⟨fun j p hj => ?_, h.2.2⟩
        rcases h.2.1 with h | ⟨s, h, hs⟩
        · rw [h] at hj; simp at hj
        · rw [h] at hj
          cases j with
          | succ j => simp at hj
          | zero => simp at hj; subst hj; exact ⟨rfl, hs⟩
    · intro h
      refine .inr (.inr ⟨hk, ?_, h.2⟩)
      rcases parts_one hn with h1 | ⟨p, h1⟩
      · exact .inl h1
      · have h2 := h.1 0 p (by rw [h1]; rfl)
        obtain ⟨pv, ps⟩ := p
        simp at h2
        exact .inr ⟨ps, by rw [h1, h2.1], h2.2⟩)
  have HWT : Hid (wordT x = [123] ++ x.parts.flatMap (·.s) ++ [125]) := Lib.hid (by unfold wordT; rw [if_neg (by omega), if_neg (by omega)])
  have r1 : decide (x.kind < 0) = false := decide_eq_false (by omega)
  have r2 : decide (2 < x.kind) = false := decide_eq_false (by omega)
  have r3 : (x.kind == 0) = false := by simp [hk]
  have r4 : (x.kind == 1) = false := by simp [hk]
  have r5 : (x.kind == 2) = true := by simp [hk]
  have r6 : decide ((1 : Int) < (x.parts.length : Int)) = false := decide_eq_false (by omega)
  have r6n : decide (1 < x.parts.length) = false := decide_eq_false (by omega)
  clear hx hl hs hk
  go_enter Try.func31, Try.ntmps31
  go_wp2_with fail
  go_loopw [4, 5] (fun sv iv wr => ∃ i : Nat, i ≤ x.parts.length ∧ iv = .int .i64 (i : Nat) ∧ sv = .string (str ((x.parts.take i).flatMap (·.s))) ∧ Hid (Below w.heap.size w wr ∧ Blk wr w.heap.size 44 #[.int .i64 x.at_, .int .i64 x.kind, .slice A x.parts.length ca]) ∧ Hid (∀ (j : Nat) (p : Prt), j < i → x.parts[j]? = some p → p.var = false ∧ p.s ≠ [])) (fun _ iv _ => x.parts.length - (intOf iv).toNat)
  case atStart => exact ⟨0, by omega, rfl, rfl, HW0, Lib.hid fun j p h => by omega⟩
  case round =>
    obtain ⟨i, hi, rfl, rfl, HW, HE⟩ := hrel
    have b1 := HW.out.2.cell 1
    have b2 := HW.out.2.cell 2
    simp at b1 b2
    by_cases hlt : i < x.parts.length
    · have r7 : decide ((i : Int) < (x.parts.length : Int)) = true := decide_eq_true (by omega)
      have r7n : decide (i < x.parts.length) = true := decide_eq_true hlt
      have ii : (i : Int) < (x.parts.length : Int) := by omega
      obtain ⟨p, hp⟩ : ∃ p, x.parts[i]? = some p := ⟨_, List.getElem?_eq_getElem hlt⟩
      have HXR := HX.out.below prt_ok HW.out.1
      obtain ⟨q, o, rfl, _, pv, ps⟩ := SlI.at_ HXR hp
      have HP := Lib.hid hp
      have HBY := Lib.hid (HL.out p (List.mem_of_getElem? hp))
      have hps := HSZ.out p (List.mem_of_getElem? hp)
      have hsz := str_len p.s
      have HT := Lib.hid (HTK.out i p hp).2
      have hi0 := (HTK.out i p hp).1
      have r8 : decide ((0 : Int) < (i : Int)) = false := decide_eq_false (by omega)
      have r8n : decide (0 < i) = false := decide_eq_false (by omega)
      have HNEXT : Hid (p.var = false ∧ p.s ≠ [] → ∀ (j : Nat) (p : Prt), j < i + 1 → x.parts[j]? = some p → p.var = false ∧ p.s ≠ []) := Lib.hid fun ho j p' hj hp' => by
        rcases Nat.lt_or_ge j i with h | h
        · exact HE.out j p' h hp'
        · have e : j = i := by omega
          subst e
          rw [HP.out] at hp'; injection hp' with hp'; subst hp'; exact ho
      have HNO : Hid (¬ (p.var = false ∧ p.s ≠ []) → ¬ wordOk x) := Lib.hid fun h k => h ((HOK.out.1 k).1 i p HP.out)
      have hzl := str_len ((x.parts.take i).flatMap (·.s))
      clear hp HXR hi0
      obtain ⟨Z, hZ⟩ : ∃ Z, Z = (x.parts.take i).flatMap (·.s) := ⟨_, rfl⟩
      rw [← hZ] at hzl ⊢
      clear hZ
      go_upto_region 8 with (fail)
      have hb5 : Below wr.heap.size wr (wr.alloc (.cells #[.bool p.var, .string (str p.s)] 47)) := (Below.refl _ wr).alloc (Nat.le_refl _) _
      have HPB := Lib.hid (Blk.new wr 47 #[.bool p.var, .string (str p.s)])
      have HW5 := Lib.hid (And.intro (HW.out.1.trans (hb5.mono HW.out.1.size)) (HW.out.2.below hb5 HW.out.2.lt))
      clear hb5 HW b1 b2 pv ps
      generalize wr.alloc _ = W5 at *
      generalize wr.heap.size = pz at *
      have b0 := HW5.out.2.cell 0
      have b1 := HW5.out.2.cell 1
      have b2 := HW5.out.2.cell 2
      have p0 := HPB.out.cell 0
      have p1 := HPB.out.cell 1
      simp at b0 b1 b2 p0 p1
      cases hv : p.var with
      | true =>
        have HA := Lib.hid (HNO.out (fun h => by rw [hv] at h; cases h.1))
        rw [hv] at p0
        clear hv
        go_wp2_with fail
        refine (Rname_is p.s HBY.out (by omega) W5).mono ?_
        rintro e w1 ⟨⟨r, rfl, hr⟩, rfl⟩
        clear hr
        cases r with
        | true =>
          go_wp2_with fail
          go_ret2
          exact PWordTo.no HA.out HW5.out.1
        | false =>
          go_wp2_with fail
          go_ret2
          exact PWordTo.no HA.out HW5.out.1
      | false =>
        rw [hv] at p0
        by_cases hse : p.s = []
        · have HA := Lib.hid (HNO.out (fun h => h.2 hse))
          rw [hse, str_nil] at p1
          clear hse hv
          go_wp2_with fail
          go_ret2
          exact PWordTo.no HA.out HW5.out.1
        · have hss := str_some hse
          have HA := Lib.hid (HNEXT.out ⟨hv, hse⟩)
          clear hse hv
          go_wp2_with fail
          go_roundw
          case rel => exact ⟨i + 1, by omega, by go_num, by rw [HT.out], HW5, HA⟩
          case measure => simp [intOf]; omega
    · have r7 : decide ((i : Int) < (x.parts.length : Int)) = false := decide_eq_false (by omega)
      have r7n : decide (i < x.parts.length) = false := decide_eq_false hlt
      have hz0 := HLN.out i
      have HBT := Lib.hid (HB.out i)
      have htk : x.parts.take i = x.parts := List.take_of_length_le (by omega)
      have HALL : Hid (∀ (j : Nat) (p : Prt), x.parts[j]? = some p → p.var = false ∧ p.s ≠ []) := Lib.hid fun j p hj => HE.out j p (by have := (List.getElem?_eq_some_iff.1 hj).1; omega) hj
      rw [htk] at hz0 HBT ⊢
      clear hlt htk
      have HOK2 : Hid (wordOk x ↔ braceS 0 ([123] ++ x.parts.flatMap (·.s) ++ [125]) 0 0 = .ok ((x.parts.flatMap (·.s)).length + 2)) := Lib.hid ⟨fun h => (HOK.out.1 h).2, fun h => HOK.out.2 ⟨HALL.out, h⟩⟩
      clear HOK HB HLN HTK
      generalize x.parts.flatMap (·.s) = Z at *
      have hcat1 : (⟨#[123]⟩ : ByteArray) ++ str Z = str (123 :: Z) := str_app [123] Z
      have hcat2 : str (123 :: Z) ++ ⟨#[125]⟩ = str (123 :: Z ++ [125]) := str_app (123 :: Z) [125]
      have hz : (⟨#[123]⟩ : ByteArray).size + (str Z).size ≤ 9223372036854775807 := by rw [str_len]; show 1 + Z.length ≤ _; omega
      have hz1 : (str (123 :: Z)).size + (⟨#[125]⟩ : ByteArray).size ≤ 9223372036854775807 := by rw [str_len]; show (123 :: Z).length + 1 ≤ _; simp; omega
      go_upto_region 23 with (fail)
      have HPO : Hid (PObj (wr.alloc (.cells #[.string (str (123 :: (Z ++ [125]))), .int .i64 0, .int .i64 0, .int .i64 0, .slice none 0 0] 56)) wr.heap.size (123 :: (Z ++ [125])) 0 0 0 (.slice none 0 0)) := Lib.hid (Blk.new wr _ _)
      have hb5 : Below wr.heap.size wr (wr.alloc (.cells #[.string (str (123 :: (Z ++ [125]))), .int .i64 0, .int .i64 0, .int .i64 0, .slice none 0 0] 56)) := (Below.refl _ wr).alloc (Nat.le_refl _) _
      have HW5 := Lib.hid (And.intro (HW.out.1.trans (hb5.mono HW.out.1.size)) (HW.out.2.below hb5 HW.out.2.lt))
      have hold := HW.out.1.size
      have HLB : Hid (∀ c ∈ 123 :: (Z ++ [125]), c < 256) := Lib.hid (by
        intro c hc
        simp at hc
        rcases hc with h | h | h
        · omega
        · exact HBT.out c h
        · omega)
      have hln : (123 :: (Z ++ [125])).length = Z.length + 2 := by simp
      clear hb5 HW b1 b2 hcat1 hcat2 hz hz1
      generalize wr.alloc _ = W5 at *
      generalize wr.heap.size = pb at *
      have HOKL : Hid (wordOk x ↔ braceS 0 (123 :: (Z ++ [125])) 0 0 = .ok (123 :: (Z ++ [125])).length) := Lib.hid (by rw [HOK2.out, hln]; rfl)
      have HWTL : Hid (wordT x = 123 :: (Z ++ [125])) := Lib.hid (by rw [HWT.out]; rfl)
      have hat0 : (123 :: (Z ++ [125]))[0]? = some 123 := rfl
      clear HOK2 HWT HBT
      generalize 123 :: (Z ++ [125]) = l at *
      have hsz := str_len l
      have hlm : l.length ≤ 281474976710656 := by omega
      clear hln
      go_wp2_with fail
      refine (Rbraced_is HPO.out HLB.out hlm hat0).mono ?_
      rintro e w6 ⟨i', e', a', v6, ps6, rfl, hp6, ho6, _, hi6, hm6⟩
      rw [List.drop_zero] at hm6
      have HBE : Hid (Below w.heap.size w w6) := Lib.hid (HW5.out.1.trans (Only.below ho6 HW5.out.1.size (fun q hq e => by omega)))
      have HP6 := Lib.hid hp6
      obtain ⟨c0, c1, c2, _, _⟩ := hp6.cells
      clear hp6 ho6 HPO HLB hat0
      by_cases he : e' = 0
      · have q1 : ((e' : Int) == 0) = true := beq_iff_eq.2 (by omega)
        by_cases hil : i' = l.length
        · have q2 : ((i' : Int) == (l.length : Int)) = true := beq_iff_eq.2 (by omega)
          have HBR : Hid (braceS 0 l 0 0 = .ok l.length) := Lib.hid (by
            cases hbr : braceS 0 l 0 0 with
            | ok j => rw [hbr] at hm6; rw [← hil, hm6.1]
            | error y => rw [hbr] at hm6; exact absurd he hm6.2.2)
          clear he hil hm6
          go_wp2_with fail
          go_quiet (fail)
          go_wp2_with fail
          go_ret2
          have hbe := (HBE.out.trans ((drewN_below w6 nq).mono HBE.out.size))
          exact ⟨l, true, rfl, ⟨fun h => (HOKL.out.2 HBR.out), fun h => (rfl)⟩, fun _ => by rw [HWTL.out], hbe⟩
        · have q2 : ((i' : Int) == (l.length : Int)) = false := beq_eq_false_iff_ne.2 (by omega)
          have HBR : Hid (¬ braceS 0 l 0 0 = .ok l.length) := Lib.hid (fun hbr => by
            rw [hbr] at hm6; exact hil hm6.1)
          clear he hil hm6
          go_wp2_with fail
          go_quiet (fail)
          go_wp2_with fail
          go_ret2
          have hbe := (HBE.out.trans ((drewN_below w6 nq).mono HBE.out.size))
          exact ⟨l, false, rfl, ⟨fun h => (by cases h), fun h => (absurd (HOKL.out.1 h) HBR.out)⟩, fun _ => by rw [HWTL.out], hbe⟩
      · have q1 : ((e' : Int) == 0) = false := beq_eq_false_iff_ne.2 (by omega)
        have HBR : Hid (¬ braceS 0 l 0 0 = .ok l.length) := Lib.hid (fun hbr => by
          rw [hbr] at hm6; exact he hm6.2.1)
        clear he hm6
        go_wp2_with fail
        go_quiet (fail)
        go_wp2_with fail
        go_ret2
        have hbe := (HBE.out.trans ((drewN_below w6 nq).mono HBE.out.size))
        exact ⟨l, false, rfl, ⟨fun h => (by cases h), fun h => (absurd (HOKL.out.1 h) HBR.out)⟩, fun _ => by rw [HWTL.out], hbe⟩

/-- The document's printed word. -/
theorem Rpword_is {S : Nat → Prop} {w : World} (x : Wrd) {v : Value} (hx : Prts S w v x.parts) (hn : x.parts.length ≤ 12001) (hl : bytesW x) (hs : ∀ p ∈ x.parts, p.s.length ≤ 12001) :
    Calls Try.prog 31 #[.agg #[.int .i64 x.at_, .int .i64 x.kind, v]] w (PWordTo w x) := by
  by_cases h : x.kind < 0 ∨ 2 < x.kind ∨ (x.kind = 0 ∧ x.parts.length = 0) ∨ (x.kind = 2 ∧ 1 < x.parts.length)
  · exact Rpword_out x hx hn h
  · by_cases h0 : x.kind = 0
    · exact Rpword_0 x hx hn hl hs h0 (fun e => h (.inr (.inr (.inl ⟨h0, by rw [e]; rfl⟩))))
    · by_cases h1 : x.kind = 1
      · exact Rpword_1 x hx hn hl hs h1
      · exact Rpword_2 x hx (by omega) hl hs (by omega)
end Go.Proofs.Ytphmhglebeapaaa
