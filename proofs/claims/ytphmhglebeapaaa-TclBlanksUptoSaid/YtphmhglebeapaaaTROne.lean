/-
  The document's one: what stands at a place of a quoted or bare word.
  Conditions: a text of at most 16777216 bytes.
-/
import Derived.Test.YtphmhglebeapaaaTRBr
import Derived.Test.YtphmhglebeapaaaTRAdd
import Derived.Test.YtphmhglebeapaaaUptoAll
import Derived.Test.YtphmhglebeapaaaAppRun
namespace Go.Proofs.Ytphmhglebeapaaa
open Go.RowKit

/-- Parts that fit n bytes. -/
def pfit (ps : List Prt) (n : Nat) : Prop := ps.length ≤ n ∧ ∀ p ∈ ps, p.s.length ≤ n
theorem pfit.nil (n : Nat) : pfit [] n := ⟨by simp, by simp⟩
theorem pfit.mono {ps : List Prt} {n m : Nat} (h : pfit ps n) (hm : n ≤ m) : pfit ps m := ⟨by have := h.1; omega, fun p hp => by have := h.2 p hp; omega⟩
theorem pfit.add {ps : List Prt} {n : Nat} (h : pfit ps n) (c : Nat) : pfit (addP ps c) (n + 1) := by
  obtain ⟨h1, h2⟩ := h
  rcases List.eq_nil_or_concat ps with rfl | ⟨l, p, rfl⟩
  · rw [addP_none]; exact ⟨by simp, by simp⟩
  · rw [List.concat_eq_append] at *
    have hg : (l ++ [p]).getLast? = some p := by simp
    by_cases hv : p.var = true
    · rw [addP_lv hg hv]
      refine ⟨by rw [List.length_append]; simp at h1 ⊢; omega, fun x hx => ?_⟩
      rcases List.mem_append.1 hx with hx | hx
      · have := h2 x hx; omega
      · rw [List.mem_singleton.1 hx]; simp
    · rw [addP_lt hg (by simpa using hv), List.dropLast_concat]
      refine ⟨by simp at h1 ⊢; omega, fun x hx => ?_⟩
      rcases List.mem_append.1 hx with hx | hx
      · have := h2 x (by simp [hx]); omega
      · rw [List.mem_singleton.1 hx]
        have := h2 p (by simp)
        simp; omega
theorem oneS_fit {l : List Nat} {i op n : Nat} {ps ps' : List Prt} {k : Nat} (h : oneS l i op ps = .ok (ps', k)) (hp : pfit ps n) : pfit ps' (n + k) := by
  cases l with
  | nil => rw [oneS] at h; injection h with h; injection h with h1 h2; subst h1 h2; exact hp.mono (by omega)
  | cons c r =>
    unfold oneS at h
    dsimp only at h
    split at h
    · split at h
      · cases h
      · injection h with h; injection h with h1 h2; subst h1 h2; exact (hp.add _).mono (by omega)
    · split at h
      · cases h
      · split at h
        · cases h
        · split at h
          · injection h with h; injection h with h1 h2; subst h1 h2
            refine ⟨by rw [List.length_append, List.length_singleton]; have := hp.1; omega, fun x hx => ?_⟩
            rcases List.mem_append.1 hx with hx | hx
            · have := hp.2 x hx; omega
            · rw [List.mem_singleton.1 hx]; dsimp only; omega
          · injection h with h; injection h with h1 h2; subst h1 h2; exact hp.add _

/-- What one tells and leaves. -/
def OneTo (w0 w : World) (b : Nat) (l : List Nat) (i op : Nat) (cv : Value) (g : Option Nat) (ps : List Prt) (r : Ending) (w' : World) : Prop :=
  ∃ A c g' ps' i' e' a', r = .returned (.slice A (List.length ps') c) ∧ PRow w0 w' g' (.slice A (List.length ps') c) ps' ∧ PObj w' b l i' e' a' cv ∧ Only (fun q => q = b ∨ g = some q) w w' ∧
    match oneS (l.drop i) i op ps with
    | .ok (qs, k) => ps' = qs ∧ i' = i + k ∧ e' = 0
    | .error (p, c) => ps' = ps ∧ e' = c ∧ a' = p ∧ e' ≠ 0 ∧ i' = i
theorem PRow.only {w0 W W' : World} {b : Nat} {g : Option Nat} {v : Value} {ps : List Prt} (h : PRow w0 W g v ps) (ho : OnlyP b W W') (hb : b < w0.heap.size) : PRow w0 W' g v ps :=
  URow.still noSub_ok h (Still.of_only ho fun q _ hq e => by omega)
theorem PObj.only {W W' : World} {b i e a : Nat} {g : Option Nat} {l : List Nat} {cv : Value} {w0 : World} {v : Value} {ps : List Prt} (h : PObj W b l i e a cv) (hr : PRow w0 W g v ps) (hb : b < w0.heap.size) (ho : Only (fun q => g = some q) W W') : PObj W' b l i e a cv :=
  Blk.only h ho fun e => by have := hr.own e; omega

/-! ### Names -/
theorem run_more {l : List Nat} {j n : Nat} (h : n < (nameRun (l.drop j)).length) : ∃ d, l[j + n]? = some d ∧ nameB d = true := by
  have h1 : (nameRun (l.drop j))[n]? = some ((nameRun (l.drop j))[n]) := List.getElem?_eq_getElem h
  have hp : nameRun (l.drop j) <+: l.drop j := List.takeWhile_prefix nameB
  obtain ⟨t, ht⟩ := hp
  refine ⟨(nameRun (l.drop j))[n], ?_, List.all_eq_true.1 (List.all_takeWhile (p := nameB) (l := l.drop j)) _ (List.getElem_mem h)⟩
  · have h2 := List.getElem?_append_left (l₂ := t) h
    rw [ht] at h2
    rw [← List.getElem?_drop, h2]; exact h1
theorem run_last {l : List Nat} {j : Nat} : ∀ d, l[j + (nameRun (l.drop j)).length]? = some d → nameB d = false := by
  intro d hd
  rw [← List.getElem?_drop] at hd
  generalize l.drop j = r at *
  induction r with
  | nil => simp at hd
  | cons c r ih =>
    unfold nameRun at *
    rw [List.takeWhile_cons] at hd
    split at hd
    · simp at hd; exact ih hd
    · rename_i hc
      simp at hd; subst hd; simpa using hc
theorem run_mid {l : List Nat} {j : Nat} : (l.take (j + (nameRun (l.drop j)).length)).drop j = nameRun (l.drop j) := by
  rw [List.drop_take]
  have : j + (nameRun (l.drop j)).length - j = (nameRun (l.drop j)).length := by omega
  rw [this]
  have hp : nameRun (l.drop j) <+: l.drop j := List.takeWhile_prefix nameB
  obtain ⟨t, ht⟩ := hp
  generalize nameRun (l.drop j) = r at *
  rw [← ht]; simp

/-! ### Steps of one -/
section
variable {l : List Nat} {i : Nat} (op : Nat) (ps : List Prt)
theorem one_back_end (h : l[i]? = some 92) (hi : i + 1 = l.length) : oneS (l.drop i) i op ps = .error (op, 5) := by
  rw [dropc h, oneS, if_pos rfl, if_pos (by rw [List.drop_eq_nil_iff]; omega)]
theorem one_back (h : l[i]? = some 92) (hi : i + 1 < l.length) : oneS (l.drop i) i op ps = .ok (addP ps (escL (l.drop (i + 1))).1, 1 + (escL (l.drop (i + 1))).2) := by
  rw [dropc h, oneS, if_pos rfl, if_neg (by rw [List.drop_eq_nil_iff]; omega)]
theorem one_open (h : l[i]? = some 91) : oneS (l.drop i) i op ps = .error (i, 4) := by
  rw [dropc h, oneS, if_neg (by omega), if_pos rfl]
theorem one_long_ (h : l[i]? = some 36) (hr : 64 < (nameRun (l.drop (i + 1))).length) : oneS (l.drop i) i op ps = .error (i, 6) := by
  rw [dropc h, oneS, if_neg (by omega), if_neg (by omega), if_pos ⟨rfl, hr⟩]
theorem one_name_ (h : l[i]? = some 36) (hr : ¬ 64 < (nameRun (l.drop (i + 1))).length) (h0 : 0 < (nameRun (l.drop (i + 1))).length) : oneS (l.drop i) i op ps = .ok (ps ++ [⟨true, nameRun (l.drop (i + 1))⟩], 1 + (nameRun (l.drop (i + 1))).length) := by
  rw [dropc h, oneS, if_neg (by omega), if_neg (by omega), if_neg (fun e => hr e.2), if_pos ⟨rfl, List.length_pos_iff.1 h0⟩]
theorem one_else {c : Nat} (h : l[i]? = some c) (h1 : c ≠ 92) (h2 : c ≠ 91) (h3 : c = 36 → (nameRun (l.drop (i + 1))).length = 0) : oneS (l.drop i) i op ps = .ok (addP ps c, 1) := by
  rw [dropc h, oneS, if_neg h1, if_neg h2, if_neg (fun e => by have := h3 e.1; omega), if_neg (fun e => e.2 (List.length_eq_zero_iff.1 (h3 e.1)))]
end
/-- Where one is while it looks. -/
def OneSt (w0 w W : World) (b : Nat) (l : List Nat) (i a : Nat) (cv : Value) (g : Option Nat) (v : Value) (ps : List Prt) : Prop :=
  PObj W b l i 0 a cv ∧ PRow w0 W g v ps ∧ Only (fun q => q = b ∨ g = some q) w W ∧ w0.heap.size ≤ W.heap.size
theorem OneSt.below {w0 w W W' : World} {b i a : Nat} {l : List Nat} {cv v : Value} {g : Option Nat} {ps : List Prt} (h : OneSt w0 w W b l i a cv g v ps) (hb : Below W.heap.size W W') : OneSt w0 w W' b l i a cv g v ps :=
  ⟨h.1.below hb, URow.below noSub_ok h.2.1 hb, h.2.2.1.trans (Only.of_below hb (Nat.le_refl _) _) (fun _ _ e => e), Nat.le_trans h.2.2.2 hb.size⟩
/-- The end of each way: nothing is added, or a byte. -/
theorem OneTo.bad {w0 w W W' : World} {b i op p c : Nat} {l : List Nat} {cv : Value} {g : Option Nat} {A : Option Addr} {c0 : Nat} {ps : List Prt} (hb : b < w0.heap.size) (hr : PRow w0 W g (.slice A ps.length c0) ps) (ho : Only (fun q => q = b ∨ g = some q) w W) (hp : PObj W' b l i c p cv) (ho' : OnlyP b W W') (hc : c ≠ 0) (h : oneS (l.drop i) i op ps = .error (p, c)) : OneTo w0 w b l i op cv g ps (.returned (.slice A ps.length c0)) W' := by
  refine ⟨A, c0, g, ps, i, c, p, rfl, hr.only ho' hb, hp, ho.trans ho' (fun _ _ e => .inl e), ?_⟩
  rw [h]
  exact ⟨rfl, rfl, rfl, hc, rfl⟩
theorem OneTo.good {w0 w W W' : World} {b i j op a k : Nat} {l : List Nat} {cv : Value} {g : Option Nat} {ps qs : List Prt} {r : Ending} (hb : b < w0.heap.size) {v : Value} (hr : PRow w0 W g v ps) (ho : Only (fun q => q = b ∨ g = some q) w W) (hp : PObj W b l j 0 a cv) (ha : AddTo w0 W g qs r W') (hj : j = i + k) (h : oneS (l.drop i) i op ps = .ok (qs, k)) : OneTo w0 w b l i op cv g ps r W' := by
  obtain ⟨A, c, g', rfl, h1, h2⟩ := ha
  refine ⟨A, c, g', qs, j, 0, a, rfl, h1, hp.only hr hb h2, ho.trans h2 (fun _ _ e => .inr e), ?_⟩
  rw [h]
  exact ⟨rfl, hj, rfl⟩

set_option maxRecDepth 100000 in
set_option maxHeartbeats 4000000 in
theorem Rone_is {w0 w : World} {b i a op : Nat} {l : List Nat} {cv : Value} {g : Option Nat} {A : Option Addr} {n c0 : Nat} {ps : List Prt} (h : PObj w b l i 0 a cv) (hr : PRow w0 w g (.slice A n c0) ps) (hb : b < w0.heap.size) (hw : w0.heap.size ≤ w.heap.size) (hl : ∀ c ∈ l, c < 256) (hn : l.length ≤ 16777216) (hi : i < l.length) (hf : pfit ps l.length) :
    Calls Try.prog 54 #[.pointer (some ⟨b, 0, none⟩), .slice A n c0, .int .i64 (op : Nat)] w (OneTo w0 w b l i op cv g ps) := by
  obtain rfl := hr.n
  have hsz := str_len l
  have HL := Lib.hid hl
  have HP := Lib.hid h
  have HR := Lib.hid hr
  have HF := Lib.hid hf
  obtain ⟨k0, k1, _, _, _⟩ := h.cells
  obtain ⟨c, hc⟩ : ∃ c, l[i]? = some c := ⟨_, List.getElem?_eq_getElem hi⟩
  obtain ⟨hks, hx⟩ := str_at hl hc
  have HC := Lib.hid hc
  have hcb := hl c (List.mem_of_getElem? hc)
  have HD := Lib.hid (dropc hc)
  clear h hl hc hr hf
  go_enter Try.func54, Try.ntmps54
  go_wp2_with fail
  go_quiet (fail)
  have hb2 := drewN_below w nq
  have HP2 := Lib.hid (HP.out.below hb2)
  have HR2 := Lib.hid (URow.below noSub_ok HR.out hb2)
  have HO2 : Hid (Only (fun q => q = b ∨ g = some q) w (w.drewN nq)) := Lib.hid (Only.of_below hb2 (Nat.le_refl _) _)
  have hw2 : w0.heap.size ≤ (w.drewN nq).heap.size := hw
  generalize w.drewN nq = w2 at *
  clear k0 k1 hb2
  obtain ⟨m0, m1, _, _, _⟩ := HP2.out.cells
  have f1 := HP2.out.fz 1
  by_cases h92 : c = 92
  · have q1 : ((c : Int) == 92) = true := beq_iff_eq.2 (by omega)
    have HE : Hid (∀ m, Calls Try.prog 72 #[.string (str l), .int .i64 (i : Nat)] (w2.drewN m) fun e w' => e = .returned (.tuple #[.int .u8 ((escape l (i : Int)).1 : Nat), .int .i64 ((escape l (i : Int)).2.1 : Nat), .int .i64 ((escape l (i : Int)).2.2 : Nat)]) ∧ w' = w2.drewN m) := Lib.hid fun m => (REscape_is l HL.out (by omega) (i : Int) _).mono fun _ _ h => ⟨h.1, h.2.symm⟩
    clear HP HR
    go_wp2_with fail
    go_quiet ((go_at_call 72; exact Calls.quiet_of_same (HE.out _)))
    have HP3 := Lib.hid (HP2.out.below (drewN_below w2 nq))
    have HR3 := Lib.hid (URow.below noSub_ok HR2.out (drewN_below w2 nq))
    have HO3 : Hid (Only (fun q => q = b ∨ g = some q) w (w2.drewN nq)) := Lib.hid (HO2.out.trans (Only.of_below (drewN_below w2 nq) (Nat.le_refl _) _) (fun _ _ e => e))
    have hw3 : w0.heap.size ≤ (w2.drewN nq).heap.size := hw2
    clear HE
    generalize w2.drewN _ = w3 at *
    clear HP2 HR2 HO2 m0 m1 f1
    obtain ⟨m0, m1, _, _, _⟩ := HP3.out.cells
    have f1 := HP3.out.fz 1
    by_cases hlast : i + 1 = l.length
    · have HES : Hid (escape l (i : Int) = (0, 0, 5)) := Lib.hid (by unfold escape; rw [Int.toNat_natCast, if_pos ⟨by omega, by omega, by rw [HC.out, h92]⟩, if_pos hlast])
      have HN := Lib.hid (one_back_end op ps (by rw [HC.out, h92]) hlast)
      have HFL : Hid (Calls Try.prog 40 #[.pointer (some ⟨b, 0, none⟩), .int .i64 (op : Nat), .int .i64 5] w3 fun r w' => r = .returned (.tuple #[]) ∧ PObj w' b l i 5 op cv ∧ OnlyP b w3 w') := Lib.hid (Rfail_is HP3.out op 5)
      clear h92 hlast
      rw [HES.out]
      go_wp2_with fail
      refine HFL.out.mono ?_
      rintro r w4 ⟨rfl, hp4, ho4⟩
      have HP4 := Lib.hid (And.intro hp4 ho4)
      clear hp4 ho4
      go_wp2_with fail
      go_ret
      exact OneTo.bad hb HR3.out HO3.out HP4.out.1 HP4.out.2 (by omega) HN.out
    · have hlt1 : i + 1 < l.length := by omega
      have HES := Lib.hid (escape_at hlt1 (show l[i]? = some 92 by rw [HC.out, h92]))
      have HN := Lib.hid (one_back op ps (by rw [HC.out, h92]) hlt1)
      have hfit := escL_fits (r := l.drop (i + 1)) (fun e => by have := List.drop_eq_nil_iff.1 e; omega)
      rw [List.length_drop] at hfit
      generalize (escL (l.drop (i + 1))).1 = v at *
      generalize (escL (l.drop (i + 1))).2 = m at *
      have hP4 := HP3.out.at_ (i + 1 + m)
      have hO4 : OnlyP b w3 (w3.setCell ⟨b, 1, none⟩ (.int .i64 ((i + 1 + m : Nat) : Int))) := OnlyP.set_ (Only.refl _ w3) 1 _
      have hR4 := PRow.only HR3.out hO4 hb
      have hw4 : w0.heap.size ≤ (w3.setCell ⟨b, 1, none⟩ (.int .i64 ((i + 1 + m : Nat) : Int))).heap.size := by simp [World.setCell]; exact hw3
      have e1 : ((i + 1 + m : Nat) : Int) = (i : Int) + 1 + (m : Int) := by omega
      have HA := Lib.hid (Radd_is hR4 hw4 (by have := HF.out.1; omega) (fun p hp => by have := HF.out.2 p hp; omega) v)
      have HO4 := Lib.hid (HO3.out.trans hO4 (fun _ _ e => .inl e))
      have HP4 := Lib.hid hP4
      have HR4 := Lib.hid hR4
      rw [e1] at HA HO4 HP4 HR4
      clear h92 hlast e1 hP4 hO4 hR4 hw4
      rw [HES.out]
      go_wp2_with fail
      generalize w3.setCell _ _ = w4 at *
      refine HA.out.mono ?_
      intro r w5 ha
      have HT := Lib.hid (OneTo.good hb HR4.out HO4.out HP4.out ha (by omega) HN.out)
      obtain ⟨A5, c5, g5, rfl, _, _⟩ := ha
      go_wp2_with fail
      go_ret
      exact HT.out
  · have q1 : ((c : Int) == 92) = false := beq_eq_false_iff_ne.2 (by omega)
    by_cases h91 : c = 91
    · have q2 : ((c : Int) == 91) = true := beq_iff_eq.2 (by omega)
      have HN := Lib.hid (one_open op ps (by rw [HC.out, h91]))
      have HFL : Hid (Calls Try.prog 40 #[.pointer (some ⟨b, 0, none⟩), .int .i64 (i : Nat), .int .i64 4] w2 fun r w' => r = .returned (.tuple #[]) ∧ PObj w' b l i 4 i cv ∧ OnlyP b w2 w') := Lib.hid (Rfail_is HP2.out i 4)
      clear h91 h92 HP HR
      go_wp2_with fail
      refine HFL.out.mono ?_
      rintro r w4 ⟨rfl, hp4, ho4⟩
      have HP4 := Lib.hid (And.intro hp4 ho4)
      clear hp4 ho4
      go_wp2_with fail
      go_ret
      exact OneTo.bad hb HR2.out HO2.out HP4.out.1 HP4.out.2 (by omega) HN.out
    · have q2 : ((c : Int) == 91) = false := beq_eq_false_iff_ne.2 (by omega)
      by_cases h36 : c = 36
      · have q3 : ((c : Int) == 36) = true := beq_iff_eq.2 (by omega)
        have HRM : Hid (∀ n, n < (nameRun (l.drop (i + 1))).length → ∃ d, l[i + 1 + n]? = some d ∧ nameB d = true) := Lib.hid fun n h => run_more h
        have HRL : Hid (∀ d, l[i + 1 + (nameRun (l.drop (i + 1))).length]? = some d → nameB d = false) := Lib.hid run_last
        have hrl := nameRun_le (l.drop (i + 1))
        rw [List.length_drop] at hrl
        have HNL := Lib.hid (one_long_ op ps (show l[i]? = some 36 by rw [HC.out, h36]))
        have HNN := Lib.hid (one_name_ op ps (show l[i]? = some 36 by rw [HC.out, h36]))
        have HNZ : Hid (¬ 0 < (nameRun (l.drop (i + 1))).length → oneS (l.drop i) i op ps = .ok (addP ps c, 1)) := Lib.hid fun hz => one_else op ps HC.out h92 h91 (fun _ => by omega)
        have HMID := Lib.hid (run_mid (l := l) (j := i + 1))
        generalize nameRun (l.drop (i + 1)) = nm at *
        generalize hR : nm.length = R at *
        have HRR := Lib.hid hR
        have HS0 : Hid (OneSt w0 w w2 b l i a cv g (.slice A ps.length c0) ps) := Lib.hid ⟨HP2.out, HR2.out, HO2.out, hw2⟩
        clear h36 h91 h92 HP HR HP2 HR2 HO2 hw2 hR f1 m0
        go_wp2_with fail
        go_loopw [11] (fun kv wr => ∃ n : Nat, n ≤ R ∧ kv = .int .i64 ((i : Int) + 1 + (n : Int)) ∧ Hid (OneSt w0 w wr b l i a cv g (.slice A ps.length c0) ps)) (fun kv _ => l.length + 2 - (intOf kv).toNat)
        case atStart => exact ⟨0, by omega, by go_num, HS0⟩
        case round =>
          obtain ⟨n, hnR, rfl, HS⟩ := hrel
          by_cases hlt : n < R
          · obtain ⟨d, hd, hdn⟩ := HRM.out n hlt
            obtain ⟨hks2, hdx⟩ := str_at HL.out hd
            have hin : i + 1 + n < l.length := (List.getElem?_eq_some_iff.1 hd).1
            obtain ⟨m0, _, _, _, _⟩ := HS.out.1.cells
            have q4 : decide ((i : Int) + 1 + (n : Int) < (l.length : Int)) = true := decide_eq_true (by omega)
            have q4n : decide (i + 1 + n < l.length) = true := decide_eq_true (by omega)
            have HC2 := Lib.hid (RName_is d (HL.out d (List.mem_of_getElem? hd)) wr)
            rw [hdn] at HC2
            clear hd hdn m1
            go_wp2_with fail
            refine HC2.out.mono ?_
            rintro r w1 ⟨rfl, rfl⟩
            go_wp2_with fail
            go_roundw
            case rel => exact ⟨n + 1, by omega, by go_num, HS⟩
            case measure => simp [intOf]; omega
          · obtain rfl : n = R := by omega
            clear hlt hnR HRM m1
            by_cases hin : i + 1 + n < l.length
            · obtain ⟨d, hd⟩ : ∃ d, l[i + 1 + n]? = some d := ⟨_, List.getElem?_eq_getElem hin⟩
              obtain ⟨hks2, hdx⟩ := str_at HL.out hd
              obtain ⟨m0, _, _, _, _⟩ := HS.out.1.cells
              have q4 : decide ((i : Int) + 1 + (n : Int) < (l.length : Int)) = true := decide_eq_true (by omega)
              have q4n : decide (i + 1 + n < l.length) = true := decide_eq_true (by omega)
              have HC2 := Lib.hid (RName_is d (HL.out d (List.mem_of_getElem? hd)) wr)
              rw [HRL.out d hd] at HC2
              clear hd
              go_wp2_with fail
              refine HC2.out.mono ?_
              rintro r w1 ⟨rfl, rfl⟩
              clear m0
              have f1 := HS.out.1.fz 1
              obtain ⟨m0, m1, _, _, _⟩ := HS.out.1.cells
              by_cases hlong : 64 < n
              · have q5 : decide ((65 : Int) < (i : Int) + 1 + (n : Int) - (i : Int)) = true := decide_eq_true (by omega)
                have HN := Lib.hid (HNL.out hlong)
                have HFL : Hid (Calls Try.prog 40 #[.pointer (some ⟨b, 0, none⟩), .int .i64 (i : Nat), .int .i64 6] wr fun r w' => r = .returned (.tuple #[]) ∧ PObj w' b l i 6 i cv ∧ OnlyP b wr w') := Lib.hid (Rfail_is HS.out.1 i 6)
                clear hlong
                go_wp2_with fail
                refine HFL.out.mono ?_
                rintro r w4 ⟨rfl, hp4, ho4⟩
                have HP4 := Lib.hid (And.intro hp4 ho4)
                clear hp4 ho4
                go_wp2_with fail
                go_ret
                exact OneTo.bad hb HS.out.2.1 HS.out.2.2.1 HP4.out.1 HP4.out.2 (by omega) HN.out
              · have q5 : decide ((65 : Int) < (i : Int) + 1 + (n : Int) - (i : Int)) = false := decide_eq_false (by omega)
                by_cases hz : 0 < n
                · have q6 : decide ((i : Int) + 1 < (i : Int) + 1 + (n : Int)) = true := decide_eq_true (by omega)
                  have HN := Lib.hid (HNN.out hlong hz)
                  clear hlong
                  have hrun := fun W => run_mid_str l (a := i + 1) (b := i + 1 + n) (by omega) (by omega) W
                  have e5 : ((i + 1 : Nat) : Int) = (i : Int) + 1 := by omega
                  have e6 : ((i + 1 + n : Nat) : Int) = (i : Int) + 1 + (n : Int) := by omega
                  rw [HMID.out, e5, e6] at hrun
                  go_wp2_with fail
                  have hwr : IntKind.i64.wrap ((i : Int) + 1) = (i : Int) + 1 := by rw [IntKind.wrap_i64]; omega
                  have hb1 : Below wr.heap.size wr (wr.alloc (.cells #[.bool true, .string (str nm)] 47)).drew := ((Below.refl _ wr).alloc (Nat.le_refl _) _).drew
                  have HS1 := HS.out.below hb1
                  obtain ⟨A2, c2, W2, g2, hap, hR2, hG2, _⟩ := URow.run (P := Try.prog) (x := (⟨true, nm⟩ : Prt)) (u := .bool false) noSub_ok HS1.2.1 HS1.2.2.2 trivial 42 42 Try.underlying42 part_info rfl (.slice (some ⟨wr.heap.size, 0, none⟩) 1 1) (src_cells (V := wr.drew) (C := #[.bool true, .string (str nm)]) Try.underlying42 wr.heap.size rfl rfl rfl (by intro u hu; simp [pcell] at hu; rcases hu with rfl | rfl <;> rfl)) (by have := HF.out.1; omega) (by have := HF.out.1; omega)
                  have HRUN := Lib.hid hap
                  have HR := Lib.hid hR2
                  have hO2 : Only (fun q => g = some q) (wr.alloc (.cells #[.bool true, .string (str nm)] 47)).drew W2 := (Only.refl (fun q => g = some q) _).grown hG2 (fun k e => .inl e)
                  have HO2 := Lib.hid (HS1.2.2.1.trans hO2 (fun _ _ e => .inr e))
                  have HP2 := Lib.hid (PObj.only HS1.1 HS1.2.1 hb hO2)
                  have HLD : Hid (((wr.alloc (.cells #[.bool true, .string (str nm)] 47)).drew.cell? ⟨b, 0, none⟩ = some (.string (str l)) ∧ (wr.alloc (.cells #[.bool true, .string (str nm)] 47)).drew.cell? ⟨b, 1, none⟩ = some (.int .i64 (i : Nat))) ∧ (W2.cell? ⟨b, 0, none⟩ = some (.string (str l)) ∧ W2.cell? ⟨b, 1, none⟩ = some (.int .i64 (i : Nat)))) := Lib.hid ⟨⟨HS1.1.cells.1, HS1.1.cells.2.1⟩, HP2.out.cells.1, HP2.out.cells.2.1⟩
                  clear hb1 HS1 hap hR2 hG2 hO2
                  refine wp_region_noPanic ?_
                  refine wp_region_upto (fun W => W.cell? ⟨b, 0, none⟩ = some (.string (str l)) ∧ W.cell? ⟨b, 1, none⟩ = some (.int .i64 (i : Nat))) 16 (by kernel_rfl) ?_ (fun hHeld => ?_)
                  · exact ⟨m0, m1⟩
                  refine wpUpto.takeAll 0 (by kernel_rfl) (by kernel_rfl) (by kernel_rfl) (by kernel_rfl) (by assumption) ?_
                  intro o ho
                  simp only [List.getElem?_toArray, List.getElem?_cons_zero, Option.some.injEq] at ho
                  subst ho
                  refine ⟨?_, fun _ _ _ h => h, Or.inl ⟨by rfl, ?_⟩, ?_⟩
                  rotate_left
                  · intro w hSw
                    go_simp
                    try with_reducible rfl
                  simp only [Act.put, List.setIfInBounds_toArray, List.set_cons_zero, List.set_cons_succ]
                  refine wpUpto.takeAll 1 (by kernel_rfl) (by kernel_rfl) (by kernel_rfl) (by kernel_rfl) (by assumption) ?_
                  intro o ho
                  simp only [List.getElem?_toArray, List.getElem?_cons_succ, List.getElem?_cons_zero, Option.some.injEq] at ho
                  subst ho
                  refine ⟨?_, fun _ _ _ h => h, Or.inl ⟨by rfl, ?_⟩, ?_⟩
                  rotate_left
                  · intro w hSw
                    go_simp
                    try with_reducible rfl
                  simp only [Act.put, List.setIfInBounds_toArray, List.set_cons_zero, List.set_cons_succ]
                  refine wpUpto.takeAll 2 (by kernel_rfl) (by kernel_rfl) (by kernel_rfl) (by kernel_rfl) (by assumption) ?_
                  intro o ho
                  simp only [List.getElem?_toArray, List.getElem?_cons_succ, List.getElem?_cons_zero, Option.some.injEq] at ho
                  subst ho
                  refine ⟨?_, fun _ _ _ h => h, Or.inl ⟨by rfl, ?_⟩, ?_⟩
                  rotate_left
                  · intro w hSw
                    go_simp
                    try with_reducible rfl
                  simp only [Act.put, List.setIfInBounds_toArray, List.set_cons_zero, List.set_cons_succ]
                  refine wpUpto.takeAll 3 (by kernel_rfl) (by kernel_rfl) (by kernel_rfl) (by kernel_rfl) (by assumption) ?_
                  intro o ho
                  simp only [List.getElem?_toArray, List.getElem?_cons_succ, List.getElem?_cons_zero, Option.some.injEq] at ho
                  subst ho
                  refine ⟨?_, fun _ _ _ h => h, Or.inl ⟨by rfl, ?_⟩, ?_⟩
                  rotate_left
                  · intro w hSw
                    go_simp
                    try with_reducible rfl
                  simp only [Act.put, List.setIfInBounds_toArray, List.set_cons_zero, List.set_cons_succ]
                  refine wpUpto.takeAll 4 (by kernel_rfl) (by kernel_rfl) (by kernel_rfl) (by kernel_rfl) (by assumption) ?_
                  intro o ho
                  simp only [List.getElem?_toArray, List.getElem?_cons_succ, List.getElem?_cons_zero, Option.some.injEq] at ho
                  subst ho
                  refine ⟨?_, fun _ _ _ h => h, Or.inl ⟨by rfl, ?_⟩, ?_⟩
                  rotate_left
                  · intro w hSw
                    go_simp
                    try with_reducible rfl
                  simp only [Act.put, List.setIfInBounds_toArray, List.set_cons_zero, List.set_cons_succ]
                  refine wpUpto.takeAll 5 (by kernel_rfl) (by kernel_rfl) (by kernel_rfl) (by kernel_rfl) (by assumption) ?_
                  intro o ho
                  simp only [List.getElem?_toArray, List.getElem?_cons_succ, List.getElem?_cons_zero, Option.some.injEq] at ho
                  subst ho
                  refine ⟨?_, fun _ _ _ h => h, Or.inl ⟨by rfl, ?_⟩, ?_⟩
                  rotate_left
                  · intro w hSw
                    go_simp
                    try with_reducible rfl
                  simp only [Act.put, List.setIfInBounds_toArray, List.set_cons_zero, List.set_cons_succ]
                  refine wpUpto.takeAll 6 (by kernel_rfl) (by kernel_rfl) (by kernel_rfl) (by kernel_rfl) (by assumption) ?_
                  intro o ho
                  simp only [List.getElem?_toArray, List.getElem?_cons_succ, List.getElem?_cons_zero, Option.some.injEq] at ho
                  subst ho
                  refine ⟨?_, fun _ _ _ h => h, Or.inl ⟨by rfl, ?_⟩, ?_⟩
                  rotate_left
                  · intro w hSw
                    go_simp
                    try with_reducible rfl
                  simp only [Act.put, List.setIfInBounds_toArray, List.set_cons_zero, List.set_cons_succ]
                  refine wpUpto.takeAll 7 (by kernel_rfl) (by kernel_rfl) (by kernel_rfl) (by kernel_rfl) (by assumption) ?_
                  intro o ho
                  simp only [List.getElem?_toArray, List.getElem?_cons_succ, List.getElem?_cons_zero, Option.some.injEq] at ho
                  subst ho
                  refine ⟨?_, fun _ _ _ h => h, Or.inl ⟨by rfl, ?_⟩, ?_⟩
                  rotate_left
                  · intro w hSw
                    go_simp
                    try with_reducible rfl
                  simp only [Act.put, List.setIfInBounds_toArray, List.set_cons_zero, List.set_cons_succ]
                  refine wpUpto.takeAll 8 (by kernel_rfl) (by kernel_rfl) (by kernel_rfl) (by kernel_rfl) (by assumption) ?_
                  intro o ho
                  simp only [List.getElem?_toArray, List.getElem?_cons_succ, List.getElem?_cons_zero, Option.some.injEq] at ho
                  subst ho
                  refine ⟨?_, fun _ _ _ h => h, Or.inl ⟨by rfl, ?_⟩, ?_⟩
                  rotate_left
                  · intro w hSw
                    go_simp
                    try with_reducible rfl
                  simp only [Act.put, List.setIfInBounds_toArray, List.set_cons_zero, List.set_cons_succ]
                  refine wpUpto.takeAll 9 (by kernel_rfl) (by kernel_rfl) (by kernel_rfl) (by kernel_rfl) (by assumption) ?_
                  intro o ho
                  simp only [List.getElem?_toArray, List.getElem?_cons_succ, List.getElem?_cons_zero, Option.some.injEq] at ho
                  subst ho
                  refine ⟨?_, fun _ _ _ h => h, Or.inl ⟨by rfl, ?_⟩, ?_⟩
                  rotate_left
                  · intro w hSw
                    go_simp
                    try with_reducible rfl
                  simp only [Act.put, List.setIfInBounds_toArray, List.set_cons_zero, List.set_cons_succ]
                  refine wpUpto.takeAll 10 (by kernel_rfl) (by kernel_rfl) (by kernel_rfl) (by kernel_rfl) (by assumption) ?_
                  intro o ho
                  simp only [List.getElem?_toArray, List.getElem?_cons_succ, List.getElem?_cons_zero, Option.some.injEq] at ho
                  subst ho
                  refine ⟨?_, fun _ _ _ h => h, Or.inl ⟨by rfl, ?_⟩, ?_⟩
                  rotate_left
                  · intro w hSw
                    go_simp
                    try with_reducible rfl
                  simp only [Act.put, List.setIfInBounds_toArray, List.set_cons_zero, List.set_cons_succ]
                  refine wpUpto.takeAll 11 (by kernel_rfl) (by kernel_rfl) (by kernel_rfl) (by kernel_rfl) (by assumption) ?_
                  intro o ho
                  simp only [List.getElem?_toArray, List.getElem?_cons_succ, List.getElem?_cons_zero, Option.some.injEq] at ho
                  subst ho
                  refine ⟨?_, fun _ _ _ h => h, Or.inl ⟨by rfl, ?_⟩, ?_⟩
                  rotate_left
                  · intro w hSw
                    go_simp
                    try with_reducible rfl
                  simp only [Act.put, List.setIfInBounds_toArray, List.set_cons_zero, List.set_cons_succ]
                  refine wpUpto.takeAll 12 (by kernel_rfl) (by kernel_rfl) (by kernel_rfl) (by kernel_rfl) (by assumption) ?_
                  intro o ho
                  simp only [List.getElem?_toArray, List.getElem?_cons_succ, List.getElem?_cons_zero, Option.some.injEq] at ho
                  subst ho
                  refine ⟨?_, fun _ _ _ h => h, Or.inl ⟨by rfl, ?_⟩, ?_⟩
                  rotate_left
                  · intro w hSw
                    go_simp
                    try with_reducible rfl
                  simp only [Act.put, List.setIfInBounds_toArray, List.set_cons_zero, List.set_cons_succ]
                  refine wpUpto.one 13 (by kernel_rfl) ?_
                  intro o ho K hK
                  simp only [List.getElem?_toArray, List.getElem?_cons_succ, List.getElem?_cons_zero, Option.some.injEq] at ho
                  subst ho
                  go_simp
                  refine hK.out _ _ ?_ (fun hHeld => ?_)
                  · exact HLD.out.1
                  clear hK K
                  try simp only [Act.put, List.setIfInBounds_toArray, List.set_cons_zero, List.set_cons_succ]
                  refine wpUpto.one 14 (by kernel_rfl) ?_
                  intro o ho K hK
                  simp only [List.getElem?_toArray, List.getElem?_cons_succ, List.getElem?_cons_zero, Option.some.injEq] at ho
                  subst ho
                  refine step_append_run rfl (.tmp 104) (.tmp 117) _ rfl _ _ _ _ rfl rfl HRUN.out ?_
                  refine hK.out _ _ ?_ (fun hHeld => ?_)
                  · exact HLD.out.2
                  clear hK K
                  try simp only [Act.put, List.setIfInBounds_toArray, List.set_cons_zero, List.set_cons_succ]
                  refine wpUpto.one 15 (by kernel_rfl) ?_
                  intro o ho K hK
                  simp only [List.getElem?_toArray, List.getElem?_cons_succ, List.getElem?_cons_zero, Option.some.injEq] at ho
                  subst ho
                  go_simp
                  refine hK.out _ _ ?_ (fun hHeld => ?_)
                  · exact HLD.out.2
                  clear hK K
                  try simp only [Act.put, List.setIfInBounds_toArray, List.set_cons_zero, List.set_cons_succ]
                  refine wpUpto.done (by kernel_rfl) ?_ _
                  refine NoPanic.normal ?_
                  try simp only [Act.put, List.setIfInBounds_toArray, List.set_cons_zero, List.set_cons_succ]
                  have n1 := HP2.out.cells.2.1
                  have nf := HP2.out.fz 1
                  clear HRUN HLD
                  go_wp2_with fail
                  go_ret
                  have hA := HP2.out.at_ (i + 1 + n)
                  rw [e6] at hA
                  have hO : OnlyP b W2 (W2.setCell ⟨b, 1, none⟩ (.int .i64 ((i : Int) + 1 + (n : Int)))) := OnlyP.set_ (Only.refl _ W2) 1 _
                  refine ⟨A2, c2, g2, ps ++ [⟨true, nm⟩], i + 1 + n, 0, a, by rw [List.length_append, List.length_singleton]; rfl, ?_, hA, ?_, ?_⟩
                  · rw [List.length_append, List.length_singleton]
                    exact PRow.only HR.out hO hb
                  · exact HO2.out.trans hO (fun _ _ e => .inl e)
                  · rw [HN.out]
                    exact ⟨rfl, by omega, rfl⟩
                · have q6 : decide ((i : Int) + 1 < (i : Int) + 1 + (n : Int)) = false := decide_eq_false (by omega)
                  have HN := Lib.hid (HNZ.out hz)
                  clear hlong hz
                  have hP4 := HS.out.1.at_ (i + 1)
                  have hO4 : OnlyP b wr (wr.setCell ⟨b, 1, none⟩ (.int .i64 ((i + 1 : Nat) : Int))) := OnlyP.set_ (Only.refl _ wr) 1 _
                  have hR4 := PRow.only HS.out.2.1 hO4 hb
                  have hw4 : w0.heap.size ≤ (wr.setCell ⟨b, 1, none⟩ (.int .i64 ((i + 1 : Nat) : Int))).heap.size := by simp [World.setCell]; exact HS.out.2.2.2
                  have e1 : ((i + 1 : Nat) : Int) = (i : Int) + 1 := by omega
                  have HA := Lib.hid (Radd_is hR4 hw4 (by have := HF.out.1; omega) (fun p hp => by have := HF.out.2 p hp; omega) c)
                  have HO4 := Lib.hid (HS.out.2.2.1.trans hO4 (fun _ _ e => .inl e))
                  have HP4 := Lib.hid hP4
                  have HR4 := Lib.hid hR4
                  rw [e1] at HA HO4 HP4 HR4
                  clear e1 hP4 hO4 hR4 hw4
                  go_wp2_with fail
                  generalize World.setCell wr _ _ = w4 at *
                  refine HA.out.mono ?_
                  intro r w5 ha
                  have HT := Lib.hid (OneTo.good hb HR4.out HO4.out HP4.out ha (by omega) HN.out)
                  obtain ⟨A5, c5, g5, rfl, _, _⟩ := ha
                  go_wp2_with fail
                  go_ret
                  exact HT.out
            · have q4 : decide ((i : Int) + 1 + (n : Int) < (l.length : Int)) = false := decide_eq_false (by omega)
              have q4n : decide (i + 1 + n < l.length) = false := decide_eq_false (by omega)
              have f1 := HS.out.1.fz 1
              obtain ⟨m0, m1, _, _, _⟩ := HS.out.1.cells
              by_cases hlong : 64 < n
              · have q5 : decide ((65 : Int) < (i : Int) + 1 + (n : Int) - (i : Int)) = true := decide_eq_true (by omega)
                have HN := Lib.hid (HNL.out hlong)
                have HFL : Hid (Calls Try.prog 40 #[.pointer (some ⟨b, 0, none⟩), .int .i64 (i : Nat), .int .i64 6] wr fun r w' => r = .returned (.tuple #[]) ∧ PObj w' b l i 6 i cv ∧ OnlyP b wr w') := Lib.hid (Rfail_is HS.out.1 i 6)
                clear hlong
                go_wp2_with fail
                refine HFL.out.mono ?_
                rintro r w4 ⟨rfl, hp4, ho4⟩
                have HP4 := Lib.hid (And.intro hp4 ho4)
                clear hp4 ho4
                go_wp2_with fail
                go_ret
                exact OneTo.bad hb HS.out.2.1 HS.out.2.2.1 HP4.out.1 HP4.out.2 (by omega) HN.out
              · have q5 : decide ((65 : Int) < (i : Int) + 1 + (n : Int) - (i : Int)) = false := decide_eq_false (by omega)
                by_cases hz : 0 < n
                · have q6 : decide ((i : Int) + 1 < (i : Int) + 1 + (n : Int)) = true := decide_eq_true (by omega)
                  have HN := Lib.hid (HNN.out hlong hz)
                  clear hlong
                  have hrun := fun W => run_mid_str l (a := i + 1) (b := i + 1 + n) (by omega) (by omega) W
                  have e5 : ((i + 1 : Nat) : Int) = (i : Int) + 1 := by omega
                  have e6 : ((i + 1 + n : Nat) : Int) = (i : Int) + 1 + (n : Int) := by omega
                  rw [HMID.out, e5, e6] at hrun
                  go_wp2_with fail
                  have hwr : IntKind.i64.wrap ((i : Int) + 1) = (i : Int) + 1 := by rw [IntKind.wrap_i64]; omega
                  have hb1 : Below wr.heap.size wr (wr.alloc (.cells #[.bool true, .string (str nm)] 47)).drew := ((Below.refl _ wr).alloc (Nat.le_refl _) _).drew
                  have HS1 := HS.out.below hb1
                  obtain ⟨A2, c2, W2, g2, hap, hR2, hG2, _⟩ := URow.run (P := Try.prog) (x := (⟨true, nm⟩ : Prt)) (u := .bool false) noSub_ok HS1.2.1 HS1.2.2.2 trivial 42 42 Try.underlying42 part_info rfl (.slice (some ⟨wr.heap.size, 0, none⟩) 1 1) (src_cells (V := wr.drew) (C := #[.bool true, .string (str nm)]) Try.underlying42 wr.heap.size rfl rfl rfl (by intro u hu; simp [pcell] at hu; rcases hu with rfl | rfl <;> rfl)) (by have := HF.out.1; omega) (by have := HF.out.1; omega)
                  have HRUN := Lib.hid hap
                  have HR := Lib.hid hR2
                  have hO2 : Only (fun q => g = some q) (wr.alloc (.cells #[.bool true, .string (str nm)] 47)).drew W2 := (Only.refl (fun q => g = some q) _).grown hG2 (fun k e => .inl e)
                  have HO2 := Lib.hid (HS1.2.2.1.trans hO2 (fun _ _ e => .inr e))
                  have HP2 := Lib.hid (PObj.only HS1.1 HS1.2.1 hb hO2)
                  have HLD : Hid (((wr.alloc (.cells #[.bool true, .string (str nm)] 47)).drew.cell? ⟨b, 0, none⟩ = some (.string (str l)) ∧ (wr.alloc (.cells #[.bool true, .string (str nm)] 47)).drew.cell? ⟨b, 1, none⟩ = some (.int .i64 (i : Nat))) ∧ (W2.cell? ⟨b, 0, none⟩ = some (.string (str l)) ∧ W2.cell? ⟨b, 1, none⟩ = some (.int .i64 (i : Nat)))) := Lib.hid ⟨⟨HS1.1.cells.1, HS1.1.cells.2.1⟩, HP2.out.cells.1, HP2.out.cells.2.1⟩
                  clear hb1 HS1 hap hR2 hG2 hO2
                  refine wp_region_noPanic ?_
                  refine wp_region_upto (fun W => W.cell? ⟨b, 0, none⟩ = some (.string (str l)) ∧ W.cell? ⟨b, 1, none⟩ = some (.int .i64 (i : Nat))) 16 (by kernel_rfl) ?_ (fun hHeld => ?_)
                  · exact ⟨m0, m1⟩
                  refine wpUpto.takeAll 0 (by kernel_rfl) (by kernel_rfl) (by kernel_rfl) (by kernel_rfl) (by assumption) ?_
                  intro o ho
                  simp only [List.getElem?_toArray, List.getElem?_cons_zero, Option.some.injEq] at ho
                  subst ho
                  refine ⟨?_, fun _ _ _ h => h, Or.inl ⟨by rfl, ?_⟩, ?_⟩
                  rotate_left
                  · intro w hSw
                    go_simp
                    try with_reducible rfl
                  simp only [Act.put, List.setIfInBounds_toArray, List.set_cons_zero, List.set_cons_succ]
                  refine wpUpto.takeAll 1 (by kernel_rfl) (by kernel_rfl) (by kernel_rfl) (by kernel_rfl) (by assumption) ?_
                  intro o ho
                  simp only [List.getElem?_toArray, List.getElem?_cons_succ, List.getElem?_cons_zero, Option.some.injEq] at ho
                  subst ho
                  refine ⟨?_, fun _ _ _ h => h, Or.inl ⟨by rfl, ?_⟩, ?_⟩
                  rotate_left
                  · intro w hSw
                    go_simp
                    try with_reducible rfl
                  simp only [Act.put, List.setIfInBounds_toArray, List.set_cons_zero, List.set_cons_succ]
                  refine wpUpto.takeAll 2 (by kernel_rfl) (by kernel_rfl) (by kernel_rfl) (by kernel_rfl) (by assumption) ?_
                  intro o ho
                  simp only [List.getElem?_toArray, List.getElem?_cons_succ, List.getElem?_cons_zero, Option.some.injEq] at ho
                  subst ho
                  refine ⟨?_, fun _ _ _ h => h, Or.inl ⟨by rfl, ?_⟩, ?_⟩
                  rotate_left
                  · intro w hSw
                    go_simp
                    try with_reducible rfl
                  simp only [Act.put, List.setIfInBounds_toArray, List.set_cons_zero, List.set_cons_succ]
                  refine wpUpto.takeAll 3 (by kernel_rfl) (by kernel_rfl) (by kernel_rfl) (by kernel_rfl) (by assumption) ?_
                  intro o ho
                  simp only [List.getElem?_toArray, List.getElem?_cons_succ, List.getElem?_cons_zero, Option.some.injEq] at ho
                  subst ho
                  refine ⟨?_, fun _ _ _ h => h, Or.inl ⟨by rfl, ?_⟩, ?_⟩
                  rotate_left
                  · intro w hSw
                    go_simp
                    try with_reducible rfl
                  simp only [Act.put, List.setIfInBounds_toArray, List.set_cons_zero, List.set_cons_succ]
                  refine wpUpto.takeAll 4 (by kernel_rfl) (by kernel_rfl) (by kernel_rfl) (by kernel_rfl) (by assumption) ?_
                  intro o ho
                  simp only [List.getElem?_toArray, List.getElem?_cons_succ, List.getElem?_cons_zero, Option.some.injEq] at ho
                  subst ho
                  refine ⟨?_, fun _ _ _ h => h, Or.inl ⟨by rfl, ?_⟩, ?_⟩
                  rotate_left
                  · intro w hSw
                    go_simp
                    try with_reducible rfl
                  simp only [Act.put, List.setIfInBounds_toArray, List.set_cons_zero, List.set_cons_succ]
                  refine wpUpto.takeAll 5 (by kernel_rfl) (by kernel_rfl) (by kernel_rfl) (by kernel_rfl) (by assumption) ?_
                  intro o ho
                  simp only [List.getElem?_toArray, List.getElem?_cons_succ, List.getElem?_cons_zero, Option.some.injEq] at ho
                  subst ho
                  refine ⟨?_, fun _ _ _ h => h, Or.inl ⟨by rfl, ?_⟩, ?_⟩
                  rotate_left
                  · intro w hSw
                    go_simp
                    try with_reducible rfl
                  simp only [Act.put, List.setIfInBounds_toArray, List.set_cons_zero, List.set_cons_succ]
                  refine wpUpto.takeAll 6 (by kernel_rfl) (by kernel_rfl) (by kernel_rfl) (by kernel_rfl) (by assumption) ?_
                  intro o ho
                  simp only [List.getElem?_toArray, List.getElem?_cons_succ, List.getElem?_cons_zero, Option.some.injEq] at ho
                  subst ho
                  refine ⟨?_, fun _ _ _ h => h, Or.inl ⟨by rfl, ?_⟩, ?_⟩
                  rotate_left
                  · intro w hSw
                    go_simp
                    try with_reducible rfl
                  simp only [Act.put, List.setIfInBounds_toArray, List.set_cons_zero, List.set_cons_succ]
                  refine wpUpto.takeAll 7 (by kernel_rfl) (by kernel_rfl) (by kernel_rfl) (by kernel_rfl) (by assumption) ?_
                  intro o ho
                  simp only [List.getElem?_toArray, List.getElem?_cons_succ, List.getElem?_cons_zero, Option.some.injEq] at ho
                  subst ho
                  refine ⟨?_, fun _ _ _ h => h, Or.inl ⟨by rfl, ?_⟩, ?_⟩
                  rotate_left
                  · intro w hSw
                    go_simp
                    try with_reducible rfl
                  simp only [Act.put, List.setIfInBounds_toArray, List.set_cons_zero, List.set_cons_succ]
                  refine wpUpto.takeAll 8 (by kernel_rfl) (by kernel_rfl) (by kernel_rfl) (by kernel_rfl) (by assumption) ?_
                  intro o ho
                  simp only [List.getElem?_toArray, List.getElem?_cons_succ, List.getElem?_cons_zero, Option.some.injEq] at ho
                  subst ho
                  refine ⟨?_, fun _ _ _ h => h, Or.inl ⟨by rfl, ?_⟩, ?_⟩
                  rotate_left
                  · intro w hSw
                    go_simp
                    try with_reducible rfl
                  simp only [Act.put, List.setIfInBounds_toArray, List.set_cons_zero, List.set_cons_succ]
                  refine wpUpto.takeAll 9 (by kernel_rfl) (by kernel_rfl) (by kernel_rfl) (by kernel_rfl) (by assumption) ?_
                  intro o ho
                  simp only [List.getElem?_toArray, List.getElem?_cons_succ, List.getElem?_cons_zero, Option.some.injEq] at ho
                  subst ho
                  refine ⟨?_, fun _ _ _ h => h, Or.inl ⟨by rfl, ?_⟩, ?_⟩
                  rotate_left
                  · intro w hSw
                    go_simp
                    try with_reducible rfl
                  simp only [Act.put, List.setIfInBounds_toArray, List.set_cons_zero, List.set_cons_succ]
                  refine wpUpto.takeAll 10 (by kernel_rfl) (by kernel_rfl) (by kernel_rfl) (by kernel_rfl) (by assumption) ?_
                  intro o ho
                  simp only [List.getElem?_toArray, List.getElem?_cons_succ, List.getElem?_cons_zero, Option.some.injEq] at ho
                  subst ho
                  refine ⟨?_, fun _ _ _ h => h, Or.inl ⟨by rfl, ?_⟩, ?_⟩
                  rotate_left
                  · intro w hSw
                    go_simp
                    try with_reducible rfl
                  simp only [Act.put, List.setIfInBounds_toArray, List.set_cons_zero, List.set_cons_succ]
                  refine wpUpto.takeAll 11 (by kernel_rfl) (by kernel_rfl) (by kernel_rfl) (by kernel_rfl) (by assumption) ?_
                  intro o ho
                  simp only [List.getElem?_toArray, List.getElem?_cons_succ, List.getElem?_cons_zero, Option.some.injEq] at ho
                  subst ho
                  refine ⟨?_, fun _ _ _ h => h, Or.inl ⟨by rfl, ?_⟩, ?_⟩
                  rotate_left
                  · intro w hSw
                    go_simp
                    try with_reducible rfl
                  simp only [Act.put, List.setIfInBounds_toArray, List.set_cons_zero, List.set_cons_succ]
                  refine wpUpto.takeAll 12 (by kernel_rfl) (by kernel_rfl) (by kernel_rfl) (by kernel_rfl) (by assumption) ?_
                  intro o ho
                  simp only [List.getElem?_toArray, List.getElem?_cons_succ, List.getElem?_cons_zero, Option.some.injEq] at ho
                  subst ho
                  refine ⟨?_, fun _ _ _ h => h, Or.inl ⟨by rfl, ?_⟩, ?_⟩
                  rotate_left
                  · intro w hSw
                    go_simp
                    try with_reducible rfl
                  simp only [Act.put, List.setIfInBounds_toArray, List.set_cons_zero, List.set_cons_succ]
                  refine wpUpto.one 13 (by kernel_rfl) ?_
                  intro o ho K hK
                  simp only [List.getElem?_toArray, List.getElem?_cons_succ, List.getElem?_cons_zero, Option.some.injEq] at ho
                  subst ho
                  go_simp
                  refine hK.out _ _ ?_ (fun hHeld => ?_)
                  · exact HLD.out.1
                  clear hK K
                  try simp only [Act.put, List.setIfInBounds_toArray, List.set_cons_zero, List.set_cons_succ]
                  refine wpUpto.one 14 (by kernel_rfl) ?_
                  intro o ho K hK
                  simp only [List.getElem?_toArray, List.getElem?_cons_succ, List.getElem?_cons_zero, Option.some.injEq] at ho
                  subst ho
                  refine step_append_run rfl (.tmp 104) (.tmp 117) _ rfl _ _ _ _ rfl rfl HRUN.out ?_
                  refine hK.out _ _ ?_ (fun hHeld => ?_)
                  · exact HLD.out.2
                  clear hK K
                  try simp only [Act.put, List.setIfInBounds_toArray, List.set_cons_zero, List.set_cons_succ]
                  refine wpUpto.one 15 (by kernel_rfl) ?_
                  intro o ho K hK
                  simp only [List.getElem?_toArray, List.getElem?_cons_succ, List.getElem?_cons_zero, Option.some.injEq] at ho
                  subst ho
                  go_simp
                  refine hK.out _ _ ?_ (fun hHeld => ?_)
                  · exact HLD.out.2
                  clear hK K
                  try simp only [Act.put, List.setIfInBounds_toArray, List.set_cons_zero, List.set_cons_succ]
                  refine wpUpto.done (by kernel_rfl) ?_ _
                  refine NoPanic.normal ?_
                  try simp only [Act.put, List.setIfInBounds_toArray, List.set_cons_zero, List.set_cons_succ]
                  have n1 := HP2.out.cells.2.1
                  have nf := HP2.out.fz 1
                  clear HRUN HLD
                  go_wp2_with fail
                  go_ret
                  have hA := HP2.out.at_ (i + 1 + n)
                  rw [e6] at hA
                  have hO : OnlyP b W2 (W2.setCell ⟨b, 1, none⟩ (.int .i64 ((i : Int) + 1 + (n : Int)))) := OnlyP.set_ (Only.refl _ W2) 1 _
                  refine ⟨A2, c2, g2, ps ++ [⟨true, nm⟩], i + 1 + n, 0, a, by rw [List.length_append, List.length_singleton]; rfl, ?_, hA, ?_, ?_⟩
                  · rw [List.length_append, List.length_singleton]
                    exact PRow.only HR.out hO hb
                  · exact HO2.out.trans hO (fun _ _ e => .inl e)
                  · rw [HN.out]
                    exact ⟨rfl, by omega, rfl⟩
                · have q6 : decide ((i : Int) + 1 < (i : Int) + 1 + (n : Int)) = false := decide_eq_false (by omega)
                  have HN := Lib.hid (HNZ.out hz)
                  clear hlong hz
                  have hP4 := HS.out.1.at_ (i + 1)
                  have hO4 : OnlyP b wr (wr.setCell ⟨b, 1, none⟩ (.int .i64 ((i + 1 : Nat) : Int))) := OnlyP.set_ (Only.refl _ wr) 1 _
                  have hR4 := PRow.only HS.out.2.1 hO4 hb
                  have hw4 : w0.heap.size ≤ (wr.setCell ⟨b, 1, none⟩ (.int .i64 ((i + 1 : Nat) : Int))).heap.size := by simp [World.setCell]; exact HS.out.2.2.2
                  have e1 : ((i + 1 : Nat) : Int) = (i : Int) + 1 := by omega
                  have HA := Lib.hid (Radd_is hR4 hw4 (by have := HF.out.1; omega) (fun p hp => by have := HF.out.2 p hp; omega) c)
                  have HO4 := Lib.hid (HS.out.2.2.1.trans hO4 (fun _ _ e => .inl e))
                  have HP4 := Lib.hid hP4
                  have HR4 := Lib.hid hR4
                  rw [e1] at HA HO4 HP4 HR4
                  clear e1 hP4 hO4 hR4 hw4
                  go_wp2_with fail
                  generalize World.setCell wr _ _ = w4 at *
                  refine HA.out.mono ?_
                  intro r w5 ha
                  have HT := Lib.hid (OneTo.good hb HR4.out HO4.out HP4.out ha (by omega) HN.out)
                  obtain ⟨A5, c5, g5, rfl, _, _⟩ := ha
                  go_wp2_with fail
                  go_ret
                  exact HT.out
      · have q3 : ((c : Int) == 36) = false := beq_eq_false_iff_ne.2 (by omega)
        have HN := Lib.hid (one_else op ps HC.out h92 h91 (fun e => absurd e h36))
        clear h36 h91 h92 HP HR
        have hP4 := HP2.out.at_ (i + 1)
        have hO4 : OnlyP b w2 (w2.setCell ⟨b, 1, none⟩ (.int .i64 ((i + 1 : Nat) : Int))) := OnlyP.set_ (Only.refl _ w2) 1 _
        have hR4 := PRow.only HR2.out hO4 hb
        have hw4 : w0.heap.size ≤ (w2.setCell ⟨b, 1, none⟩ (.int .i64 ((i + 1 : Nat) : Int))).heap.size := by simp [World.setCell]; exact hw2
        have e1 : ((i + 1 : Nat) : Int) = (i : Int) + 1 := by omega
        have HA := Lib.hid (Radd_is hR4 hw4 (by have := HF.out.1; omega) (fun p hp => by have := HF.out.2 p hp; omega) c)
        have HO4 := Lib.hid (HO2.out.trans hO4 (fun _ _ e => .inl e))
        have HP4 := Lib.hid hP4
        have HR4 := Lib.hid hR4
        rw [e1] at HA HO4 HP4 HR4
        clear e1 hP4 hO4 hR4 hw4
        go_wp2_with fail
        generalize World.setCell w2 _ _ = w4 at *
        refine HA.out.mono ?_
        intro r w5 ha
        have HT := Lib.hid (OneTo.good hb HR4.out HO4.out HP4.out ha (by omega) HN.out)
        obtain ⟨A5, c5, g5, rfl, _, _⟩ := ha
        go_wp2_with fail
        go_ret
        exact HT.out
end Go.Proofs.Ytphmhglebeapaaa
