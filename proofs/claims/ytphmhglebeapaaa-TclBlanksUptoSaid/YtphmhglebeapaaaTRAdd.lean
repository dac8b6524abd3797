/-
  The document's add: a byte more of a word's last text.
  Conditions: at most 16777216 parts, a last text of at most 16777216 bytes.
-/
import Derived.Test.YtphmhglebeapaaaTRPar
import Derived.Test.YtphmhglebeapaaaUptoLast
namespace Go.Proofs.Ytphmhglebeapaaa
open Go.RowKit

/-- Parts that grow. -/
theorem addP_none (c : Nat) : addP [] c = [⟨false, [c]⟩] := rfl
theorem addP_lv {ps : List Prt} {p : Prt} (h : ps.getLast? = some p) (hv : p.var = true) (c : Nat) : addP ps c = ps ++ [⟨false, [c]⟩] := by
  unfold addP; rw [h]; simp [hv]
theorem addP_lt {ps : List Prt} {p : Prt} (h : ps.getLast? = some p) (hv : p.var = false) (c : Nat) : addP ps c = ps.dropLast ++ [⟨false, p.s ++ [c]⟩] := by
  unfold addP; rw [h]; simp [hv]
/-- What add tells and leaves. -/
def AddTo (w0 w : World) (g : Option Nat) (ps : List Prt) (r : Ending) (w' : World) : Prop :=
  ∃ A c g', r = .returned (.slice A ps.length c) ∧ PRow w0 w' g' (.slice A ps.length c) ps ∧ Only (fun i => g = some i) w w'

theorem PRow.at_ {w0 W : World} {g : Option Nat} {A : Option Addr} {n c k : Nat} {ps : List Prt} {p : Prt} (h : PRow w0 W g (.slice A n c) ps) (hk : ps[k]? = some p) :
    ∃ q o, A = some ⟨q, o, none⟩ ∧ g = some q ∧ W.cell? ⟨q, o + k * 2, none⟩ = some (.bool p.var) ∧ W.cell? ⟨q, o + k * 2 + 1, none⟩ = some (.string (str p.s)) := by
  obtain ⟨l, h1, h2, _, _⟩ := h
  have hlt := (List.getElem?_eq_some_iff.1 hk).1
  obtain ⟨q, o, c', e1, e2, _, hx⟩ := h2.cells (by omega)
  injection e1 with e3 e4 e5
  subst h1
  rw [List.getElem?_map] at hk
  obtain ⟨y, hy, rfl⟩ := Option.map_eq_some_iff.1 hk
  refine ⟨q, o, e3, e2, ?_, ?_⟩
  · have := hx (k * 2 + 0) _ (flat_at (cs := pcell) (s := 2) (fun _ _ => rfl) l k 0 y _ hy rfl)
    exact this
  · exact hx (k * 2 + 1) _ (flat_at (cs := pcell) (s := 2) (fun _ _ => rfl) l k 1 y _ hy rfl)
/-- The last text's bytes are stored anew. -/
theorem PRow.set_ {w0 W : World} {g : Option Nat} {q o n c m : Nat} {ps : List Prt} {x : Prt} (h : PRow w0 W g (.slice (some ⟨q, o, none⟩) n c) (ps ++ [x])) (hv : x.var = false) (hm : m = ps.length) (t : List Nat) :
    PRow w0 (W.setCell ⟨q, o + m * 2 + 1, none⟩ (.string (str t))) g (.slice (some ⟨q, o, none⟩) n c) (ps ++ [⟨false, t⟩]) ∧ Only (fun i => g = some i) W (W.setCell ⟨q, o + m * 2 + 1, none⟩ (.string (str t))) ∧ W.frozen? ⟨q, o + m * 2 + 1, none⟩ = false := by
  subst hm
  obtain ⟨l, h1, h2, h3, _⟩ := h
  have hn : n = (ps ++ [x]).length := by obtain ⟨_, _, e, _⟩ := h2.form; injection e
  obtain ⟨l', y, rfl⟩ : ∃ l' y, l = l' ++ [y] := ⟨l.dropLast, l.getLast (by rintro rfl; simp at h1), (List.dropLast_concat_getLast _).symm⟩
  rw [List.map_append] at h1
  have h5 := List.append_inj' h1 rfl
  have hy : y.1 = x := by simpa using h5.2
  have hll : l'.length = ps.length := by rw [← h5.1, List.length_map]
  have hfl : ∀ z : List (Prt × Value), (z.flatMap fun p => pcell p.1 p.2).length = z.length * 2 := fun z => by
    induction z with
    | nil => rfl
    | cons a z ih => rw [List.flatMap_cons, List.length_append, ih, List.length_cons]; simp [pcell]; omega
  subst hn
  have hs := RowS.set_ (u := .string (str t)) h2 (k := ps.length * 2 + 1) (by rw [hfl, List.length_append, hll, List.length_singleton]; omega) rfl
  rw [← Nat.add_assoc] at hs
  obtain ⟨s1, s2, s3⟩ := hs
  refine ⟨⟨l' ++ [(⟨false, t⟩, .bool false)], by simp [h5.1], ?_, h3, fun _ _ => trivial⟩, ?_, s3⟩
  · have e : (((l' ++ [y]).flatMap fun p => pcell p.1 p.2).set (ps.length * 2 + 1) (.string (str t))) = (l' ++ [((⟨false, t⟩ : Prt), Value.bool false)]).flatMap fun p => pcell p.1 p.2 := by
      rw [List.flatMap_append, List.flatMap_append, List.set_append_right _ _ (by rw [hfl, hll]; omega), hfl, hll, show ps.length * 2 + 1 - ps.length * 2 = 1 by omega]
      simp [pcell, hy, hv]
    rw [e] at s1
    simpa using s1
  · exact ⟨s2.os, s2.tape, s2.output, s2.size, fun i hi hs => s2.block i hi fun e => hs e.symm⟩
theorem PRow.n {w0 W : World} {g : Option Nat} {A : Option Addr} {n c : Nat} {ps : List Prt} (h : PRow w0 W g (.slice A n c) ps) : n = ps.length := by
  obtain ⟨_, _, e, _⟩ := URow.form h; injection e

set_option maxRecDepth 100000 in
set_option maxHeartbeats 4000000 in
theorem Radd_none {w0 w : World} {g : Option Nat} {A : Option Addr} {n c : Nat} (h : PRow w0 w g (.slice A n c) []) (hw : w0.heap.size ≤ w.heap.size) (x : Nat) :
    Calls Try.prog 73 #[.slice A n c, .int .u8 (x : Nat)] w (AddTo w0 w g [⟨false, [x]⟩]) := by
  obtain rfl : n = 0 := h.n
  have hq := run_str_new w #[.int .u8 (x : Nat)] [x] 1 rfl rfl
  have HP := Lib.hid h
  clear h
  go_enter Try.func73, Try.ntmps73
  have HPW : Hid (∀ o1 o2, PRow w0 ((w.alloc o1).alloc o2) g (.slice A 0 c) []) := Lib.hid fun o1 o2 => URow.below noSub_ok HP.out (((Below.refl _ w).alloc (Nat.le_refl _) _).alloc (by simp) _)
  go_wp2_with (at_builtin; refine URow.wp (P := Try.prog) (x := (⟨false, [x]⟩ : Prt)) (u := .bool false) noSub_ok (HPW.out _ _) (by simp; omega) trivial rfl (.tmp 18) (.tmp 23) 42 rfl Try.underlying42 part_info rfl rfl _ rfl (src_cells Try.underlying42 (w.heap.size + 1) (by simp) rfl rfl (by intro u hu; simp [pcell] at hu; rcases hu with rfl | rfl <;> rfl)) (by simp) (by simp) ?_; intro A2 c2 W2 g2 HR HG HE)
  go_ret
  refine ⟨A2, c2, g2, rfl, HR.out, ?_⟩
  exact (Only.of_below (((Below.refl _ w).alloc (Nat.le_refl _) _).alloc (by simp) _) (Nat.le_refl _) (fun i => g = some i)).grown HG.out (fun k e => .inl e)
set_option maxRecDepth 100000 in
set_option maxHeartbeats 4000000 in
theorem Radd_text {w0 w : World} {g : Option Nat} {A : Option Addr} {n c : Nat} {ps : List Prt} {s : List Nat} (h : PRow w0 w g (.slice A n c) (ps ++ [⟨false, s⟩])) (hn : ps.length ≤ 16777216) (hs : s.length ≤ 16777216) (x : Nat) :
    Calls Try.prog 73 #[.slice A n c, .int .u8 (x : Nat)] w (AddTo w0 w g (ps ++ [⟨false, s ++ [x]⟩])) := by
  have hnn := h.n
  rw [List.length_append, List.length_singleton] at hnn
  obtain ⟨m, hm⟩ : ∃ m, m = ps.length := ⟨_, rfl⟩
  rw [← hm] at hnn hn
  subst hnn
  obtain ⟨q, o, rfl, rfl, k0, k1⟩ := h.at_ (k := m) (p := ⟨false, s⟩) (by rw [hm]; simp)
  have f1 := (h.set_ rfl hm (s ++ [x])).2.2
  have hb1 : Below w.heap.size w (w.alloc (.cells #[.int .u8 (x : Nat)] 5)).drew := ((Below.refl _ w).alloc (Nat.le_refl _) _).drew
  have hset := PRow.set_ (URow.below noSub_ok h hb1) rfl hm (s ++ [x])
  have HSET := Lib.hid (And.intro hset.1 ((Only.of_below hb1 (Nat.le_refl _) (fun i => some q = some i)).trans hset.2.1 (fun _ _ h => h)))
  have HM := Lib.hid hm
  have q0 : decide ((m : Int) < 0) = false := decide_eq_false (by omega)
  have hlt : (m : Int) < (m : Int) + 1 := by omega
  have hlt2 : m < m + 1 := by omega
  have ka : ∀ o', (w.alloc o').cell? ⟨q, o + m * 2 + 1, none⟩ = some (.string (str s)) ∧ (w.alloc o').frozen? ⟨q, o + m * 2 + 1, none⟩ = false := fun o' => by
    have hb : q < w.heap.size := World.block_lt_of_cell? w _ k1
    have e := Below.heap_alloc w o' q hb
    exact ⟨(World.cell?_of_block (a := ⟨q, o + m * 2 + 1, none⟩) e).trans k1, by rw [← f1]; unfold World.frozen?; rw [e]⟩
  clear h hset hm hb1
  dsimp only at k0 k1
  have hq : (convert 41 9 (.slice (some ⟨w.heap.size, 0, none⟩) 1 1)).run Try.prog (w.alloc (.cells #[.int .u8 (x : Nat)] 5)).drew = .ok (.string (str [x])) (w.alloc (.cells #[.int .u8 (x : Nat)] 5)).drew := run_str_new w.drew #[.int .u8 (x : Nat)] [x] 1 rfl rfl
  have hcat := str_app s [x]
  have hz : (9223372036854775807 < (str s).size + (str [x]).size) = False := eq_false (by rw [str_len, str_len]; simp; omega)
  go_enter Try.func73, Try.ntmps73
  go_wp2_with fail
  refine wp_region_noPanic ?_
  refine wp_region_upto (fun W => W.cell? ⟨q, o + m * 2 + 1, none⟩ = some (.string (str s)) ∧ W.frozen? ⟨q, o + m * 2 + 1, none⟩ = false) 13 (by kernel_rfl) ?_ (fun hHeld => ?_)
  · exact ⟨k1, f1⟩
  refine wpUpto.take 0 (by kernel_rfl) (by kernel_rfl) (by kernel_rfl) (by kernel_rfl) (by assumption) ?_
  intro o ho
  simp only [List.getElem?_toArray, List.getElem?_cons_zero, Option.some.injEq] at ho
  subst ho
  refine ⟨?_, fun _ _ _ h => h, Or.inl ⟨by rfl, ?_⟩, ?_⟩
  rotate_left
  · intro w hSw
    go_simp
    try with_reducible rfl
  simp only [Act.put, List.setIfInBounds_toArray, List.set_cons_zero, List.set_cons_succ]
  refine wpUpto.take 1 (by kernel_rfl) (by kernel_rfl) (by kernel_rfl) (by kernel_rfl) (by assumption) ?_
  intro o ho
  simp only [List.getElem?_toArray, List.getElem?_cons_succ, List.getElem?_cons_zero, Option.some.injEq] at ho
  subst ho
  refine ⟨?_, fun _ _ _ h => h, Or.inl ⟨by rfl, ?_⟩, ?_⟩
  rotate_left
  · intro w hSw
    go_simp
    try with_reducible rfl
  simp only [Act.put, List.setIfInBounds_toArray, List.set_cons_zero, List.set_cons_succ]
  refine wpUpto.take 2 (by kernel_rfl) (by kernel_rfl) (by kernel_rfl) (by kernel_rfl) (by assumption) ?_
  intro o ho
  simp only [List.getElem?_toArray, List.getElem?_cons_succ, List.getElem?_cons_zero, Option.some.injEq] at ho
  subst ho
  refine ⟨?_, fun _ _ _ h => h, Or.inl ⟨by rfl, ?_⟩, ?_⟩
  rotate_left
  · intro w hSw
    go_simp
    try with_reducible rfl
  simp only [Act.put, List.setIfInBounds_toArray, List.set_cons_zero, List.set_cons_succ]
  refine wpUpto.take 3 (by kernel_rfl) (by kernel_rfl) (by kernel_rfl) (by kernel_rfl) (by assumption) ?_
  intro o ho
  simp only [List.getElem?_toArray, List.getElem?_cons_succ, List.getElem?_cons_zero, Option.some.injEq] at ho
  subst ho
  refine ⟨?_, fun _ _ _ h => h, Or.inl ⟨by rfl, ?_⟩, ?_⟩
  rotate_left
  · intro w hSw
    go_simp
    try with_reducible rfl
  simp only [Act.put, List.setIfInBounds_toArray, List.set_cons_zero, List.set_cons_succ]
  refine wpUpto.take 4 (by kernel_rfl) (by kernel_rfl) (by kernel_rfl) (by kernel_rfl) (by assumption) ?_
  intro o ho
  simp only [List.getElem?_toArray, List.getElem?_cons_succ, List.getElem?_cons_zero, Option.some.injEq] at ho
  subst ho
  refine ⟨?_, fun _ _ _ h => h, Or.inl ⟨by rfl, ?_⟩, ?_⟩
  rotate_left
  · intro w hSw
    go_simp
    try with_reducible rfl
  simp only [Act.put, List.setIfInBounds_toArray, List.set_cons_zero, List.set_cons_succ]
  refine wpUpto.take 5 (by kernel_rfl) (by kernel_rfl) (by kernel_rfl) (by kernel_rfl) (by assumption) ?_
  intro o ho
  simp only [List.getElem?_toArray, List.getElem?_cons_succ, List.getElem?_cons_zero, Option.some.injEq] at ho
  subst ho
  refine ⟨?_, fun _ _ _ h => h, Or.inl ⟨by rfl, ?_⟩, ?_⟩
  rotate_left
  · intro w hSw
    go_simp
    try with_reducible rfl
  simp only [Act.put, List.setIfInBounds_toArray, List.set_cons_zero, List.set_cons_succ]
  refine wpUpto.take 6 (by kernel_rfl) (by kernel_rfl) (by kernel_rfl) (by kernel_rfl) (by assumption) ?_
  intro o ho
  simp only [List.getElem?_toArray, List.getElem?_cons_succ, List.getElem?_cons_zero, Option.some.injEq] at ho
  subst ho
  refine ⟨?_, fun _ _ _ h => h, Or.inl ⟨by rfl, ?_⟩, ?_⟩
  rotate_left
  · intro w hSw
    go_simp
    try with_reducible rfl
  simp only [Act.put, List.setIfInBounds_toArray, List.set_cons_zero, List.set_cons_succ]
  refine wpUpto.take 7 (by kernel_rfl) (by kernel_rfl) (by kernel_rfl) (by kernel_rfl) (by assumption) ?_
  intro o ho
  simp only [List.getElem?_toArray, List.getElem?_cons_succ, List.getElem?_cons_zero, Option.some.injEq] at ho
  subst ho
  refine ⟨?_, fun _ _ _ h => h, Or.inl ⟨by rfl, ?_⟩, ?_⟩
  rotate_left
  · intro w hSw
    go_simp
    try with_reducible rfl
  simp only [Act.put, List.setIfInBounds_toArray, List.set_cons_zero, List.set_cons_succ]
  refine wpUpto.one 8 (by kernel_rfl) ?_
  intro o ho K hK
  simp only [List.getElem?_toArray, List.getElem?_cons_succ, List.getElem?_cons_zero, Option.some.injEq] at ho
  subst ho
  go_simp
  refine hK.out _ _ ?_ (fun hHeld => ?_)
  · exact ka _
  clear hK K
  try simp only [Act.put, List.setIfInBounds_toArray, List.set_cons_zero, List.set_cons_succ]
  refine wpUpto.one 9 (by kernel_rfl) ?_
  intro o ho K hK
  simp only [List.getElem?_toArray, List.getElem?_cons_succ, List.getElem?_cons_zero, Option.some.injEq] at ho
  subst ho
  go_simp
  refine hK.out _ _ ?_ (fun hHeld => ?_)
  · exact ka _
  clear hK K
  try simp only [Act.put, List.setIfInBounds_toArray, List.set_cons_zero, List.set_cons_succ]
  refine wpUpto.one 10 (by kernel_rfl) ?_
  intro o ho K hK
  simp only [List.getElem?_toArray, List.getElem?_cons_succ, List.getElem?_cons_zero, Option.some.injEq] at ho
  subst ho
  go_simp
  refine hK.out _ _ ?_ (fun hHeld => ?_)
  · exact ka _
  clear hK K
  try simp only [Act.put, List.setIfInBounds_toArray, List.set_cons_zero, List.set_cons_succ]
  refine wpUpto.one 11 (by kernel_rfl) ?_
  intro o ho K hK
  simp only [List.getElem?_toArray, List.getElem?_cons_succ, List.getElem?_cons_zero, Option.some.injEq] at ho
  subst ho
  go_simp
  refine hK.out _ _ ?_ (fun hHeld => ?_)
  · exact ka _
  clear hK K
  try simp only [Act.put, List.setIfInBounds_toArray, List.set_cons_zero, List.set_cons_succ]
  refine wpUpto.one 12 (by kernel_rfl) ?_
  intro o ho K hK
  simp only [List.getElem?_toArray, List.getElem?_cons_succ, List.getElem?_cons_zero, Option.some.injEq] at ho
  subst ho
  go_simp
  refine hK.out _ _ ?_ (fun hHeld => ?_)
  · exact ka _
  clear hK K
  try simp only [Act.put, List.setIfInBounds_toArray, List.set_cons_zero, List.set_cons_succ]
  refine wpUpto.last (by kernel_rfl) ?_
  intro o ho K hK
  simp only [List.getElem?_toArray, List.getElem?_cons_succ, List.getElem?_cons_zero, Option.some.injEq] at ho
  subst ho
  go_simp
  refine hK.out _ _ ?_
  clear hK K
  refine wpUpto.done (by kernel_rfl) ?_ _
  refine NoPanic.normal ?_
  try simp only [Act.put, List.setIfInBounds_toArray, List.set_cons_zero, List.set_cons_succ]
  go_wp2_with fail
  go_ret
  exact ⟨some ⟨q, o, none⟩, c, some q, by rw [List.length_append, List.length_singleton, ← HM.out]; rfl, by rw [List.length_append, List.length_singleton, ← HM.out]; exact HSET.out.1, HSET.out.2⟩
set_option maxRecDepth 100000 in
set_option maxHeartbeats 4000000 in
theorem Radd_var {w0 w : World} {g : Option Nat} {A : Option Addr} {n c : Nat} {ps : List Prt} {s : List Nat} (h : PRow w0 w g (.slice A n c) (ps ++ [⟨true, s⟩])) (hw : w0.heap.size ≤ w.heap.size) (hn : ps.length ≤ 16777216) (x : Nat) :
    Calls Try.prog 73 #[.slice A n c, .int .u8 (x : Nat)] w (AddTo w0 w g (ps ++ [⟨true, s⟩] ++ [⟨false, [x]⟩])) := by
  have hnn := h.n
  rw [List.length_append, List.length_singleton] at hnn
  obtain ⟨m, hm⟩ : ∃ m, m = ps.length := ⟨_, rfl⟩
  rw [← hm] at hnn hn
  subst hnn
  obtain ⟨q, o, rfl, rfl, k0, k1⟩ := h.at_ (k := m) (p := ⟨true, s⟩) (by rw [hm]; simp)
  have hq := run_str_new w #[.int .u8 (x : Nat)] [x] 1 rfl rfl
  have HPW : Hid (∀ o1 o2, PRow w0 ((w.alloc o1).alloc o2) (some q) (.slice (some ⟨q, o, none⟩) (m + 1) c) (ps ++ [⟨true, s⟩])) := Lib.hid fun o1 o2 => URow.below noSub_ok h (((Below.refl _ w).alloc (Nat.le_refl _) _).alloc (by simp) _)
  have HM : Hid ((ps ++ [⟨true, s⟩] : List Prt).length = m + 1) := Lib.hid (by rw [List.length_append, List.length_singleton, hm])
  have q0 : decide ((m : Int) < 0) = false := decide_eq_false (by omega)
  have hlt : (m : Int) < (m : Int) + 1 := by omega
  have hlt2 : m < m + 1 := by omega
  clear h hm k1
  dsimp only at k0
  generalize ps ++ [⟨true, s⟩] = ps1 at *
  go_enter Try.func73, Try.ntmps73
  go_wp2_with (at_builtin; refine URow.wp (P := Try.prog) (x := (⟨false, [x]⟩ : Prt)) (u := .bool false) noSub_ok (HPW.out _ _) (by simp; omega) trivial rfl (.tmp 18) (.tmp 23) 42 rfl Try.underlying42 part_info rfl rfl _ rfl (src_cells Try.underlying42 (w.heap.size + 1) (by simp) rfl rfl (by intro u hu; simp [pcell] at hu; rcases hu with rfl | rfl <;> rfl)) (by rw [HM.out]; omega) (by rw [HM.out]; omega) ?_; intro A2 c2 W2 g2 HR HG HE)
  go_ret
  refine ⟨A2, c2, g2, by rw [List.length_append, List.length_singleton]; rfl, by rw [List.length_append, List.length_singleton]; exact HR.out, ?_⟩
  exact (Only.of_below (((Below.refl _ w).alloc (Nat.le_refl _) _).alloc (by simp) _) (Nat.le_refl _) (fun i => some q = some i)).grown HG.out (fun k e => .inl e)
theorem Radd_is {w0 w : World} {g : Option Nat} {A : Option Addr} {n c : Nat} {ps : List Prt} (h : PRow w0 w g (.slice A n c) ps) (hw : w0.heap.size ≤ w.heap.size) (hn : ps.length ≤ 16777216) (hs : ∀ p ∈ ps, p.s.length ≤ 16777216) (x : Nat) :
    Calls Try.prog 73 #[.slice A n c, .int .u8 (x : Nat)] w (AddTo w0 w g (addP ps x)) := by
  rcases List.eq_nil_or_concat ps with rfl | ⟨l, p, rfl⟩
  · rw [addP_none]; exact Radd_none h hw x
  · rw [List.concat_eq_append] at *
    have hg : (l ++ [p]).getLast? = some p := by simp
    have hln : l.length ≤ 16777216 := by rw [List.length_append] at hn; omega
    obtain ⟨v, s⟩ := p
    cases v with
    | true => rw [addP_lv hg rfl]; exact Radd_var h hw hln x
    | false =>
      rw [addP_lt hg rfl, List.dropLast_concat]
      exact Radd_text h hln (hs ⟨false, s⟩ (by simp)) x
end Go.Proofs.Ytphmhglebeapaaa
