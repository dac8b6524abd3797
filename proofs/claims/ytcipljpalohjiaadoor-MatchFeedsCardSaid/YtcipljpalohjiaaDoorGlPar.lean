/-
  glob's parse: a pattern's things in rows of function values, one ahead of each star and one behind the last.
  Conditions: a pattern of at most 9223372036854775807 bytes.
-/
import Derived.Test.YtcipljpalohjiaaDoorGlOne
import Derived.Test.YtcipljpalohjiaaDoorRVs
import Derived.Test.YtcipljpalohjiaaDoorConst
import Derived.OwnWalk
namespace Go.Proofs.YtcipljpalohjiaaDoor
open Go.RowKit

/-- Function values for a row's things. -/
def RwL (W : World) (us : List Value) (l : List Thg) : Prop := us.length = l.length ∧ ∀ (j : Nat) (u : Value) (x : Thg), us[j]? = some u → l[j]? = some x → LkV W u x
theorem RwL.keep {W W' : World} {us : List Value} {l : List Thg} (h : RwL W us l) (hk : ∀ b t cs, t ≠ 99 → t ≠ 103 → Blk W b t cs → W'.heap[b]? = W.heap[b]?) : RwL W' us l :=
  ⟨h.1, fun j u x h1 h2 => (h.2 j u x h1 h2).keep hk⟩
theorem RwL.snoc {W : World} {us : List Value} {l : List Thg} {u : Value} {x : Thg} (h : RwL W us l) (hu : LkV W u x) : RwL W (us ++ [u]) (l ++ [x]) := by
  refine ⟨by simp [h.1], fun j v y h1 h2 => ?_⟩
  rcases Nat.lt_or_ge j l.length with hj | hj
  · rw [List.getElem?_append_left (by have := h.1; omega)] at h1
    rw [List.getElem?_append_left hj] at h2
    exact h.2 j v y h1 h2
  · rw [List.getElem?_append_right (by have := h.1; omega)] at h1
    rw [List.getElem?_append_right hj] at h2
    have e1 := (List.getElem?_eq_some_iff.1 h1).1
    have e2 := (List.getElem?_eq_some_iff.1 h2).1
    simp at e1 e2
    have e3 : j - l.length = 0 := by omega
    have e4 : j - us.length = 0 := by have := h.1; omega
    rw [e3] at h2
    rw [e4] at h1
    simp at h1 h2
    subst h1 h2
    exact hu

/-- Rows of rows, read. -/
def RwsV (W : World) (v : Value) (ll : List (List Thg)) : Prop := ∃ vs, Rd W v vs ∧ vs.length = ll.length ∧ ∀ (j : Nat) (u : Value) (l : List Thg), vs[j]? = some u → ll[j]? = some l → LsV W u l

/-- The rows so far: those that are done, and the last one. -/
structure PSt (w W : World) (g : Option Nat) (v : Value) (m : Nat) (rr : List V1) (ini : List (List Thg)) (las : List Thg) : Prop where
  rv : RV 99 103 1 w.heap.size W g v (m + 1) rr
  bel : Below w.heap.size w W
  num : ini.length = m
  like : ∀ (i : Nat) (r : V1) (l : List Thg), rr[i]? = some r → (ini ++ [las])[i]? = some l → RwL W r.l l

theorem row_info : (Tryd.prog.info? 103).map (fun i => (i.zero, i.size, i.bytes)) = some (some (.slice none 0 0), 1, 24) := by kernel_rfl
theorem like_info : (Tryd.prog.info? 99).map (fun i => (i.zero, i.size, i.bytes)) = some (some .nilFunc, 1, 8) := by kernel_rfl

theorem RV.cellR {te e : TypeId} {n0 : Nat} {W : World} {g : Option Nat} {n : Nat} {rr : List V1} {bm o cm i : Nat} {r : V1} (h : RV te e 1 n0 W g (.slice (some ⟨bm, o, none⟩) n cm) n rr) (hi : rr[i]? = some r) : W.cell? ⟨bm, o + i, none⟩ = some (.slice r.A r.l.length r.c) := by
  have hl := h.len
  have hil := (List.getElem?_eq_some_iff.1 hi).1
  obtain ⟨b1, o1, c1, e1, _, _, hx⟩ := h.row.cells (by omega)
  injection e1 with e1
  cases e1
  exact hx i _ (by rw [List.getElem?_map, hi]; rfl)

section
variable {w W W' : World} {g g' : Option Nat} {v v' : Value} {m : Nat} {rr : List V1} {ini : List (List Thg)} {las : List Thg}
theorem PSt.len (h : PSt w W g v m rr ini las) : rr.length = m + 1 := by have := h.rv.len; omega
theorem PSt.last (h : PSt w W g v m rr ini las) : ∃ bm o r, (∀ A c, v = .slice A (m + 1) c → A = some ⟨bm, o, none⟩) ∧ rr[m]? = some r ∧ r.l.length = las.length := by
  obtain ⟨b1, o1, c1, e1, _, _, hx⟩ := h.rv.row.cells (by omega)
  have hl := h.len
  refine ⟨b1, o1, rr[m], fun A c e => ?_, List.getElem?_eq_getElem (by omega), ?_⟩
  · rw [e1] at e; injection e with e; exact e.symm
  · exact (h.like m rr[m] las (List.getElem?_eq_getElem (by omega)) (by rw [List.getElem?_append_right (by rw [h.num]; omega), h.num]; simp)).1
theorem PSt.below (h : PSt w W g v m rr ini las) (hb : Below W.heap.size W W') : PSt w W' g v m rr ini las :=
  ⟨h.rv.below hb, h.bel.trans (hb.mono h.bel.size), h.num, fun i r l h1 h2 => (h.like i r l h1 h2).keep fun b _ _ _ _ hq => hb.block b hq.lt⟩
theorem PSt.start (w : World) : PSt w (w.alloc (.cells #[.slice none 0 0] 103)) (some w.heap.size) (.slice (some ⟨w.heap.size, 0, none⟩) 1 1) 0 [V1.none] [] [] := by
  refine ⟨⟨?_, fun b e => by cases e; omega, fun r hr => ?_, fun i j r q hi hj hij => ?_⟩, (Below.refl _ w).alloc (Nat.le_refl _) _, rfl, fun i r l h1 h2 => ?_⟩
  · exact RowS.new w 103 1 #[.slice none 0 0] 1 rfl (by simp only [maxLen]; omega) (by omega) (by simp [Value.oneCell'])
  · obtain rfl : r = V1.none := by simpa using hr
    exact ⟨Row.nil _ _, fun b e => by cases e⟩
  · have h1 := (List.getElem?_eq_some_iff.1 hi).1
    have h2 := (List.getElem?_eq_some_iff.1 hj).1
    simp at h1 h2
    omega
  · have e1 := (List.getElem?_eq_some_iff.1 h1).1
    simp at e1
    subst e1
    simp at h1 h2
    subst h1 h2
    exact ⟨rfl, fun j u x h1 _ => by simp [V1.none] at h1⟩
/-- A row more, without a thing. -/
theorem PSt.star (h : PSt w W g v m rr ini las) (hr : RowS W' 103 1 g' v' (m + 1 + 1) (rr.map V1.val ++ [.slice none 0 0])) (hg : W.grownBy W' g) (hg' : g' = g ∨ g' = some W.heap.size) : PSt w W' g' v' (m + 1) (rr ++ [V1.none]) (ini ++ [las]) [] := by
  have hp := RV.push (by decide) h.rv 1 (v' := v') (g' := g') (W' := W') (by simpa [V1.none, V1.val] using hr) hg hg' h.bel.size
  refine ⟨hp, h.bel.grown hg h.bel.size h.rv.fresh, by rw [List.length_append, h.num]; rfl, fun i r l h1 h2 => ?_⟩
  rcases Nat.lt_or_ge i (m + 1) with hi | hi
  · rw [List.getElem?_append_left (by rw [h.len]; exact hi)] at h1
    rw [List.getElem?_append_left (by rw [List.length_append, h.num]; exact hi)] at h2
    exact (h.like i r l h1 h2).keep fun b t cs _ hne hq => hg.block b hq.lt fun e => h.rv.row.ne_ hq (fun e => hne e.symm) e.symm
  · have e1 := (List.getElem?_eq_some_iff.1 h1).1
    rw [List.length_append, h.len] at e1
    simp at e1
    obtain rfl : i = m + 1 := by omega
    rw [List.getElem?_append_right (by rw [h.len]; omega), h.len] at h1
    rw [List.getElem?_append_right (by rw [List.length_append, h.num]; simp), List.length_append, h.num] at h2
    simp at h1 h2
    subst h1 h2
    exact ⟨rfl, fun j u x h1 _ => by simp [V1.none] at h1⟩
theorem Row.ne2 {w : World} {e : TypeId} {g : Option Nat} {v : Value} {xs : List Value} (h : Row w e g v xs) {q : Nat} {t : TypeId} {cs : Array Value} (hq : Blk w q t cs) (hne : t ≠ e) : g ≠ some q := h.ne_ hq fun e => hne e.symm
/-- A thing more in the last row. -/
theorem PSt.grow {bm o cm : Nat} {r : V1} {A' : Option Addr} {c' : Nat} {gb' : Option Nat} {u : Value} {x : Thg} {w1 : World} (h : PSt w W g (.slice (some ⟨bm, o, none⟩) (m + 1) cm) m rr ini las) (hi : rr[m]? = some r)
    (hr : Row w1 99 gb' (.slice A' (r.l.length + 1) c') (r.l ++ [u])) (hgr : W.grownBy w1 r.g) (hg' : gb' = r.g ∨ gb' = some W.heap.size) (hu : LkV W u x) :
    PSt w (w1.setCell ⟨bm, o + m, none⟩ (.slice A' (r.l.length + 1) c')) g (.slice (some ⟨bm, o, none⟩) (m + 1) cm) m (rr.set m ⟨A', c', r.l ++ [u], gb'⟩) ini (las ++ [x]) ∧
      w1.cell? ⟨bm, o + m, none⟩ = some (.slice r.A r.l.length r.c) ∧ w1.frozen? ⟨bm, o + m, none⟩ = false := by
  obtain ⟨hp, hc, hf, hgb⟩ := RV.grow (ds := [u]) (by decide) h.rv hi hr hgr hg' h.bel.size
  have hown := h.rv.own r (List.mem_of_getElem? hi)
  have hkeep : ∀ b t cs, t ≠ 99 → t ≠ 103 → Blk W b t cs → (w1.setCell ⟨bm, o + m, none⟩ (.slice A' (r.l.length + 1) c')).heap[b]? = W.heap[b]? := fun b t cs n1 n2 hq => by
    refine (Below.heap_setCell w1 _ _ b ?_).trans (hgr.block b hq.lt fun e => hown.1.ne2 hq n1 e.symm)
    intro e
    have e : b = bm := e
    subst e
    exact h.rv.row.ne_ hq (fun e => n2 e.symm) hgb
  refine ⟨⟨hp, ?_, h.num, fun i q l h1 h2 => ?_⟩, hc, hf⟩
  · have b1 := h.bel.grown hgr h.bel.size hown.2
    have hbm : w.heap.size ≤ bm := h.rv.fresh bm hgb
    exact b1.trans ⟨rfl, rfl, rfl, by simp [World.setCell], fun k hk => Below.heap_setCell _ _ _ k (by show k ≠ bm; have := hk; omega)⟩
  · rw [List.getElem?_set] at h1
    by_cases hm : m = i
    · subst hm
      rw [if_pos rfl, if_pos (by rw [h.len]; omega)] at h1
      cases h1
      rw [List.getElem?_append_right (by rw [h.num]; omega), h.num] at h2
      simp at h2
      subst h2
      exact ((h.like m r las hi (by rw [List.getElem?_append_right (by rw [h.num]; omega), h.num]; simp)).snoc hu).keep hkeep
    · rw [if_neg hm] at h1
      have hlt := (List.getElem?_eq_some_iff.1 h1).1
      rw [h.len] at hlt
      rw [List.getElem?_append_left (by rw [h.num]; omega)] at h2
      exact (h.like i q l h1 (by rw [List.getElem?_append_left (by rw [h.num]; omega)]; exact h2)).keep hkeep
/-- Read. -/
theorem PSt.reads (h : PSt w W g v m rr ini las) : RwsV W v (ini ++ [las]) := by
  have hl := h.len
  obtain ⟨b1, o1, c1, e1, _, hle, hx⟩ := h.rv.row.cells (by omega)
  subst e1
  refine ⟨rr.map V1.val, ⟨_, c1, by rw [List.length_map, hl], by rw [List.length_map, hl]; exact hle, fun u hu => ?_, fun _ => ⟨b1, o1, rfl, hx⟩⟩, by rw [List.length_map, List.length_append, h.num, hl]; rfl, fun j u l h1 h2 => ?_⟩
  · obtain ⟨r, _, rfl⟩ := List.mem_map.1 hu
    rfl
  · rw [List.getElem?_map] at h1
    obtain ⟨r, hr, rfl⟩ := Option.map_eq_some_iff.1 h1
    have hk := h.like j r l hr h2
    exact ⟨r.l, (h.rv.own r (List.mem_of_getElem? hr)).1.rd, hk.1, hk.2⟩
end

/-- What parse answers. -/
def ParseTo (w : World) (p : List Nat) (e : Ending) (W : World) : Prop := Below w.heap.size w W ∧
  ((errS p ≠ 0 ∧ e = .returned (.tuple #[.slice none 0 0, .int .i64 (errS p : Nat)])) ∨
    (errS p = 0 ∧ ∃ v ll, e = .returned (.tuple #[v, .int .i64 0]) ∧ RwsV W v ll ∧ ll ≠ [] ∧ Sgl ll ∧ p.length ≤ 1024 ∧ thingsS p = some (joinR ll)))
theorem ParseTo.long {w W : World} {p : List Nat} (h : 1024 < p.length) (hb : Below w.heap.size w W) : ParseTo w p (.returned (.tuple #[.slice none 0 0, .int .i64 6])) W := by
  have e : errS p = 6 := if_pos h
  exact ⟨hb, .inl ⟨by omega, by rw [e]; rfl⟩⟩
theorem ParseTo.bad {w W : World} {p : List Nat} (h : p.length ≤ 1024) (hb : Below w.heap.size w W) (k : thingsS p = none) : ParseTo w p (.returned (.tuple #[.slice none 0 0, .int .i64 4])) W := by
  have e : errS p = 4 := by rw [errS, if_neg (by omega), if_pos (by rw [k]; rfl)]
  exact ⟨hb, .inl ⟨by omega, by rw [e]; rfl⟩⟩
theorem ParseTo.good {w W : World} {p : List Nat} {v : Value} {ll : List (List Thg)} (h : p.length ≤ 1024) (hb : Below w.heap.size w W) (hv : RwsV W v ll) (h0 : ll ≠ []) (hs : Sgl ll) (k : thingsS p = some (joinR ll)) : ParseTo w p (.returned (.tuple #[v, .int .i64 0])) W := by
  have e : errS p = 0 := by rw [errS, if_neg (by omega), if_neg (by rw [k]; simp)]
  exact ⟨hb, .inr ⟨e, v, ll, rfl, hv, h0, hs, h, k⟩⟩

theorem Sgl.push {ini : List (List Thg)} {las : List Thg} (h : Sgl (ini ++ [las])) {x : Thg} (hx : x.any = false) : Sgl (ini ++ [las ++ [x]]) := by
  intro r hr y hy
  rcases List.mem_append.1 hr with hr | hr
  · exact h r (List.mem_append_left _ hr) y hy
  · obtain rfl : r = las ++ [x] := by simpa using hr
    rcases List.mem_append.1 hy with hy | hy
    · exact h las (by simp) y hy
    · obtain rfl : y = x := by simpa using hy
      exact hx
theorem Sgl.star {ll : List (List Thg)} (h : Sgl ll) : Sgl (ll ++ [[]]) := by
  intro r hr y hy
  rcases List.mem_append.1 hr with hr | hr
  · exact h r hr y hy
  · obtain rfl : r = [] := by simpa using hr
    simp at hy
theorem map_push {o : Option (List Thg)} {ini : List (List Thg)} {las : List Thg} {x : Thg} : (o.map (x :: ·)).map (joinR (ini ++ [las]) ++ ·) = o.map (joinR (ini ++ [las ++ [x]]) ++ ·) := by
  rw [joinR_push]; cases o <;> simp
theorem map_star {o : Option (List Thg)} {ini : List (List Thg)} {las : List Thg} : (o.map (starT :: ·)).map (joinR (ini ++ [las]) ++ ·) = o.map (joinR ((ini ++ [las]) ++ [[]]) ++ ·) := by
  rw [joinR_star]; cases o <;> simp
theorem things_step_open' {p : List Nat} {i : Nat} (h : p[i]? = some 91) (hn : ¬ setLen (p.drop (i + 1)) < (p.drop (i + 1)).length) : thingsS (p.drop i) = none := by
  have hlt := (List.getElem?_eq_some_iff.1 h).1
  rw [List.drop_eq_getElem_cons hlt, (List.getElem?_eq_some_iff.1 h).2, thingsS, if_neg (by omega), if_neg (by omega), if_pos rfl, if_pos (by omega)]
theorem things_step_set' {p : List Nat} {i : Nat} (h : p[i]? = some 91) (hn : setLen (p.drop (i + 1)) < (p.drop (i + 1)).length) :
    thingsS (p.drop i) = (thingsS (p.drop (i + 1 + setLen (p.drop (i + 1)) + 1))).map (setT ((p.take (i + 1 + setLen (p.drop (i + 1)))).drop (i + 1)) :: ·) := by
  have hlt := (List.getElem?_eq_some_iff.1 h).1
  rw [List.drop_eq_getElem_cons hlt, (List.getElem?_eq_some_iff.1 h).2, thingsS, if_neg (by omega), if_neg (by omega), if_pos rfl, if_neg (by omega), List.drop_drop, List.drop_take, show i + 1 + setLen (p.drop (i + 1)) - (i + 1) = setLen (p.drop (i + 1)) by omega, Nat.add_assoc (i + 1)]

set_option maxRecDepth 100000 in
set_option maxHeartbeats 1000000 in
theorem parse_is (p : List Nat) (hp : ∀ c ∈ p, c < 256) (hn : p.length ≤ 9223372036854775807) (w : World) :
    Calls Tryd.prog 37 #[.string (str p)] w (ParseTo w p) := by
  obtain ⟨i0, hi0, hz0, hz1, hz2⟩ := info_parts row_info
  obtain ⟨i1, hj0, hy0, hy1, hy2⟩ := info_parts like_info
  have hsz := str_len p
  have HL := Lib.hid hp
  clear hp
  go_enter Tryd.func37, Tryd.ntmps37
  by_cases hbig : 1024 < p.length
  · go_wp2_with fail
    go_step3
    go_wp2_with fail
    try rw [Exit.noGoto_ret]
    go_ret2
    exact ParseTo.long hbig (Below.refl _ _)
  have hn2 : p.length ≤ 1024 := by omega
  have hn3 : (p.length : Int) ≤ 1024 := by omega
  clear hbig
  go_wp2_with fail
  go_step3
  go_wp2_with fail
  go_step3
  go_wp2_with fail
  go_loopw [4, 5] (fun u v wr => ∃ (i m : Nat) (A : Option Addr) (c : Nat) (g : Option Nat) (rr : List V1) (ini : List (List Thg)) (las : List Thg), i ≤ p.length ∧ m ≤ i ∧ las.length ≤ i ∧ u = .slice A (m + 1) c ∧ v = .int .i64 i ∧ Hid (PSt w wr g (.slice A (m + 1) c) m rr ini las) ∧ Hid (Sgl (ini ++ [las])) ∧ Hid (thingsS p = (thingsS (p.drop i)).map (joinR (ini ++ [las]) ++ ·))) (fun _ v _ => p.length - (intOf v).toNat)
  case atStart => exact ⟨0, 0, _, _, _, _, [], [], by omega, by omega, by simp, rfl, rfl, Lib.hid (PSt.start w), Lib.hid (by intro r hr x hx; simp at hr; subst hr; simp at hx), Lib.hid (by simp [joinR])⟩
  case round =>
    obtain ⟨i, m, A, c, g, rr, ini, las, hi, hmi, hla, rfl, rfl, HP, HG, HF⟩ := hrel
    by_cases hlt : i < p.length
    · obtain ⟨a, ha⟩ : ∃ a, p[i]? = some a := ⟨_, List.getElem?_eq_getElem hlt⟩
      have ha256 := HL.out a (List.mem_of_getElem? ha)
      obtain ⟨hka, hxa⟩ := str_at HL.out ha
      have HA := Lib.hid ha
      have r1 : decide ((i : Int) < (p.length : Int)) = true := decide_eq_true (by omega)
      obtain ⟨bm, o, r, hA, hrm, hrl⟩ := HP.out.last
      obtain rfl := hA A c rfl
      obtain ⟨cm0, hcm0⟩ : ∃ q, q = c := ⟨c, rfl⟩
      subst hcm0
      have hrl2 : r.l.length ≤ 1024 := by omega
      have HM := Lib.hid hrm
      clear ha hA hrm hrl
      go_wp2_with fail
      refine (itself_is a wr).mono ?_
      rintro e w1 ⟨vi, rfl, hu, hb1⟩
      obtain ⟨fn, fi, ca, rfl⟩ := hu.form
      have HP1 := Lib.hid (HP.out.below hb1)
      have HU := Lib.hid hu
      clear hu hb1 HP
      by_cases h42 : a = 42
      · subst h42
        go_wp2_with (at_builtin; refine wpList_append_rowS _ rfl (.tmp 29) (.tmp 30) _ rfl 103 i0 _ 1 24 Tryd.underlying76 hi0 hz0 hz1 hz2 rfl g _ (m + 1) (rr.map V1.val) rfl (HP1.out.rv.row.alloc _) _ 1 [.slice none 0 0] rfl ((Rd.single w1 103 (.slice none 0 0) rfl).src Tryd.underlying76) (by simp only [maxLen]; omega) (by omega) ?_; intro A1 c1 w7 gn hrow hgr hgn; have Y := Lib.hid (And.intro hrow (And.intro hgr hgn)); clear hrow hgr hgn)
        go_roundw
        case rel =>
          refine ⟨i + 1, m + 1, A1, c1, gn, _, _, _, by omega, by omega, by simp, rfl, by go_num, Lib.hid ((HP1.out.below ((Below.refl _ w1).alloc (Nat.le_refl _) _)).star Y.out.1 Y.out.2.1 Y.out.2.2), Lib.hid HG.out.star, Lib.hid ?_⟩
          rw [HF.out, things_step_star HA.out, map_star]
        case measure => simp [intOf]; omega
      by_cases h63 : a = 63
      · subst h63
        have HV : Hid (LkV w1 (.func (.func 53) #[] #[]) allT) := Lib.hid ⟨rfl, .inl ⟨rfl, fun _ _ => rfl⟩⟩
        have cL := HP1.out.rv.cellR HM.out
        go_wp2_with (at_builtin; refine wpList_append_row _ rfl (.tmp 74) (.tmp 76) _ rfl 99 i1 _ 8 Tryd.underlying103 hj0 hy0 hy1 hy2 rfl r.g _ r.l rfl ((HP1.out.rv.own r (List.mem_of_getElem? HM.out)).1.alloc _) _ [(.func (.func 53) #[] #[])] rfl (Rd.single w1 99 (.func (.func 53) #[] #[]) HV.out.one') (by simp only [maxLen, List.length_singleton]; omega) (by simp only [List.length_singleton]; omega) ?_; intro A1 c1 w7 gn hrow hgr hgn; have Y := Lib.hid ((HP1.out.below ((Below.refl _ w1).alloc (Nat.le_refl _) _)).grow HM.out hrow hgr hgn (HV.out.below ((Below.refl _ w1).alloc (Nat.le_refl _) _))); clear hrow hgr hgn; have s1 := Y.out.2.1; have s2 := Y.out.2.2)
        go_roundw
        case rel =>
          refine ⟨i + 1, m, _, cm0, g, _, ini, las ++ [allT], by omega, by omega, by simp; omega, rfl, by go_num, Lib.hid Y.out.1, Lib.hid (HG.out.push HV.out.1), Lib.hid ?_⟩
          rw [HF.out, things_step_all HA.out, map_push]
        case measure => simp [intOf]; omega
      by_cases h91 : a = 91
      · subst h91
        have hrun := fun W => run_from_str p (i + 1) (by omega) W
        rw [show (((i + 1 : Nat)) : Int) = (i : Int) + 1 by omega] at hrun
        have HSL := Lib.hid (setLength_is (p.drop (i + 1)) (fun c hc => HL.out c (List.mem_of_mem_drop hc)) (by rw [List.length_drop]; omega) w1)
        by_cases hset : setLen (p.drop (i + 1)) < (p.drop (i + 1)).length
        · have hst := things_step_set' HA.out hset
          have hdl : (p.drop (i + 1)).length = p.length - (i + 1) := List.length_drop
          have hs0 : 1 ≤ setLen (p.drop (i + 1)) := by unfold setLen; omega
          rw [setLenP_pos hset] at HSL
          generalize setLen (p.drop (i + 1)) = n at *
          have q0 : ((n : Int) == 0) = false := beq_eq_false_iff_ne.2 (by omega)
          have hmid := fun W => run_strg_mid p (a := i + 1) (b := i + 1 + n) (by omega) (by omega) W
          rw [show (((i + 1 : Nat)) : Int) = (i : Int) + 1 by omega, show (((i + 1 + n : Nat)) : Int) = (i : Int) + 1 + (n : Int) by omega] at hmid
          have HO := Lib.hid (oneOf_is ((p.take (i + 1 + n)).drop (i + 1)) (fun c hc => HL.out c (List.mem_of_mem_take (List.mem_of_mem_drop hc))) (by simp; omega) w1)
          have HST := Lib.hid hst
          have hnp : i + 1 + n < p.length := by omega
          generalize (p.take (i + 1 + n)).drop (i + 1) = ss at *
          generalize str ss = sss at *
          generalize str (p.drop (i + 1)) = sd at *
          clear hset hst hdl
          go_wp2_with fail
          refine HSL.out.mono ?_
          rintro e w2 ⟨rfl, rfl⟩
          go_wp2_with fail
          refine HO.out.mono ?_
          rintro e w2 ⟨vo, rfl, hu2, hb2⟩
          obtain ⟨fo, fj, cb, rfl⟩ := hu2.form
          have HP2 := Lib.hid (HP1.out.below hb2)
          have HU2 := Lib.hid hu2
          clear hu2 hb2 HP1 HO HSL hmid hrun
          have cL := HP2.out.rv.cellR HM.out
          go_wp2_with (at_builtin; refine wpList_append_row _ rfl (.tmp 74) (.tmp 76) _ rfl 99 i1 _ 8 Tryd.underlying103 hj0 hy0 hy1 hy2 rfl r.g _ r.l rfl ((HP2.out.rv.own r (List.mem_of_getElem? HM.out)).1.alloc _) _ [(.func fo fj cb)] rfl (Rd.single w2 99 (.func fo fj cb) HU2.out.one') (by simp only [maxLen, List.length_singleton]; omega) (by simp only [List.length_singleton]; omega) ?_; intro A1 c1 w7 gn hrow hgr hgn; have Y := Lib.hid ((HP2.out.below ((Below.refl _ w2).alloc (Nat.le_refl _) _)).grow HM.out hrow hgr hgn (HU2.out.below ((Below.refl _ w2).alloc (Nat.le_refl _) _))); clear hrow hgr hgn; have s1 := Y.out.2.1; have s2 := Y.out.2.2)
          go_roundw
          case rel =>
            refine ⟨i + 1 + n + 1, m, _, cm0, g, _, ini, las ++ [setT ss], by omega, by omega, by simp; omega, rfl, by go_num, Lib.hid Y.out.1, Lib.hid (HG.out.push HU2.out.1), Lib.hid ?_⟩
            rw [HF.out, HST.out, map_push]
          case measure => simp [intOf]; omega
        · have HB := Lib.hid (things_step_open' HA.out hset)
          rw [setLenP_zero hset] at HSL
          generalize str (p.drop (i + 1)) = sd at *
          clear hset
          go_wp2_with fail
          refine HSL.out.mono ?_
          rintro e w2 ⟨rfl, rfl⟩
          go_wp2_with fail
          try rw [Exit.noGoto_ret]
          go_ret2
          exact ParseTo.bad hn2 HP1.out.bel (by rw [HF.out, HB.out]; rfl)
      by_cases h92 : a = 92
      · subst h92
        by_cases hend : i + 1 < p.length
        · obtain ⟨d, hd⟩ : ∃ d, p[i + 1]? = some d := ⟨_, List.getElem?_eq_getElem hend⟩
          have hd256 := HL.out d (List.mem_of_getElem? hd)
          obtain ⟨hkd, hxd⟩ := str_at HL.out hd
          have HD := Lib.hid hd
          have q0 : ((i : Int) + 1 == (p.length : Int)) = false := beq_eq_false_iff_ne.2 (by omega)
          clear hd
          go_wp2_with fail
          refine (itself_is d w1).mono ?_
          rintro e w2 ⟨vo, rfl, hu2, hb2⟩
          obtain ⟨fo, fj, cb, rfl⟩ := hu2.form
          have HP2 := Lib.hid (HP1.out.below hb2)
          have HU2 := Lib.hid hu2
          clear hu2 hb2 HP1
          have cL := HP2.out.rv.cellR HM.out
          go_wp2_with (at_builtin; refine wpList_append_row _ rfl (.tmp 74) (.tmp 76) _ rfl 99 i1 _ 8 Tryd.underlying103 hj0 hy0 hy1 hy2 rfl r.g _ r.l rfl ((HP2.out.rv.own r (List.mem_of_getElem? HM.out)).1.alloc _) _ [(.func fo fj cb)] rfl (Rd.single w2 99 (.func fo fj cb) HU2.out.one') (by simp only [maxLen, List.length_singleton]; omega) (by simp only [List.length_singleton]; omega) ?_; intro A1 c1 w7 gn hrow hgr hgn; have Y := Lib.hid ((HP2.out.below ((Below.refl _ w2).alloc (Nat.le_refl _) _)).grow HM.out hrow hgr hgn (HU2.out.below ((Below.refl _ w2).alloc (Nat.le_refl _) _))); clear hrow hgr hgn; have s1 := Y.out.2.1; have s2 := Y.out.2.2)
          go_roundw
          case rel =>
            refine ⟨i + 2, m, _, cm0, g, _, ini, las ++ [oneT d], by omega, by omega, by simp; omega, rfl, by go_num, Lib.hid Y.out.1, Lib.hid (HG.out.push HU2.out.1), Lib.hid ?_⟩
            rw [HF.out, things_step_back HA.out HD.out, map_push]
          case measure => simp [intOf]; omega
        · have HB := Lib.hid (things_step_cut HA.out (by omega))
          have q0 : ((i : Int) + 1 == (p.length : Int)) = true := beq_iff_eq.2 (by omega)
          go_wp2_with fail
          try rw [Exit.noGoto_ret]
          go_ret2
          exact ParseTo.bad hn2 HP1.out.bel (by rw [HF.out, HB.out]; rfl)
      have q1 : ((a : Int) == 42) = false := beq_eq_false_iff_ne.2 (by omega)
      have q2 : ((a : Int) == 63) = false := beq_eq_false_iff_ne.2 (by omega)
      have q3 : ((a : Int) == 91) = false := beq_eq_false_iff_ne.2 (by omega)
      have q4 : ((a : Int) == 92) = false := beq_eq_false_iff_ne.2 (by omega)
      have HB := Lib.hid (things_step_one HA.out h42 h63 h91 h92)
      clear h42 h63 h91 h92
      have cL := HP1.out.rv.cellR HM.out
      go_wp2_with (at_builtin; refine wpList_append_row _ rfl (.tmp 74) (.tmp 76) _ rfl 99 i1 _ 8 Tryd.underlying103 hj0 hy0 hy1 hy2 rfl r.g _ r.l rfl ((HP1.out.rv.own r (List.mem_of_getElem? HM.out)).1.alloc _) _ [(.func fn fi ca)] rfl (Rd.single w1 99 (.func fn fi ca) HU.out.one') (by simp only [maxLen, List.length_singleton]; omega) (by simp only [List.length_singleton]; omega) ?_; intro A1 c1 w7 gn hrow hgr hgn; have Y := Lib.hid ((HP1.out.below ((Below.refl _ w1).alloc (Nat.le_refl _) _)).grow HM.out hrow hgr hgn (HU.out.below ((Below.refl _ w1).alloc (Nat.le_refl _) _))); clear hrow hgr hgn; have s1 := Y.out.2.1; have s2 := Y.out.2.2)
      go_roundw
      case rel =>
        refine ⟨i + 1, m, _, cm0, g, _, ini, las ++ [oneT a], by omega, by omega, by simp; omega, rfl, by go_num, Lib.hid Y.out.1, Lib.hid (HG.out.push HU.out.1), Lib.hid ?_⟩
        rw [HF.out, HB.out, map_push]
      case measure => simp [intOf]; omega
    · obtain rfl : i = p.length := by omega
      have HE : Hid (thingsS p = some (joinR (ini ++ [las]))) := Lib.hid (by
        rw [HF.out, List.drop_of_length_le (Nat.le_refl _), things_nil]; simp)
      go_wp2_with fail
      try rw [Exit.noGoto_ret]
      go_ret2
      exact ParseTo.good hn2 HP.out.bel HP.out.reads (by simp) HG.out HE.out
end Go.Proofs.YtcipljpalohjiaaDoor
