/-
  Stores into the bytes of merged events, and of a row of bytes beside them: all that lay before stays (PS); and a list of events that is copied by hand.
  Conditions: none.
-/
import Derived.Test.YtakcoplpmhgoiaaEvFirst
namespace Go.Proofs.Ytakcoplpmhgoiaa
open Go.RowKit

theorem Row.set_ {w : World} {e : TypeId} {g : Option Nat} {b o n c k : Nat} {xs : List Value} (h : Row w e g (.slice (some ⟨b, o, none⟩) n c) xs) (hk : k < xs.length) {u : Value} (hu : u.oneCell' = true) :
    Row (w.setCell ⟨b, o + k, none⟩ u) e g (.slice (some ⟨b, o, none⟩) n c) (xs.set k u) ∧ w.grownBy (w.setCell ⟨b, o + k, none⟩ u) g ∧ w.frozen? ⟨b, o + k, none⟩ = false := by
  obtain ⟨A, c', hv, hle, hm, h1, hg⟩ := h
  injection hv with e1 e2 e3
  subst e1 e2 e3
  rcases hg with ⟨rfl, _⟩ | ⟨b', o', cs, hc, rfl, e1, hb, hfit, hx⟩
  · omega
  · cases e1
    have hblk : Blk w b e cs := hb
    have hb' := hblk.set_ (o + k) u
    refine ⟨⟨_, c, by rw [List.length_set], by rw [List.length_set]; exact hle, hm, fun v hv => ?_, .inr ⟨b, o, _, hc, rfl, rfl, hb', by simpa using hfit, fun j v hj => ?_⟩⟩, ⟨rfl, rfl, rfl, by simp [World.setCell], fun i _ hi => Below.heap_setCell w _ u i (fun e2 => hi (by rw [e2]))⟩, hblk.frozen _⟩
    · rcases List.mem_or_eq_of_mem_set hv with hv | rfl
      · exact h1 v hv
      · exact hu
    · rw [List.getElem?_set] at hj
      rw [Array.getElem?_setIfInBounds]
      by_cases hjk : k = j
      · subst hjk
        rw [if_pos rfl, if_pos hk] at hj
        rw [if_pos rfl, if_pos (by omega)]
        exact hj
      · rw [if_neg hjk] at hj
        rw [if_neg (by omega)]
        exact hx j v hj
theorem bv_set (l : List Nat) (i x : Nat) : (bv l).set i (.int .u8 (x : Int)) = bv (l.set i x) := by simp [bv, List.map_set]
theorem set_byte {l : List Nat} {i x : Nat} (h : ∀ d ∈ l, d < 256) (hx : x < 256) : ∀ d ∈ l.set i x, d < 256 := fun d hd => by
  rcases List.mem_or_eq_of_mem_set hd with hd | rfl
  · exact h d hd
  · exact hx

/-- An event with another byte. -/
def Ev.poke (a : Ev) (i x : Nat) : Ev := ⟨a.dir, a.time, a.A, a.c, a.data.set i x⟩
theorem evc_poke (a : Ev) (i x : Nat) : evc (a.poke i x) = evc a := by simp [evc, Ev.poke]
theorem evcs_poke {l : List Ev} {k : Nat} {a : Ev} (h : l[k]? = some a) (i x : Nat) : evcs (l.set k (a.poke i x)) = evcs l := by
  induction l generalizing k with
  | nil => rfl
  | cons y l ih =>
    cases k with
    | zero =>
      rw [List.getElem?_cons_zero] at h
      cases h
      show evc (a.poke i x) ++ evcs l = evc a ++ evcs l
      rw [evc_poke]
    | succ k =>
      rw [List.getElem?_cons_succ] at h
      show evc y ++ evcs (l.set k (a.poke i x)) = evc y ++ evcs l
      rw [ih h]

/-- Merged events, and a row of bytes beside them, all made since w2; what lay in w2 is as it was. -/
structure PS (w2 : World) (g : Option Nat) (v : Value) (gy : Option Nat) (vy : Value) (W : World) (l : List Ev) (ds : List Nat) : Prop where
  mr : MR w2.heap.size W g v l
  row : Row W 5 gy vy (bv ds)
  byte : ∀ d ∈ ds, d < 256
  fresh : ∀ b, gy = some b → w2.heap.size ≤ b
  apart : ∀ x ∈ l, ∀ b, gy = some b → x.blk ≠ some b
  below : Below w2.heap.size w2 W

section
variable {w2 W : World} {g gy : Option Nat} {v vy : Value} {l : List Ev} {ds : List Nat}
theorem PS.alloc (h : PS w2 g v gy vy W l ds) (o : Obj) : PS w2 g v gy vy (W.alloc o) l ds := ⟨h.mr.alloc o, h.row.alloc o, h.byte, h.fresh, h.apart, h.below.alloc h.below.size o⟩
/-- A byte of an event is stored. -/
theorem PS.poke {k i : Nat} {d t : Int} {b o ca x : Nat} {bs : List Nat} (h : PS w2 g v gy vy W l ds) (ha : l[k]? = some ⟨d, t, some ⟨b, o, none⟩, ca, bs⟩) (hi : i < bs.length) (hx : x < 256) :
    PS w2 g v gy vy (W.setCell ⟨b, o + i, none⟩ (.int .u8 (x : Int))) (l.set k ⟨d, t, some ⟨b, o, none⟩, ca, bs.set i x⟩) ds ∧ W.frozen? ⟨b, o + i, none⟩ = false := by
  have hk := (List.getElem?_eq_some_iff.1 ha).1
  have hmem := List.mem_of_getElem? ha
  have hown := h.mr.own _ hmem
  have hblk : (⟨d, t, some ⟨b, o, none⟩, ca, bs⟩ : Ev).blk = some b := rfl
  obtain ⟨hr, hg, hf⟩ := hown.row.set_ (k := i) (by rw [bv_len]; exact hi) (u := .int .u8 (x : Int)) rfl
  rw [bv_set] at hr
  have hev := evcs_poke ha i x
  have hkeep : ∀ c, c ≠ b → (W.setCell ⟨b, o + i, none⟩ (.int .u8 (x : Int))).heap[c]? = W.heap[c]? := fun c hc => Below.heap_setCell W _ _ c hc
  have hnew : Own1 w2.heap.size (W.setCell ⟨b, o + i, none⟩ (.int .u8 (x : Int))) ⟨d, t, some ⟨b, o, none⟩, ca, bs.set i x⟩ := by
    refine ⟨?_, hown.fresh, ?_, set_byte hown.byte hx, by rw [List.length_set]; exact hown.max⟩
    · show Row _ _ (some b) (.slice (some ⟨b, o, none⟩) (bs.set i x).length ca) (bv (bs.set i x))
      rw [List.length_set]; exact hr
    · intro e
      have := congrArg List.length e
      rw [List.length_set] at this
      simp at this
      rw [this] at hi
      simp at hi
  refine ⟨⟨⟨?_, h.mr.fresh, fun y hy => ?_, fun i' j' y z hy hz hij => ?_⟩, h.row.keep (fun c e => hkeep c ?_), h.byte, h.fresh, fun y hy c e => ?_, h.below.setCell (p := ⟨b, o + i, none⟩) (hown.fresh b rfl) _⟩, hf⟩
  · rw [List.length_set]
    have := h.mr.row
    rw [← hev] at this
    refine this.keep fun c e => hkeep c ?_
    rintro rfl
    exact hown.ne_g h.mr.row rfl e
  · rcases List.mem_or_eq_of_mem_set hy with hy' | rfl
    · obtain ⟨j, hj⟩ := List.mem_iff_getElem?.1 hy
      rw [List.getElem?_set] at hj
      by_cases hjk : k = j
      · rw [if_pos hjk, if_pos hk] at hj
        cases hj
        exact hnew
      · rw [if_neg hjk] at hj
        exact (h.mr.own y hy').keep fun c e => hkeep c (by
          rintro rfl
          exact h.mr.apart j k y _ hj ha (fun e => hjk e.symm) (e.trans hblk.symm))
    · exact hnew
  · have conv_ : ∀ (j : Nat) (y : Ev), (l.set k ⟨d, t, some ⟨b, o, none⟩, ca, bs.set i x⟩)[j]? = some y → ∃ y', l[j]? = some y' ∧ y'.blk = y.blk := by
      intro j y hy
      rw [List.getElem?_set] at hy
      by_cases hjk : k = j
      · rw [if_pos hjk, if_pos hk] at hy
        cases hy
        exact ⟨⟨d, t, some ⟨b, o, none⟩, ca, bs⟩, by rw [← hjk]; exact ha, rfl⟩
      · rw [if_neg hjk] at hy
        exact ⟨y, hy, rfl⟩
    obtain ⟨y', h1, e1⟩ := conv_ i' y hy
    obtain ⟨z', h2, e2⟩ := conv_ j' z hz
    rw [← e1, ← e2]
    exact h.mr.apart i' j' y' z' h1 h2 hij
  · rintro rfl
    exact h.apart _ hmem c e rfl
  · rcases List.mem_or_eq_of_mem_set hy with hy' | rfl
    · exact h.apart y hy' c e
    · exact h.apart _ hmem c e
/-- A byte of the row is stored. -/
theorem PS.pokeB {i b o n c x : Nat} (h : PS w2 g v gy (.slice (some ⟨b, o, none⟩) n c) W l ds) (hi : i < ds.length) (hx : x < 256) :
    PS w2 g v gy (.slice (some ⟨b, o, none⟩) n c) (W.setCell ⟨b, o + i, none⟩ (.int .u8 (x : Int))) l (ds.set i x) ∧ W.frozen? ⟨b, o + i, none⟩ = false := by
  obtain ⟨hr, hg, hf⟩ := h.row.set_ (k := i) (by rw [bv_len]; exact hi) (u := .int .u8 (x : Int)) rfl
  rw [bv_set] at hr
  have hgy : gy = some b := h.row.blk_ (by rw [bv_len]; omega)
  have hkeep : ∀ k, k ≠ b → (W.setCell ⟨b, o + i, none⟩ (.int .u8 (x : Int))).heap[k]? = W.heap[k]? := fun k hk => Below.heap_setCell W _ _ k hk
  obtain ⟨cs, hcs⟩ := h.row.obj hgy
  refine ⟨⟨⟨h.mr.row.keep fun k e => hkeep k ?_, h.mr.fresh, fun y hy => (h.mr.own y hy).keep fun k e => hkeep k ?_, h.mr.apart⟩, hr, set_byte h.byte hx, h.fresh, h.apart, h.below.setCell (p := ⟨b, o + i, none⟩) (h.fresh b hgy) _⟩, hf⟩
  · rintro rfl
    obtain ⟨cs', h2⟩ := h.mr.row.obj e
    rw [hcs] at h2
    injection h2 with h2
    injection h2 with _ h2
    cases h2
  · rintro rfl
    exact h.apart y hy k hgy e
end

/-- append([]byte{}, x.Data...), and the list with that event behind it, as equations. -/
theorem own_new {T : Nat → Prop} {W : World} {g : Option Nat} {l : List Ev} {v : Value} {n0 : Nat} (d t : Int) (A : Option Addr) (c : Nat) (bs : List Nat) (h : EL (fun _ => False) T W g v l) (hrd : Rd W (.slice A bs.length c) (bv bs)) (hby : ∀ x ∈ bs, x < 256) (hx : bs.length ≤ 1048576) (hl : l.length ≤ 1048576)
    (hT : ∀ b, W.heap.size ≤ b → T b) (hT0 : ∀ b, T b → n0 ≤ b) (hn : n0 ≤ W.heap.size) :
    ∃ A5 c5 w5 A7 c7 w7 g7, (Builtin.append_ #[23, 23] 23 #[.slice (some ⟨W.heap.size, 0, none⟩) 0 0, .slice A bs.length c]).run Try.prog (W.drew.alloc (.cells #[] 5)) = .ok (.slice A5 bs.length c5) w5 ∧
      (Builtin.append_ #[22, 22] 22 #[v, .slice (some ⟨w5.heap.size, 0, none⟩) 1 1]).run Try.prog (w5.alloc (.cells #[.int .i64 d, .int .i64 t, .slice A5 bs.length c5] 25)) = .ok (.slice A7 (l.length + 1) c7) w7 ∧
      Below W.heap.size W w5 ∧ (∀ k, k < W.heap.size → g ≠ some k → w7.heap[k]? = W.heap[k]?) ∧ Below n0 W w7 ∧ EL (fun _ => False) T w7 g7 (.slice A7 (l.length + 1) c7) (l ++ [⟨d, t, A5, c5, bs⟩]) := by
  obtain ⟨i0, hi0, hz0, hz1, hz2⟩ := info_parts byte_info
  obtain ⟨v', w5, g5, hrun, hr, hgr, hg'⟩ := run_append_row (P := Try.prog) (W.drew.alloc (.cells #[] 5)) 23 23 23 5 i0 _ 1 Try.underlying23 hi0 hz0 hz1 hz2 rfl (Row.empty _ _ (some ⟨W.heap.size, 0, none⟩)) _ bs.length (bv bs) (by have := (Rd.alloc (w := W.drew) hrd (.cells #[] 5)).src (P := Try.prog) Try.underlying23; rwa [bv_len] at this) (by simp only [maxLen, List.length_nil]; omega) (by simp only [List.length_nil]; omega)
  obtain ⟨A5, c5, rfl⟩ := hr.form
  rw [List.nil_append] at hr hrun
  rw [bv_len] at hr hrun
  have hb5 : Below W.heap.size W w5 := ((Below.refl W.heap.size W).drew.alloc (Nat.le_refl _) _).grown hgr (by simp) (by simp)
  have hf5 : ∀ b, g5 = some b → W.heap.size ≤ b := by
    intro b e
    rcases hg' with e' | e'
    · rw [e'] at e; cases e
    · rw [e] at e'; simp at e'; omega
  have h5 := h.below hb5
  obtain ⟨A7, c7, w7, g7, hrun7, hr7, hgr7, hg7⟩ := append_ev (w := w5) 22 ⟨d, t, A5, c5, bs⟩ (h5.row.alloc _) (by omega)
  have hoa : EvOk (fun b => False ∨ (T b ∧ ∃ cs, (w5.alloc (.cells #[.int .i64 d, .int .i64 t, .slice A5 bs.length c5] 25)).heap[b]? = some (.cells cs 5 (0, 0)))) (w5.alloc (.cells #[.int .i64 d, .int .i64 t, .slice A5 bs.length c5] 25)) ⟨d, t, A5, c5, bs⟩ :=
    EvOk.ofRow (hr.alloc _) hby (by omega) fun b e hc => .inr ⟨hT b (hf5 b e), hc⟩
  have hn5 : n0 ≤ w5.heap.size := Nat.le_trans hn hb5.size
  refine ⟨A5, c5, w5, A7, c7, w7, g7, hrun, hrun7, hb5, fun k hk hgk => ?_, (((hb5.mono hn).alloc hn5 _).grown hgr7 (by simp; omega) (fun b e => hT0 b (h.fresh b e).1)), (h5.alloc _).snoc hoa hr7 hgr7 (by rw [World.size_alloc]; exact hg7) ⟨hT _ (by have := hb5.size; simp; omega), fun h => h⟩⟩
  have h1 := hb5.size
  exact (hgr7.block k (by simp; omega) (fun e => hgk e.symm)).trans ((Below.heap_alloc w5 _ k (by omega)).trans (hb5.block k hk))
end Go.Proofs.Ytakcoplpmhgoiaa
