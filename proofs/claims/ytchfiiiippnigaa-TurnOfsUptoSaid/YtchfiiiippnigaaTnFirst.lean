/-
  turn.first: the turn that merged events begin with, in memory of its own, and the rest.
  Conditions: at most 4194304 bytes together.
-/
import Derived.Test.YtchfiiiippnigaaTnSpk
import Derived.Test.YtchfiiiippnigaaRR
import Derived.Test.YtchfiiiippnigaaEvTake
namespace Go.Proofs.Ytchfiiiippnigaa
open Go.RowKit

/-- Merged events of the two ways. -/
def Alt (l : List PE) : Prop := Sound l ∧ ∀ a ∈ l, a.dir = 0 ∨ a.dir = 1
theorem Alt.tail {a : PE} {l : List PE} (h : Alt (a :: l)) : Alt l := by
  refine ⟨⟨fun b hb => h.1.1 b (List.mem_cons_of_mem _ hb), fun i b c hb hc => h.1.2 (i + 1) b c (by simpa using hb) (by simpa using hc)⟩, fun b hb => h.2 b (List.mem_cons_of_mem _ hb)⟩
theorem Alt.next {a b : PE} {l : List PE} (h : Alt (a :: b :: l)) : a.dir ≠ b.dir := h.1.2 0 a b rfl rfl
theorem put_dirs {acc : List PE} {a : PE} {P : Int → Prop} (h : ∀ x ∈ acc, P x.dir) (ha : P a.dir) : ∀ x ∈ put acc a, P x.dir := by
  by_cases hn : a.data = []
  · rw [put_none hn]; exact h
  · rcases snoc_cases acc with rfl | ⟨p, b, rfl⟩
    · rw [put_first hn]; intro x hx; rw [List.mem_singleton.1 hx]; exact ha
    · by_cases hd : b.dir = a.dir
      · rw [put_same hn hd]
        intro x hx
        rcases List.mem_append.1 hx with hx | hx
        · exact h x (List.mem_append_left _ hx)
        · rw [List.mem_singleton.1 hx]; exact h b (by simp)
      · rw [put_new hn hd]
        intro x hx
        rcases List.mem_append.1 hx with hx | hx
        · exact h x hx
        · rw [List.mem_singleton.1 hx]; exact ha
theorem mrg_dirs {P : Int → Prop} (l : List PE) (h : ∀ x ∈ l, P x.dir) : ∀ x ∈ mrg l, P x.dir := by
  have : ∀ (l acc : List PE), (∀ x ∈ acc, P x.dir) → (∀ x ∈ l, P x.dir) → ∀ x ∈ l.foldl put acc, P x.dir := by
    intro l
    induction l with
    | nil => intro acc h _; exact h
    | cons a l ih => intro acc h1 h2; exact ih _ (put_dirs h1 (h2 a (by simp))) fun x hx => h2 x (List.mem_cons_of_mem _ hx)
  exact this l [] (by simp) h
theorem alt_mrg (l : List PE) : Alt (mrg (spk l)) := ⟨mrg_sound _, mrg_dirs (P := fun d => d = 0 ∨ d = 1) _ fun x hx => by simpa using (List.mem_filter.1 hx).2⟩
theorem turns_put (l : List PE) (a : PE) : turns (put l a) = tput (turns l) a.dir a.data := by
  by_cases hn : a.data = []
  · rw [put_none hn, hn, tput_nil]
  · rcases snoc_cases l with rfl | ⟨p, b, rfl⟩
    · rw [put_first hn]; rfl
    · by_cases hd : b.dir = a.dir
      · rw [put_same hn hd, turns_snoc, turns_snoc, ← hd, tput_two]
      · rw [put_new hn hd, turns_snoc]
theorem turns_mrg (l : List PE) : turns (mrg l) = turns l := by
  have : ∀ (l acc : List PE), turns (l.foldl put acc) = turnsF (turns acc) l := by
    intro l
    induction l with
    | nil => intro acc; rfl
    | cons a l ih => intro acc; rw [List.foldl_cons, ih, turns_put]; rfl
  exact this l []
theorem turns_all (l : List PE) : turns (mrg (spk l)) = turns l := by rw [turns_mrg]; exact spk_turnsF l []

theorem tput_pre (p : List Tn) {q : List Tn} (hq : q ≠ []) (d : Int) (xs : List Nat) : tput (p ++ q) d xs = p ++ tput q d xs ∧ tput q d xs ≠ [] := by
  rcases List.eq_nil_or_concat q with rfl | ⟨r, b, rfl⟩
  · exact absurd rfl hq
  · rw [List.concat_eq_append]
    by_cases hx : xs = []
    · subst hx; rw [tput_nil, tput_nil]; exact ⟨rfl, by simp⟩
    · by_cases h0 : d = 0
      · subst h0
        by_cases hb : b.inn = []
        · rw [← List.append_assoc, tput_more _ hx hb, tput_more _ hx hb]; exact ⟨by simp, by simp⟩
        · rw [← List.append_assoc, tput_new _ hx hb, tput_new _ hx hb]; exact ⟨by simp, by simp⟩
      · by_cases h1 : d = 1
        · subst h1
          rw [← List.append_assoc, tput_in _ _ hx, tput_in _ _ hx]; exact ⟨by simp, by simp⟩
        · rw [tput_far _ h0 h1, tput_far _ h0 h1]; exact ⟨rfl, by simp⟩
theorem turnsF_pre (p : List Tn) : ∀ (l : List PE) {q : List Tn}, q ≠ [] → turnsF (p ++ q) l = p ++ turnsF q l
  | [], q, _ => rfl
  | a :: l, q, hq => by
    have h := tput_pre p hq a.dir a.data
    show turnsF (tput (p ++ q) a.dir a.data) l = p ++ turnsF (tput q a.dir a.data) l
    rw [h.1, turnsF_pre p l h.2]
/-- Behind a turn that has an In, another one begins. -/
theorem turnsF_full {b : Tn} (hb : b.inn ≠ []) {l : List PE} (h : Alt l) (h0 : ∀ a r, l = a :: r → a.dir = 0) : turnsF [b] l = b :: turns l := by
  rcases l with _ | ⟨a, r⟩
  · rfl
  · have hd := h0 a r rfl
    have hn := h.1.1 a (by simp)
    show turnsF (tput [b] a.dir a.data) r = b :: turnsF (tput [] a.dir a.data) r
    have e := tput_new [] hn hb
    rw [List.nil_append] at e
    rw [hd, e, tput_none0 hn, turnsF_pre [b] r (by simp)]
    rfl
theorem turns_one {t : Int} {x : List Nat} (hx : x ≠ []) : turns [⟨0, t, x⟩] = [⟨x, []⟩] := tput_none0 hx
theorem turns_in {t : Int} {x : List Nat} {l : List PE} (h : Alt (⟨1, t, x⟩ :: l)) : turns (⟨1, t, x⟩ :: l) = ⟨[], x⟩ :: turns l := by
  have hx : x ≠ [] := h.1.1 ⟨1, t, x⟩ (by simp)
  show turnsF (tput [] 1 x) l = _
  rw [tput_none1 hx]
  refine turnsF_full (b := ⟨[], x⟩) hx h.tail fun a r e => ?_
  subst e
  have := h.next
  have h2 := h.2 a (by simp)
  simp at this
  omega
theorem turns_two {t u : Int} {x y : List Nat} {l : List PE} (h : Alt (⟨0, t, x⟩ :: ⟨1, u, y⟩ :: l)) : turns (⟨0, t, x⟩ :: ⟨1, u, y⟩ :: l) = ⟨x, y⟩ :: turns l := by
  have hx : x ≠ [] := h.1.1 ⟨0, t, x⟩ (by simp)
  have hy : y ≠ [] := h.1.1 ⟨1, u, y⟩ (by simp)
  show turnsF (tput (tput [] 0 x) 1 y) l = _
  rw [tput_none0 hx]
  have e := tput_in [] ⟨x, []⟩ hy
  rw [List.nil_append, List.nil_append, List.nil_append] at e
  rw [e]
  refine turnsF_full (b := ⟨x, y⟩) hy h.tail.tail fun a r e => ?_
  subst e
  have := h.tail.next
  have h2 := h.2 a (by simp)
  simp at this
  omega

/-- l[1:] of events. -/
theorem EvsIn.tail {S : Nat → Prop} {w : World} {b o N C : Nat} {a : Ev} {L : List Ev} (h : EvsIn S w (.slice (some ⟨b, o, none⟩) (N + 1) (C + 1)) (a :: L)) : EvsIn S w (.slice (some ⟨b, o + 3, none⟩) N C) L := by
  have hn := h.n
  obtain ⟨hm, ho, A', c', e, hle, hr⟩ := h
  injection e with e1 e2 e3
  subst e1 e3
  have hN : N = L.length := by simpa using hn
  refine ⟨by simp at hm; omega, fun a ha => ho a (List.mem_cons_of_mem _ ha), _, C, by rw [hN], by simp at hle; omega, fun hp => ?_⟩
  obtain ⟨b, o, e, hS, hx⟩ := hr (by simp)
  cases e
  refine ⟨b, o + 3, rfl, hS, fun j x hj => ?_⟩
  have := hx (j + 1) x (by simpa using hj)
  rwa [show o + (j + 1) * 3 = o + 3 + j * 3 by omega] at this
/-- Two rows of bytes, each in memory of its own. -/
structure Own2 (n0 : Nat) (W : World) (a b : R1) : Prop where
  ra : Row W 5 a.g a.val (bv a.l)
  fa : ∀ k, a.g = some k → n0 ≤ k
  rb : Row W 5 b.g b.val (bv b.l)
  fb : ∀ k, b.g = some k → n0 ≤ k
  apart : ∀ k, a.g = some k → b.g ≠ some k
/-- What first leaves. -/
def FirstTo (S : Nat → Prop) (w : World) (L : List Ev) (e : Ending) (w' : World) : Prop :=
  ∃ (a b : R1) (A' : Option Addr) (N C : Nat) (L' : List Ev), e = .returned (.tuple #[.agg #[a.val, b.val], .slice A' N C]) ∧ N < L.length ∧ Own2 w.heap.size w' a b ∧ EvsIn S w (.slice A' N C) L' ∧ Alt (pes L') ∧ turns (pes L) = ⟨a.l, b.l⟩ :: turns (pes L') ∧ whole (pes L') ≤ whole (pes L) ∧ Below w.heap.size w w'

/-- Behind the last Clone: the box is handed out. -/
theorem own_far {n0 : Nat} {W : World} {a b : R1} (h : Own2 n0 W a b) (p : Addr) (v : Value) (ha : a.g ≠ some p.block) (hb : b.g ≠ some p.block) : Own2 n0 (W.setCell p v) a b :=
  ⟨h.ra.far ha v, h.fa, h.rb.far hb v, h.fb, h.apart⟩
theorem own_end {n0 : Nat} {W : World} {a b : R1} {x y z : Value} {k : Nat} (h : Own2 (n0 + 2) W a b) :
    Own2 n0 (((W.setCell ⟨n0 + 1, k, none⟩ x).setCell ⟨n0, 0, none⟩ y).setCell ⟨n0, 1, none⟩ z) a b := by
  have na : ∀ m, m ≤ n0 + 1 → a.g ≠ some m := fun m hm e => by have := h.fa m e; omega
  have nb : ∀ m, m ≤ n0 + 1 → b.g ≠ some m := fun m hm e => by have := h.fb m e; omega
  have h1 := own_far (own_far (own_far h ⟨n0 + 1, k, none⟩ x (na _ (by simp)) (nb _ (by simp))) ⟨n0, 0, none⟩ y (na _ (by simp)) (nb _ (by simp))) ⟨n0, 1, none⟩ z (na _ (by simp)) (nb _ (by simp))
  exact ⟨h1.ra, fun m e => by have := h1.fa m e; omega, h1.rb, fun m e => by have := h1.fb m e; omega, h1.apart⟩
theorem below_end {n0 : Nat} {w W : World} {x y z : Value} {k : Nat} (h : Below n0 w W) : Below n0 w (((W.setCell ⟨n0 + 1, k, none⟩ x).setCell ⟨n0, 0, none⟩ y).setCell ⟨n0, 1, none⟩ z) :=
  ((h.setCell (p := ⟨n0 + 1, k, none⟩) (by simp) x).setCell (p := ⟨n0, 0, none⟩) (by simp) y).setCell (p := ⟨n0, 1, none⟩) (by simp) z
theorem Own2.left {n0 : Nat} {W : World} {A : Option Addr} {c : Nat} {l : List Nat} {g : Option Nat} (h : Row W 5 g (.slice A l.length c) (bv l)) (hf : ∀ k, g = some k → n0 ≤ k) : Own2 n0 W ⟨A, c, l, g⟩ R1.none :=
  ⟨h, hf, Row.nil W _, fun k e => (by cases e), fun k _ e => (by cases e)⟩
theorem Own2.right {n0 : Nat} {W : World} {A : Option Addr} {c : Nat} {l : List Nat} {g : Option Nat} (h : Row W 5 g (.slice A l.length c) (bv l)) (hf : ∀ k, g = some k → n0 ≤ k) : Own2 n0 W R1.none ⟨A, c, l, g⟩ :=
  ⟨Row.nil W _, fun k e => (by cases e), h, hf, fun k e => (by cases e)⟩
/-- Behind the first Clone: the two boxes. -/
theorem first_base {w w1 : World} (hb : Below ((w.alloc (.cells #[.slice none 0 0, .slice none 0 0] 33)).alloc (.cells #[.slice none 0 0, .slice none 0 0] 33)).heap.size ((w.alloc (.cells #[.slice none 0 0, .slice none 0 0] 33)).alloc (.cells #[.slice none 0 0, .slice none 0 0] 33)) w1) :
    Hid (Blk w1 w.heap.size 33 #[.slice none 0 0, .slice none 0 0] ∧ Blk w1 (w.heap.size + 1) 33 #[.slice none 0 0, .slice none 0 0] ∧ Below w.heap.size w w1 ∧ w.heap.size + 2 ≤ w1.heap.size) ∧
      w1.cell? ⟨w.heap.size, 0, none⟩ = some (.slice none 0 0) ∧ w1.cell? ⟨w.heap.size, 1, none⟩ = some (.slice none 0 0) ∧ w1.frozen? ⟨w.heap.size, 0, none⟩ = false ∧ w1.frozen? ⟨w.heap.size, 1, none⟩ = false ∧
      w1.cell? ⟨w.heap.size + 1, 0, none⟩ = some (.slice none 0 0) ∧ w1.cell? ⟨w.heap.size + 1, 1, none⟩ = some (.slice none 0 0) ∧ w1.frozen? ⟨w.heap.size + 1, 0, none⟩ = false ∧ w1.frozen? ⟨w.heap.size + 1, 1, none⟩ = false := by
  have b1 := ((Blk.new w 33 #[.slice none 0 0, .slice none 0 0]).alloc (.cells #[.slice none 0 0, .slice none 0 0] 33)).below hb (by simp; omega)
  have b2 := (Blk.new (w.alloc (.cells #[.slice none 0 0, .slice none 0 0] 33)) 33 #[.slice none 0 0, .slice none 0 0]).below hb (by simp)
  rw [World.size_alloc] at b2
  exact ⟨Lib.hid ⟨b1, b2, (((Below.refl _ w).alloc (Nat.le_refl _) _).alloc (by simp) _).trans (hb.mono (by simp; omega)), by have := hb.size; simpa using this⟩, b1.cell 0, b1.cell 1, b1.frozen 0, b1.frozen 1, b2.cell 0, b2.cell 1, b2.frozen 0, b2.frozen 1⟩

/-- The box is handed out. -/
theorem first_out {n0 k : Nat} {W : World} {x y z y0 z0 : Value} {T : Array Value} {r : Value} {Post : Ending → World → Prop} (h0 : W.cell? ⟨n0, 0, none⟩ = some y0) (h1 : W.cell? ⟨n0, 1, none⟩ = some z0)
    (hT : T[2]?.getD undef = .pointer (some ⟨n0, 0, none⟩) ∧ T[3]?.getD undef = r) (h : Post (.returned (.tuple #[.agg #[y, z], r])) (((W.setCell ⟨n0 + 1, k, none⟩ x).setCell ⟨n0, 0, none⟩ y).setCell ⟨n0, 1, none⟩ z)) :
    bodyPost Try.prog Try.f26 Post Exit.ret { tmps := T, defers := [] } (((W.setCell ⟨n0 + 1, k, none⟩ x).setCell ⟨n0, 0, none⟩ y).setCell ⟨n0, 1, none⟩ z) := by
  have a0 : (W.setCell ⟨n0 + 1, k, none⟩ x).cell? ⟨n0, 0, none⟩ = some y0 := (World.cell?_setCell_other _ _ _ _ (by simp)).trans h0
  have a1 : (W.setCell ⟨n0 + 1, k, none⟩ x).cell? ⟨n0, 1, none⟩ = some z0 := (World.cell?_setCell_other _ _ _ _ (by simp)).trans h1
  have e1 : (((W.setCell ⟨n0 + 1, k, none⟩ x).setCell ⟨n0, 0, none⟩ y).setCell ⟨n0, 1, none⟩ z).cell? ⟨n0, 0, none⟩ = some y := (World.cell?_setCell_other _ _ _ _ (by simp)).trans (World.cell?_setCell_same _ _ _ a0)
  have e2 : (((W.setCell ⟨n0 + 1, k, none⟩ x).setCell ⟨n0, 0, none⟩ y).setCell ⟨n0, 1, none⟩ z).cell? ⟨n0, 1, none⟩ = some z := World.cell?_setCell_same _ _ _ ((World.cell?_setCell_other _ _ _ _ (by simp)).trans a1)
  generalize ((W.setCell ⟨n0 + 1, k, none⟩ x).setCell ⟨n0, 0, none⟩ y).setCell ⟨n0, 1, none⟩ z = V at *
  refine bodyPost_ret ?_ rfl h
  simp [results, Try.results26, go_sem, hT.1, hT.2, e1, e2]

/-- Behind the second one. -/
theorem first_two {w w1 w2 : World} {v : Value} (h : Hid (Blk w1 w.heap.size 33 #[.slice none 0 0, .slice none 0 0] ∧ Blk w1 (w.heap.size + 1) 33 #[.slice none 0 0, .slice none 0 0] ∧ Below w.heap.size w w1 ∧ w.heap.size + 2 ≤ w1.heap.size))
    (hb : Below (w1.setCell ⟨w.heap.size + 1, 0, none⟩ v).heap.size (w1.setCell ⟨w.heap.size + 1, 0, none⟩ v) w2) :
    Hid (Below w.heap.size w w2) ∧
      w2.cell? ⟨w.heap.size, 0, none⟩ = some (.slice none 0 0) ∧ w2.cell? ⟨w.heap.size, 1, none⟩ = some (.slice none 0 0) ∧ w2.frozen? ⟨w.heap.size, 0, none⟩ = false ∧ w2.frozen? ⟨w.heap.size, 1, none⟩ = false ∧
      w2.cell? ⟨w.heap.size + 1, 0, none⟩ = some v ∧ w2.cell? ⟨w.heap.size + 1, 1, none⟩ = some (.slice none 0 0) ∧ w2.frozen? ⟨w.heap.size + 1, 0, none⟩ = false ∧ w2.frozen? ⟨w.heap.size + 1, 1, none⟩ = false := by
  obtain ⟨b1, b2, hB, hsz⟩ := h.out
  have b1' := (b1.far (p := ⟨w.heap.size + 1, 0, none⟩) (by simp) v).below hb (by simp; omega)
  have b2' := (b2.set_ 0 v).below hb (by simp; omega)
  exact ⟨Lib.hid ((hB.setCell (p := ⟨w.heap.size + 1, 0, none⟩) (by simp) v).trans (hb.mono (by simp; omega))), b1'.cell 0, b1'.cell 1, b1'.frozen 0, b1'.frozen 1, by simpa using b2'.cell 0, by simpa using b2'.cell 1, b2'.frozen 0, b2'.frozen 1⟩

set_option maxRecDepth 100000 in
set_option maxHeartbeats 2000000 in
theorem first_is (S : Nat → Prop) (v : Value) (L : List Ev) (w : World) (h : EvsIn S w v L) (hal : Alt (pes L)) (hne : L ≠ []) (hw : whole (pes L) ≤ 4194304) :
    Calls Try.prog 26 #[v] w (FirstTo S w L) := by
  rcases L with _ | ⟨⟨d, t, Aa, ca, bs⟩, L1⟩
  · exact absurd rfl hne
  obtain ⟨A, c, rfl, hle⟩ := h.form
  obtain ⟨C, rfl⟩ : ∃ C, c = C + 1 := ⟨c - 1, by simp at hle; omega⟩
  rw [List.length_cons] at h hle ⊢
  obtain ⟨b, o, ⟨d', t', Aa', ca', bs'⟩, rfl, ha, hat, hok, hSb⟩ := EvsIn.at h (k := 0) (by omega)
  cases ha
  have hbl : b < w.heap.size := hat.lt
  have z0 : ((w.alloc (.cells #[.slice none 0 0, .slice none 0 0] 33)).alloc (.cells #[.slice none 0 0, .slice none 0 0] 33)).cell? ⟨b, o, none⟩ = some (.int .i64 d) := by
    have := (hat.keep (W' := (w.alloc (.cells #[.slice none 0 0, .slice none 0 0] 33)).alloc (.cells #[.slice none 0 0, .slice none 0 0] 33)) ((Below.heap_alloc _ _ b (by simp; omega)).trans (Below.heap_alloc w _ b hbl))).dir
    simpa using this
  have z2 : ((w.alloc (.cells #[.slice none 0 0, .slice none 0 0] 33)).alloc (.cells #[.slice none 0 0, .slice none 0 0] 33)).cell? ⟨b, o + 2, none⟩ = some (.slice Aa bs.length ca) := by
    have := (hat.keep (W' := (w.alloc (.cells #[.slice none 0 0, .slice none 0 0] 33)).alloc (.cells #[.slice none 0 0, .slice none 0 0] 33)) ((Below.heap_alloc _ _ b (by simp; omega)).trans (Below.heap_alloc w _ b hbl))).data
    simpa using this
  have hE1 := h.tail
  have hmax := h.max
  rw [List.length_cons] at hmax
  have hbs : bs.length ≤ 4194304 := by have := hw; rw [show pes (⟨d, t, Aa, ca, bs⟩ :: L1) = ⟨d, t, bs⟩ :: pes L1 from rfl, whole_cons] at this; dsimp only at this; omega
  have HA : Hid (Alt (⟨d, t, bs⟩ :: pes L1)) := Lib.hid hal
  have HW1 : Hid (whole (pes L1) ≤ 4194304) := Lib.hid (by rw [show pes (⟨d, t, Aa, ca, bs⟩ :: L1) = ⟨d, t, bs⟩ :: pes L1 from rfl, whole_cons] at hw; omega)
  have HWL : Hid (whole (pes L1) ≤ whole (pes (⟨d, t, Aa, ca, bs⟩ :: L1))) := Lib.hid (by rw [show pes (⟨d, t, Aa, ca, bs⟩ :: L1) = ⟨d, t, bs⟩ :: pes L1 from rfl, whole_cons]; omega)
  have HT : Hid (turns (pes (⟨d, t, Aa, ca, bs⟩ :: L1)) = turns (⟨d, t, bs⟩ :: pes L1)) := Lib.hid rfl
  have hd := HA.out.2 ⟨d, t, bs⟩ (by simp)
  dsimp only at hd
  have HR : Hid (Rd w (.slice Aa bs.length ca) (bv bs)) := Lib.hid hok.rd
  have HE1 := Lib.hid hE1
  clear h hal hat hok hE1 hw hne
  go_enter Try.func26, Try.ntmps26
  rcases hd with rfl | rfl
  · go_wp2_with fail
    refine (Clone_any Aa bs.length ca bs _ ((HR.out.alloc _).alloc _) hbs).mono ?_
    rintro e w1 ⟨A2, c2, g2, rfl, hrow, hfr, hb⟩
    obtain ⟨HB, hr0, hr1, hq0, hq1, ht0, ht1, hu0, hu1⟩ := first_base hb
    have X := Lib.hid (And.intro hrow (And.intro hfr HB))
    clear hrow hfr hb HB z0 z2
    rcases L1 with _ | ⟨⟨d3, t3, A3, c3, b3⟩, L2⟩
    · have fin : ∀ A' C', FirstTo S w [⟨0, t, Aa, ca, bs⟩] (.returned (.tuple #[.agg #[.slice A2 bs.length c2, .slice none 0 0], .slice A' 0 C'])) (((w1.setCell ⟨w.heap.size + 1, 0, none⟩ (.slice A2 bs.length c2)).setCell ⟨w.heap.size, 0, none⟩ (.slice A2 bs.length c2)).setCell ⟨w.heap.size, 1, none⟩ (.slice none 0 0)) := fun A' C' =>
        ⟨⟨A2, c2, bs, g2⟩, R1.none, A', 0, C', [], rfl, by simp, own_end (Own2.left X.out.1 (by have := X.out.2.1; simpa using this)), EvsIn.nil _ _ _, HA.out.tail, HT.out.trans (turns_one (HA.out.1.1 ⟨0, t, bs⟩ (by simp))), by simp [pes, whole], below_end X.out.2.2.out.2.2.1⟩
      have FIN := Lib.hid fin
      clear fin
      go_wp2_with fail
      · exact first_out hr0 hr1 ⟨rfl, rfl⟩ (FIN.out (some ⟨b, o, none⟩) 0)
      · exact first_out hr0 hr1 ⟨rfl, rfl⟩ (FIN.out (some ⟨b, o + 3, none⟩) C)
    · obtain ⟨C2, rfl⟩ : ∃ C2, C = C2 + 1 := ⟨C - 1, by simp at hle; omega⟩
      have hd3 : d3 = 1 := by have h1 := HA.out.next; have h2 := HA.out.2 ⟨d3, t3, b3⟩ (by simp [pes, Ev.pe]); simp [Ev.pe] at h1 h2; omega
      subst hd3
      obtain ⟨b5, o5, ⟨d', t', Aa', ca', bs'⟩, e5, ha, hat, hok, hSb⟩ := EvsIn.at HE1.out (k := 0) (by simp)
      cases ha
      cases e5
      have hlt : b < w.heap.size := hat.lt
      have hb6 : Below w.heap.size w (w1.setCell ⟨w.heap.size + 1, 0, none⟩ (.slice A2 bs.length c2)) := X.out.2.2.out.2.2.1.setCell (p := ⟨w.heap.size + 1, 0, none⟩) (by simp) _
      have z0 : (w1.setCell ⟨w.heap.size + 1, 0, none⟩ (.slice A2 bs.length c2)).cell? ⟨b, o + 3, none⟩ = some (.int .i64 1) := by have := (hat.keep (hb6.block b hlt)).dir; simpa using this
      have z2 : (w1.setCell ⟨w.heap.size + 1, 0, none⟩ (.slice A2 bs.length c2)).cell? ⟨b, o + 3 + 2, none⟩ = some (.slice A3 b3.length c3) := by have := (hat.keep (hb6.block b hlt)).data; simpa using this
      have hR3 : Rd (w1.setCell ⟨w.heap.size + 1, 0, none⟩ (.slice A2 bs.length c2)) (.slice A3 b3.length c3) (bv b3) := (hok.keep fun b' _ hl => hb6.block b' hl).rd
      have hb3 : b3.length ≤ 4194304 := by have := HW1.out; rw [show pes (⟨1, t3, A3, c3, b3⟩ :: L2) = ⟨1, t3, b3⟩ :: pes L2 from rfl, whole_cons] at this; dsimp only at this; omega
      have HR3 := Lib.hid (And.intro hR3 hb6)
      have hmx : L2.length + 2 ≤ 9223372036854775807 := by simpa using hmax
      simp only [List.length_cons]
      clear hat hok hR3 hb6 hmax
      go_wp2_with fail
      refine (Clone_any A3 b3.length c3 b3 _ HR3.out.1 hb3).mono ?_
      rintro e w2 ⟨A4, c4, g4, rfl, hrow4, hfr4, hb4⟩
      obtain ⟨Z, hr0', hr1', hq0', hq1', ht0', ht1', hu0', hu1'⟩ := first_two X.out.2.2 hb4
      have fin : ∀ A', EvsIn S w (.slice A' L2.length C2) L2 → FirstTo S w (⟨0, t, Aa, ca, bs⟩ :: ⟨1, t3, A3, c3, b3⟩ :: L2) (.returned (.tuple #[.agg #[.slice A2 bs.length c2, .slice A4 b3.length c4], .slice A' L2.length C2])) (((w2.setCell ⟨w.heap.size + 1, 1, none⟩ (.slice A4 b3.length c4)).setCell ⟨w.heap.size, 0, none⟩ (.slice A2 bs.length c2)).setCell ⟨w.heap.size, 1, none⟩ (.slice A4 b3.length c4)) := fun A' hE => by
        have hf2 : ∀ k, g2 = some k → w.heap.size + 2 ≤ k := by have := X.out.2.1; simpa using this
        have hrow3 := X.out.1.far (p := ⟨w.heap.size + 1, 0, none⟩) (fun e => by have h2 : w.heap.size + 2 ≤ w.heap.size + 1 := hf2 _ e; omega) (.slice A2 bs.length c2)
        have hlt3 : ∀ k, g2 = some k → k < (w1.setCell ⟨w.heap.size + 1, 0, none⟩ (.slice A2 bs.length c2)).heap.size := fun k e => hrow3.lt e
        have hsz := X.out.2.2.out.2.2.2
        refine ⟨⟨A2, c2, bs, g2⟩, ⟨A4, c4, b3, g4⟩, A', _, C2, L2, rfl, by simp; omega, own_end ⟨hrow3.below hb4 hlt3, hf2, hrow4, fun k e => ?_, fun k e e' => ?_⟩, hE, HA.out.tail.tail, HT.out.trans (turns_two HA.out), Nat.le_trans ?_ HWL.out, below_end (Z.out)⟩
        · have := hfr4 k e; simp at this; omega
        · have := hfr4 k e'; have := hlt3 k e; omega
        · rw [show pes (⟨1, t3, A3, c3, b3⟩ :: L2) = ⟨1, t3, b3⟩ :: pes L2 from rfl, whole_cons]; omega
      have FIN := Lib.hid fin
      have HE2 := Lib.hid HE1.out.tail
      clear fin hrow4 hfr4 hb4 z0 z2
      go_wp2_with fail
      · obtain rfl : C2 = 0 := by assumption
        exact first_out hr0' hr1' ⟨rfl, rfl⟩ (FIN.out (some ⟨b, o + 3, none⟩) (by obtain rfl : L2 = [] := List.length_eq_zero_iff.1 (by simp only [List.length_cons] at hle; omega); exact EvsIn.nil _ _ _))
      · exact first_out hr0' hr1' ⟨rfl, rfl⟩ (FIN.out (some ⟨b, o + 3 + 3, none⟩) HE2.out)
  · go_wp2_with fail
    refine (Clone_any Aa bs.length ca bs _ ((HR.out.alloc _).alloc _) hbs).mono ?_
    rintro e w1 ⟨A2, c2, g2, rfl, hrow, hfr, hb⟩
    obtain ⟨HB, hr0, hr1, hq0, hq1, ht0, ht1, hu0, hu1⟩ := first_base hb
    have X := Lib.hid (And.intro hrow (And.intro hfr HB))
    clear hrow hfr hb HB z0 z2
    have fin : ∀ A', EvsIn S w (.slice A' L1.length C) L1 → FirstTo S w (⟨1, t, Aa, ca, bs⟩ :: L1) (.returned (.tuple #[.agg #[.slice none 0 0, .slice A2 bs.length c2], .slice A' L1.length C])) (((w1.setCell ⟨w.heap.size + 1, 1, none⟩ (.slice A2 bs.length c2)).setCell ⟨w.heap.size, 0, none⟩ (.slice none 0 0)).setCell ⟨w.heap.size, 1, none⟩ (.slice A2 bs.length c2)) := fun A' hE =>
      ⟨R1.none, ⟨A2, c2, bs, g2⟩, A', _, C, L1, rfl, by simp, own_end (Own2.right X.out.1 (by have := X.out.2.1; simpa using this)), hE, HA.out.tail, HT.out.trans (turns_in HA.out), HWL.out, below_end X.out.2.2.out.2.2.1⟩
    have FIN := Lib.hid fin
    clear fin
    go_wp2_with fail
    · obtain rfl : C = 0 := by assumption
      exact first_out hr0 hr1 ⟨rfl, rfl⟩ (FIN.out (some ⟨b, o, none⟩) (by obtain rfl : L1 = [] := List.length_eq_zero_iff.1 (by omega); exact EvsIn.nil _ _ _))
    · exact first_out hr0 hr1 ⟨rfl, rfl⟩ (FIN.out (some ⟨b, o + 3, none⟩) HE1.out)
end Go.Proofs.Ytchfiiiippnigaa
