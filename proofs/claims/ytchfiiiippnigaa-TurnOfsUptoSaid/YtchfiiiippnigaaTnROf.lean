/-
  cuecardref10.Of: the turns of events, byte by byte.
  Conditions: events and bytes together at most 1048576.
-/
import Derived.Test.YtchfiiiippnigaaTnREv
import Derived.Test.YtchfiiiippnigaaRR
import Derived.Test.YtchfiiiippnigaaUptoLast
import Derived.Test.YtchfiiiippnigaaAppRun
namespace Go.Proofs.Ytchfiiiippnigaa
open Go.RowKit

/-- The rows of turns. -/
def flatT (t : List Tn) : List (List Nat) := t.flatMap fun x => [x.out, x.inn]
theorem flatT_append (t u : List Tn) : flatT (t ++ u) = flatT t ++ flatT u := by simp [flatT]
theorem flatT_len (t : List Tn) : (flatT t).length = t.length * 2 := by
  induction t with
  | nil => rfl
  | cons b t ih => simp only [flatT, List.flatMap_cons, List.length_append, List.length_cons, List.length_nil] at ih ⊢; omega
theorem flatT_out {t : List Tn} {j : Nat} {x : Tn} (h : t[j]? = some x) : (flatT t)[j * 2]? = some x.out ∧ (flatT t)[j * 2 + 1]? = some x.inn := by
  induction t generalizing j with
  | nil => simp at h
  | cons b t ih =>
    have e : flatT (b :: t) = b.out :: b.inn :: flatT t := by simp [flatT]
    cases j with
    | zero => simp at h; subst h; rw [e]; exact ⟨rfl, rfl⟩
    | succ j =>
      have := ih (by simpa using h)
      rw [e, show (j + 1) * 2 = j * 2 + 2 by omega]
      exact ⟨by simpa using this.1, by simpa using this.2⟩
/-- Turns in memory of the call's own. -/
def TR (n0 : Nat) (W : World) (g : Option Nat) (v : Value) (t : List Tn) : Prop := ∃ rr, RR 33 2 n0 W g v t.length rr ∧ rr.map R1.l = flatT t
theorem TR.tns {n0 : Nat} {W : World} {g : Option Nat} {v : Value} {t : List Tn} (h : TR n0 W g v t) : TnsIn (fun b => n0 ≤ b) W v t := by
  obtain ⟨rr, h, e⟩ := h
  obtain ⟨A, c, rfl, hle⟩ := h.form
  refine ⟨A, c, rfl, hle, fun hp => ?_⟩
  obtain ⟨b, o, c', e1, hg, _, hx⟩ := h.row.cells hp
  injection e1 with e1 e2 e3
  refine ⟨b, o, e1, h.fresh b hg, fun j x hj => ?_⟩
  obtain ⟨f1, f2⟩ := flatT_out hj
  have key : ∀ (i : Nat) (l : List Nat), (flatT t)[i]? = some l → ∃ r : R1, rr[i]? = some r ∧ r.l = l := by
    intro i l hi
    rw [← e, List.getElem?_map] at hi
    cases hr : rr[i]? with
    | none => rw [hr] at hi; cases hi
    | some r => rw [hr] at hi; injection hi with hi; exact ⟨r, rfl, hi⟩
  obtain ⟨r1, k1, l1⟩ := key _ _ f1
  obtain ⟨r2, k2, l2⟩ := key _ _ f2
  have rdt : ∀ (i : Nat) (r : R1), rr[i]? = some r → RdT (fun b => n0 ≤ b) W (.slice r.A r.l.length r.c) (bv r.l) := fun i r hr => by
    obtain ⟨q1, q2⟩ := h.own r (List.mem_of_getElem? hr)
    refine ⟨q1.rd, fun b o n c ev hp => ?_⟩
    obtain ⟨A', c', ev', hle, _, _, hh⟩ := q1
    rcases hh with ⟨h0, _⟩ | ⟨b', o', cs, _, e5, e6, _⟩
    · omega
    · unfold R1.val at ev'
      rw [ev] at ev'
      injection ev' with ev'
      rw [e6] at ev'
      cases ev'
      exact q2 _ e5
  refine ⟨r1.A, r1.c, r2.A, r2.c, ?_, ?_, ?_, ?_⟩
  · rw [← l1]; exact hx _ _ (by rw [List.getElem?_map, k1]; rfl)
  · rw [← l2, Nat.add_assoc]; exact hx _ _ (by rw [List.getElem?_map, k2]; rfl)
  · rw [← l1]; exact rdt _ _ k1
  · rw [← l2]; exact rdt _ _ k2

/-- Whose byte came last. -/
def lastT (t : List Tn) : Int := match t.getLast? with
  | none => 1
  | some b => if b.inn = [] then 0 else 1
theorem lastT_snoc (p : List Tn) (b : Tn) : lastT (p ++ [b]) = if b.inn = [] then 0 else 1 := by simp [lastT]

theorem tn_info : (Try.prog.info? 33).map (fun i => (i.zero, i.size, i.bytes)) = some (some (.agg #[.slice none 0 0, .slice none 0 0]), 2, 48) := by kernel_rfl
theorem tn_src {w : World} (u v : Value) (hu : u.oneCell' = true) (hv : v.oneCell' = true) : Src Try.prog 2 24 (.slice (some ⟨w.heap.size, 0, none⟩) 1 1) 1 [u, v] (w.alloc (.cells #[u, v] 33)) :=
  Src.ofSlice _ Try.underlying24 ⟨w.heap.size, 0, none⟩ 1 1 [u, v] rfl (fun j x hx => by rw [add_eq, Nat.zero_add, (Blk.new w _ _).cell j, List.getElem?_toArray]; exact hx) (fun x hx => by
    simp only [List.mem_cons, List.not_mem_nil, or_false] at hx
    rcases hx with rfl | rfl
    · exact hu
    · exact hv)
theorem wpList_append_tn (w : World) {ops : Array Oper} {rest : List Oper} {o : Oper} {a : Act} {Q : Exit → Act → World → Prop}
    (hgd : o.guard = none) (s x : Operand) (ho : o.op = Op.call { callee := Callee.builtin Builtin.append, args := #[s, x], argTypes := #[24, 24] })
    (g : Option Nat) (v : Value) (m : Nat) (xs : List Value) (hs : a.eval s = v) (hrow : RowS w 33 2 g v m xs) (xv : Value) (ys : List Value) (hx : a.eval x = xv) (hsrc : Src Try.prog 2 24 xv 1 ys w)
    (hm : m ≤ 16777216)
    (h : ∀ A' c' w' g', RowS w' 33 2 g' (.slice A' (m + 1) c') (m + 1) (xs ++ ys) → w.grownBy w' g → (g' = g ∨ g' = some w.heap.size) → wpList Try.prog ops Q rest (a.put o.dst (.slice A' (m + 1) c')) w') :
    wpList Try.prog ops Q (o :: rest) a w := by
  obtain ⟨i0, hi0, hz0, hz1, hz2⟩ := info_parts tn_info
  refine wpList_plain hgd fun K hK' => ?_
  obtain ⟨v', w', g', hrun, h2, h3, h4⟩ := run_append_rowS (P := Try.prog) w 24 24 o.type 33 i0 _ 2 48 Try.underlying24 hi0 hz0 hz1 hz2 rfl hrow xv 1 ys hsrc (by simp only [maxLen]; omega) (by omega)
  obtain ⟨A', c', rfl, _⟩ := h2.form
  unfold Oper.wp execOp
  simp only [ho, resolve, invoke, builtin, Sem.run_bind, Sem.run_pure, Result.andThen_ok, List.map_toArray, List.map_cons, List.map_nil, hs, hx, hrun]
  exact hK' _ _ (h A' c' w' g' h2 h3 h4)

theorem TR.nil (n0 : Nat) (W : World) : TR n0 W none (.slice none 0 0) [] := ⟨[], RR.nil _ _ _ _, rfl⟩
theorem TR.form {n0 : Nat} {W : World} {g : Option Nat} {v : Value} {t : List Tn} (h : TR n0 W g v t) : ∃ A c, v = .slice A t.length c ∧ t.length ≤ c := by obtain ⟨rr, h, _⟩ := h; exact h.form
theorem TR.below {n0 : Nat} {W W' : World} {g : Option Nat} {v : Value} {t : List Tn} (h : TR n0 W g v t) (hb : Below W.heap.size W W') : TR n0 W' g v t := by obtain ⟨rr, h, e⟩ := h; exact ⟨rr, h.below hb, e⟩
theorem TR.push {n0 : Nat} {W W' : World} {g g' : Option Nat} {v v' : Value} {t : List Tn} {rr : List R1} (h : RR 33 2 n0 W g v t.length rr) (e : rr.map R1.l = flatT t)
    (hr : RowS W' 33 2 g' v' (t.length + 1) (rr.map R1.val ++ [.slice none 0 0, .slice none 0 0])) (hg : W.grownBy W' g) (hg' : g' = g ∨ g' = some W.heap.size) (hn : n0 ≤ W.heap.size) : TR n0 W' g' v' (t ++ [⟨[], []⟩]) := by
  refine ⟨rr ++ List.replicate 2 R1.none, ?_, ?_⟩
  · rw [List.length_append, List.length_singleton]
    exact h.push (by decide) 2 hr hg hg' hn
  · rw [List.map_append, e, flatT_append]; rfl
/-- The last turn with bytes more. -/
def moreT (b : Tn) (d : Nat) (x : Nat) : Tn := if d = 0 then ⟨b.out ++ [x], b.inn⟩ else ⟨b.out, b.inn ++ [x]⟩
theorem flat_set (p : List Tn) (b : Tn) (x : Nat) : (flatT (p ++ [b])).set (p.length * 2) (b.out ++ [x]) = flatT (p ++ [⟨b.out ++ [x], b.inn⟩]) ∧ (flatT (p ++ [b])).set (p.length * 2 + 1) (b.inn ++ [x]) = flatT (p ++ [⟨b.out, b.inn ++ [x]⟩]) := by
  rw [flatT_append, flatT_append, flatT_append, List.set_append_right _ _ (by rw [flatT_len]; omega), List.set_append_right _ _ (by rw [flatT_len]; omega), flatT_len, Nat.sub_self, Nat.add_sub_cancel_left]
  exact ⟨by simp [flatT], by simp [flatT]⟩

/-- The last turn's two rows. -/
theorem TR.last {n0 : Nat} {W : World} {g : Option Nat} {v : Value} {p : List Tn} {b : Tn} (h : TR n0 W g v (p ++ [b])) :
    ∃ bm om cm rr A0 c0 g0 A1 c1 g1, v = .slice (some ⟨bm, om, none⟩) (p.length + 1) cm ∧ RR 33 2 n0 W g (.slice (some ⟨bm, om, none⟩) (p.length + 1) cm) (p.length + 1) rr ∧ rr.map R1.l = flatT (p ++ [b]) ∧
      rr[p.length * 2]? = some ⟨A0, c0, b.out, g0⟩ ∧ rr[p.length * 2 + 1]? = some ⟨A1, c1, b.inn, g1⟩ ∧
      W.cell? ⟨bm, om + p.length * 2, none⟩ = some (.slice A0 b.out.length c0) ∧ W.cell? ⟨bm, om + p.length * 2 + 1, none⟩ = some (.slice A1 b.inn.length c1) ∧
      Row W 5 g0 (.slice A0 b.out.length c0) (bv b.out) ∧ Row W 5 g1 (.slice A1 b.inn.length c1) (bv b.inn) := by
  obtain ⟨rr, h, e⟩ := h
  have hlen : (p ++ [b]).length = p.length + 1 := by simp
  rw [hlen] at h
  obtain ⟨bm, om, cm, rfl, hg, _, hx⟩ := h.row.cells (by omega)
  obtain ⟨f1, f2⟩ := flatT_out (t := p ++ [b]) (j := p.length) (x := b) (by simp)
  have key : ∀ (i : Nat) (l : List Nat), (flatT (p ++ [b]))[i]? = some l → ∃ A c g, rr[i]? = some ⟨A, c, l, g⟩ := by
    intro i l hi
    rw [← e, List.getElem?_map] at hi
    cases hr : rr[i]? with
    | none => rw [hr] at hi; cases hi
    | some r =>
      rw [hr] at hi; injection hi with hi
      obtain ⟨A, c, l', g⟩ := r
      cases hi
      exact ⟨A, c, g, rfl⟩
  obtain ⟨A0, c0, g0, k0⟩ := key _ _ f1
  obtain ⟨A1, c1, g1, k1⟩ := key _ _ f2
  refine ⟨bm, om, cm, rr, A0, c0, g0, A1, c1, g1, rfl, h, e, k0, k1, hx _ _ (by rw [List.getElem?_map, k0]; rfl), ?_, (h.own _ (List.mem_of_getElem? k0)).1, (h.own _ (List.mem_of_getElem? k1)).1⟩
  rw [Nat.add_assoc]
  exact hx _ _ (by rw [List.getElem?_map, k1]; rfl)

/-- A byte more behind the last turn's Out, or its In: the world behind the append, and behind the store. -/
theorem TR.grow {n0 bm om cm : Nat} {W w1 : World} {g : Option Nat} {p : List Tn} {b : Tn} {rr : List R1} {d x : Nat} {A0 A' : Option Addr} {c0 c' : Nat} {g0 gb' : Option Nat} {bs : List Nat} (hd : (d = 0 ∧ bs = b.out) ∨ (d = 1 ∧ bs = b.inn))
    (h : RR 33 2 n0 W g (.slice (some ⟨bm, om, none⟩) (p.length + 1) cm) (p.length + 1) rr) (e : rr.map R1.l = flatT (p ++ [b])) (hi : rr[p.length * 2 + d]? = some ⟨A0, c0, bs, g0⟩)
    (hr : Row w1 5 gb' (.slice A' (bs.length + 1) c') (bv bs ++ bv [x])) (hgr : W.grownBy w1 g0) (hg' : gb' = g0 ∨ gb' = some W.heap.size) (hn : n0 ≤ W.heap.size) :
    TR n0 (w1.setCell ⟨bm, om + p.length * 2 + d, none⟩ (.slice A' (bs.length + 1) c')) g (.slice (some ⟨bm, om, none⟩) (p.length + 1) cm) (p ++ [moreT b d x]) ∧
      w1.cell? ⟨bm, om + p.length * 2 + d, none⟩ = some (.slice A0 bs.length c0) ∧ w1.frozen? ⟨bm, om + p.length * 2 + d, none⟩ = false ∧ g = some bm ∧ (∀ b, g0 = some b → n0 ≤ b) := by
  obtain ⟨h1, h2, h3, h4⟩ := RR.grow (by decide) h hi (ds := [x]) hr hgr hg' hn
  rw [← Nat.add_assoc] at h1 h2 h3
  refine ⟨⟨rr.set (p.length * 2 + d) ⟨A', c', bs ++ [x], gb'⟩, ?_, ?_⟩, h2, h3, h4, (h.own _ (List.mem_of_getElem? hi)).2⟩
  · rw [show (p ++ [moreT b d x]).length = p.length + 1 by simp]; exact h1
  · rw [List.map_set, e]
    obtain ⟨f0, f1⟩ := flat_set p b x
    rcases hd with ⟨rfl, rfl⟩ | ⟨rfl, rfl⟩
    · exact f0
    · exact f1
theorem moreT_tput0 {p : List Tn} {b : Tn} (hb : b.inn = []) (x : Nat) : tput (p ++ [b]) 0 [x] = p ++ [moreT b 0 x] := by rw [tput_more p (by simp) hb]; simp [moreT, hb]
theorem moreT_new (t : List Tn) (h : t = [] ∨ lastT t = 1) (x : Nat) : tput t 0 [x] = t ++ [moreT ⟨[], []⟩ 0 x] := by
  rcases snoc_cases t with rfl | ⟨p, b, rfl⟩
  · rw [tput_none0 (by simp)]; rfl
  · have hb : b.inn ≠ [] := by
      rcases h with h | h
      · simp at h
      · intro e; rw [lastT_snoc, if_pos e] at h; cases h
    rw [tput_new p (by simp) hb]; rfl
theorem moreT_tput1 (p : List Tn) (b : Tn) (x : Nat) : tput (p ++ [b]) 1 [x] = p ++ [moreT b 1 x] := by rw [tput_in p b (by simp)]; rfl
theorem moreT_first (x : Nat) : tput [] 1 [x] = [] ++ [moreT ⟨[], []⟩ 1 x] := by rw [tput_none1 (by simp)]; rfl
theorem lastT_more0 {p : List Tn} {b : Tn} (hb : b.inn = []) (x : Nat) : lastT (p ++ [moreT b 0 x]) = 0 := by rw [lastT_snoc, if_pos (by exact hb)]
theorem lastT_more1 (p : List Tn) (b : Tn) (x : Nat) : lastT (p ++ [moreT b 1 x]) = 1 := by rw [lastT_snoc, if_neg (by simp [moreT])]

theorem Rd.lone (W : World) (e : TypeId) (u : Value) (h : u.oneCell' = true) : Rd (W.alloc (.cells #[u] e)) (.slice (some ⟨W.heap.size, 0, none⟩) 1 1) [u] := (Row.new W e #[u] 1 rfl (by simp only [maxLen]; omega) (by omega) (by simpa using h)).rd
/-- The append of a byte to the last turn's Out or In, as an equation, and the store behind it. -/
theorem TR.run {n0 bm om cm : Nat} {w0 W : World} {g : Option Nat} {p : List Tn} {b : Tn} {rr : List R1} {d x : Nat} {A0 : Option Addr} {c0 : Nat} {g0 : Option Nat} {bs : List Nat} (hd : (d = 0 ∧ bs = b.out) ∨ (d = 1 ∧ bs = b.inn))
    (h : RR 33 2 n0 W g (.slice (some ⟨bm, om, none⟩) (p.length + 1) cm) (p.length + 1) rr) (e : rr.map R1.l = flatT (p ++ [b])) (hi : rr[p.length * 2 + d]? = some ⟨A0, c0, bs, g0⟩)
    (hbs : bs.length ≤ 1048576) (hb : Below w0.heap.size w0 W) (h0 : w0.heap.size = n0) :
    ∃ A7 c7 w8, (Builtin.append_ #[31, 31] 31 #[.slice A0 bs.length c0, .slice (some ⟨W.heap.size, 0, none⟩) 1 1]).run Try.prog (W.drew.alloc (.cells #[.int .u8 (x : Int)] 5)) = .ok (.slice A7 (bs.length + 1) c7) w8 ∧
      w8.cell? ⟨bm, om + p.length * 2 + d, none⟩ = some (.slice A0 bs.length c0) ∧ w8.frozen? ⟨bm, om + p.length * 2 + d, none⟩ = false ∧ Below w0.heap.size w0 w8 ∧
      Hid (TR n0 (w8.setCell ⟨bm, om + p.length * 2 + d, none⟩ (.slice A7 (bs.length + 1) c7)) g (.slice (some ⟨bm, om, none⟩) (p.length + 1) cm) (p ++ [moreT b d x]) ∧ Below w0.heap.size w0 (w8.setCell ⟨bm, om + p.length * 2 + d, none⟩ (.slice A7 (bs.length + 1) c7))) := by
  obtain ⟨i0, hi0, hz0, hz1, hz2⟩ := info_parts byte_info
  have hrow := (h.own _ (List.mem_of_getElem? hi)).1
  have hlit := Rd.lone W.drew 5 (.int .u8 (x : Int)) rfl
  obtain ⟨v', w8, gb', hrun, hr, hgr, hg'⟩ := run_append_row (P := Try.prog) (W.drew.alloc (.cells #[.int .u8 (x : Int)] 5)) 31 31 31 5 i0 _ 1 Try.underlying31 hi0 hz0 hz1 hz2 rfl (Row.alloc (Row.keep (w' := W.drew) hrow fun _ _ => rfl) _) _ 1 [.int .u8 (x : Int)] (hlit.src (P := Try.prog) Try.underlying31) (by rw [bv_len]; change bs.length + 1 ≤ 9223372036854775807; omega) (by rw [bv_len]; change (bs.length + 1) * 1 ≤ 140737488355328; omega)
  obtain ⟨A7, c7, rfl⟩ := hr.form
  rw [List.length_append, bv_len, List.length_singleton] at hr hrun
  have hsz : n0 ≤ W.heap.size := by rw [← h0]; exact hb.size
  obtain ⟨h1, h2, h3, h4, h5⟩ := TR.grow hd (h.drew.alloc (.cells #[.int .u8 (x : Int)] 5)) e hi hr hgr hg' (by simp; omega)
  have hbel : Below w0.heap.size w0 w8 := (hb.drew.alloc (by simpa using hb.size) _).grown hgr (by have := hb.size; simp; omega) (fun k e => by rw [h0]; exact h5 k e)
  exact ⟨A7, c7, w8, hrun, h2, h3, hbel, h1, hbel.setCell (p := ⟨bm, om + p.length * 2 + d, none⟩) (by rw [h0]; exact h.fresh bm h4) _⟩
/-- What hands out turns. -/
def TrnTo (w : World) (t : List Tn) (e : Ending) (w' : World) : Prop := ∃ A c g, e = .returned (.slice A t.length c) ∧ TR w.heap.size w' g (.slice A t.length c) t ∧ Below w.heap.size w w'
/-- No more turns, no more bytes in them, than bytes went in. -/
def Few (t : List Tn) (N : Nat) : Prop := t.length ≤ N ∧ (outs t).length + (inns t).length ≤ N
theorem Few.next {t : List Tn} {N : Nat} (h : Few t N) {d : Int} {x : Nat} (hd : d = 0 ∨ d = 1) : Few (tput t d [x]) (N + 1) := by
  refine ⟨?_, ?_⟩
  · have : (tput t d [x]).length ≤ t.length + 1 := by
      rcases snoc_cases t with rfl | ⟨p, b, rfl⟩
      · rcases hd with rfl | rfl
        · rw [tput_none0 (by simp)]; simp
        · rw [tput_none1 (by simp)]; simp
      · rcases hd with rfl | rfl
        · by_cases hb : b.inn = []
          · rw [tput_more p (by simp) hb]; simp
          · rw [tput_new p (by simp) hb]; simp
        · rw [tput_in p b (by simp)]; simp
    have := h.1
    omega
  · rw [tput_outs, tput_inns, List.length_append, List.length_append]
    have := h.2
    rcases hd with rfl | rfl <;> simp <;> omega

set_option maxRecDepth 100000 in
set_option maxHeartbeats 4000000 in
theorem ROf_is (v : Value) (L : List Ev) (w : World) (h : Evs w v L) (hw : L.length + whole (pes L) ≤ 1048576) :
    Calls Try.prog 10 #[v] w (TrnTo w (turns (pes L))) := by
  obtain ⟨i0, hi0, hz0, hz1, hz2⟩ := info_parts byte_info
  obtain ⟨A, c, rfl, hle⟩ := h.form
  have HE := Lib.hid h
  clear h hle
  go_enter Try.func10, Try.ntmps10
  go_wp2_with fail
  go_loopw [3, 4, 5] (fun s ls i wr => ∃ (k : Nat) (B : Option Addr) (d : Nat) (g : Option Nat) (t : List Tn), k ≤ L.length ∧ i = .int .i64 k ∧ s = .slice B t.length d ∧ ls = .int .i64 (lastT t) ∧ Hid (t = turns ((pes L).take k) ∧ Few t (whole ((pes L).take k)) ∧ TR w.heap.size wr g (.slice B t.length d) t ∧ Below w.heap.size w wr)) (fun _ _ i _ => L.length - (intOf i).toNat)
  case atStart => exact ⟨0, none, 0, none, [], by omega, rfl, rfl, rfl, Lib.hid ⟨rfl, ⟨by simp, by simp [outs, inns]⟩, TR.nil _ _, Below.refl _ _⟩⟩
  case round =>
    obtain ⟨k, B, dm, g, t, hk, rfl, rfl, rfl, HM⟩ := hrel
    by_cases hlt : k < L.length
    · obtain ⟨b, o, d, tm, Aa, ca, bs, rfl, ha, -, -, -, hbm, -⟩ := HE.out.seeAt HM.out.2.2.2 hlt
      have hwa := whole_at (pes_at ha)
      have hN := Lib.hid (pes_take ha)
      have hpd : (Ev.pe ⟨d, tm, Aa, ca, bs⟩).data.length = bs.length := rfl
      have HY : Hid (∀ W, Below w.heap.size w W → W.cell? ⟨b, o + k * 3, none⟩ = some (.int .i64 d) ∧ W.cell? ⟨b, o + k * 3 + 2, none⟩ = some (.slice Aa bs.length ca) ∧ EvOk (fun _ => True) W ⟨d, tm, Aa, ca, bs⟩) := Lib.hid fun W hb => by
        obtain ⟨b', o', d', tm', Aa', ca', bs', e, ha', c0, c1, c2, _, ho⟩ := HE.out.seeAt hb hlt
        injection e with e
        injection e with e1 e2
        rw [ha] at ha'
        injection ha' with ha'
        cases ha'
        subst e1 e2
        exact ⟨c0, c2, ho⟩
      have HWA : Hid (whole ((pes L).take k) + bs.length ≤ 1048576) := Lib.hid (by omega)
      have HW2 : Hid (whole ((pes L).take (k + 1)) = whole ((pes L).take k) + bs.length) := Lib.hid (by rw [hN.out]; simp [whole, Ev.pe])
      clear ha hwa hpd
      have c2 := (HY.out wr HM.out.2.2.2).2.1
      have H0 : Hid (t = tput (turns ((pes L).take k)) d (bs.take 0) ∧ Few t (whole ((pes L).take k) + 0) ∧ TR w.heap.size wr g (.slice B t.length dm) t ∧ Below w.heap.size w wr) := Lib.hid ⟨by rw [List.take_zero, tput_nil]; exact HM.out.1, HM.out.2.1, HM.out.2.2⟩
      clear HM
      go_wp2
      clear c2
      go_loopw [3, 4, 6] (fun s ls j wi => ∃ (m : Nat) (B : Option Addr) (dm : Nat) (g : Option Nat) (t : List Tn), m ≤ bs.length ∧ j = .int .i64 m ∧ s = .slice B t.length dm ∧ ls = .int .i64 (lastT t) ∧ Hid (t = tput (turns ((pes L).take k)) d (bs.take m) ∧ Few t (whole ((pes L).take k) + m) ∧ TR w.heap.size wi g (.slice B t.length dm) t ∧ Below w.heap.size w wi)) (fun _ _ j _ => bs.length - (intOf j).toNat)
      case atStart => exact ⟨0, B, dm, g, t, by omega, rfl, rfl, rfl, H0⟩
      case round =>
        obtain ⟨m, B2, dm2, g2, t2, hm, rfl, rfl, rfl, HI⟩ := hrel
        obtain ⟨y0, y2, hok⟩ := HY.out wr HI.out.2.2.2
        by_cases hml : m < bs.length
        · obtain ⟨bb0, ob, x, rfl, yb0, hxm⟩ := hok.rd.byteAt hml
          have HZ : Hid (∀ W, Below w.heap.size w W → W.cell? ⟨b, o + k * 3, none⟩ = some (.int .i64 d) ∧ W.cell? ⟨b, o + k * 3 + 2, none⟩ = some (.slice (some ⟨bb0, ob, none⟩) bs.length ca) ∧ W.cell? ⟨bb0, ob + m, none⟩ = some (.int .u8 (x : Int))) := Lib.hid fun W hb => by
            obtain ⟨u0, u2, uok⟩ := HY.out W hb
            obtain ⟨b1, o1, x1, e1, u3, hx1⟩ := uok.rd.byteAt hml
            injection e1 with e1
            injection e1 with e1 e2
            rw [hxm] at hx1
            injection hx1 with hx1
            subst e1 e2 hx1
            exact ⟨u0, u2, u3⟩
          obtain ⟨y0, y2, yb⟩ := HZ.out wr HI.out.2.2.2
          have HX : Hid (bs.take (m + 1) = bs.take m ++ [x] ∧ True) := Lib.hid ⟨by rw [List.take_add_one, hxm]; rfl, trivial⟩
          have kL : (k : Int) < (L.length : Int) := by omega
          have mL : (m : Int) < (bs.length : Int) := by omega
          clear hok yb0 hxm
          by_cases hd : d = 0
          · subst hd
            by_cases hp : t2 = [] ∨ lastT t2 = 1
            · have HP := Lib.hid hp
              by_cases hne : t2.length = 0
              case' pos => have q1 : ((t2.length : Int) == 0) = true := beq_iff_eq.2 (by omega)
              case' neg =>
                have q1 : ((t2.length : Int) == 0) = false := beq_eq_false_iff_ne.2 (by omega)
                have q2 : (lastT t2 == 1) = true := by
                  rcases hp with e | e
                  · subst e; exact absurd rfl hne
                  · simpa using e
              all_goals
                clear hp hne
                obtain ⟨rr2, hrr2, err2⟩ := HI.out.2.2.1
                have hpl : t2.length ≤ 1048576 := by have := HI.out.2.1.1; have := HWA.out; omega
                have X2 := Lib.hid (And.intro hrr2 (And.intro err2 HI.out.2.2.2))
                have hps : (t2.length : Int) < (t2.length : Int) + 1 := by omega
                clear hrr2 err2
                go_wp2_with (at_builtin; refine wpList_append_tn _ rfl (.tmp 47) (.tmp 49) rfl g2 _ t2.length (rr2.map R1.val) rfl (X2.out.1.row.alloc _) _ [.slice none 0 0, .slice none 0 0] rfl (tn_src _ _ rfl rfl) (by omega) ?_; intro B3 d3 w7 g3 hrow hgr hgn; have T7 := TR.push (X2.out.1.alloc _) X2.out.2.1 hrow hgr hgn (by simp; exact Nat.le_succ_of_le X2.out.2.2.size); have hb7 : Below w.heap.size w w7 := (X2.out.2.2.alloc X2.out.2.2.size _).grown hgr (by simp; exact Nat.le_succ_of_le X2.out.2.2.size) X2.out.1.fresh; clear hrow hgr hgn; obtain ⟨bm, om, cm, rr, A0, c0, g0, A1, c1, g1, ev, hrr, err, k0, k1, z0, z1, r0, r1⟩ := T7.last; injection ev with ev1 ev2 ev3; subst ev1 ev3; simp only [List.length_nil] at z0 z1 r0 r1; obtain ⟨y0, y2, yb⟩ := HZ.out w7 hb7; have lbm := World.block_lt_of_cell? w7 _ z0; have HG : Hid (∀ b, g3 = some b → w.heap.size ≤ b) := Lib.hid hrr.fresh; have HS : Hid (w.heap.size ≤ w7.heap.size) := Lib.hid hb7.size; generalize hAR : A0 = AR at *; generalize hcR : c0 = cR at *; generalize hgR : g0 = gr at *; have XR := Lib.hid (And.intro hrr (And.intro err (And.intro k0 (And.intro r0 hb7)))); clear hrr err k0 k1 r0 r1 hAR hcR hgR ev2 T7 hb7)
                obtain ⟨A7, c7, w8, hrun, d0, e0, hb8, YY⟩ := TR.run (d := 0) (b := ⟨[], []⟩) (x := x) (bs := []) (.inl ⟨rfl, rfl⟩) XR.out.1 XR.out.2.1 XR.out.2.2.1 (by simp) XR.out.2.2.2.2 rfl
                simp only [List.length_nil, Nat.zero_add, Nat.add_zero] at hrun d0 e0 YY
                obtain ⟨f0, f2, fb⟩ := HZ.out w8 hb8
                clear hb8
                refine wp_region_noPanic ?_
                refine wp_region_upto (fun W => W.cell? ⟨bm, om + t2.length * 2, none⟩ = some (.slice AR 0 cR) ∧ W.cell? ⟨b, o + k * 3 + 2, none⟩ = some (.slice (some ⟨bb0, ob, none⟩) bs.length ca) ∧ W.cell? ⟨bb0, ob + m, none⟩ = some (.int .u8 (x : Int))) 19 (by kernel_rfl) ?_ (fun hHeld => ?_)
                · exact ⟨z0, y2, yb⟩
                refine wpUpto.take 0 (by kernel_rfl) (by kernel_rfl) (by kernel_rfl) (by kernel_rfl) (by assumption) ?_
                intro o ho
                simp only [List.getElem?_toArray, List.getElem?_cons_zero, Option.some.injEq] at ho
                subst ho
                refine ⟨?_, fun _ _ _ h => h, Or.inl ⟨by rfl, ?_⟩, ?_⟩
                rotate_left
                · intro w hSw
                  go_simp
                  try with_reducible rfl
                simp only [Act.put, List.setIfInBounds_toArray, List.set_cons_zero, List.set_cons_succ]
                refine wpUpto.take 1 (by kernel_rfl) (by kernel_rfl) (by kernel_rfl) (by kernel_rfl) (by assumption) ?_
                intro o ho
                simp only [List.getElem?_toArray, List.getElem?_cons_succ, List.getElem?_cons_zero, Option.some.injEq] at ho
                subst ho
                refine ⟨?_, fun _ _ _ h => h, Or.inl ⟨by rfl, ?_⟩, ?_⟩
                rotate_left
                · intro w hSw
                  go_simp
                  try with_reducible rfl
                simp only [Act.put, List.setIfInBounds_toArray, List.set_cons_zero, List.set_cons_succ]
                refine wpUpto.take 2 (by kernel_rfl) (by kernel_rfl) (by kernel_rfl) (by kernel_rfl) (by assumption) ?_
                intro o ho
                simp only [List.getElem?_toArray, List.getElem?_cons_succ, List.getElem?_cons_zero, Option.some.injEq] at ho
                subst ho
                refine ⟨?_, fun _ _ _ h => h, Or.inl ⟨by rfl, ?_⟩, ?_⟩
                rotate_left
                · intro w hSw
                  go_simp
                  try with_reducible rfl
                simp only [Act.put, List.setIfInBounds_toArray, List.set_cons_zero, List.set_cons_succ]
                refine wpUpto.take 3 (by kernel_rfl) (by kernel_rfl) (by kernel_rfl) (by kernel_rfl) (by assumption) ?_
                intro o ho
                simp only [List.getElem?_toArray, List.getElem?_cons_succ, List.getElem?_cons_zero, Option.some.injEq] at ho
                subst ho
                refine ⟨?_, fun _ _ _ h => h, Or.inl ⟨by rfl, ?_⟩, ?_⟩
                rotate_left
                · intro w hSw
                  go_simp
                  try with_reducible rfl
                simp only [Act.put, List.setIfInBounds_toArray, List.set_cons_zero, List.set_cons_succ]
                refine wpUpto.take 4 (by kernel_rfl) (by kernel_rfl) (by kernel_rfl) (by kernel_rfl) (by assumption) ?_
                intro o ho
                simp only [List.getElem?_toArray, List.getElem?_cons_succ, List.getElem?_cons_zero, Option.some.injEq] at ho
                subst ho
                refine ⟨?_, fun _ _ _ h => h, Or.inl ⟨by rfl, ?_⟩, ?_⟩
                rotate_left
                · intro w hSw
                  go_simp
                  try with_reducible rfl
                simp only [Act.put, List.setIfInBounds_toArray, List.set_cons_zero, List.set_cons_succ]
                refine wpUpto.take 5 (by kernel_rfl) (by kernel_rfl) (by kernel_rfl) (by kernel_rfl) (by assumption) ?_
                intro o ho
                simp only [List.getElem?_toArray, List.getElem?_cons_succ, List.getElem?_cons_zero, Option.some.injEq] at ho
                subst ho
                refine ⟨?_, fun _ _ _ h => h, Or.inl ⟨by rfl, ?_⟩, ?_⟩
                rotate_left
                · intro w hSw
                  go_simp
                  try with_reducible rfl
                simp only [Act.put, List.setIfInBounds_toArray, List.set_cons_zero, List.set_cons_succ]
                refine wpUpto.take 6 (by kernel_rfl) (by kernel_rfl) (by kernel_rfl) (by kernel_rfl) (by assumption) ?_
                intro o ho
                simp only [List.getElem?_toArray, List.getElem?_cons_succ, List.getElem?_cons_zero, Option.some.injEq] at ho
                subst ho
                refine ⟨?_, fun _ _ _ h => h, Or.inl ⟨by rfl, ?_⟩, ?_⟩
                rotate_left
                · intro w hSw
                  go_simp
                  try with_reducible rfl
                simp only [Act.put, List.setIfInBounds_toArray, List.set_cons_zero, List.set_cons_succ]
                refine wpUpto.take 7 (by kernel_rfl) (by kernel_rfl) (by kernel_rfl) (by kernel_rfl) (by assumption) ?_
                intro o ho
                simp only [List.getElem?_toArray, List.getElem?_cons_succ, List.getElem?_cons_zero, Option.some.injEq] at ho
                subst ho
                refine ⟨?_, fun _ _ _ h => h, Or.inl ⟨by rfl, ?_⟩, ?_⟩
                rotate_left
                · intro w hSw
                  go_simp
                  try with_reducible rfl
                simp only [Act.put, List.setIfInBounds_toArray, List.set_cons_zero, List.set_cons_succ]
                refine wpUpto.take 8 (by kernel_rfl) (by kernel_rfl) (by kernel_rfl) (by kernel_rfl) (by assumption) ?_
                intro o ho
                simp only [List.getElem?_toArray, List.getElem?_cons_succ, List.getElem?_cons_zero, Option.some.injEq] at ho
                subst ho
                refine ⟨?_, fun _ _ _ h => h, Or.inl ⟨by rfl, ?_⟩, ?_⟩
                rotate_left
                · intro w hSw
                  go_simp
                  try with_reducible rfl
                simp only [Act.put, List.setIfInBounds_toArray, List.set_cons_zero, List.set_cons_succ]
                refine wpUpto.take 9 (by kernel_rfl) (by kernel_rfl) (by kernel_rfl) (by kernel_rfl) (by assumption) ?_
                intro o ho
                simp only [List.getElem?_toArray, List.getElem?_cons_succ, List.getElem?_cons_zero, Option.some.injEq] at ho
                subst ho
                refine ⟨?_, fun _ _ _ h => h, Or.inl ⟨by rfl, ?_⟩, ?_⟩
                rotate_left
                · intro w hSw
                  go_simp
                  try with_reducible rfl
                simp only [Act.put, List.setIfInBounds_toArray, List.set_cons_zero, List.set_cons_succ]
                refine wpUpto.take 10 (by kernel_rfl) (by kernel_rfl) (by kernel_rfl) (by kernel_rfl) (by assumption) ?_
                intro o ho
                simp only [List.getElem?_toArray, List.getElem?_cons_succ, List.getElem?_cons_zero, Option.some.injEq] at ho
                subst ho
                refine ⟨?_, fun _ _ _ h => h, Or.inl ⟨by rfl, ?_⟩, ?_⟩
                rotate_left
                · intro w hSw
                  go_simp
                  try with_reducible rfl
                simp only [Act.put, List.setIfInBounds_toArray, List.set_cons_zero, List.set_cons_succ]
                refine wpUpto.take 11 (by kernel_rfl) (by kernel_rfl) (by kernel_rfl) (by kernel_rfl) (by assumption) ?_
                intro o ho
                simp only [List.getElem?_toArray, List.getElem?_cons_succ, List.getElem?_cons_zero, Option.some.injEq] at ho
                subst ho
                refine ⟨?_, fun _ _ _ h => h, Or.inl ⟨by rfl, ?_⟩, ?_⟩
                rotate_left
                · intro w hSw
                  go_simp
                  try with_reducible rfl
                simp only [Act.put, List.setIfInBounds_toArray, List.set_cons_zero, List.set_cons_succ]
                refine wpUpto.take 12 (by kernel_rfl) (by kernel_rfl) (by kernel_rfl) (by kernel_rfl) (by assumption) ?_
                intro o ho
                simp only [List.getElem?_toArray, List.getElem?_cons_succ, List.getElem?_cons_zero, Option.some.injEq] at ho
                subst ho
                refine ⟨?_, fun _ _ _ h => h, Or.inl ⟨by rfl, ?_⟩, ?_⟩
                rotate_left
                · intro w hSw
                  go_simp
                  try with_reducible rfl
                simp only [Act.put, List.setIfInBounds_toArray, List.set_cons_zero, List.set_cons_succ]
                refine wpUpto.take 13 (by kernel_rfl) (by kernel_rfl) (by kernel_rfl) (by kernel_rfl) (by assumption) ?_
                intro o ho
                simp only [List.getElem?_toArray, List.getElem?_cons_succ, List.getElem?_cons_zero, Option.some.injEq] at ho
                subst ho
                refine ⟨?_, fun _ _ _ h => h, Or.inl ⟨by rfl, ?_⟩, ?_⟩
                rotate_left
                · intro w hSw
                  go_simp
                  try with_reducible rfl
                simp only [Act.put, List.setIfInBounds_toArray, List.set_cons_zero, List.set_cons_succ]
                refine wpUpto.take 14 (by kernel_rfl) (by kernel_rfl) (by kernel_rfl) (by kernel_rfl) (by assumption) ?_
                intro o ho
                simp only [List.getElem?_toArray, List.getElem?_cons_succ, List.getElem?_cons_zero, Option.some.injEq] at ho
                subst ho
                refine ⟨?_, fun _ _ _ h => h, Or.inl ⟨by rfl, ?_⟩, ?_⟩
                rotate_left
                · intro w hSw
                  go_simp
                  try with_reducible rfl
                simp only [Act.put, List.setIfInBounds_toArray, List.set_cons_zero, List.set_cons_succ]
                refine wpUpto.one 15 (by kernel_rfl) ?_
                intro o ho K hK
                simp only [List.getElem?_toArray, List.getElem?_cons_succ, List.getElem?_cons_zero, Option.some.injEq] at ho
                subst ho
                go_simp
                refine hK.out _ _ ?_ (fun hHeld => ?_)
                · go_keep
                clear hK K
                try simp only [Act.put, List.setIfInBounds_toArray, List.set_cons_zero, List.set_cons_succ]
                refine wpUpto.one 16 (by kernel_rfl) ?_
                intro o ho K hK
                simp only [List.getElem?_toArray, List.getElem?_cons_succ, List.getElem?_cons_zero, Option.some.injEq] at ho
                subst ho
                refine step_append_run rfl (.tmp 62) (.tmp 71) _ rfl _ _ _ _ rfl rfl hrun ?_
                refine hK.out _ _ ?_ (fun hHeld => ?_)
                · exact ⟨d0, f2, fb⟩
                clear hK K
                try simp only [Act.put, List.setIfInBounds_toArray, List.set_cons_zero, List.set_cons_succ]
                refine wpUpto.one 17 (by kernel_rfl) ?_
                intro o ho K hK
                simp only [List.getElem?_toArray, List.getElem?_cons_succ, List.getElem?_cons_zero, Option.some.injEq] at ho
                subst ho
                go_simp
                refine hK.out _ _ ?_ (fun hHeld => ?_)
                · assumption
                clear hK K
                try simp only [Act.put, List.setIfInBounds_toArray, List.set_cons_zero, List.set_cons_succ]
                refine wpUpto.one 18 (by kernel_rfl) ?_
                intro o ho K hK
                simp only [List.getElem?_toArray, List.getElem?_cons_succ, List.getElem?_cons_zero, Option.some.injEq] at ho
                subst ho
                go_simp
                refine hK.out _ _ ?_ (fun hHeld => ?_)
                · assumption
                clear hK K
                try simp only [Act.put, List.setIfInBounds_toArray, List.set_cons_zero, List.set_cons_succ]
                refine wpUpto.last (by kernel_rfl) ?_
                intro o ho K hK
                simp only [List.getElem?_toArray, List.getElem?_cons_succ, List.getElem?_cons_zero, Option.some.injEq] at ho
                subst ho
                go_simp
                refine hK.out _ _ ?_
                clear hK K
                refine wpUpto.done (by kernel_rfl) ?_ _
                refine NoPanic.normal ?_
                try simp only [Act.put, List.setIfInBounds_toArray, List.set_cons_zero, List.set_cons_succ]
                go_wp2
                go_roundw
                case rel =>
                    have hT : t2 ++ [moreT ⟨[], []⟩ 0 x] = tput (turns ((pes L).take k)) 0 (bs.take (m + 1)) := by rw [HX.out.1, ← tput_two, ← HI.out.1, moreT_new t2 HP.out]
                    refine ⟨m + 1, some ⟨bm, om, none⟩, d3, g3, t2 ++ [moreT ⟨[], []⟩ 0 x], by omega, by go_num, by simp, by rw [lastT_more0 rfl], Lib.hid ⟨hT, ?_, ?_, ?_⟩⟩
                    · rw [hT, HX.out.1, ← tput_two, ← HI.out.1, ← Nat.add_assoc]; exact HI.out.2.1.next (by simp)
                    · rw [List.length_append, List.length_singleton]; exact YY.out.1
                    · exact YY.out.2
                case measure => simp [intOf]; omega
            · have hne : t2 ≠ [] := fun e => hp (.inl e)
              have hl1 : lastT t2 ≠ 1 := fun e => hp (.inr e)
              have q1 : ((t2.length : Int) == 0) = false := beq_eq_false_iff_ne.2 (by have := List.length_pos_iff.2 hne; omega)
              have q2 : (lastT t2 == 1) = false := by simpa using hl1
              clear hp
              obtain ⟨p, bb, rfl⟩ : ∃ p bb, t2 = p ++ [bb] := (snoc_cases t2).resolve_left hne
              obtain ⟨bm, om, cm, rr, A0, c0, g0, A1, c1, g1, ev, hrr, err, k0, k1, z0, z1, r0, r1⟩ := HI.out.2.2.1.last
              injection ev with ev1 ev2 ev3
              subst ev1 ev3
              have hbo := outs_mem (t := p ++ [bb]) (x := bb) (by simp)
              have hbi := inns_mem (t := p ++ [bb]) (x := bb) (by simp)
              have hfew := HI.out.2.1
              have hpl : p.length ≤ 1048576 := by have := hfew.1; rw [List.length_append] at this; have := HWA.out; omega
              have hbl : bb.out.length ≤ 1048576 := by have := hfew.2; have := HWA.out; omega
              have hbe : bb.inn = [] := by
                rw [lastT_snoc] at hl1
                by_cases e : bb.inn = []
                · exact e
                · rw [if_neg e] at hl1; exact absurd rfl hl1
              have HG : Hid (∀ b, g2 = some b → w.heap.size ≤ b) := Lib.hid hrr.fresh
              have HS : Hid (w.heap.size ≤ wr.heap.size) := Lib.hid HI.out.2.2.2.size
              generalize hAR : A0 = AR at *
              generalize hcR : c0 = cR at *
              generalize hgR : g0 = gr at *
              have XR := Lib.hid (And.intro hrr (And.intro err (And.intro k0 (And.intro r0 HI.out.2.2.2))))
              have lbm := World.block_lt_of_cell? wr _ z0
              have hps : (p.length : Int) < (p.length : Int) + 1 := by omega
              have HBE := Lib.hid hbe
              clear hbe
              clear hrr err k0 k1 r0 r1 hbo hbi hfew hAR hcR hgR ev2
              rw [List.length_append, List.length_singleton]
              go_wp2
              obtain ⟨A7, c7, w8, hrun, d0, e0, hb8, YY⟩ := TR.run (d := 0) (b := bb) (x := x) (bs := bb.out) (.inl ⟨rfl, rfl⟩) XR.out.1 XR.out.2.1 XR.out.2.2.1 hbl XR.out.2.2.2.2 rfl
              simp only [Nat.add_zero] at hrun d0 e0 YY
              obtain ⟨f0, f2, fb⟩ := HZ.out w8 hb8
              clear hb8
              refine wp_region_noPanic ?_
              refine wp_region_upto (fun W => W.cell? ⟨bm, om + p.length * 2, none⟩ = some (.slice AR bb.out.length cR) ∧ W.cell? ⟨b, o + k * 3 + 2, none⟩ = some (.slice (some ⟨bb0, ob, none⟩) bs.length ca) ∧ W.cell? ⟨bb0, ob + m, none⟩ = some (.int .u8 (x : Int))) 19 (by kernel_rfl) ?_ (fun hHeld => ?_)
              · exact ⟨z0, y2, yb⟩
              refine wpUpto.take 0 (by kernel_rfl) (by kernel_rfl) (by kernel_rfl) (by kernel_rfl) (by assumption) ?_
              intro o ho
              simp only [List.getElem?_toArray, List.getElem?_cons_zero, Option.some.injEq] at ho
              subst ho
              refine ⟨?_, fun _ _ _ h => h, Or.inl ⟨by rfl, ?_⟩, ?_⟩
              rotate_left
              · intro w hSw
                go_simp
                try with_reducible rfl
              simp only [Act.put, List.setIfInBounds_toArray, List.set_cons_zero, List.set_cons_succ]
              refine wpUpto.take 1 (by kernel_rfl) (by kernel_rfl) (by kernel_rfl) (by kernel_rfl) (by assumption) ?_
              intro o ho
              simp only [List.getElem?_toArray, List.getElem?_cons_succ, List.getElem?_cons_zero, Option.some.injEq] at ho
              subst ho
              refine ⟨?_, fun _ _ _ h => h, Or.inl ⟨by rfl, ?_⟩, ?_⟩
              rotate_left
              · intro w hSw
                go_simp
                try with_reducible rfl
              simp only [Act.put, List.setIfInBounds_toArray, List.set_cons_zero, List.set_cons_succ]
              refine wpUpto.take 2 (by kernel_rfl) (by kernel_rfl) (by kernel_rfl) (by kernel_rfl) (by assumption) ?_
              intro o ho
              simp only [List.getElem?_toArray, List.getElem?_cons_succ, List.getElem?_cons_zero, Option.some.injEq] at ho
              subst ho
              refine ⟨?_, fun _ _ _ h => h, Or.inl ⟨by rfl, ?_⟩, ?_⟩
              rotate_left
              · intro w hSw
                go_simp
                try with_reducible rfl
              simp only [Act.put, List.setIfInBounds_toArray, List.set_cons_zero, List.set_cons_succ]
              refine wpUpto.take 3 (by kernel_rfl) (by kernel_rfl) (by kernel_rfl) (by kernel_rfl) (by assumption) ?_
              intro o ho
              simp only [List.getElem?_toArray, List.getElem?_cons_succ, List.getElem?_cons_zero, Option.some.injEq] at ho
              subst ho
              refine ⟨?_, fun _ _ _ h => h, Or.inl ⟨by rfl, ?_⟩, ?_⟩
              rotate_left
              · intro w hSw
                go_simp
                try with_reducible rfl
              simp only [Act.put, List.setIfInBounds_toArray, List.set_cons_zero, List.set_cons_succ]
              refine wpUpto.take 4 (by kernel_rfl) (by kernel_rfl) (by kernel_rfl) (by kernel_rfl) (by assumption) ?_
              intro o ho
              simp only [List.getElem?_toArray, List.getElem?_cons_succ, List.getElem?_cons_zero, Option.some.injEq] at ho
              subst ho
              refine ⟨?_, fun _ _ _ h => h, Or.inl ⟨by rfl, ?_⟩, ?_⟩
              rotate_left
              · intro w hSw
                go_simp
                try with_reducible rfl
              simp only [Act.put, List.setIfInBounds_toArray, List.set_cons_zero, List.set_cons_succ]
              refine wpUpto.take 5 (by kernel_rfl) (by kernel_rfl) (by kernel_rfl) (by kernel_rfl) (by assumption) ?_
              intro o ho
              simp only [List.getElem?_toArray, List.getElem?_cons_succ, List.getElem?_cons_zero, Option.some.injEq] at ho
              subst ho
              refine ⟨?_, fun _ _ _ h => h, Or.inl ⟨by rfl, ?_⟩, ?_⟩
              rotate_left
              · intro w hSw
                go_simp
                try with_reducible rfl
              simp only [Act.put, List.setIfInBounds_toArray, List.set_cons_zero, List.set_cons_succ]
              refine wpUpto.take 6 (by kernel_rfl) (by kernel_rfl) (by kernel_rfl) (by kernel_rfl) (by assumption) ?_
              intro o ho
              simp only [List.getElem?_toArray, List.getElem?_cons_succ, List.getElem?_cons_zero, Option.some.injEq] at ho
              subst ho
              refine ⟨?_, fun _ _ _ h => h, Or.inl ⟨by rfl, ?_⟩, ?_⟩
              rotate_left
              · intro w hSw
                go_simp
                try with_reducible rfl
              simp only [Act.put, List.setIfInBounds_toArray, List.set_cons_zero, List.set_cons_succ]
              refine wpUpto.take 7 (by kernel_rfl) (by kernel_rfl) (by kernel_rfl) (by kernel_rfl) (by assumption) ?_
              intro o ho
              simp only [List.getElem?_toArray, List.getElem?_cons_succ, List.getElem?_cons_zero, Option.some.injEq] at ho
              subst ho
              refine ⟨?_, fun _ _ _ h => h, Or.inl ⟨by rfl, ?_⟩, ?_⟩
              rotate_left
              · intro w hSw
                go_simp
                try with_reducible rfl
              simp only [Act.put, List.setIfInBounds_toArray, List.set_cons_zero, List.set_cons_succ]
              refine wpUpto.take 8 (by kernel_rfl) (by kernel_rfl) (by kernel_rfl) (by kernel_rfl) (by assumption) ?_
              intro o ho
              simp only [List.getElem?_toArray, List.getElem?_cons_succ, List.getElem?_cons_zero, Option.some.injEq] at ho
              subst ho
              refine ⟨?_, fun _ _ _ h => h, Or.inl ⟨by rfl, ?_⟩, ?_⟩
              rotate_left
              · intro w hSw
                go_simp
                try with_reducible rfl
              simp only [Act.put, List.setIfInBounds_toArray, List.set_cons_zero, List.set_cons_succ]
              refine wpUpto.take 9 (by kernel_rfl) (by kernel_rfl) (by kernel_rfl) (by kernel_rfl) (by assumption) ?_
              intro o ho
              simp only [List.getElem?_toArray, List.getElem?_cons_succ, List.getElem?_cons_zero, Option.some.injEq] at ho
              subst ho
              refine ⟨?_, fun _ _ _ h => h, Or.inl ⟨by rfl, ?_⟩, ?_⟩
              rotate_left
              · intro w hSw
                go_simp
                try with_reducible rfl
              simp only [Act.put, List.setIfInBounds_toArray, List.set_cons_zero, List.set_cons_succ]
              refine wpUpto.take 10 (by kernel_rfl) (by kernel_rfl) (by kernel_rfl) (by kernel_rfl) (by assumption) ?_
              intro o ho
              simp only [List.getElem?_toArray, List.getElem?_cons_succ, List.getElem?_cons_zero, Option.some.injEq] at ho
              subst ho
              refine ⟨?_, fun _ _ _ h => h, Or.inl ⟨by rfl, ?_⟩, ?_⟩
              rotate_left
              · intro w hSw
                go_simp
                try with_reducible rfl
              simp only [Act.put, List.setIfInBounds_toArray, List.set_cons_zero, List.set_cons_succ]
              refine wpUpto.take 11 (by kernel_rfl) (by kernel_rfl) (by kernel_rfl) (by kernel_rfl) (by assumption) ?_
              intro o ho
              simp only [List.getElem?_toArray, List.getElem?_cons_succ, List.getElem?_cons_zero, Option.some.injEq] at ho
              subst ho
              refine ⟨?_, fun _ _ _ h => h, Or.inl ⟨by rfl, ?_⟩, ?_⟩
              rotate_left
              · intro w hSw
                go_simp
                try with_reducible rfl
              simp only [Act.put, List.setIfInBounds_toArray, List.set_cons_zero, List.set_cons_succ]
              refine wpUpto.take 12 (by kernel_rfl) (by kernel_rfl) (by kernel_rfl) (by kernel_rfl) (by assumption) ?_
              intro o ho
              simp only [List.getElem?_toArray, List.getElem?_cons_succ, List.getElem?_cons_zero, Option.some.injEq] at ho
              subst ho
              refine ⟨?_, fun _ _ _ h => h, Or.inl ⟨by rfl, ?_⟩, ?_⟩
              rotate_left
              · intro w hSw
                go_simp
                try with_reducible rfl
              simp only [Act.put, List.setIfInBounds_toArray, List.set_cons_zero, List.set_cons_succ]
              refine wpUpto.take 13 (by kernel_rfl) (by kernel_rfl) (by kernel_rfl) (by kernel_rfl) (by assumption) ?_
              intro o ho
              simp only [List.getElem?_toArray, List.getElem?_cons_succ, List.getElem?_cons_zero, Option.some.injEq] at ho
              subst ho
              refine ⟨?_, fun _ _ _ h => h, Or.inl ⟨by rfl, ?_⟩, ?_⟩
              rotate_left
              · intro w hSw
                go_simp
                try with_reducible rfl
              simp only [Act.put, List.setIfInBounds_toArray, List.set_cons_zero, List.set_cons_succ]
              refine wpUpto.take 14 (by kernel_rfl) (by kernel_rfl) (by kernel_rfl) (by kernel_rfl) (by assumption) ?_
              intro o ho
              simp only [List.getElem?_toArray, List.getElem?_cons_succ, List.getElem?_cons_zero, Option.some.injEq] at ho
              subst ho
              refine ⟨?_, fun _ _ _ h => h, Or.inl ⟨by rfl, ?_⟩, ?_⟩
              rotate_left
              · intro w hSw
                go_simp
                try with_reducible rfl
              simp only [Act.put, List.setIfInBounds_toArray, List.set_cons_zero, List.set_cons_succ]
              refine wpUpto.one 15 (by kernel_rfl) ?_
              intro o ho K hK
              simp only [List.getElem?_toArray, List.getElem?_cons_succ, List.getElem?_cons_zero, Option.some.injEq] at ho
              subst ho
              go_simp
              refine hK.out _ _ ?_ (fun hHeld => ?_)
              · go_keep
              clear hK K
              try simp only [Act.put, List.setIfInBounds_toArray, List.set_cons_zero, List.set_cons_succ]
              refine wpUpto.one 16 (by kernel_rfl) ?_
              intro o ho K hK
              simp only [List.getElem?_toArray, List.getElem?_cons_succ, List.getElem?_cons_zero, Option.some.injEq] at ho
              subst ho
              refine step_append_run rfl (.tmp 62) (.tmp 71) _ rfl _ _ _ _ rfl rfl hrun ?_
              refine hK.out _ _ ?_ (fun hHeld => ?_)
              · exact ⟨d0, f2, fb⟩
              clear hK K
              try simp only [Act.put, List.setIfInBounds_toArray, List.set_cons_zero, List.set_cons_succ]
              refine wpUpto.one 17 (by kernel_rfl) ?_
              intro o ho K hK
              simp only [List.getElem?_toArray, List.getElem?_cons_succ, List.getElem?_cons_zero, Option.some.injEq] at ho
              subst ho
              go_simp
              refine hK.out _ _ ?_ (fun hHeld => ?_)
              · assumption
              clear hK K
              try simp only [Act.put, List.setIfInBounds_toArray, List.set_cons_zero, List.set_cons_succ]
              refine wpUpto.one 18 (by kernel_rfl) ?_
              intro o ho K hK
              simp only [List.getElem?_toArray, List.getElem?_cons_succ, List.getElem?_cons_zero, Option.some.injEq] at ho
              subst ho
              go_simp
              refine hK.out _ _ ?_ (fun hHeld => ?_)
              · assumption
              clear hK K
              try simp only [Act.put, List.setIfInBounds_toArray, List.set_cons_zero, List.set_cons_succ]
              refine wpUpto.last (by kernel_rfl) ?_
              intro o ho K hK
              simp only [List.getElem?_toArray, List.getElem?_cons_succ, List.getElem?_cons_zero, Option.some.injEq] at ho
              subst ho
              go_simp
              refine hK.out _ _ ?_
              clear hK K
              refine wpUpto.done (by kernel_rfl) ?_ _
              refine NoPanic.normal ?_
              try simp only [Act.put, List.setIfInBounds_toArray, List.set_cons_zero, List.set_cons_succ]
              go_wp2
              go_roundw
              case rel =>
                  have hT : p ++ [moreT bb 0 x] = tput (turns ((pes L).take k)) 0 (bs.take (m + 1)) := by rw [HX.out.1, ← tput_two, ← HI.out.1, moreT_tput0 HBE.out]
                  refine ⟨m + 1, some ⟨bm, om, none⟩, dm2, g2, p ++ [moreT bb 0 x], by omega, by go_num, by simp, by rw [lastT_more0 HBE.out], Lib.hid ⟨hT, ?_, ?_, ?_⟩⟩
                  · rw [hT, HX.out.1, ← tput_two, ← HI.out.1, ← Nat.add_assoc]; exact HI.out.2.1.next (by simp)
                  · rw [List.length_append, List.length_singleton]; exact YY.out.1
                  · exact YY.out.2
              case measure => simp [intOf]; omega
          · by_cases hd1 : d = 1
            · subst hd1
              by_cases hne : t2 = []
              · have HP : Hid (tput t2 1 [x] = t2 ++ [moreT ⟨[], []⟩ 1 x]) := Lib.hid (by rw [hne]; exact moreT_first x)
                have q1 : ((t2.length : Int) == 0) = true := by rw [hne]; rfl
                clear hne hd
                obtain ⟨rr2, hrr2, err2⟩ := HI.out.2.2.1
                have hpl : t2.length ≤ 1048576 := by have := HI.out.2.1.1; have := HWA.out; omega
                have X2 := Lib.hid (And.intro hrr2 (And.intro err2 HI.out.2.2.2))
                have hps : (t2.length : Int) < (t2.length : Int) + 1 := by omega
                clear hrr2 err2
                go_wp2_with (at_builtin; refine wpList_append_tn _ rfl (.tmp 47) (.tmp 49) rfl g2 _ t2.length (rr2.map R1.val) rfl (X2.out.1.row.alloc _) _ [.slice none 0 0, .slice none 0 0] rfl (tn_src _ _ rfl rfl) (by omega) ?_; intro B3 d3 w7 g3 hrow hgr hgn; have T7 := TR.push (X2.out.1.alloc _) X2.out.2.1 hrow hgr hgn (by simp; exact Nat.le_succ_of_le X2.out.2.2.size); have hb7 : Below w.heap.size w w7 := (X2.out.2.2.alloc X2.out.2.2.size _).grown hgr (by simp; exact Nat.le_succ_of_le X2.out.2.2.size) X2.out.1.fresh; clear hrow hgr hgn; obtain ⟨bm, om, cm, rr, A0, c0, g0, A1, c1, g1, ev, hrr, err, k0, k1, z0, z1, r0, r1⟩ := T7.last; injection ev with ev1 ev2 ev3; subst ev1 ev3; simp only [List.length_nil] at z0 z1 r0 r1; obtain ⟨y0, y2, yb⟩ := HZ.out w7 hb7; have lbm := World.block_lt_of_cell? w7 _ z0; have HG : Hid (∀ b, g3 = some b → w.heap.size ≤ b) := Lib.hid hrr.fresh; have HS : Hid (w.heap.size ≤ w7.heap.size) := Lib.hid hb7.size; generalize hAR : A1 = AR at *; generalize hcR : c1 = cR at *; generalize hgR : g1 = gr at *; have XR := Lib.hid (And.intro hrr (And.intro err (And.intro k1 (And.intro r1 hb7)))); clear hrr err k0 k1 r0 r1 hAR hcR hgR ev2 T7 hb7)
                obtain ⟨A7, c7, w8, hrun, d0, e0, hb8, YY⟩ := TR.run (d := 1) (b := ⟨[], []⟩) (x := x) (bs := []) (.inr ⟨rfl, rfl⟩) XR.out.1 XR.out.2.1 XR.out.2.2.1 (by simp) XR.out.2.2.2.2 rfl
                simp only [List.length_nil, Nat.zero_add] at hrun d0 e0 YY
                obtain ⟨f0, f2, fb⟩ := HZ.out w8 hb8
                clear hb8
                refine wp_region_noPanic ?_
                refine wp_region_upto (fun W => W.cell? ⟨bm, om + t2.length * 2 + 1, none⟩ = some (.slice AR 0 cR) ∧ W.cell? ⟨b, o + k * 3 + 2, none⟩ = some (.slice (some ⟨bb0, ob, none⟩) bs.length ca) ∧ W.cell? ⟨bb0, ob + m, none⟩ = some (.int .u8 (x : Int))) 19 (by kernel_rfl) ?_ (fun hHeld => ?_)
                · exact ⟨z1, y2, yb⟩
                refine wpUpto.take 0 (by kernel_rfl) (by kernel_rfl) (by kernel_rfl) (by kernel_rfl) (by assumption) ?_
                intro o ho
                simp only [List.getElem?_toArray, List.getElem?_cons_zero, Option.some.injEq] at ho
                subst ho
                refine ⟨?_, fun _ _ _ h => h, Or.inl ⟨by rfl, ?_⟩, ?_⟩
                rotate_left
                · intro w hSw
                  go_simp
                  try with_reducible rfl
                simp only [Act.put, List.setIfInBounds_toArray, List.set_cons_zero, List.set_cons_succ]
                refine wpUpto.take 1 (by kernel_rfl) (by kernel_rfl) (by kernel_rfl) (by kernel_rfl) (by assumption) ?_
                intro o ho
                simp only [List.getElem?_toArray, List.getElem?_cons_succ, List.getElem?_cons_zero, Option.some.injEq] at ho
                subst ho
                refine ⟨?_, fun _ _ _ h => h, Or.inl ⟨by rfl, ?_⟩, ?_⟩
                rotate_left
                · intro w hSw
                  go_simp
                  try with_reducible rfl
                simp only [Act.put, List.setIfInBounds_toArray, List.set_cons_zero, List.set_cons_succ]
                refine wpUpto.take 2 (by kernel_rfl) (by kernel_rfl) (by kernel_rfl) (by kernel_rfl) (by assumption) ?_
                intro o ho
                simp only [List.getElem?_toArray, List.getElem?_cons_succ, List.getElem?_cons_zero, Option.some.injEq] at ho
                subst ho
                refine ⟨?_, fun _ _ _ h => h, Or.inl ⟨by rfl, ?_⟩, ?_⟩
                rotate_left
                · intro w hSw
                  go_simp
                  try with_reducible rfl
                simp only [Act.put, List.setIfInBounds_toArray, List.set_cons_zero, List.set_cons_succ]
                refine wpUpto.take 3 (by kernel_rfl) (by kernel_rfl) (by kernel_rfl) (by kernel_rfl) (by assumption) ?_
                intro o ho
                simp only [List.getElem?_toArray, List.getElem?_cons_succ, List.getElem?_cons_zero, Option.some.injEq] at ho
                subst ho
                refine ⟨?_, fun _ _ _ h => h, Or.inl ⟨by rfl, ?_⟩, ?_⟩
                rotate_left
                · intro w hSw
                  go_simp
                  try with_reducible rfl
                simp only [Act.put, List.setIfInBounds_toArray, List.set_cons_zero, List.set_cons_succ]
                refine wpUpto.take 4 (by kernel_rfl) (by kernel_rfl) (by kernel_rfl) (by kernel_rfl) (by assumption) ?_
                intro o ho
                simp only [List.getElem?_toArray, List.getElem?_cons_succ, List.getElem?_cons_zero, Option.some.injEq] at ho
                subst ho
                refine ⟨?_, fun _ _ _ h => h, Or.inl ⟨by rfl, ?_⟩, ?_⟩
                rotate_left
                · intro w hSw
                  go_simp
                  try with_reducible rfl
                simp only [Act.put, List.setIfInBounds_toArray, List.set_cons_zero, List.set_cons_succ]
                refine wpUpto.take 5 (by kernel_rfl) (by kernel_rfl) (by kernel_rfl) (by kernel_rfl) (by assumption) ?_
                intro o ho
                simp only [List.getElem?_toArray, List.getElem?_cons_succ, List.getElem?_cons_zero, Option.some.injEq] at ho
                subst ho
                refine ⟨?_, fun _ _ _ h => h, Or.inl ⟨by rfl, ?_⟩, ?_⟩
                rotate_left
                · intro w hSw
                  go_simp
                  try with_reducible rfl
                simp only [Act.put, List.setIfInBounds_toArray, List.set_cons_zero, List.set_cons_succ]
                refine wpUpto.take 6 (by kernel_rfl) (by kernel_rfl) (by kernel_rfl) (by kernel_rfl) (by assumption) ?_
                intro o ho
                simp only [List.getElem?_toArray, List.getElem?_cons_succ, List.getElem?_cons_zero, Option.some.injEq] at ho
                subst ho
                refine ⟨?_, fun _ _ _ h => h, Or.inl ⟨by rfl, ?_⟩, ?_⟩
                rotate_left
                · intro w hSw
                  go_simp
                  try with_reducible rfl
                simp only [Act.put, List.setIfInBounds_toArray, List.set_cons_zero, List.set_cons_succ]
                refine wpUpto.take 7 (by kernel_rfl) (by kernel_rfl) (by kernel_rfl) (by kernel_rfl) (by assumption) ?_
                intro o ho
                simp only [List.getElem?_toArray, List.getElem?_cons_succ, List.getElem?_cons_zero, Option.some.injEq] at ho
                subst ho
                refine ⟨?_, fun _ _ _ h => h, Or.inl ⟨by rfl, ?_⟩, ?_⟩
                rotate_left
                · intro w hSw
                  go_simp
                  try with_reducible rfl
                simp only [Act.put, List.setIfInBounds_toArray, List.set_cons_zero, List.set_cons_succ]
                refine wpUpto.take 8 (by kernel_rfl) (by kernel_rfl) (by kernel_rfl) (by kernel_rfl) (by assumption) ?_
                intro o ho
                simp only [List.getElem?_toArray, List.getElem?_cons_succ, List.getElem?_cons_zero, Option.some.injEq] at ho
                subst ho
                refine ⟨?_, fun _ _ _ h => h, Or.inl ⟨by rfl, ?_⟩, ?_⟩
                rotate_left
                · intro w hSw
                  go_simp
                  try with_reducible rfl
                simp only [Act.put, List.setIfInBounds_toArray, List.set_cons_zero, List.set_cons_succ]
                refine wpUpto.take 9 (by kernel_rfl) (by kernel_rfl) (by kernel_rfl) (by kernel_rfl) (by assumption) ?_
                intro o ho
                simp only [List.getElem?_toArray, List.getElem?_cons_succ, List.getElem?_cons_zero, Option.some.injEq] at ho
                subst ho
                refine ⟨?_, fun _ _ _ h => h, Or.inl ⟨by rfl, ?_⟩, ?_⟩
                rotate_left
                · intro w hSw
                  go_simp
                  try with_reducible rfl
                simp only [Act.put, List.setIfInBounds_toArray, List.set_cons_zero, List.set_cons_succ]
                refine wpUpto.take 10 (by kernel_rfl) (by kernel_rfl) (by kernel_rfl) (by kernel_rfl) (by assumption) ?_
                intro o ho
                simp only [List.getElem?_toArray, List.getElem?_cons_succ, List.getElem?_cons_zero, Option.some.injEq] at ho
                subst ho
                refine ⟨?_, fun _ _ _ h => h, Or.inl ⟨by rfl, ?_⟩, ?_⟩
                rotate_left
                · intro w hSw
                  go_simp
                  try with_reducible rfl
                simp only [Act.put, List.setIfInBounds_toArray, List.set_cons_zero, List.set_cons_succ]
                refine wpUpto.take 11 (by kernel_rfl) (by kernel_rfl) (by kernel_rfl) (by kernel_rfl) (by assumption) ?_
                intro o ho
                simp only [List.getElem?_toArray, List.getElem?_cons_succ, List.getElem?_cons_zero, Option.some.injEq] at ho
                subst ho
                refine ⟨?_, fun _ _ _ h => h, Or.inl ⟨by rfl, ?_⟩, ?_⟩
                rotate_left
                · intro w hSw
                  go_simp
                  try with_reducible rfl
                simp only [Act.put, List.setIfInBounds_toArray, List.set_cons_zero, List.set_cons_succ]
                refine wpUpto.take 12 (by kernel_rfl) (by kernel_rfl) (by kernel_rfl) (by kernel_rfl) (by assumption) ?_
                intro o ho
                simp only [List.getElem?_toArray, List.getElem?_cons_succ, List.getElem?_cons_zero, Option.some.injEq] at ho
                subst ho
                refine ⟨?_, fun _ _ _ h => h, Or.inl ⟨by rfl, ?_⟩, ?_⟩
                rotate_left
                · intro w hSw
                  go_simp
                  try with_reducible rfl
                simp only [Act.put, List.setIfInBounds_toArray, List.set_cons_zero, List.set_cons_succ]
                refine wpUpto.take 13 (by kernel_rfl) (by kernel_rfl) (by kernel_rfl) (by kernel_rfl) (by assumption) ?_
                intro o ho
                simp only [List.getElem?_toArray, List.getElem?_cons_succ, List.getElem?_cons_zero, Option.some.injEq] at ho
                subst ho
                refine ⟨?_, fun _ _ _ h => h, Or.inl ⟨by rfl, ?_⟩, ?_⟩
                rotate_left
                · intro w hSw
                  go_simp
                  try with_reducible rfl
                simp only [Act.put, List.setIfInBounds_toArray, List.set_cons_zero, List.set_cons_succ]
                refine wpUpto.take 14 (by kernel_rfl) (by kernel_rfl) (by kernel_rfl) (by kernel_rfl) (by assumption) ?_
                intro o ho
                simp only [List.getElem?_toArray, List.getElem?_cons_succ, List.getElem?_cons_zero, Option.some.injEq] at ho
                subst ho
                refine ⟨?_, fun _ _ _ h => h, Or.inl ⟨by rfl, ?_⟩, ?_⟩
                rotate_left
                · intro w hSw
                  go_simp
                  try with_reducible rfl
                simp only [Act.put, List.setIfInBounds_toArray, List.set_cons_zero, List.set_cons_succ]
                refine wpUpto.one 15 (by kernel_rfl) ?_
                intro o ho K hK
                simp only [List.getElem?_toArray, List.getElem?_cons_succ, List.getElem?_cons_zero, Option.some.injEq] at ho
                subst ho
                go_simp
                refine hK.out _ _ ?_ (fun hHeld => ?_)
                · go_keep
                clear hK K
                try simp only [Act.put, List.setIfInBounds_toArray, List.set_cons_zero, List.set_cons_succ]
                refine wpUpto.one 16 (by kernel_rfl) ?_
                intro o ho K hK
                simp only [List.getElem?_toArray, List.getElem?_cons_succ, List.getElem?_cons_zero, Option.some.injEq] at ho
                subst ho
                refine step_append_run rfl (.tmp 81) (.tmp 90) _ rfl _ _ _ _ rfl rfl hrun ?_
                refine hK.out _ _ ?_ (fun hHeld => ?_)
                · exact ⟨d0, f2, fb⟩
                clear hK K
                try simp only [Act.put, List.setIfInBounds_toArray, List.set_cons_zero, List.set_cons_succ]
                refine wpUpto.one 17 (by kernel_rfl) ?_
                intro o ho K hK
                simp only [List.getElem?_toArray, List.getElem?_cons_succ, List.getElem?_cons_zero, Option.some.injEq] at ho
                subst ho
                go_simp
                refine hK.out _ _ ?_ (fun hHeld => ?_)
                · assumption
                clear hK K
                try simp only [Act.put, List.setIfInBounds_toArray, List.set_cons_zero, List.set_cons_succ]
                refine wpUpto.one 18 (by kernel_rfl) ?_
                intro o ho K hK
                simp only [List.getElem?_toArray, List.getElem?_cons_succ, List.getElem?_cons_zero, Option.some.injEq] at ho
                subst ho
                go_simp
                refine hK.out _ _ ?_ (fun hHeld => ?_)
                · assumption
                clear hK K
                try simp only [Act.put, List.setIfInBounds_toArray, List.set_cons_zero, List.set_cons_succ]
                refine wpUpto.last (by kernel_rfl) ?_
                intro o ho K hK
                simp only [List.getElem?_toArray, List.getElem?_cons_succ, List.getElem?_cons_zero, Option.some.injEq] at ho
                subst ho
                go_simp
                refine hK.out _ _ ?_
                clear hK K
                refine wpUpto.done (by kernel_rfl) ?_ _
                refine NoPanic.normal ?_
                try simp only [Act.put, List.setIfInBounds_toArray, List.set_cons_zero, List.set_cons_succ]
                go_wp2
                go_roundw
                case rel =>
                    have hT : t2 ++ [moreT ⟨[], []⟩ 1 x] = tput (turns ((pes L).take k)) 1 (bs.take (m + 1)) := by rw [HX.out.1, ← tput_two, ← HI.out.1, show tput t2 1 [x] = t2 ++ [moreT ⟨[], []⟩ 1 x] from HP.out]
                    refine ⟨m + 1, some ⟨bm, om, none⟩, d3, g3, t2 ++ [moreT ⟨[], []⟩ 1 x], by omega, by go_num, by simp, by rw [lastT_more1], Lib.hid ⟨hT, ?_, ?_, ?_⟩⟩
                    · rw [hT, HX.out.1, ← tput_two, ← HI.out.1, ← Nat.add_assoc]; exact HI.out.2.1.next (by simp)
                    · rw [List.length_append, List.length_singleton]; exact YY.out.1
                    · exact YY.out.2
                case measure => simp [intOf]; omega
              · have q1 : ((t2.length : Int) == 0) = false := beq_eq_false_iff_ne.2 (by have := List.length_pos_iff.2 hne; omega)
                clear hd
                obtain ⟨p, bb, rfl⟩ : ∃ p bb, t2 = p ++ [bb] := (snoc_cases t2).resolve_left hne
                obtain ⟨bm, om, cm, rr, A0, c0, g0, A1, c1, g1, ev, hrr, err, k0, k1, z0, z1, r0, r1⟩ := HI.out.2.2.1.last
                injection ev with ev1 ev2 ev3
                subst ev1 ev3
                have hbo := outs_mem (t := p ++ [bb]) (x := bb) (by simp)
                have hbi := inns_mem (t := p ++ [bb]) (x := bb) (by simp)
                have hfew := HI.out.2.1
                have hpl : p.length ≤ 1048576 := by have := hfew.1; rw [List.length_append] at this; have := HWA.out; omega
                have hbl : bb.inn.length ≤ 1048576 := by have := hfew.2; have := HWA.out; omega
                have HG : Hid (∀ b, g2 = some b → w.heap.size ≤ b) := Lib.hid hrr.fresh
                have HS : Hid (w.heap.size ≤ wr.heap.size) := Lib.hid HI.out.2.2.2.size
                generalize hAR : A1 = AR at *
                generalize hcR : c1 = cR at *
                generalize hgR : g1 = gr at *
                have XR := Lib.hid (And.intro hrr (And.intro err (And.intro k1 (And.intro r1 HI.out.2.2.2))))
                have lbm := World.block_lt_of_cell? wr _ z0
                have hps : (p.length : Int) < (p.length : Int) + 1 := by omega
                clear hrr err k0 k1 r0 r1 hbo hbi hfew hAR hcR hgR ev2
                rw [List.length_append, List.length_singleton]
                go_wp2
                obtain ⟨A7, c7, w8, hrun, d0, e0, hb8, YY⟩ := TR.run (d := 1) (b := bb) (x := x) (bs := bb.inn) (.inr ⟨rfl, rfl⟩) XR.out.1 XR.out.2.1 XR.out.2.2.1 hbl XR.out.2.2.2.2 rfl
                obtain ⟨f0, f2, fb⟩ := HZ.out w8 hb8
                clear hb8
                refine wp_region_noPanic ?_
                refine wp_region_upto (fun W => W.cell? ⟨bm, om + p.length * 2 + 1, none⟩ = some (.slice AR bb.inn.length cR) ∧ W.cell? ⟨b, o + k * 3 + 2, none⟩ = some (.slice (some ⟨bb0, ob, none⟩) bs.length ca) ∧ W.cell? ⟨bb0, ob + m, none⟩ = some (.int .u8 (x : Int))) 19 (by kernel_rfl) ?_ (fun hHeld => ?_)
                · exact ⟨z1, y2, yb⟩
                refine wpUpto.take 0 (by kernel_rfl) (by kernel_rfl) (by kernel_rfl) (by kernel_rfl) (by assumption) ?_
                intro o ho
                simp only [List.getElem?_toArray, List.getElem?_cons_zero, Option.some.injEq] at ho
                subst ho
                refine ⟨?_, fun _ _ _ h => h, Or.inl ⟨by rfl, ?_⟩, ?_⟩
                rotate_left
                · intro w hSw
                  go_simp
                  try with_reducible rfl
                simp only [Act.put, List.setIfInBounds_toArray, List.set_cons_zero, List.set_cons_succ]
                refine wpUpto.take 1 (by kernel_rfl) (by kernel_rfl) (by kernel_rfl) (by kernel_rfl) (by assumption) ?_
                intro o ho
                simp only [List.getElem?_toArray, List.getElem?_cons_succ, List.getElem?_cons_zero, Option.some.injEq] at ho
                subst ho
                refine ⟨?_, fun _ _ _ h => h, Or.inl ⟨by rfl, ?_⟩, ?_⟩
                rotate_left
                · intro w hSw
                  go_simp
                  try with_reducible rfl
                simp only [Act.put, List.setIfInBounds_toArray, List.set_cons_zero, List.set_cons_succ]
                refine wpUpto.take 2 (by kernel_rfl) (by kernel_rfl) (by kernel_rfl) (by kernel_rfl) (by assumption) ?_
                intro o ho
                simp only [List.getElem?_toArray, List.getElem?_cons_succ, List.getElem?_cons_zero, Option.some.injEq] at ho
                subst ho
                refine ⟨?_, fun _ _ _ h => h, Or.inl ⟨by rfl, ?_⟩, ?_⟩
                rotate_left
                · intro w hSw
                  go_simp
                  try with_reducible rfl
                simp only [Act.put, List.setIfInBounds_toArray, List.set_cons_zero, List.set_cons_succ]
                refine wpUpto.take 3 (by kernel_rfl) (by kernel_rfl) (by kernel_rfl) (by kernel_rfl) (by assumption) ?_
                intro o ho
                simp only [List.getElem?_toArray, List.getElem?_cons_succ, List.getElem?_cons_zero, Option.some.injEq] at ho
                subst ho
                refine ⟨?_, fun _ _ _ h => h, Or.inl ⟨by rfl, ?_⟩, ?_⟩
                rotate_left
                · intro w hSw
                  go_simp
                  try with_reducible rfl
                simp only [Act.put, List.setIfInBounds_toArray, List.set_cons_zero, List.set_cons_succ]
                refine wpUpto.take 4 (by kernel_rfl) (by kernel_rfl) (by kernel_rfl) (by kernel_rfl) (by assumption) ?_
                intro o ho
                simp only [List.getElem?_toArray, List.getElem?_cons_succ, List.getElem?_cons_zero, Option.some.injEq] at ho
                subst ho
                refine ⟨?_, fun _ _ _ h => h, Or.inl ⟨by rfl, ?_⟩, ?_⟩
                rotate_left
                · intro w hSw
                  go_simp
                  try with_reducible rfl
                simp only [Act.put, List.setIfInBounds_toArray, List.set_cons_zero, List.set_cons_succ]
                refine wpUpto.take 5 (by kernel_rfl) (by kernel_rfl) (by kernel_rfl) (by kernel_rfl) (by assumption) ?_
                intro o ho
                simp only [List.getElem?_toArray, List.getElem?_cons_succ, List.getElem?_cons_zero, Option.some.injEq] at ho
                subst ho
                refine ⟨?_, fun _ _ _ h => h, Or.inl ⟨by rfl, ?_⟩, ?_⟩
                rotate_left
                · intro w hSw
                  go_simp
                  try with_reducible rfl
                simp only [Act.put, List.setIfInBounds_toArray, List.set_cons_zero, List.set_cons_succ]
                refine wpUpto.take 6 (by kernel_rfl) (by kernel_rfl) (by kernel_rfl) (by kernel_rfl) (by assumption) ?_
                intro o ho
                simp only [List.getElem?_toArray, List.getElem?_cons_succ, List.getElem?_cons_zero, Option.some.injEq] at ho
                subst ho
                refine ⟨?_, fun _ _ _ h => h, Or.inl ⟨by rfl, ?_⟩, ?_⟩
                rotate_left
                · intro w hSw
                  go_simp
                  try with_reducible rfl
                simp only [Act.put, List.setIfInBounds_toArray, List.set_cons_zero, List.set_cons_succ]
                refine wpUpto.take 7 (by kernel_rfl) (by kernel_rfl) (by kernel_rfl) (by kernel_rfl) (by assumption) ?_
                intro o ho
                simp only [List.getElem?_toArray, List.getElem?_cons_succ, List.getElem?_cons_zero, Option.some.injEq] at ho
                subst ho
                refine ⟨?_, fun _ _ _ h => h, Or.inl ⟨by rfl, ?_⟩, ?_⟩
                rotate_left
                · intro w hSw
                  go_simp
                  try with_reducible rfl
                simp only [Act.put, List.setIfInBounds_toArray, List.set_cons_zero, List.set_cons_succ]
                refine wpUpto.take 8 (by kernel_rfl) (by kernel_rfl) (by kernel_rfl) (by kernel_rfl) (by assumption) ?_
                intro o ho
                simp only [List.getElem?_toArray, List.getElem?_cons_succ, List.getElem?_cons_zero, Option.some.injEq] at ho
                subst ho
                refine ⟨?_, fun _ _ _ h => h, Or.inl ⟨by rfl, ?_⟩, ?_⟩
                rotate_left
                · intro w hSw
                  go_simp
                  try with_reducible rfl
                simp only [Act.put, List.setIfInBounds_toArray, List.set_cons_zero, List.set_cons_succ]
                refine wpUpto.take 9 (by kernel_rfl) (by kernel_rfl) (by kernel_rfl) (by kernel_rfl) (by assumption) ?_
                intro o ho
                simp only [List.getElem?_toArray, List.getElem?_cons_succ, List.getElem?_cons_zero, Option.some.injEq] at ho
                subst ho
                refine ⟨?_, fun _ _ _ h => h, Or.inl ⟨by rfl, ?_⟩, ?_⟩
                rotate_left
                · intro w hSw
                  go_simp
                  try with_reducible rfl
                simp only [Act.put, List.setIfInBounds_toArray, List.set_cons_zero, List.set_cons_succ]
                refine wpUpto.take 10 (by kernel_rfl) (by kernel_rfl) (by kernel_rfl) (by kernel_rfl) (by assumption) ?_
                intro o ho
                simp only [List.getElem?_toArray, List.getElem?_cons_succ, List.getElem?_cons_zero, Option.some.injEq] at ho
                subst ho
                refine ⟨?_, fun _ _ _ h => h, Or.inl ⟨by rfl, ?_⟩, ?_⟩
                rotate_left
                · intro w hSw
                  go_simp
                  try with_reducible rfl
                simp only [Act.put, List.setIfInBounds_toArray, List.set_cons_zero, List.set_cons_succ]
                refine wpUpto.take 11 (by kernel_rfl) (by kernel_rfl) (by kernel_rfl) (by kernel_rfl) (by assumption) ?_
                intro o ho
                simp only [List.getElem?_toArray, List.getElem?_cons_succ, List.getElem?_cons_zero, Option.some.injEq] at ho
                subst ho
                refine ⟨?_, fun _ _ _ h => h, Or.inl ⟨by rfl, ?_⟩, ?_⟩
                rotate_left
                · intro w hSw
                  go_simp
                  try with_reducible rfl
                simp only [Act.put, List.setIfInBounds_toArray, List.set_cons_zero, List.set_cons_succ]
                refine wpUpto.take 12 (by kernel_rfl) (by kernel_rfl) (by kernel_rfl) (by kernel_rfl) (by assumption) ?_
                intro o ho
                simp only [List.getElem?_toArray, List.getElem?_cons_succ, List.getElem?_cons_zero, Option.some.injEq] at ho
                subst ho
                refine ⟨?_, fun _ _ _ h => h, Or.inl ⟨by rfl, ?_⟩, ?_⟩
                rotate_left
                · intro w hSw
                  go_simp
                  try with_reducible rfl
                simp only [Act.put, List.setIfInBounds_toArray, List.set_cons_zero, List.set_cons_succ]
                refine wpUpto.take 13 (by kernel_rfl) (by kernel_rfl) (by kernel_rfl) (by kernel_rfl) (by assumption) ?_
                intro o ho
                simp only [List.getElem?_toArray, List.getElem?_cons_succ, List.getElem?_cons_zero, Option.some.injEq] at ho
                subst ho
                refine ⟨?_, fun _ _ _ h => h, Or.inl ⟨by rfl, ?_⟩, ?_⟩
                rotate_left
                · intro w hSw
                  go_simp
                  try with_reducible rfl
                simp only [Act.put, List.setIfInBounds_toArray, List.set_cons_zero, List.set_cons_succ]
                refine wpUpto.take 14 (by kernel_rfl) (by kernel_rfl) (by kernel_rfl) (by kernel_rfl) (by assumption) ?_
                intro o ho
                simp only [List.getElem?_toArray, List.getElem?_cons_succ, List.getElem?_cons_zero, Option.some.injEq] at ho
                subst ho
                refine ⟨?_, fun _ _ _ h => h, Or.inl ⟨by rfl, ?_⟩, ?_⟩
                rotate_left
                · intro w hSw
                  go_simp
                  try with_reducible rfl
                simp only [Act.put, List.setIfInBounds_toArray, List.set_cons_zero, List.set_cons_succ]
                refine wpUpto.one 15 (by kernel_rfl) ?_
                intro o ho K hK
                simp only [List.getElem?_toArray, List.getElem?_cons_succ, List.getElem?_cons_zero, Option.some.injEq] at ho
                subst ho
                go_simp
                refine hK.out _ _ ?_ (fun hHeld => ?_)
                · go_keep
                clear hK K
                try simp only [Act.put, List.setIfInBounds_toArray, List.set_cons_zero, List.set_cons_succ]
                refine wpUpto.one 16 (by kernel_rfl) ?_
                intro o ho K hK
                simp only [List.getElem?_toArray, List.getElem?_cons_succ, List.getElem?_cons_zero, Option.some.injEq] at ho
                subst ho
                refine step_append_run rfl (.tmp 81) (.tmp 90) _ rfl _ _ _ _ rfl rfl hrun ?_
                refine hK.out _ _ ?_ (fun hHeld => ?_)
                · exact ⟨d0, f2, fb⟩
                clear hK K
                try simp only [Act.put, List.setIfInBounds_toArray, List.set_cons_zero, List.set_cons_succ]
                refine wpUpto.one 17 (by kernel_rfl) ?_
                intro o ho K hK
                simp only [List.getElem?_toArray, List.getElem?_cons_succ, List.getElem?_cons_zero, Option.some.injEq] at ho
                subst ho
                go_simp
                refine hK.out _ _ ?_ (fun hHeld => ?_)
                · assumption
                clear hK K
                try simp only [Act.put, List.setIfInBounds_toArray, List.set_cons_zero, List.set_cons_succ]
                refine wpUpto.one 18 (by kernel_rfl) ?_
                intro o ho K hK
                simp only [List.getElem?_toArray, List.getElem?_cons_succ, List.getElem?_cons_zero, Option.some.injEq] at ho
                subst ho
                go_simp
                refine hK.out _ _ ?_ (fun hHeld => ?_)
                · assumption
                clear hK K
                try simp only [Act.put, List.setIfInBounds_toArray, List.set_cons_zero, List.set_cons_succ]
                refine wpUpto.last (by kernel_rfl) ?_
                intro o ho K hK
                simp only [List.getElem?_toArray, List.getElem?_cons_succ, List.getElem?_cons_zero, Option.some.injEq] at ho
                subst ho
                go_simp
                refine hK.out _ _ ?_
                clear hK K
                refine wpUpto.done (by kernel_rfl) ?_ _
                refine NoPanic.normal ?_
                try simp only [Act.put, List.setIfInBounds_toArray, List.set_cons_zero, List.set_cons_succ]
                go_wp2
                go_roundw
                case rel =>
                    have hT : p ++ [moreT bb 1 x] = tput (turns ((pes L).take k)) 1 (bs.take (m + 1)) := by rw [HX.out.1, ← tput_two, ← HI.out.1, moreT_tput1]
                    refine ⟨m + 1, some ⟨bm, om, none⟩, dm2, g2, p ++ [moreT bb 1 x], by omega, by go_num, by simp, by rw [lastT_more1], Lib.hid ⟨hT, ?_, ?_, ?_⟩⟩
                    · rw [hT, HX.out.1, ← tput_two, ← HI.out.1, ← Nat.add_assoc]; exact HI.out.2.1.next (by simp)
                    · rw [List.length_append, List.length_singleton]; exact YY.out.1
                    · exact YY.out.2
                case measure => simp [intOf]; omega
            · have q1 : (d != 0) = true := by simpa using hd
              have q2 : (d != 1) = true := by simpa using hd1
              have HD := Lib.hid (And.intro hd hd1)
              clear hd hd1
              go_wp2
              go_roundw
              case rel => exact ⟨m + 1, B2, dm2, g2, t2, by omega, by go_num, rfl, rfl, Lib.hid ⟨by rw [tput_far _ HD.out.1 HD.out.2]; have := HI.out.1; rwa [tput_far _ HD.out.1 HD.out.2] at this, ⟨by have := HI.out.2.1.1; omega, by have := HI.out.2.1.2; omega⟩, HI.out.2.2⟩⟩
              case measure => simp [intOf]; omega
        · obtain rfl : m = bs.length := by omega
          clear hok
          go_wp2
          go_roundw
          case rel =>
            refine ⟨k + 1, B2, dm2, g2, t2, by omega, by go_num, rfl, rfl, Lib.hid ⟨?_, ?_, HI.out.2.2⟩⟩
            · rw [HI.out.1, List.take_length, hN.out, turns_snoc]; rfl
            · rw [HW2.out]; exact HI.out.2.1
          case measure => simp [intOf]; omega
    · obtain rfl : k = L.length := by omega
      rw [pes_all] at HM
      go_wp2_with fail
      go_ret
      obtain ⟨h1, h2, h3, h4⟩ := HM.out
      subst h1
      exact ⟨B, dm, g, rfl, h3, h4⟩
end Go.Proofs.Ytchfiiiippnigaa
