/-
  slices.Values at []string and maps.Keys at map[string]string, as iterators.
  Conditions: those of each theorem.
-/
import Derived.Test.YteapcahpkapbbaaSrtN
import Derived.Test.YteapcahpkapbbaaEnT
import Derived.Test.YteapcahpkapbbaaSeqT
import Derived.RangeFuncNested
import Derived.RangeFuncBound
import Derived.RangeFuncCalls
import Derived.RangeFuncLeaves
import Derived.RangeFuncBox
import Derived.Shelf.Abstract
import Derived.OwnWalkIn
import Derived.TacticsInMore
import Derived.LoopNIn
import Derived.LoopIn
import Derived.Maps.AppendAt
import Derived.Sort.MapsRangeIn
namespace Go.Proofs.Yteapcahpkapbbaa
open Go.RowKit Go.Shelf Go.Maps

attribute [local go_sem] Oper.semAt_some

theorem wpListIn_append_row {F : Fence} {n : Nat} {P : Program} (w : World) {ops : Array Oper} {rest : List Oper} {o : Oper} {a : Act} {Q : Exit → Act → World → Prop}
    (hgd : o.guard = none) (s x : Operand) (t : TypeId) (ho : o.op = Op.call { callee := Callee.builtin Builtin.append, args := #[s, x], argTypes := #[t, t] })
    (e : TypeId) (i : TypeInfo) (z : Value) (bytes : Nat) (ht : P.underlying t = some (.slice e)) (hi : P.info? e = some i) (hz : i.zero = some z)
    (hsize : i.size = 1) (hby : i.bytes = bytes) (hzs : z.cells.size = 1)
    (g : Option Nat) (v : Value) (xs : List Value) (hs : a.eval s = v) (hrow : Row w e g v xs) (xv : Value) (ys : List Value) (hx : a.eval x = xv) (hrd : Rd w xv ys)
    (h63 : xs.length + ys.length ≤ maxLen) (hbytes : (xs.length + ys.length) * bytes ≤ 140737488355328)
    (h : ∀ A' c' w' g', Row w' e g' (.slice A' (xs.length + ys.length) c') (xs ++ ys) → w.grownBy w' g → (g' = g ∨ g' = some w.heap.size) → wpListIn F n P ops Q rest (a.put o.dst (.slice A' (xs.length + ys.length) c')) w') :
    wpListIn F n P ops Q (o :: rest) a w := by
  refine wpListIn_plain hgd fun K hK' => ?_
  obtain ⟨v', w', g', hrun, h2, h3, h4⟩ := run_append_row (P := P) w t t o.type e i z bytes ht hi hz hsize hby hzs hrow xv ys.length ys (hrd.src ht) h63 hbytes
  obtain ⟨A', c', rfl⟩ := h2.form
  rw [List.length_append] at h2 hrun
  unfold Oper.wpIn
  refine ⟨?_, ?_⟩
  · simp [Oper.about, ho, resolve, Target.leads, Sem.run_pure]
  · rw [Oper.semAt_plain F _ _ (by rw [ho]; intro c hc'; cases hc')]
    simp [execOp, ho, resolve, invoke, builtin, hs, hx, hrun, Result.andThen]
    exact hK' _ _ (h A' c' w' g' h2 h3 h4)

/-- A block is as it was. -/
def Kpt (g : Option Nat) (W W' : World) : Prop := ∀ b, g = some b → W'.heap[b]? = W.heap[b]?
theorem Kpt.t {g : Option Nat} {A B C : World} (h : Kpt g A B) (k : Kpt g B C) : Kpt g A C := fun b e => (k b e).trans (h b e)
theorem Kpt.b {g : Option Nat} {w : World} (hg : ∀ b, g = some b → b < w.heap.size) (W : World) (l : Nat) (o o' : Obj) (hl : w.heap.size ≤ l) (_ : W.heap[l]? = some o) (_ : o.isCells = false) (_ : o.isWalk = false) : Kpt g W (W.putObj l o') :=
  fun b e => World.putObj_heap_other (fun e' => by have := hg b e; omega)

/-! ### slices.Values -/
theorem Row.strs {w : World} {g : Option Nat} {A : Option Addr} {n c : Nat} {xs : List (List Nat)} (h : Row w 9 g (.slice A n c) (sv xs)) :
    n = xs.length ∧ (0 < xs.length → ∃ b o, A = some ⟨b, o, none⟩ ∧ ∀ j x, xs[j]? = some x → w.cell? ⟨b, o + j, none⟩ = some (.string (str x))) := by
  obtain ⟨A', c', e, _, _, hx⟩ := h.rd
  injection e with e1 e2 e3
  rw [sv_len] at e2 hx
  refine ⟨e2, fun hp => ?_⟩
  obtain ⟨b, o, e4, hc⟩ := hx hp
  exact ⟨b, o, by rw [e1, e4], fun j x hj => hc j _ (sv_at hj)⟩

set_option maxRecDepth 100000 in
set_option maxHeartbeats 2000000 in
/-- The closure of slices.Values: for every loop body that keeps the row. -/
theorem values1_in (n : Nat) (hn : 1 ≤ n) (l Bs : Nat) (g : Option Nat) (v : Value) (zs : List (List Nat)) (hl : zs.length ≤ 65536) (J Jx : List (List Nat) → World → Prop)
    (hY : ∀ pre x W, J pre W → pre.length < zs.length → YieldAt Fence.wide (n - 1) Try.prog l #[.string (str x)] W fun e W' =>
      (e = .returned (.bool true) ∧ J (pre ++ [x]) W' ∧ Kpt g W W') ∨ (e = .returned (.bool false) ∧ Jx (pre ++ [x]) W'))
    (W : World) (hBs : W.cell? ⟨Bs, 0, none⟩ = some v) (hrow : Row W 9 g v (sv zs)) (h0 : J [] W) :
    CallsIn Fence.wide n Try.prog 47 #[.func (.yield l) #[] #[], .pointer (some ⟨Bs, 0, none⟩)] W fun e W' => (∃ v, e = .returned v) ∧
      ((∃ ys, ys = zs ∧ J ys W') ∨ (∃ pre, pre <+: zs ∧ Jx pre W')) := by
  obtain ⟨A, c, rfl⟩ := hrow.form
  rw [sv_len] at hrow hBs
  by_cases hz : zs.length = 0
  · obtain rfl : zs = [] := List.eq_nil_of_length_eq_zero hz
    clear hY hrow hz hl
    simp only [List.length_nil] at hBs
    refine callsIn_of_wp Try.func47 rfl trivial ?_ rfl
    simp only [Try.ntmps47, List.size_toArray, List.length_cons, List.length_nil, Nat.reduceAdd, Nat.reduceSub, Array.replicate_succ, Array.replicate_zero, List.push_toArray, List.append_toArray, List.nil_append, List.cons_append]
    gi_wp2
    gi_loopw [7] (fun i wr => i = .int .i64 0 ∧ J [] wr) (fun _ _ => 0)
    case atStart => exact ⟨rfl, h0⟩
    case round =>
      obtain ⟨rfl, hJs⟩ := hrel
      gi_wp2
      go_end0
      exact ⟨⟨_, rfl⟩, .inl ⟨[], rfl, hJs⟩⟩
  · obtain ⟨b, o, rfl, hx⟩ := hrow.strs.2 (by omega)
    have hp : 0 < zs.length := by omega
    clear hz hx
    have HR := Lib.hid hrow
    clear hrow
    refine callsIn_of_wp Try.func47 rfl trivial ?_ rfl
    simp only [Try.ntmps47, List.size_toArray, List.length_cons, List.length_nil, Nat.reduceAdd, Nat.reduceSub, Array.replicate_succ, Array.replicate_zero, List.push_toArray, List.append_toArray, List.nil_append, List.cons_append]
    gi_wp2
    gi_loopw [7] (fun i wr => ∃ k : Nat, k ≤ zs.length ∧ i = .int .i64 k ∧ J (zs.take k) wr ∧ Hid (Row wr 9 g (.slice (some ⟨b, o, none⟩) zs.length c) (sv zs)))
      (fun i _ => zs.length - (intOf i).toNat)
    case atStart => exact ⟨0, Nat.zero_le _, rfl, h0, HR⟩
    case round =>
      obtain ⟨k, hk, rfl, hJs, HR'⟩ := hrel
      by_cases hlt : k < zs.length
      · obtain ⟨x, hxk⟩ : ∃ x, zs[k]? = some x := ⟨_, List.getElem?_eq_getElem hlt⟩
        obtain ⟨fn, tmps, assign, body, hy, hR⟩ := hY _ x wr hJs (by simp; omega)
        have hcx : wr.cell? ⟨b, o + k, none⟩ = some (.string (str x)) := by
          obtain ⟨b', o', e, hx⟩ := HR'.out.strs.2 hp
          cases e
          exact hx k x hxk
        have HX : Hid (zs.take (k + 1) = zs.take k ++ [x]) := Lib.hid (by rw [List.take_add_one, hxk]; rfl)
        clear hxk
        gi_wp2
        refine hR.mono ?_
        rintro e W3 (⟨rfl, hJ3, hk3⟩ | ⟨rfl, hJx3⟩)
        · gi_wp2
          go_roundw
          case rel => exact ⟨k + 1, by omega, by simp, by rw [HX.out]; exact hJ3, HR'.out.keep hk3⟩
          case measure => simp [intOf]; omega
        · gi_wp2
          refine bodyPost_ret (results_none rfl _ _ _) rfl ?_
          exact ⟨⟨_, rfl⟩, .inr ⟨_, by rw [← HX.out]; exact List.take_prefix _ _, hJx3⟩⟩
      · obtain rfl : k = zs.length := by omega
        gi_wp2
        go_end0
        exact ⟨⟨_, rfl⟩, .inl ⟨_, List.take_length, hJs⟩⟩
theorem values_stops (n : Nat) (hn : 1 ≤ n) (Bs : Nat) (g : Option Nat) (v : Value) (zs : List (List Nat)) (hl : zs.length ≤ 65536) (w : World) (hBs : Blk w Bs 45 #[v]) (hrow : Row w 9 g v (sv zs)) :
    SeqStopsK Fence.wide n Try.prog 47 #[.pointer (some ⟨Bs, 0, none⟩)] (fun x : List Nat => #[Value.string (str x)]) (Kpt g) (fun ys => ys = zs) (fun pre => pre <+: zs) zs.length w := fun l J Jx W hW _ _ hY h0 =>
  values1_in n hn l Bs g v zs hl J Jx hY W ((hBs.below hW hBs.lt).cell 0) (hrow.below hW (fun _ e => hrow.lt e)) h0

/-! ### maps.Keys -/
/-- What has come so far of a map's keys. -/
def Came (D : DataW Unit) (left : Lit → Bool) (ss : List (List Nat)) : Prop := ss.Nodup ∧ (∀ x ∈ ss, ∀ c ∈ x, c < 256) ∧ ∀ x, (∀ c ∈ x, c < 256) → (x ∈ ss ↔ (has D (lk x) = true ∧ left (lk x) = false))
theorem Came.start (D : DataW Unit) : Came D (has D) [] := ⟨List.nodup_nil, by simp, fun x _ => by cases has D (lk x) <;> simp⟩
theorem lk_same {x y : List Nat} (hx : ∀ c ∈ x, c < 256) (hy : ∀ c ∈ y, c < 256) : (lk x).sameKey (lk y) = decide (x = y) := by
  by_cases e : x = y
  · subst e; simp [lk, Lit.sameKey]
  · have h1 : ¬ (str x).data = (str y).data := fun h => e (str_inj hx hy (ba_data (congrArg _ h)))
    simp [lk, Lit.sameKey, e, h1]
theorem Came.step {D : DataW Unit} {left : Lit → Bool} {ss : List (List Nat)} (h : Came D left ss) {x : List Nat} (hx : ∀ c ∈ x, c < 256) (hlk : left (lk x) = true) (hhas : has D (lk x) = true) : Came D (fun z => left z && !z.sameKey (lk x)) (ss ++ [x]) := by
  have hnew : x ∉ ss := fun hm => by have := ((h.2.2 x hx).1 hm).2; rw [hlk] at this; cases this
  refine ⟨List.nodup_append.2 ⟨h.1, by simp, fun a ha b hb => by simp at hb; subst hb; exact fun e => hnew (e ▸ ha)⟩, fun y hy => ?_, fun y hy => ?_⟩
  · rcases List.mem_append.1 hy with hy | hy
    · exact h.2.1 y hy
    · rw [List.mem_singleton.1 hy]; exact hx
  · show _ ↔ _ ∧ (left (lk y) && !(lk y).sameKey (lk x)) = false
    rw [lk_same hy hx]
    by_cases e : y = x
    · subst e; simp [hhas]
    · simp [h.2.2 y hy, e]
theorem Came.perm {D : DataW Unit} {left : Lit → Bool} {ss : List (List Nat)} {l : Vrs} (h : Came D left ss) (hd : MapD D l) (hn : (l.map (·.1)).Nodup) (hl : ∀ kl, left kl = false) : ss.Perm (l.map (·.1)) := by
  refine (List.perm_ext_iff_of_nodup h.1 hn).2 fun x => ?_
  by_cases hx : ∀ c ∈ x, c < 256
  · rw [h.2.2 x hx, hl, hd.has x hx]
    simp only [and_true]
    cases hg : getV l x with
    | none => simpa using get_none.1 hg
    | some v => simpa using ⟨v, get_mem hg⟩
  · constructor
    · intro hm; exact absurd (h.2.1 x hm) hx
    · intro hm
      obtain ⟨p, hp, rfl⟩ := List.mem_map.1 hm
      exact absurd (hd.ok p hp).1 hx

set_option maxRecDepth 100000 in
set_option maxHeartbeats 1000000 in
/-- The closure of maps.Keys: for every loop body that keeps maps and what goes through them. -/
theorem keys1_in (n : Nat) (hn : 1 ≤ n) (l Bm b nn : Nat) (L : Vrs) (hnd : (L.map (·.1)).Nodup) (J Jx : List (List Nat) → World → Prop)
    (hY : ∀ pre x W, J pre W → pre.length < L.length → YieldAt Fence.wide (n - 1) Try.prog l #[.string (str x)] W fun e W' =>
      (e = .returned (.bool true) ∧ J (pre ++ [x]) W' ∧ KeepsWalks W W') ∨ (e = .returned (.bool false) ∧ Jx (pre ++ [x]) W'))
    (W : World) (hJ : AbidesFrom W.heap.size J) (hm : W.cell? ⟨Bm, 0, none⟩ = some (.map (some b))) (hown : MapV W b nn L) (h0 : J [] W) :
    CallsIn Fence.wide n Try.prog 44 #[.func (.yield l) #[] #[], .pointer (some ⟨Bm, 0, none⟩)] W fun e W' => (∃ v, e = .returned v) ∧
      ((∃ ss, ss.Perm (L.map (·.1)) ∧ J ss W') ∨ (∃ pre, pre.Nodup ∧ Jx pre W')) := by
  obtain ⟨D, hown, hd⟩ := hown
  have HD := Lib.hid hd
  have hsz := hd.size
  refine callsIn_of_wp Try.func44 rfl trivial ?_ rfl
  simp only [Try.ntmps44, List.size_toArray, List.length_cons, List.length_nil, Nat.reduceAdd, Nat.reduceSub, Array.replicate_succ, Array.replicate_zero, List.push_toArray, List.append_toArray, List.nil_append, List.cons_append]
  gi_wp2_with (first
    | (gi_at_range; refine wpListIn_range_own _ rfl _ 54 rfl 9 9 lawS Try.underlying54 ElS b nn D rfl hown ?_; intro w0 hrg0 hg0 hs0)
    | gi_in)
  go_frame
  gi_loopw [3] (fun _ wr => ∃ (left : Lit → Bool) (cnt : Nat) (ss : List (List Nat)), wr.ranges Try.prog 9 ElS b W.heap.size nn D left cnt ∧ Hid (ss.length + cnt ≤ L.length) ∧ Hid (Came D left ss) ∧ J ss wr ∧ Hid (∀ kl, left kl = true → has D kl = true))
    (fun _ wr => wr.rangeLeft b W.heap.size)
  case atStart =>
    exact ⟨_, _, [], hrg0, Lib.hid (by rw [hsz]; simp), Lib.hid (Came.start D), hJ [] W w0 none h0 hg0 (fun r e => by cases e), Lib.hid fun _ e => e⟩
  case round =>
    obtain ⟨left, cnt, ss, hrg, hcs, hC, hJs, hLH⟩ := hrel
    gi_wp2_with (first
      | (gi_at_next; refine wpListIn_next_ranges _ rfl _ rfl 9 lawS ElS (Value.string) id (fun key kl hk => by obtain ⟨x, e, _⟩ := key_inv hk; exact ⟨x, e⟩) (fun v _ _ => ⟨v, rfl⟩) b W.heap.size nn _ _ _ rfl hrg ?_ ?_)
      | gi_in)
    · intro hc0 hl0
      gi_wp2
      go_end0
      exact ⟨⟨_, rfl⟩, .inl ⟨ss, hC.out.perm HD.out hnd hl0, hJs⟩⟩
    · intro x c kl yd yp w2 cnt2 hkey hlk hv hat hrg2 hlt hg2 hs2 hen
      obtain ⟨s, rfl, hsb, _⟩ := str_of x
      obtain ⟨x', ex, rfl⟩ := key_inv hkey
      injection ex with ex
      subst ex
      have hJ2 : J ss w2 := hJ ss wr w2 (some W.heap.size) hJs hg2 (fun r e => by cases e; exact ⟨Nat.le_refl _, hrg.iter_walk⟩)
      have hC2 := Lib.hid (hC.out.step hsb hlk (hLH.out _ hlk))
      have hlen : ss.length < L.length := by have := hcs.out; omega
      have HLE : Hid ((ss ++ [s]).length + cnt2 ≤ L.length) := Lib.hid (by have := hcs.out; simp; omega)
      have HLH : Hid (∀ kl, (fun z => left z && !z.sameKey (lk s)) kl = true → has D kl = true) := Lib.hid (fun kl hk => hLH.out kl (by simp only [Bool.and_eq_true] at hk; exact hk.1))
      obtain ⟨fn, tmps, assign, body, hy, hR⟩ := hY ss s w2 hJ2 hlen
      clear hs2 hat hkey hv
      gi_wp2
      refine hR.mono ?_
      rintro e W3 (⟨rfl, hJ3, hk3⟩ | ⟨rfl, hJx3⟩)
      · gi_wp2
        have hrg3 := hrg2.of_walks hk3
        go_roundw
        case rel => exact ⟨_, cnt2, ss ++ [s], hrg3, HLE, hC2, hJ3, HLH⟩
        case measure => rw [hrg3.left_eq, hrg.left_eq]; exact hlt
      · gi_wp2
        refine bodyPost_ret (results_none rfl _ _ _) rfl ?_
        exact ⟨⟨_, rfl⟩, .inr ⟨ss ++ [s], hC2.out.1, hJx3⟩⟩
theorem keys_stops (n : Nat) (hn : 1 ≤ n) (Bm b nn : Nat) (L : Vrs) (hnd : (L.map (·.1)).Nodup) (w : World) (hBm : Blk w Bm 54 #[.map (some b)]) (hown : MapV w b nn L) :
    SeqStopsK Fence.wide n Try.prog 44 #[.pointer (some ⟨Bm, 0, none⟩)] (fun x : List Nat => #[Value.string (str x)]) KeepsWalks (fun ys => ys.Perm (L.map (·.1))) (fun pre => pre.Nodup) L.length w := fun l J Jx W hW hJ _ hY h0 =>
  keys1_in n hn l Bm b nn L hnd J Jx hY W hJ ((hBm.below hW hBm.lt).cell 0) (hown.below hW) h0

set_option maxRecDepth 100000 in
set_option maxHeartbeats 1000000 in
/-- .. of no map. -/
theorem keys1_nil_in (n : Nat) (l Bm : Nat) (J : List (List Nat) → World → Prop) (W : World) (hJ : AbidesFrom W.heap.size J) (hm : W.cell? ⟨Bm, 0, none⟩ = some (.map none)) (h0 : J [] W) :
    CallsIn Fence.wide n Try.prog 44 #[.func (.yield l) #[] #[], .pointer (some ⟨Bm, 0, none⟩)] W fun e W' => (∃ v, e = .returned v) ∧ J [] W' := by
  refine callsIn_of_wp Try.func44 rfl trivial ?_ rfl
  simp only [Try.ntmps44, List.size_toArray, List.length_cons, List.length_nil, Nat.reduceAdd, Nat.reduceSub, Array.replicate_succ, Array.replicate_zero, List.push_toArray, List.append_toArray, List.nil_append, List.cons_append]
  have hrg := run_range_nilMap (P := Try.prog) W 54 9 9 Try.underlying54
  have hnx : ∀ ty, (Instr.next (.pointer (some ⟨W.heap.size, 0, none⟩)) false ty).run Try.prog (W.alloc (.mapIter none 0 #[] 0)) = _ := fun ty => run_next_nilMap _ ty 0 0 #[]
  gi_wp2
  refine wpIn_loop_rounds 1 ?_
  rw [roundsIn_succ]
  gi_wp2
  go_end0
  exact ⟨⟨_, rfl⟩, hJ [] W _ none h0 (World.grownBy_alloc W _ none) (fun r e => by cases e)⟩
theorem keys_stops_nil (n : Nat) (Bm : Nat) (w : World) (hBm : Blk w Bm 54 #[.map none]) :
    SeqStopsK Fence.wide n Try.prog 44 #[.pointer (some ⟨Bm, 0, none⟩)] (fun x : List Nat => #[Value.string (str x)]) KeepsWalks (fun ys => ys.Perm []) (fun pre => pre.Nodup) 0 w := fun l J _ W hW hJ _ _ h0 =>
  (keys1_nil_in n l Bm J W hJ ((hBm.below hW hBm.lt).cell 0) h0).mono fun _ _ ⟨he, hj⟩ => ⟨he, .inl ⟨[], List.Perm.refl _, hj⟩⟩
end Go.Proofs.Yteapcahpkapbbaa
