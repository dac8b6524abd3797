/-
  kmp.places, slices.AppendSeq, slices.Collect and kmp.All, of numbers: the places at which the pattern stands, in a list of their own.
  Conditions: text and pattern of at most 4294967296 things.
-/
import Derived.Test.YtigapfgfbdofoaaKPlace
import Derived.RangeFuncLeaves
namespace Go.Proofs.Ytigapfgfbdofoaa
open Go.RowKit Go.Shelf

attribute [local go_sem] Oper.semAt_some


theorem wpListIn_append_row {F : Fence} {n : Nat} {P : Program} (w : World) {ops : Array Oper} {rest : List Oper} {o : Oper} {a : Act} {Q : Exit → Act → World → Prop}
    (hgd : o.guard = none) (s x : Operand) (t : TypeId) (ho : o.op = Op.call { callee := Callee.builtin Builtin.append, args := #[s, x], argTypes := #[t, t] })
    (e : TypeId) (i : TypeInfo) (z : Value) (bytes : Nat) (ht : P.underlying t = some (.slice e)) (hi : P.info? e = some i) (hz : i.zero = some z)
    (hsize : i.size = 1) (hby : i.bytes = bytes) (hzs : z.cells.size = 1)
    (g : Option Nat) (v : Value) (xs : List Value) (hs : a.eval s = v) (hrow : Row w e g v xs) (xv : Value) (ys : List Value) (hx : a.eval x = xv) (hrd : Rd w xv ys)
    (h63 : xs.length + ys.length ≤ maxLen) (hbytes : (xs.length + ys.length) * bytes ≤ 140737488355328)
    (h : ∀ A' c' w' g', Row w' e g' (.slice A' (xs.length + ys.length) c') (xs ++ ys) → w.grownBy w' g → (g' = g ∨ g' = some w.heap.size) → wpListIn F n P ops Q rest (a.put o.dst (.slice A' (xs.length + ys.length) c')) w') :
    wpListIn F n P ops Q (o :: rest) a w := by
  refine wpListIn_plain hgd fun K hK' => ?_
  obtain ⟨v', w', g', hrun, h2, h3, h4⟩ := run_append_row (P := P) w t t o.type e i z bytes ht hi hz hsize hby hzs hrow xv ys.length ys (hrd.src ht) h63 hbytes
  obtain ⟨A', c', rfl⟩ := h2.form
  rw [List.length_append] at h2 hrun
  unfold Oper.wpIn
  refine ⟨?_, ?_⟩
  · simp [Oper.about, ho, resolve, Target.leads, Sem.run_pure]
  · rw [Oper.semAt_plain F _ _ (by rw [ho]; intro c hc'; cases hc')]
    simp [execOp, ho, resolve, invoke, builtin, hs, hx, hrun, Result.andThen]
    exact hK' _ _ (h A' c' w' g' h2 h3 h4)

/-- A list that is gathered: its variable is block Bx, its row lies outside T. -/
def Gather (w : World) (Bx : Nat) (T : Nat → Prop) (pre : List Nat) (W : World) : Prop :=
  ∃ v go, Blk W Bx 22 #[v] ∧ Row W 3 go v (iv (ni pre)) ∧ ¬ T Bx ∧ w.heap.size ≤ Bx ∧ (∀ b, go = some b → ¬ T b ∧ w.heap.size ≤ b) ∧ Below w.heap.size w W
theorem Gather.spared (w : World) (Bx B : Nat) (hB : w.heap.size ≤ B) : Spared B (Gather w Bx) := by
  rintro T T' pre A C ⟨v, go, hb, hr, hx, hbx, hgo, hbel⟩ ho ht
  refine ⟨v, go, hb.only ho (fun h => hx h.1), hr.only ho (fun b e h => (hgo b e).1 h.1), fun h => ?_, hbx, fun b e => ⟨fun h => ?_, (hgo b e).2⟩, hbel.trans (ho.below hbel.size fun i hi h => by omega)⟩
  · rcases ht _ h with h | h
    · exact hx h
    · have := hb.lt; omega
  · rcases ht _ h with h | h
    · exact (hgo b e).1 h
    · have := hr.lt e; omega
theorem Gather.step {w W w1 : World} {Bx x : Nat} {T : Nat → Prop} {go go' : Option Nat} {pre : List Nat} {v V : Value} {tmp : Obj} (hb : Blk W Bx 22 #[v]) (hr : Row W 3 go v (iv (ni pre))) (hx : ¬ T Bx) (hbx : w.heap.size ≤ Bx)
    (hgo : ∀ b, go = some b → ¬ T b ∧ w.heap.size ≤ b) (hbel : Below w.heap.size w W) (hT : ∀ b, T b → b < W.heap.size)
    (hrow' : Row w1 3 go' V (iv (ni pre) ++ [.int .i64 (x : Int)])) (hgr : (W.alloc tmp).grownBy w1 go) (hg' : go' = go ∨ go' = some (W.alloc tmp).heap.size) :
    Still T W (w1.setCell ⟨Bx, 0, none⟩ V) ∧ Gather w Bx T (pre ++ [x]) (w1.setCell ⟨Bx, 0, none⟩ V) := by
  have hne : go ≠ some Bx := hr.ne_ hb (by decide)
  have hb1 : Blk w1 Bx 22 #[v] := (hb.alloc tmp).keep (hgr.block _ (hb.alloc tmp).lt (Ne.symm hne))
  have hne' : go' ≠ some Bx := hrow'.ne_ hb1 (by decide)
  have hsz := hgr.size
  have hwz := hbel.size
  rw [World.size_alloc] at hsz
  refine ⟨⟨by simp [World.setCell]; omega, fun b hb' hl => ?_⟩, V, go', ?_, ?_, hx, hbx, ?_, ?_⟩
  · rw [Below.heap_setCell w1 _ V b (by rintro rfl; exact hx hb'), hgr.block b (by simp; omega) (fun e => (hgo b e.symm).1 hb'), Below.heap_alloc W tmp b hl]
  · have := hb1.set_ 0 V; simpa using this
  · rw [ni_snoc, iv_append]; exact hrow'.far (p := ⟨Bx, 0, none⟩) hne' V
  · intro b e
    rcases hg' with e' | e'
    · exact hgo b (by rw [← e', e])
    · rw [e] at e'
      cases e'
      rw [World.size_alloc]
      exact ⟨fun h => by have := hT _ h; omega, by omega⟩
  · exact ((hbel.alloc hbel.size tmp).grown hgr (by simp; omega) (fun k e => (hgo k e).2)).setCell (p := ⟨Bx, 0, none⟩) hbx V

/-- What places hands out. -/
def PlacesTo (w : World) (vt vp : Value) (e : Ending) (w' : World) : Prop :=
  ∃ Bp Bt, e = .returned (.func (.func 34) #[] #[.pointer (some ⟨Bp, 0, none⟩), .pointer (some ⟨Bt, 0, none⟩)]) ∧ Blk w' Bp 22 #[vp] ∧ Blk w' Bt 22 #[vt] ∧ w.heap.size ≤ Bp ∧ w.heap.size ≤ Bt ∧ Below w.heap.size w w'
theorem places_i (A B : Option Addr) (n c m d : Nat) (w : World) : Calls Try.prog 27 #[.slice A n c, .slice B m d] w (PlacesTo w (.slice A n c) (.slice B m d)) := by
  go_enter Try.func27, Try.ntmps27
  go_wp2
  go_ret
  refine ⟨w.heap.size + 1, w.heap.size, rfl, ?_, (Blk.new w _ _).alloc _, by omega, by omega, ((Below.refl _ w).alloc (Nat.le_refl _) _).alloc (by simp) _⟩
  have := Blk.new (w.alloc (.cells #[.slice A n c] 22)) 22 #[.slice B m d]
  rwa [World.size_alloc] at this
/-- What it keeps lies in the old memory. -/
theorem PlacesTo.keeps {w w' : World} {Bp Bt : Nat} {vp vt : Value} {text p : List Int} (ht : Rd w vt (iv text)) (hp : Rd w vp (iv p)) (h1 : Blk w' Bp 22 #[vp]) (h2 : Blk w' Bt 22 #[vt]) (hb : Below w.heap.size w w') :
    Keeps (fun b => b < w'.heap.size) w' Bp Bt vp vt text p :=
  ⟨h1, h2, (hp.kept hb).old, (ht.kept hb).old, h1.lt, h2.lt⟩

theorem places_T (n : Nat) (hn : 1 ≤ n) (Bp Bt : Nat) (vp vt : Value) (text p : List Int) (hlt : text.length ≤ 4294967296) (hlp : p.length ≤ 4294967296) (T0 : Nat → Prop) (w : World) (hK : Keeps T0 w Bp Bt vp vt text p) :
    SeqT Fence.wide n Try.prog 34 #[.pointer (some ⟨Bp, 0, none⟩), .pointer (some ⟨Bt, 0, none⟩)] (fun x : Nat => #[.int .i64 (x : Int)]) (fun _ _ => True) (fun xs => xs = places text p) (fun pre => pre <+: places text p) (text.length + 1) T0 w :=
  fun l J Jx T W hW hT hJ _ hY h0 => places1_in n hn l Bp Bt vp vt text p hlt hlp J Jx T W.heap.size hJ (fun T pre x W h1 h2 => hY T pre x W h1 trivial h2) W (Nat.le_refl _) ((hK.below hW).mono hT) h0

set_option maxRecDepth 100000 in
set_option maxHeartbeats 2000000 in
theorem AppendSeq_p (Bp Bt : Nat) (vp vt : Value) (text p : List Int) (hlt : text.length ≤ 4294967296) (hlp : p.length ≤ 4294967296) (w : World) (hK : Keeps (fun b => b < w.heap.size) w Bp Bt vp vt text p) :
    Calls Try.prog 39 #[.slice none 0 0, .func (.func 34) #[] #[.pointer (some ⟨Bp, 0, none⟩), .pointer (some ⟨Bt, 0, none⟩)]] w (IntsTo w (ni (places text p))) := by
  refine (callsIn_wide (n := 3)).1 ?_
  obtain ⟨i0, hi0, hz0, hz1, hz2⟩ := info_parts int_info
  have HS := Lib.hid (places_T 2 (by omega) Bp Bt vp vt text p hlt hlp _ w hK)
  clear hK
  refine callsIn_of_wp_marks Try.func39 rfl trivial ?_ rfl
  simp only [Try.ntmps39, List.size_toArray, List.length_cons, List.length_nil, Nat.reduceAdd, Nat.reduceSub, Array.replicate_succ, Array.replicate_zero, List.push_toArray, List.append_toArray, List.nil_append, List.cons_append]
  have hob : Blk (w.alloc (.cells #[.slice none 0 0] 22)) w.heap.size 22 #[.slice none 0 0] := Blk.new w _ _
  have hG : Gather w w.heap.size (fun b => b < w.heap.size) [] (w.alloc (.cells #[.slice none 0 0] 22)) :=
    ⟨_, none, hob, Row.nil _ _, Nat.lt_irrefl _, Nat.le_refl _, (fun b e => by cases e), (Below.refl _ w).alloc (Nat.le_refl _) _⟩
  have X := Lib.hid (And.intro hG (And.intro ((Below.refl w.heap.size w).alloc (Nat.le_refl _) (.cells #[.slice none 0 0] 22)) (And.intro (show ∀ b, b < w.heap.size → b < (w.alloc (.cells #[.slice none 0 0] 22)).heap.size by simp; omega) (show w.heap.size ≤ (w.alloc (.cells #[.slice none 0 0] 22)).heap.size by simp))))
  clear hG hob
  gi_wp2_with fail
  generalize w.alloc (.cells #[.slice none 0 0] 22) = w1 at X ⊢
  refine wpIn_rangeT rfl (by omega) (gf := 34) (lb := #[.pointer (some ⟨Bp, 0, none⟩), .pointer (some ⟨Bt, 0, none⟩)]) rfl trivial (enters_of Try.func34 (by kernel_rfl) rfl)
    X.out.2.2.1 HS.out X.out.2.1 (fun _ => rfl) (Gather w w.heap.size) (fun _ _ _ _ => False) (Gather.spared w _ _ X.out.2.2.2) (fun _ _ _ _ _ _ h _ _ => h) X.out.1
    (fun x _ a' _ => a' = { tmps := #[.slice none 0 0, .func (.func 34) #[] #[.pointer (some ⟨Bp, 0, none⟩), .pointer (some ⟨Bt, 0, none⟩)], .pointer (some ⟨w.heap.size, 0, none⟩), undef, .slice none 0 0, .int .i64 ((x : Nat) : Int), .func (.func 34) #[] #[.pointer (some ⟨Bp, 0, none⟩), .pointer (some ⟨Bt, 0, none⟩)], .int .i64 (x : Int), undef, undef, undef, undef, undef], defers := [] })
    (fun x _ _ _ _ _ h _ _ => h) ?assign ?body ?done ?stop
  case assign =>
    intro l T pre x W K _ hI _ hK
    gi_wp2
    exact hK _ _ (Still.refl _ _) hI rfl
  case body =>
    rintro l T pre x _ W - - - hTl ⟨v1, go, hb, hr, hx, hbx, hgo, hB⟩ rfl hpl
    obtain ⟨A1, c1, rfl⟩ := hr.form
    rw [iv_len, ni_len] at hr hb
    have hc : W.cell? ⟨w.heap.size, 0, none⟩ = some (.slice A1 pre.length c1) := hb.cell 0
    have Y := Lib.hid (And.intro hb (And.intro hr (And.intro hx (And.intro hbx (And.intro hgo (And.intro hB hTl))))))
    clear hb hr hx hbx hgo hB hTl
    gi_wp2_with (gi_at_builtin; refine wpListIn_append_row _ rfl _ _ 22 rfl 3 i0 (.int .i64 0) 8 Try.underlying22 hi0 hz0 hz1 hz2 rfl go _ (iv (ni pre)) rfl (Y.out.2.1.alloc _) _ [.int .i64 (x : Int)] rfl (Rd.lit W 3 #[.int .i64 (x : Int)] 1 rfl (by omega) (by omega) (by simp [Value.oneCell'])) (by rw [iv_len, ni_len]; simp only [maxLen]; simp; omega) (by rw [iv_len, ni_len]; simp; omega) ?_; intro A' c' w1 g' hrow' hgr hg'; have hc1 : w1.cell? ⟨w.heap.size, 0, none⟩ = some (.slice A1 pre.length c1) := ((Y.out.1.alloc _).keep (hgr.block _ (Y.out.1.alloc _).lt (Ne.symm (Y.out.2.1.ne_ Y.out.1 (by decide))))).cell 0; have hf1 : w1.frozen? ⟨w.heap.size, 0, none⟩ = false := ((Y.out.1.alloc _).keep (hgr.block _ (Y.out.1.alloc _).lt (Ne.symm (Y.out.2.1.ne_ Y.out.1 (by decide))))).frozen 0; rw [iv_len, ni_len] at hrow' ⊢; have Z := Lib.hid (And.intro hrow' (And.intro hgr hg')); clear hrow' hgr hg')
    obtain ⟨hb, hr, hx, hbx, hgo, hB, hTl⟩ := Y.out
    obtain ⟨hrow', hgr, hg'⟩ := Z.out
    exact Gather.step hb hr hx hbx hgo hB hTl hrow' hgr hg'
  case done =>
    rintro D T ys W hD hTD rfl ⟨v1, go, hb, hr, hx, hbx, hgo, hB⟩ hK
    obtain ⟨A1, c1, rfl⟩ := hr.form
    rw [iv_len] at hr hb
    have hc : W.cell? ⟨w.heap.size, 0, none⟩ = some (.slice A1 (ni (places text p)).length c1) := hb.cell 0
    have Y := Lib.hid (And.intro hr (And.intro hgo (And.intro hB hTD)))
    have hsz := X.out.2.2.2
    clear hb hr hx hbx hgo hB hTD
    gi_wp2
    refine ⟨by simp, .inl ⟨_, _, rfl, run_takeDeferred hK, ?_⟩⟩
    obtain ⟨hr, hgo, hB, hTD⟩ := Y.out
    refine ⟨_, results_tmp rfl _ _ _, A1, c1, go, rfl, hr.keep (fun b e => World.putObj_heap_other (fun e' => (hgo b e).1 (e' ▸ hTD))), fun b e => (hgo b e).2, hB.trans (belowK_b (w := w) (Nat.le_refl _) W D _ _ (by omega) hK rfl rfl)⟩
  case stop =>
    rintro D c T pre W _ _ _ h _
    exact h.elim
end Go.Proofs.Ytigapfgfbdofoaa
