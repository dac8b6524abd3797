/-
  slices.Collect and kmp.All, of numbers; the function that All hands out; cuecardlaw08.all: the places at which the pattern stands, in a list of their own.
  Conditions: text and pattern of at most 4294967296 things.
-/
import Derived.Test.YtigapfgfbdofoaaKColl
namespace Go.Proofs.Ytigapfgfbdofoaa
open Go.RowKit Go.Shelf

attribute [local go_sem] Oper.semAt_some

theorem Collect_p (Bp Bt : Nat) (vp vt : Value) (text p : List Int) (hlt : text.length ≤ 4294967296) (hlp : p.length ≤ 4294967296) (w : World) (hK : Keeps (fun b => b < w.heap.size) w Bp Bt vp vt text p) :
    Calls Try.prog 35 #[.func (.func 34) #[] #[.pointer (some ⟨Bp, 0, none⟩), .pointer (some ⟨Bt, 0, none⟩)]] w (IntsTo w (ni (places text p))) := by
  have H := Lib.hid (AppendSeq_p Bp Bt vp vt text p hlt hlp w hK)
  clear hK
  go_enter Try.func35, Try.ntmps35
  go_wp2_with fail
  refine H.out.mono ?_
  rintro e w1 ⟨A, c, g, rfl, h1, h2, h3⟩
  have X := Lib.hid (And.intro h1 (And.intro h2 h3))
  clear h1 h2 h3
  go_wp2
  go_ret
  exact ⟨A, c, g, rfl, X.out⟩

theorem RdT.alloc {T : Nat → Prop} {w : World} {v : Value} {xs : List Value} (h : RdT T w v xs) (o : Obj) : RdT T (w.alloc o) v xs := h.still ((Still.refl T w).alloc o)
theorem Row.rdT {T : Nat → Prop} {w : World} {e : TypeId} {g : Option Nat} {v : Value} {xs : List Value} (h : Row w e g v xs) (hg : ∀ b, g = some b → T b) : RdT T w v xs := by
  refine ⟨h.rd, fun b o n c ev hp => ?_⟩
  obtain ⟨A, c', rfl, hle, _, _, hh⟩ := h
  cases ev
  rcases hh with ⟨h0, _⟩ | ⟨b', o', cs, _, rfl, e2, _⟩
  · omega
  · cases e2
    exact hg b rfl
/-- What All hands out. -/
def AllTo (w : World) (xs : List Nat) (e : Ending) (w' : World) : Prop :=
  ∃ Bx A c, e = .returned (.func (.func 36) #[] #[.pointer (some ⟨Bx, 0, none⟩)]) ∧ Blk w' Bx 22 #[.slice A xs.length c] ∧ RdT (fun b => w.heap.size ≤ b) w' (.slice A xs.length c) (iv (ni xs)) ∧ w.heap.size ≤ Bx ∧ Below w.heap.size w w'

theorem All_i (A B : Option Addr) (n c m d : Nat) (text p : List Int) (hlt : text.length ≤ 4294967296) (hlp : p.length ≤ 4294967296) (w : World) (ht : Rd w (.slice A n c) (iv text)) (hp : Rd w (.slice B m d) (iv p)) :
    Calls Try.prog 28 #[.slice A n c, .slice B m d] w (AllTo w (places text p)) := by
  have H := Lib.hid (And.intro ht hp)
  clear ht hp
  go_enter Try.func28, Try.ntmps28
  go_wp2_with fail
  refine (places_i A B n c m d w).mono ?_
  rintro e w1 ⟨Bp, Bt, rfl, h1, h2, -, -, hb1⟩
  have HC := Lib.hid (Collect_p Bp Bt _ _ text p hlt hlp w1 (PlacesTo.keeps H.out.1 H.out.2 h1 h2 hb1))
  have HB1 := Lib.hid hb1
  clear h1 h2 hb1
  go_wp2_with fail
  refine HC.out.mono ?_
  rintro e w2 ⟨A', c', g, rfl, hr, hg, hb2⟩
  have X := Lib.hid (And.intro hr (And.intro hg (HB1.out.trans (hb2.mono HB1.out.size))))
  clear hr hg hb2 HC
  rw [ni_len] at X ⊢
  go_wp2
  go_ret
  obtain ⟨hr, hg, hb⟩ := X.out
  exact ⟨w2.heap.size, A', c', rfl, Blk.new w2 _ _, (hr.rdT (T := fun b => w.heap.size ≤ b) fun b e => Nat.le_trans HB1.out.size (hg b e)).alloc _, hb.size, hb.alloc hb.size _⟩

set_option maxRecDepth 100000 in
set_option maxHeartbeats 2000000 in
/-- The function that All hands out: for every loop body that leaves T as it is. -/
theorem all1_in (n : Nat) (hn : 1 ≤ n) (l Bx : Nat) (v : Value) (xs : List Nat) (hlx : xs.length ≤ 4294967297) (J Jx : (Nat → Prop) → List Nat → World → Prop) (T : Nat → Prop)
    (hY : ∀ T pre x W, J T pre W → pre.length < xs.length → YieldAt Fence.wide (n - 1) Try.prog l #[.int .i64 ((x : Nat) : Int)] W fun e W' =>
      (e = .returned (.bool true) ∧ J T (pre ++ [x]) W' ∧ Still T W W') ∨ (e = .returned (.bool false) ∧ Jx T (pre ++ [x]) W'))
    (W : World) (hBx : Blk W Bx 22 #[v]) (hr : RdT T W v (iv (ni xs))) (h0 : J T [] W) :
    CallsIn Fence.wide n Try.prog 36 #[.func (.yield l) #[] #[], .pointer (some ⟨Bx, 0, none⟩)] W fun e W' => (∃ v, e = .returned v) ∧
      ((∃ T ys, ys = xs ∧ J T ys W') ∨ (∃ T pre, pre <+: xs ∧ Jx T pre W')) := by
  obtain ⟨A, m, c, rfl⟩ : ∃ A n c, v = .slice A n c := by obtain ⟨A, c, e, _⟩ := hr.1; exact ⟨_, _, _, e⟩
  obtain ⟨rfl, -⟩ := hr.1.ints
  have c0 := hBx.cell 0
  simp only [List.getElem?_toArray, List.getElem?_cons_zero] at c0
  rw [ni_len] at c0 hr
  have HR := Lib.hid hr
  clear hr hBx
  refine callsIn_of_wp Try.func36 rfl trivial ?_ rfl
  simp only [Try.ntmps36, List.size_toArray, List.length_cons, List.length_nil, Nat.reduceAdd, Nat.reduceSub, Array.replicate_succ, Array.replicate_zero, List.push_toArray, List.append_toArray, List.nil_append, List.cons_append]
  gi_wp2
  gi_loopw [7] (fun i wr => ∃ k : Nat, k ≤ xs.length ∧ i = .int .i64 k ∧ J T (xs.take k) wr ∧ Hid (RdT T wr (.slice A xs.length c) (iv (ni xs))))
    (fun i _ => xs.length - (intOf i).toNat)
  case atStart => exact ⟨0, Nat.zero_le _, rfl, h0, HR⟩
  case round =>
    obtain ⟨k, hk, rfl, hJs, HR'⟩ := hrel
    by_cases hlt : k < xs.length
    · obtain ⟨b, o, rfl, x1⟩ := HR'.out.1.ints.2.2 (by rw [ni_len]; omega)
      have y1 := x1 k (by rw [ni_len]; omega)
      rw [show (ni xs)[k]?.getD 0 = ((xs[k] : Nat) : Int) by simp [ni, hlt]] at y1
      obtain ⟨fn, tmps, assign, body, hy, hR⟩ := hY _ _ xs[k] wr hJs (by simp; omega)
      have HX := Lib.hid (List.take_succ_eq_append_getElem hlt)
      clear x1
      generalize xs[k] = x at *
      gi_wp2
      refine hR.mono ?_
      rintro e W3 (⟨rfl, hJ3, hk3⟩ | ⟨rfl, hJx3⟩)
      · have HR3 := Lib.hid (HR'.out.still hk3)
        gi_wp2
        go_roundw
        case rel => exact ⟨k + 1, by omega, by simp, by rw [HX.out]; exact hJ3, HR3⟩
        case measure => simp [intOf]; omega
      · gi_wp2
        refine bodyPost_ret (results_none rfl _ _ _) rfl ?_
        exact ⟨⟨_, rfl⟩, .inr ⟨_, _, by rw [← HX.out]; exact List.take_prefix _ _, hJx3⟩⟩
    · obtain rfl : k = xs.length := by omega
      gi_wp2
      go_end0
      exact ⟨⟨_, rfl⟩, .inl ⟨_, _, List.take_length, hJs⟩⟩
theorem all_T (n : Nat) (hn : 1 ≤ n) (Bx : Nat) (v : Value) (xs : List Nat) (hlx : xs.length ≤ 4294967297) (T0 : Nat → Prop) (w : World) (hB : Blk w Bx 22 #[v]) (hr : RdT T0 w v (iv (ni xs))) :
    SeqT Fence.wide n Try.prog 36 #[.pointer (some ⟨Bx, 0, none⟩)] (fun x : Nat => #[.int .i64 (x : Int)]) (fun _ _ => True) (fun ys => ys = xs) (fun pre => pre <+: xs) xs.length T0 w :=
  fun l J Jx T W hW hT _ _ hY h0 => all1_in n hn l Bx v xs hlx J Jx T (fun T pre x W h1 h2 => hY T pre x W h1 trivial h2) W (hB.below hW hB.lt) ((hr.below hW).mono hT) h0

theorem places_len (text p : List Int) : (places text p).length ≤ text.length + 1 := by
  rw [← placesTo_all]
  have := placesTo_len text p text.length
  omega

set_option maxRecDepth 100000 in
set_option maxHeartbeats 2000000 in
theorem all_i (A B : Option Addr) (n c m d : Nat) (text p : List Int) (hlt : text.length ≤ 4294967296) (hlp : p.length ≤ 4294967296) (w : World) (ht : Rd w (.slice A n c) (iv text)) (hp : Rd w (.slice B m d) (iv p)) :
    Calls Try.prog 15 #[.slice A n c, .slice B m d] w (IntsTo w (ni (places text p))) := by
  refine (callsIn_wide (n := 3)).1 ?_
  obtain ⟨i0, hi0, hz0, hz1, hz2⟩ := info_parts int_info
  have hb0 : Below w.heap.size w (w.alloc (.cells #[.slice none 0 0] 22)) := (Below.refl _ w).alloc (Nat.le_refl _) _
  have HA := Lib.hid ((callsIn_wide (n := 2)).2 (All_i A B n c m d text p hlt hlp (w.alloc (.cells #[.slice none 0 0] 22)) (ht.kept hb0) (hp.kept hb0)))
  have hxl := places_len text p
  generalize places text p = xs at *
  clear ht hp
  refine callsIn_of_wp_marks Try.func15 rfl trivial ?_ rfl
  simp only [Try.ntmps15, List.size_toArray, List.length_cons, List.length_nil, Nat.reduceAdd, Nat.reduceSub, Array.replicate_succ, Array.replicate_zero, List.push_toArray, List.append_toArray, List.nil_append, List.cons_append]
  gi_wp2_with fail
  refine ⟨trivial, ?_⟩
  refine HA.out.mono ?_
  rintro e w2 ⟨Bx, A2, c2, rfl, hBx, hrd, hge, hbel⟩
  have hsz := hbel.size
  rw [World.size_alloc] at hsz hge hrd
  have HS := Lib.hid (all_T 2 (by omega) Bx _ xs (by omega) (fun b => w.heap.size < b ∧ b < w2.heap.size) w2 hBx ⟨hrd.1, fun b o n c e hp => ⟨by have := hrd.2 b o n c e hp; omega, hrd.1.old.2 b o n c e hp⟩⟩)
  have hob : Blk w2 w.heap.size 22 #[.slice none 0 0] := (Blk.new w _ _).below hbel (by simp)
  have hbw : Below w.heap.size w w2 := hb0.trans (hbel.mono (by simp))
  have hG : Gather w w.heap.size (fun b => w.heap.size < b ∧ b < w2.heap.size) [] w2 := ⟨_, none, hob, Row.nil _ _, fun h => Nat.lt_irrefl _ h.1, Nat.le_refl _, (fun b e => by cases e), hbw⟩
  have X := Lib.hid (And.intro hG (And.intro hbw.size (show ∀ b, (w.heap.size < b ∧ b < w2.heap.size) → b < w2.heap.size from fun b h => h.2)))
  clear hob hbw hG hBx hrd hbel hb0 HA hsz hge
  gi_wp2_with fail
  refine wpIn_rangeT rfl (by omega) (gf := 36) (lb := #[.pointer (some ⟨Bx, 0, none⟩)]) rfl trivial (enters_of Try.func36 (by kernel_rfl) rfl)
    X.out.2.2 HS.out (Below.refl _ _) (fun _ => rfl) (Gather w w.heap.size) (fun _ _ _ _ => False) (Gather.spared w _ _ X.out.2.1) (fun _ _ _ _ _ _ h _ _ => h) X.out.1
    (fun x _ a' _ => a' = { tmps := #[.slice A n c, .slice B m d, undef, undef, .slice none 0 0, .pointer (some ⟨w.heap.size, 0, none⟩), .int .i64 ((x : Nat) : Int), .slice A n c, .slice B m d, .func (.func 36) #[] #[.pointer (some ⟨Bx, 0, none⟩)], .int .i64 (x : Int), undef, undef, undef, undef, undef], defers := [] })
    (fun x _ _ _ _ _ h _ _ => h) ?assign ?body ?done ?stop
  case assign =>
    intro l T pre x W K _ hI _ hK
    gi_wp2
    exact hK _ _ (Still.refl _ _) hI rfl
  case body =>
    rintro l T pre x _ W - - - hTl ⟨v1, go, hb, hr, hx, hbx, hgo, hB⟩ rfl hpl
    obtain ⟨A1, c1, rfl⟩ := hr.form
    rw [iv_len, ni_len] at hr hb
    have hc : W.cell? ⟨w.heap.size, 0, none⟩ = some (.slice A1 pre.length c1) := hb.cell 0
    have Y := Lib.hid (And.intro hb (And.intro hr (And.intro hx (And.intro hbx (And.intro hgo (And.intro hB hTl))))))
    clear hb hr hx hbx hgo hB hTl
    gi_wp2_with (gi_at_builtin; refine wpListIn_append_row _ rfl _ _ 22 rfl 3 i0 (.int .i64 0) 8 Try.underlying22 hi0 hz0 hz1 hz2 rfl go _ (iv (ni pre)) rfl (Y.out.2.1.alloc _) _ [.int .i64 (x : Int)] rfl (Rd.lit W 3 #[.int .i64 (x : Int)] 1 rfl (by omega) (by omega) (by simp [Value.oneCell'])) (by rw [iv_len, ni_len]; simp only [maxLen]; simp; omega) (by rw [iv_len, ni_len]; simp; omega) ?_; intro A' c' w1 g' hrow' hgr hg'; have hc1 : w1.cell? ⟨w.heap.size, 0, none⟩ = some (.slice A1 pre.length c1) := ((Y.out.1.alloc _).keep (hgr.block _ (Y.out.1.alloc _).lt (Ne.symm (Y.out.2.1.ne_ Y.out.1 (by decide))))).cell 0; have hf1 : w1.frozen? ⟨w.heap.size, 0, none⟩ = false := ((Y.out.1.alloc _).keep (hgr.block _ (Y.out.1.alloc _).lt (Ne.symm (Y.out.2.1.ne_ Y.out.1 (by decide))))).frozen 0; rw [iv_len, ni_len] at hrow' ⊢; have Z := Lib.hid (And.intro hrow' (And.intro hgr hg')); clear hrow' hgr hg')
    obtain ⟨hb, hr, hx, hbx, hgo, hB, hTl⟩ := Y.out
    obtain ⟨hrow', hgr, hg'⟩ := Z.out
    exact Gather.step hb hr hx hbx hgo hB hTl hrow' hgr hg'
  case done =>
    rintro D T ys W hD hTD rfl ⟨v1, go, hb, hr, hx, hbx, hgo, hB⟩ hK
    obtain ⟨A1, c1, rfl⟩ := hr.form
    rw [iv_len] at hr hb
    have hc : W.cell? ⟨w.heap.size, 0, none⟩ = some (.slice A1 (ni ys).length c1) := hb.cell 0
    have Y := Lib.hid (And.intro hr (And.intro hgo (And.intro hB hTD)))
    have hsz := X.out.2.1
    clear hb hr hx hbx hgo hB hTD
    gi_wp2
    refine ⟨by simp, .inl ⟨_, _, rfl, run_takeDeferred hK, ?_⟩⟩
    obtain ⟨hr, hgo, hB, hTD⟩ := Y.out
    refine ⟨_, results_tmp rfl _ _ _, A1, c1, go, rfl, hr.keep (fun b e => World.putObj_heap_other (fun e' => (hgo b e).1 (e' ▸ hTD))), fun b e => (hgo b e).2, hB.trans (belowK_b (w := w) (Nat.le_refl _) W D _ _ (by omega) hK rfl rfl)⟩
  case stop =>
    rintro D c T pre W _ _ _ h _
    exact h.elim
end Go.Proofs.Ytigapfgfbdofoaa
