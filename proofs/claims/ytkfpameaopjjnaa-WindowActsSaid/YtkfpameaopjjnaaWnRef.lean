/-
  The document's window: its number, its bytes, how many came; Put, Cut, Set and trim on it.
  Conditions: numbers up to 1048576, at most 4194304 bytes at a time.
-/
import Derived.Test.YtkfpameaopjjnaaWnMath
import Derived.Test.YtkfpameaopjjnaaSep
import Derived.Test.YtkfpameaopjjnaaRdT
import Derived.Test.YtkfpameaopjjnaaRet
import Derived.Test.YtkfpameaopjjnaaCut
import Derived.Test.YtkfpameaopjjnaaUptoLast
import Derived.Test.YtkfpameaopjjnaaAppRun
import Derived.Deep.QuietTactic
import Derived.BigQuiet
import Derived.WalkKit
import Derived.Deep.DeepCutAuto
import Derived.Deep.CutBlock
namespace Go.Proofs.Ytkfpameaopjjnaa
open Go.RowKit

/-- The document's window in block q: its number, its bytes (no bound on how many yet), how many came. -/
structure RefP (q : Nat) (most : Nat) (l : List Nat) (tot : Nat) (F : Nat → Prop) (W : World) : Prop where
  ok : ∃ A c, Blk W q 32 #[.int .i64 (most : Nat), .slice A l.length c, .int .i64 (tot : Nat)] ∧ RdT (fun b => F b ∧ b ≠ q) W (.slice A l.length c) (bv l)
  own : F q
  lt : ∀ b, F b → b < W.heap.size
abbrev RefT (q : Nat) (most : Nat) (l : List Nat) (tot : Nat) : Thing := RefP q most l tot
theorem ref_framed (q most : Nat) (l : List Nat) (tot : Nat) : Framed (RefT q most l tot) := by
  constructor
  · rintro F S w w' ⟨⟨A, c, h1, h2⟩, h3, h4⟩ ho hd
    exact ⟨⟨A, c, h1.only ho (hd q h3), h2.still (Still.of_only ho fun b _ hb => hd b hb.1)⟩, h3, fun b hb => Nat.lt_of_lt_of_le (h4 b hb) ho.size⟩
  · intro F w h; exact h.lt
section
variable {q most tot : Nat} {l : List Nat} {F : Nat → Prop} {W W' : World}
theorem RefP.below (h : RefP q most l tot F W) (hb : Below W.heap.size W W') : RefP q most l tot F W' := (ref_framed q most l tot).only h (Only.of_below hb (Nat.le_refl _) (fun _ => False)) fun _ _ e => e
/-- A store into one of its cells. -/
theorem RefP.set_ (h : RefP q most l tot F W) (i : Nat) (u : Value) {most' tot' : Nat} {l' : List Nat} {G : Nat → Prop} (hG : ∀ b, G b → b = q ∨ F b)
    (k : ∀ A c, W.heap[q]? = some (.cells #[.int .i64 (most : Nat), .slice A l.length c, .int .i64 (tot : Nat)] 32 (0, 0)) → RdT (fun b => F b ∧ b ≠ q) W (.slice A l.length c) (bv l) → ∃ A' c', (#[.int .i64 (most : Nat), .slice A l.length c, .int .i64 (tot : Nat)] : Array Value).setIfInBounds i u = #[.int .i64 (most' : Nat), .slice A' l'.length c', .int .i64 (tot' : Nat)] ∧ RdT (fun b => (b = q ∨ F b) ∧ b ≠ q) W (.slice A' l'.length c') (bv l')) :
    Turned (RefT q most' l' tot') F W (W.setCell ⟨q, i, none⟩ u) := by
  obtain ⟨⟨A, c, h1, h2⟩, h3, h4⟩ := h
  obtain ⟨A', c', e, hr⟩ := k A c h1 h2
  have hb := h1.set_ i u
  rw [e] at hb
  refine ⟨F, ⟨⟨A', c', hb, ?_⟩, h3, fun b hb => by simpa [World.setCell] using h4 b hb⟩, (Only.refl F W).setCell (p := ⟨q, i, none⟩) (.inl h3) u, fun b hb => .inl hb⟩
  refine (hr.still (w' := W.setCell ⟨q, i, none⟩ u) ⟨by simp [World.setCell], fun b hb _ => Below.heap_setCell W ⟨q, i, none⟩ u b hb.2⟩).mono fun b hb => ⟨?_, hb.2⟩
  rcases hb.1 with rfl | hb
  · exact h3
  · exact hb
theorem RefP.cells (h : RefP q most l tot F W) : ∃ A c, (∀ V, Below W.heap.size W V → V.cell? ⟨q, 0, none⟩ = some (.int .i64 (most : Nat)) ∧ V.cell? ⟨q, 1, none⟩ = some (.slice A l.length c) ∧ V.cell? ⟨q, 2, none⟩ = some (.int .i64 (tot : Nat)) ∧ V.frozen? ⟨q, 0, none⟩ = false ∧ V.frozen? ⟨q, 1, none⟩ = false ∧ V.frozen? ⟨q, 2, none⟩ = false) ∧ Rd W (.slice A l.length c) (bv l) := by
  obtain ⟨⟨A, c, h1, h2⟩, h3, h4⟩ := h
  refine ⟨A, c, fun V hV => ?_, h2.1⟩
  have hb := h1.below hV h1.lt
  exact ⟨hb.cell 0, hb.cell 1, hb.cell 2, hb.frozen 0, hb.frozen 1, hb.frozen 2⟩
end
/-- b[a:], under one name; where it lies. -/
theorem run_from_in {T : Nat → Prop} {w : World} {A : Option Addr} {n c a : Nat} {bs : List Nat} (h : RdT T w (.slice A n c) (bv bs)) (ha : a ≤ n) :
    ∃ A' c', (∀ W, (Instr.slice 30 (.slice A n c) (some (.int .i64 (a : Int))) none none).run Try.prog W = .ok (.slice A' (bs.drop a).length c') W) ∧ RdT T w (.slice A' (bs.drop a).length c') (bv (bs.drop a)) := by
  have hn := h.1.bytes
  have hd := h.1.drop ha
  rw [show (bv bs).drop a = bv (bs.drop a) by simp [bv]] at hd
  have hN : (bs.drop a).length = n - a := by rw [List.length_drop]; omega
  rw [hN]
  refine ⟨_, _, fun W => ?_, hd, fun b o n' c' e hp => ?_⟩
  · obtain ⟨i0, hi0, hz0, hz1, hz2⟩ := info_parts byte_info
    have hs : (sizeOf (Try.prog.elem 30)).run Try.prog W = .ok 1 W := by
      rw [show Try.prog.elem 30 = 5 by kernel_rfl]
      simp [sizeOf, typeInfo, hi0, hz1]
    rw [run_slice_l W 30 A n c (by kernel_rfl) .i64 (a : Int) (by omega) (by omega), hs]
    simp only [Result.andThen, Int.toNat_natCast, sliced, Nat.mul_one]
  · injection e with e1 _ _
    rw [bv_len, hN] at hp
    have hpb : 0 < (bv bs).length := by rw [bv_len]; omega
    obtain ⟨A2, c2, e2, _, _, hr⟩ := h.1
    injection e2 with e3 _ _
    obtain ⟨b2, o2, rfl, _⟩ := hr hpb
    subst e3
    have hb := h.2 b2 o2 _ _ rfl hpb
    split at e1
    · injection e1 with e1; injection e1 with e1; rw [← e1]; exact hb
    · simp only [Option.map_some, add_eq] at e1
      injection e1 with e1; injection e1 with e1; rw [← e1]; exact hb

/-- What turned in two steps. -/
theorem Turned.comp {Q : Thing} {F G : Nat → Prop} {w w1 w2 : World} (h1 : Only F w w1) (hG : ∀ b, G b → F b ∨ w.heap.size ≤ b) (h2 : Turned Q G w1 w2) : Turned Q F w w2 := by
  obtain ⟨G2, hq, ho, hG2⟩ := h2
  have hs := h1.size
  refine ⟨G2, hq, h1.trans ho (fun i hi hb => (hG i hb).resolve_right (by omega)), fun b hb => ?_⟩
  rcases hG2 b hb with k | k
  · exact hG b k
  · exact .inr (by omega)
/-- Either of two may come up. -/
theorem wpUpto.two {P : Program} {ops : Array Oper} {Q : Exit → Act → World → Prop} {md : Region.Mode} {S : World → Prop} {m : Nat} (i j : Nat) {n : Nat} {l : Array Bool} {a : Act} {w : World} (hr : Region.ready md ops l = [i, j])
    (h1 : ∀ o, ops[i]? = some o → ∀ K : Act → World → Prop, Shut (∀ a w, S w → (S w → wpUpto P md ops Q S m n (l.setIfInBounds i true) a w) → K a w) → if Region.wanted o (yielded ops a.tmps) = true then Oper.wp P o a w K Q else K (a.put o.dst undef) w)
    (h2 : ∀ o, ops[j]? = some o → ∀ K : Act → World → Prop, Shut (∀ a w, S w → (S w → wpUpto P md ops Q S m n (l.setIfInBounds j true) a w) → K a w) → if Region.wanted o (yielded ops a.tmps) = true then Oper.wp P o a w K Q else K (a.put o.dst undef) w) :
    wpUpto P md ops Q S m (n + 1) l a w := by
  refine ⟨fun h0 => absurd (hr ▸ h0) (by simp), fun k hk => ?_⟩
  obtain ⟨_, o, ho, _⟩ := mem_ready.1 hk
  rw [hr] at hk
  simp only [List.mem_cons, List.not_mem_nil, or_false] at hk
  rcases hk with rfl | rfl
  · exact wpOp_step ho fun K hK => h1 o ho K (fun a w hS hx => hK a w ⟨fun _ => hS, hx hS⟩)
  · exact wpOp_step ho fun K hK => h2 o ho K (fun a w hS hx => hK a w ⟨fun _ => hS, hx hS⟩)

/-- append([]byte{}, b...), wherever it comes. -/
theorem step_app0 {ops : Array Oper} {o : Oper} {a : Act} {K : Act → World → Prop} {Q : Exit → Act → World → Prop} {E : Prop} (V : World) (hgd : o.guard = none) (s x : Operand)
    (ho : o.op = .call { callee := .builtin .append, args := #[s, x], argTypes := #[30, 30] }) (A0 : Option Addr) (hs : a.eval s = .slice A0 0 0) (A : Option Addr) (c : Nat) (l : List Nat) (hx : a.eval x = .slice A l.length c) (hrd : Rd V (.slice A l.length c) (bv l)) (hl : l.length ≤ 8388608)
    (h : ∀ A' c' w' g', Row w' 5 g' (.slice A' l.length c') (bv l) → Below V.heap.size V w' → (∀ b, g' = some b → V.heap.size ≤ b) → K (a.put o.dst (.slice A' l.length c')) w') :
    if Region.wanted o (yielded ops a.tmps) = true then Oper.wp Try.prog o a V K Q else E := by
  obtain ⟨i0, hi0, hz0, hz1, hz2⟩ := info_parts byte_info
  refine step_append_row V hgd s x 30 ho 5 i0 _ 1 Try.underlying30 hi0 hz0 hz1 hz2 rfl none _ [] hs (Row.empty V _ A0) _ (bv l) hx hrd (by rw [bv_len]; simp only [maxLen, List.length_nil]; omega) (by rw [bv_len]; simp only [List.length_nil]; omega) ?_
  intro A' c' w' g' hr hg hg'
  simp only [List.length_nil, Nat.zero_add, List.nil_append, bv_len] at hr ⊢
  refine h A' c' w' g' hr ((Below.refl _ V).grown hg (Nat.le_refl _) fun k e => by cases e) fun b e => ?_
  rcases hg' with e2 | e2
  · rw [e2] at e; cases e
  · rw [e2] at e; cases e; exact Nat.le_refl _
/-- append(b, x), wherever it comes. -/
theorem step_app1 {ops : Array Oper} {o : Oper} {a : Act} {K : Act → World → Prop} {Q : Exit → Act → World → Prop} {E : Prop} (V : World) (hgd : o.guard = none) (s x : Operand)
    (ho : o.op = .call { callee := .builtin .append, args := #[s, x], argTypes := #[30, 30] }) (A : Option Addr) (c : Nat) (l : List Nat) (g : Option Nat) (hs : a.eval s = .slice A l.length c) (hrow : Row V 5 g (.slice A l.length c) (bv l)) (B : Value) (d : Nat) (hx : a.eval x = B) (hrd : Rd V B [.int .u8 (d : Nat)]) (hl : l.length ≤ 8388608)
    (h : ∀ A' c' w' g', Row w' 5 g' (.slice A' (l.length + 1) c') (bv (l ++ [d])) → V.grownBy w' g → (g' = g ∨ g' = some V.heap.size) → K (a.put o.dst (.slice A' (l.length + 1) c')) w') :
    if Region.wanted o (yielded ops a.tmps) = true then Oper.wp Try.prog o a V K Q else E := by
  obtain ⟨i0, hi0, hz0, hz1, hz2⟩ := info_parts byte_info
  refine step_append_row V hgd s x 30 ho 5 i0 _ 1 Try.underlying30 hi0 hz0 hz1 hz2 rfl g _ (bv l) hs hrow _ [.int .u8 (d : Nat)] hx hrd (by rw [bv_len]; simp only [maxLen, List.length_singleton]; omega) (by rw [bv_len]; simp only [List.length_singleton]; omega) ?_
  intro A' c' w' g' hr hg hg'
  simp only [bv_len, List.length_singleton] at hr ⊢
  exact h A' c' w' g' (by rw [bv_append]; exact hr) hg hg'
theorem Rd.oneV (W : World) (u : Value) (e : TypeId) (h : u.oneCell' = true) : Rd (W.alloc (.cells #[u] e)) (.slice (some ⟨W.heap.size, 0, none⟩) 1 1) [u] := (Row.new W e #[u] 1 rfl (by simp only [maxLen]; omega) (by omega) (by simpa using h)).rd
theorem fresh_step {W V : World} {g g' : Option Nat} (h : ∀ b, g = some b → W.heap.size ≤ b) (hs : W.heap.size ≤ V.heap.size) (h4 : g' = g ∨ g' = some V.heap.size) : ∀ b, g' = some b → W.heap.size ≤ b := by
  intro b e
  rcases h4 with e2 | e2
  · exact h b (by rw [← e2, e])
  · rw [e2] at e; cases e; exact hs
/-- New bytes with one more, told to the window. -/
theorem RefP.put1 {q most tot n : Nat} {l l' : List Nat} {F : Nat → Prop} {W V : World} {g : Option Nat} {A : Option Addr} {c : Nat} (h : RefP q most l tot F W) (hn : n = l'.length) (hb : Below W.heap.size W V) (hr : Row V 5 g (.slice A n c) (bv l')) (hg : ∀ b, g = some b → W.heap.size ≤ b) :
    Turned (RefT q most l' tot) F W (V.setCell ⟨q, 1, none⟩ (.slice A n c)) := by
  subst hn
  obtain ⟨⟨A0, c0, h1, h2⟩, h3, h4⟩ := h
  have hq := h4 q h3
  have hbl := (h1.below hb h1.lt).set_ 1 (.slice A l'.length c)
  refine ⟨fun b => b = q ∨ g = some b, ⟨⟨A, c, hbl, ?_, ?_⟩, .inl rfl, ?_⟩, ?_, ?_⟩
  · exact (hr.far (p := ⟨q, 1, none⟩) (fun e => by have := hg q e; omega) _).rd
  · intro b o n' c' e hp
    obtain ⟨A2, c2, e2, _, _, _, hgg⟩ := hr
    rw [bv_len] at hp
    injection e with e1 _ _
    rcases hgg with ⟨hz, _⟩ | ⟨b2, o2, cs, _, e3, e4, _⟩
    · injection e2 with _ _ e5
      have hle : (bv l').length ≤ c2 := by assumption
      rw [bv_len] at hle
      omega
    · injection e2 with e5 _ _
      rw [e5, e4] at e1
      injection e1 with e1
      injection e1 with e1 _
      subst e1
      exact ⟨.inr e3, fun e => by have := hg b2 e3; omega⟩
  · rintro b (rfl | hb2)
    · simpa [World.setCell] using Nat.lt_of_lt_of_le hq hb.size
    · simpa [World.setCell] using hr.lt hb2
  · exact (Only.of_below hb (Nat.le_refl _) F).setCell (p := ⟨q, 1, none⟩) (.inl h3) _
  · rintro b (rfl | hb2)
    · exact .inl h3
    · exact .inr (hg b hb2)

set_option maxRecDepth 100000 in
set_option maxHeartbeats 1000000 in
theorem trim_is {q most tot : Nat} {l : List Nat} {F : Nat → Prop} {w : World} (h : RefP q most l tot F w) (hm : most ≤ 1048576) (hl : l.length ≤ 8388608) :
    Calls Try.prog 24 #[.pointer (some ⟨q, 0, none⟩)] w fun e w' => e = .returned (.tuple #[]) ∧ Turned (RefT q most (lastS most l) tot) F w w' := by
  obtain ⟨A, c, hc, hr⟩ := h.cells
  obtain ⟨c0, c1, _, f0, f1, _⟩ := hc w (Below.refl _ w)
  have HC := Lib.hid hc
  have HH := Lib.hid h
  have HR := Lib.hid hr
  clear h hr hc
  by_cases hlt : most < l.length
  · have q1 : decide ((most : Int) < (l.length : Int)) = true := decide_eq_true (by omega)
    go_enter Try.func24, Try.ntmps24
    go_wp2_with fail
    go_quiet (fail)
    have HT1 := Lib.hid ((Turned.refl HH.out).keep (ref_framed q most l tot) (show Below w.heap.size w (w.drewN nq) from ⟨rfl, rfl, rfl, Nat.le_refl _, fun _ _ => rfl⟩))
    have HH1 := Lib.hid (HH.out.below (show Below w.heap.size w (w.drewN nq) from ⟨rfl, rfl, rfl, Nat.le_refl _, fun _ _ => rfl⟩))
    have HSZ : Hid (Only F w (w.drewN nq)) := Lib.hid ((Only.refl F w).drewN nq)
    generalize World.drewN w _ = w1 at *
    clear HC HH c0 c1 f0 f1
    obtain ⟨⟨A1, k1, hb1, hr1⟩, ho1, hl1⟩ := HH1.out
    obtain ⟨A2, k2, hrun, hr2⟩ := run_from_in hr1 (a := l.length - most) (by omega)
    have c0 : w1.drew.cell? ⟨q, 0, none⟩ = some (.int .i64 (most : Nat)) := hb1.cell 0
    have c1 : w1.drew.cell? ⟨q, 1, none⟩ = some (.slice A1 l.length k1) := hb1.cell 1
    have f1 : w1.drew.frozen? ⟨q, 1, none⟩ = false := hb1.frozen 1
    have e1 : (l.length : Int) - (most : Int) = ((l.length - most : Nat) : Int) := by omega
    have hbig : l.length - most ≤ 8388608 := by omega
    have HT2 : Hid (Turned (RefT q most (lastS most l) tot) F w (w1.drew.setCell ⟨q, 1, none⟩ (.slice A2 (l.drop (l.length - most)).length k2))) := Lib.hid (by
      have hR : RefP q most l tot F w1.drew := HH1.out.below ⟨rfl, rfl, rfl, Nat.le_refl _, fun _ _ => rfl⟩
      have ht := hR.set_ 1 (.slice A2 (l.drop (l.length - most)).length k2) (most' := most) (tot' := tot) (l' := lastS most l) (G := F) (fun b hb => .inr hb) (fun A c hq hr => ⟨A2, k2, rfl, ?_⟩)
      · obtain ⟨F', hp, ho, hF⟩ := ht
        refine ⟨F', hp, (HSZ.out.drew.trans ho fun i _ hi => hi), fun b hb => ?_⟩
        rcases hF b hb with k | k
        · exact .inl k
        · exact .inr (Nat.le_trans HSZ.out.size k)
      · exact RdT.mono hr2 fun b hb => ⟨.inr hb.1, hb.2⟩)
    clear HH1 HT1 hb1 hr1 hl1 ho1 hr2
    generalize (l.drop (l.length - most)).length = N at *
    generalize l.length - most = K at *
    have hwK : IntKind.i64.wrap (K : Int) = (K : Int) := by unfold IntKind.wrap; simp [IntKind.bits, IntKind.signed]; omega
    go_wp2_with fail
    refine wp_region_noPanic ?_
    refine wp_region_upto (fun W => W.cell? ⟨q, 0, none⟩ = some (.int .i64 (most : Nat)) ∧ W.cell? ⟨q, 1, none⟩ = some (.slice A1 l.length k1)) 18 (by kernel_rfl) ?_ (fun hHeld => ?_)
    · exact ⟨c0, c1⟩
    refine wpUpto.take 0 (by kernel_rfl) (by kernel_rfl) (by kernel_rfl) (by kernel_rfl) (by assumption) ?_
    intro o ho
    simp only [List.getElem?_toArray, List.getElem?_cons_zero, Option.some.injEq] at ho
    subst ho
    refine ⟨?_, fun _ _ _ h => h, Or.inl ⟨by rfl, ?_⟩, ?_⟩
    rotate_left
    · intro w hSw
      go_simp
      try with_reducible rfl
    simp only [Act.put, List.setIfInBounds_toArray, List.set_cons_zero, List.set_cons_succ]
    refine wpUpto.take 1 (by kernel_rfl) (by kernel_rfl) (by kernel_rfl) (by kernel_rfl) (by assumption) ?_
    intro o ho
    simp only [List.getElem?_toArray, List.getElem?_cons_succ, List.getElem?_cons_zero, Option.some.injEq] at ho
    subst ho
    refine ⟨?_, fun _ _ _ h => h, Or.inl ⟨by rfl, ?_⟩, ?_⟩
    rotate_left
    · intro w hSw
      go_simp
      try with_reducible rfl
    simp only [Act.put, List.setIfInBounds_toArray, List.set_cons_zero, List.set_cons_succ]
    refine wpUpto.take 2 (by kernel_rfl) (by kernel_rfl) (by kernel_rfl) (by kernel_rfl) (by assumption) ?_
    intro o ho
    simp only [List.getElem?_toArray, List.getElem?_cons_succ, List.getElem?_cons_zero, Option.some.injEq] at ho
    subst ho
    refine ⟨?_, fun _ _ _ h => h, Or.inl ⟨by rfl, ?_⟩, ?_⟩
    rotate_left
    · intro w hSw
      go_simp
      try with_reducible rfl
    simp only [Act.put, List.setIfInBounds_toArray, List.set_cons_zero, List.set_cons_succ]
    refine wpUpto.take 3 (by kernel_rfl) (by kernel_rfl) (by kernel_rfl) (by kernel_rfl) (by assumption) ?_
    intro o ho
    simp only [List.getElem?_toArray, List.getElem?_cons_succ, List.getElem?_cons_zero, Option.some.injEq] at ho
    subst ho
    refine ⟨?_, fun _ _ _ h => h, Or.inl ⟨by rfl, ?_⟩, ?_⟩
    rotate_left
    · intro w hSw
      go_simp
      try with_reducible rfl
    simp only [Act.put, List.setIfInBounds_toArray, List.set_cons_zero, List.set_cons_succ]
    refine wpUpto.take 4 (by kernel_rfl) (by kernel_rfl) (by kernel_rfl) (by kernel_rfl) (by assumption) ?_
    intro o ho
    simp only [List.getElem?_toArray, List.getElem?_cons_succ, List.getElem?_cons_zero, Option.some.injEq] at ho
    subst ho
    refine ⟨?_, fun _ _ _ h => h, Or.inl ⟨by rfl, ?_⟩, ?_⟩
    rotate_left
    · intro w hSw
      go_simp
      try with_reducible rfl
    simp only [Act.put, List.setIfInBounds_toArray, List.set_cons_zero, List.set_cons_succ]
    refine wpUpto.take 5 (by kernel_rfl) (by kernel_rfl) (by kernel_rfl) (by kernel_rfl) (by assumption) ?_
    intro o ho
    simp only [List.getElem?_toArray, List.getElem?_cons_succ, List.getElem?_cons_zero, Option.some.injEq] at ho
    subst ho
    refine ⟨?_, fun _ _ _ h => h, Or.inl ⟨by rfl, ?_⟩, ?_⟩
    rotate_left
    · intro w hSw
      go_simp
      try with_reducible rfl
    simp only [Act.put, List.setIfInBounds_toArray, List.set_cons_zero, List.set_cons_succ]
    refine wpUpto.take 6 (by kernel_rfl) (by kernel_rfl) (by kernel_rfl) (by kernel_rfl) (by assumption) ?_
    intro o ho
    simp only [List.getElem?_toArray, List.getElem?_cons_succ, List.getElem?_cons_zero, Option.some.injEq] at ho
    subst ho
    refine ⟨?_, fun _ _ _ h => h, Or.inl ⟨by rfl, ?_⟩, ?_⟩
    rotate_left
    · intro w hSw
      go_simp
      try with_reducible rfl
    simp only [Act.put, List.setIfInBounds_toArray, List.set_cons_zero, List.set_cons_succ]
    refine wpUpto.take 7 (by kernel_rfl) (by kernel_rfl) (by kernel_rfl) (by kernel_rfl) (by assumption) ?_
    intro o ho
    simp only [List.getElem?_toArray, List.getElem?_cons_succ, List.getElem?_cons_zero, Option.some.injEq] at ho
    subst ho
    refine ⟨?_, fun _ _ _ h => h, Or.inl ⟨by rfl, ?_⟩, ?_⟩
    rotate_left
    · intro w hSw
      go_simp
      try with_reducible rfl
    simp only [Act.put, List.setIfInBounds_toArray, List.set_cons_zero, List.set_cons_succ]
    refine wpUpto.take 8 (by kernel_rfl) (by kernel_rfl) (by kernel_rfl) (by kernel_rfl) (by assumption) ?_
    intro o ho
    simp only [List.getElem?_toArray, List.getElem?_cons_succ, List.getElem?_cons_zero, Option.some.injEq] at ho
    subst ho
    refine ⟨?_, fun _ _ _ h => h, Or.inl ⟨by rfl, ?_⟩, ?_⟩
    rotate_left
    · intro w hSw
      go_simp
      try with_reducible rfl
    simp only [Act.put, List.setIfInBounds_toArray, List.set_cons_zero, List.set_cons_succ]
    refine wpUpto.take 9 (by kernel_rfl) (by kernel_rfl) (by kernel_rfl) (by kernel_rfl) (by assumption) ?_
    intro o ho
    simp only [List.getElem?_toArray, List.getElem?_cons_succ, List.getElem?_cons_zero, Option.some.injEq] at ho
    subst ho
    refine ⟨?_, fun _ _ _ h => h, Or.inl ⟨by rfl, ?_⟩, ?_⟩
    rotate_left
    · intro w hSw
      go_simp
      try with_reducible rfl
    simp only [Act.put, List.setIfInBounds_toArray, List.set_cons_zero, List.set_cons_succ]
    refine wpUpto.take 10 (by kernel_rfl) (by kernel_rfl) (by kernel_rfl) (by kernel_rfl) (by assumption) ?_
    intro o ho
    simp only [List.getElem?_toArray, List.getElem?_cons_succ, List.getElem?_cons_zero, Option.some.injEq] at ho
    subst ho
    refine ⟨?_, fun _ _ _ h => h, Or.inl ⟨by rfl, ?_⟩, ?_⟩
    rotate_left
    · intro w hSw
      go_simp
      try with_reducible rfl
    simp only [Act.put, List.setIfInBounds_toArray, List.set_cons_zero, List.set_cons_succ]
    refine wpUpto.take 11 (by kernel_rfl) (by kernel_rfl) (by kernel_rfl) (by kernel_rfl) (by assumption) ?_
    intro o ho
    simp only [List.getElem?_toArray, List.getElem?_cons_succ, List.getElem?_cons_zero, Option.some.injEq] at ho
    subst ho
    refine ⟨?_, fun _ _ _ h => h, Or.inl ⟨by rfl, ?_⟩, ?_⟩
    rotate_left
    · intro w hSw
      go_simp
      try with_reducible rfl
    simp only [Act.put, List.setIfInBounds_toArray, List.set_cons_zero, List.set_cons_succ]
    refine wpUpto.take 12 (by kernel_rfl) (by kernel_rfl) (by kernel_rfl) (by kernel_rfl) (by assumption) ?_
    intro o ho
    simp only [List.getElem?_toArray, List.getElem?_cons_succ, List.getElem?_cons_zero, Option.some.injEq] at ho
    subst ho
    refine ⟨?_, fun _ _ _ h => h, Or.inl ⟨by rfl, ?_⟩, ?_⟩
    rotate_left
    · intro w hSw
      go_simp
      try with_reducible rfl
    simp only [Act.put, List.setIfInBounds_toArray, List.set_cons_zero, List.set_cons_succ]
    refine wpUpto.take 13 (by kernel_rfl) (by kernel_rfl) (by kernel_rfl) (by kernel_rfl) (by assumption) ?_
    intro o ho
    simp only [List.getElem?_toArray, List.getElem?_cons_succ, List.getElem?_cons_zero, Option.some.injEq] at ho
    subst ho
    refine ⟨?_, fun _ _ _ h => h, Or.inl ⟨by rfl, ?_⟩, ?_⟩
    rotate_left
    · intro w hSw
      go_simp
      try with_reducible rfl
    simp only [Act.put, List.setIfInBounds_toArray, List.set_cons_zero, List.set_cons_succ]
    refine wpUpto.take 14 (by kernel_rfl) (by kernel_rfl) (by kernel_rfl) (by kernel_rfl) (by assumption) ?_
    intro o ho
    simp only [List.getElem?_toArray, List.getElem?_cons_succ, List.getElem?_cons_zero, Option.some.injEq] at ho
    subst ho
    refine ⟨?_, fun _ _ _ h => h, Or.inl ⟨by rfl, ?_⟩, ?_⟩
    rotate_left
    · intro w hSw
      go_simp
      try with_reducible rfl
    simp only [Act.put, List.setIfInBounds_toArray, List.set_cons_zero, List.set_cons_succ]
    refine wpUpto.take 15 (by kernel_rfl) (by kernel_rfl) (by kernel_rfl) (by kernel_rfl) (by assumption) ?_
    intro o ho
    simp only [List.getElem?_toArray, List.getElem?_cons_succ, List.getElem?_cons_zero, Option.some.injEq] at ho
    subst ho
    refine ⟨?_, fun _ _ _ h => h, Or.inl ⟨by rfl, ?_⟩, ?_⟩
    rotate_left
    · intro w hSw
      go_simp
      try with_reducible rfl
    simp only [Act.put, List.setIfInBounds_toArray, List.set_cons_zero, List.set_cons_succ]
    refine wpUpto.one 16 (by kernel_rfl) ?_
    intro o ho K hK
    simp only [List.getElem?_toArray, List.getElem?_cons_succ, List.getElem?_cons_zero, Option.some.injEq] at ho
    subst ho
    go_simp
    refine hK.out _ _ ?_ (fun hHeld => ?_)
    · exact hHeld
    clear hK K
    try simp only [Act.put, List.setIfInBounds_toArray, List.set_cons_zero, List.set_cons_succ]
    refine wpUpto.one 17 (by kernel_rfl) ?_
    intro o ho K hK
    simp only [List.getElem?_toArray, List.getElem?_cons_succ, List.getElem?_cons_zero, Option.some.injEq] at ho
    subst ho
    go_simp
    refine hK.out _ _ ?_ (fun hHeld => ?_)
    · exact hHeld
    clear hK K
    try simp only [Act.put, List.setIfInBounds_toArray, List.set_cons_zero, List.set_cons_succ]
    refine wpUpto.last (by kernel_rfl) ?_
    intro o ho K hK
    simp only [List.getElem?_toArray, List.getElem?_cons_succ, List.getElem?_cons_zero, Option.some.injEq] at ho
    subst ho
    go_simp
    refine hK.out _ _ ?_
    clear hK K
    refine wpUpto.done (by kernel_rfl) ?_ _
    refine NoPanic.normal ?_
    try simp only [Act.put, List.setIfInBounds_toArray, List.set_cons_zero, List.set_cons_succ]
    go_wp2_with fail
    go_end0
    exact ⟨rfl, HT2.out⟩
  · have q1 : decide ((most : Int) < (l.length : Int)) = false := decide_eq_false (by omega)
    have hlast := last_all (n := most) (l := l) (by omega)
    rw [hlast]
    go_enter Try.func24, Try.ntmps24
    go_wp2_with fail
    go_quiet (fail)
    go_wp2_with fail
    go_end0
    exact ⟨rfl, (Turned.refl HH.out).keep (ref_framed q most l tot) ⟨rfl, rfl, rfl, Nat.le_refl _, fun _ _ => rfl⟩⟩

set_option maxRecDepth 100000 in
set_option maxHeartbeats 4000000 in
/-- One byte: the append and the store. -/
theorem RPut_is {q most tot : Nat} {l m : List Nat} {F : Nat → Prop} {w : World} {A0 : Option Addr} {c0 : Nat} (h : RefP q most l tot F w) (hlm : l.length ≤ most) (hm : most ≤ 1048576) (hn : m.length ≤ 4194304) (ht : tot ≤ 4611686018427387904) (hb : ∀ d ∈ m, d < 256) (hr : RdT (fun b => ¬ F b) w (.slice A0 m.length c0) (bv m)) :
    Calls Try.prog 13 #[.pointer (some ⟨q, 0, none⟩), .slice A0 m.length c0] w fun e w' => e = .returned (.tuple #[]) ∧ Turned (RefT q most (lastS most (l ++ m)) (tot + m.length)) F w w' := by
  have HH := Lib.hid h
  have HB := Lib.hid hb
  have HM := Lib.hid hr.bound
  have HLM := Lib.hid hlm
  clear h hb hr
  go_enter Try.func13, Try.ntmps13
  go_wp2_with fail
  go_loopw [4] (fun v wr => ∃ i : Nat, i ≤ m.length ∧ v = .int .i64 (i : Nat) ∧ Hid (Turned (RefT q most (lastS most (l ++ m.take i)) (tot + i)) F w wr)) (fun v _ => m.length - (intOf v).toNat)
  case atStart => exact ⟨0, by omega, rfl, Lib.hid (by rw [List.take_zero, List.append_nil, last_all HLM.out]; exact Turned.refl HH.out)⟩
  case round =>
    obtain ⟨i, hi, rfl, HT⟩ := hrel
    by_cases hlt : i < m.length
    · obtain ⟨G, hp, ho, hG⟩ := HT.out
      have HO := Lib.hid (And.intro ho hG)
      have HP := Lib.hid hp
      have hrd := HM.out.still (Still.of_only ho fun b hb1 hb2 hb3 => hb2.1 hb3)
      obtain ⟨bb, oo, x, rfl, cx, hx⟩ := hrd.1.byteAt hlt
      have HRD := Lib.hid hrd.1
      obtain ⟨A1, c1, hcl, hr1⟩ := hp.cells
      have hll := last_len most (l ++ m.take i)
      have hx6 := HB.out x (List.mem_of_getElem? hx)
      have HX : Hid (m.take (i + 1) = m.take i ++ [x]) := Lib.hid (by rw [List.take_add_one, hx]; rfl)
      have hll2 : (lastS most (l ++ m.take i)).length ≤ 1048576 := by omega
      have kS : ∀ V, Below wr.heap.size wr V → V.cell? ⟨q, 1, none⟩ = some (.slice A1 (lastS most (l ++ m.take i)).length c1) ∧ V.cell? ⟨bb, oo + i, none⟩ = some (.int .u8 (x : Nat)) := fun V hV => ⟨(hcl V hV).2.1, (hV.cell (p := ⟨bb, oo + i, none⟩) (World.block_lt_of_cell? wr _ cx)).trans cx⟩
      have HK := Lib.hid kS
      have HC := Lib.hid hcl
      have HR1 := Lib.hid hr1
      obtain ⟨f0, f1, f2⟩ := (hcl _ (Below.refl _ wr)).2.2.2
      obtain ⟨L, hL⟩ : ∃ L, L = lastS most (l ++ m.take i) := ⟨_, rfl⟩
      obtain ⟨T, hT⟩ : ∃ T, T = tot + i := ⟨_, rfl⟩
      have hTb : T ≤ 4611686018431582208 := by omega
      have HTE := Lib.hid hT
      rw [← hT] at HP
      clear hT
      have HLE := Lib.hid hL
      rw [← hL] at HP HK HR1 HC hll2
      clear ho hG hp hrd cx hx hcl hr1 hll kS HT f0 f1 f2
      clear hL
      have hD : Below wr.heap.size wr wr.drew := ⟨rfl, rfl, rfl, Nat.le_refl _, fun _ _ => rfl⟩
      have hD1 : ∀ o, Below wr.heap.size wr (wr.drew.alloc o) := fun o => hD.alloc (Nat.le_refl _) o
      have hD2 : ∀ o o', Below wr.heap.size wr ((wr.drew.alloc o).alloc o') := fun o o' => (hD1 o).alloc (by simp) o'
      have HD := Lib.hid (And.intro hD (And.intro hD1 hD2))
      have HLB : Hid (Rd ((wr.drew.alloc (.cells #[] 5)).alloc (.cells #[.int .u8 (x : Int)] 5)) (.slice (some ⟨wr.heap.size + 1, 0, none⟩) 1 1) [.int .u8 (x : Nat)]) := Lib.hid (by
        have := Rd.oneV (wr.drew.alloc (.cells #[] 5)) (.int .u8 (x : Int)) 5 rfl
        rwa [World.size_alloc] at this)
      have HLC : Hid (Rd ((wr.drew.alloc (.cells #[.int .u8 (x : Int)] 5)).alloc (.cells #[] 5)) (.slice (some ⟨wr.heap.size, 0, none⟩) 1 1) [.int .u8 (x : Nat)]) := Lib.hid ((Rd.oneV wr.drew (.int .u8 (x : Int)) 5 rfl).alloc _)
      clear hD hD1 hD2
      go_wp2_with fail
      refine wp_region_noPanic ?_
      refine wp_region_upto (fun V => V.cell? ⟨q, 1, none⟩ = some (.slice A1 L.length c1) ∧ V.cell? ⟨bb, oo + i, none⟩ = some (.int .u8 (x : Nat))) 15 (by kernel_rfl) ?_ (fun hHeld => ?_)
      · exact HK.out _ HD.out.1
      refine wpUpto.take 0 (by kernel_rfl) (by kernel_rfl) (by kernel_rfl) (by kernel_rfl) (by assumption) ?_
      intro o ho
      simp only [List.getElem?_toArray, List.getElem?_cons_zero, Option.some.injEq] at ho
      subst ho
      refine ⟨?_, fun _ _ _ h => h, Or.inl ⟨by rfl, ?_⟩, ?_⟩
      rotate_left
      · intro w hSw
        go_simp
        try with_reducible rfl
      simp only [Act.put, List.setIfInBounds_toArray, List.set_cons_zero, List.set_cons_succ]
      refine wpUpto.take 2 (by kernel_rfl) (by kernel_rfl) (by kernel_rfl) (by kernel_rfl) (by assumption) ?_
      intro o ho
      simp only [List.getElem?_toArray, List.getElem?_cons_succ, List.getElem?_cons_zero, Option.some.injEq] at ho
      subst ho
      refine ⟨?_, fun _ _ _ h => h, Or.inl ⟨by rfl, ?_⟩, ?_⟩
      rotate_left
      · intro w hSw
        go_simp
        try with_reducible rfl
      simp only [Act.put, List.setIfInBounds_toArray, List.set_cons_zero, List.set_cons_succ]
      refine wpUpto.take 3 (by kernel_rfl) (by kernel_rfl) (by kernel_rfl) (by kernel_rfl) (by assumption) ?_
      intro o ho
      simp only [List.getElem?_toArray, List.getElem?_cons_succ, List.getElem?_cons_zero, Option.some.injEq] at ho
      subst ho
      refine ⟨?_, fun _ _ _ h => h, Or.inl ⟨by rfl, ?_⟩, ?_⟩
      rotate_left
      · intro w hSw
        go_simp
        try with_reducible rfl
      simp only [Act.put, List.setIfInBounds_toArray, List.set_cons_zero, List.set_cons_succ]
      refine wpUpto.take 4 (by kernel_rfl) (by kernel_rfl) (by kernel_rfl) (by kernel_rfl) (by assumption) ?_
      intro o ho
      simp only [List.getElem?_toArray, List.getElem?_cons_succ, List.getElem?_cons_zero, Option.some.injEq] at ho
      subst ho
      refine ⟨?_, fun _ _ _ h => h, Or.inl ⟨by rfl, ?_⟩, ?_⟩
      rotate_left
      · intro w hSw
        go_simp
        try with_reducible rfl
      simp only [Act.put, List.setIfInBounds_toArray, List.set_cons_zero, List.set_cons_succ]
      refine wpUpto.take 5 (by kernel_rfl) (by kernel_rfl) (by kernel_rfl) (by kernel_rfl) (by assumption) ?_
      intro o ho
      simp only [List.getElem?_toArray, List.getElem?_cons_succ, List.getElem?_cons_zero, Option.some.injEq] at ho
      subst ho
      refine ⟨?_, fun _ _ _ h => h, Or.inl ⟨by rfl, ?_⟩, ?_⟩
      rotate_left
      · intro w hSw
        go_simp
        try with_reducible rfl
      simp only [Act.put, List.setIfInBounds_toArray, List.set_cons_zero, List.set_cons_succ]
      refine wpUpto.take 7 (by kernel_rfl) (by kernel_rfl) (by kernel_rfl) (by kernel_rfl) (by assumption) ?_
      intro o ho
      simp only [List.getElem?_toArray, List.getElem?_cons_succ, List.getElem?_cons_zero, Option.some.injEq] at ho
      subst ho
      refine ⟨?_, fun _ _ _ h => h, Or.inl ⟨by rfl, ?_⟩, ?_⟩
      rotate_left
      · intro w hSw
        go_simp
        try with_reducible rfl
      simp only [Act.put, List.setIfInBounds_toArray, List.set_cons_zero, List.set_cons_succ]
      refine wpUpto.take 8 (by kernel_rfl) (by kernel_rfl) (by kernel_rfl) (by kernel_rfl) (by assumption) ?_
      intro o ho
      simp only [List.getElem?_toArray, List.getElem?_cons_succ, List.getElem?_cons_zero, Option.some.injEq] at ho
      subst ho
      refine ⟨?_, fun _ _ _ h => h, Or.inl ⟨by rfl, ?_⟩, ?_⟩
      rotate_left
      · intro w hSw
        go_simp
        try with_reducible rfl
      simp only [Act.put, List.setIfInBounds_toArray, List.set_cons_zero, List.set_cons_succ]
      refine wpUpto.take 9 (by kernel_rfl) (by kernel_rfl) (by kernel_rfl) (by kernel_rfl) (by assumption) ?_
      intro o ho
      simp only [List.getElem?_toArray, List.getElem?_cons_succ, List.getElem?_cons_zero, Option.some.injEq] at ho
      subst ho
      refine ⟨?_, fun _ _ _ h => h, Or.inl ⟨by rfl, ?_⟩, ?_⟩
      rotate_left
      · intro w hSw
        go_simp
        try with_reducible rfl
      simp only [Act.put, List.setIfInBounds_toArray, List.set_cons_zero, List.set_cons_succ]
      refine wpUpto.take 10 (by kernel_rfl) (by kernel_rfl) (by kernel_rfl) (by kernel_rfl) (by assumption) ?_
      intro o ho
      simp only [List.getElem?_toArray, List.getElem?_cons_succ, List.getElem?_cons_zero, Option.some.injEq] at ho
      subst ho
      refine ⟨?_, fun _ _ _ h => h, Or.inl ⟨by rfl, ?_⟩, ?_⟩
      rotate_left
      · intro w hSw
        go_simp
        try with_reducible rfl
      simp only [Act.put, List.setIfInBounds_toArray, List.set_cons_zero, List.set_cons_succ]
      refine wpUpto.two 1 11 (by kernel_rfl) ?_ ?_
      · intro o ho K hK
        simp only [List.getElem?_toArray, List.getElem?_cons_succ, List.getElem?_cons_zero, Option.some.injEq] at ho
        subst ho
        go_simp
        refine hK.out _ _ ?_ (fun hHeld => ?_)
        · exact HK.out _ (HD.out.2.1 _)
        clear hK K
        try simp only [Act.put, List.setIfInBounds_toArray, List.set_cons_zero, List.set_cons_succ]
        refine wpUpto.two 6 11 (by kernel_rfl) ?_ ?_
        · intro o ho K hK
          simp only [List.getElem?_toArray, List.getElem?_cons_succ, List.getElem?_cons_zero, Option.some.injEq] at ho
          subst ho
          refine step_app0 (wr.drew.alloc (.cells #[] 5)) rfl (.tmp 12) (.tmp 16) rfl _ rfl A1 c1 L rfl (HR1.out.kept (HD.out.2.1 _)) (by omega) ?_; intro A2 c2 w2 g2 hr2 hb2 hg2; have Y := Lib.hid (And.intro hr2 (And.intro (Below.trans (HD.out.2.1 _) (hb2.mono (Below.size (HD.out.2.1 _)))) (And.intro (fun b e => Nat.le_trans (Below.size (HD.out.2.1 _)) (hg2 b e)) hb2))); clear hr2 hb2 hg2
          refine hK.out _ _ ?_ (fun hHeld => ?_)
          · exact HK.out _ Y.out.2.1
          clear hK K
          try simp only [Act.put, List.setIfInBounds_toArray, List.set_cons_zero, List.set_cons_succ]
          refine wpUpto.one 11 (by kernel_rfl) ?_
          intro o ho K hK
          simp only [List.getElem?_toArray, List.getElem?_cons_succ, List.getElem?_cons_zero, Option.some.injEq] at ho
          subst ho
          go_simp
          refine hK.out _ _ ?_ (fun hHeld => ?_)
          · exact HK.out _ (Y.out.2.1.alloc Y.out.2.1.size _)
          clear hK K
          try simp only [Act.put, List.setIfInBounds_toArray, List.set_cons_zero, List.set_cons_succ]
          refine wpUpto.one 12 (by kernel_rfl) ?_
          intro o ho K hK
          simp only [List.getElem?_toArray, List.getElem?_cons_succ, List.getElem?_cons_zero, Option.some.injEq] at ho
          subst ho
          refine step_app1 (w2.alloc (.cells #[.int .u8 (x : Int)] 5)) rfl (.tmp 17) (.tmp 22) rfl A2 c2 L g2 rfl (Y.out.1.alloc _) _ x rfl (Rd.oneV w2 _ _ rfl) (by omega) ?_; intro A3 c3 w3 g3 hr3 hg3 hg4; have Z := Lib.hid (And.intro hr3 (And.intro (Below.grown (Y.out.2.1.alloc Y.out.2.1.size _) hg3 (Below.size (Y.out.2.1.alloc Y.out.2.1.size _)) Y.out.2.2.1) (fresh_step Y.out.2.2.1 (Below.size (Y.out.2.1.alloc Y.out.2.1.size _)) hg4))); clear hr3 hg3 hg4
          refine hK.out _ _ ?_ (fun hHeld => ?_)
          · exact HK.out _ Z.out.2.1
          clear hK K
          try simp only [Act.put, List.setIfInBounds_toArray, List.set_cons_zero, List.set_cons_succ]
          refine wpUpto.one 13 (by kernel_rfl) ?_
          intro o ho K hK
          simp only [List.getElem?_toArray, List.getElem?_cons_succ, List.getElem?_cons_zero, Option.some.injEq] at ho
          subst ho
          go_simp
          refine hK.out _ _ ?_ (fun hHeld => ?_)
          · exact HK.out _ Z.out.2.1
          clear hK K
          try simp only [Act.put, List.setIfInBounds_toArray, List.set_cons_zero, List.set_cons_succ]
          refine wpUpto.one 14 (by kernel_rfl) ?_
          intro o ho K hK
          simp only [List.getElem?_toArray, List.getElem?_cons_succ, List.getElem?_cons_zero, Option.some.injEq] at ho
          subst ho
          go_simp
          refine hK.out _ _ ?_ (fun hHeld => ?_)
          · exact HK.out _ Z.out.2.1
          clear hK K
          try simp only [Act.put, List.setIfInBounds_toArray, List.set_cons_zero, List.set_cons_succ]
          have fz := (HC.out w3 Z.out.2.1).2.2.2.2.1
          refine wpUpto.last (by kernel_rfl) ?_
          intro o ho K hK
          simp only [List.getElem?_toArray, List.getElem?_cons_succ, List.getElem?_cons_zero, Option.some.injEq] at ho
          subst ho
          go_simp
          refine hK.out _ _ ?_
          clear hK K
          refine wpUpto.done (by kernel_rfl) ?_ _
          refine NoPanic.normal ?_
          try simp only [Act.put, List.setIfInBounds_toArray, List.set_cons_zero, List.set_cons_succ]
          clear fz
          have HQ := Lib.hid (HP.out.put1 (l' := L ++ [x]) (n := L.length + 1) (by simp) Z.out.2.1 Z.out.1 Z.out.2.2)
          generalize World.setCell w3 _ _ = w4 at *
          clear Z Y HD HK HLB HLC hHeld
          obtain ⟨G4, hp4, ho4, hG4⟩ := HQ.out
          obtain ⟨A4, c4, hcl4, -⟩ := hp4.cells
          obtain ⟨-, -, t2, -, -, k2⟩ := hcl4 w4 (Below.refl _ w4)
          have HT4 := Lib.hid (hp4.set_ 2 (.int .i64 ((T : Int) + 1)) (most' := most) (tot' := T + 1) (l' := L ++ [x]) (G := G4) (fun b hb => .inr hb) (fun A c _ hr => ⟨A, c, rfl, hr.mono fun b hb => ⟨.inr hb.1, hb.2⟩⟩))
          have HQ4 : Hid (Turned (RefT q most (L ++ [x]) T) G wr w4 ∧ RefP q most (L ++ [x]) T G4 w4) := Lib.hid ⟨⟨G4, hp4, ho4, hG4⟩, hp4⟩
          have HG4 := Lib.hid (And.intro ho4 hG4)
          clear hp4 ho4 hG4 hcl4 HQ
          go_wp2_with fail
          obtain ⟨G5, hp5, ho5, hG5⟩ := HT4.out
          have HT5 := Lib.hid (trim_is hp5 hm (by rw [List.length_append, List.length_singleton]; omega))
          have HG5 := Lib.hid (And.intro ho5 hG5)
          have HP5 := Lib.hid hp5
          clear hp5 ho5 hG5 HT4
          refine HT5.out.mono ?_
          rintro e w6 ⟨rfl, ht6⟩
          have HT6 : Hid (Turned (RefT q most (lastS most (l ++ m.take (i + 1))) (tot + (i + 1))) F w w6) := Lib.hid (by
            rw [HX.out, ← List.append_assoc, ← last_more, ← HLE.out, ← Nat.add_assoc, ← HTE.out]
            exact Turned.comp HO.out.1 HO.out.2 (Turned.comp HG4.out.1 HG4.out.2 (Turned.comp HG5.out.1 HG5.out.2 ht6)))
          clear ht6
          go_wp2_with fail
          go_roundw
          case rel => exact ⟨i + 1, by omega, by go_num, HT6⟩
          case measure => simp [intOf]; omega
        · intro o ho K hK
          simp only [List.getElem?_toArray, List.getElem?_cons_succ, List.getElem?_cons_zero, Option.some.injEq] at ho
          subst ho
          go_simp
          refine hK.out _ _ ?_ (fun hHeld => ?_)
          · exact HK.out _ (HD.out.2.2 _ _)
          clear hK K
          try simp only [Act.put, List.setIfInBounds_toArray, List.set_cons_zero, List.set_cons_succ]
          refine wpUpto.one 6 (by kernel_rfl) ?_
          intro o ho K hK
          simp only [List.getElem?_toArray, List.getElem?_cons_succ, List.getElem?_cons_zero, Option.some.injEq] at ho
          subst ho
          refine step_app0 ((wr.drew.alloc (.cells #[] 5)).alloc (.cells #[.int .u8 (x : Int)] 5)) rfl (.tmp 12) (.tmp 16) rfl _ rfl A1 c1 L rfl (HR1.out.kept (HD.out.2.2 _ _)) (by omega) ?_; intro A2 c2 w2 g2 hr2 hb2 hg2; have Y := Lib.hid (And.intro hr2 (And.intro (Below.trans (HD.out.2.2 _ _) (hb2.mono (Below.size (HD.out.2.2 _ _)))) (And.intro (fun b e => Nat.le_trans (Below.size (HD.out.2.2 _ _)) (hg2 b e)) hb2))); clear hr2 hb2 hg2
          refine hK.out _ _ ?_ (fun hHeld => ?_)
          · exact HK.out _ Y.out.2.1
          clear hK K
          try simp only [Act.put, List.setIfInBounds_toArray, List.set_cons_zero, List.set_cons_succ]
          refine wpUpto.one 12 (by kernel_rfl) ?_
          intro o ho K hK
          simp only [List.getElem?_toArray, List.getElem?_cons_succ, List.getElem?_cons_zero, Option.some.injEq] at ho
          subst ho
          refine step_app1 (w2) rfl (.tmp 17) (.tmp 22) rfl A2 c2 L g2 rfl (Y.out.1) _ x rfl (HLB.out.kept Y.out.2.2.2) (by omega) ?_; intro A3 c3 w3 g3 hr3 hg3 hg4; have Z := Lib.hid (And.intro hr3 (And.intro (Below.grown (Y.out.2.1) hg3 (Below.size (Y.out.2.1)) Y.out.2.2.1) (fresh_step Y.out.2.2.1 (Below.size (Y.out.2.1)) hg4))); clear hr3 hg3 hg4
          refine hK.out _ _ ?_ (fun hHeld => ?_)
          · exact HK.out _ Z.out.2.1
          clear hK K
          try simp only [Act.put, List.setIfInBounds_toArray, List.set_cons_zero, List.set_cons_succ]
          refine wpUpto.one 13 (by kernel_rfl) ?_
          intro o ho K hK
          simp only [List.getElem?_toArray, List.getElem?_cons_succ, List.getElem?_cons_zero, Option.some.injEq] at ho
          subst ho
          go_simp
          refine hK.out _ _ ?_ (fun hHeld => ?_)
          · exact HK.out _ Z.out.2.1
          clear hK K
          try simp only [Act.put, List.setIfInBounds_toArray, List.set_cons_zero, List.set_cons_succ]
          refine wpUpto.one 14 (by kernel_rfl) ?_
          intro o ho K hK
          simp only [List.getElem?_toArray, List.getElem?_cons_succ, List.getElem?_cons_zero, Option.some.injEq] at ho
          subst ho
          go_simp
          refine hK.out _ _ ?_ (fun hHeld => ?_)
          · exact HK.out _ Z.out.2.1
          clear hK K
          try simp only [Act.put, List.setIfInBounds_toArray, List.set_cons_zero, List.set_cons_succ]
          have fz := (HC.out w3 Z.out.2.1).2.2.2.2.1
          refine wpUpto.last (by kernel_rfl) ?_
          intro o ho K hK
          simp only [List.getElem?_toArray, List.getElem?_cons_succ, List.getElem?_cons_zero, Option.some.injEq] at ho
          subst ho
          go_simp
          refine hK.out _ _ ?_
          clear hK K
          refine wpUpto.done (by kernel_rfl) ?_ _
          refine NoPanic.normal ?_
          try simp only [Act.put, List.setIfInBounds_toArray, List.set_cons_zero, List.set_cons_succ]
          clear fz
          have HQ := Lib.hid (HP.out.put1 (l' := L ++ [x]) (n := L.length + 1) (by simp) Z.out.2.1 Z.out.1 Z.out.2.2)
          generalize World.setCell w3 _ _ = w4 at *
          clear Z Y HD HK HLB HLC hHeld
          obtain ⟨G4, hp4, ho4, hG4⟩ := HQ.out
          obtain ⟨A4, c4, hcl4, -⟩ := hp4.cells
          obtain ⟨-, -, t2, -, -, k2⟩ := hcl4 w4 (Below.refl _ w4)
          have HT4 := Lib.hid (hp4.set_ 2 (.int .i64 ((T : Int) + 1)) (most' := most) (tot' := T + 1) (l' := L ++ [x]) (G := G4) (fun b hb => .inr hb) (fun A c _ hr => ⟨A, c, rfl, hr.mono fun b hb => ⟨.inr hb.1, hb.2⟩⟩))
          have HQ4 : Hid (Turned (RefT q most (L ++ [x]) T) G wr w4 ∧ RefP q most (L ++ [x]) T G4 w4) := Lib.hid ⟨⟨G4, hp4, ho4, hG4⟩, hp4⟩
          have HG4 := Lib.hid (And.intro ho4 hG4)
          clear hp4 ho4 hG4 hcl4 HQ
          go_wp2_with fail
          obtain ⟨G5, hp5, ho5, hG5⟩ := HT4.out
          have HT5 := Lib.hid (trim_is hp5 hm (by rw [List.length_append, List.length_singleton]; omega))
          have HG5 := Lib.hid (And.intro ho5 hG5)
          have HP5 := Lib.hid hp5
          clear hp5 ho5 hG5 HT4
          refine HT5.out.mono ?_
          rintro e w6 ⟨rfl, ht6⟩
          have HT6 : Hid (Turned (RefT q most (lastS most (l ++ m.take (i + 1))) (tot + (i + 1))) F w w6) := Lib.hid (by
            rw [HX.out, ← List.append_assoc, ← last_more, ← HLE.out, ← Nat.add_assoc, ← HTE.out]
            exact Turned.comp HO.out.1 HO.out.2 (Turned.comp HG4.out.1 HG4.out.2 (Turned.comp HG5.out.1 HG5.out.2 ht6)))
          clear ht6
          go_wp2_with fail
          go_roundw
          case rel => exact ⟨i + 1, by omega, by go_num, HT6⟩
          case measure => simp [intOf]; omega
      · intro o ho K hK
        simp only [List.getElem?_toArray, List.getElem?_cons_succ, List.getElem?_cons_zero, Option.some.injEq] at ho
        subst ho
        go_simp
        refine hK.out _ _ ?_ (fun hHeld => ?_)
        · exact HK.out _ (HD.out.2.1 _)
        clear hK K
        try simp only [Act.put, List.setIfInBounds_toArray, List.set_cons_zero, List.set_cons_succ]
        refine wpUpto.one 1 (by kernel_rfl) ?_
        intro o ho K hK
        simp only [List.getElem?_toArray, List.getElem?_cons_succ, List.getElem?_cons_zero, Option.some.injEq] at ho
        subst ho
        go_simp
        refine hK.out _ _ ?_ (fun hHeld => ?_)
        · exact HK.out _ (HD.out.2.2 _ _)
        clear hK K
        try simp only [Act.put, List.setIfInBounds_toArray, List.set_cons_zero, List.set_cons_succ]
        refine wpUpto.one 6 (by kernel_rfl) ?_
        intro o ho K hK
        simp only [List.getElem?_toArray, List.getElem?_cons_succ, List.getElem?_cons_zero, Option.some.injEq] at ho
        subst ho
        refine step_app0 ((wr.drew.alloc (.cells #[.int .u8 (x : Int)] 5)).alloc (.cells #[] 5)) rfl (.tmp 12) (.tmp 16) rfl _ rfl A1 c1 L rfl (HR1.out.kept (HD.out.2.2 _ _)) (by omega) ?_; intro A2 c2 w2 g2 hr2 hb2 hg2; have Y := Lib.hid (And.intro hr2 (And.intro (Below.trans (HD.out.2.2 _ _) (hb2.mono (Below.size (HD.out.2.2 _ _)))) (And.intro (fun b e => Nat.le_trans (Below.size (HD.out.2.2 _ _)) (hg2 b e)) hb2))); clear hr2 hb2 hg2
        refine hK.out _ _ ?_ (fun hHeld => ?_)
        · exact HK.out _ Y.out.2.1
        clear hK K
        try simp only [Act.put, List.setIfInBounds_toArray, List.set_cons_zero, List.set_cons_succ]
        refine wpUpto.one 12 (by kernel_rfl) ?_
        intro o ho K hK
        simp only [List.getElem?_toArray, List.getElem?_cons_succ, List.getElem?_cons_zero, Option.some.injEq] at ho
        subst ho
        refine step_app1 (w2) rfl (.tmp 17) (.tmp 22) rfl A2 c2 L g2 rfl (Y.out.1) _ x rfl (HLC.out.kept Y.out.2.2.2) (by omega) ?_; intro A3 c3 w3 g3 hr3 hg3 hg4; have Z := Lib.hid (And.intro hr3 (And.intro (Below.grown (Y.out.2.1) hg3 (Below.size (Y.out.2.1)) Y.out.2.2.1) (fresh_step Y.out.2.2.1 (Below.size (Y.out.2.1)) hg4))); clear hr3 hg3 hg4
        refine hK.out _ _ ?_ (fun hHeld => ?_)
        · exact HK.out _ Z.out.2.1
        clear hK K
        try simp only [Act.put, List.setIfInBounds_toArray, List.set_cons_zero, List.set_cons_succ]
        refine wpUpto.one 13 (by kernel_rfl) ?_
        intro o ho K hK
        simp only [List.getElem?_toArray, List.getElem?_cons_succ, List.getElem?_cons_zero, Option.some.injEq] at ho
        subst ho
        go_simp
        refine hK.out _ _ ?_ (fun hHeld => ?_)
        · exact HK.out _ Z.out.2.1
        clear hK K
        try simp only [Act.put, List.setIfInBounds_toArray, List.set_cons_zero, List.set_cons_succ]
        refine wpUpto.one 14 (by kernel_rfl) ?_
        intro o ho K hK
        simp only [List.getElem?_toArray, List.getElem?_cons_succ, List.getElem?_cons_zero, Option.some.injEq] at ho
        subst ho
        go_simp
        refine hK.out _ _ ?_ (fun hHeld => ?_)
        · exact HK.out _ Z.out.2.1
        clear hK K
        try simp only [Act.put, List.setIfInBounds_toArray, List.set_cons_zero, List.set_cons_succ]
        have fz := (HC.out w3 Z.out.2.1).2.2.2.2.1
        refine wpUpto.last (by kernel_rfl) ?_
        intro o ho K hK
        simp only [List.getElem?_toArray, List.getElem?_cons_succ, List.getElem?_cons_zero, Option.some.injEq] at ho
        subst ho
        go_simp
        refine hK.out _ _ ?_
        clear hK K
        refine wpUpto.done (by kernel_rfl) ?_ _
        refine NoPanic.normal ?_
        try simp only [Act.put, List.setIfInBounds_toArray, List.set_cons_zero, List.set_cons_succ]
        clear fz
        have HQ := Lib.hid (HP.out.put1 (l' := L ++ [x]) (n := L.length + 1) (by simp) Z.out.2.1 Z.out.1 Z.out.2.2)
        generalize World.setCell w3 _ _ = w4 at *
        clear Z Y HD HK HLB HLC hHeld
        obtain ⟨G4, hp4, ho4, hG4⟩ := HQ.out
        obtain ⟨A4, c4, hcl4, -⟩ := hp4.cells
        obtain ⟨-, -, t2, -, -, k2⟩ := hcl4 w4 (Below.refl _ w4)
        have HT4 := Lib.hid (hp4.set_ 2 (.int .i64 ((T : Int) + 1)) (most' := most) (tot' := T + 1) (l' := L ++ [x]) (G := G4) (fun b hb => .inr hb) (fun A c _ hr => ⟨A, c, rfl, hr.mono fun b hb => ⟨.inr hb.1, hb.2⟩⟩))
        have HQ4 : Hid (Turned (RefT q most (L ++ [x]) T) G wr w4 ∧ RefP q most (L ++ [x]) T G4 w4) := Lib.hid ⟨⟨G4, hp4, ho4, hG4⟩, hp4⟩
        have HG4 := Lib.hid (And.intro ho4 hG4)
        clear hp4 ho4 hG4 hcl4 HQ
        go_wp2_with fail
        obtain ⟨G5, hp5, ho5, hG5⟩ := HT4.out
        have HT5 := Lib.hid (trim_is hp5 hm (by rw [List.length_append, List.length_singleton]; omega))
        have HG5 := Lib.hid (And.intro ho5 hG5)
        have HP5 := Lib.hid hp5
        clear hp5 ho5 hG5 HT4
        refine HT5.out.mono ?_
        rintro e w6 ⟨rfl, ht6⟩
        have HT6 : Hid (Turned (RefT q most (lastS most (l ++ m.take (i + 1))) (tot + (i + 1))) F w w6) := Lib.hid (by
          rw [HX.out, ← List.append_assoc, ← last_more, ← HLE.out, ← Nat.add_assoc, ← HTE.out]
          exact Turned.comp HO.out.1 HO.out.2 (Turned.comp HG4.out.1 HG4.out.2 (Turned.comp HG5.out.1 HG5.out.2 ht6)))
        clear ht6
        go_wp2_with fail
        go_roundw
        case rel => exact ⟨i + 1, by omega, by go_num, HT6⟩
        case measure => simp [intOf]; omega
    · obtain rfl : i = m.length := by omega
      rw [List.take_length] at HT
      go_wp2_with fail
      go_end0
      exact ⟨rfl, HT.out⟩

set_option maxRecDepth 100000 in
set_option maxHeartbeats 1000000 in
theorem RCut_is {q most tot : Nat} {l : List Nat} {F : Nat → Prop} {w : World} (h : RefP q most l tot F w) :
    Calls Try.prog 15 #[.pointer (some ⟨q, 0, none⟩)] w fun e w' => e = .returned (.tuple #[]) ∧ Turned (RefT q most [] 0) F w w' := by
  obtain ⟨A, c, hc, -⟩ := h.cells
  obtain ⟨-, c1, -, -, f1, -⟩ := hc w (Below.refl _ w)
  have ht := h.set_ 1 (.slice none 0 0) (most' := most) (tot' := tot) (l' := []) (G := F) (fun b hb => .inr hb) (fun A c _ hr => ⟨none, 0, rfl, ⟨⟨none, 0, rfl, Nat.le_refl _, by simp [bv], by simp [bv]⟩, fun b o n c e => by cases e⟩⟩)
  have HT := Lib.hid ht
  clear ht hc h
  go_enter Try.func15, Try.ntmps15
  go_upto_region 1 with (fail)
  generalize World.setCell w _ _ = w1 at *
  obtain ⟨G, hp, ho, hG⟩ := HT.out
  obtain ⟨A1, c1, hcl, -⟩ := hp.cells
  obtain ⟨-, -, t2, -, -, k2⟩ := hcl w1 (Below.refl _ w1)
  have HT2 := Lib.hid (Turned.comp ho hG (hp.set_ 2 (.int .i64 0) (most' := most) (tot' := 0) (l' := []) (G := G) (fun b hb => .inr hb) (fun A c _ hr => ⟨A, c, rfl, hr.mono fun b hb => ⟨.inr hb.1, hb.2⟩⟩)))
  clear hcl hp ho hG HT
  go_wp2_with fail
  go_end0
  exact ⟨rfl, HT2.out⟩

set_option maxRecDepth 100000 in
set_option maxHeartbeats 1000000 in
theorem RSet_is {q most n tot : Nat} {l : List Nat} {F : Nat → Prop} {w : World} (h : RefP q most l tot F w) (hn : n ≤ 1048576) (hl : l.length ≤ 8388608) :
    Calls Try.prog 17 #[.pointer (some ⟨q, 0, none⟩), .int .i64 (n : Nat)] w fun e w' => e = .returned (.tuple #[]) ∧ Turned (RefT q n (lastS n l) tot) F w w' := by
  obtain ⟨A, c, hc, -⟩ := h.cells
  obtain ⟨c0, -, -, f0, -, -⟩ := hc w (Below.refl _ w)
  have HT := Lib.hid (h.set_ 0 (.int .i64 (n : Nat)) (most' := n) (tot' := tot) (l' := l) (G := F) (fun b hb => .inr hb) (fun A c _ hr => ⟨A, c, rfl, hr.mono fun b hb => ⟨.inr hb.1, hb.2⟩⟩))
  clear hc h
  go_enter Try.func17, Try.ntmps17
  go_upto_region 1 with (fail)
  generalize World.setCell w _ _ = w1 at *
  obtain ⟨G, hp, ho, hG⟩ := HT.out
  have HTR := Lib.hid (trim_is hp hn hl)
  have HO := Lib.hid (And.intro ho hG)
  clear hp ho hG HT
  go_wp2_with fail
  refine HTR.out.mono ?_
  rintro e w2 ⟨rfl, ht⟩
  have HT2 := Lib.hid (Turned.comp HO.out.1 HO.out.2 ht)
  clear ht
  go_wp2_with fail
  go_end0
  exact ⟨rfl, HT2.out⟩
end Go.Proofs.Ytkfpameaopjjnaa
