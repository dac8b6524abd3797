/-
  The law QuoteJoins: two rows quoted as one are what stands between the quotes of both.
  Conditions: at most 1048576 bytes each.
-/
import Derived.Test.YtfpemegagangeaaQAlive
import Derived.Test.YtfpemegagangeaaAppRun
import Derived.Deep.RegionHeld3
namespace Go.Proofs.Ytfpemegagangeaa
open Go.RowKit

/-- An append under a guard that says yes, by its run's equation. -/
theorem step_append_runG {P : Program} {ops : Array Oper} {o : Oper} {a : Act} {w : World} {K : Act → World → Prop} {Q : Exit → Act → World → Prop} {E : Prop} (hw : Region.wanted o (yielded ops a.tmps) = true) (s x : Operand) (t : TypeId)
    (ho : o.op = .call { callee := .builtin .append, args := #[s, x], argTypes := #[t, t] }) (v xv v' : Value) (w' : World) (hs : a.eval s = v) (hx : a.eval x = xv) (hrun : (Builtin.append_ #[t, t] o.type #[v, xv]).run P w = .ok v' w') (h : K (a.put o.dst v') w') :
    if Region.wanted o (yielded ops a.tmps) = true then Oper.wp P o a w K Q else E := by
  rw [if_pos hw]
  unfold Oper.wp execOp
  simp only [ho, resolve, invoke, builtin, Sem.run_bind, Sem.run_pure, Result.andThen_ok, List.map_toArray, List.map_cons, List.map_nil, hs, hx, hrun]
  exact h
theorem str_from (l : List Nat) (k n : Nat) (hn : l.length ≤ n) : (str l).extract k n = str (l.drop k) := by
  apply ba_ext
  rw [ByteArray.data_extract, Array.toList_extract]
  unfold str
  rw [strOfNums_data, strOfNums_data]
  rw [List.extract_eq_take_drop, List.take_of_length_le (by simp; omega)]
  simp [List.map_drop]
/-- append(append([]byte{}, a...), b...), as two equations. -/
theorem joined_b {V : World} {A B : Option Addr} {ca cb : Nat} {a b : List Nat} (ha : Rd V (.slice A a.length ca) (bv a)) (hb : Rd V (.slice B b.length cb) (bv b)) (hn : a.length + b.length ≤ 4194304) :
    ∃ A5 c5 w5 A7 c7 w7, (Builtin.append_ #[22, 22] 22 #[.slice (some ⟨V.heap.size, 0, none⟩) 0 0, .slice A a.length ca]).run Try.prog (V.alloc (.cells #[] 5)) = .ok (.slice A5 a.length c5) w5 ∧
      (Builtin.append_ #[22, 22] 22 #[.slice A5 a.length c5, .slice B b.length cb]).run Try.prog w5 = .ok (.slice A7 (a.length + b.length) c7) w7 ∧
      Below V.heap.size V w7 ∧ Rd w7 (.slice A7 (a.length + b.length) c7) (bv (a ++ b)) := by
  obtain ⟨i0, hi0, hz0, hz1, hz2⟩ := info_parts byte_info
  have hbd : Below V.heap.size V (V.alloc (.cells #[] 5)) := (Below.refl V.heap.size V).alloc (Nat.le_refl _) _
  obtain ⟨v5, w5, g5, hrun5, hr5, hg5, hg5'⟩ := run_append_row (P := Try.prog) (V.alloc (.cells #[] 5)) 22 22 22 5 i0 _ 1 Try.underlying22 hi0 hz0 hz1 hz2 rfl (Row.empty _ _ (some ⟨V.heap.size, 0, none⟩)) _ a.length (bv a) (by have := (ha.kept hbd).src (P := Try.prog) Try.underlying22; rwa [bv_len] at this) (by simp only [maxLen]; simp; omega) (by simp; omega)
  obtain ⟨A5, c5, rfl⟩ := hr5.form
  rw [List.nil_append] at hr5 hrun5
  rw [bv_len] at hr5 hrun5
  have hb5 : Below V.heap.size V w5 := hbd.grown hg5 (by simp) (by simp)
  have hf5 : ∀ k, g5 = some k → V.heap.size ≤ k := by
    intro k e
    rcases hg5' with e' | e'
    · rw [e'] at e; cases e
    · rw [e] at e'; simp at e'; omega
  obtain ⟨v7, w7, g7, hrun7, hr7, hg7, hg7'⟩ := run_append_row (P := Try.prog) w5 22 22 22 5 i0 _ 1 Try.underlying22 hi0 hz0 hz1 hz2 rfl hr5 _ b.length (bv b) (by have := (hb.kept hb5).src (P := Try.prog) Try.underlying22; rwa [bv_len] at this) (by simp only [maxLen]; rw [bv_len]; omega) (by rw [bv_len]; omega)
  obtain ⟨A7, c7, rfl⟩ := hr7.form
  have hl : (bv a ++ bv b).length = a.length + b.length := by rw [List.length_append, bv_len, bv_len]
  rw [hl] at hr7 hrun7
  refine ⟨A5, c5, w5, A7, c7, w7, hrun5, hrun7, hb5.grown hg7 hb5.size hf5, ?_⟩
  rw [bv_append]
  exact hr7.rd

set_option maxRecDepth 100000 in
set_option maxHeartbeats 4000000 in
theorem joins_true (A : Option Addr) (n c : Nat) (a : List Nat) (B : Option Addr) (m d : Nat) (b : List Nat) (w : World) (ha : Rd w (.slice A n c) (bv a)) (hb : Rd w (.slice B m d) (bv b)) (qa : ∀ x ∈ a, x < 256) (qb : ∀ x ∈ b, x < 256) (na : a.length ≤ 1048576) (nb : b.length ≤ 1048576) :
    Calls Try.prog 6 #[.slice A n c, .slice B m d] w fun e w' => e = .returned (.bool true) ∧ Below w.heap.size w w' := by
  obtain rfl := ha.bytes
  obtain rfl := hb.bytes
  have HA := Lib.hid (And.intro ha hb)
  have HQA := Lib.hid (Quote_is A a.length c a w ha qa (by omega))
  have HQB : Hid (∀ W, Below w.heap.size w W → Calls Try.prog 14 #[.slice B b.length d] W (QuoTo W b)) := Lib.hid fun W hW => Quote_is B b.length d b W (hb.kept hW) qb (by omega)
  have HQJ : Hid (∀ W A' c', Rd W (.slice A' (a.length + b.length) c') (bv (a ++ b)) → Calls Try.prog 14 #[.slice A' (a.length + b.length) c'] W (QuoTo W (a ++ b))) := Lib.hid fun W A' c' hr => Quote_is A' _ c' (a ++ b) W hr (fun x hx => (List.mem_append.1 hx).elim (qa x) (qb x)) (by rw [List.length_append]; omega)
  have HJ := Lib.hid (quote_join a b)
  have la := quoteL_len a
  have lb := quoteL_len b
  have fa := (flat_len a).2
  have fb := (flat_len b).2
  have sa := str_len (quoteL a)
  have sb := str_len (quoteL b)
  have x1 := str_take (quoteL a) ((quoteL a).length - 1)
  have x2 := str_from (quoteL b) 1 (quoteL b).length (Nat.le_refl _)
  have x3 := str_app ((quoteL a).take ((quoteL a).length - 1)) ((quoteL b).drop 1)
  have l1 : (str ((quoteL a).take ((quoteL a).length - 1))).size + (str ((quoteL b).drop 1)).size ≤ 9223372036854775807 := by rw [str_len, str_len, List.length_take, List.length_drop]; omega
  rw [← HJ.out] at x3
  clear ha hb qa qb
  unfold QuoTo at HQA HQB HQJ
  generalize hza : (quoteL a).length = za at *
  generalize hzb : (quoteL b).length = zb at *
  generalize str ((quoteL a).take (za - 1)) = u1 at *
  generalize str ((quoteL b).drop 1) = u2 at *
  generalize str (quoteL (a ++ b)) = s3 at *
  generalize str (quoteL a) = s1 at *
  generalize str (quoteL b) = s2 at *
  have a1 : 2 ≤ za := by omega
  have a2 : za ≤ 4194306 := by omega
  have b1 : 2 ≤ zb := by omega
  have b2 : zb ≤ 4194306 := by omega
  clear hza hzb la lb fa fb
  have l2 : (9223372036854775807 < u1.size + u2.size) = False := eq_false (by omega)
  have p1 : IntKind.i64.wrap ((za : Int) - 1) = (za : Int) - 1 := by rw [IntKind.wrap_i64]; omega
  have hsl1 : ∀ W, (Instr.slice 9 (.string s1) none (some (.int .i64 ((za : Int) - 1))) none).run Try.prog W = .ok (.string u1) W := fun W => by
    rw [run_slice_string_h (P := Try.prog) W 9 s1 Try.underlying9 .i64 ((za : Int) - 1) (by omega) (by omega), show ((za : Int) - 1).toNat = za - 1 by omega, x1]
  have hsl2 : ∀ W, (Instr.slice 9 (.string s2) (some (.int .i64 1)) none none).run Try.prog W = .ok (.string u2) W := fun W => by
    rw [run_slice_string_l (P := Try.prog) W 9 s2 Try.underlying9 .i64 1 (by omega) (by omega)]
    rw [show (1 : Int).toNat = 1 from rfl, sb, x2]
  clear x1 x2
  have q1 : decide ((za : Int) < 2) = false := decide_eq_false (by omega)
  have q2 : decide ((zb : Int) < 2) = false := decide_eq_false (by omega)
  go_enter Try.func6, Try.ntmps6
  go_wp2_with fail
  refine HQA.out.mono ?_
  rintro e w1 ⟨rfl, hb1⟩
  have X1 := Lib.hid hb1
  clear hb1 HQA
  go_wp2_with fail
  refine (HQB.out w1 X1.out).mono ?_
  rintro e w2 ⟨rfl, hb2⟩
  have X2 := Lib.hid (X1.out.trans (hb2.mono X1.out.size))
  clear hb2 HQB X1
  go_wp2_with fail
  go_region_held3 (fun _ => Hid True) (exact trivial) (first
    | (go_at_call 9; (with_reducible refine (alive_true w2.drew).mono ?_); rintro e w3 ⟨rfl, hb3⟩; have hb23 : Below w2.heap.size w2 w3 := ((Below.refl w2.heap.size w2).drew).trans hb3; have X3 := Lib.hid (X2.out.trans (hb23.mono X2.out.size)); clear hb3 hb23; obtain ⟨A5, c5, w5, A7, c7, w7, hrun5, hrun7, hb7, hr7⟩ := joined_b (HA.out.1.kept X3.out) (HA.out.2.kept X3.out) (by omega); have X7 := Lib.hid (And.intro (X3.out.trans (hb7.mono X3.out.size)) hr7); clear hb7 hr7)
    | (go_at_call 14; (with_reducible refine (HQJ.out w7 A7 c7 X7.out.2).mono ?_); rintro e w8 ⟨rfl, hb8⟩; have X8 := Lib.hid (X7.out.1.trans (hb8.mono X7.out.1.size)); clear hb8)
    | (refine step_append_runG rfl (.tmp 21) (.tmp 22) 22 rfl (.slice (some ⟨w3.heap.size, 0, none⟩) 0 0) (.slice A a.length c) (.slice A5 a.length c5) w5 rfl rfl ?hh ?_; (case hh => with_reducible exact hrun5))
    | (refine step_append_runG rfl (.tmp 23) (.tmp 24) 22 rfl (.slice A5 a.length c5) (.slice B b.length d) (.slice A7 (a.length + b.length) c7) w7 rfl rfl ?hh ?_; (case hh => with_reducible exact hrun7)))
  go_wp2
  go_ret
  exact ⟨rfl, X8.out⟩
end Go.Proofs.Ytfpemegagangeaa
