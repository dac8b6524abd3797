/-
  cuecardref09: Pieces and Factors.
  Conditions: at most 1048576 bytes and texts; the number is one at least.
-/
import Derived.Test.YtialecghpekcnaaTLRef
import Derived.Test.YtialecghpekcnaaTLList
namespace Go.Proofs.Ytialecghpekcnaa
open Go.RowKit

/-- What hands out rows of the call's own. -/
def ListsTo (w : World) (ll : List (List Nat)) (e : Ending) (w' : World) : Prop := ∃ A c, e = .returned (.slice A ll.length c) ∧ ListsI w (.slice A ll.length c) ll w'
theorem chunks_go {m f : Nat} {u : List Nat} (h : m < u.length) (hf : u.length ≤ f) : ∃ f', chunks m f u = u.take m :: chunks m f' (u.drop m) ∧ (1 ≤ m → (u.drop m).length ≤ f') := by
  cases f with
  | zero => omega
  | succ f => exact ⟨f, by simp [chunks, h], fun h1 => by rw [List.length_drop]; omega⟩
theorem chunks_end {m f : Nat} {u : List Nat} (h : ¬ m < u.length) : chunks m f u = [u] := by
  cases f with
  | zero => rfl
  | succ f => simp [chunks, h]

theorem pieces_len (t : List Nat) {m : Nat} (hm : 1 ≤ m) : (pieces t m).length ≤ t.length := by
  unfold pieces
  split
  · simp
  · next h0 =>
    have ht : 0 < t.length := by
      rcases Nat.eq_zero_or_pos t.length with h | h
      · unfold shortest at h0; rw [h] at h0; exact absurd rfl h0
      · exact h
    split
    · simp; omega
    · have : ∀ (f : Nat) (u : List Nat), 0 < u.length → (chunks m f u).length ≤ u.length := by
        intro f
        induction f with
        | zero => intro u hu; simp [chunks]; omega
        | succ f ih =>
          intro u hu
          unfold chunks
          split
          · next h =>
            have := ih (u.drop m) (by rw [List.length_drop]; omega)
            rw [List.length_drop] at this
            rw [List.length_cons]; omega
          · simp; omega
      exact this _ t ht

theorem chunks_mem {m : Nat} : ∀ (f : Nat) (u : List Nat), ∀ q ∈ chunks m f u, ∀ b ∈ q, b ∈ u
  | 0, u, q, hq, b, hb => by
    simp only [chunks, List.mem_singleton] at hq
    exact hq ▸ hb
  | f + 1, u, q, hq, b, hb => by
    unfold chunks at hq
    split at hq
    · rcases List.mem_cons.1 hq with e | e
      · exact List.mem_of_mem_take (e ▸ hb)
      · exact List.mem_of_mem_drop (chunks_mem f _ q e b hb)
    · exact (List.mem_singleton.1 hq) ▸ hb
theorem pieces_mem {t : List Nat} {m : Nat} : ∀ q ∈ pieces t m, ∀ b ∈ q, b ∈ t := by
  intro q hq b hb
  unfold pieces at hq
  split at hq
  · cases hq
  · split at hq
    · rw [List.mem_singleton.1 hq] at hb
      exact List.mem_of_mem_drop hb
    · exact chunks_mem _ _ q hq b hb

/-- A slice's length. -/
def lenOf : Value → Nat
  | .slice _ n _ => n
  | _ => 0
/-- Between two rounds: what is told, what is left. -/
def Cutting (w : World) (t : List Nat) (m : Nat) (v v6 : Value) (L : List (List Nat)) (u : List Nat) (W : World) : Prop :=
  Rd w v (bv u) ∧ ListsI w v6 L W ∧ (∀ b ∈ u, b ∈ t) ∧ ∃ f, u.length ≤ f ∧ chunks m t.length t = L ++ chunks m f u

theorem Cutting.form {w W : World} {t u : List Nat} {m : Nat} {v v6 : Value} {L : List (List Nat)} (h : Cutting w t m v v6 L u W) : ∃ A n c, v = .slice A n c := by
  obtain ⟨⟨A, c, e, _⟩, _⟩ := h
  exact ⟨A, _, c, e⟩

set_option maxRecDepth 100000 in
set_option maxHeartbeats 2000000 in
theorem RPieces_is (A : Option Addr) (n c : Nat) (t : List Nat) (m : Nat) (hn : n ≤ 1048576) (hm : 1 ≤ m) (hm2 : m ≤ 4294967296) (w : World) (ht : Rd w (.slice A n c) (bv t)) (hbt : ∀ b ∈ t, b < 256) :
    Calls Try.prog 13 #[.slice A n c, .int .i64 (m : Int)] w (ListsTo w (pieces t m)) := by
  obtain ⟨i0, hi0, hz0, hz1, hz2⟩ := info_parts list_info
  have hnl := ht.bytes
  have HS := Lib.hid (RShortest_is A n c t hn w ht hbt)
  have HT := Lib.hid ht
  have HNL := Lib.hid hnl
  have HSL : Hid (0 < t.length → 1 ≤ shortest t ∧ shortest t ≤ t.length) := Lib.hid fun h => ⟨(shortest_is h).1, (shortest_is h).2.1⟩
  have HS0 : Hid (t.length = 0 → shortest t = 0) := Lib.hid fun h => by unfold shortest; rw [h]; rfl
  have HP : Hid (pieces t m = if shortest t = 0 then [] else if shortest t ≤ m then [tail t (shortest t)] else chunks m t.length t) := Lib.hid rfl
  clear ht hnl hbt
  by_cases h0 : t.length = 0
  · have h1 := HS0.out h0
    rw [h1] at HP HS
    rw [if_pos rfl] at HP
    go_enter Try.func13, Try.ntmps13
    go_wp2_with fail
    refine HS.out.mono ?_
    rintro e w1 ⟨rfl, nd, rfl⟩
    go_wp2
    go_ret
    refine ⟨none, 0, ?_, ?_⟩ <;> rw [HP.out]
    · rfl
    · exact (ListsI.nil w).drewN nd
  · obtain ⟨h1, h2⟩ := HSL.out (by omega)
    rw [if_neg (by omega)] at HP
    have HTL : Hid (tail t (shortest t) = t.drop (n - shortest t)) := Lib.hid (by rw [HNL.out]; rfl)
    generalize shortest t = s at *
    have q0 : ((s : Int) == 0) = false := beq_eq_false_iff_ne.2 (by omega)
    by_cases hsm : s ≤ m
    · rw [if_pos hsm] at HP
      have q1 : decide (s ≤ m) = true := by simpa using hsm
      obtain ⟨A1, c1, N1, hs1, hr1, hN1⟩ := run_from HT.out (show n - s ≤ n by omega)
      obtain rfl : N1 = s := by have := HNL.out; omega
      rw [show ((n - N1 : Nat) : Int) = (n : Int) - (N1 : Int) by have := HNL.out; omega] at hs1
      rw [← HTL.out] at hr1
      have HR := Lib.hid hr1
      have HL1 := Lib.hid HR.out.bytes
      have hnN : N1 ≤ n := by have := HNL.out; omega
      clear hr1
      go_enter Try.func13, Try.ntmps13
      go_wp2_with fail
      refine HS.out.mono ?_
      rintro e w1 ⟨rfl, nd, rfl⟩
      have Z := Lib.hid (And.intro HT.out HR.out)
      go_wp2_with (at_builtin; refine wpList_append_row _ rfl (.tmp 15) (.tmp 22) _ rfl 22 i0 _ 24 Try.underlying23 hi0 hz0 hz1 hz2 rfl none _ [] rfl (Row.nil _ _) _ [.slice A1 N1 c1] rfl (Rd.one _ 22 (.slice A1 N1 c1) rfl) (by simp only [maxLen, List.length_nil, List.length_singleton]; omega) (by simp only [List.length_nil, List.length_singleton]; omega) ?_; intro B' d' w7 gn hrow' hgr hgn; have Y := Lib.hid (And.intro hrow' (And.intro hgr hgn)); clear hrow' hgr hgn; simp only [List.length_nil, List.length_singleton, Nat.zero_add])
      go_ret
      obtain ⟨y1, y2, y3⟩ := Y.out
      rw [HP.out]
      refine ⟨B', d', rfl, ?_⟩
      have hr2 : Rd w (.slice A1 (tail t N1).length c1) (bv (tail t N1)) := by rw [← HL1.out]; exact HR.out
      rw [HL1.out] at y1
      have hb : Below w.heap.size w ((w.drewN nd).alloc (.cells #[.slice A1 N1 c1] 22)) := (show Below w.heap.size w (w.drewN nd) from ⟨rfl, rfl, rfl, Nat.le_refl _, fun _ _ => rfl⟩).alloc (Nat.le_refl _) _
      have := ListsI.grown (w0 := w) (ll := []) (vs := []) (go := none) (fun b e => by cases e) hb trivial (ListsI.old (fun b e => by cases e) hb hr2) y1 y2 y3
      simpa using this
    · rw [if_neg hsm] at HP
      have q1 : decide (s ≤ m) = false := by simpa using hsm
      have ht0 : 0 < t.length := by omega
      clear HTL HSL HS0 h0
      go_enter Try.func13, Try.ntmps13
      go_wp2_with fail
      refine HS.out.mono ?_
      rintro e w1 ⟨rfl, nd, rfl⟩
      have H0 : Hid (Cutting w t m (.slice A n c) (.slice none 0 0) [] t (w.drewN nd)) := Lib.hid ⟨HT.out, (ListsI.nil w).drewN nd, fun b hb => hb, t.length, Nat.le_refl _, rfl⟩
      have hul0 : t.length ≤ 1048576 := by have := HNL.out; omega
      go_wp2
      go_loopw [0, 6] (fun v0 v6 wr => ∃ L u, u.length ≤ 1048576 ∧ L.length + u.length ≤ 1048576 ∧ 0 < u.length ∧ Hid (Cutting w t m v0 v6 L u wr)) (fun v0 _ _ => lenOf v0)
      case atStart => exact ⟨[], t, hul0, by simpa using hul0, ht0, H0⟩
      case round =>
        obtain ⟨L, u, hul, hLu, hu0, HC⟩ := hrel
        obtain ⟨A0, n0, c0, rfl⟩ := HC.out.form
        obtain ⟨A6, c6, rfl⟩ := HC.out.2.1.form
        have hn0 := HC.out.1.bytes
        by_cases hlt : m < n0
        · obtain ⟨A1, hs1, hr1⟩ := run_upto HC.out.1 (show m ≤ n0 by omega)
          obtain ⟨A2, c2, N2, hs2, hr2, hN2⟩ := run_from HC.out.1 (show m ≤ n0 by omega)
          obtain ⟨f, hf, he⟩ := HC.out.2.2.2
          obtain ⟨f', hc1, hc2⟩ := chunks_go (m := m) (f := f) (u := u) (by omega) hf
          have hl1 := hr1.bytes
          have HX : Hid (∀ v6 W, ListsI w v6 (L ++ [u.take m]) W → Cutting w t m (.slice A2 N2 c2) v6 (L ++ [u.take m]) (u.drop m) W) := Lib.hid fun v6 W h => ⟨hr2, h, fun b hb => HC.out.2.2.1 b (List.mem_of_mem_drop hb), f', hc2 hm, by rw [he, hc1, List.append_assoc]; rfl⟩
          obtain ⟨go, vs, hrow, hg, hb, heach⟩ := HC.out.2.1
          have hvs := heach.len
          have X := Lib.hid (And.intro hrow (And.intro hg (And.intro hb heach)))
          have HE := Lib.hid (And.intro hr1 (And.intro hl1 hvs))
          have hul2 : (u.drop m).length = N2 := by rw [List.length_drop]; omega
          have hul3 : (u.take m).length = m := hl1.symm
          have HN0 := Lib.hid (And.intro hn0 (And.intro hul2 hN2))
          clear hrow hg hb heach hr1 hr2 hl1 hvs he hf hc1 hc2 hn0 hul2
          go_wp2_with (at_builtin; refine wpList_append_row _ rfl (.tmp 28) (.tmp 32) _ rfl 22 i0 _ 24 Try.underlying23 hi0 hz0 hz1 hz2 rfl go _ vs rfl (X.out.1.alloc _) _ [.slice A1 m c0] rfl (Rd.one _ 22 (.slice A1 m c0) rfl) (by rw [HE.out.2.2]; simp only [maxLen, List.length_singleton]; omega) (by rw [HE.out.2.2]; simp only [List.length_singleton]; omega) ?_; intro B' d' w7 gn hrow' hgr hgn; rw [HE.out.2.2] at hrow' ⊢; simp only [List.length_singleton] at hrow' ⊢; have Y := Lib.hid (And.intro hrow' (And.intro hgr hgn)); clear hrow' hgr hgn)
          go_roundw
          case rel =>
            refine ⟨L ++ [u.take m], u.drop m, ?_, ?_, ?_, Lib.hid (HX.out _ _ ?_)⟩
            · rw [HN0.out.2.1]; have := HN0.out; omega
            · rw [HN0.out.2.1, List.length_append, List.length_singleton]; have := HN0.out; omega
            · rw [HN0.out.2.1]; have := HN0.out; omega
            · have := ListsI.grown (w0 := w) (ll := L) (vs := vs) (go := go) (l := u.take m) (A := A1) (c := c0) X.out.2.1 (X.out.2.2.1.alloc X.out.2.2.1.size _) ((X.out.2.2.2).mono fun v l h => by obtain ⟨A, c, e, h⟩ := h; exact ⟨A, c, e, h.still ((Still.refl _ _).alloc _)⟩) (ListsI.old X.out.2.1 (X.out.2.2.1.alloc X.out.2.2.1.size _) (by rw [hul3]; exact HE.out.1)) (by rw [hul3]; exact Y.out.1) Y.out.2.1 Y.out.2.2
              exact this
          case measure => simp [lenOf]; have := HN0.out; omega
        · have he : chunks m t.length t = L ++ [u] := by
            obtain ⟨f, hf, he⟩ := HC.out.2.2.2
            rw [he, chunks_end (by omega)]
          have HE := Lib.hid he
          obtain ⟨go, vs, hrow, hg, hb, heach⟩ := HC.out.2.1
          have hvs := heach.len
          have X := Lib.hid (And.intro hrow (And.intro hg (And.intro hb (And.intro heach (And.intro HC.out.1 (And.intro hvs hn0))))))
          clear hrow hg hb heach he hvs hn0
          go_wp2_with (at_builtin; refine wpList_append_row _ rfl (.tmp 37) (.tmp 39) _ rfl 22 i0 _ 24 Try.underlying23 hi0 hz0 hz1 hz2 rfl go _ vs rfl (X.out.1.alloc _) _ [.slice A0 n0 c0] rfl (Rd.one _ 22 (.slice A0 n0 c0) rfl) (by rw [X.out.2.2.2.2.2.1]; simp only [maxLen, List.length_singleton]; omega) (by rw [X.out.2.2.2.2.2.1]; simp only [List.length_singleton]; omega) ?_; intro B' d' w7 gn hrow' hgr hgn; rw [X.out.2.2.2.2.2.1] at hrow' ⊢; simp only [List.length_singleton] at hrow' ⊢; have Y := Lib.hid (And.intro hrow' (And.intro hgr hgn)); clear hrow' hgr hgn)
          go_ret
          rw [HP.out, HE.out]
          refine ⟨B', d', by rw [List.length_append]; rfl, ?_⟩
          have := ListsI.grown (w0 := w) (ll := L) (vs := vs) (go := go) (l := u) (A := A0) (c := c0) X.out.2.1 (X.out.2.2.1.alloc X.out.2.2.1.size _) ((X.out.2.2.2.1).mono fun v l h => by obtain ⟨A, c, e, h⟩ := h; exact ⟨A, c, e, h.still ((Still.refl _ _).alloc _)⟩) (ListsI.old X.out.2.1 (X.out.2.2.1.alloc X.out.2.2.1.size _) (by have := X.out.2.2.2.2.1; rwa [X.out.2.2.2.2.2.2] at this)) (by have := Y.out.1; rwa [X.out.2.2.2.2.2.2] at this) Y.out.2.1 Y.out.2.2
          rw [List.length_append]
          exact this

/-- What Factors tells. -/
def facVal : Option Nat → Value
  | some e => .tuple #[.int .i64 (e : Nat), .bool true]
  | none => .tuple #[.int .i64 0, .bool false]
theorem drop_at {α : Type} {l : List α} {k : Nat} (h : k < l.length) : l.drop k = l[k] :: l.drop (k + 1) := List.drop_eq_getElem_cons h

set_option maxRecDepth 100000 in
set_option maxHeartbeats 2000000 in
theorem RFactors_is (A B : Option Addr) (n c m d : Nat) (t : List Nat) (ll : List (List Nat)) (hn : n ≤ 1048576) (hm : m ≤ 1048576) (w : World) (ht : Rd w (.slice A n c) (bv t)) (hl : Lists w (.slice B m d) ll) (hbt : ∀ b ∈ t, b < 256) (hbl : ∀ p ∈ ll, ∀ b ∈ p, b < 256) :
    Calls Try.prog 15 #[.slice A n c, .slice B m d] w fun e w' => e = .returned (facVal (factors t ll 0)) ∧ ∃ n, w' = w.drewN n := by
  have hnl := ht.bytes
  obtain rfl := hl.n
  have HNL := Lib.hid hnl
  have HT := Lib.hid (And.intro ht (And.intro hbt hbl))
  have HL := Lib.hid hl
  clear ht hl hbt hbl hnl
  go_enter Try.func15, Try.ntmps15
  go_wp2
  go_loopw [6, 7] (fun v i wr => ∃ k from' nd : Nat, k ≤ ll.length ∧ from' ≤ n ∧ i = .int .i64 k ∧ v = .int .i64 from' ∧ Hid (factors t ll 0 = factors t (ll.drop k) from') ∧ wr = w.drewN nd) (fun _ i _ => ll.length - (intOf i).toNat)
  case atStart => exact ⟨0, 0, 0, by omega, by omega, rfl, rfl, Lib.hid rfl, rfl⟩
  case round =>
    obtain ⟨k, f, nd, hk, hf, rfl, rfl, HF, rfl⟩ := hrel
    by_cases hlt : k < ll.length
    · obtain ⟨b, o, A', c', rfl, hx, hr⟩ := HL.out.at_ hlt
      have hmem : ll[k] ∈ ll := List.getElem_mem hlt
      have HN := Lib.hid (show factors t (ll.drop k) f = match first t ll[k] f with | none => none | some j => factors t (ll.drop (k + 1)) (j + (ll[k]).length) by rw [drop_at hlt]; rfl)
      have HC : Hid (∀ i nd, i ≤ n → Calls Try.prog 21 #[.slice A n c, .slice A' (ll[k]).length c', .int .i64 ((i : Nat) : Int)] (w.drewN nd) fun e w' => e = .returned (.bool (decide (At t ll[k] i))) ∧ ∃ n, w' = (w.drewN nd).drewN n) :=
        Lib.hid fun i nd hi => at_true A A' n c _ c' t ll[k] i (by omega) (by omega) (w.drewN nd) HT.out.1 hr HT.out.2.1 (HT.out.2.2 _ hmem)
      have y : ∀ nd, (w.drewN nd).cell? ⟨b, o + k, none⟩ = some (.slice A' (ll[k]).length c') := fun _ => hx
      clear hx hr hmem
      generalize ll[k] = p at *
      have HF0 : Hid (∀ x, f ≤ x → x < f → ¬ At t p x) := Lib.hid fun x h1 h2 => by omega
      go_wp2
      go_loopw [8] (fun i wi => ∃ j nd : Nat, f ≤ j ∧ j ≤ n + 1 ∧ i = .int .i64 j ∧ Hid (∀ x, f ≤ x → x < j → ¬ At t p x) ∧ wi = w.drewN nd) (fun i _ => n + 1 - (intOf i).toNat)
      case atStart => exact ⟨f, nd, by omega, by omega, rfl, HF0, rfl⟩
      case round =>
        obtain ⟨j, nd2, hj1, hj2, rfl, HNO, rfl⟩ := hrel
        have y2 := y nd2
        by_cases hjn : j ≤ n
        · have q1 : decide (j ≤ n) = true := by simpa using hjn
          have HC2 := Lib.hid (HC.out j nd2 hjn)
          by_cases hat : At t p j
          · have HFI : Hid (first t p f = some j) := Lib.hid (first_is.2 ⟨hj1, hat, HNO.out⟩)
            have hal : j + p.length ≤ n := by have := hat.le; have := HNL.out; omega
            rw [show decide (At t p j) = true by simpa using hat] at HC2
            rw [HFI.out] at HN
            have q2 : decide (n < j) = false := by simp; omega
            clear hat
            go_wp2_with fail
            refine HC2.out.mono ?_
            rintro e w5 ⟨rfl, nd3, rfl⟩
            have y3 := y (nd2 + nd3)
            go_wp2
            go_roundw
            case rel => exact ⟨k + 1, j + p.length, nd2 + nd3, by omega, by omega, by go_num, by go_num, Lib.hid (HF.out.trans HN.out), rfl⟩
            case measure => simp [intOf]; omega
          · have HN2 : Hid (∀ x, f ≤ x → x < j + 1 → ¬ At t p x) := Lib.hid fun x h1 h2 => by
              by_cases e : x = j
              · subst e; exact hat
              · exact HNO.out x h1 (by omega)
            rw [show decide (At t p j) = false by simpa using hat] at HC2
            clear hat
            go_wp2_with fail
            refine HC2.out.mono ?_
            rintro e w5 ⟨rfl, nd3, rfl⟩
            go_wp2
            go_roundw
            case rel => exact ⟨j + 1, nd2 + nd3, by omega, by omega, by go_num, HN2, rfl⟩
            case measure => simp [intOf]; omega
        · obtain rfl : j = n + 1 := by omega
          have q1 : decide (n + 1 ≤ n) = false := by simp
          have q2 : decide (n < n + 1) = true := by simp
          have HFI : Hid (first t p f = none) := Lib.hid (first_no.2 fun x hx ha => by
            have h1 := ha.1
            have := HNL.out
            exact HNO.out x hx (by omega) ha)
          rw [HFI.out] at HN
          go_wp2
          go_ret2
          exact ⟨by rw [HF.out.trans HN.out]; rfl, _, rfl⟩
    · obtain rfl : k = ll.length := by omega
      have HE : Hid (factors t ll 0 = some f) := Lib.hid (by rw [HF.out, List.drop_length]; rfl)
      go_wp2
      go_ret2
      exact ⟨by rw [HE.out]; rfl, _, rfl⟩
end Go.Proofs.Ytialecghpekcnaa
