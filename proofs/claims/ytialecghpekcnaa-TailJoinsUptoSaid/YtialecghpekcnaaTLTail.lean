/-
  tail's Shortest, Pieces and Factors: their contracts.
  Conditions: at most 1048576 bytes and texts.
-/
import Derived.Test.YtialecghpekcnaaTLLib
import Derived.Test.YtialecghpekcnaaKBFirst
namespace Go.Proofs.Ytialecghpekcnaa
open Go.RowKit

/-- What Pieces hands out. -/
def PiecesTo (w : World) (t : List Nat) (m : Int) (e : Ending) (w' : World) : Prop :=
  ∃ A c ll, ∃ er : Int, e = .returned (.tuple #[.slice A ll.length c, .int .i64 er]) ∧ ListsI w (.slice A ll.length c) ll w' ∧
    ((m < 1 ∨ 1048576 < m) → er = 3 ∧ ll = []) ∧ (1 ≤ m ∧ m ≤ 1048576 → er = 0 ∧ ll = pieces t m.toNat)

set_option maxRecDepth 100000 in
set_option maxHeartbeats 1000000 in
theorem Shortest_is (A : Option Addr) (n c : Nat) (t : List Nat) (hn : n ≤ 1048576) (w : World) (ht : Rd w (.slice A n c) (bv t)) (_hbt : ∀ b ∈ t, b < 256) :
    Calls Try.prog 10 #[.slice A n c] w fun e w' => e = .returned (.int .i64 (shortest t : Nat)) ∧ Below w.heap.size w w' := by
  obtain rfl := ht.bytes
  by_cases h0 : t.length = 0
  · have HE : Hid (shortest t = 0) := Lib.hid (by unfold shortest; rw [h0]; rfl)
    rw [h0]
    clear ht _hbt h0
    go_enter Try.func10, Try.ntmps10
    go_wp2
    go_ret
    exact ⟨ret_int (by rw [HE.out]; rfl), Below.refl _ _⟩
  · have q0 : ((t.length : Int) == 0) = false := beq_eq_false_iff_ne.2 (by omega)
    have q0' : (t.length = 0) = False := by simpa using h0
    have HN0 := Lib.hid h0
    have HT := Lib.hid ht
    clear ht _hbt h0
    go_enter Try.func10, Try.ntmps10
    go_wp2_with fail
    refine (BClone_is A _ c t w HT.out hn).mono ?_
    rintro e w1 ⟨B, d, rfl, g, hrow, hg, hb⟩
    have H1 := Lib.hid (And.intro hrow (And.intro hg hb))
    clear hrow hg hb
    go_wp2_with fail
    refine (Reverse_is B g _ d t w1 H1.out.1 hn).mono ?_
    rintro e w2 ⟨rfl, hrow, ho⟩
    have H2 := Lib.hid (And.intro hrow ho)
    clear hrow ho
    have HB : Hid (Below w.heap.size w w2) := Lib.hid (H2.out.2.more' H1.out.2.2 fun i hi e => by have := H1.out.2.1 i e.symm; omega)
    have hc : Rd w2 (.slice B t.length d) (cv (ni t.reverse)) := by rw [← bv_cv]; exact H2.out.1.rd
    have hrl : (ni t.reverse).length = t.length := by rw [ni_len, List.length_reverse]
    have HC := Lib.hid (Borders_b (ni t.reverse) B t.length d w2 hc (by omega))
    have HRL := Lib.hid hrl
    clear hc hrl
    go_wp2_with fail
    refine HC.out.mono ?_
    rintro e w3 ⟨gb, rfl, hblk, hge, hb3⟩
    have hi : Rd w3 (.slice (some ⟨gb, 0, none⟩) t.length t.length) (iv (bords (ni t.reverse))) := by have := hblk.ints; rwa [bords_len, HRL.out] at this
    have HI := Lib.hid (Max_is (some ⟨gb, 0, none⟩) t.length t.length (bords (ni t.reverse)) w3 hi hn (by have := HN0.out; omega))
    have HB3 := Lib.hid hb3
    rw [HRL.out]
    clear hblk hge hi hb3
    go_wp2_with fail
    refine HI.out.mono ?_
    rintro e w4 ⟨m, rfl, hm, hmx, nd, rfl⟩
    have HM : Hid (0 ≤ m ∧ m ≤ 1048576 ∧ m + 1 = (shortest t : Nat)) := Lib.hid (by
      unfold bords at hm hmx
      obtain ⟨j, hj, rfl⟩ := List.mem_map.1 hm
      rw [List.mem_range, HRL.out] at hj
      have hlt := border_lt (p := ni t.reverse) (a := j + 1) (by omega)
      have := shortest_border (t := t) (a := j + 1) (by omega) (by omega) rfl fun b h1 h2 => by
        have := hmx ((border (ni t.reverse) (b - 1 + 1) : Nat) : Int) (List.mem_map.2 ⟨b - 1, by rw [List.mem_range, HRL.out]; omega, rfl⟩)
        rw [show b - 1 + 1 = b by omega] at this
        omega
      omega)
    have w1' : IntKind.i64.wrap (m + 1) = m + 1 := IntWalk.i64_in _ (by have := HM.out; omega)
    clear hm hmx
    go_wp2
    go_ret
    exact ⟨ret_int HM.out.2.2, (HB.out.trans (HB3.out.mono HB.out.size)).trans ⟨rfl, rfl, rfl, Nat.le_refl _, fun _ _ => rfl⟩⟩

/-- b[lo:hi], under one name. -/
theorem run_span {w : World} {A : Option Addr} {n c lo hi : Nat} {l : List Nat} (h : Rd w (.slice A n c) (bv l)) (h1 : lo ≤ hi) (h2 : hi ≤ n) :
    ∃ A' c', (∀ W, (Instr.slice 22 (.slice A n c) (some (.int .i64 (lo : Int))) (some (.int .i64 (hi : Int))) none).run Try.prog W = .ok (.slice A' (hi - lo) c') W) ∧ Rd w (.slice A' (hi - lo) c') (bv ((l.drop lo).take (hi - lo))) := by
  obtain ⟨A', c', hs, hr⟩ := run_mid (a := lo) (k := hi - lo) h (by omega)
  rw [show (lo : Int) + ((hi - lo : Nat) : Int) = (hi : Int) by omega] at hs
  exact ⟨A', c', hs, hr⟩

/-- A row more, of bytes that the call has just made. -/
theorem ListsI.made {w0 W W1 W' : World} {go go' : Option Nat} {v v' : Value} {vs : List Value} {ll : List (List Nat)} {B : Option Addr} {d : Nat} {l : List Nat}
    (hrow : Row W 22 go v vs) (hg : ∀ b, go = some b → w0.heap.size ≤ b) (hb : Below w0.heap.size w0 W)
    (he : Each (fun v l => ∃ A c, v = .slice A l.length c ∧ RdT (fun b => go ≠ some b) W v (bv l)) vs ll)
    (hm : BytI W (.slice B l.length d) l W1)
    (hr' : Row W' 22 go' v' (vs ++ [.slice B l.length d])) (hgr : (W1.alloc (.cells #[.slice B l.length d] 22)).grownBy W' go) (hg' : go' = go ∨ go' = some (W1.alloc (.cells #[.slice B l.length d] 22)).heap.size) : ListsI w0 v' (ll ++ [l]) W' := by
  obtain ⟨g2, hr2, hg2, hb2⟩ := hm
  have hb3 : Below W.heap.size W (W1.alloc (.cells #[.slice B l.length d] 22)) := hb2.alloc hb2.size _
  refine ListsI.grown (W := W1.alloc (.cells #[.slice B l.length d] 22)) hg (hb.trans (hb3.mono hb.size)) (he.mono fun v l h => by obtain ⟨A, c, e, h⟩ := h; exact ⟨A, c, e, h.below hb3⟩) ⟨(hr2.alloc _).rd, ?_⟩ hr' hgr hg'
  intro b o n c e hp hgo
  have hlt := hrow.lt hgo
  obtain ⟨A2, c2, e2, _, _, _, hh⟩ := hr2
  rcases hh with ⟨rfl, _⟩ | ⟨b', o', cs, hc, e3, e4, _⟩
  · injection e2 with _ _ e5
    subst e5
    omega
  · injection e2 with e5 _ _
    injection e with e6 _ _
    rw [← e5, e6] at e4
    cases e4
    have := hg2 _ e3
    omega

set_option maxRecDepth 100000 in
set_option maxHeartbeats 2000000 in
theorem cut_is (A : Option Addr) (n c : Nat) (t : List Nat) (m : Nat) (hn : n ≤ 1048576) (hm : 1 ≤ m) (hm2 : m ≤ 1048576) (h0 : 0 < n) (w : World) (ht : Rd w (.slice A n c) (bv t)) :
    Calls Try.prog 17 #[.slice A n c, .int .i64 (m : Int)] w (ListsTo w (chunks m t.length t)) := by
  obtain ⟨i0, hi0, hz0, hz1, hz2⟩ := info_parts list_info
  obtain rfl := ht.bytes
  have HE := Lib.hid (chunks_cuts hm t.length t (Nat.le_refl _) h0)
  obtain ⟨q, hq⟩ : ∃ q, q = (t.length + m - 1) / m := ⟨_, rfl⟩
  rw [← hq] at HE
  have hq1 : q * m ≤ t.length + m - 1 := by rw [hq]; exact Nat.div_mul_le_self _ _
  have hq2 : t.length + m - 1 < (q + 1) * m := by
    rw [hq]
    have := Nat.lt_mul_div_succ (t.length + m - 1) (show 0 < m by omega)
    rwa [Nat.mul_comm] at this
  have w1 : IntKind.i64.wrap ((t.length : Int) + (m : Int)) = (t.length : Int) + (m : Int) := IntWalk.i64_in _ (by omega)
  have w2 : IntKind.i64.wrap ((t.length : Int) + (m : Int) - 1) = (t.length : Int) + (m : Int) - 1 := IntWalk.i64_in _ (by omega)
  have hqm : q ≤ t.length := by
    have : q * m < (t.length + 1) * m := by
      refine Nat.lt_of_le_of_lt hq1 ?_
      have := Nat.mul_le_mul (show t.length ≤ t.length by omega) hm
      rw [Nat.add_mul]; omega
    have := Nat.lt_of_mul_lt_mul_right this
    omega
  have w3 : IntKind.i64.wrap (((t.length : Int) + (m : Int) - 1).tdiv (m : Int)) = (q : Int) := by
    rw [show (t.length : Int) + (m : Int) - 1 = ((t.length + m - 1 : Nat) : Int) by omega, show ((t.length + m - 1 : Nat) : Int).tdiv (m : Int) = ((t.length + m - 1) / m : Nat) from rfl, ← hq]
    exact IntWalk.i64_in _ (by omega)
  have m0 : ((m : Int) == 0) = false := beq_eq_false_iff_ne.2 (by omega)
  have m0' : (m = 0) = False := by simp; omega
  have HT := Lib.hid ht
  have H0 : Hid (ListsI w (.slice none 0 0) (cuts t m 0) w) := Lib.hid (ListsI.nil w)
  have HQ := Lib.hid (And.intro hq1 hq2)
  clear ht hq hq1 hq2
  go_enter Try.func17, Try.ntmps17
  go_wp2
  go_loopw [5, 14] (fun v vi wr => ∃ k : Nat, k ≤ q ∧ vi = .int .i64 (k : Int) ∧ Hid (ListsI w v (cuts t m k) wr)) (fun _ vi _ => q - (intOf vi).toNat)
  case atStart => exact ⟨0, by omega, rfl, H0⟩
  case round =>
    obtain ⟨k, hk, rfl, HC⟩ := hrel
    obtain ⟨A5, c5, rfl⟩ := HC.out.form
    by_cases hlt : k < q
    · have hkm : k * m < t.length := by
        have h1 : (k + 1) * m ≤ q * m := Nat.mul_le_mul_right m hlt
        have h2 := HQ.out.1
        rw [Nat.add_mul] at h1
        omega
      obtain ⟨lo, hlo⟩ : ∃ lo, lo = k * m := ⟨_, rfl⟩
      obtain ⟨hi, hhi⟩ : ∃ hi, hi = min t.length (lo + m) := ⟨_, rfl⟩
      rw [← hlo] at hkm
      obtain ⟨A1, c1, hs1, hr1⟩ := run_span (lo := lo) (hi := hi) (HT.out.kept HC.out.bel) (by omega) (by omega)
      have hp : (t.drop lo).take (hi - lo) = piece t m k := by
        unfold piece
        rw [← hlo, hhi]
        rcases Nat.le_total (lo + m) t.length with h | h
        · rw [Nat.min_eq_right h]; congr 1; omega
        · rw [Nat.min_eq_left h, List.take_of_length_le (by rw [List.length_drop]; omega), List.take_of_length_le (by rw [List.length_drop]; omega)]
      rw [hp] at hr1
      have v1 : IntKind.i64.wrap ((k : Int) * (m : Int)) = (lo : Int) := by
        rw [hlo, Int.natCast_mul]
        refine IntWalk.i64_in _ ?_
        rw [← Int.natCast_mul, ← hlo]; omega
      have v2 : IntKind.i64.wrap ((k : Int) + 1) = (k : Int) + 1 := IntWalk.i64_in _ (by omega)
      have v3 : IntKind.i64.wrap (((k : Int) + 1) * (m : Int)) = ((lo + m : Nat) : Int) := by
        rw [Int.add_mul, Int.one_mul, ← Int.natCast_mul, ← hlo]
        exact IntWalk.i64_in _ (by omega)
      have v4 : (min (t.length : Int) ((lo : Int) + (m : Int)) : Int) = (hi : Int) := by omega
      have hpl := hr1.bytes
      have HCl := Lib.hid (BClone_is A1 (hi - lo) c1 (piece t m k) wr hr1 (by omega))
      have HN := Lib.hid (cuts_next t m k)
      obtain ⟨go, vs, hrow, hg, hb, heach⟩ := HC.out
      have hvs := heach.len
      rw [cuts_len] at hvs
      have X := Lib.hid (And.intro hrow (And.intro hg (And.intro hb (And.intro heach hvs))))
      generalize piece t m k = p at *
      have HPL := Lib.hid hpl
      have HKL := Lib.hid (cuts_len t m k)
      clear hrow hg hb heach hvs hr1 hp hlo hhi hpl
      rw [HKL.out]
      go_wp2_with fail
      refine HCl.out.mono ?_
      rintro e w5 ⟨B, d, rfl, hby⟩
      have HY := Lib.hid hby
      have hlt5 : Hid (∀ b, go = some b → b < wr.heap.size) := Lib.hid fun b e => X.out.1.lt e
      have R5 : Hid (Row w5 22 go (.slice A5 k c5) vs) := Lib.hid (by have := X.out.1.below hby.bel hlt5.out; rwa [HKL.out] at this)
      clear hby
      go_wp2_with (at_builtin; refine wpList_append_row _ rfl (.tmp 17) (.tmp 31) _ rfl 22 i0 _ 24 Try.underlying23 hi0 hz0 hz1 hz2 rfl go _ vs rfl (R5.out.alloc _) _ [.slice B p.length d] rfl (Rd.one _ 22 (.slice B p.length d) rfl) (by rw [X.out.2.2.2.2]; simp only [maxLen, List.length_singleton]; omega) (by rw [X.out.2.2.2.2]; simp only [List.length_singleton]; omega) ?_; intro B' d' w7 gn hrow' hgr hgn; rw [X.out.2.2.2.2] at hrow' ⊢; simp only [List.length_singleton] at hrow' ⊢; have Y := Lib.hid (And.intro hrow' (And.intro hgr hgn)); clear hrow' hgr hgn)
      go_roundw
      case rel =>
        refine ⟨k + 1, by omega, by go_num, Lib.hid ?_⟩
        rw [HN.out]
        exact ListsI.made X.out.1 X.out.2.1 X.out.2.2.1 X.out.2.2.2.1 HY.out Y.out.1 Y.out.2.1 Y.out.2.2
      case measure => simp [intOf]; omega
    · obtain rfl : k = q := by omega
      go_wp2
      go_ret
      exact ⟨A5, c5, by rw [HE.out]; rfl, by rw [HE.out]; exact HC.out⟩

theorem ListsI.since {w0 w1 W : World} {v : Value} {ll : List (List Nat)} (h : ListsI w1 v ll W) (hb : Below w0.heap.size w0 w1) : ListsI w0 v ll W := by
  obtain ⟨go, vs, hr, hg, hbel, he⟩ := h
  exact ⟨go, vs, hr, fun b e => Nat.le_trans hb.size (hg b e), hb.trans (hbel.mono hb.size), he⟩
/-- A row of one thing that the call has just made. -/
theorem ListsI.only {w0 w1 W1 : World} {B : Option Addr} {d : Nat} {l : List Nat} (hb : Below w0.heap.size w0 w1) (hm : BytI w1 (.slice B l.length d) l W1) :
    ListsI w0 (.slice (some ⟨W1.heap.size, 0, none⟩) 1 1) [l] (W1.alloc (.cells #[.slice B l.length d] 22)) := by
  obtain ⟨g2, hr2, hg2, hb2⟩ := hm
  have hb3 : Below w0.heap.size w0 W1 := hb.trans (hb2.mono hb.size)
  refine ⟨some W1.heap.size, [.slice B l.length d], Row.new W1 _ #[.slice B l.length d] 1 rfl (by simp only [maxLen]; omega) (by omega) (by intro u hu; simp at hu; subst hu; rfl), fun b e => ?_, hb3.alloc hb3.size _, ⟨B, d, rfl, (hr2.alloc _).rd, ?_⟩, trivial⟩
  · cases e; exact hb3.size
  · intro b o n c e hp he
    cases he
    obtain ⟨b', o', e2⟩ : ∃ b' o', (Value.slice B l.length d) = .slice (some ⟨b', o', none⟩) l.length d ∧ b' < W1.heap.size := by
      obtain ⟨A2, c2, e2, _, _, hx⟩ := hr2.rd
      obtain ⟨b', o', e3, hx⟩ := hx hp
      injection e2 with e4 _ _
      exact ⟨b', o', by rw [e4, e3], World.block_lt_of_cell? _ _ (hx 0 _ (List.getElem?_eq_getElem hp))⟩
    rw [e] at e2
    injection e2.1 with e5 _ _
    cases e5
    omega

set_option maxRecDepth 100000 in
set_option maxHeartbeats 2000000 in
theorem Pieces_is (A : Option Addr) (n c : Nat) (t : List Nat) (m : Int) (hn : n ≤ 1048576) (w : World) (ht : Rd w (.slice A n c) (bv t)) (hbt : ∀ b ∈ t, b < 256) (_hm : -9223372036854775808 ≤ m ∧ m ≤ 9223372036854775807) :
    Calls Try.prog 9 #[.slice A n c, .int .i64 m] w (PiecesTo w t m) := by
  obtain ⟨i0, hi0, hz0, hz1, hz2⟩ := info_parts list_info
  obtain rfl := ht.bytes
  have HT := Lib.hid ht
  have HS := Lib.hid (Shortest_is A t.length c t hn w ht hbt)
  clear ht hbt
  by_cases hlo : m < 1
  · have q1 : (m < 1) = True := by simpa using hlo
    have HM := Lib.hid hlo
    clear hlo
    go_enter Try.func9, Try.ntmps9
    go_wp2
    go_ret2
    exact ⟨none, 0, [], 3, rfl, ListsI.nil w, fun _ => ⟨rfl, rfl⟩, fun h => by have := HM.out; omega⟩
  have q1 : (m < 1) = False := by simpa using hlo
  by_cases hup : 1048576 < m
  · have q2 : (1048576 < m) = True := by simpa using hup
    have HM := Lib.hid hup
    clear hlo hup
    go_enter Try.func9, Try.ntmps9
    go_wp2
    go_ret2
    exact ⟨none, 0, [], 3, rfl, ListsI.nil w, fun _ => ⟨rfl, rfl⟩, fun h => by have := HM.out; omega⟩
  have q2 : (1048576 < m) = False := by simpa using hup
  obtain ⟨k, rfl⟩ : ∃ k : Nat, m = (k : Int) := ⟨m.toNat, by omega⟩
  have HK : Hid (1 ≤ k ∧ k ≤ 1048576) := Lib.hid (by omega)
  have HP : Hid (pieces t k = if shortest t = 0 then [] else if shortest t ≤ k then [tail t (shortest t)] else chunks k t.length t) := Lib.hid rfl
  by_cases h0 : t.length = 0
  · have hz : shortest t = 0 := by unfold shortest; rw [h0]; rfl
    rw [hz, if_pos rfl] at HP
    rw [h0]
    clear hlo hup _hm hn hz h0 HS HT
    go_enter Try.func9, Try.ntmps9
    go_wp2
    go_ret2
    exact ⟨none, 0, [], 0, rfl, ListsI.nil w, fun h => by have := HK.out; omega, fun _ => ⟨rfl, by rw [Int.toNat_natCast, HP.out]⟩⟩
  obtain ⟨s1, s2, -⟩ := shortest_is (t := t) (by omega)
  have p0 : ((t.length : Int) == 0) = false := beq_eq_false_iff_ne.2 (by omega)
  have p0' : (t.length = 0) = False := by simpa using h0
  rw [if_neg (by omega)] at HP
  have HTL : Hid (tail t (shortest t) = t.drop (t.length - shortest t)) := Lib.hid rfl
  generalize shortest t = s at *
  by_cases hsm : s ≤ k
  · rw [if_pos hsm] at HP
    have q3 : decide (s ≤ k) = true := by simpa using hsm
    have v1 : IntKind.i64.wrap ((t.length : Int) - (s : Int)) = (t.length : Int) - (s : Int) := IntWalk.i64_in _ (by omega)
    have HN0 := Lib.hid (And.intro s2 hn)
    clear hlo hup _hm h0 hsm hn
    go_enter Try.func9, Try.ntmps9
    go_wp2_with fail
    refine HS.out.mono ?_
    rintro e w1 ⟨rfl, hb⟩
    obtain ⟨A1, c1, N1, hs1, hr1, hN1⟩ := run_from (HT.out.kept hb) (show t.length - s ≤ t.length by omega)
    obtain rfl : N1 = s := by have := HN0.out; omega
    rw [show ((t.length - N1 : Nat) : Int) = (t.length : Int) - (N1 : Int) by have := HN0.out; omega] at hs1
    rw [← HTL.out] at hr1
    have hl1 := hr1.bytes
    have HC := Lib.hid (BClone_is A1 N1 c1 _ w1 hr1 (by have := HN0.out; omega))
    have HB := Lib.hid (And.intro hb hl1)
    clear hr1 hb hl1
    generalize tail t N1 = p at *
    go_wp2_with fail
    refine HC.out.mono ?_
    rintro e w2 ⟨B, d, rfl, hby⟩
    have HY := Lib.hid hby
    clear hby
    go_wp2
    go_ret2
    refine ⟨some ⟨w2.heap.size, 0, none⟩, 1, [p], 0, rfl, ListsI.only HB.out.1 HY.out, fun h => by have := HK.out; omega, fun _ => ⟨rfl, by rw [Int.toNat_natCast, HP.out]⟩⟩
  · rw [if_neg hsm] at HP
    have q3 : decide (s ≤ k) = false := by simpa using hsm
    have HCUT : Hid (∀ w1, Below w.heap.size w w1 → Calls Try.prog 17 #[.slice A t.length c, .int .i64 (k : Int)] w1 (ListsTo w1 (chunks k t.length t))) := Lib.hid fun w1 hb => cut_is A t.length c t k hn HK.out.1 HK.out.2 (by omega) w1 (HT.out.kept hb)
    clear hlo hup _hm h0 hsm hn
    go_enter Try.func9, Try.ntmps9
    go_wp2_with fail
    refine HS.out.mono ?_
    rintro e w1 ⟨rfl, hb⟩
    have HB := Lib.hid hb
    clear hb
    go_wp2_with fail
    refine (HCUT.out w1 HB.out).mono ?_
    rintro e w2 ⟨B, d, rfl, hl⟩
    have HL := Lib.hid hl
    clear hl
    go_wp2
    go_ret2
    exact ⟨B, d, _, 0, rfl, HL.out.since HB.out, fun h => by have := HK.out; omega, fun _ => ⟨rfl, by rw [Int.toNat_natCast, HP.out]⟩⟩

/-- One text more. -/
theorem factors_more {t : List Nat} {ll : List (List Nat)} {k at' : Nat} (hk : k < ll.length) (ha : at' ≤ t.length) :
    factors t (ll.drop k) at' = match (places (ni (t.drop at')) (ni ll[k])).head? with | none => none | some j => factors t (ll.drop (k + 1)) (at' + (j + (ll[k]).length)) := by
  rw [drop_at hk]
  show (match first t ll[k] at' with | none => none | some j => factors t (ll.drop (k + 1)) (j + (ll[k]).length)) = _
  rw [first_head ha]
  cases (places (ni (t.drop at')) (ni ll[k])).head? with
  | none => rfl
  | some j => simp only [Option.map_some]; rw [Nat.add_assoc]

set_option maxRecDepth 100000 in
set_option maxHeartbeats 2000000 in
theorem Factors_is (A B : Option Addr) (n c m d : Nat) (t : List Nat) (ll : List (List Nat)) (hn : n ≤ 1048576) (hm : m ≤ 1048576) (w : World) (ht : Rd w (.slice A n c) (bv t)) (hl : Lists w (.slice B m d) ll) (_hbt : ∀ b ∈ t, b < 256) (_hbl : ∀ p ∈ ll, ∀ b ∈ p, b < 256) (hpl : ∀ p ∈ ll, p.length ≤ 1048576) :
    Calls Try.prog 14 #[.slice A n c, .slice B m d] w fun e w' => e = .returned (facVal (factors t ll 0)) ∧ Below w.heap.size w w' := by
  obtain rfl := ht.bytes
  obtain rfl := hl.n
  have HT := Lib.hid (And.intro ht hpl)
  have HL := Lib.hid hl
  clear ht hl hpl _hbt _hbl
  go_enter Try.func14, Try.ntmps14
  go_wp2
  go_loopw [6, 13] (fun v i wr => ∃ k a : Nat, k ≤ ll.length ∧ a ≤ t.length ∧ i = .int .i64 k ∧ v = .int .i64 a ∧ Hid (factors t ll 0 = factors t (ll.drop k) a ∧ Below w.heap.size w wr)) (fun _ i _ => ll.length - (intOf i).toNat)
  case atStart => exact ⟨0, 0, by omega, by omega, rfl, rfl, Lib.hid ⟨rfl, Below.refl _ _⟩⟩
  case round =>
    obtain ⟨k, a, hk, ha, rfl, rfl, HF⟩ := hrel
    by_cases hlt : k < ll.length
    · obtain ⟨b, o, A', c', rfl, hx, hr⟩ := (HL.out.kept HF.out.2).at_ hlt
      have hmem : ll[k] ∈ ll := List.getElem_mem hlt
      have HN := Lib.hid (factors_more (t := t) hlt ha)
      have hpl := HT.out.2 _ hmem
      obtain ⟨A1, c1, N1, hs1, hr1, hN1⟩ := run_from (HT.out.1.kept HF.out.2) ha
      have HC := Lib.hid (First_b A1 A' N1 c1 (ll[k]).length c' (ni (t.drop a)) (ni ll[k]) (by rw [ni_len, List.length_drop]; omega) (by rw [ni_len]; omega) wr (by rw [← bv_cv]; exact hr1) (by rw [← bv_cv]; exact hr))
      have HPL : Hid (∀ j, (places (ni (t.drop a)) (ni ll[k])).head? = some j → a + (j + (ll[k]).length) ≤ t.length) := Lib.hid fun j hj => by
        have h1 := first_head (t := t) (p := ll[k]) ha
        rw [hj] at h1
        have h2 : a + j + (ll[k]).length ≤ t.length := (first_is.1 h1).2.1.le
        omega
      clear hr1 hr hmem
      generalize ll[k] = p at *
      generalize places (ni (t.drop a)) (ni p) = xs at *
      cases xs with
      | nil =>
        go_wp2_with fail
        refine HC.out.mono ?_
        rintro e w5 ⟨rfl, hb⟩
        have HB := Lib.hid hb
        clear hb
        go_wp2
        go_ret2
        exact ⟨by rw [HF.out.1, HN.out]; rfl, HF.out.2.trans (HB.out.mono HF.out.2.size)⟩
      | cons j xs =>
        have hjl := HPL.out j rfl
        have w1 : IntKind.i64.wrap ((j : Int) + (p.length : Int)) = (j : Int) + (p.length : Int) := IntWalk.i64_in _ (by omega)
        have w2 : IntKind.i64.wrap ((a : Int) + ((j : Int) + (p.length : Int))) = (a : Int) + ((j : Int) + (p.length : Int)) := IntWalk.i64_in _ (by omega)
        go_wp2_with fail
        refine HC.out.mono ?_
        rintro e w5 ⟨rfl, hb⟩
        have HB := Lib.hid hb
        clear hb
        go_wp2
        go_roundw
        case rel => exact ⟨k + 1, a + (j + p.length), by omega, hjl, by go_num, by go_num, Lib.hid ⟨by rw [HF.out.1, HN.out]; rfl, HF.out.2.trans (HB.out.mono HF.out.2.size)⟩⟩
        case measure => simp [intOf]; omega
    · obtain rfl : k = ll.length := by omega
      have HE : Hid (factors t ll 0 = some a) := Lib.hid (by rw [HF.out.1, List.drop_length]; rfl)
      go_wp2
      go_ret2
      exact ⟨by rw [HE.out]; rfl, HF.out.2⟩
end Go.Proofs.Ytialecghpekcnaa
