/-
  kmp's search for bytes: the contracts of Borders, New, Feed, At, each as that for numbers (written by gen_kb.py).
  Conditions: a pattern of at most 17592186044416 bytes.
-/
import Derived.Test.YtcipljpalohjiaaDoorKBord
import Derived.Test.YtcipljpalohjiaaDoorSeqT
namespace Go.Proofs.YtcipljpalohjiaaDoor
open Go.RowKit

/-- Bytes as values. -/
abbrev cv (zs : List Int) : List Value := zs.map (Value.int .u8)
theorem cv_one (zs : List Int) : ∀ u ∈ cv zs, u.oneCell' = true := by
  intro u hu
  obtain ⟨z, _, rfl⟩ := List.mem_map.1 hu
  rfl
theorem cv_len (zs : List Int) : (cv zs).length = zs.length := List.length_map _
theorem bv_cv (l : List Nat) : bv l = cv (ni l) := by simp [bv, ni]

/-- What is read of a slice of bytes that holds any. -/
theorem Rd.chars {w : World} {A : Option Addr} {n c : Nat} {zs : List Int} (h : Rd w (.slice A n c) (cv zs)) :
    n = zs.length ∧ zs.length ≤ c ∧ (0 < zs.length → ∃ b o, A = some ⟨b, o, none⟩ ∧ ∀ j, j < zs.length → w.cell? ⟨b, o + j, none⟩ = some (.int .u8 (zs[j]?.getD 0))) := by
  obtain ⟨A', c', hv, hle, _, hr⟩ := h
  injection hv with e1 e2 e3
  subst e1 e2 e3
  rw [List.length_map] at hle hr ⊢
  refine ⟨rfl, hle, fun hp => ?_⟩
  obtain ⟨b, o, rfl, hx⟩ := hr hp
  refine ⟨b, o, rfl, fun j hj => hx j _ ?_⟩
  simp [hj]

theorem idle_b (w : World) : CallsD Tryd.prog 65 #[] .returning w fun e u' w' => e = .returned (.tuple #[]) ∧ u' = .returning ∧ w' = w := by
  refine callsD_of_wpS Tryd.func65 rfl fun c₀ cs hu => ?_
  apply wpS_region
  cases c₀
  simp_all [wpOpsS, go_sem, recoverD, Tryd.ntmps65, bodyPostS, results, Tryd.results65]

theorem same_b (a b : Int) (w : World) : Calls Tryd.prog 59 #[.int .u8 a, .int .u8 b] w fun e w' => e = .returned (.bool (a == b)) ∧ w = w' := by
  go_enter_defers Tryd.func59, Tryd.ntmps59
  go_wp2
  refine leaves_cons (f := 65) (args := #[]) (by simp) (by simp [go_sem]) ?_
  refine (idle_b _).mono ?_
  rintro e u' w'' ⟨rfl, rfl, rfl⟩
  simp [Leaves, settle, results, Tryd.results59, go_sem]

set_option maxHeartbeats 1000000 in
theorem grown_b (s p bs : List Int) (x : Int) (A B : Option Addr) (n m c d : Nat) (w : World) (hp : Rd w (.slice A n c) (cv p)) (hb : Rd w (.slice B m d) (iv bs)) (hbs : Bords p bs (longest s p)) (hl : p.length ≤ 17592186044416) (hm : bs.length ≤ 17592186044416) :
    Calls Tryd.prog 51 #[.slice A n c, .slice B m d, .int .i64 (longest s p : Nat), .int .u8 x] w fun e w' => e = .returned (.int .i64 (longest (s ++ [x]) p : Nat)) ∧ w = w' := by
  obtain ⟨rfl, hc1, r1⟩ := hp.chars
  obtain ⟨rfl, hc2, r2⟩ := hb.ints
  have R1 := Lib.hid r1
  have R2 := Lib.hid r2
  have HB := Lib.hid hbs
  have hs := longest_le s p
  have HS := Lib.hid (Cand.start s p x)
  clear hp hb r1 r2 hbs
  generalize longest s p = k0 at *
  go_enter Tryd.func51, Tryd.ntmps51
  go_wp2
  go_loop [2] (fun i => ∃ k : Nat, k ≤ k0 ∧ i = .int .i64 k ∧ Hid (Cand s p x k)) (fun i => (intOf i).toNat)
  case atStart => exact ⟨k0, Nat.le_refl _, rfl, HS⟩
  case round =>
    obtain ⟨k, hk, rfl, HC⟩ := hrel
    by_cases h0 : k = 0
    · subst h0
      by_cases hp : p.length = 0
      · have HL : Hid (longest (s ++ [x]) p = 0) := Lib.hid (by have := longest_le (s ++ [x]) p; omega)
        have hz : ((p.length : Nat) : Int) = 0 := by omega
        generalize p.length = l at *
        subst hp
        go_wp2
        go_ret
        exact ⟨ret_int (by rw [HL.out]; rfl), rfl⟩
      · obtain ⟨b, o, rfl, x1⟩ := R1.out (by omega)
        have y1 := x1 0 (by omega)
        rw [Nat.add_zero] at y1
        have hp1 : 0 < p.length := by omega
        have q1 : ((0 : Int) == (p.length : Int)) = false := by rw [Bool.eq_false_iff]; simp; omega
        have YN : Hid (p[0]?.getD 0 = x → longest (s ++ [x]) p = 0 + 1) := Lib.hid fun e => HC.out.yes (by rw [List.getElem?_eq_getElem (by omega)] at e ⊢; simpa using e)
        have NN : Hid (p[0]?.getD 0 ≠ x → longest (s ++ [x]) p = 0) := Lib.hid fun e => HC.out.no (by rw [List.getElem?_eq_getElem (by omega)] at e ⊢; simpa using e)
        generalize p[0]?.getD 0 = y at *
        clear x1 hp
        by_cases hxy : y = x
        · have hb : (y == x) = true := by simpa using hxy
          have HY := Lib.hid (YN.out hxy)
          clear hxy YN NN
          go_wp2_with (go_at_call 59; refine (same_b _ _ _).mono ?_; rintro e w' ⟨rfl, rfl⟩)
          go_ret
          exact ⟨ret_int (by rw [HY.out]; rfl), rfl⟩
        · have hb : (y == x) = false := by simpa using hxy
          have HY := Lib.hid (NN.out hxy)
          clear hxy YN NN
          go_wp2_with (go_at_call 59; refine (same_b _ _ _).mono ?_; rintro e w' ⟨rfl, rfl⟩)
          go_ret
          exact ⟨ret_int (by rw [HY.out]; rfl), rfl⟩
    · have hbk := HB.out (k - 1) (by omega)
      have hk1 : k - 1 < bs.length := (List.getElem?_eq_some_iff.1 hbk).1
      obtain ⟨b2, o2, rfl, x2⟩ := R2.out (by omega)
      have y2 := x2 (k - 1) hk1
      rw [hbk, show k - 1 + 1 = k by omega, Option.getD_some] at y2
      clear hbk x2
      have i1 : (1 : Int) ≤ (k : Int) := by omega
      have i2 : (k : Int) - 1 < (bs.length : Int) := by omega
      have z0 : ((k : Int) == 0) = false := by rw [Bool.eq_false_iff]; simp; omega
      have hbl := border_lt (p := p) (a := k) (by omega)
      by_cases hp : k = p.length
      · have HN := Lib.hid (HC.out.back (by omega) (by rw [List.getElem?_eq_none (by omega)]; simp))
        have q1 : ((k : Int) == (p.length : Int)) = true := by simp; omega
        clear hp
        generalize border p k = k1 at *
        go_wp2
        go_round
        case rel => exact ⟨k1, by omega, rfl, HN⟩
        case measure => simp [intOf]; omega
      · obtain ⟨b, o, rfl, x1⟩ := R1.out (by omega)
        have y1 := x1 k (by omega)
        have hp1 : k < p.length := by omega
        have q1 : ((k : Int) == (p.length : Int)) = false := by rw [Bool.eq_false_iff]; simp; omega
        have YN : Hid (p[k]?.getD 0 = x → longest (s ++ [x]) p = k + 1) := Lib.hid fun e => HC.out.yes (by rw [List.getElem?_eq_getElem (by omega)] at e ⊢; simpa using e)
        have NN : Hid (p[k]?.getD 0 ≠ x → Cand s p x (border p k)) := Lib.hid fun e => HC.out.back (by omega) (by rw [List.getElem?_eq_getElem (by omega)] at e ⊢; simpa using e)
        generalize p[k]?.getD 0 = y at *
        generalize border p k = k1 at *
        clear x1 hp
        by_cases hxy : y = x
        · have hb : (y == x) = true := by simpa using hxy
          have HY := Lib.hid (YN.out hxy)
          clear hxy YN NN
          go_wp2_with (go_at_call 59; refine (same_b _ _ _).mono ?_; rintro e w' ⟨rfl, rfl⟩)
          go_ret
          exact ⟨ret_int (by rw [HY.out]; rfl), rfl⟩
        · have hb : (y == x) = false := by simpa using hxy
          have HY := Lib.hid (NN.out hxy)
          clear hxy YN NN
          go_wp2_with (go_at_call 59; refine (same_b _ _ _).mono ?_; rintro e w' ⟨rfl, rfl⟩)
          go_round
          case rel => exact ⟨k1, by omega, rfl, HY⟩
          case measure => simp [intOf]; omega
set_option maxRecDepth 100000 in
set_option maxHeartbeats 1000000 in
theorem Borders_b (l : List Int) (A : Option Addr) (n c : Nat) (w : World) (h : Rd w (.slice A n c) (cv l)) (hl : l.length ≤ 17592186044416) :
    Calls Tryd.prog 50 #[.slice A n c] w (BordsTo w l) := by
  obtain ⟨i0, hi0, hz0, hz1, hz2⟩ := info_parts int_info
  obtain ⟨rfl, hc1, r1⟩ := h.chars
  have HR := Lib.hid h
  have R1 := Lib.hid r1
  clear h r1
  go_enter Tryd.func50, Tryd.ntmps50
  go_wp2_with (refine wpList_make_row _ rfl _ _ 46 rfl 3 i0 _ Tryd.underlying46 hi0 hz0 hz1 rfl .i64 .i64 l.length rfl rfl (by rw [hz2]; omega) (by omega) ?_)
  have H0 : Hid (BordI w l w.heap.size 1 (w.alloc (.cells (madeCells #[.int .i64 0] l.length) 3))) := by
    refine Lib.hid ⟨List.replicate l.length 0, by simp, ?_, fun j hj => ?_, (Below.refl _ w).alloc (Nat.le_refl _) _, Nat.le_refl _⟩
    · rw [← made_ints]; exact Blk.new w _ _
    · obtain rfl : j = 0 := by omega
      rw [List.getElem?_replicate, if_pos (by omega), border_one]
      rfl
  generalize w.alloc (.cells (madeCells #[.int .i64 0] l.length) 3) = w1 at H0 ⊢
  generalize w.heap.size = g at H0 ⊢
  go_wp2
  go_loopw [4] (fun i wr => ∃ k : Nat, 1 ≤ k ∧ (k ≤ l.length ∨ k = 1) ∧ i = .int .i64 k ∧ Hid (BordI w l g k wr)) (fun i _ => l.length - (intOf i).toNat)
  case atStart => exact ⟨1, by omega, .inr rfl, rfl, H0⟩
  case round =>
    obtain ⟨k, hk1, hk, rfl, HI⟩ := hrel
    by_cases hlt : k < l.length
    · obtain ⟨bs, hbl, hblk, hbs, hbel, hge⟩ := HI.out
      have hr := HR.out.kept hbel
      obtain ⟨b, o, rfl, x1⟩ := hr.chars.2.2 (by omega)
      have y1 := x1 k hlt
      rw [List.getElem?_eq_getElem hlt, Option.getD_some] at y1
      have hbk := hbs (k - 1) (by omega)
      rw [show k - 1 + 1 = k by omega] at hbk
      have y2 : wr.cell? ⟨g, k - 1, none⟩ = some (.int .i64 (border l k : Nat)) := by rw [hblk.cell]; simp [hbk]
      have y3 : wr.frozen? ⟨g, k, none⟩ = false := hblk.frozen k
      have y4 : wr.cell? ⟨g, k, none⟩ = some (.int .i64 (bs[k]'(by omega))) := by rw [hblk.cell]; simp [List.getElem?_eq_getElem (show k < bs.length by omega)]
      obtain ⟨e1, e2⟩ := bord_next hk1 hlt
      have G := grown_b ((l.take k).drop 1) l bs l[k] (some ⟨b, o, none⟩) (some ⟨g, 0, none⟩) l.length bs.length c bs.length wr.drew hr hblk.ints (by rw [← e1]; exact hbs.mono (by have := border_lt (p := l) (a := k) (by omega); omega)) hl (by omega)
      rw [← e1, e2, hbl] at G
      have G2 : Calls Tryd.prog 51 #[.slice (some ⟨b, o, none⟩) l.length c, .slice (some ⟨g, 0, none⟩) l.length l.length, .int .i64 (border l k : Nat), .int .u8 l[k]] wr.drew fun e w' => e = .returned (.int .i64 (border l (k + 1) : Nat)) ∧ w' = wr.drew := G.mono fun _ _ h => ⟨h.1, h.2.symm⟩
      have HG := Lib.hid G2
      have HN : Hid (∀ W, Blk W g 3 (iv bs).toArray → Below w.heap.size w W → BordI w l g (k + 1) (W.setCell ⟨g, k, none⟩ (.int .i64 (border l (k + 1) : Nat)))) := Lib.hid fun W hb hB => by
        refine ⟨bs.set k (border l (k + 1) : Nat), by simp [hbl], hb.setInt k _, fun j hj => ?_, hB.setCell hge _, hge⟩
        rw [List.getElem?_set]
        by_cases hkj : k = j
        · subst hkj
          rw [if_pos rfl, if_pos (by omega)]
        · rw [if_neg hkj]
          exact hbs j (by omega)
      have HW := Lib.hid (And.intro hblk hbel)
      have i1 : (0 : Int) ≤ (k : Int) - 1 := by omega
      have i2 : (k : Int) - 1 < (l.length : Int) := by omega
      have i3 : (1 : Int) ≤ (k : Int) := by omega
      generalize border l (k + 1) = v at *
      generalize border l k = u at *
      generalize l[k] = x at *
      clear x1 hr hbk hbs hblk hbel hge G G2 e1 e2 hk
      have w1 : IntKind.i64.wrap ((k : Int) - 1) = (k : Int) - 1 := IntWalk.i64_in _ (by omega)
      have w2 : ((k : Int) - 1).toNat = k - 1 := by omega
      go_wp2
      go_still_tail 15, (by kernel_rfl)
      still_call HG.out
      repeat still_step
      refine wpStill_nil ?_
      clear w1 w2
      change wpList _ _ _ _ _ wr.drew
      go_wp2
      go_roundw
      case rel => exact ⟨k + 1, by omega, by omega, by go_num, Lib.hid (HN.out _ HW.out.1 HW.out.2).drew⟩
      case measure => simp [intOf]; omega
    · obtain ⟨bs, hbl, hblk, hbs, hbel, hge⟩ := HI.out
      have hk' : l.length ≤ k := by omega
      have hbb := hbs.mono (show l.length ≤ min k l.length by omega)
      obtain rfl := hbb.all hbl
      have HW := Lib.hid (And.intro hblk (And.intro hge hbel))
      clear hbs hbb hblk hbel hge hbl
      go_wp2
      go_ret
      exact ⟨g, rfl, HW.out.1, HW.out.2.1, HW.out.2.2⟩

/-- Bytes that are handed out in a row of their own. -/
def CharsTo (w : World) (zs : List Int) (e : Ending) (w' : World) : Prop :=
  ∃ A c g, e = .returned (.slice A zs.length c) ∧ Row w' 5 g (.slice A zs.length c) (cv zs) ∧ (∀ b, g = some b → w.heap.size ≤ b) ∧ Below w.heap.size w w'

set_option maxRecDepth 100000 in
theorem Clone_b (A : Option Addr) (n c : Nat) (l : List Int) (w : World) (h : Rd w (.slice A n c) (cv l)) (hn : l.length ≤ 17592186044416) :
    Calls Tryd.prog 49 #[.slice A n c] w (CharsTo w l) := by
  obtain ⟨i0, hi0, hz0, hz1, hz2⟩ := info_parts byte_info
  obtain ⟨rfl, -⟩ := h.chars
  have hnil := fun W => Lib.run_eql_slice_nil (P := Tryd.prog) W 22 5 A l.length c 0 0 Tryd.underlying22
  cases A with
  | none =>
    have hl : l = [] := by
      rcases Nat.eq_zero_or_pos l.length with h0 | h0
      · exact List.eq_nil_of_length_eq_zero h0
      · obtain ⟨b, o, e4, _⟩ := h.chars.2.2 h0
        cases e4
    subst hl
    simp only [List.length_nil] at hnil ⊢
    clear h
    go_enter Tryd.func49, Tryd.ntmps49
    go_wp2
    go_ret
    exact ⟨none, 0, none, rfl, Row.nil _ _, by simp, Below.refl _ _⟩
  | some a =>
    have H := Lib.hid h
    clear h
    go_enter Tryd.func49, Tryd.ntmps49
    go_wp2_with (at_builtin; refine wpList_append_row _ rfl (.tmp 5) (.tmp 6) _ rfl 5 i0 _ 1 Tryd.underlying22 hi0 hz0 hz1 hz2 rfl none _ [] rfl (Row.empty _ _ _) _ (cv l) rfl (H.out.alloc _) (by rw [cv_len]; simp only [maxLen, List.length_nil]; omega) (by rw [cv_len]; simp only [List.length_nil]; omega) ?_; intro B' d' w7 gn hrow' hgr hgn; simp only [cv_len, List.length_nil, Nat.zero_add, List.nil_append] at hrow' ⊢; have Y := Lib.hid (And.intro hrow' (And.intro hgr hgn)); clear hrow' hgr hgn)
    go_ret
    obtain ⟨y1, y2, y3⟩ := Y.out
    refine ⟨B', d', gn, rfl, y1, ?_, ((Below.refl _ w).alloc (Nat.le_refl _) _).grown y2 (by simp) (by simp)⟩
    intro b e
    rcases y3 with rfl | rfl
    · cases e
    · simp at e; omega

/-- A search: its struct is block q; all that it keeps lies in T; so many things of p stand at the end. -/
def SAtB (T : Nat → Prop) (w : World) (q : Nat) (p : List Int) (k : Nat) : Prop :=
  ∃ A c gp gb, Blk w q 97 #[.slice A p.length c, .slice (some ⟨gb, 0, none⟩) p.length p.length, .int .i64 (k : Int)] ∧
    Row w 5 gp (.slice A p.length c) (cv p) ∧ Blk w gb 3 (iv (bords p)).toArray ∧ T q ∧ T gb ∧ ∀ b, gp = some b → T b

section
variable {T S : Nat → Prop} {w w' : World} {q k : Nat} {p : List Int}
theorem SAtB.lt (h : SAtB T w q p k) : q < w.heap.size := by obtain ⟨_, _, _, _, h1, _⟩ := h; exact h1.lt
theorem SAtB.own (h : SAtB T w q p k) : T q := by obtain ⟨_, _, _, _, _, _, _, h1, _⟩ := h; exact h1
theorem SAtB.still (h : SAtB T w q p k) (hs : Still T w w') : SAtB T w' q p k := by
  obtain ⟨A, c, gp, gb, h1, h2, h3, t1, t2, t3⟩ := h
  exact ⟨A, c, gp, gb, h1.keep (hs.same _ t1 h1.lt), h2.keep (fun b e => hs.same b (t3 b e) (h2.lt e)), h3.keep (hs.same _ t2 h3.lt), t1, t2, t3⟩
theorem SAtB.mono (h : SAtB T w q p k) (hs : ∀ b, T b → S b) : SAtB S w q p k := by
  obtain ⟨A, c, gp, gb, h1, h2, h3, t1, t2, t3⟩ := h
  exact ⟨A, c, gp, gb, h1, h2, h3, hs _ t1, hs _ t2, fun b e => hs b (t3 b e)⟩
theorem SAtB.drew (h : SAtB T w q p k) : SAtB T w.drew q p k := h
theorem SAtB.drewN (h : SAtB T w q p k) (n : Nat) : SAtB T (w.drewN n) q p k := h
theorem SAtB.only (h : SAtB T w q p k) (ho : Only S w w') (hd : ∀ b, T b → ¬ S b) : SAtB T w' q p k := h.still (Still.of_only ho fun b _ => hd b)
theorem SAtB.alloc (h : SAtB T w q p k) (o : Obj) : SAtB T (w.alloc o) q p k := h.still ((Still.refl T w).alloc o)
theorem SAtB.below (h : SAtB T w q p k) (hb : Below w.heap.size w w') : SAtB T w' q p k := h.still ⟨hb.size, fun b _ hl => hb.block b hl⟩
theorem SAtB.set_ (h : SAtB T w q p k) (k' : Nat) : SAtB T (w.setCell ⟨q, 2, none⟩ (.int .i64 (k' : Int))) q p k' ∧ Only (fun b => b = q) w (w.setCell ⟨q, 2, none⟩ (.int .i64 (k' : Int))) := by
  obtain ⟨A, c, gp, gb, h1, h2, h3, t1, t2, t3⟩ := h
  refine ⟨⟨A, c, gp, gb, ?_, h2.far (p := ⟨q, 2, none⟩) (h2.ne_ h1 (by decide)) _, h3.far (p := ⟨q, 2, none⟩) (h3.ne_ h1 (by decide)) _, t1, t2, t3⟩, (Only.refl (fun b => b = q) w).setCell (p := ⟨q, 2, none⟩) (.inl rfl) _⟩
  have := h1.set_ 2 (.int .i64 (k' : Int))
  simpa using this
end

/-- What New hands out. -/
def NewToB (w : World) (p : List Int) (e : Ending) (w' : World) : Prop :=
  ∃ q, e = .returned (.pointer (some ⟨q, 0, none⟩)) ∧ SAtB (fun b => w.heap.size ≤ b) w' q p 0 ∧ Below w.heap.size w w'

theorem New_b (A : Option Addr) (n c : Nat) (p : List Int) (w : World) (h : Rd w (.slice A n c) (cv p)) (hn : p.length ≤ 17592186044416) :
    Calls Tryd.prog 33 #[.slice A n c] w (NewToB w p) := by
  have HR := Lib.hid h
  have HC := Lib.hid (Clone_b A n c p w h hn)
  clear h
  go_enter Tryd.func33, Tryd.ntmps33
  go_wp2_with fail
  refine HC.out.mono ?_
  rintro e w1 ⟨A1, c1, g1, rfl, hrow, hg1, hb1⟩
  have HB := Lib.hid (Borders_b p A n c w1 (HR.out.kept hb1) hn)
  have X := Lib.hid (And.intro hrow (And.intro hg1 hb1))
  clear hrow hg1 hb1
  go_wp2_with fail
  refine HB.out.mono ?_
  rintro e w2 ⟨gb, rfl, hblk, hge, hb2⟩
  have Y := Lib.hid (And.intro hblk (And.intro hge hb2))
  clear hblk hge hb2
  go_wp2
  go_ret
  obtain ⟨hrow, hg1, hb1⟩ := X.out
  obtain ⟨hblk, hge, hb2⟩ := Y.out
  have hb := hb1.trans (hb2.mono hb1.size)
  exact ⟨_, rfl, ⟨A1, c1, g1, gb, Blk.new _ _ _, (hrow.below hb2 (fun b e => hrow.lt e)).alloc _, hblk.alloc _, hb.size, Nat.le_trans hb1.size hge, hg1⟩, hb.alloc hb.size _⟩

section
variable {T : Nat → Prop} {w : World} {q k : Nat} {p : List Int}
/-- What Feed leaves. -/
def FedB (T : Nat → Prop) (w : World) (q : Nat) (p : List Int) (n : Nat) (e : Ending) (w' : World) : Prop :=
  e = .returned (.bool (decide (n = p.length))) ∧ SAtB T w' q p n ∧ Only (fun b => b = q) w w'

set_option maxRecDepth 100000 in
set_option maxHeartbeats 1000000 in
theorem Feed_atb (s : List Int) (x : Int) (h : SAtB T w q p (longest s p)) (hn : p.length ≤ 17592186044416) :
    Calls Tryd.prog 36 #[.pointer (some ⟨q, 0, none⟩), .int .u8 x] w (FedB T w q p (longest (s ++ [x]) p)) := by
  have H := Lib.hid h
  obtain ⟨A, c, gp, gb, h1, h2, h3, -⟩ := h
  have hb : Rd w (.slice (some ⟨gb, 0, none⟩) p.length p.length) (iv (bords p)) := by have := h3.ints; rwa [bords_len] at this
  have G : Calls Tryd.prog 51 #[.slice A p.length c, .slice (some ⟨gb, 0, none⟩) p.length p.length, .int .i64 (longest s p : Nat), .int .u8 x] w.drew fun e w' => e = .returned (.int .i64 (longest (s ++ [x]) p : Nat)) ∧ w' = w.drew :=
    (grown_b s p (bords p) x A (some ⟨gb, 0, none⟩) p.length p.length c p.length w.drew h2.rd hb ((bords_ok p).mono (longest_le s p)) hn (by rw [bords_len]; exact hn)).mono fun _ _ h => ⟨h.1, h.2.symm⟩
  have HG := Lib.hid G
  have c0 : w.cell? ⟨q, 0, none⟩ = some (.slice A p.length c) := h1.cell 0
  have c1 : w.cell? ⟨q, 1, none⟩ = some (.slice (some ⟨gb, 0, none⟩) p.length p.length) := h1.cell 1
  have c2 : w.cell? ⟨q, 2, none⟩ = some (.int .i64 (longest s p : Nat)) := h1.cell 2
  have f2 := h1.frozen 2
  have hle := longest_le (s ++ [x]) p
  clear h1 h2 h3 hb G
  generalize longest (s ++ [x]) p = n at *
  generalize longest s p = m at *
  go_enter Tryd.func36, Tryd.ntmps36
  go_wp2
  go_still_tail 17, (by kernel_rfl)
  still_call HG.out
  repeat still_step
  refine wpStill_nil ?_
  change wpList _ _ _ _ _ w.drew
  go_wp2
  have HW := Lib.hid (H.out.set_ n)
  generalize hw2 : w.setCell ⟨q, 2, none⟩ (.int .i64 (n : Int)) = w2 at HW ⊢
  obtain ⟨A2, cc, _, _, h1, -⟩ := HW.out.1
  have d0 : w2.cell? ⟨q, 0, none⟩ = some (.slice A2 p.length cc) := h1.cell 0
  have d2 : w2.cell? ⟨q, 2, none⟩ = some (.int .i64 (n : Int)) := h1.cell 2
  have e1 : ((n : Int) == (p.length : Int)) = decide (n = p.length) := by rw [Bool.eq_iff_iff]; simp; omega
  have HE := Lib.hid e1
  clear h1 hw2 c0 c1 c2 f2 e1
  go_quiet (fail)
  go_wp2
  go_ret
  exact ⟨ret_bool HE.out, (HW.out.1.drew).drewN _, (HW.out.2.drew).drewN _⟩
end
end Go.Proofs.YtcipljpalohjiaaDoor
