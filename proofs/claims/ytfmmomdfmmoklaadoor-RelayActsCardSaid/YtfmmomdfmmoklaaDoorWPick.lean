/-
  A list of picks as it comes in (Picks), and the contract of cuecardlaw07.great.
  Conditions: none.
-/
import Derived.Test.YtfmmomdfmmoklaaDoorWAlive
import Derived.Test.YtfmmomdfmmoklaaDoorArgs
import Derived.Deep.Slices
import Derived.Deep.Fields
import Derived.Deep.Strs
import Derived.ChangeSame
import Derived.ProofKit
namespace Go.Proofs.YtfmmomdfmmoklaaDoor
open Go.RowKit

/-- A pick: its kind, its number, its time, its slice, and the bytes in that. -/
structure PickV where
  kind : Int
  n : Int
  t : Int
  A : Option Addr
  c : Nat
  zs : List Nat
instance : Inhabited PickV := ⟨⟨0, 0, 0, none, 0, []⟩⟩

/-- The j-th pick lies behind the slice's address. -/
structure PickAt (W : World) (b o : Nat) (a : PickV) : Prop where
  kind : W.cell? ⟨b, o, none⟩ = some (.int .i64 a.kind)
  num : W.cell? ⟨b, o + 1, none⟩ = some (.int .i64 a.n)
  time : W.cell? ⟨b, o + 2, none⟩ = some (.int .i64 a.t)
  list : W.cell? ⟨b, o + 3, none⟩ = some (.slice a.A a.zs.length a.c)
  rd : Rd W (.slice a.A a.zs.length a.c) (bv a.zs)
  max : a.zs.length ≤ 9223372036854775807
  byte : ∀ d ∈ a.zs, d < 256

/-- A list of picks. -/
def Picks (W : World) (v : Value) (l : List PickV) : Prop :=
  l.length ≤ 9223372036854775807 ∧ ∃ A c, v = .slice A l.length c ∧ (0 < l.length → ∃ b o, A = some ⟨b, o, none⟩ ∧ ∀ j a, l[j]? = some a → PickAt W b (o + j * 4) a)

theorem PickAt.below {W W' : World} {b o : Nat} {a : PickV} (h : PickAt W b o a) (hb : Below W.heap.size W W') : PickAt W' b o a := by
  have lt := World.block_lt_of_cell? W _ h.kind
  refine ⟨(hb.cell (p := ⟨b, o, none⟩) lt).trans h.kind, (hb.cell (p := ⟨b, o + 1, none⟩) lt).trans h.num, (hb.cell (p := ⟨b, o + 2, none⟩) lt).trans h.time, (hb.cell (p := ⟨b, o + 3, none⟩) lt).trans h.list, ?_, h.max, h.byte⟩
  obtain ⟨A, c, e, hle, h1, hr⟩ := h.rd
  refine ⟨A, c, e, hle, h1, fun hp => ?_⟩
  obtain ⟨b', o', e', hx⟩ := hr hp
  exact ⟨b', o', e', fun j u hu => (hb.cell (p := ⟨b', o' + j, none⟩) (World.block_lt_of_cell? W _ (hx j u hu))).trans (hx j u hu)⟩

theorem Picks.below {W W' : World} {v : Value} {l : List PickV} (h : Picks W v l) (hb : Below W.heap.size W W') : Picks W' v l := by
  obtain ⟨hm, A, c, e, h⟩ := h
  refine ⟨hm, A, c, e, fun hp => ?_⟩
  obtain ⟨b, o, e', hx⟩ := h hp
  exact ⟨b, o, e', fun j a ha => (hx j a ha).below hb⟩

section
open Go.ChangeShapes Go.WideShapes Go.Deep
variable {H : Type} {enc : TypeId × Value → H} {W : World} {base : Nat} {sp : Nat → Bool} {held : Bool}

/-- Bytes behind a slice, as they are read. -/
theorem rd_of_trod {fuel : Nat} {v : Value} {y : DataW H × List MemPlace} (h : DataW.trod enc Tryd.prog W base sp held fuel 31 [v] = some y) :
    ∃ A n c zs, v = .slice A n c ∧ n = List.length zs ∧ n ≤ 9223372036854775807 ∧ Rd W (.slice A n c) (bv zs) ∧ ∀ d ∈ zs, d < 256 := by
  obtain ⟨A, n, c, zs, hv, hn, hm, hr, hw, -⟩ := nums_of_trod Tryd.underlying31 Tryd.underlying5 (show Tryd.prog.cellsOf 5 = 1 by kernel_rfl) h
  rw [nums_nat .u8 (fun z hz => (wf_u8 (hw z hz)).1)] at hr
  exact ⟨A, n, c, zs.map Int.toNat, hv, by rw [List.length_map]; exact hn, by simp only [maxLen] at hm; omega, hr, fun d hd => by obtain ⟨z, hz, rfl⟩ := List.mem_map.1 hd; have := wf_u8 (hw z hz); omega⟩

theorem pick_fields : ∃ f0 f1 f2 f3, Tryd.prog.underlying 37 = some (.struct #[f0, f1, f2, f3]) ∧ f0.offset = 0 ∧ f1.offset = 1 ∧ f2.offset = 2 ∧ f3.offset = 3 ∧ f0.type = 3 ∧ f1.type = 3 ∧ f2.type = 2 ∧ f3.type = 31 :=
  ⟨_, _, _, _, Tryd.underlying37, rfl, rfl, rfl, rfl, rfl, rfl, rfl, rfl⟩
theorem pick_cells : Tryd.prog.cellsOf 37 = 4 := by kernel_rfl
set_option maxRecDepth 100000 in
/-- The picks behind a slice, as they are read. -/
theorem picks_of_trod {fuel : Nat} {v : Value} {y : DataW H × List MemPlace} (h : DataW.trod enc Tryd.prog W base sp held fuel 22 [v] = some y) : ∃ l, Picks W v l := by
  rcases open_slice Tryd.underlying22 h with ⟨hcs, _⟩ | ⟨a, len, cap, m, n, D, Pl, hcs, hb, hl, hm, hmm, hx, hi⟩
  · injection hcs with hv _
    exact ⟨[], by simp, none, 0, hv, fun h => absurd h (by simp)⟩
  · injection hcs with hv _
    have hlm : len ≤ m := by rw [hmm]; split <;> omega
    obtain ⟨f0, f1, f2, f3, hf, o0, o1, o2, o3, t0, t1, t2, t3⟩ := pick_fields
    have key : ∀ i, i < len → ∃ x : PickV, (W.cell? (a.add (i * 4)) = some (.int .i64 x.kind) ∧ W.cell? (a.add (i * 4 + 1)) = some (.int .i64 x.n) ∧ W.cell? (a.add (i * 4 + 2)) = some (.int .i64 x.t) ∧ W.cell? (a.add (i * 4 + 3)) = some (.slice x.A x.zs.length x.c)) ∧ Rd W (.slice x.A x.zs.length x.c) (bv x.zs) ∧ x.zs.length ≤ 9223372036854775807 ∧ ∀ d ∈ x.zs, d < 256 := by
      intro i hil
      obtain ⟨cs', hc, ht⟩ := hi i (by omega)
      rw [pick_cells] at hc
      obtain ⟨_, hcl, hat⟩ := World.cells?_some hc
      obtain ⟨ys, n', _, hy, hlen, hyl, hg⟩ := DataW.trod_struct hf ht
      have g0 := hg 0 f0 rfl
      have g1 := hg 1 f1 rfl
      have g2 := hg 2 f2 rfl
      have g3 := hg 3 f3 rfl
      rw [o0, t0, int_cells] at g0
      rw [o1, t1, int_cells] at g1
      rw [o2, t2, int64_cells] at g2
      rw [o3, t3, bytes_cells] at g3
      match cs', hcl with
      | [v0, v1, v2, v3], _ =>
        have c0 := hat 0 (by omega)
        have c1 := hat 1 (by omega)
        have c2 := hat 2 (by omega)
        have c3 := hat 3 (by omega)
        rw [Go.Deep.add_add] at c0 c1 c2 c3
        match ys, hyl with
        | [y0, y1, y2, y3], _ =>
          simp only [List.drop, List.take, List.getElem?_cons_zero, List.getElem?_cons_succ] at g0 g1 g2 g3 c0 c1 c2 c3
          obtain ⟨k, e0, _, _⟩ := DataW.trod_int Tryd.underlying3 g0
          obtain ⟨sd, e1, _, _⟩ := DataW.trod_int Tryd.underlying3 g1
          obtain ⟨num, e2, _, _⟩ := DataW.trod_int Tryd.underlying2 g2
          obtain ⟨A, nn, c, zs, e3, hn, hmx, hrd, hby⟩ := rd_of_trod g3
          simp at e0 e1 e2
          subst e0 e1 e2 e3 hn
          exact ⟨⟨k, sd, num, A, c, zs⟩, ⟨by simpa using c0, c1, c2, c3⟩, hrd, hmx, hby⟩
    obtain ⟨f, hfx⟩ := choose_lt key
    refine ⟨(List.range len).map f, by simp only [maxLen] at hm; simp; omega, some a, cap, by simpa using hv, fun hp => ?_⟩
    have hp' : 0 < len := by simpa using hp
    have h0 := (hfx 0 hp').1.1
    obtain ⟨b, o, s⟩ := a
    have hs : s = none := by
      cases s with
      | none => rfl
      | some _ => simp [World.cell?, Addr.add] at h0; split at h0 <;> simp_all
    subst hs
    refine ⟨b, o, rfl, fun j x hx => ?_⟩
    have hj : j < len := by
      rcases Nat.lt_or_ge j len with h | h
      · exact h
      · rw [List.getElem?_eq_none (by simpa using h)] at hx; cases hx
    rw [List.getElem?_map, List.getElem?_range hj] at hx
    simp at hx
    subst hx
    obtain ⟨⟨k0, k1, k2, k3⟩, k4, k5, k6⟩ := hfx j hj
    rw [add_eq] at k0 k1 k2 k3
    exact ⟨k0, by rw [Nat.add_assoc]; exact k1, by rw [Nat.add_assoc]; exact k2, by rw [Nat.add_assoc]; exact k3, k4, k5, k6⟩
end

/-- More than is looked at. -/
def isGreat (l : List PickV) : Bool := decide (150 < l.length) || l.any (fun a => decide (100 < a.zs.length))

theorem great_any (v : Value) (l : List PickV) (w : World) (h : Picks w v l) : Calls Tryd.prog 10 #[v] w fun e w' => e = .returned (.bool (isGreat l)) ∧ Below w.heap.size w w' := by
  have HA := Lib.hid h
  obtain ⟨hm, A, c, rfl, hr⟩ := h
  by_cases hbig : 150 < l.length
  · have e : isGreat l = true := by simp [isGreat, hbig]
    rw [e]
    clear e hr
    go_enter Tryd.func10, Tryd.ntmps10
    go_wp2
    go_ret
    exact ⟨rfl, Below.refl _ _⟩
  · by_cases h0 : l.length = 0
    · obtain rfl : l = [] := List.eq_nil_of_length_eq_zero h0
      clear hr h0 hbig hm HA
      simp only [List.length_nil]
      go_enter Tryd.func10, Tryd.ntmps10
      go_wp2
      go_loopw [10] (fun i wr => i = .int .i64 0 ∧ wr = w) (fun _ _ => 0)
      case atStart => exact ⟨rfl, rfl⟩
      case round =>
        obtain ⟨rfl, rfl⟩ := hrel
        go_wp2
        go_ret
        exact ⟨rfl, Below.refl _ _⟩
    · obtain ⟨b, o, rfl, hx⟩ := hr (by omega)
      have X := Lib.hid hx
      clear hx hr
      have hpos : 0 < l.length := by omega
      clear h0 HA
      go_enter Tryd.func10, Tryd.ntmps10
      go_wp2
      go_loopw [4, 10] (fun _ i wr => ∃ k : Nat, k ≤ l.length ∧ i = .int .i64 k ∧ Below w.heap.size w wr ∧ Hid (∀ j a, l[j]? = some a → j < k → ¬ 100 < a.zs.length)) (fun _ i _ => l.length - (intOf i).toNat)
      case atStart => exact ⟨0, Nat.zero_le _, rfl, Below.refl _ _, fun _ _ _ h => absurd h (by omega)⟩
      case round =>
        obtain ⟨k, hk, rfl, hbel, HK⟩ := hrel
        by_cases hlt : k < l.length
        · obtain ⟨a, ha⟩ : ∃ a, l[k]? = some a := ⟨_, List.getElem?_eq_getElem hlt⟩
          have hat := (X.out k a ha)
          have k0 := (hbel.cell (p := ⟨b, o + k * 4, none⟩) (World.block_lt_of_cell? w _ hat.kind)).trans hat.kind
          have k1 := (hbel.cell (p := ⟨b, o + k * 4 + 1, none⟩) (World.block_lt_of_cell? w _ hat.num)).trans hat.num
          have k2 := (hbel.cell (p := ⟨b, o + k * 4 + 2, none⟩) (World.block_lt_of_cell? w _ hat.time)).trans hat.time
          have k3 := (hbel.cell (p := ⟨b, o + k * 4 + 3, none⟩) (World.block_lt_of_cell? w _ hat.list)).trans hat.list
          have HAT := Lib.hid hat
          have HA := Lib.hid ha
          have hmx := hat.max
          clear hat ha
          by_cases hg : 100 < a.zs.length
          · have hg' : (100 : Int) < a.zs.length := by omega
            go_wp2
            go_ret
            have e : isGreat l = true := by
              unfold isGreat
              rw [Bool.or_eq_true, List.any_eq_true]
              exact .inr ⟨a, List.mem_of_getElem? HA.out, by simpa using hg⟩
            exact ⟨by rw [e]; rfl, hbel.alloc hbel.size _⟩
          · have hg' : ¬ ((100 : Int) < a.zs.length) := by omega
            have HG := Lib.hid hg
            clear hg
            go_wp2
            go_roundw
            case rel =>
              refine ⟨k + 1, by omega, by go_num, hbel.alloc hbel.size _, fun j x hx hj => ?_⟩
              rcases Nat.lt_or_ge j k with h | h
              · exact HK.out j x hx h
              · obtain rfl : j = k := by omega
                rw [HA.out] at hx
                cases hx
                exact HG.out
            case measure => simp [intOf]; omega
        · obtain rfl : k = l.length := by omega
          have e : isGreat l = false := by
            unfold isGreat
            rw [Bool.or_eq_false_iff, List.any_eq_false]
            refine ⟨by simpa using hbig, fun a ha => ?_⟩
            obtain ⟨j, hj⟩ := List.mem_iff_getElem?.1 ha
            have := HK.out j a hj (List.getElem?_eq_some_iff.1 hj).1
            simpa using this
          have E := Lib.hid e
          clear e
          go_wp2
          go_ret
          exact ⟨by rw [E.out]; rfl, hbel⟩
end Go.Proofs.YtfmmomdfmmoklaaDoor
