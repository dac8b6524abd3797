/-
  A map from texts to texts (map[string]string) in memory, as plain lists: made, read, written, counted, gone through.
  Conditions: none.
-/
import Derived.Test.YteapcahpkapbbaaEnMath
import Derived.Test.YteapcahpkapbbaaStrArg
import Derived.Test.YteapcahpkapbbaaSep
import Derived.Maps.OwnSet
import Derived.StringKeys
import Derived.Maps.RangeWalk
import Derived.Maps.Views
namespace Go.Proofs.Yteapcahpkapbbaa
open Go.RowKit
open Go.ChangeMaps

theorem lawS : Maps.Keyed Try.prog 9 := Maps.string_keyed Try.underlying9
noncomputable abbrev ElS : Value → Option (DataW Unit × List MemPlace) := plainElem Try.prog 9
def lk (s : List Nat) : Lit := .string (str s).data.toList
theorem keyS (s : List Nat) (hl : s.length ≤ 9223372036854775807) : keyOf Try.prog 9 (.string (str s)) = some (lk s) := WideMaps.keyOf_string_mk Try.underlying9 (by rw [str_len]; simp only [maxLen]; omega)
theorem elS (v : List Nat) (hl : v.length ≤ 9223372036854775807) : ElS (.string (str v)) = some (.lit (.string (str v).data.toList), []) := plainElem_string Try.underlying9 (by rw [str_len]; simp only [maxLen]; omega)
set_option maxRecDepth 100000 in
theorem key_inv {key : Value} {kl : Lit} (h : keyOf Try.prog 9 key = some kl) : ∃ x, key = .string x ∧ kl = .string x.data.toList := by
  cases key <;> simp [keyOf, Try.underlying9, mapKey] at h
  obtain ⟨_, rfl⟩ := h
  exact ⟨_, rfl, rfl⟩
set_option maxRecDepth 100000 in
theorem el_inv {v : Value} {y : DataW Unit × List MemPlace} (h : ElS v = some y) : ∃ c, v = .string c ∧ y = (.lit (.string c.data.toList), []) := by
  unfold ElS plainElem at h
  rw [Try.underlying9] at h
  cases v <;> simp at h
  obtain ⟨_, rfl⟩ := h
  exact ⟨_, rfl, rfl⟩
theorem ba_data {a b : ByteArray} (h : a.data.toList = b.data.toList) : a = b := ba_ext h
theorem lk_inj {s t : List Nat} (hs : ∀ c ∈ s, c < 256) (ht : ∀ c ∈ t, c < 256) (h : lk s = lk t) : s = t := by
  unfold lk at h
  injection h with h
  exact str_inj hs ht (ba_data h)
theorem lk_key (s : List Nat) (hl : s.length ≤ 9223372036854775807) : WideAt.IsKeyLit (lk s) := lawS.key (keyS s hl)

/-- What is known of the names and the values in a map. -/
def MapOk (l : Vrs) : Prop := ∀ p ∈ l, (∀ c ∈ p.1, c < 256) ∧ p.1.length ≤ 9223372036854775807 ∧ p.2.length ≤ 9223372036854775807
/-- What a map reads as. -/
structure MapD (D : DataW Unit) (l : Vrs) : Prop where
  has : ∀ s, (∀ c ∈ s, c < 256) → Maps.has D (lk s) = (getV l s).isSome
  at_ : ∀ s v, (∀ c ∈ s, c < 256) → getV l s = some v → ∀ z, D.atKey (lk s) z = .lit (.string (str v).data.toList)
  size : Maps.size D = l.length
  ok : MapOk l
/-- Block b of w is a map of these variables. -/
def MapV (w : World) (b n : Nat) (l : Vrs) : Prop := ∃ D, w.ownsMap Try.prog 9 ElS b n D ∧ MapD D l
section
variable {w w' : World} {b n : Nat} {l : Vrs}
theorem MapV.lt (h : MapV w b n l) : b < w.heap.size := by obtain ⟨D, h, _⟩ := h; exact h.lt
theorem MapV.keep (h : MapV w b n l) (e : w'.heap[b]? = w.heap[b]?) : MapV w' b n l := by
  obtain ⟨D, ⟨es, clock, hb, r⟩, hd⟩ := h
  exact ⟨D, ⟨es, clock, e.trans hb, r⟩, hd⟩
theorem MapV.below (h : MapV w b n l) (hb : Below w.heap.size w w') : MapV w' b n l := h.keep (hb.block b h.lt)
theorem MapV.new (w : World) : MapV (w.alloc (.map #[] 0)) w.heap.size 0 [] :=
  ⟨.map [], World.ownsMap_made w _ _ _, ⟨fun s _ => rfl, fun s v _ h => (by cases h), rfl, by simp [MapOk]⟩⟩
theorem MapD.put {D : DataW Unit} (hd : MapD D l) (ht : Maps.Tidy D) {s v : List Nat} (hs : ∀ c ∈ s, c < 256) (hsl : s.length ≤ 9223372036854775807) (hvl : v.length ≤ 9223372036854775807) : MapD (D.put (lk s) (.lit (.string (str v).data.toList))) (putV l s v) := by
  have hm := ht.isMap
  refine ⟨fun t htb => ?_, fun t x htb hg z => ?_, ?_, fun p hp => ?_⟩
  · rw [get_put]
    by_cases e : s = t
    · subst e; rw [if_pos rfl, Maps.has_put_same hm (lk_key s hsl)]; rfl
    · rw [if_neg e, Maps.has_put_other (fun h => e (lk_inj htb hs h).symm)]; exact hd.has t htb
  · rw [get_put] at hg
    by_cases e : s = t
    · subst e; rw [if_pos rfl] at hg; injection hg with hg; subst hg; exact Maps.atKey_put_same hm (lk_key s hsl) _ _
    · rw [if_neg e] at hg; rw [Maps.atKey_put_other (fun h => e (lk_inj htb hs h).symm)]; exact hd.at_ t x htb hg z
  · rw [Maps.size_put ht, put_len, hd.has s hs, hd.size]
    cases getV l s <;> simp
  · rcases put_mem hp with rfl | hp
    · exact ⟨hs, hsl, hvl⟩
    · exact hd.ok p hp
/-- m[s] = v. -/
theorem MapV.put (h : MapV w b n l) (hn : n < 9223372036854775807) {s v : List Nat} (hs : ∀ c ∈ s, c < 256) (hsl : s.length ≤ 9223372036854775807) (hvl : v.length ≤ 9223372036854775807) :
    ∃ w', (Instr.mapUpdate 54 (.map (some b)) (.string (str s)) (.string (str v))).run Try.prog w = .ok () w' ∧ MapV w' b (n + 1) (putV l s v) ∧ w.grownBy w' (some b) ∧ w'.heap.size = w.heap.size := by
  obtain ⟨D, h, hd⟩ := h
  obtain ⟨w', hrun, h1, h2⟩ := h.store lawS Try.underlying54 (by simp only [maxLen]; omega) (keyS s hsl) (elS v hvl)
  refine ⟨w', hrun, ⟨_, h1, hd.put (h.tidy lawS) hs hsl hvl⟩, h2.grown, ?_⟩
  obtain ⟨es, clock, es', clock', _, rfl⟩ := h2
  simp [setBlock]
set_option maxRecDepth 100000 in
/-- v, ok := m[s]. -/
theorem MapV.look (h : MapV w b n l) {s : List Nat} (hs : ∀ c ∈ s, c < 256) (hsl : s.length ≤ 9223372036854775807) :
    (Instr.lookup 54 (.map (some b)) (.string (str s)) true).run Try.prog w = .ok (match getV l s with | some v => .tuple #[.string (str v), .bool true] | none => .tuple #[.string ⟨#[]⟩, .bool false]) w := by
  obtain ⟨D, h, hd⟩ := h
  have hz : (zeroValue 9).run Try.prog w = .ok (.string ⟨#[]⟩) w := by
    obtain ⟨i0, hi, hzz, _, _⟩ := info_parts (show (Try.prog.info? 9).map (fun i => (i.zero, i.size, i.bytes)) = some (some (.string ⟨#[]⟩), 1, 16) by kernel_rfl)
    simp [zeroValue, typeInfo, hi, hzz]
  have hne : ElS (.string ⟨#[]⟩) = some (.lit (.string []), []) := plainElem_string (H := Unit) Try.underlying9 (s := ⟨#[]⟩) (by simp [maxLen, ByteArray.size])
  obtain ⟨v, ps, hrun, hv⟩ := h.look_ok lawS Try.underlying54 hz hne (keyS s hsl)
  obtain ⟨c, rfl, hy⟩ := el_inv hv
  injection hy with hy _
  rw [hrun, hd.has s hs]
  cases hg : getV l s with
  | some x =>
    rw [hd.at_ s x hs hg] at hy
    injection hy with hy
    injection hy with hy
    rw [← ba_data hy]
    rfl
  | none =>
    have hh := hd.has s hs
    rw [hg] at hh
    rw [Maps.atKey_of_not_has hh] at hy
    injection hy with hy
    injection hy with hy
    have : c = ⟨#[]⟩ := ba_data hy.symm
    rw [this]
    rfl
theorem MapV.len (h : MapV w b n l) (ty : TypeId) : (Builtin.len_ #[54] ty #[.map (some b)]).run Try.prog w = .ok (.int .i64 (l.length : Nat)) w := by
  obtain ⟨D, h, hd⟩ := h
  rw [h.len Try.underlying54 ty, hd.size]
end

theorem MapV.ne_row {w : World} {b n : Nat} {l : Vrs} {e : TypeId} {g : Option Nat} {v : Value} {xs : List Value} (h : MapV w b n l) (hr : Row w e g v xs) : g ≠ some b := by
  intro hg
  obtain ⟨D, ⟨es, clock, hb, _⟩, _⟩ := h
  obtain ⟨A, c, _, _, _, _, hgg⟩ := hr
  rcases hgg with ⟨_, e1⟩ | ⟨b', o, cs, _, e1, _, hh, _⟩
  · rw [e1] at hg; cases hg
  · rw [e1] at hg; injection hg with hg; subst hg; rw [hb] at hh; cases hh
/-! ### Gone through -/
/-- A range over the map under way: block r; so many are to come. -/
def MapR (w : World) (b r n : Nat) (l : Vrs) (cnt : Nat) : Prop := ∃ D left, w.ranges Try.prog 9 ElS b r n D left cnt ∧ MapD D l ∧ ∀ kl, left kl = true → Maps.has D kl = true
section
variable {w w' : World} {b r n cnt : Nat} {l : Vrs}
theorem MapR.map (h : MapR w b r n l cnt) : MapV w b n l := by obtain ⟨D, left, h, hd, _⟩ := h; exact ⟨D, h.owns, hd⟩
theorem MapR.left (h : MapR w b r n l cnt) : w.rangeLeft b r = cnt := by obtain ⟨D, left, h, _⟩ := h; exact h.left_eq
theorem MapR.lt (h : MapR w b r n l cnt) : r < w.heap.size := by obtain ⟨D, left, h, _⟩ := h; exact h.lt
theorem MapR.keep (h : MapR w b r n l cnt) (e1 : w'.heap[b]? = w.heap[b]?) (e2 : w'.heap[r]? = w.heap[r]?) : MapR w' b r n l cnt := by
  obtain ⟨D, left, ⟨es, clock, since, seen, c0, hb, F, hz, hD, hr, rest⟩, hd⟩ := h
  exact ⟨D, left, ⟨es, clock, since, seen, c0, e1.trans hb, F, hz, hD, e2.trans hr, rest⟩, hd⟩
theorem MapR.below (h : MapR w b r n l cnt) (hb : Below w.heap.size w w') : MapR w' b r n l cnt := h.keep (hb.block b h.map.lt) (hb.block r h.lt)
variable {ops : Array Oper} {rest : List Oper} {o : Oper} {a : Act} {Q : Exit → Act → World → Prop}
theorem wpList_range_S (hg : o.guard = none) (m : Operand) (hop : o.op = Op.range 54 m) (hm : a.eval m = .map (some b)) (h : MapV w b n l)
    (hK : ∀ w', Hid (MapR w' b w.heap.size n l l.length) → Hid (Below w.heap.size w w') → w'.heap.size = w.heap.size + 1 → wpList Try.prog ops Q rest (a.put o.dst (.pointer (some ⟨w.heap.size, 0, none⟩))) w') :
    wpList Try.prog ops Q (o :: rest) a w := by
  obtain ⟨D, h, hd⟩ := h
  refine wpList_range_own w hg m _ hop _ _ lawS Try.underlying54 ElS b n D hm h fun w' h1 h2 h3 => hK w' (Lib.hid ⟨D, _, by rw [hd.size] at h1; exact h1, hd, fun _ e => e⟩) (Lib.hid ⟨h2.os, h2.tape, h2.output, h2.size, fun i hi => h2.block i hi (by simp)⟩) h3
theorem wpList_next_S (hg : o.guard = none) (it : Operand) (hop : o.op = Op.next it false) (hit : a.eval it = .pointer (some ⟨r, 0, none⟩)) (h : MapR w b r n l cnt)
    (hDone : cnt = 0 → wpList Try.prog ops Q rest (a.put o.dst (.tuple #[.bool false])) w)
    (hMore : ∀ (s v : List Nat) (w' : World) (cnt' : Nat), Hid (getV l s = some v ∧ (∀ c ∈ s, c < 256) ∧ s.length ≤ 9223372036854775807 ∧ v.length ≤ 9223372036854775807) → Hid (MapR w' b r n l cnt') → cnt' < cnt → Hid (w.grownBy w' (some r)) → w'.heap.size = w.heap.size →
      (Instr.entry (.pointer (some ⟨r, 0, none⟩))).run Try.prog w' = .ok (.tuple #[.string (str s), .string (str v)]) w' → wpList Try.prog ops Q rest (a.put o.dst (.tuple #[.bool true, .string (str s), .string (str v)])) w') :
    wpList Try.prog ops Q (o :: rest) a w := by
  obtain ⟨D, left, h, hd, hl⟩ := h
  refine wpList_next_ranges w hg it hop _ lawS ElS (Value.string) (Value.string) (fun key kl hk => by obtain ⟨x, e, _⟩ := key_inv hk; exact ⟨x, e⟩) (fun v y hy => by obtain ⟨c, e, _⟩ := el_inv hy; exact ⟨c, e⟩) b r n D left cnt hit h (fun h0 _ => hDone h0) ?_
  intro x c kl y w' cnt' hkey hlk hv hat hrg hlt hgr hsz hen
  obtain ⟨s, rfl, hsb, _⟩ := str_of x
  obtain ⟨x', ex, rfl⟩ := key_inv hkey
  injection ex with ex
  subst ex
  have hh := hl _ hlk
  rw [show (Lit.string (str s).data.toList) = lk s from rfl, hd.has s hsb] at hh
  obtain ⟨v, hg⟩ := Option.isSome_iff_exists.1 hh
  obtain ⟨c', ec, rfl⟩ := el_inv hv
  injection ec with ec
  subst ec
  have ha := hd.at_ s v hsb hg (.lit (.int .i64 0))
  have hb := hat (.lit (.int .i64 0))
  rw [show (Lit.string (str s).data.toList) = lk s from rfl, ha] at hb
  injection hb with hb
  injection hb with hb
  obtain rfl : str v = c := ba_data hb
  have hp := hd.ok _ (get_mem hg)
  exact hMore s v w' cnt' (Lib.hid ⟨hg, hsb, hp.2.1, hp.2.2⟩) (Lib.hid ⟨D, _, hrg, hd, fun z hz => hl z (by simp only [Bool.and_eq_true] at hz; exact hz.1)⟩) hlt (Lib.hid hgr) hsz hen
/-- What turns one of the call's own blocks leaves the rest. -/
theorem Has.grownE {P : Thing} {N : Nat → Prop} {w0 : World} {g : Nat} (h : Has P N w0 w) (fP : Framed P) (hg : w.grownBy w' (some g)) (hN : N g) (h0 : w0.heap.size ≤ g) : Has P N w0 w' := by
  obtain ⟨F, h⟩ := h
  have ho : Only (fun b => b = g) w w' := ⟨hg.os, hg.tape, hg.output, hg.size, fun i hi hs => hg.block i hi (fun e => hs (by injection e))⟩
  exact ⟨F, fP.only h.it ho (fun b hb e => (h.np g hN).1 (e ▸ hb)), h.new, fun b hb => ⟨(h.np b hb).1, Nat.lt_of_lt_of_le (h.np b hb).2 ho.size⟩, ho.more' h.below (fun i hi e => by omega)⟩
/-- One more block, that a step has made. -/
theorem Has.moreE {P : Thing} {N : Nat → Prop} {w0 : World} (h : Has P N w0 w) (fP : Framed P) (hb : Below w.heap.size w w') (hs : w'.heap.size = w.heap.size + 1) : Has P (fun x => N x ∨ x = w.heap.size) w0 w' := by
  obtain ⟨F, h⟩ := h
  have ho : Only (fun _ => False) w w' := Only.of_below hb (Nat.le_refl _) _
  refine ⟨F, fP.only h.it ho (fun _ _ e => e), h.new, ?_, h.below.trans (hb.mono h.below.size)⟩
  rintro x (hx | rfl)
  · exact ⟨(h.np x hx).1, Nat.lt_of_lt_of_le (h.np x hx).2 hb.size⟩
  · exact ⟨fun hF => Nat.lt_irrefl _ (fP.lt h.it _ hF), by omega⟩
end
end Go.Proofs.Yteapcahpkapbbaa
