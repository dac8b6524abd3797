/-
  The program's variables in memory; New, variables, Get, and those of none.
  Conditions: names and values of at most 9223372036854775807 bytes.
-/
import Derived.Test.YteapcahpkapbbaaMpS
import Derived.Test.YteapcahpkapbbaaEnRefE
namespace Go.Proofs.Yteapcahpkapbbaa
open Go.RowKit

/-- As many as there are. -/
theorem MapV.tight {w : World} {b n : Nat} {l : Vrs} (h : MapV w b n l) : MapV w b l.length l := by
  obtain ⟨D, ⟨es, clock, hb, F, hs, hD⟩, hd⟩ := h
  refine ⟨D, ⟨es, clock, hb, F, ?_, hD⟩, hd⟩
  have h1 := hd.size
  have h2 : Maps.size D = es.size := by
    rw [hD]
    simp [Maps.size, length_sorted]
  omega
theorem MapV.ne_blk {w : World} {b n g : Nat} {l : Vrs} {e : TypeId} {cs : Array Value} (h : MapV w b n l) (hb : Blk w g e cs) : g ≠ b := by
  rintro rfl
  obtain ⟨D, ⟨es, clock, hm, _⟩, _⟩ := h
  have : w.heap[g]? = some (.cells cs e (0, 0)) := hb
  rw [hm] at this; cases this

/-- The program's variables in block b, in the map m. -/
structure EnvV (b m : Nat) (l : Vrs) (F : Nat → Prop) (W : World) : Prop where
  blk : Blk W b 63 #[.map (some m)]
  map : MapV W m l.length l
  own : ∀ x, F x ↔ x = b ∨ x = m
  ok : VarsOk l
  nd : (l.map (·.1)).Nodup
def EnvT (b : Nat) (l : Vrs) : Thing := fun F W => ∃ m, EnvV b m l F W
theorem env_framed (b : Nat) (l : Vrs) : Framed (EnvT b l) := by
  constructor
  · rintro F S w w' ⟨m, h⟩ ho hd
    exact ⟨m, h.blk.only ho (hd b ((h.own b).2 (.inl rfl))), h.map.keep (ho.block m h.map.lt (hd m ((h.own m).2 (.inr rfl)))), h.own, h.ok, h.nd⟩
  · rintro F w ⟨m, h⟩ x hx
    rcases (h.own x).1 hx with rfl | rfl
    · exact h.blk.lt
    · exact h.map.lt
theorem env_ok {b : Nat} {l : Vrs} {F : Nat → Prop} {W : World} (h : EnvT b l F W) : VarsOk l ∧ (l.map (·.1)).Nodup := by
  obtain ⟨m, h⟩ := h
  exact ⟨h.ok, h.nd⟩

set_option maxRecDepth 100000 in
set_option maxHeartbeats 1000000 in
theorem New_is (w : World) : Calls Try.prog 10 #[] w fun e w' => ∃ b F, e = .returned (.pointer (some ⟨b, 0, none⟩)) ∧ EnvT b [] F w' ∧ (∀ x, F x → w.heap.size ≤ x) ∧ Below w.heap.size w w' := by
  have h1 := (MapV.new w)
  have h2 : Below w.heap.size w (w.alloc (.map #[] 0)) := (Below.refl _ w).alloc (Nat.le_refl _) _
  have hmk : ∀ W : World, (Instr.makeMap 54 none).run Try.prog W = .ok (.map (some W.heap.size)) (W.alloc (.map #[] 0)) := fun W => run_makeMap _ W
  have hsz : (w.alloc (.map #[] 0)).heap.size = w.heap.size + 1 := by simp
  have X := Lib.hid (And.intro h1 h2)
  clear h1 h2
  go_enter Try.func10, Try.ntmps10
  go_wp2
  go_ret
  obtain ⟨h1, h2⟩ := X.out
  refine ⟨_, fun x => x = w.heap.size + 1 ∨ x = w.heap.size, rfl, ⟨w.heap.size, ?_, ?_, fun x => Iff.rfl, ok_nil, List.nodup_nil⟩, ?_, h2.alloc (by rw [hsz]; omega) _⟩
  · have := Blk.new (w.alloc (.map #[] 0)) 63 #[.map (some w.heap.size)]
    rw [hsz] at this
    exact this
  · exact h1.below ((Below.refl _ _).alloc (Nat.le_refl _) _)
  · rintro x (rfl | rfl) <;> omega

set_option maxRecDepth 100000 in
set_option maxHeartbeats 1000000 in
theorem variables_is {b m : Nat} {l : Vrs} {F : Nat → Prop} {w : World} (h : EnvV b m l F w) : Calls Try.prog 27 #[.pointer (some ⟨b, 0, none⟩)] w fun e w' => e = .returned (.map (some m)) ∧ w = w' := by
  have c0 : w.cell? ⟨b, 0, none⟩ = some (.map (some m)) := h.blk.cell 0
  clear h
  go_enter Try.func27, Try.ntmps27
  go_wp2
  go_ret
  exact ⟨rfl, rfl⟩
set_option maxRecDepth 100000 in
set_option maxHeartbeats 1000000 in
theorem Nvariables_is (w : World) : Calls Try.prog 27 #[.pointer none] w fun e w' => e = .returned (.map none) ∧ w = w' := by
  go_enter Try.func27, Try.ntmps27
  go_wp2
  go_ret
  exact ⟨rfl, rfl⟩

set_option maxRecDepth 100000 in
set_option maxHeartbeats 1000000 in
theorem Get_is {b : Nat} {l : Vrs} {F : Nat → Prop} {w : World} (h : EnvT b l F w) (n : List Nat) (hn : ∀ c ∈ n, c < 256) (hnl : n.length ≤ 9223372036854775807) :
    Calls Try.prog 15 #[.pointer (some ⟨b, 0, none⟩), .string (str n)] w fun e w' => e = .returned (getE (getV l n)) ∧ Below w.heap.size w w' := by
  obtain ⟨m, h⟩ := h
  have hlook := h.map.look hn hnl
  have HV := Lib.hid (variables_is h)
  clear h hn hnl
  cases hg : getV l n with
  | some v =>
    rw [hg] at hlook
    clear hg
    go_enter Try.func15, Try.ntmps15
    go_wp2_with fail
    refine HV.out.mono ?_
    rintro e w1 ⟨rfl, rfl⟩
    go_wp2_with fail
    go_ret2
    exact ⟨rfl, Below.refl _ _⟩
  | none =>
    rw [hg] at hlook
    clear hg
    go_enter Try.func15, Try.ntmps15
    go_wp2_with fail
    refine HV.out.mono ?_
    rintro e w1 ⟨rfl, rfl⟩
    go_wp2_with fail
    go_ret2
    exact ⟨rfl, Below.refl _ _⟩
set_option maxRecDepth 100000 in
/-- What a map that isn't there tells. -/
theorem look_nil (n : ByteArray) (W : World) : (Instr.lookup 54 (.map none) (.string n) true).run Try.prog W = .ok (.tuple #[.string ⟨#[]⟩, .bool false]) W := by
  obtain ⟨i0, hi, hzz, _, _⟩ := info_parts (show (Try.prog.info? 9).map (fun i => (i.zero, i.size, i.bytes)) = some (some (.string ⟨#[]⟩), 1, 16) by kernel_rfl)
  have hz : (zeroValue 9).run Try.prog W = .ok (.string ⟨#[]⟩) W := by simp [zeroValue, typeInfo, hi, hzz]
  have hd : ∀ em (d : Nat), (Instr.checkKey em (d + 1) 9 (.string n)).run Try.prog W = .ok () W := fun em d => by
    simp [Instr.checkKey, run_underlying Try.underlying9]
  have hc : ∀ em, (Instr.checkKey em 10000 9 (.string n)).run Try.prog W = .ok () W := fun em => hd em 9999
  simp [Instr.lookup, run_underlying Try.underlying54, run_underlying Try.underlying9, hc, Instr.findKey, Instr.findNow, hz, Result.andThen]
set_option maxRecDepth 100000 in
set_option maxHeartbeats 1000000 in
theorem NGet_is (n : ByteArray) (w : World) : Calls Try.prog 15 #[.pointer none, .string n] w fun e w' => e = .returned (getE none) ∧ Below w.heap.size w w' := by
  have HV := Lib.hid (Nvariables_is w)
  have hlook := look_nil n w
  go_enter Try.func15, Try.ntmps15
  go_wp2_with fail
  refine HV.out.mono ?_
  rintro e w1 ⟨rfl, rfl⟩
  go_wp2_with fail
  go_ret2
  exact ⟨rfl, Below.refl _ _⟩
end Go.Proofs.Yteapcahpkapbbaa
