/-
  What is printed are bytes.
  Conditions: bytes.
-/
import Derived.Test.YtphmhglebeapaaaTRPrint
namespace Go.Proofs.Ytphmhglebeapaaa

theorem tb_bytes {kind : Int} {b : Bool} {c : Nat} (hc : c < 256) : ∀ d ∈ tb kind b c, d < 256 := by
  intro d hd
  rcases tb_cases kind b c with h | h
  · rw [h.1] at hd; rw [List.mem_singleton.1 hd]; exact hc
  · rw [h] at hd
    simp only [octs, List.mem_cons, List.not_mem_nil, or_false] at hd
    omega
theorem textT_bytes {kind : Int} {b : Bool} {t : List Nat} (h : ∀ c ∈ t, c < 256) : ∀ d ∈ textT kind b t, d < 256 := by
  intro d hd
  cases t with
  | nil => simp [textT] at hd
  | cons c t =>
    rw [textT] at hd
    rcases List.mem_append.1 hd with hd | hd
    · exact tb_bytes (h c (by simp)) d hd
    · obtain ⟨x, hx, hd⟩ := List.mem_flatMap.1 hd
      exact tb_bytes (h x (List.mem_cons_of_mem _ hx)) d hd
theorem partsT_bytes {kind : Int} : ∀ {ps : List Prt} {b : Bool}, (∀ p ∈ ps, ∀ c ∈ p.s, c < 256) → ∀ d ∈ partsT kind b ps, d < 256
  | [], b, _, d, hd => by simp [partsT] at hd
  | p :: ps, b, h, d, hd => by
    rw [partsT] at hd
    rcases List.mem_append.1 hd with hd | hd
    · unfold partT at hd
      split at hd
      · rcases List.mem_cons.1 hd with hd | hd
        · omega
        · exact h p (by simp) d hd
      · exact textT_bytes (h p (by simp)) d hd
    · exact partsT_bytes (fun q hq => h q (List.mem_cons_of_mem _ hq)) d hd
theorem wordT_bytes {x : Wrd} (h : bytesW x) : ∀ d ∈ wordT x, d < 256 := by
  intro d hd
  unfold wordT at hd
  split at hd
  · rcases List.mem_append.1 hd with hd | hd
    · rcases List.mem_append.1 hd with hd | hd
      · simp at hd; omega
      · exact partsT_bytes h d hd
    · simp at hd; omega
  · split at hd
    · exact partsT_bytes h d hd
    · rcases List.mem_append.1 hd with hd | hd
      · rcases List.mem_append.1 hd with hd | hd
        · simp at hd; omega
        · obtain ⟨p, hp, hd⟩ := List.mem_flatMap.1 hd
          exact h p hp d hd
      · simp at hd; omega
theorem wordsT_bytes : ∀ {ws : List Wrd}, (∀ x ∈ ws, bytesW x) → ∀ d ∈ wordsT ws, d < 256
  | [], _, d, hd => by simp [wordsT] at hd
  | [x], h, d, hd => by rw [wordsT] at hd; exact wordT_bytes (h x (by simp)) d hd
  | x :: y :: ws, h, d, hd => by
    rw [wordsT] at hd
    rcases List.mem_append.1 hd with hd | hd
    · rcases List.mem_append.1 hd with hd | hd
      · exact wordT_bytes (h x (by simp)) d hd
      · simp at hd; omega
    · exact wordsT_bytes (fun q hq => h q (List.mem_cons_of_mem _ hq)) d hd
theorem printT_bytes {l : List Cmd} (h : ∀ c ∈ l, bytesC c) : ∀ d ∈ printT l, d < 256 := by
  intro d hd
  obtain ⟨c, hc, hd⟩ := List.mem_flatMap.1 hd
  unfold cmdT at hd
  rcases List.mem_append.1 hd with hd | hd
  · exact wordsT_bytes (h c hc) d hd
  · simp at hd; omega
end Go.Proofs.Ytphmhglebeapaaa
