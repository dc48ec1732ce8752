import Derived.Test.YthiabdpgieppoaaLawA
namespace Go.Proofs.Ythiabdpgieppoaa
open Go.RowKit
set_option linter.unusedVariables false
set_option linter.unusedSimpArgs false
attribute [local go_sem ↓] Go.wp_at_zero Go.wp_at_succ

/-- a slice of events that are all one -/
structure Sl where
  a : Option Addr
  n : Nat
  c : Nat
def Sl.val (s : Sl) : Value := .slice s.a s.n s.c
/-- a list that came out, and what append made of it: all full of one mark -/
structure Owns (w : World) (a : Option Addr) (c : Nat) (sl : List Sl) (m : Ev) : Prop where
  row : Row w 59 1 a sl.length c (sl.map Sl.val)
  len : sl.length ≤ 1000
  each : ∀ s ∈ sl, Row w 36 5 s.a s.n s.c (evs (List.replicate s.n m)) ∧ s.n ≤ 100000
theorem Owns.heap {w w' : World} {a : Option Addr} {c : Nat} {sl : List Sl} {m : Ev} (h : Owns w a c sl m) (hk : ∀ k, k < w.heap.size → w'.heap[k]? = w.heap[k]?) : Owns w' a c sl m :=
  ⟨ownsRow_of_heap h.row hk, h.len, fun s hs => ⟨ownsRow_of_heap (h.each s hs).1 hk, (h.each s hs).2⟩⟩
theorem Owns.slot {w : World} {a : Option Addr} {c : Nat} {sl : List Sl} {m : Ev} (h : Owns w a c sl m) (k : Nat) (hk : k < sl.length) : ∃ g, a = some ⟨g, 0, none⟩ ∧ w.cell? ⟨g, k, none⟩ = some (.slice sl[k].a sl[k].n sl[k].c) := by
  obtain ⟨g, e, _, _, hc, _⟩ := h.row.form (by omega)
  exact ⟨g, e, by rw [hc k (by omega)]; simp [Sl.val, hk]⟩

end Go.Proofs.Ythiabdpgieppoaa
