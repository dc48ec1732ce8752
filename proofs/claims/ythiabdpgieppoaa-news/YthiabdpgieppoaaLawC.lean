import Derived.Test.YthiabdpgieppoaaLawB
namespace Go.Proofs.Ythiabdpgieppoaa
open Go.RowKit
set_option linter.unusedVariables false
set_option linter.unusedSimpArgs false
attribute [local go_sem ↓] Go.wp_at_zero Go.wp_at_succ

/-- one entry of the world's lists of events -/
structure El where
  a : Option Addr
  c : Nat
  sl : List Sl
def El.val (e : El) : Value := .slice e.a e.sl.length e.c
/-- the lists of events that came out -/
structure Lists (w : World) (a : Option Addr) (c : Nat) (l : List El) : Prop where
  row : Row w 97 1 a l.length c (l.map El.val)
  each : ∀ (i : Nat) e, l[i]? = some e → Owns w e.a e.c e.sl (markEv i)
theorem Lists.heap {w w' : World} {a : Option Addr} {c : Nat} {l : List El} (h : Lists w a c l) (hk : ∀ k, k < w.heap.size → w'.heap[k]? = w.heap[k]?) : Lists w' a c l :=
  ⟨ownsRow_of_heap h.row hk, fun i e he => (h.each i e he).heap hk⟩
theorem Lists.slot {w : World} {a : Option Addr} {c : Nat} {l : List El} (h : Lists w a c l) (k : Nat) (hk : k < l.length) : ∃ g, a = some ⟨g, 0, none⟩ ∧ w.cell? ⟨g, k, none⟩ = some (.slice l[k].a l[k].sl.length l[k].c) := by
  obtain ⟨g, e, _, _, hc, _⟩ := h.row.form (by omega)
  exact ⟨g, e, by rw [hc k (by omega)]; simp [El.val, hk]⟩

end Go.Proofs.Ythiabdpgieppoaa
