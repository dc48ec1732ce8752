import Derived.Test.YtghcololkgeoeabDoorPartK4
namespace Go.Proofs.YtghcololkgeoeabDoor
open Go.RowKit
set_option linter.unusedVariables false
set_option linter.unusedSimpArgs false
attribute [local go_sem ↓] Go.wp_at_zero Go.wp_at_succ

theorem before_ahead (a b : Ev) : beforeB a b = aheadB a b := by
  unfold beforeB aheadB
  by_cases h1 : a.ts = b.ts
  · by_cases h2 : a.src = b.src
    · simp [h1, h2]
    · simp [h1, h2]
  · simp [h1]
/-- acts that lie there -/
def ActsAt (w : World) (sa : Option Addr) (acts : List ActR) : Prop := ∀ (i : Nat) (hi : i < acts.length), acts[i].ok ∧ ∃ b off, sa = some ⟨b, off, none⟩ ∧ b < w.heap.size ∧ ∀ o, o < 8 → w.cell? ⟨b, off + i * 8 + o, none⟩ = acts[i].cells[o]?
theorem ActsAt.below {w w' : World} {sa : Option Addr} {acts : List ActR} (h : ActsAt w sa acts) (hb : Below w.heap.size w w') : ActsAt w' sa acts := by
  intro i hi
  obtain ⟨h1, b, off, h2, h3, h4⟩ := h i hi
  exact ⟨h1, b, off, h2, Nat.lt_of_lt_of_le h3 hb.size, fun o ho => (hb.cell (p := ⟨b, off + i * 8 + o, none⟩) h3).trans (h4 o ho)⟩
theorem EvAt.below' {w w' : World} {a : Option Addr} {l : List Ev} (h : EvAt w a l) (hb : Below w.heap.size w w') : EvAt w' a l := by
  intro k hk
  obtain ⟨g, ha, hg, c0, c1, c2, c3, c4⟩ := h k hk
  exact ⟨g, ha, Nat.lt_of_lt_of_le hg hb.size, (hb.cell (p := ⟨g, k * 5, none⟩) hg).trans c0, (hb.cell (p := ⟨g, k * 5 + 1, none⟩) hg).trans c1, (hb.cell (p := ⟨g, k * 5 + 2, none⟩) hg).trans c2, (hb.cell (p := ⟨g, k * 5 + 3, none⟩) hg).trans c3, (hb.cell (p := ⟨g, k * 5 + 4, none⟩) hg).trans c4⟩
structure OrdK (w wr : World) (b cb n : Nat) (c : Cfg) (X : Eng) (old : List Ev) (oa : Option Addr) : Prop where
  mem : MemX wr b X
  lk : ∃ N R, Like N X R
  n : X.srcs.length = n
  bel : Below w.heap.size w wr
  fp : ∀ k, some k ∈ X.fp b → w.heap.size ≤ k
  box : Blk wr cb 26 c.vals
  nb : some cb ∉ X.fp b
  ev : EvAt wr oa old
  no : ∀ (k : Nat), k < old.length → ∀ g, oa = some ⟨g, 0, none⟩ → some g ∉ X.fp b
  pre : old <+: X.log
theorem OrdK.evo {w wr w' : World} {b cb n : Nat} {c : Cfg} {X X' : Eng} {old : List Ev} {oa : Option Addr} (h : OrdK w wr b cb n c X old oa) (e : EvoX wr b X w' X') (g : Grow X X') (hl : ∃ N R, Like N X' R) : OrdK w w' b cb n c X' old oa := by
  refine ⟨e.mem, hl, g.n.trans h.n, kept_toBelow h.bel e.kept h.fp, ?_, h.box.kept e.kept h.nb, ?_, ?_, ?_, h.pre.trans g.log⟩
  · intro k hk
    rcases e.grow k hk with f | f
    · exact h.fp k f
    · exact Nat.le_trans h.bel.size f
  · intro hk
    rcases e.grow cb hk with f | f
    · exact h.nb f
    · have := h.box.lt; omega
  · intro k hk
    obtain ⟨g', ha, hg, c0, c1, c2, c3, c4⟩ := h.ev k hk
    have hn := h.no k hk g' ha
    have hbk := e.kept.block g' hg hn
    have hc : ∀ o, w'.cell? ⟨g', o, none⟩ = wr.cell? ⟨g', o, none⟩ := fun o => by unfold World.cell?; rw [hbk]
    exact ⟨g', ha, Nat.lt_of_lt_of_le hg e.kept.size, (hc _).trans c0, (hc _).trans c1, (hc _).trans c2, (hc _).trans c3, (hc _).trans c4⟩
  · intro k hk g' ha hf
    obtain ⟨g2, ha2, hg, _⟩ := h.ev k hk
    rw [ha] at ha2
    simp only [Option.some.injEq, Addr.mk.injEq, and_true] at ha2
    rcases e.grow g' hf with f | f
    · exact h.no k hk g' ha f
    · omega
theorem OrdK.below {w wr w' : World} {b cb n : Nat} {c : Cfg} {X : Eng} {old : List Ev} {oa : Option Addr} (h : OrdK w wr b cb n c X old oa) (hb : Below wr.heap.size wr w') : OrdK w w' b cb n c X old oa := h.evo (EvoX.below h.mem hb) (Grow.refl _) h.lk
/-- what Log gave -/
theorem OrdK.logged {w wr w' : World} {b cb n cc : Nat} {c : Cfg} {X : Eng} {old : List Ev} {oa a : Option Addr} (h : OrdK w wr b cb n c X old oa) (hb : Below wr.heap.size wr w') (hro : w'.ownsRow wr.heap.size 37 5 (.slice a X.log.length cc) X.log.length (evs X.log)) :
    OrdK w w' b cb n c X X.log a ∧ EvAt w' a X.log ∧ ((a = none ∧ X.log.length = 0 ∧ cc = 0) ∨ ∃ g, a = some ⟨g, 0, none⟩ ∧ X.log.length ≤ cc) := by
  have hrow : Row w' 37 5 a X.log.length cc (evs X.log) := ⟨hro.1, hro.2.imp id (fun ⟨g, cap, cur, h1, h2, h3⟩ => ⟨g, cap, cur, h1, Nat.zero_le _, h3⟩)⟩
  have hev : EvAt w' a X.log := EvAt.of_row (n := 0) hrow
  have h' := h.below hb
  refine ⟨⟨h'.mem, h'.lk, h'.n, h'.bel, h'.fp, h'.box, h'.nb, hev, ?_, List.prefix_refl _⟩, hev, ?_⟩
  · intro k hk g ha hf
    have := (hro.lt g (by rw [bk_own, ha]; rfl)).1
    have := h.mem.fp_lt g hf
    omega
  · rcases hrow.2 with ⟨e, h0⟩ | ⟨g, cap, cur, hv, _, _, hnc, _⟩
    · left
      simp only [Value.slice.injEq] at e
      exact ⟨e.1, h0, e.2.2⟩
    · right
      simp only [Value.slice.injEq] at hv
      exact ⟨g, hv.1, by rw [hv.2.2]; exact hnc⟩
theorem OrdK.sorted {w wr : World} {b cb n : Nat} {c : Cfg} {X : Eng} {old : List Ev} {oa : Option Addr} (h : OrdK w wr b cb n c X old oa) : (∀ (k : Nat) (hk : k + 1 < X.log.length), beforeB X.log[k] X.log[k + 1] = true) ∧ (∀ (k : Nat) (hk : k < X.log.length), X.log[k].ts < X.merged) ∧ SaneX X := by
  obtain ⟨N, R, hl⟩ := h.lk
  refine ⟨fun k hk => ?_, fun k hk => ?_, hl.sane⟩
  · rw [before_ahead]
    exact List.pairwise_iff_getElem.1 hl.sim.logS k (k + 1) (by omega) hk (by omega)
  · rw [hl.sim.merged]; exact hl.sim.lo _ (List.getElem_mem hk)
end Go.Proofs.YtghcololkgeoeabDoor
