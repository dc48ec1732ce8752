import Derived.Test.YthiabdpgieppoaaRefD
import Derived.Test.YthiabdpgieppoaaOrd
namespace Go.Proofs.Ythiabdpgieppoaa
open Go.RowKit
set_option linter.unusedVariables false
set_option linter.unusedSimpArgs false
attribute [local go_sem ↓] Go.wp_at_zero Go.wp_at_succ

/-- the cells that an append to a source's row reads -/
theorem kS {w : World} {b : Nat} {R : Ref} (h : Blk w b 61 R.vals) : w.cell? ⟨b, 9, none⟩ = some (.slice (some ⟨R.sg, 0, none⟩) R.srcs.length R.sc) ∧ w.cell? ⟨b, 12, none⟩ = some (.int .i64 R.merged) := ⟨h.cell 9, h.cell 12⟩

/-- behind the append: the sources' row can be written -/
theorem tS {w w1 : World} {b : Nat} {R : Ref} {i g cap : Nat} {x : Value} {w0 : World} (h : MemR w b R) (hb0 : Below w.heap.size w w0) (hi : i < R.srcs.length)
    (hown : w1.ownsRow 0 3 1 (.slice (some ⟨g, 0, none⟩) (R.srcs[i].marks.length + 1) cap) (R.srcs[i].marks.length + 1) (ints R.srcs[i].marks ++ [x]))
    (hg : w0.grownBy w1 (Value.slice R.srcs[i].ma R.srcs[i].marks.length R.srcs[i].mc).ownBlock) (hat : (Value.slice R.srcs[i].ma R.srcs[i].marks.length R.srcs[i].mc).ownBlock = some g ∨ g = w.heap.size + 1) :
    Blk w1 b 61 R.vals ∧ w1.cell? ⟨R.sg, i * 5 + 2, none⟩ = some (.slice R.srcs[i].ma R.srcs[i].marks.length R.srcs[i].mc) ∧ w1.frozen? ⟨R.sg, i * 5 + 2, none⟩ = false ∧ Kept (fun k => some k ∈ R.fp b) w w1 := by
  rw [bk_own] at hg
  have K1 : Kept (fun k => bk R.srcs[i].ma = some k) w w1 := ((Kept.refl (fun k => bk R.srcs[i].ma = some k) w).below hb0).grown hg (fun k _ e => e)
  have B1 := h.but (j1 := 5 + 2 * i) (j2 := 5 + 2 * i) K1 (fp_src hi).1 (fp_src hi).1 (fun k e => Or.inl e)
  obtain ⟨g', hg', _, _, hc, hf⟩ := (B1.src (by omega) (by omega)).form (by omega)
  simp only [Option.some.injEq, Addr.mk.injEq, and_true] at hg'
  refine ⟨B1.eng (by omega) (by omega), ?_, ?_, K1.mono (fun k _ e => List.mem_of_getElem? ((fp_src hi).1.trans (by rw [e])))⟩
  · rw [hg', hc _ (by omega), flatMap_get _ 5 RSrc.len _ i 2 (by omega) hi]; rfl
  · rw [hg']; exact hf _
/-- behind the append: the sources' row can be written -/
theorem tQ {w w1 : World} {b : Nat} {R : Ref} {i g cap : Nat} {x : Value} {w0 : World} (h : MemR w b R) (hb0 : Below w.heap.size w w0) (hi : i < R.srcs.length)
    (hown : w1.ownsRow 0 3 1 (.slice (some ⟨g, 0, none⟩) (R.srcs[i].seqs.length + 1) cap) (R.srcs[i].seqs.length + 1) (ints R.srcs[i].seqs ++ [x]))
    (hg : w0.grownBy w1 (Value.slice R.srcs[i].qa R.srcs[i].seqs.length R.srcs[i].qc).ownBlock) (hat : (Value.slice R.srcs[i].qa R.srcs[i].seqs.length R.srcs[i].qc).ownBlock = some g ∨ g = w.heap.size + 1) :
    Blk w1 b 61 R.vals ∧ w1.cell? ⟨R.sg, i * 5 + 3, none⟩ = some (.slice R.srcs[i].qa R.srcs[i].seqs.length R.srcs[i].qc) ∧ w1.frozen? ⟨R.sg, i * 5 + 3, none⟩ = false ∧ Kept (fun k => some k ∈ R.fp b) w w1 := by
  rw [bk_own] at hg
  have K1 : Kept (fun k => bk R.srcs[i].qa = some k) w w1 := ((Kept.refl (fun k => bk R.srcs[i].qa = some k) w).below hb0).grown hg (fun k _ e => e)
  have B1 := h.but (j1 := 6 + 2 * i) (j2 := 6 + 2 * i) K1 (fp_src hi).2 (fp_src hi).2 (fun k e => Or.inl e)
  obtain ⟨g', hg', _, _, hc, hf⟩ := (B1.src (by omega) (by omega)).form (by omega)
  simp only [Option.some.injEq, Addr.mk.injEq, and_true] at hg'
  refine ⟨B1.eng (by omega) (by omega), ?_, ?_, K1.mono (fun k _ e => List.mem_of_getElem? ((fp_src hi).2.trans (by rw [e])))⟩
  · rw [hg', hc _ (by omega), flatMap_get _ 5 RSrc.len _ i 3 (by omega) hi]; rfl
  · rw [hg']; exact hf _

/-- the answers' shape: the error, the engine behind -/
def JoinR (R : Ref) (s : Int) : Int := if s < 0 ∨ (R.srcs.length : Int) ≤ s then 3 else if (match R.srcs[s.toNat]? with | some r => r.inn | none => false) then 4 else 0

end Go.Proofs.Ythiabdpgieppoaa
