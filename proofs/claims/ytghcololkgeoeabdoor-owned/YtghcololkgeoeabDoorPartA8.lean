import Derived.Test.YtghcololkgeoeabDoorPartA7
namespace Go.Proofs.YtghcololkgeoeabDoor
open Go.RowKit
set_option linter.unusedVariables false
set_option linter.unusedSimpArgs false
attribute [local go_sem ↓] Go.wp_at_zero Go.wp_at_succ


theorem push_close {R R1 RZ R5 R6 : Ref} {i : Nat} {E EE : Ev} {r1 : RSrc} {st late : Bool} {qa : Option Addr} {qc : Nat} (hi : i < R.srcs.length)
    (hr0 : r1 = { R.srcs[i] with sil := 0, marks := if R.isIdle i then R.srcs[i].marks ++ [R.merged] else R.srcs[i].marks, ma := r1.ma, mc := r1.mc }) (hR1 : R1 = { R with srcs := R.srcs.set i r1 }) (hi1 : i < R1.srcs.length)
    (hRZ : RZ = { R1 with srcs := R1.srcs.set i { R1.srcs[i] with seqs := R1.srcs[i].seqs ++ [EE.seq], qa := qa, qc := qc } }) (hpl : Placed RZ st EE R5) (hi5 : i < R5.srcs.length)
    (h6 : (late = true ∧ R6 = R5) ∨ (late = false ∧ ∃ ma mc, R6 = { R5 with srcs := R5.srcs.set i { R5.srcs[i] with marks := R5.srcs[i].marks ++ [EE.ts - R5.c.slack], ma := ma, mc := mc } }))
    (hEE : EE = R.taken i E) (hst : R.stays i E = st) (hlate : R.late i E = late) : PushOk R i E R6.settled := by
  have hseq : EE.seq = E.seq := by rw [hEE]; rfl
  have eR1 : R1.srcs[i] = r1 := by subst hR1; simp
  have eZ : RZ = { R with srcs := R.srcs.set i { r1 with seqs := r1.seqs ++ [E.seq], qa := qa, qc := qc } } := by
    rw [hRZ, eR1, hR1, hseq]
    simp [List.set_set]
  have e1 : r1.seqs = R.srcs[i].seqs := by rw [hr0]
  have e2 : r1.marks = R.touched i R.srcs[i] := by rw [hr0]; rfl
  have hsrc : ∀ ma mc (ms : List Int), ms = (if R.late i E then R.touched i R.srcs[i] else R.touched i R.srcs[i] ++ [(R.taken i E).ts - R.c.slack]) → ({ r1 with marks := ms, ma := ma, mc := mc, seqs := r1.seqs ++ [E.seq], qa := qa, qc := qc } : RSrc) = pushSrc R i E R.srcs[i] ma mc qa qc := by
    intro ma mc ms hms
    unfold pushSrc
    rw [hms, e1, hr0]
  rcases h6 with ⟨hl, e6⟩ | ⟨hl, ma, mc, e6⟩
  · refine ⟨hi, r1.ma, r1.mc, qa, qc, R5, ?_, by rw [e6]⟩
    rw [← hsrc r1.ma r1.mc r1.marks (by rw [hlate, hl]; simpa using e2), hst, ← hEE]
    rw [eZ] at hpl
    exact hpl
  · have hsl : R5.c = R.c ∧ R5.srcs = RZ.srcs := by
      rcases hpl with ⟨_, aa, ac, e⟩ | ⟨_, _, da, dc, e⟩ | ⟨_, _, e⟩
      · rw [e, eZ]; exact ⟨rfl, rfl⟩
      · rw [e, eZ]; exact ⟨rfl, rfl⟩
      · rw [e, eZ]; exact ⟨rfl, rfl⟩
    have e5 : R5.srcs[i] = { r1 with seqs := r1.seqs ++ [E.seq], qa := qa, qc := qc } := by
      have : R5.srcs[i]? = RZ.srcs[i]? := by rw [hsl.2]
      rw [List.getElem?_eq_getElem hi5, eZ] at this
      simpa [List.getElem?_set, hi] using this
    refine ⟨hi, ma, mc, qa, qc, R6, ?_, rfl⟩
    rw [← hsrc ma mc (r1.marks ++ [EE.ts - R.c.slack]) (by rw [hlate, hl, e2, hEE]; simp), hst, ← hEE]
    rw [e5, hsl.1, hsl.2, eZ] at e6
    simp only [List.set_set] at e6
    rw [eZ] at hpl
    rcases hpl with ⟨a, aa, ac, e⟩ | ⟨a, p, da, dc, e⟩ | ⟨a, p, e⟩
    · exact Or.inl ⟨a, aa, ac, by rw [e6, e]⟩
    · exact Or.inr (Or.inl ⟨a, p, da, dc, by rw [e6, e]⟩)
    · exact Or.inr (Or.inr ⟨a, p, by rw [e6, e]⟩)
end Go.Proofs.YtghcololkgeoeabDoor
