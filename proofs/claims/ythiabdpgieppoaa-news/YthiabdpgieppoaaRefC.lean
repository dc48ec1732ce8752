import Derived.Test.YthiabdpgieppoaaRefB
namespace Go.Proofs.Ythiabdpgieppoaa
open Go.RowKit
set_option linter.unusedVariables false
set_option linter.unusedSimpArgs false

theorem toRow {w : World} {base : Nat} {t : TypeId} {sz : Nat} {a : Option Addr} {n c : Nat} {xs : List Value} (h : w.ownsRow base t sz (.slice a n c) n xs) : Row w t sz a n c xs := by
  obtain ⟨h1, h2⟩ := h
  refine ⟨h1, ?_⟩
  rcases h2 with h2 | ⟨g, cap, cur, hv, hg, r⟩
  · exact Or.inl h2
  · exact Or.inr ⟨g, cap, cur, hv, Nat.zero_le _, r⟩
theorem MemR.setMerged {w : World} {b : Nat} {R : Ref} (h : MemR w b R) (m : Int) : MemR (w.setCell ⟨b, 12, none⟩ (.int .i64 m)) b { R with merged := m } := by
  have d : ∀ i o k, (R.fp b)[i]? = some o → i ≠ 0 → o = some k → k ≠ b := fun i o k hi h0 e f => by
    subst f; subst e
    exact h0 (h.dis i 0 k hi rfl)
  have K : Kept (fun k => k = b) w (w.setCell ⟨b, 12, none⟩ (.int .i64 m)) := (Kept.refl (fun k => k = b) w).setCell (fun _ => rfl) _
  refine ⟨?_, h.stp.kept K (fun k e => d 1 _ k rfl (by omega) e), h.src.kept K (fun k e => d 2 _ k rfl (by omega) e), h.all.kept K (fun k e => d 3 _ k rfl (by omega) e), h.asd.kept K (fun k e => d 4 _ k rfl (by omega) e), ?_, ?_, h.dis⟩
  · exact h.eng.set 12 _
  · intro i r hr
    obtain ⟨hi, rfl⟩ := List.getElem?_eq_some_iff.1 hr
    exact (h.mrk i _ hr).kept K (fun k e => d _ _ k (fp_src hi).1 (by omega) e)
  · intro i r hr
    obtain ⟨hi, rfl⟩ := List.getElem?_eq_some_iff.1 hr
    exact (h.sqs i _ hr).kept K (fun k e => d _ _ k (fp_src hi).2 (by omega) e)

/-- the least mark of the active ones among the first k sources -/
def Ref.active (R : Ref) (i : Nat) : Bool := (match R.srcs[i]? with | some r => r.inn | none => false) && !R.isIdle i
def Ref.leastOf (R : Ref) : Nat → Option Int
  | 0 => none
  | k + 1 => if R.active k then (match R.leastOf k with | none => some (R.mark k) | some m => if R.mark k < m then some (R.mark k) else some m) else R.leastOf k
/-- one more than the greatest time -/
def topOf (l : List Ev) : Option Int := l.foldl (fun o e => match o with | none => some (e.ts + 1) | some m => if m < e.ts + 1 then some (e.ts + 1) else some m) none
theorem topOf_snoc (l : List Ev) (e : Ev) : topOf (l ++ [e]) = match topOf l with | none => some (e.ts + 1) | some m => if m < e.ts + 1 then some (e.ts + 1) else some m := by
  unfold topOf; rw [List.foldl_append]; rfl
theorem topOf_none (l : List Ev) : topOf l = none ↔ l = [] := by
  constructor
  · intro h
    rcases List.eq_nil_or_concat l with e | ⟨L, x, e⟩
    · exact e
    · rw [e, List.concat_eq_append, topOf_snoc] at h
      split at h
      · simp at h
      · split at h <;> simp at h
  · rintro rfl; rfl
def Ref.aim (R : Ref) : Option Int := if (R.leastOf R.srcs.length).isSome then R.leastOf R.srcs.length else topOf (R.wait (-1))
def Ref.settled (R : Ref) : Ref := match R.aim with | some m => if R.merged < m then { R with merged := m } else R | none => R

theorem Ref.active_eq {R : Ref} {i : Nat} (hi : i < R.srcs.length) : R.active i = (R.srcs[i].inn && !R.isIdle i) := by simp [Ref.active, List.getElem?_eq_getElem hi]

end Go.Proofs.Ythiabdpgieppoaa
