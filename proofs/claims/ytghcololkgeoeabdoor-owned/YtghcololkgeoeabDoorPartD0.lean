import Derived.Test.YtghcololkgeoeabDoorPartB0
namespace Go.Proofs.YtghcololkgeoeabDoor
open Go.RowKit
set_option linter.unusedVariables false
set_option linter.unusedSimpArgs false
attribute [local go_sem ↓] Go.wp_at_zero Go.wp_at_succ

theorem allM_new (w : World) (m : Ev) (k : Nat) (hk : k ≤ maxLen) : AllM (w.alloc (.cells (evs (List.replicate k m)).toArray 37)) m ⟨some ⟨w.heap.size, 0, none⟩, k, k⟩ := by
  have hb := blk_alloc w (evs (List.replicate k m)) 37
  unfold Blk at hb
  refine ⟨evs_rep_len m k, Or.inr ⟨w.heap.size, k, _, rfl, Nat.zero_le _, hb, Nat.le_refl _, hk, ?_, ?_⟩⟩
  · simp only [List.size_toArray]; exact evs_rep_len m k
  · simp only; rw [List.take_of_length_le (by rw [evs_rep_len]; omega)]
theorem AllM.news {w : World} {m : Ev} {g k c : Nat} (h : AllM w m ⟨some ⟨g, 0, none⟩, k, c⟩) (hk : 0 < k) : ∀ j u, (evs (List.replicate k m))[j]? = some u → w.cell? ((⟨g, 0, none⟩ : Addr).add j) = some u := by
  intro j u hu
  have hlt := (List.getElem?_eq_some_iff.1 hu).1
  rw [evs_rep_len] at hlt
  obtain ⟨g', hg', _, _, hcell, _⟩ := h.form (by simp only; omega)
  simp only [Option.some.injEq, Addr.mk.injEq, and_true] at hg'
  subst hg'
  have := hcell j (by simp only; omega)
  rw [hu] at this
  have hz : (⟨g, 0, none⟩ : Addr).add j = ⟨g, j, none⟩ := by simp [Addr.add]; intro h; exact h.symm
  rw [hz]; exact this
theorem rep_drop (L : List Ev) (E : Ev) (k : Nat) (hk : k < L.length) : (List.replicate k E ++ L.drop k).set k E = List.replicate (k + 1) E ++ L.drop (k + 1) := by
  rw [List.set_append_right _ _ (by simp), List.length_replicate, Nat.sub_self, List.drop_eq_getElem_cons hk, List.set_cons_zero, List.replicate_succ', List.append_assoc]
  rfl

end Go.Proofs.YtghcololkgeoeabDoor
