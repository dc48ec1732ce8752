import Derived.ReadAgain
import Derived.ChangeOld
import Derived.ChangeReads
import Derived.DataReads
import Derived.Below
namespace Go.Proofs.YtghcololkgeoeabDoor
open Go.RowKit
set_option linter.unusedVariables false
set_option linter.unusedSimpArgs false

/-! What came in reads as it did, where the old blocks are as they were. -/
theorem mapM_mono {α β : Type} {f g : α → Option β} : ∀ {l : List α} {r : List β}, (∀ a b, f a = some b → g a = some b) → l.mapM f = some r → l.mapM g = some r := by
  intro l
  induction l with
  | nil => intro r _ h; simpa using h
  | cons a l ih =>
    intro r hf h
    rw [List.mapM_cons] at h ⊢
    cases ha : f a with
    | none => simp [ha] at h
    | some b =>
      cases hl : l.mapM f with
      | none => simp [ha, hl] at h
      | some bs =>
        simp [ha, hl] at h
        simp [hf a b ha, ih hf hl, h]
section
variable {H : Type} {enc : TypeId × Value → H} {P : Program} {w w' : World} {spare : Nat → Bool} {held : Bool} {base : Nat}
theorem trodStep_mono {r r' : TypeId → List Value → Option (DataW H × List MemPlace)} (hr : ∀ t cs x, r t cs = some x → r' t cs = some x) (hc : ∀ a n cs, w.cells? base a n = some cs → w'.cells? base a n = some cs)
    (hm : ∀ (b : Nat) (es : Array MapEntry) (cl : Nat), w.heap[b]? = some (Obj.map es cl) → w'.heap[b]? = some (Obj.map es cl)) {t : TypeId} {cs : List Value} {x : DataW H × List MemPlace} (h : DataW.trodStep enc P w base spare held r t cs = some x) : DataW.trodStep enc P w' base spare held r' t cs = some x := by
  unfold DataW.trodStep at h ⊢
  split at h
  case h_6 e a hu =>
    simp only [Option.map_eq_some_iff, Option.bind_eq_some_iff] at h ⊢
    obtain ⟨y, ⟨z, h1, h2⟩, h3⟩ := h
    exact ⟨y, ⟨z, hc _ _ _ h1, hr _ _ _ h2⟩, h3⟩
  case h_8 e a len cap hu =>
    simp only at h ⊢
    split at h
    · rename_i hcond
      rw [if_pos hcond]
      have he : ∀ (i : Nat) y, (w.cells? base (a.add (i * P.cellsOf e)) (P.cellsOf e)).bind (r e) = some y → (w'.cells? base (a.add (i * P.cellsOf e)) (P.cellsOf e)).bind (r' e) = some y := by
        intro i y hy
        simp only [Option.bind_eq_some_iff] at hy ⊢
        obtain ⟨z, h1, h2⟩ := hy
        exact ⟨z, hc _ _ _ h1, hr _ _ _ h2⟩
      simp only [Option.bind_eq_some_iff, Option.map_eq_some_iff] at h ⊢
      obtain ⟨els, h1, rest, h2, h3⟩ := h
      refine ⟨els, mapM_mono (fun i y hy => ?_) h1, rest, ?_, h3⟩
      · have := he i y (by simpa only [Option.bind_eq_some_iff] using hy)
        simpa only [Option.bind_eq_some_iff] using this
      · split at h2
        · rename_i hs
          rw [if_pos hs]
          refine mapM_mono (fun i y hy => ?_) h2
          have := he (len + i) y (by simpa only [Option.bind_eq_some_iff] using hy)
          simpa only [Option.bind_eq_some_iff] using this
        · rename_i hs
          rw [if_neg hs]; exact h2
    · simp at h
  case h_9 fs hu =>
    split at h
    · rename_i hl
      rw [if_pos hl]
      simp only [Option.map_eq_some_iff] at h ⊢
      obtain ⟨xs, h1, h2⟩ := h
      exact ⟨xs, mapM_mono (fun f y hy => hr _ _ _ hy) h1, h2⟩
    · simp at h
  case h_10 n e hu =>
    split at h
    · rename_i hl
      rw [if_pos hl]
      simp only [Option.map_eq_some_iff] at h ⊢
      obtain ⟨xs, h1, h2⟩ := h
      exact ⟨xs, mapM_mono (fun f y hy => hr _ _ _ hy) h1, h2⟩
    · simp at h
  case h_12 u v hu =>
    split at h
    · exact h
    · rename_i hn
      simp only [hn, Option.map_eq_some_iff] at h ⊢
      obtain ⟨y, h1, h2⟩ := h
      exact ⟨y, hr _ _ _ h1, h2⟩
    · simp at h
  case h_14 k e b hu =>
    cases hb : w.heap[b]? with
    | none => rw [hb] at h; simp at h
    | some o =>
      rw [hb] at h
      cases o with
      | map es cl =>
        rw [hm b es cl hb]
        simp only at h ⊢
        split at h
        · rename_i hcond
          rw [if_pos hcond]
          simp only [Option.bind_eq_some_iff] at h ⊢
          obtain ⟨entries, h1, h2⟩ := h
          refine ⟨entries, mapM_mono (fun z y hy => ?_) h1, h2⟩
          simp only [Option.bind_eq_some_iff] at hy ⊢
          obtain ⟨key, hk, hy⟩ := hy
          refine ⟨key, hk, ?_⟩
          split at hy
          · rename_i hf
            rw [if_pos hf]
            simp only [Option.map_eq_some_iff] at hy ⊢
            obtain ⟨q, h3, h4⟩ := hy
            exact ⟨q, hr _ _ _ h3, h4⟩
          · simp at hy
        · simp at h
      | _ => simp at h
  all_goals exact h
theorem trod_mono (hc : ∀ a n cs, w.cells? base a n = some cs → w'.cells? base a n = some cs) (hm : ∀ (b : Nat) (es : Array MapEntry) (cl : Nat), w.heap[b]? = some (Obj.map es cl) → w'.heap[b]? = some (Obj.map es cl)) :
    ∀ (n : Nat) (t : TypeId) (cs : List Value) (x : DataW H × List MemPlace), DataW.trod enc P w base spare held n t cs = some x → DataW.trod enc P w' base spare held n t cs = some x := by
  intro n
  induction n with
  | zero => intro t cs x h; simp [DataW.trod] at h
  | succ n ih =>
    intro t cs x h
    rw [DataW.trod_step] at h ⊢
    exact trodStep_mono ih hc hm h
theorem cells?_below (hb : Below w.heap.size w w') : ∀ a n cs, w.cells? base a n = some cs → w'.cells? base a n = some cs := by
  intro a n cs h
  unfold World.cells? at h ⊢
  split at h
  · rename_i hle
    rw [if_pos hle]
    exact mapM_mono (fun i v hv => (hb.cell (World.block_lt_of_cell? w _ hv)).trans hv) h
  · simp at h
theorem trodAll_below (hb : Below w.heap.size w w') : ∀ {ts : List TypeId} {vs : List Value} {ds : List (DataW H)} {ps : List MemPlace}, DataW.TrodAll enc P w base spare held ts vs ds ps → DataW.TrodAll enc P w' base spare held ts vs ds ps := by
  intro ts
  induction ts with
  | nil =>
    intro vs ds ps h
    cases vs <;> cases ds <;> exact h
  | cons t ts ih =>
    intro vs ds ps h
    cases vs with
    | nil => exact h
    | cons v vs =>
      cases ds with
      | nil => exact h
      | cons d ds =>
        obtain ⟨p, q, ⟨fuel, h1⟩, h2, h3⟩ := h
        refine ⟨p, q, ⟨fuel, trod_mono (cells?_below hb) (fun b es cl hh => ?_) fuel _ _ _ h1⟩, ih h2, h3⟩
        have hlt : b < w.heap.size := by
          rcases Nat.lt_or_ge b w.heap.size with hlt | hge
          · exact hlt
          · rw [Array.getElem?_eq_none hge] at hh; cases hh
        exact (hb.block b hlt).trans hh
/-- what came in is read again: the old spare room, where all of it was read -/
theorem trodAll_again {T : TypeId → Prop} (K : Kids P T) (hz : ∀ t e, T t → P.underlying t = some (.slice e) → 0 < P.cellsOf e) (hb : Below w.heap.size w w') {ts : List TypeId} {vs : List Value} {ds : List (DataW H)} {ps : List MemPlace} (hT : ∀ t ∈ ts, T t)
    (h : DataW.TrodAll enc P w base (fun _ => true) true ts vs ds ps) : DataW.TrodAll enc P w' base (fun b => decide (b < w.heap.size)) true ts vs ds ps :=
  trodAll_below hb (DataW.TrodAll.respare K hz hT h (fun p hp => by simpa using h.lt p hp))
/-! values of plain types -/
theorem trod_int1 {t : TypeId} {k : IntKind} {n : Nat} {cs : List Value} {x : DataW H × List MemPlace} (ht : P.underlying t = some (.int k)) (h : DataW.trod enc P w base spare held n t cs = some x) : ∃ m, cs = [.int k m] := by
  cases n with
  | zero => simp [DataW.trod] at h
  | succ n =>
    rw [DataW.trod_step] at h
    unfold DataW.trodStep at h
    rw [ht] at h
    split at h <;> simp_all
theorem trod_str1 {t : TypeId} {n : Nat} {cs : List Value} {x : DataW H × List MemPlace} (ht : P.underlying t = some .string) (h : DataW.trod enc P w base spare held n t cs = some x) : ∃ s, cs = [.string s] ∧ s.size ≤ maxLen := by
  cases n with
  | zero => simp [DataW.trod] at h
  | succ n =>
    rw [DataW.trod_step] at h
    unfold DataW.trodStep at h
    rw [ht] at h
    split at h <;> simp_all
end
end Go.Proofs.YtghcololkgeoeabDoor
