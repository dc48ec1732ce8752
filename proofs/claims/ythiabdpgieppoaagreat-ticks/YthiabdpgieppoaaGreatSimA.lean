import Derived.Test.YthiabdpgieppoaaGreatRefL
import Derived.Test.YthiabdpgieppoaaGreatRefJd
namespace Go.Proofs.YthiabdpgieppoaaGreat
open Go.RowKit
set_option linter.unusedVariables false
set_option linter.unusedSimpArgs false
theorem ahead_irr (a : Ev) : aheadB a a = false := by simp [aheadB]
theorem ahead_iff (a c : Ev) : aheadB a c = true ↔ a.ts < c.ts ∨ (a.ts = c.ts ∧ (a.src < c.src ∨ (a.src = c.src ∧ a.seq < c.seq))) := by simp [aheadB]
theorem ahead_trans {a b c : Ev} (h : aheadB a b = true) (k : aheadB b c = true) : aheadB a c = true := by rw [ahead_iff] at *; omega
theorem ahead_asym {a b : Ev} (h : aheadB a b = true) (k : aheadB b a = true) : False := by rw [ahead_iff] at *; omega
/-- two events that are not of one source with one number -/
def Apart2 (a b : Ev) : Prop := ¬ (a.src = b.src ∧ a.seq = b.seq)
theorem ahead_total {a b : Ev} (h : Apart2 a b) : aheadB a b = true ∨ aheadB b a = true := by unfold Apart2 at h; rw [ahead_iff, ahead_iff]; omega
/-- in the events' order -/
def Srt (l : List Ev) : Prop := l.Pairwise (fun a b => aheadB a b = true)
theorem srt_unique : ∀ {l k : List Ev}, l.Perm k → Srt l → Srt k → l = k := by
  intro l
  induction l with
  | nil => intro k hp _ _; exact (List.nil_perm.1 hp).symm
  | cons a l ih =>
    intro k hp hl hk
    cases k with
    | nil => exact absurd hp.symm (by simp)
    | cons b k =>
      unfold Srt at hl hk
      rw [List.pairwise_cons] at hl hk
      have hab : a = b := by
        refine Classical.byContradiction fun hne => ?_
        have h1 : a ∈ b :: k := hp.mem_iff.1 (by simp)
        have h2 : b ∈ a :: l := hp.mem_iff.2 (by simp)
        have h1' : a ∈ k := by rcases List.mem_cons.1 h1 with e | e; exact absurd e hne; exact e
        have h2' : b ∈ l := by rcases List.mem_cons.1 h2 with e | e; exact absurd e.symm hne; exact e
        exact ahead_asym (hl.1 b h2') (hk.1 a h1')
      subst hab
      rw [ih ((List.perm_cons a).1 hp) hl.2 hk.2]
/-- number i is left and below the mark -/
def Cand (m : Int) (l : List Ev) (T : List Bool) (i : Nat) : Prop := ∃ e, l[i]? = some e ∧ T[i]? = some false ∧ e.ts < m
theorem bestTo_spec (m : Int) (l : List Ev) (T : List Bool) (hd : ∀ (i j : Nat) (a b : Ev), l[i]? = some a → l[j]? = some b → i ≠ j → Apart2 a b) : ∀ k,
    match bestTo m l T k with
    | none => ∀ i, i < k → ¬ Cand m l T i
    | some j => Cand m l T j ∧ ∀ i, i < k → i ≠ j → Cand m l T i → ∀ a b, l[j]? = some a → l[i]? = some b → aheadB a b = true := by
  intro k
  induction k with
  | zero => simp [bestTo]
  | succ k ih =>
    have step : ¬ Cand m l T k → bestTo m l T (k + 1) = bestTo m l T k → (match bestTo m l T (k + 1) with
        | none => ∀ i, i < k + 1 → ¬ Cand m l T i
        | some j => Cand m l T j ∧ ∀ i, i < k + 1 → i ≠ j → Cand m l T i → ∀ a b, l[j]? = some a → l[i]? = some b → aheadB a b = true) := by
      intro hn he
      rw [he]
      cases hb : bestTo m l T k with
      | none =>
        rw [hb] at ih
        intro i hi
        by_cases hik : i = k
        · rw [hik]; exact hn
        · exact ih i (by omega)
      | some j =>
        rw [hb] at ih
        refine ⟨ih.1, fun i hi hij hc => ?_⟩
        by_cases hik : i = k
        · exact absurd (hik ▸ hc) hn
        · exact ih.2 i (by omega) hij hc
    by_cases hc : Cand m l T k
    · obtain ⟨e, he, ht, hm⟩ := id hc
      have e1 : bestTo m l T (k + 1) = match bestTo m l T k with
        | none => some k
        | some j => match l[j]? with | some f => if aheadB e f then some k else some j | none => some j := by
        rw [bestTo, he, ht]; simp only; rw [if_neg (by omega)]; rfl
      cases hb : bestTo m l T k with
      | none =>
        rw [hb] at ih e1
        simp only at e1
        rw [e1]
        refine ⟨hc, fun i hi hik hci => absurd hci (ih i (by omega))⟩
      | some j =>
        rw [hb] at ih e1
        obtain ⟨⟨f, hf, htj, hfm⟩, hall⟩ := ih
        simp only [hf] at e1
        have hjk : j ≠ k := fun h => by
          have := (bestTo_lt m l T k j hb).1
          omega
        by_cases ha : aheadB e f = true
        · rw [if_pos ha] at e1
          rw [e1]
          refine ⟨hc, fun i hi hik hci a b h1 h2 => ?_⟩
          rw [he] at h1
          cases h1
          by_cases hij : i = j
          · subst hij; rw [hf] at h2; cases h2; exact ha
          · exact ahead_trans ha (hall i (by omega) hij hci f b hf h2)
        · rw [if_neg ha] at e1
          rw [e1]
          refine ⟨⟨f, hf, htj, hfm⟩, fun i hi hij hci a b h1 h2 => ?_⟩
          by_cases hik : i = k
          · subst hik
            rw [he] at h2; cases h2
            rw [hf] at h1; cases h1
            rcases ahead_total (hd j i f e hf he hij.symm) with h | h
            · exact h
            · exact absurd h ha
          · exact hall i (by omega) hij hci a b h1 h2
    · refine step hc ?_
      rw [bestTo]
      split
      · rename_i e h1 h2
        rw [if_pos]
        exact Classical.byContradiction fun h => hc ⟨e, h1, h2, by omega⟩
      · rfl
/-- those that are taken -/
def pick : List Bool → List Ev → List Ev
  | true :: T, e :: l => e :: pick T l
  | false :: T, _ :: l => pick T l
  | _, _ => []
theorem pick_set : ∀ (T : List Bool) (l : List Ev) (j : Nat) (e : Ev), T[j]? = some false → l[j]? = some e → (pick (T.set j true) l).Perm (pick T l ++ [e]) := by
  intro T
  induction T with
  | nil => intro l j e h; simp at h
  | cons t T ih =>
    intro l j e h1 h2
    cases l with
    | nil => simp at h2
    | cons a l =>
      cases j with
      | zero =>
        simp only [List.getElem?_cons_zero, Option.some.injEq] at h1 h2
        subst h1; subst h2
        simp only [List.set_cons_zero, pick]
        exact (List.perm_append_singleton a (pick T l)).symm
      | succ j =>
        simp only [List.getElem?_cons_succ] at h1 h2
        have := ih l j e h1 h2
        cases t
        · simpa only [List.set_cons_succ, pick] using this
        · simp only [List.set_cons_succ, pick, List.cons_append]; exact this.cons a
theorem pick_none : ∀ (l : List Ev), pick (List.replicate l.length false) l = [] := by
  intro l
  induction l with
  | nil => rfl
  | cons a l ih => simpa [List.replicate_succ, pick] using ih
theorem pick_full (m : Int) : ∀ (T : List Bool) (l : List Ev), T.length = l.length → (∀ (i : Nat), ¬ Cand m l T i) → (∀ (i : Nat) (e : Ev), l[i]? = some e → T[i]? = some true → e.ts < m) → pick T l = l.filter (fun e => decide (e.ts < m)) := by
  intro T
  induction T with
  | nil => intro l hl _ _; cases l with | nil => rfl | cons a l => simp at hl
  | cons t T ih =>
    intro l hl hc ht
    cases l with
    | nil => simp at hl
    | cons a l =>
      have hi := ih l (by simpa using hl) (fun i hci => hc (i + 1) (by obtain ⟨e, h1, h2, h3⟩ := hci; exact ⟨e, by simpa using h1, by simpa using h2, h3⟩)) (fun i e h1 h2 => ht (i + 1) e (by simpa using h1) (by simpa using h2))
      cases t with
      | true =>
        have := ht 0 a (by simp) (by simp)
        simp [pick, hi, this]
      | false =>
        have : ¬ a.ts < m := fun h => hc 0 ⟨a, by simp, by simp, h⟩
        simp [pick, hi, this]
theorem selRun_inv (m : Int) (l : List Ev) (hd : ∀ (i j : Nat) (a b : Ev), l[i]? = some a → l[j]? = some b → i ≠ j → Apart2 a b) : ∀ n,
    (selRun m l n).2.Perm (pick (selRun m l n).1 l) ∧ Srt (selRun m l n).2 ∧ (∀ (i : Nat) (e : Ev), l[i]? = some e → (selRun m l n).1[i]? = some true → e.ts < m) ∧
      ∀ x ∈ (selRun m l n).2, ∀ (i : Nat) (e : Ev), l[i]? = some e → Cand m l (selRun m l n).1 i → aheadB x e = true := by
  intro n
  induction n with
  | zero =>
    refine ⟨by simp [selRun, pick_none], by simp [selRun, Srt], ?_, by simp [selRun]⟩
    intro i e h1 h2
    simp [selRun, List.getElem?_replicate] at h2
  | succ n ih =>
    have hs := bestTo_spec m l (selRun m l n).1 hd l.length
    rw [selRun]
    cases hb : bestTo m l (selRun m l n).1 l.length with
    | none => exact ih
    | some j =>
      rw [hb] at hs
      obtain ⟨h1, h2, h3, h4⟩ := ih
      obtain ⟨⟨e, he, ht, hm⟩, hall⟩ := hs
      simp only [he, Option.toList_some]
      refine ⟨(h1.append_right [e]).trans (pick_set _ _ _ _ ht he).symm, ?_, ?_, ?_⟩
      · unfold Srt
        rw [List.pairwise_append]
        refine ⟨h2, by simp, fun x hx y hy => ?_⟩
        simp only [List.mem_singleton] at hy
        subst hy
        exact h4 x hx j y he ⟨y, he, ht, hm⟩
      · intro i f hf hT
        by_cases hij : j = i
        · subst hij; rw [he] at hf; cases hf; exact hm
        · rw [List.getElem?_set_ne hij] at hT
          exact h3 i f hf hT
      · intro x hx i f hf hci
        have hij : i ≠ j := fun h => by
          subst h
          obtain ⟨_, _, h, _⟩ := hci
          rw [List.getElem?_set] at h
          simp at h
        have hci' : Cand m l (selRun m l n).1 i := by
          obtain ⟨f', a1, a2, a3⟩ := hci
          rw [List.getElem?_set_ne (Ne.symm hij)] at a2
          exact ⟨f', a1, a2, a3⟩
        rcases List.mem_append.1 hx with hx | hx
        · exact h4 x hx i f hf hci'
        · simp only [List.mem_singleton] at hx
          subst hx
          exact hall i (List.getElem?_eq_some_iff.1 hf).1 hij hci' x f he hf
/-- the log is the one list in order of the events below the mark -/
theorem selRun_log (m : Int) (l L : List Ev) (n : Nat) (hd : ∀ (i j : Nat) (a b : Ev), l[i]? = some a → l[j]? = some b → i ≠ j → Apart2 a b) (hb : bestTo m l (selRun m l n).1 l.length = none)
    (hp : L.Perm (l.filter (fun e => decide (e.ts < m)))) (hs : Srt L) : (selRun m l n).2 = L := by
  obtain ⟨h1, h2, h3, _⟩ := selRun_inv m l hd n
  have hsp := bestTo_spec m l (selRun m l n).1 hd l.length
  rw [hb] at hsp
  refine srt_unique ?_ h2 hs
  rw [pick_full m _ l (selRun_len m l n).1 (fun i hc => hsp i (by obtain ⟨e, h, _⟩ := hc; exact (List.getElem?_eq_some_iff.1 h).1) hc) h3] at h1
  exact h1.trans hp.symm
theorem apart_get {l : List Ev} (h : l.Pairwise Apart2) : ∀ (i j : Nat) (a b : Ev), l[i]? = some a → l[j]? = some b → i ≠ j → Apart2 a b := by
  intro i j a b hi hj hij
  obtain ⟨h1, rfl⟩ := List.getElem?_eq_some_iff.1 hi
  obtain ⟨h2, rfl⟩ := List.getElem?_eq_some_iff.1 hj
  rw [List.pairwise_iff_getElem] at h
  rcases Nat.lt_or_gt_of_ne hij with hlt | hlt
  · exact h i j h1 h2 hlt
  · intro ⟨e1, e2⟩; exact h j i h2 h1 hlt ⟨e1.symm, e2.symm⟩
end Go.Proofs.YthiabdpgieppoaaGreat
