import Derived.Test.YtghcololkgeoeabDoorPartK7
namespace Go.Proofs.YtghcololkgeoeabDoor
open Go.RowKit
set_option linter.unusedVariables false
set_option linter.unusedSimpArgs false
attribute [local go_sem ↓] Go.wp_at_zero Go.wp_at_succ

/-! ### the ledger in memory -/
structure LG where
  all : List Ev
  aa : Option Addr
  ac : Nat
  aside : List Ev
  da : Option Addr
  dc : Nat
def LG.fp (G : LG) (gb : Nat) : List (Option Nat) := [some gb, bk G.aa, bk G.da]
/-! ### engine and ledger in one world -/
/-! ### what the document's engine keeps -/
theorem settled_keep (R : Ref) : R.settled.all = R.all ∧ R.settled.aside = R.aside ∧ R.settled.srcs = R.srcs ∧ R.settled.c = R.c := by
  unfold Ref.settled
  split
  · split <;> exact ⟨rfl, rfl, rfl, rfl⟩
  · exact ⟨rfl, rfl, rfl, rfl⟩
/-- when nobody is active, nothing waits -/
def Stl (R : Ref) : Prop := (∀ i, R.active i = false) → R.wait (-1) = []
theorem active_srcs {R S : Ref} (h : R.srcs = S.srcs) (hc : R.c = S.c) (i : Nat) : R.active i = S.active i := by unfold Ref.active Ref.isIdle; rw [h, hc]
theorem stl_settled (R : Ref) : Stl R.settled := by
  intro ha
  obtain ⟨k1, k2, k3, k4⟩ := settled_keep R
  have ha' : ∀ i, R.active i = false := fun i => by rw [← active_srcs k3 k4 i]; exact ha i
  have hl : R.leastOf R.srcs.length = none := by
    cases h : R.leastOf R.srcs.length with
    | none => rfl
    | some m =>
      obtain ⟨i, _, hi, _⟩ := leastOf_mem _ _ h
      rw [ha' i] at hi; cases hi
  have haim : R.aim = topOf (R.wait (-1)) := by unfold Ref.aim; rw [hl]; simp
  rw [show R.settled.wait (-1) = R.all.filter (waits R.settled.merged (-1)) by unfold Ref.wait; rw [k1]]
  rw [List.filter_eq_nil_iff]
  intro e he hw
  have hw1 : R.settled.merged ≤ e.ts := by simp [waits] at hw; exact hw
  have hmem : R.merged ≤ e.ts → e ∈ R.wait (-1) := fun h => by
    unfold Ref.wait
    rw [List.mem_filter]
    exact ⟨he, by simp [waits]; exact h⟩
  unfold Ref.settled at hw1
  rw [haim] at hw1
  cases ht : topOf (R.wait (-1)) with
  | none =>
    rw [ht] at hw1
    have h0 := (topOf_none _).1 ht
    have := hmem hw1
    rw [h0] at this
    cases this
  | some m =>
    obtain ⟨⟨e0, h0, h1⟩, h2⟩ := topOf_spec _ m ht
    rw [ht] at hw1
    simp only at hw1
    split at hw1
    · have := h2 e (hmem (by simp only at hw1; omega))
      simp only at hw1
      omega
    · have hw0 : waits R.merged (-1) e0 = true := (List.mem_filter.1 h0).2
      simp [waits] at hw0
      omega
structure Keeps (R R' : Ref) : Prop where
  all : R'.all = R.all
  aside : R'.aside = R.aside
  stl : Stl R → Stl R'
theorem Keeps.refl (R : Ref) : Keeps R R := ⟨rfl, rfl, id⟩
theorem keeps_settled {R S : Ref} (h1 : S.all = R.all) (h2 : S.aside = R.aside) : Keeps R S.settled := ⟨(settled_keep S).1.trans h1, (settled_keep S).2.1.trans h2, fun _ => stl_settled S⟩
theorem joinR_keeps {R R' : Ref} {A z : Int} (h : JoinsR R A z R') : Keeps R R' := by
  rcases h with ⟨_, _, rfl⟩ | ⟨i, p, _, _, ⟨_, _, rfl⟩ | ⟨_, _, r', hi, _, rfl⟩⟩
  · exact Keeps.refl _
  · exact Keeps.refl _
  · exact keeps_settled rfl rfl
theorem leaveR_keeps {R R' : Ref} {A z : Int} (h : LeavesR R A z R') : Keeps R R' := by
  rcases h with ⟨_, _, rfl⟩ | ⟨i, p, _, _, ⟨_, _, rfl⟩ | ⟨_, _, hi, rfl⟩⟩
  · exact Keeps.refl _
  · exact Keeps.refl _
  · exact keeps_settled rfl rfl
theorem punctsR_keeps {R R' : Ref} {A ts z : Int} (h : PunctsR R A ts z R') : Keeps R R' := by
  rcases h with ⟨_, _, rfl⟩ | ⟨i, p, _, _, ⟨_, _, rfl⟩ | ⟨_, _, _, rfl⟩ | ⟨_, _, _, hi, r', _, rfl⟩⟩
  · exact Keeps.refl _
  · exact Keeps.refl _
  · exact Keeps.refl _
  · exact keeps_settled rfl rfl
theorem tickR_keeps {R R' : Ref} {n z : Int} (h : TicksR R n z R') : Keeps R R' := by
  rcases h with ⟨_, _, rfl⟩ | ⟨_, _, rfl⟩
  · exact Keeps.refl _
  · exact keeps_settled rfl rfl
/-- what Push makes of an event, as the ledger writes it down -/
theorem pushesR_led {R R' : Ref} {A z : Int} {E : Ev} (h : PushesR R A E z R') : (z ≠ 0 ∧ R' = R) ∨ (z = 0 ∧ Stl R' ∧ ∃ (i : Nat) (r : RSrc), A = i ∧ R.srcs[i]? = some r ∧ r.inn = true ∧ greatest r.seqs (-1) < E.seq ∧
    ((R.stays i E = true ∧ R'.all = R.all ++ [R.taken i E] ∧ R'.aside = R.aside) ∨ (R.stays i E = false ∧ R.c.policy = 1 ∧ R'.all = R.all ∧ R'.aside = R.aside ++ [R.taken i E]) ∨ (R.stays i E = false ∧ R.c.policy ≠ 1 ∧ R'.all = R.all ∧ R'.aside = R.aside))) := by
  rcases h with ⟨_, rfl, rfl⟩ | ⟨i, r, rfl, hr, h⟩
  · exact Or.inl ⟨by decide, rfl⟩
  · rcases h with ⟨h, rfl, rfl⟩ | ⟨_, _, rfl, rfl⟩ | ⟨hw, hf, rfl, hi, ma, mc, qa, qc, R5, hP, rfl⟩
    · exact Or.inl ⟨h, rfl⟩
    · exact Or.inl ⟨by decide, rfl⟩
    · right
      refine ⟨rfl, stl_settled _, i, r, rfl, hr, ?_⟩
      obtain ⟨k1, k2, _, _⟩ := settled_keep R5
      unfold wrongOf at hw
      have hin : r.inn = true := by
        cases e : r.inn with
        | true => rfl
        | false => rw [if_pos e] at hw; cases hw
      rw [if_neg (by simp [hin])] at hw
      have hsq : greatest r.seqs (-1) < E.seq := by
        by_cases h : greatest r.seqs (-1) < E.seq
        · exact h
        · split at hw
          · cases hw
          · split at hw
            · cases hw
            · rw [if_pos (by omega)] at hw; cases hw
      refine ⟨hin, hsq, ?_⟩
      rw [k1, k2]
      rcases hP with ⟨h1, aa, ac, rfl⟩ | ⟨h1, h2, da, dc, rfl⟩ | ⟨h1, h2, rfl⟩
      · exact Or.inl ⟨h1, rfl, rfl⟩
      · exact Or.inr (Or.inl ⟨h1, h2, rfl, rfl⟩)
      · exact Or.inr (Or.inr ⟨h1, h2, rfl, rfl⟩)
/-- the engine and its ledger -/
structure Kp (n : Nat) (c : Cfg) (X : Eng) (G : LG) (R : Ref) : Prop where
  lk : ∃ N, Like N X R
  all : G.all = R.all
  aside : G.aside = R.aside
  stl : Stl R
  n : X.srcs.length = n
  c : R.c = c
theorem like_lengths {N : Nat} {X : Eng} {R : Ref} (h : Like N X R) : X.log.length + X.wait.length = R.all.length := by
  have := h.sim.perm.length_eq
  simpa using this
theorem like_n {N : Nat} {X : Eng} {R : Ref} (h : Like N X R) : X.srcs.length = R.srcs.length := h.sim.n
end Go.Proofs.YtghcololkgeoeabDoor
