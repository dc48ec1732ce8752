import Derived.OrdersHeld
import Derived.Below
import Derived.Deep.RegionHeld3
import Derived.Deep.AppendLies
namespace Go.Proofs.Ytghcololkgeoeaa
open Go.RowKit
set_option linter.unusedVariables false
set_option linter.unusedSimpArgs false

/-! A region that draws its order and ends in one store, number t: what is read ahead of the store may be taken first under a condition S that need not outlive the store. -/
section
variable {P : Program} {ops : Array Oper} {Q : Exit → Act → World → Prop} {md : Region.Mode} {S : World → Prop} {t : Nat}

def UpTo (P : Program) (md : Region.Mode) (ops : Array Oper) (Q : Exit → Act → World → Prop) (S : World → Prop) (t : Nat) : Nat → Array Bool → Act → World → Prop
  | 0, listed, a, w => Region.ready md ops listed = [] ∧ Q .normal a w
  | fuel + 1, listed, a, w => (Region.ready md ops listed = [] → Q .normal a w) ∧ ∀ i ∈ Region.ready md ops listed, wpOp P ops Q i (fun b v => (i ≠ t → S v) ∧ UpTo P md ops Q S t fuel (listed.setIfInBounds i true) b v) a w

theorem upTo_any : ∀ (fuel : Nat) (listed : Array Bool) (a : Act) (w : World), UpTo P md ops Q S t fuel listed a w → wpAny P md ops Q fuel listed a w := by
  intro fuel
  induction fuel with
  | zero => intro _ _ _ h; exact h
  | succ n ih => intro listed a w h; exact ⟨h.1, fun i hi => wpOp_mono (fun b v hb => ih _ b v hb.2) (h.2 i hi)⟩

/-- the store waits for number i -/
def waitsFor (md : Region.Mode) (ops : Array Oper) (t i : Nat) : Bool := match ops[t]? with | some o => o.after.toList.any (fun e => Region.binds md e && e.on == i) | none => false

theorem not_ready {listed : Array Bool} {i : Nat} (hw : waitsFor md ops t i = true) (hr : i ∈ Region.ready md ops listed) : t ∉ Region.ready md ops listed := by
  intro ht
  obtain ⟨_, o, ho, hall⟩ := mem_ready.1 ht
  unfold waitsFor at hw
  rw [ho] at hw
  simp only [List.any_eq_true, Array.mem_toList_iff, Bool.and_eq_true, beq_iff_eq] at hw
  obtain ⟨e, he, hb, hi⟩ := hw
  have h1 := hall e he hb
  have h0 := (mem_ready.1 hr).1
  rw [hi] at h1
  rw [Array.getD_eq_getD_getElem?] at h0 h1
  cases hx : listed[i]? with
  | none => rw [hx] at h1; simp at h1
  | some x => rw [hx] at h0 h1; simp at h0 h1; rw [h0] at h1; cases h1

theorem upTo_first {i : Nat} {oi : Oper} {v : Value} (hi : ops[i]? = some oi) (hsel : ∀ (j : Nat) (o : Oper) cs b, ops[j]? = some o → o.op ≠ .select cs b) (hw : waitsFor md ops t i = true) (hit : i ≠ t)
    (hQ : ∀ c a w, Q (.panic c) (a.put oi.dst v) w → Q (.panic c) a w) : ∀ (fuel : Nat) (listed : Array Bool) (a : Act) (w : World),
      (∀ j oj, ops[j]? = some oj → j ≠ i → listed.getD j true = false → (∀ e ∈ oj.after, Region.binds md e = true → e.on ≠ i) → oi.apart ops oj = true) →
      i ∈ Region.ready md ops listed → YieldsIf P ops S oi v a → S w → UpTo P md ops Q S t fuel (listed.setIfInBounds i true) (a.put oi.dst v) w → UpTo P md ops Q S t (fuel + 1) listed a w := by
  intro fuel
  induction fuel with
  | zero =>
    intro listed a w _ hr hy hS H
    refine ⟨fun e => absurd (e ▸ hr) (by simp), fun j hj => ?_⟩
    by_cases hji : j = i
    · subst hji; exact hy.wpOp hi hS ⟨fun _ => hS, H⟩
    · exact absurd (H.1 ▸ ready_mono hj hji) (by simp)
  | succ n ih =>
    intro listed a w hfree hr hy hS H
    refine ⟨fun e => absurd (e ▸ hr) (by simp), fun j hj => ?_⟩
    by_cases hji : j = i
    · subst hji; exact hy.wpOp hi hS ⟨fun _ => hS, H⟩
    · have hjt : j ≠ t := fun e => not_ready hw hr (e ▸ hj)
      obtain ⟨hjun, oj, hoj, hall⟩ := mem_ready.1 hj
      have hno : ∀ e ∈ oj.after, Region.binds md e = true → e.on ≠ i := by
        intro e he hb heq
        have h1 := hall e he hb
        have h0 := (mem_ready.1 hr).1
        rw [heq, Array.getD_eq_getD_getElem?] at h1
        rw [Array.getD_eq_getD_getElem?] at h0
        cases hx : listed[i]? with
        | none => rw [hx] at h1; simp at h1
        | some x => rw [hx] at h0 h1; simp at h0 h1; rw [h0] at h1; cases h1
      have step := wpOp_putIf hoj (hfree j oj hoj hji hjun hno) (fun cs b => hsel i oi cs b hi) (fun cs b => hsel j oj cs b hoj) hQ hy (H.2 j (ready_mono hj hji))
      refine wpOp_mono (fun b u hb => ⟨hb.2.1, ?_⟩) step
      refine ih (listed.setIfInBounds j true) b u ?_ (ready_mono hr (Ne.symm hji)) hb.1 (hb.2.1 hjt) ?_
      · intro k ok hk hki hun hno'
        refine hfree k ok hk hki ?_ hno'
        by_cases hjk : j = k
        · subst hjk; exact hjun
        · rwa [getD_set_ne true hjk] at hun
      · rw [Array.setIfInBounds_comm _ _ hji]; exact hb.2.2

/-- number i is taken first -/
theorem upTo_take {i : Nat} {oi : Oper} {v : Value} {fuel : Nat} {listed : Array Bool} {a : Act} {w : World} (hi : ops[i]? = some oi) (hs : Region.noSelect ops = true) (hf : Region.free md ops listed i = true)
    (hr : (Region.ready md ops listed).contains i = true) (hw : waitsFor md ops t i = true) (hit : (i == t) = false) (hQ : ∀ c a w, Q (.panic c) (a.put oi.dst v) w → Q (.panic c) a w)
    (hwant : Region.wanted oi (yielded ops a.tmps) = true) (hS : S w) (hy : ∀ u, S u → (execOp a.eval oi).run P u = .ok (.value v) u)
    (h : UpTo P md ops Q S t fuel (listed.setIfInBounds i true) (a.put oi.dst v) w) : UpTo P md ops Q S t (fuel + 1) listed a w :=
  upTo_first hi (Region.noSelect_spec hs) hw (by simpa using hit) hQ fuel listed a w (Region.free_spec hi hf) (by simpa using hr) (Or.inl ⟨hwant, hy⟩) hS h

/-- number i alone may come up -/
theorem upTo_one {i : Nat} {o : Oper} {fuel : Nat} {listed : Array Bool} {a : Act} {w : World} (hr : Region.ready md ops listed = [i]) (ho : ops[i]? = some o)
    (h : ∀ K : Act → World → Prop, Shut (∀ b v, (i ≠ t → S v) → UpTo P md ops Q S t fuel (listed.setIfInBounds i true) b v → K b v) → if Region.wanted o (yielded ops a.tmps) = true then Oper.wp P o a w K Q else K (a.put o.dst undef) w) : UpTo P md ops Q S t (fuel + 1) listed a w := by
  refine ⟨fun e => absurd (hr ▸ e) (by simp), ?_⟩
  rw [hr]
  intro j hj
  simp only [List.mem_singleton] at hj
  subst hj
  exact wpOp_step ho (fun K hK => h K (fun b v h1 h2 => hK b v ⟨h1, h2⟩))
theorem upTo_done {fuel : Nat} {listed : Array Bool} {a : Act} {w : World} (hr : Region.ready md ops listed = []) (h : Q .normal a w) : UpTo P md ops Q S t fuel listed a w := by
  cases fuel with
  | zero => exact ⟨hr, h⟩
  | succ n => exact ⟨fun _ => h, by rw [hr]; simp⟩
theorem upTo_region {id : Nat} {a : Act} {w : World} (S : World → Prop) (t n : Nat) (hn : ops.size = n) (hm : P.follows .mixedOrders = true) (h : UpTo P .any ops Q S t n (Array.replicate n false) a w.drew) : (Code.region id ops true).wp P Q a w := by
  subst hn
  exact wp_region_any hm (upTo_any _ _ _ _ h)
end
end Go.Proofs.Ytghcololkgeoeaa
