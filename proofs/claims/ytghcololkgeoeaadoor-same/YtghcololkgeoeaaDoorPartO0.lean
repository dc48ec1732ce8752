import Derived.Test.YtghcololkgeoeaaDoorPartN2
import Derived.Test.YtghcololkgeoeaaDoorPartL2
import Derived.Test.YtghcololkgeoeaaDoorPartN1
import Derived.Test.YtghcololkgeoeaaDoorPartA0
namespace Go.Proofs.YtghcololkgeoeaaDoor
open Go.RowKit
set_option linter.unusedVariables false
set_option linter.unusedSimpArgs false

/-! ### what the sources send, and how it is judged -/
structure PA where
  E : Ev
  push : Bool
def paEv (s i : Nat) (a : ActR) : Ev := ⟨s, i, pk a.E.ts 4001 - 2000, 65 + pk a.E.kind 4, pk a.E.val 3⟩
def planStep (s i : Nat) (a : ActR) (q : Int × List PA) : Int × List PA :=
  if 0 < pk a.d 4 then (q.1 - 1, if 0 ≤ q.1 - 1 then q.2 ++ [⟨paEv s i a, true⟩] else q.2) else (q.1, if 0 ≤ q.1 then q.2 ++ [⟨paEv s i a, false⟩] else q.2)
def planTo (room : Int) (s : Nat) (raw : List ActR) : Nat → Int × List PA
  | 0 => (room, [])
  | i + 1 => match raw[i]? with
    | some a => planStep s i a (planTo room s raw i)
    | none => planTo room s raw i
def planS (room : Int) (s : Nat) (raw : List ActR) : List PA := (planTo room s raw raw.length).2
def pushesN (l : List PA) : Nat := (l.filter (fun a => a.push)).length
structure PlanOk (room : Int) (s i : Nat) (q : Int × List PA) : Prop where
  ev : ∀ a ∈ q.2, a.E.src = s ∧ 0 ≤ a.E.seq ∧ a.E.seq < i ∧ -2000 ≤ a.E.ts ∧ a.E.ts ≤ 2000 ∧ 65 ≤ a.E.kind ∧ a.E.kind ≤ 68 ∧ 0 ≤ a.E.val ∧ a.E.val ≤ 2
  up : q.2.Pairwise (fun a b => a.E.seq < b.E.seq)
  cnt : (0 ≤ q.1 → (pushesN q.2 : Int) + q.1 = room) ∧ (pushesN q.2 : Int) ≤ room
  lo : -(i : Int) ≤ q.1 ∧ q.1 ≤ room
  len : q.2.length ≤ i
theorem pushesN_snoc (l : List PA) (a : PA) : pushesN (l ++ [a]) = pushesN l + (if a.push then 1 else 0) := by
  unfold pushesN
  rw [List.filter_append, List.length_append]
  cases h : a.push <;> simp [List.filter_cons, h]
theorem paEv_ok (s i : Nat) (a : ActR) : (paEv s i a).src = s ∧ (paEv s i a).seq = i ∧ -2000 ≤ (paEv s i a).ts ∧ (paEv s i a).ts ≤ 2000 ∧ 65 ≤ (paEv s i a).kind ∧ (paEv s i a).kind ≤ 68 ∧ 0 ≤ (paEv s i a).val ∧ (paEv s i a).val ≤ 2 := by
  have h1 := pk_range (c := a.E.ts) (n := 4001) (by omega)
  have h2 := pk_range (c := a.E.kind) (n := 4) (by omega)
  have h3 := pk_range (c := a.E.val) (n := 3) (by omega)
  unfold paEv
  refine ⟨rfl, rfl, ?_, ?_, ?_, ?_, ?_, ?_⟩ <;> simp only <;> omega
theorem planOk_snoc {room : Int} {s i : Nat} {q : Int × List PA} (h : PlanOk room s i q) (a : ActR) (b : Bool) : (∀ x ∈ q.2 ++ [(⟨paEv s i a, b⟩ : PA)], x.E.src = s ∧ 0 ≤ x.E.seq ∧ x.E.seq < ((i + 1 : Nat) : Int) ∧ -2000 ≤ x.E.ts ∧ x.E.ts ≤ 2000 ∧ 65 ≤ x.E.kind ∧ x.E.kind ≤ 68 ∧ 0 ≤ x.E.val ∧ x.E.val ≤ 2) ∧ (q.2 ++ [(⟨paEv s i a, b⟩ : PA)]).Pairwise (fun a b => a.E.seq < b.E.seq) := by
  have hp := paEv_ok s i a
  constructor
  · intro x hx
    rcases List.mem_append.1 hx with hx | hx
    · have := h.ev x hx
      refine ⟨this.1, this.2.1, ?_, this.2.2.2⟩
      have := this.2.2.1
      omega
    · simp only [List.mem_singleton] at hx
      subst hx
      refine ⟨hp.1, ?_, ?_, hp.2.2⟩
      · show 0 ≤ (paEv s i a).seq; rw [hp.2.1]; omega
      · show (paEv s i a).seq < _; rw [hp.2.1]; omega
  · rw [List.pairwise_append]
    refine ⟨h.up, by simp, ?_⟩
    intro x hx y hy
    simp only [List.mem_singleton] at hy
    subst hy
    show x.E.seq < (paEv s i a).seq
    rw [hp.2.1]
    exact (h.ev x hx).2.2.1
theorem PlanOk.more {room : Int} {s i : Nat} {q : Int × List PA} (h : PlanOk room s i q) : ∀ a ∈ q.2, a.E.src = s ∧ 0 ≤ a.E.seq ∧ a.E.seq < ((i + 1 : Nat) : Int) ∧ -2000 ≤ a.E.ts ∧ a.E.ts ≤ 2000 ∧ 65 ≤ a.E.kind ∧ a.E.kind ≤ 68 ∧ 0 ≤ a.E.val ∧ a.E.val ≤ 2 := by
  intro a ha
  have := h.ev a ha
  refine ⟨this.1, this.2.1, ?_, this.2.2.2⟩
  have := this.2.2.1
  omega
theorem planStep_ok {room : Int} {s i : Nat} {q : Int × List PA} (h : PlanOk room s i q) (a : ActR) : PlanOk room s (i + 1) (planStep s i a q) := by
  have hc := h.cnt
  have hlo := h.lo
  have hln := h.len
  unfold planStep
  by_cases hp : 0 < pk a.d 4
  · rw [if_pos hp]
    by_cases hr : 0 ≤ q.1 - 1
    · rw [if_pos hr]
      have hs := planOk_snoc h a true
      have hn := pushesN_snoc q.2 ⟨paEv s i a, true⟩
      simp only [if_true] at hn
      refine ⟨hs.1, hs.2, ?_, ?_, ?_⟩
      · simp only [hn]; omega
      · simp only; omega
      · simp only [List.length_append, List.length_cons, List.length_nil]; omega
    · rw [if_neg hr]
      refine ⟨h.more, h.up, ?_, ?_, ?_⟩
      · simp only; omega
      · simp only; omega
      · simp only; omega
  · rw [if_neg hp]
    by_cases hr : 0 ≤ q.1
    · rw [if_pos hr]
      have hs := planOk_snoc h a false
      have hn := pushesN_snoc q.2 ⟨paEv s i a, false⟩
      simp only [Bool.false_eq_true, if_false] at hn
      refine ⟨hs.1, hs.2, ?_, ?_, ?_⟩
      · simp only [hn]; omega
      · simp only; omega
      · simp only [List.length_append, List.length_cons, List.length_nil]; omega
    · rw [if_neg hr]
      refine ⟨h.more, h.up, ?_, ?_, ?_⟩
      · simp only; omega
      · simp only; omega
      · simp only; omega
theorem planTo_ok {room : Int} (hroom : 0 ≤ room) (s : Nat) (raw : List ActR) : ∀ i, PlanOk room s i (planTo room s raw i) := by
  intro i
  induction i with
  | zero => exact ⟨by simp [planTo], by simp [planTo], by simp [planTo, pushesN]; exact hroom, by simp [planTo]; exact hroom, by simp [planTo]⟩
  | succ i ih =>
    unfold planTo
    split
    · exact planStep_ok ih _
    · exact ⟨ih.more, ih.up, ih.cnt, by have := ih.lo; omega, by have := ih.len; omega⟩

/-! ### judged by its own times -/
def jstep (sl : Int) (q : Int × List Ev × List Ev) (a : PA) : Int × List Ev × List Ev :=
  if a.push then (if q.1 < a.E.ts - sl then a.E.ts - sl else q.1, if a.E.ts < q.1 then q.2.1 else q.2.1 ++ [a.E], if a.E.ts < q.1 then q.2.2 ++ [a.E] else q.2.2)
  else (if q.1 < a.E.ts then a.E.ts else q.1, q.2.1, q.2.2)
def jd (sl : Int) (l : List PA) : Int × List Ev × List Ev := l.foldl (jstep sl) (-2199023255552, [], [])
theorem jd_snoc (sl : Int) (l : List PA) (a : PA) : jd sl (l ++ [a]) = jstep sl (jd sl l) a := by unfold jd; rw [List.foldl_append]; rfl
def kpAll (sl : Int) (n : Nat) (A : Nat → List PA) (k : Nat → Nat) : List Ev := (List.range n).flatMap (fun s => (jd sl ((A s).take (k s))).2.1)
def asAll (sl : Int) (n : Nat) (A : Nat → List PA) (k : Nat → Nat) : List Ev := (List.range n).flatMap (fun s => (jd sl ((A s).take (k s))).2.2)
def bump (k : Nat → Nat) (s : Nat) : Nat → Nat := fun t => if t = s then k s + 1 else k t
theorem flat_bump {f g : Nat → List Ev} {x : List Ev} {s : Nat} : ∀ {n : Nat}, s < n → g s = f s ++ x → (∀ t, t ≠ s → g t = f t) → ((List.range n).flatMap g).Perm ((List.range n).flatMap f ++ x) := by
  intro n
  induction n with
  | zero => intro h; omega
  | succ n ih =>
    intro hs hg ho
    rw [List.range_succ, List.flatMap_append, List.flatMap_append]
    simp only [List.flatMap_cons, List.flatMap_nil, List.append_nil]
    by_cases e : s = n
    · subst e
      have : (List.range s).flatMap g = (List.range s).flatMap f := by
        have : ∀ L : List Nat, (∀ t ∈ L, t ≠ s) → L.flatMap g = L.flatMap f := by
          intro L
          induction L with
          | nil => intro _; rfl
          | cons a L ihL => intro h; rw [List.flatMap_cons, List.flatMap_cons, ho a (h a (by simp)), ihL (fun t ht => h t (by simp [ht]))]
        exact this _ (fun t ht => by rw [List.mem_range] at ht; omega)
      rw [this, hg, List.append_assoc]
    · have := ih (by omega) hg ho
      rw [ho n (fun h => e h.symm)]
      have h1 := this.append_right (f n)
      refine h1.trans ?_
      rw [List.append_assoc, List.append_assoc]
      exact (List.perm_append_comm).append_left _
theorem take_bump {A : Nat → List PA} {k : Nat → Nat} {s : Nat} {a : PA} (h : (A s)[k s]? = some a) : (A s).take (bump k s s) = (A s).take (k s) ++ [a] := by
  obtain ⟨hl, rfl⟩ := List.getElem?_eq_some_iff.1 h
  unfold bump
  rw [if_pos rfl]
  exact List.take_succ_eq_append_getElem hl
theorem bump_ne {k : Nat → Nat} {s t : Nat} (h : t ≠ s) : bump k s t = k t := by unfold bump; rw [if_neg h]
theorem snocRec {P : List PA → Prop} (h0 : P []) (hs : ∀ l a, P l → P (l ++ [a])) (l : List PA) : P l := by
  have : ∀ m : List PA, P m.reverse := by
    intro m
    induction m with
    | nil => exact h0
    | cons a m ih => rw [List.reverse_cons]; exact hs _ _ ih
  have h := this l.reverse
  rwa [List.reverse_reverse] at h
theorem jd_mem (sl : Int) (l : List PA) : (∀ e ∈ (jd sl l).2.1, ∃ a ∈ l, a.push = true ∧ a.E = e) ∧ (∀ e ∈ (jd sl l).2.2, ∃ a ∈ l, a.push = true ∧ a.E = e) ∧ (jd sl l).2.1.length + (jd sl l).2.2.length = pushesN l := by
  refine snocRec (P := fun l => (∀ e ∈ (jd sl l).2.1, ∃ a ∈ l, a.push = true ∧ a.E = e) ∧ (∀ e ∈ (jd sl l).2.2, ∃ a ∈ l, a.push = true ∧ a.E = e) ∧ (jd sl l).2.1.length + (jd sl l).2.2.length = pushesN l) (by simp [jd, pushesN]) ?_ l
  · intro l a ih
    rw [jd_snoc, pushesN_snoc]
    obtain ⟨h1, h2, h3⟩ := ih
    unfold jstep
    cases hp : a.push with
    | true =>
      simp only [if_true]
      refine ⟨?_, ?_, ?_⟩
      · intro e he
        split at he
        · obtain ⟨x, hx, hh⟩ := h1 e he; exact ⟨x, by simp [hx], hh⟩
        · rcases List.mem_append.1 he with he | he
          · obtain ⟨x, hx, hh⟩ := h1 e he; exact ⟨x, by simp [hx], hh⟩
          · simp at he; exact ⟨a, by simp, hp, he.symm⟩
      · intro e he
        split at he
        · rcases List.mem_append.1 he with he | he
          · obtain ⟨x, hx, hh⟩ := h2 e he; exact ⟨x, by simp [hx], hh⟩
          · simp at he; exact ⟨a, by simp, hp, he.symm⟩
        · obtain ⟨x, hx, hh⟩ := h2 e he; exact ⟨x, by simp [hx], hh⟩
      · by_cases hc : a.E.ts < (jd sl l).1
        · rw [if_pos hc, if_pos hc]; simp; omega
        · rw [if_neg hc, if_neg hc]; simp; omega
    | false =>
      simp only [Bool.false_eq_true, if_false]
      refine ⟨?_, ?_, by omega⟩
      · intro e he; obtain ⟨x, hx, hh⟩ := h1 e he; exact ⟨x, by simp [hx], hh⟩
      · intro e he; obtain ⟨x, hx, hh⟩ := h2 e he; exact ⟨x, by simp [hx], hh⟩
end Go.Proofs.YtghcololkgeoeaaDoor
namespace Go.Proofs.YtghcololkgeoeaaDoor
open Go.RowKit
set_option linter.unusedVariables false
set_option linter.unusedSimpArgs false

/-! ### however they are mixed -/
structure AOk (c : Cfg) (n : Nat) (A : Nat → List PA) : Prop where
  ev : ∀ s, s < n → ∀ a ∈ A s, a.E.src = s ∧ 0 ≤ a.E.seq ∧ a.E.seq ≤ 1099511627776 ∧ -2000 ≤ a.E.ts ∧ a.E.ts ≤ 2000 ∧ 65 ≤ a.E.kind ∧ a.E.kind ≤ 68 ∧ 0 ≤ a.E.val ∧ a.E.val ≤ 2
  up : ∀ s, s < n → (A s).Pairwise (fun a b => a.E.seq < b.E.seq)
  cnt : ∀ s, s < n → (pushesN (A s) : Int) ≤ c.room
  n6 : n ≤ 6
  room : c.room ≤ 32
  sl : 0 ≤ c.slack
  pol : 0 ≤ c.policy ∧ c.policy ≤ 1
structure Mix (c : Cfg) (n : Nat) (A : Nat → List PA) (k : Nat → Nat) (X : Eng) (R : Ref) : Prop where
  lk : ∃ N, Like N X R
  stl : Stl R
  nn : X.srcs.length = n
  cc : X.c = c
  src : ∀ s, s < n → ∃ p, X.srcs[s]? = some p ∧ p.inn = true ∧ p.idle = false ∧ p.mark = (jd c.slack ((A s).take (k s))).1 ∧ ∀ (j : Nat) a, k s ≤ j → (A s)[j]? = some a → p.last < a.E.seq
  all : R.all.Perm (kpAll c.slack n A k)
  aside : R.aside.Perm (if c.policy = 1 then asAll c.slack n A k else [])
  kle : ∀ s, s < n → k s ≤ (A s).length
theorem kle_bump {n s : Nat} {A : Nat → List PA} {k : Nat → Nat} {a : PA} (h : ∀ s, s < n → k s ≤ (A s).length) (hg : (A s)[k s]? = some a) : ∀ t, t < n → bump k s t ≤ (A t).length := by
  intro t ht
  by_cases e : t = s
  · subst e
    have := (List.getElem?_eq_some_iff.1 hg).1
    unfold bump; rw [if_pos rfl]; omega
  · rw [bump_ne e]; exact h t ht
theorem pushesN_take (l : List PA) (k : Nat) : pushesN (l.take k) ≤ pushesN l := by
  unfold pushesN
  exact ((List.take_sublist k l).filter _).length_le
theorem pushesN_next {l : List PA} {k : Nat} {a : PA} (h : l[k]? = some a) (hp : a.push = true) : pushesN (l.take k) + 1 ≤ pushesN l := by
  obtain ⟨hl, rfl⟩ := List.getElem?_eq_some_iff.1 h
  have h1 := pushesN_take l (k + 1)
  rw [List.take_succ_eq_append_getElem hl, pushesN_snoc, if_pos hp] at h1
  exact h1
theorem flat_len {f : Nat → List Ev} {B : Nat} : ∀ {n : Nat}, (∀ s, s < n → (f s).length ≤ B) → ((List.range n).flatMap f).length ≤ n * B := by
  intro n
  induction n with
  | zero => intro _; simp
  | succ n ih =>
    intro h
    rw [List.range_succ, List.flatMap_append, List.length_append]
    have h1 := ih (fun s hs => h s (by omega))
    have h2 := h n (by omega)
    simp only [List.flatMap_cons, List.flatMap_nil, List.append_nil]
    rw [Nat.succ_mul]
    omega
theorem flat_filter {f : Nat → List Ev} {s : Nat} : ∀ {n : Nat}, (∀ t, t < n → ∀ e ∈ f t, e.src = (t : Int)) → (((List.range n).flatMap f).filter (fun e => decide (e.src = (s : Int)))).length ≤ (f s).length := by
  intro n
  induction n with
  | zero => intro _; simp
  | succ n ih =>
    intro h
    have h1 := ih (fun t ht => h t (by omega))
    have h2 := h n (by omega)
    rw [List.range_succ, List.flatMap_append, List.filter_append, List.length_append]
    simp only [List.flatMap_cons, List.flatMap_nil, List.append_nil]
    by_cases e : s = n
    · subst e
      have hz : ((List.range s).flatMap f).filter (fun e => decide (e.src = (s : Int))) = [] := by
        rw [List.filter_eq_nil_iff]
        intro x hx
        rw [List.mem_flatMap] at hx
        obtain ⟨t, ht, hx⟩ := hx
        rw [List.mem_range] at ht
        rw [h t (by omega) x hx]
        simp; omega
      rw [hz]
      have := List.length_filter_le (fun e : Ev => decide (e.src = (s : Int))) (f s)
      simp; exact this
    · have hz : (f n).filter (fun e => decide (e.src = (s : Int))) = [] := by
        rw [List.filter_eq_nil_iff]
        intro x hx
        rw [h2 x hx]
        simp; omega
      rw [hz]; simpa using h1
theorem jd_src {c : Cfg} {n : Nat} {A : Nat → List PA} (ha : AOk c n A) (k : Nat → Nat) (s : Nat) (hs : s < n) : (∀ e ∈ (jd c.slack ((A s).take (k s))).2.1, e.src = (s : Int)) ∧ (∀ e ∈ (jd c.slack ((A s).take (k s))).2.2, e.src = (s : Int)) ∧ (jd c.slack ((A s).take (k s))).2.1.length + (jd c.slack ((A s).take (k s))).2.2.length = pushesN ((A s).take (k s)) := by
  obtain ⟨h1, h2, h3⟩ := jd_mem c.slack ((A s).take (k s))
  refine ⟨fun e he => ?_, fun e he => ?_, h3⟩
  · obtain ⟨x, hx, _, rfl⟩ := h1 e he; exact (ha.ev s hs x (List.mem_of_mem_take hx)).1
  · obtain ⟨x, hx, _, rfl⟩ := h2 e he; exact (ha.ev s hs x (List.mem_of_mem_take hx)).1
theorem kp_len {c : Cfg} {n : Nat} {A : Nat → List PA} (ha : AOk c n A) (k : Nat → Nat) : (kpAll c.slack n A k).length ≤ 192 ∧ (asAll c.slack n A k).length ≤ 192 := by
  have hb : ∀ s, s < n → (jd c.slack ((A s).take (k s))).2.1.length ≤ 32 ∧ (jd c.slack ((A s).take (k s))).2.2.length ≤ 32 := by
    intro s hs
    have h1 := (jd_src ha k s hs).2.2
    have h2 := pushesN_take (A s) (k s)
    have h3 := ha.cnt s hs
    have h4 := ha.room
    omega
  have := ha.n6
  constructor
  · have h := flat_len (f := fun s => (jd c.slack ((A s).take (k s))).2.1) (B := 32) (fun s hs => (hb s hs).1)
    unfold kpAll; omega
  · have h := flat_len (f := fun s => (jd c.slack ((A s).take (k s))).2.2) (B := 32) (fun s hs => (hb s hs).2)
    unfold asAll; omega
theorem kp_bump {c : Cfg} {n s : Nat} {A : Nat → List PA} {k : Nat → Nat} {a : PA} (hs : s < n) (hg : (A s)[k s]? = some a) : (kpAll c.slack n A (bump k s)).Perm (kpAll c.slack n A k ++ (if a.push = true ∧ ¬ a.E.ts < (jd c.slack ((A s).take (k s))).1 then [a.E] else [])) ∧ (asAll c.slack n A (bump k s)).Perm (asAll c.slack n A k ++ (if a.push = true ∧ a.E.ts < (jd c.slack ((A s).take (k s))).1 then [a.E] else [])) := by
  have ho : ∀ t, t ≠ s → (A t).take (bump k s t) = (A t).take (k t) := fun t ht => by rw [bump_ne ht]
  constructor
  · refine flat_bump hs ?_ (fun t ht => by simp only [ho t ht])
    simp only [take_bump hg, jd_snoc]
    unfold jstep
    cases hp : a.push with
    | true =>
      simp only [if_true, true_and]
      by_cases hc : a.E.ts < (jd c.slack ((A s).take (k s))).1
      · rw [if_pos hc, if_neg (by simpa using hc)]; simp
      · rw [if_neg hc, if_pos (by simpa using hc)]
    | false => simp
  · refine flat_bump hs ?_ (fun t ht => by simp only [ho t ht])
    simp only [take_bump hg, jd_snoc]
    unfold jstep
    cases hp : a.push with
    | true =>
      simp only [if_true, true_and]
      by_cases hc : a.E.ts < (jd c.slack ((A s).take (k s))).1
      · rw [if_pos hc, if_pos hc]
      · rw [if_neg hc, if_neg hc]; simp
    | false => simp
theorem jd_mark {c : Cfg} {s : Nat} {A : Nat → List PA} {k : Nat → Nat} {a : PA} (hg : (A s)[k s]? = some a) : (jd c.slack ((A s).take (bump k s s))).1 = if a.push then (if (jd c.slack ((A s).take (k s))).1 < a.E.ts - c.slack then a.E.ts - c.slack else (jd c.slack ((A s).take (k s))).1) else (if (jd c.slack ((A s).take (k s))).1 < a.E.ts then a.E.ts else (jd c.slack ((A s).take (k s))).1) := by
  rw [take_bump hg, jd_snoc]
  unfold jstep
  cases a.push <;> simp
theorem srcs_bump {c : Cfg} {n s : Nat} {A : Nat → List PA} {k : Nat → Nat} {a : PA} {X X' : Eng} {p' : PSrc} (ha : AOk c n A) (hs : s < n) (hg : (A s)[k s]? = some a) (hX : ∀ t, t < n → ∃ p, X.srcs[t]? = some p ∧ p.inn = true ∧ p.idle = false ∧ p.mark = (jd c.slack ((A t).take (k t))).1 ∧ ∀ (j : Nat) a, k t ≤ j → (A t)[j]? = some a → p.last < a.E.seq)
    (hl : s < X.srcs.length) (he : X'.srcs = X.srcs.set s p') (h1 : p'.inn = true) (h2 : p'.idle = false) (h3 : p'.mark = (jd c.slack ((A s).take (bump k s s))).1) (h4 : p'.last ≤ a.E.seq) : ∀ t, t < n → ∃ p, X'.srcs[t]? = some p ∧ p.inn = true ∧ p.idle = false ∧ p.mark = (jd c.slack ((A t).take (bump k s t))).1 ∧ ∀ (j : Nat) a, bump k s t ≤ j → (A t)[j]? = some a → p.last < a.E.seq := by
  intro t ht
  by_cases e : t = s
  · subst e
    refine ⟨p', by rw [he, List.getElem?_set, if_pos rfl, if_pos hl], h1, h2, h3, ?_⟩
    intro j b hj hb
    have hjk : k t < j := by unfold bump at hj; rw [if_pos rfl] at hj; omega
    obtain ⟨l1, e1⟩ := List.getElem?_eq_some_iff.1 hg
    obtain ⟨l2, e2⟩ := List.getElem?_eq_some_iff.1 hb
    have := List.pairwise_iff_getElem.1 (ha.up t ht) (k t) j l1 l2 hjk
    rw [e1, e2] at this
    omega
  · obtain ⟨p, q1, q2, q3, q4, q5⟩ := hX t ht
    refine ⟨p, ?_, q2, q3, ?_, ?_⟩
    · rw [he, List.getElem?_set, if_neg (fun h => e h.symm)]; exact q1
    · rw [bump_ne e]; exact q4
    · rw [bump_ne e]; exact q5
theorem mix_push {c : Cfg} {n s : Nat} {A : Nat → List PA} {k : Nat → Nat} {X X' : Eng} {R : Ref} {a : PA} {z : Int} (h : Mix c n A k X R) (ha : AOk c n A) (hs : s < n) (hg : (A s)[k s]? = some a) (hp : a.push = true) (hX : PushesX X s a.E z X') : z = 0 ∧ ∃ R', Mix c n A (bump k s) X' R' := by
  obtain ⟨N, hl⟩ := h.lk
  obtain ⟨p, hps, hin, hid, hmk, hls⟩ := h.src s hs
  have hev := ha.ev s hs a (List.mem_of_getElem? hg)
  have hpol := ha.pol
  have hsl := ha.sl
  obtain ⟨r, hr, hsr⟩ := hl.same hps
  have hRc : R.c = c := hl.sim.c.symm.trans h.cc
  have hlateX : X.isLate p a.E.ts = decide (a.E.ts < (jd c.slack ((A s).take (k s))).1) := by
    unfold Eng.isLate; rw [hid, hmk, Bool.false_and, Bool.false_or]
  have hlateR : R.late s a.E = decide (a.E.ts < (jd c.slack ((A s).take (k s))).1) := by rw [← sim_late hl.sim hps hr a.E, hlateX]
  have hstay : R.stays s a.E = !decide (a.E.ts < (jd c.slack ((A s).take (k s))).1) := by
    unfold Ref.stays; rw [hlateR, hRc, decide_eq_false (by omega : ¬ c.policy = 2), Bool.or_false]
  have htak : R.taken s a.E = a.E := by
    unfold Ref.taken Ref.lifts
    rw [hRc, decide_eq_false (by omega : ¬ c.policy = 2)]
    simp only [Bool.and_false, Bool.false_and, Bool.false_eq_true, if_false]
    have := hev.1
    cases hE : a.E
    rw [hE] at this
    simp only at this
    rw [this]
  have hwr : pWrong p a.E = 0 := by
    unfold pWrong
    have hb : badB a.E = false := by
      unfold badB beyondB
      simp only [Bool.or_eq_false_iff, decide_eq_false_iff_not]
      omega
    have hbt : beyondB a.E.ts = false := by unfold beyondB; rw [decide_eq_false_iff_not]; omega
    have hlt := hls (k s) a (Nat.le_refl _) hg
    rw [hin, hb, hbt, if_neg (by simp), if_neg (by simp), if_neg (by simp), if_neg (by omega)]
  have hfull : X.full s (X.fate (X.isLate p a.E.ts)) = false := by
    rw [sim_full hl.sim hps hr a.E]
    unfold Ref.full
    have hkl := kp_len ha k
    have hal : R.all.length ≤ 192 := by rw [h.all.length_eq]; exact hkl.1
    have hasl : R.aside.length ≤ 192 := by
      rw [h.aside.length_eq]
      split
      · exact hkl.2
      · simp
    have hw : ((R.wait s).length : Int) < c.room := by
      have h1 : (R.wait s).length ≤ (R.all.filter (fun e => decide (e.src = (s : Int)))).length := by
        unfold Ref.wait
        refine (List.Sublist.length_le ?_)
        have : R.all.filter (waits R.merged s) = (R.all.filter (fun e => decide (e.src = (s : Int)))).filter (waits R.merged s) := by
          rw [List.filter_filter]
          refine List.filter_congr (fun e he => ?_)
          unfold waits
          cases hd : decide (e.src = (s : Int)) with
          | true => simp
          | false =>
            rw [decide_eq_false_iff_not] at hd
            have h0 : ¬ (s : Int) = -1 := by omega
            simp [hd, h0]
        rw [this]
        exact List.filter_sublist
      have h2 : (R.all.filter (fun e => decide (e.src = (s : Int)))).length = ((kpAll c.slack n A k).filter (fun e => decide (e.src = (s : Int)))).length := (h.all.filter _).length_eq
      have h3 := flat_filter (s := s) (f := fun t => (jd c.slack ((A t).take (k t))).2.1) (n := n) (fun t ht e he => (jd_src ha k t ht).1 e he)
      have h4 := (jd_src ha k s hs).2.2
      have h5 := pushesN_next hg hp
      have h6 := ha.cnt s hs
      unfold kpAll at h2
      omega
    rw [hRc]
    simp only [Bool.or_eq_false_iff, Bool.and_eq_false_iff, decide_eq_false_iff_not]
    refine ⟨Or.inr ⟨by omega, by omega⟩, Or.inr (by omega)⟩
  rcases hX with ⟨o, _, _⟩ | ⟨i, p2, hi, hp2, hP⟩
  · exact (off_not o rfl (by rw [h.nn]; exact hs)).elim
  · obtain rfl : i = s := by omega
    rw [hps] at hp2
    cases hp2
    have hPx : PushesX X (i : Int) a.E z X' := Or.inr ⟨i, p, rfl, hps, hP⟩
    rcases hP with ⟨hw', _⟩ | ⟨_, hf, _⟩ | ⟨_, _, rfl, Y, hY, hpl⟩
    · exact absurd hwr hw'
    · rw [hfull] at hf; cases hf
    · refine ⟨rfl, ?_⟩
      obtain ⟨z', R', hR⟩ := pushesR_some R i a.E
      obtain ⟨hz', hl'⟩ := pushes_agree hl hPx hR
      subst hz'
      refine ⟨R', ⟨_, hl'⟩, ?_, ?_, ?_, ?_, ?_, ?_, kle_bump h.kle hg⟩
      · rcases pushesR_led hR with ⟨hh, _⟩ | ⟨_, hst, _⟩
        · exact absurd rfl hh
        · exact hst
      · exact (pushesX_grow hPx).n.trans h.nn
      · exact (pushesX_grow hPx).c.trans h.cc
      · obtain ⟨Z, rfl, zc, zs, zm, zl, zz⟩ := hY
        obtain ⟨ga, gc, wa, wc, rfl⟩ := hpl
        have hsr' : X.pushSrc p a.E = (if a.E.ts < (jd c.slack ((A i).take (k i))).1 then { p with last := a.E.seq, sil := 0 } else ({ p with last := a.E.seq, sil := 0 } : PSrc).raised (a.E.ts - c.slack)) := by
          unfold Eng.pushSrc
          rw [hlateX, h.cc]
          unfold PSrc.touched
          simp only [hid, Bool.false_eq_true, if_false]
          by_cases hc : a.E.ts < (jd c.slack ((A i).take (k i))).1
          · rw [if_pos (by simpa using hc), if_pos hc]
          · rw [if_neg (by simpa using hc), if_neg hc]
        refine srcs_bump ha hs hg h.src (by rw [h.nn]; exact hs) (p' := X.pushSrc p a.E) zs ?_ ?_ ?_ ?_
        · rw [hsr']; split
          · exact hin
          · rw [(raised_rest _ _).1]; exact hin
        · rw [hsr']; split
          · exact hid
          · rw [(raised_rest _ _).2.1]; exact hid
        · rw [hsr', jd_mark hg, if_pos hp]
          by_cases hc : a.E.ts < (jd c.slack ((A i).take (k i))).1
          · rw [if_pos hc, if_neg (by omega)]; exact hmk
          · rw [if_neg hc, raised_mark]
            simp only [hmk]
        · rw [hsr']; split
          · exact Int.le_refl _
          · rw [(raised_rest _ _).2.2.2.1]; exact Int.le_refl _
      · have hkb := (kp_bump (c := c) hs hg).1
        rcases pushesR_led hR with ⟨hh, _⟩ | ⟨_, _, i', r', hi', hr', _, _, hh⟩
        · exact absurd rfl hh
        · obtain rfl : i' = i := by omega
          rw [hstay, htak] at hh
          refine List.Perm.trans ?_ hkb.symm
          by_cases hc : a.E.ts < (jd c.slack ((A i').take (k i'))).1
          · rw [if_neg (fun e => e.2 hc), List.append_nil]
            rcases hh with ⟨g1, _⟩ | ⟨_, _, g2, _⟩ | ⟨_, _, g2, _⟩
            · simp [hc] at g1
            · rw [g2]; exact h.all
            · rw [g2]; exact h.all
          · rw [if_pos ⟨hp, hc⟩]
            rcases hh with ⟨_, g2, _⟩ | ⟨g1, _⟩ | ⟨g1, _⟩
            · rw [g2]; exact h.all.append_right _
            · simp [hc] at g1
            · simp [hc] at g1
      · have hkb := (kp_bump (c := c) hs hg).2
        rcases pushesR_led hR with ⟨hh, _⟩ | ⟨_, _, i', r', hi', hr', _, _, hh⟩
        · exact absurd rfl hh
        · obtain rfl : i' = i := by omega
          rw [hstay, htak, hRc] at hh
          have hA := h.aside
          by_cases hpo : c.policy = 1
          · rw [if_pos hpo] at hA ⊢
            refine List.Perm.trans ?_ hkb.symm
            by_cases hc : a.E.ts < (jd c.slack ((A i').take (k i'))).1
            · rw [if_pos ⟨hp, hc⟩]
              rcases hh with ⟨g1, _⟩ | ⟨_, _, _, g2⟩ | ⟨_, g1, _⟩
              · simp [hc] at g1
              · rw [g2]; exact hA.append_right _
              · exact absurd hpo g1
            · rw [if_neg (fun e => hc e.2), List.append_nil]
              rcases hh with ⟨_, _, g2⟩ | ⟨g1, _⟩ | ⟨g1, _⟩
              · rw [g2]; exact hA
              · simp [hc] at g1
              · simp [hc] at g1
          · rw [if_neg hpo] at hA ⊢
            rcases hh with ⟨_, _, g2⟩ | ⟨_, g1, _⟩ | ⟨_, _, _, g2⟩
            · rw [g2]; exact hA
            · exact absurd g1 hpo
            · rw [g2]; exact hA
theorem mix_punct {c : Cfg} {n s : Nat} {A : Nat → List PA} {k : Nat → Nat} {X X' : Eng} {R : Ref} {a : PA} {z : Int} (h : Mix c n A k X R) (ha : AOk c n A) (hs : s < n) (hg : (A s)[k s]? = some a) (hp : a.push = false) (hX : PunctsX X s a.E.ts z X') : z = 0 ∧ ∃ R', Mix c n A (bump k s) X' R' := by
  obtain ⟨N, hl⟩ := h.lk
  obtain ⟨p, hps, hin, hid, hmk, hls⟩ := h.src s hs
  have hev := ha.ev s hs a (List.mem_of_getElem? hg)
  rcases hX with ⟨o, _, _⟩ | ⟨i, p2, hi, hp2, hP⟩
  · exact (off_not o rfl (by rw [h.nn]; exact hs)).elim
  · obtain rfl : i = s := by omega
    rw [hps] at hp2
    cases hp2
    have hPx : PunctsX X (i : Int) a.E.ts z X' := Or.inr ⟨i, p, rfl, hps, hP⟩
    have hbt : beyondB a.E.ts = false := by unfold beyondB; rw [decide_eq_false_iff_not]; omega
    rcases hP with ⟨hw', _⟩ | ⟨_, hf, _⟩ | ⟨_, _, rfl, hpl⟩
    · rw [hin] at hw'; cases hw'
    · rw [hbt] at hf; cases hf
    · refine ⟨rfl, ?_⟩
      obtain ⟨z', R', hR⟩ := punctsR_some R i a.E.ts
      obtain ⟨_, hl'⟩ := puncts_agree hl hPx hR
      have hk := punctsR_keeps hR
      have hkb := kp_bump (c := c) hs hg
      rw [if_neg (fun e => by rw [hp] at e; cases e.1), if_neg (fun e => by rw [hp] at e; cases e.1), List.append_nil, List.append_nil] at hkb
      refine ⟨R', ⟨_, hl'⟩, hk.stl h.stl, (punctsX_grow hPx).n.trans h.nn, (punctsX_grow hPx).c.trans h.cc, ?_, ?_, ?_, kle_bump h.kle hg⟩
      · obtain ⟨ga, gc, wa, wc, rfl⟩ := hpl
        have hsr' : (p.touched X.merged).raised a.E.ts = ({ p with sil := 0 } : PSrc).raised a.E.ts := by
          unfold PSrc.touched
          simp only [hid, Bool.false_eq_true, if_false]
        refine srcs_bump ha hs hg h.src (by rw [h.nn]; exact hs) (p' := (p.touched X.merged).raised a.E.ts) rfl ?_ ?_ ?_ ?_
        · rw [hsr', (raised_rest _ _).1]; exact hin
        · rw [hsr', (raised_rest _ _).2.1]; exact hid
        · rw [hsr', jd_mark hg, if_neg (by rw [hp]; simp), raised_mark]
          simp only [hmk]
        · rw [hsr', (raised_rest _ _).2.2.2.1]
          have := hls (k i) a (Nat.le_refl _) hg
          simp only; omega
      · rw [hk.all]; exact h.all.trans hkb.1.symm
      · rw [hk.aside]
        refine h.aside.trans ?_
        split
        · exact hkb.2.symm
        · exact List.Perm.refl _
end Go.Proofs.YtghcololkgeoeaaDoor
namespace Go.Proofs.YtghcololkgeoeaaDoor
open Go.RowKit
set_option linter.unusedVariables false
set_option linter.unusedSimpArgs false
attribute [local go_sem ↓] Go.wp_at_zero Go.wp_at_succ

/-! ### where a plan lies -/
def PA.cells (a : PA) : List Value := [.int .i64 (if a.push then 2 else 4), .int .i64 a.E.src, .int .i64 0, .int .i64 a.E.src, .int .i64 a.E.seq, .int .i64 a.E.ts, .int .i64 a.E.kind, .int .i64 a.E.val]
theorem PA.len (a : PA) : a.cells.length = 8 := rfl
structure Pl where
  pa : Option Addr
  pc : Nat
  ms : List (Option Addr × Nat)
  L : List (List PA)
  ta : Option Addr
  tc : Nat
  K : List Nat
def Pl.outV (P : Pl) : List Value := (P.ms.zip P.L).map (fun x => Value.slice x.1.1 x.2.length x.1.2)
def Pl.fp (P : Pl) (pb : Nat) : List (Option Nat) := [some pb, bk P.pa, bk P.ta] ++ P.ms.map (fun m => bk m.1)
structure MemP (w : World) (pb : Nat) (P : Pl) : Prop where
  box : Blk w pb 99 [.slice P.pa P.L.length P.pc, .slice P.ta P.L.length P.tc]
  out : Row w 24 1 P.pa P.L.length P.pc P.outV
  inn : ∀ (i : Nat) m l, P.ms[i]? = some m → P.L[i]? = some l → Row w 39 8 m.1 l.length m.2 (l.flatMap PA.cells)
  mlen : P.ms.length = P.L.length
  at_ : Row w 3 1 P.ta P.L.length P.tc (natV P.K)
  klen : P.K.length = P.L.length
  dis : PD (P.fp pb)
theorem MemP.kept {S : Nat → Prop} {w w' : World} {pb : Nat} {P : Pl} (h : MemP w pb P) (hk : Kept S w w') (hn : ∀ k, some k ∈ P.fp pb → ¬ S k) : MemP w' pb P := by
  refine ⟨h.box.kept hk (hn pb (by simp [Pl.fp])), h.out.kept hk (fun k e => hn k (by simp [Pl.fp, e])), ?_, h.mlen, h.at_.kept hk (fun k e => hn k (by simp [Pl.fp, e])), h.klen, h.dis⟩
  intro i m l hm hl
  refine (h.inn i m l hm hl).kept hk (fun k e => hn k ?_)
  unfold Pl.fp
  refine List.mem_append_right _ (List.mem_map.2 ⟨m, List.mem_of_getElem? hm, e⟩)
theorem MemP.fp_lt {w : World} {pb : Nat} {P : Pl} (h : MemP w pb P) : ∀ k, some k ∈ P.fp pb → k < w.heap.size := by
  intro k hk
  unfold Pl.fp at hk
  rcases List.mem_append.1 hk with hk | hk
  · simp only [List.mem_cons, List.not_mem_nil, or_false] at hk
    rcases hk with e | e | e
    · rw [Option.some.inj e]; exact h.box.lt
    · exact h.out.lt e.symm
    · exact h.at_.lt e.symm
  · obtain ⟨m, hm, e⟩ := List.mem_map.1 hk
    obtain ⟨i, hi, rfl⟩ := List.mem_iff_getElem.1 hm
    have hl : i < P.L.length := by rw [← h.mlen]; exact hi
    exact (h.inn i _ _ (List.getElem?_eq_getElem hi) (List.getElem?_eq_getElem hl)).lt e
theorem MemP.below {w w' : World} {pb : Nat} {P : Pl} (h : MemP w pb P) (hb : Below w.heap.size w w') : MemP w' pb P := h.kept (below_kept hb (fun _ => False)) (fun _ _ e => e)
/-- the cells of a source's list and of its place in it -/
theorem MemP.at_s {w : World} {pb : Nat} {P : Pl} (h : MemP w pb P) (s : Nat) (hs : s < P.L.length) : ∃ og tg m l, P.pa = some ⟨og, 0, none⟩ ∧ P.ta = some ⟨tg, 0, none⟩ ∧ P.ms[s]? = some m ∧ P.L[s]? = some l ∧ w.cell? ⟨og, s, none⟩ = some (.slice m.1 l.length m.2) ∧ w.cell? ⟨tg, s, none⟩ = some (.int .i64 ((P.K[s]?.getD 0 : Nat) : Int)) ∧ w.frozen? ⟨tg, s, none⟩ = false := by
  have hm : s < P.ms.length := by rw [h.mlen]; exact hs
  have hk : s < P.K.length := by rw [h.klen]; exact hs
  obtain ⟨og, ho, _, _, hco, _⟩ := h.out.form (by omega)
  obtain ⟨tg, ht, _, _, hct, hft⟩ := h.at_.form (by omega)
  refine ⟨og, tg, P.ms[s], P.L[s], ho, ht, List.getElem?_eq_getElem hm, List.getElem?_eq_getElem hs, ?_, ?_, hft s⟩
  · rw [hco s (by omega)]
    unfold Pl.outV
    rw [List.getElem?_map, List.getElem?_eq_getElem (by rw [List.length_zip]; omega)]
    simp
  · rw [hct s (by omega)]
    unfold natV
    rw [List.getElem?_map, List.getElem?_eq_getElem hk]
    rfl
theorem MemP.acts {w : World} {pb : Nat} {P : Pl} (h : MemP w pb P) {s j : Nat} {m : Option Addr × Nat} {l : List PA} {a : PA} (hm : P.ms[s]? = some m) (hl : P.L[s]? = some l) (ha : l[j]? = some a) : ∃ g, m.1 = some ⟨g, 0, none⟩ ∧ g < w.heap.size ∧ ∀ o, o < 8 → w.cell? ⟨g, j * 8 + o, none⟩ = a.cells[o]? := by
  obtain ⟨hj, rfl⟩ := List.getElem?_eq_some_iff.1 ha
  have hr := h.inn s m l hm hl
  obtain ⟨g, hg, _, _, hc, _⟩ := hr.form (by omega)
  refine ⟨g, hg, hr.lt (by rw [hg]; rfl), fun o ho => ?_⟩
  rw [hc (j * 8 + o) (by omega), flatMap_get _ 8 PA.len l j o ho hj]
/-- a source's next act is counted -/
theorem MemP.setAt {w : World} {pb : Nat} {P : Pl} (h : MemP w pb P) {tg : Nat} (ht : P.ta = some ⟨tg, 0, none⟩) (s v : Nat) : MemP (w.setCell ⟨tg, s, none⟩ (.int .i64 v)) pb { P with K := P.K.set s v } := by
  have K : Kept (fun k => k = tg) w (w.setCell ⟨tg, s, none⟩ (.int .i64 v)) := (Kept.refl (fun k => k = tg) w).setCell (fun _ => rfl) _
  have i2 : (P.fp pb)[2]? = some (some tg) := by unfold Pl.fp; rw [ht]; rfl
  refine ⟨h.box.kept K (fun e => ?_), h.out.kept K (fun k e f => ?_), ?_, h.mlen, ?_, by simpa using h.klen, h.dis⟩
  · have := h.dis 0 2 tg (by unfold Pl.fp; rw [e]; rfl) i2; omega
  · have := h.dis 1 2 tg (by unfold Pl.fp; simp [e, f]) i2; omega
  · intro i m l hm hl
    refine (h.inn i m l hm hl).kept K (fun k e f => ?_)
    have := h.dis (3 + i) 2 tg (by unfold Pl.fp; rw [List.getElem?_append_right (by simp), show 3 + i - [some pb, bk P.pa, bk P.ta].length = i by simp, List.getElem?_map, hm]; simp [e, f]) i2
    omega
  · have hr := h.at_
    rw [ht] at hr
    have := hr.set s (.int .i64 v)
    have e : (natV P.K).set s (.int .i64 v) = natV (P.K.set s v) := by unfold natV; rw [List.map_set]
    rw [e] at this
    show Row _ _ _ P.ta _ _ _
    rw [ht]; exact this
/-- an engine, a plan, and blocks of the law's own -/
structure EP (w wr : World) (b pb : Nat) (bs : List (Nat × TypeId × List Value)) (X : Eng) (P : Pl) : Prop where
  mx : MemX wr b X
  mp : MemP wr pb P
  dis : ∀ k, some k ∈ X.fp b → some k ∉ P.fp pb
  bel : Below w.heap.size w wr
  fx : ∀ k, some k ∈ X.fp b → w.heap.size ≤ k
  fq : ∀ k, some k ∈ P.fp pb → w.heap.size ≤ k
  bx : ∀ x ∈ bs, Blk wr x.1 x.2.1 x.2.2
  nx : ∀ x ∈ bs, some x.1 ∉ X.fp b
  nq : ∀ x ∈ bs, some x.1 ∉ P.fp pb
theorem EP.evoX {w wr w' : World} {b pb : Nat} {bs : List (Nat × TypeId × List Value)} {X X' : Eng} {P : Pl} (h : EP w wr b pb bs X P) (e : EvoX wr b X w' X') : EP w w' b pb bs X' P := by
  refine ⟨e.mem, h.mp.kept e.kept (fun k hk hX => h.dis k hX hk), ?_, kept_toBelow h.bel e.kept h.fx, ?_, h.fq, fun x hx => (h.bx x hx).kept e.kept (h.nx x hx), ?_, h.nq⟩
  · intro k hk hy
    rcases e.grow k hk with f | f
    · exact h.dis k f hy
    · have := h.mp.fp_lt k hy; omega
  · intro k hk
    rcases e.grow k hk with f | f
    · exact h.fx k f
    · exact Nat.le_trans h.bel.size f
  · intro x hx hk
    rcases e.grow x.1 hk with f | f
    · exact h.nx x hx f
    · have := (h.bx x hx).lt; omega
theorem EP.below {w wr w' : World} {b pb : Nat} {bs : List (Nat × TypeId × List Value)} {X : Eng} {P : Pl} (h : EP w wr b pb bs X P) (hb : Below wr.heap.size wr w') : EP w w' b pb bs X P := h.evoX (EvoX.below h.mx hb)
theorem EP.setAt {w wr : World} {b pb : Nat} {bs : List (Nat × TypeId × List Value)} {X : Eng} {P : Pl} (h : EP w wr b pb bs X P) {tg : Nat} (ht : P.ta = some ⟨tg, 0, none⟩) (s v : Nat) : EP w (wr.setCell ⟨tg, s, none⟩ (.int .i64 v)) b pb bs X { P with K := P.K.set s v } := by
  have K : Kept (fun k => k = tg) wr (wr.setCell ⟨tg, s, none⟩ (.int .i64 v)) := (Kept.refl (fun k => k = tg) wr).setCell (fun _ => rfl) _
  have hq : some tg ∈ P.fp pb := by unfold Pl.fp; rw [ht]; simp [bk]
  refine ⟨h.mx.kept K (fun k hk e => h.dis k hk (e ▸ hq)), h.mp.setAt ht s v, h.dis, kept_toBelow h.bel K (fun i e => by rw [e]; exact h.fq tg hq), h.fx, h.fq, fun x hx => (h.bx x hx).kept K (fun e => h.nq x hx (e ▸ hq)), h.nx, h.nq⟩
def Pl.A (P : Pl) (s : Nat) : List PA := P.L[s]?.getD []
def Pl.k (P : Pl) (s : Nat) : Nat := P.K[s]?.getD 0
theorem Pl.k_set (P : Pl) (s : Nat) (hs : s < P.K.length) : ({ P with K := P.K.set s (P.k s + 1) } : Pl).k = bump P.k s := by
  funext t
  unfold bump
  show (P.K.set s (P.k s + 1))[t]?.getD 0 = _
  rw [List.getElem?_set]
  by_cases e : s = t
  · subst e; rw [if_pos rfl, if_pos hs, if_pos rfl]; rfl
  · rw [if_neg e, if_neg (fun h => e h.symm)]; rfl
def NextTo (c : Cfg) (n s b pb : Nat) (bs : List (Nat × TypeId × List Value)) (P : Pl) (w0 w' : World) : Prop := ∃ X' P' R', EP w0 w' b pb bs X' P' ∧ Mix c n P.A P'.k X' R' ∧ P'.L = P.L ∧ P'.k = (if P.k s < (P.A s).length then bump P.k s else P.k)
set_option maxRecDepth 100000 in
set_option maxHeartbeats 4000000 in
theorem next_any (c : Cfg) (n s b pb : Nat) (bs : List (Nat × TypeId × List Value)) (X : Eng) (P : Pl) (R : Ref) (w0 w : World) (h : EP w0 w b pb bs X P) (hM : Mix c n P.A P.k X R) (hA : AOk c n P.A) (hs : s < n) (hL : P.L.length = n) (hlen : ∀ l ∈ P.L, l.length ≤ 4000000000000) :
    Calls Tryd.prog 45 #[.pointer (some ⟨pb, 0, none⟩), .pointer (some ⟨b, 0, none⟩), .int .i64 s] w fun e w' => e = .returned (.bool true) ∧ NextTo c n s b pb bs P w0 w' := by
  obtain ⟨og, tg, m, l, hpa, hta, hm, hl, x0, x1, x1f⟩ := h.mp.at_s s (by omega)
  have hAl : P.A s = l := by unfold Pl.A; rw [hl]; rfl
  have hb0 := h.mp.box.cell 0
  have hb1 := h.mp.box.cell 1
  simp only [List.getElem?_cons_zero, List.getElem?_cons_succ] at hb0 hb1
  rw [hpa] at hb0
  rw [hta] at hb1
  obtain ⟨j, HJ⟩ := hex (P.k s)
  change w.cell? ⟨tg, s, none⟩ = some (.int .i64 ((P.k s : Nat) : Int)) at x1
  rw [← HJ.out] at x1
  obtain ⟨nL, HNL⟩ := hex P.L.length
  rw [← HNL.out] at hb0 hb1
  have hsL : (s : Int) < (nL : Int) := by rw [HNL.out, hL]; omega
  have hs0 : (0 : Int) ≤ (s : Int) := by omega
  obtain ⟨nl, HNl⟩ := hex l.length
  have hnl : nl ≤ 4000000000000 := by rw [HNl.out]; exact hlen l (List.mem_of_getElem? hl)
  obtain ⟨ma, mc⟩ := m
  rw [← HNl.out] at x0
  have HE : Hid (EP w0 w b pb bs X P) := h
  have HM : Hid (Mix c n P.A P.k X R) := hM
  have HA : Hid (AOk c n P.A) := hA
  have HQ : Hid (P.ms[s]? = some (ma, mc) ∧ P.L[s]? = some l ∧ P.A s = l ∧ P.ta = some ⟨tg, 0, none⟩ ∧ s < P.K.length) := ⟨hm, hl, hAl, hta, by rw [h.mp.klen, hL]; exact hs⟩
  clear h hM hA hm hl hAl hlen hpa hta hL
  by_cases hjn : nl ≤ j
  · have hjn' : (nl : Int) ≤ (j : Int) := by omega
    have HR : Hid (¬ P.k s < (P.A s).length) := by show ¬ _; rw [HQ.out.2.2.1, ← HJ.out, ← HNl.out]; omega
    go_enter Tryd.func45, Tryd.ntmps45
    go_wp2
    go_quiet (fail)
    go_wp2
    go_ret
    exact ⟨rfl, X, P, R, HE.out.below ⟨rfl, rfl, rfl, Nat.le_refl _, fun _ _ => rfl⟩, HM.out, rfl, by rw [if_neg HR.out]⟩
  · have hjn' : ¬ (nl : Int) ≤ (j : Int) := by omega
    have hjd : decide ((nl : Int) ≤ (j : Int)) = false := by simpa using hjn'
    have hjl : (j : Int) < (nl : Int) := by omega
    have hj0 : (0 : Int) ≤ (j : Int) := by omega
    have HR : Hid (P.k s < (P.A s).length) := by show _ < _; rw [HQ.out.2.2.1, ← HJ.out, ← HNl.out]; omega
    obtain ⟨a, hga⟩ : ∃ a, l[j]? = some a := ⟨l[j]'(by rw [← HNl.out]; omega), List.getElem?_eq_getElem _⟩
    have HGa : Hid ((P.A s)[P.k s]? = some a) := by show _ = _; rw [HQ.out.2.2.1, ← HJ.out]; exact hga
    obtain ⟨g, hg, hgl, hgc⟩ := HE.out.mp.acts HQ.out.1 HQ.out.2.1 hga
    have hg : ma = some ⟨g, 0, none⟩ := hg
    subst hg
    have HGc : Hid (∀ o, o < 8 → w.cell? ⟨g, j * 8 + o, none⟩ = a.cells[o]?) := hgc
    clear hgc hga
    have a0 := HGc.out 0 (by omega)
    have a1 := HGc.out 1 (by omega)
    have a2 := HGc.out 2 (by omega)
    have a3 := HGc.out 3 (by omega)
    have a4 := HGc.out 4 (by omega)
    have a5 := HGc.out 5 (by omega)
    have a6 := HGc.out 6 (by omega)
    have a7 := HGc.out 7 (by omega)
    simp only [PA.cells, List.getElem?_cons_zero, List.getElem?_cons_succ, Nat.add_zero] at a0 a1 a2 a3 a4 a5 a6 a7
    obtain ⟨d, HD⟩ := hex (if a.push then (2 : Int) else 4)
    rw [← HD.out] at a0
    have HEv : Hid (a.E.src = s ∧ -2000 ≤ a.E.ts) := by have := HA.out.ev s hs a (by have := List.mem_of_getElem? HGa.out; exact this); exact ⟨this.1, this.2.2.2.1⟩
    have hjw : IntKind.i64.wrap ((j : Int) + 1) = (j : Int) + 1 := by rw [IntKind.wrap_i64]; omega
    go_enter Tryd.func45, Tryd.ntmps45
    go_upto_region 1 with fail
    go_cut [24] (fun sv wx => sv = .bool false ∧ ∃ q, wx = w.drewN q)
    case first =>
      go_quiet (fail)
      go_wp2
      go_meet
      case rel => exact ⟨rfl, _, rfl⟩
    case rest =>
      obtain ⟨rfl, q1, hq1⟩ := hcut
      have HE1 : Hid (EP w0 wc b pb bs X P) := by show EP _ _ _ _ _ _ _; rw [hq1]; exact HE.out.below ⟨rfl, rfl, rfl, Nat.le_refl _, fun _ _ => rfl⟩
      have hS : (fun u : World => u.cell? ⟨pb, 0, none⟩ = some (.slice (some ⟨og, 0, none⟩) nL P.pc) ∧ u.cell? ⟨pb, 1, none⟩ = some (.slice (some ⟨tg, 0, none⟩) nL P.tc) ∧ u.cell? ⟨og, s, none⟩ = some (.slice (some ⟨g, 0, none⟩) nl mc) ∧ u.cell? ⟨tg, s, none⟩ = some (.int .i64 (j : Nat)) ∧ u.cell? ⟨g, j * 8, none⟩ = some (.int .i64 d) ∧ u.cell? ⟨g, j * 8 + 1, none⟩ = some (.int .i64 a.E.src) ∧ u.cell? ⟨g, j * 8 + 2, none⟩ = some (.int .i64 0) ∧ u.cell? ⟨g, j * 8 + 3, none⟩ = some (.int .i64 a.E.src) ∧ u.cell? ⟨g, j * 8 + 4, none⟩ = some (.int .i64 a.E.seq) ∧ u.cell? ⟨g, j * 8 + 5, none⟩ = some (.int .i64 a.E.ts) ∧ u.cell? ⟨g, j * 8 + 6, none⟩ = some (.int .i64 a.E.kind) ∧ u.cell? ⟨g, j * 8 + 7, none⟩ = some (.int .i64 a.E.val)) wc := by rw [hq1]; exact ⟨hb0, hb1, x0, x1, a0, a1, a2, a3, a4, a5, a6, a7⟩
      have x1f' : wc.frozen? ⟨tg, s, none⟩ = false := by rw [hq1]; exact x1f
      clear hb0 hb1 x0 x1 a0 a1 a2 a3 a4 a5 a6 a7 x1f hq1 HE HGc
      obtain ⟨w1, HW1⟩ := hex wc
      rw [← HW1.out] at HE1 hS x1f'
      rw [← HW1.out]
      clear HW1
      go_upto_region 3 with fail
      have hal : ∀ o, (fun u : World => u.cell? ⟨pb, 0, none⟩ = some (.slice (some ⟨og, 0, none⟩) nL P.pc) ∧ u.cell? ⟨pb, 1, none⟩ = some (.slice (some ⟨tg, 0, none⟩) nL P.tc) ∧ u.cell? ⟨og, s, none⟩ = some (.slice (some ⟨g, 0, none⟩) nl mc) ∧ u.cell? ⟨tg, s, none⟩ = some (.int .i64 (j : Nat)) ∧ u.cell? ⟨g, j * 8, none⟩ = some (.int .i64 d) ∧ u.cell? ⟨g, j * 8 + 1, none⟩ = some (.int .i64 a.E.src) ∧ u.cell? ⟨g, j * 8 + 2, none⟩ = some (.int .i64 0) ∧ u.cell? ⟨g, j * 8 + 3, none⟩ = some (.int .i64 a.E.src) ∧ u.cell? ⟨g, j * 8 + 4, none⟩ = some (.int .i64 a.E.seq) ∧ u.cell? ⟨g, j * 8 + 5, none⟩ = some (.int .i64 a.E.ts) ∧ u.cell? ⟨g, j * 8 + 6, none⟩ = some (.int .i64 a.E.kind) ∧ u.cell? ⟨g, j * 8 + 7, none⟩ = some (.int .i64 a.E.val)) (w1.drew.alloc o) := fun o => by
        have hb : Below w1.heap.size w1 (w1.drew.alloc o) := ((Below.refl _ w1).drew).alloc (Nat.le_refl _) o
        have hc : ∀ p v, w1.cell? p = some v → (w1.drew.alloc o).cell? p = some v := fun p v hh => (hb.cell (p := p) (World.block_lt_of_cell? w1 p hh)).trans hh
        obtain ⟨y0, y1, y2, y3, y4, y5, y6, y7, y8, y9, y10, y11⟩ := hS
        exact ⟨hc _ _ y0, hc _ _ y1, hc _ _ y2, hc _ _ y3, hc _ _ y4, hc _ _ y5, hc _ _ y6, hc _ _ y7, hc _ _ y8, hc _ _ y9, hc _ _ y10, hc _ _ y11⟩
      go_cut [7] (fun sv wx => sv = .pointer (some ⟨w1.heap.size, 0, none⟩) ∧ wx = (w1.alloc (.cells #[.int .i64 d, .int .i64 a.E.src, .int .i64 0, .int .i64 a.E.src, .int .i64 a.E.seq, .int .i64 a.E.ts, .int .i64 a.E.kind, .int .i64 a.E.val] 39)).drew)
      case first =>
        refine upTo_region (fun u : World => u.cell? ⟨pb, 0, none⟩ = some (.slice (some ⟨og, 0, none⟩) nL P.pc) ∧ u.cell? ⟨pb, 1, none⟩ = some (.slice (some ⟨tg, 0, none⟩) nL P.tc) ∧ u.cell? ⟨og, s, none⟩ = some (.slice (some ⟨g, 0, none⟩) nl mc) ∧ u.cell? ⟨tg, s, none⟩ = some (.int .i64 (j : Nat)) ∧ u.cell? ⟨g, j * 8, none⟩ = some (.int .i64 d) ∧ u.cell? ⟨g, j * 8 + 1, none⟩ = some (.int .i64 a.E.src) ∧ u.cell? ⟨g, j * 8 + 2, none⟩ = some (.int .i64 0) ∧ u.cell? ⟨g, j * 8 + 3, none⟩ = some (.int .i64 a.E.src) ∧ u.cell? ⟨g, j * 8 + 4, none⟩ = some (.int .i64 a.E.seq) ∧ u.cell? ⟨g, j * 8 + 5, none⟩ = some (.int .i64 a.E.ts) ∧ u.cell? ⟨g, j * 8 + 6, none⟩ = some (.int .i64 a.E.kind) ∧ u.cell? ⟨g, j * 8 + 7, none⟩ = some (.int .i64 a.E.val)) 18 18 rfl (by kernel_rfl) ?_
        have hS0 : (fun u : World => u.cell? ⟨pb, 0, none⟩ = some (.slice (some ⟨og, 0, none⟩) nL P.pc) ∧ u.cell? ⟨pb, 1, none⟩ = some (.slice (some ⟨tg, 0, none⟩) nL P.tc) ∧ u.cell? ⟨og, s, none⟩ = some (.slice (some ⟨g, 0, none⟩) nl mc) ∧ u.cell? ⟨tg, s, none⟩ = some (.int .i64 (j : Nat)) ∧ u.cell? ⟨g, j * 8, none⟩ = some (.int .i64 d) ∧ u.cell? ⟨g, j * 8 + 1, none⟩ = some (.int .i64 a.E.src) ∧ u.cell? ⟨g, j * 8 + 2, none⟩ = some (.int .i64 0) ∧ u.cell? ⟨g, j * 8 + 3, none⟩ = some (.int .i64 a.E.src) ∧ u.cell? ⟨g, j * 8 + 4, none⟩ = some (.int .i64 a.E.seq) ∧ u.cell? ⟨g, j * 8 + 5, none⟩ = some (.int .i64 a.E.ts) ∧ u.cell? ⟨g, j * 8 + 6, none⟩ = some (.int .i64 a.E.kind) ∧ u.cell? ⟨g, j * 8 + 7, none⟩ = some (.int .i64 a.E.val)) w1.drew := hS
        refine upTo_take2 (i := 0) (v := ?v82_0) rfl (by kernel_rfl) (by kernel_rfl) (by kernel_rfl) rfl (fun _ _ _ h => h) (by rfl) hS0 ?hy82_0 ?rest82_0
        case hy82_0 => (intro u hu; (try dsimp only at hu); go_simp; first | done | with_reducible rfl)
        (try simp only [Act.put, List.setIfInBounds_toArray, List.set_cons_zero, List.set_cons_succ, List.getElem_toArray, List.getElem_cons_succ, List.getElem_cons_zero])
        refine upTo_take2 (i := 1) (v := ?v82_1) rfl (by kernel_rfl) (by kernel_rfl) (by kernel_rfl) rfl (fun _ _ _ h => h) (by rfl) hS0 ?hy82_1 ?rest82_1
        case hy82_1 => (intro u hu; (try dsimp only at hu); go_simp; first | done | with_reducible rfl)
        (try simp only [Act.put, List.setIfInBounds_toArray, List.set_cons_zero, List.set_cons_succ, List.getElem_toArray, List.getElem_cons_succ, List.getElem_cons_zero])
        refine upTo_take2 (i := 2) (v := ?v82_2) rfl (by kernel_rfl) (by kernel_rfl) (by kernel_rfl) rfl (fun _ _ _ h => h) (by rfl) hS0 ?hy82_2 ?rest82_2
        case hy82_2 => (intro u hu; (try dsimp only at hu); go_simp; first | done | with_reducible rfl)
        (try simp only [Act.put, List.setIfInBounds_toArray, List.set_cons_zero, List.set_cons_succ, List.getElem_toArray, List.getElem_cons_succ, List.getElem_cons_zero])
        refine upTo_take2 (i := 3) (v := ?v82_3) rfl (by kernel_rfl) (by kernel_rfl) (by kernel_rfl) rfl (fun _ _ _ h => h) (by rfl) hS0 ?hy82_3 ?rest82_3
        case hy82_3 => (intro u hu; (try dsimp only at hu); go_simp; first | done | with_reducible rfl)
        (try simp only [Act.put, List.setIfInBounds_toArray, List.set_cons_zero, List.set_cons_succ, List.getElem_toArray, List.getElem_cons_succ, List.getElem_cons_zero])
        refine upTo_take2 (i := 4) (v := ?v82_4) rfl (by kernel_rfl) (by kernel_rfl) (by kernel_rfl) rfl (fun _ _ _ h => h) (by rfl) hS0 ?hy82_4 ?rest82_4
        case hy82_4 => (intro u hu; (try dsimp only at hu); go_simp; first | done | with_reducible rfl)
        (try simp only [Act.put, List.setIfInBounds_toArray, List.set_cons_zero, List.set_cons_succ, List.getElem_toArray, List.getElem_cons_succ, List.getElem_cons_zero])
        refine upTo_take2 (i := 5) (v := ?v82_5) rfl (by kernel_rfl) (by kernel_rfl) (by kernel_rfl) rfl (fun _ _ _ h => h) (by rfl) hS0 ?hy82_5 ?rest82_5
        case hy82_5 => (intro u hu; (try dsimp only at hu); go_simp; first | done | with_reducible rfl)
        (try simp only [Act.put, List.setIfInBounds_toArray, List.set_cons_zero, List.set_cons_succ, List.getElem_toArray, List.getElem_cons_succ, List.getElem_cons_zero])
        refine upTo_take2 (i := 6) (v := ?v82_6) rfl (by kernel_rfl) (by kernel_rfl) (by kernel_rfl) rfl (fun _ _ _ h => h) (by rfl) hS0 ?hy82_6 ?rest82_6
        case hy82_6 => (intro u hu; (try dsimp only at hu); go_simp; first | done | with_reducible rfl)
        (try simp only [Act.put, List.setIfInBounds_toArray, List.set_cons_zero, List.set_cons_succ, List.getElem_toArray, List.getElem_cons_succ, List.getElem_cons_zero])
        refine upTo_take2 (i := 7) (v := ?v82_7) rfl (by kernel_rfl) (by kernel_rfl) (by kernel_rfl) rfl (fun _ _ _ h => h) (by rfl) hS0 ?hy82_7 ?rest82_7
        case hy82_7 => (intro u hu; (try dsimp only at hu); go_simp; first | done | with_reducible rfl)
        (try simp only [Act.put, List.setIfInBounds_toArray, List.set_cons_zero, List.set_cons_succ, List.getElem_toArray, List.getElem_cons_succ, List.getElem_cons_zero])
        refine upTo_take2 (i := 8) (v := ?v82_8) rfl (by kernel_rfl) (by kernel_rfl) (by kernel_rfl) rfl (fun _ _ _ h => h) (by rfl) hS0 ?hy82_8 ?rest82_8
        case hy82_8 => (intro u hu; (try dsimp only at hu); go_simp; first | done | with_reducible rfl)
        (try simp only [Act.put, List.setIfInBounds_toArray, List.set_cons_zero, List.set_cons_succ, List.getElem_toArray, List.getElem_cons_succ, List.getElem_cons_zero])
        refine upTo_take2 (i := 9) (v := ?v82_9) rfl (by kernel_rfl) (by kernel_rfl) (by kernel_rfl) rfl (fun _ _ _ h => h) (by rfl) hS0 ?hy82_9 ?rest82_9
        case hy82_9 => (intro u hu; (try dsimp only at hu); go_simp; first | done | with_reducible rfl)
        (try simp only [Act.put, List.setIfInBounds_toArray, List.set_cons_zero, List.set_cons_succ, List.getElem_toArray, List.getElem_cons_succ, List.getElem_cons_zero])
        refine upTo_take2 (i := 10) (v := ?v82_10) rfl (by kernel_rfl) (by kernel_rfl) (by kernel_rfl) rfl (fun _ _ _ h => h) (by rfl) hS0 ?hy82_10 ?rest82_10
        case hy82_10 => (intro u hu; (try dsimp only at hu); go_simp; first | done | with_reducible rfl)
        (try simp only [Act.put, List.setIfInBounds_toArray, List.set_cons_zero, List.set_cons_succ, List.getElem_toArray, List.getElem_cons_succ, List.getElem_cons_zero])
        refine upTo_take2 (i := 11) (v := ?v82_11) rfl (by kernel_rfl) (by kernel_rfl) (by kernel_rfl) rfl (fun _ _ _ h => h) (by rfl) hS0 ?hy82_11 ?rest82_11
        case hy82_11 => (intro u hu; (try dsimp only at hu); go_simp; first | done | with_reducible rfl)
        (try simp only [Act.put, List.setIfInBounds_toArray, List.set_cons_zero, List.set_cons_succ, List.getElem_toArray, List.getElem_cons_succ, List.getElem_cons_zero])
        refine upTo_take2 (i := 12) (v := ?v82_12) rfl (by kernel_rfl) (by kernel_rfl) (by kernel_rfl) rfl (fun _ _ _ h => h) (by rfl) hS0 ?hy82_12 ?rest82_12
        case hy82_12 => (intro u hu; (try dsimp only at hu); go_simp; first | done | with_reducible rfl)
        (try simp only [Act.put, List.setIfInBounds_toArray, List.set_cons_zero, List.set_cons_succ, List.getElem_toArray, List.getElem_cons_succ, List.getElem_cons_zero])
        refine upTo_take2 (i := 13) (v := ?v82_13) rfl (by kernel_rfl) (by kernel_rfl) (by kernel_rfl) rfl (fun _ _ _ h => h) (by rfl) hS0 ?hy82_13 ?rest82_13
        case hy82_13 => (intro u hu; (try dsimp only at hu); go_simp; first | done | with_reducible rfl)
        (try simp only [Act.put, List.setIfInBounds_toArray, List.set_cons_zero, List.set_cons_succ, List.getElem_toArray, List.getElem_cons_succ, List.getElem_cons_zero])
        refine upTo_take2 (i := 14) (v := ?v82_14) rfl (by kernel_rfl) (by kernel_rfl) (by kernel_rfl) rfl (fun _ _ _ h => h) (by rfl) hS0 ?hy82_14 ?rest82_14
        case hy82_14 => (intro u hu; (try dsimp only at hu); go_simp; first | done | with_reducible rfl)
        (try simp only [Act.put, List.setIfInBounds_toArray, List.set_cons_zero, List.set_cons_succ, List.getElem_toArray, List.getElem_cons_succ, List.getElem_cons_zero])
        refine upTo_take2 (i := 15) (v := ?v82_15) rfl (by kernel_rfl) (by kernel_rfl) (by kernel_rfl) rfl (fun _ _ _ h => h) (by rfl) hS0 ?hy82_15 ?rest82_15
        case hy82_15 => (intro u hu; (try dsimp only at hu); go_simp; first | done | with_reducible rfl)
        (try simp only [Act.put, List.setIfInBounds_toArray, List.set_cons_zero, List.set_cons_succ, List.getElem_toArray, List.getElem_cons_succ, List.getElem_cons_zero])
        clear hS0
        refine upTo_one (i := 16) (by kernel_rfl) rfl (fun K hK => ?_)
        go_simp
        refine hK.out _ _ (fun _ => hal _) ?_
        clear hK K
        (try simp only [Act.put, List.setIfInBounds_toArray, List.set_cons_zero, List.set_cons_succ, List.getElem_toArray, List.getElem_cons_succ, List.getElem_cons_zero])
        refine upTo_one (i := 17) (by kernel_rfl) rfl (fun K hK => ?_)
        go_simp
        refine hK.out _ _ (fun _ => hal _) ?_
        clear hK K
        (try simp only [Act.put, List.setIfInBounds_toArray, List.set_cons_zero, List.set_cons_succ, List.getElem_toArray, List.getElem_cons_succ, List.getElem_cons_zero])
        refine upTo_done (by kernel_rfl) ?_
        go_wp2
        go_meet
        case rel => exact ⟨rfl, rfl⟩
      case rest =>
        obtain ⟨rfl, hwc⟩ := hcut
        obtain ⟨w2, HW2⟩ := hex wc
        obtain ⟨ab, HAb⟩ := hex w1.heap.size
        have HB2 : Hid (Below w1.heap.size w1 w2 ∧ Blk w2 ab 39 [.int .i64 d, .int .i64 a.E.src, .int .i64 0, .int .i64 a.E.src, .int .i64 a.E.seq, .int .i64 a.E.ts, .int .i64 a.E.kind, .int .i64 a.E.val]) := by
          show _ ∧ _
          rw [HW2.out, hwc, HAb.out]
          exact ⟨((Below.refl _ w1).alloc (Nat.le_refl _) _).drew, (blk_alloc w1 [.int .i64 d, .int .i64 a.E.src, .int .i64 0, .int .i64 a.E.src, .int .i64 a.E.seq, .int .i64 a.E.ts, .int .i64 a.E.kind, .int .i64 a.E.val] 39).drew⟩
        have HE2 : Hid (EP w0 w2 b pb bs X P) := HE1.out.below HB2.out.1
        have hab : ab ≠ tg := by
          have h1 := HE1.out.mp.fp_lt tg (by unfold Pl.fp; rw [HQ.out.2.2.2.1]; simp [bk])
          have h2 := HAb.out
          omega
        have hc : ∀ p v, w1.cell? p = some v → w2.cell? p = some v := fun p v hh => (HB2.out.1.cell (p := p) (World.block_lt_of_cell? w1 p hh)).trans hh
        have z0 := hc _ _ hS.2.1
        have z1 := hc _ _ hS.2.2.2.1
        have z1f : w2.frozen? ⟨tg, s, none⟩ = false := by
          have h1 := HE1.out.mp.fp_lt tg (by unfold Pl.fp; rw [HQ.out.2.2.2.1]; simp [bk])
          rw [HB2.out.1.frozen (p := ⟨tg, s, none⟩) h1]; exact x1f'
        rw [← HW2.out, ← HAb.out]
        have hbA : ab < w2.heap.size := HB2.out.2.lt
        clear hc hS hal x1f' HW2 hwc HE1 HAb
        have HE3 : Hid (EP w0 (w2.setCell ⟨tg, s, none⟩ (.int .i64 ((j : Int) + 1))) b pb bs X { P with K := P.K.set s (P.k s + 1) } ∧ Blk (w2.setCell ⟨tg, s, none⟩ (.int .i64 ((j : Int) + 1))) ab 39 [.int .i64 d, .int .i64 a.E.src, .int .i64 0, .int .i64 a.E.src, .int .i64 a.E.seq, .int .i64 a.E.ts, .int .i64 a.E.kind, .int .i64 a.E.val]) := by
          refine ⟨?_, HB2.out.2.other (fun e => hab e.symm) _⟩
          have := HE2.out.setAt HQ.out.2.2.2.1 s (j + 1)
          rw [← HJ.out]; exact this
        go_upto_region 5 with fail
        obtain ⟨w3, HW3⟩ := hex (w2.setCell ⟨tg, s, none⟩ (.int .i64 ((j : Int) + 1)))
        rw [← HW3.out]
        rw [← HW3.out] at HE3
        clear HW3 HE2 z0 z1 z1f HB2
        have HK3 : Hid (({ P with K := P.K.set s (P.k s + 1) } : Pl).k = bump P.k s) := Pl.k_set P s HQ.out.2.2.2.2
        have a0 := HE3.out.2.cell 0
        have a1 := HE3.out.2.cell 1
        have a2 := HE3.out.2.cell 2
        have a3 := HE3.out.2.cell 3
        have a4 := HE3.out.2.cell 4
        have a5 := HE3.out.2.cell 5
        have a6 := HE3.out.2.cell 6
        have a7 := HE3.out.2.cell 7
        simp only [List.getElem?_cons_zero, List.getElem?_cons_succ] at a0 a1 a2 a3 a4 a5 a6 a7
        have HFi : Hid (∀ u X' R', EP w0 u b pb bs X' { P with K := P.K.set s (P.k s + 1) } → Mix c n P.A (bump P.k s) X' R' → NextTo c n s b pb bs P w0 u) := fun u X' R' h1 h2 => ⟨X', _, R', h1, by rw [HK3.out]; exact h2, rfl, by rw [if_pos HR.out, HK3.out]⟩
        cases hpu : a.push with
        | true =>
          have hd : d = 2 := by rw [HD.out, hpu]; rfl
          subst hd
          have hps : Calls Tryd.prog 31 #[.pointer (some ⟨b, 0, none⟩), .int .i64 s, .agg #[.int .i64 a.E.src, .int .i64 a.E.seq, .int .i64 a.E.ts, .int .i64 a.E.kind, .int .i64 a.E.val]] w3 fun e w' => e = .returned (.int .i64 0) ∧ NextTo c n s b pb bs P w0 w' := by
            obtain ⟨N, hl⟩ := HM.out.lk
            refine (xpushes_rel s a.E hl w3 HE3.out.1.mx).mono ?_
            rintro e w' ⟨z, X', he, hP, hev⟩
            obtain ⟨hz, R', hm⟩ := mix_push HM.out HA.out hs HGa.out hpu hP
            rw [hz] at he
            exact ⟨he, HFi.out _ X' R' (HE3.out.1.evoX hev) hm⟩
          clear hpu HD
          go_wp2_with (go_at_call 31; refine hps.mono ?_; rintro e w' ⟨rfl, hnx⟩)
          go_ret
          exact ⟨rfl, hnx⟩
        | false =>
          have hd : d = 4 := by rw [HD.out, hpu]; rfl
          subst hd
          have hps : Calls Tryd.prog 30 #[.pointer (some ⟨b, 0, none⟩), .int .i64 s, .int .i64 a.E.ts] w3 fun e w' => e = .returned (.int .i64 0) ∧ NextTo c n s b pb bs P w0 w' := by
            obtain ⟨N, hl⟩ := HM.out.lk
            refine (xpuncts_rel s a.E.ts hl w3 HE3.out.1.mx).mono ?_
            rintro e w' ⟨z, X', he, hP, hev⟩
            obtain ⟨hz, R', hm⟩ := mix_punct HM.out HA.out hs HGa.out hpu hP
            rw [hz] at he
            exact ⟨he, HFi.out _ X' R' (HE3.out.1.evoX hev) hm⟩
          clear hpu HD
          go_wp2_with (go_at_call 30; refine hps.mono ?_; rintro e w' ⟨rfl, hnx⟩)
          go_ret
          exact ⟨rfl, hnx⟩
end Go.Proofs.YtghcololkgeoeaaDoor
