import Derived.Test.YthiabdpgieppoaaGreatSimA
namespace Go.Proofs.YthiabdpgieppoaaGreat
open Go.RowKit
set_option linter.unusedVariables false
set_option linter.unusedSimpArgs false
/-- A source of the program's engine, with the place of its line. -/
structure PSrc where
  inn : Bool
  idle : Bool
  mark : Int
  sil : Int
  last : Int
  line : List UInt8
  la : Option Addr
  lc : Nat
/-- The program's engine, with the places of its rows. -/
structure Eng where
  c : Cfg
  srcs : List PSrc
  sg : Nat
  sc : Nat
  merged : Int
  wait : List Ev
  wa : Option Addr
  wc : Nat
  log : List Ev
  ga : Option Addr
  gc : Nat
  late : List Ev
  da : Option Addr
  dc : Nat
/-- a source is as the document says -/
structure SrcSim (c : Cfg) (p : PSrc) (r : RSrc) : Prop where
  inn : p.inn = r.inn
  idle : p.idle = (r.inn && decide (0 < c.idle) && decide (c.idle ≤ r.sil))
  mark : p.mark = greatest r.marks (-2199023255552)
  sil : 0 ≤ r.sil ∧ (r.sil ≤ 1000 → p.sil = r.sil) ∧ (1000 ≤ r.sil → p.sil = 1000)
  last : p.last = greatest r.seqs (-1)
  line : p.line = r.rest.data.toList.take 41
/-- the program's engine is as the document's -/
structure Sim (X : Eng) (R : Ref) : Prop where
  c : X.c = R.c
  n : X.srcs.length = R.srcs.length
  src : ∀ (i : Nat) p r, X.srcs[i]? = some p → R.srcs[i]? = some r → SrcSim R.c p r
  merged : X.merged = R.merged
  late : X.late = R.aside
  perm : (X.log ++ X.wait).Perm R.all
  logS : Srt X.log
  waitS : Srt X.wait
  lo : ∀ e ∈ X.log, e.ts < R.merged
  hi : ∀ e ∈ X.wait, R.merged ≤ e.ts
  act : ∀ (i : Nat) p, X.srcs[i]? = some p → p.inn = true → p.idle = false → R.merged ≤ p.mark
  ids : R.all.Pairwise Apart2
  own : ∀ e ∈ R.all, ∃ (i : Nat) (r : RSrc), e.src = i ∧ R.srcs[i]? = some r ∧ e.seq ≤ greatest r.seqs (-1)
/-- the bounds that every state of a script keeps -/
structure Good (N : Nat) (R : Ref) : Prop where
  srcs : (R.srcs.length : Int) = R.c.sources
  fits : 1 ≤ R.c.sources ∧ R.c.sources ≤ 6 ∧ 0 ≤ R.c.slack ∧ R.c.slack ≤ 1000 ∧ 0 ≤ R.c.policy ∧ R.c.policy ≤ 2 ∧ 1 ≤ R.c.room ∧ R.c.room ≤ 32 ∧ 0 ≤ R.c.idle ∧ R.c.idle ≤ 1000
  all : R.all.length ≤ 200
  aside : R.aside.length ≤ 200
  ts : ∀ e ∈ R.all, -1099511627776 ≤ e.ts ∧ e.ts + 1 ≤ 1099511627776 + (R.all.length : Int)
  mgd : -2199023255552 ≤ R.merged ∧ R.merged ≤ 1099511627776 + (R.all.length : Int)
  mks : ∀ (i : Nat) r, R.srcs[i]? = some r → greatest r.marks (-2199023255552) ≤ 1099511627776 + (R.all.length : Int)
  lens : ∀ (i : Nat) r, R.srcs[i]? = some r → r.marks.length ≤ N ∧ r.seqs.length ≤ N
  sil : ∀ (i : Nat) r, R.srcs[i]? = some r → 0 ≤ r.sil ∧ r.sil ≤ 1000 * (N : Int)
theorem Good.sane {N : Nat} {R : Ref} (h : Good N R) : Sane N R :=
  ⟨h.all, h.aside, by have := h.srcs; have := h.fits; omega, fun e he => by have := h.ts e he; have := h.all; omega, h.lens, h.sil⟩
theorem Good.mono {N M : Nat} {R : Ref} (h : Good N R) (hm : N ≤ M) : Good M R :=
  ⟨h.srcs, h.fits, h.all, h.aside, h.ts, h.mgd, h.mks, fun i r hr => by have := h.lens i r hr; omega, fun i r hr => by have := h.sil i r hr; omega⟩
theorem greatest_ge (l : List Int) (n : Int) : n ≤ greatest l n := by
  unfold greatest
  induction l generalizing n with
  | nil => simp
  | cons a l ih =>
    rw [List.foldl_cons]
    split
    · exact Int.le_trans (by omega) (ih a)
    · exact ih n

/-! ### settling -/
def Eng.leastTo (X : Eng) : Nat → Int × Bool
  | 0 => (-2199023255552, false)
  | k + 1 => match X.srcs[k]? with
    | some p => if (p.inn && !p.idle && (!(X.leastTo k).2 || decide (p.mark < (X.leastTo k).1))) = true then (p.mark, true) else X.leastTo k
    | none => X.leastTo k
def lastTs (l : List Ev) : Int := match l.getLast? with | some e => e.ts | none => 0
def Eng.aim (X : Eng) : Int := if (!(X.leastTo X.srcs.length).2 && decide (0 < X.wait.length)) = true then lastTs X.wait + 1 else (X.leastTo X.srcs.length).1
def Eng.rise (X : Eng) : Int := if X.merged < X.aim then X.aim else X.merged
def Eng.settled (X : Eng) : Eng := { X with merged := X.rise, log := X.log ++ X.wait.filter (fun e => decide (e.ts < X.rise)), wait := X.wait.filter (fun e => !decide (e.ts < X.rise)) }

theorem sim_active {X : Eng} {R : Ref} (h : Sim X R) {k : Nat} {p : PSrc} {r : RSrc} (hp : X.srcs[k]? = some p) (hr : R.srcs[k]? = some r) : R.active k = (p.inn && !p.idle) ∧ R.mark k = p.mark := by
  have s := h.src k p r hp hr
  refine ⟨?_, ?_⟩
  · unfold Ref.active Ref.isIdle
    rw [hr]
    simp only
    rw [s.idle, s.inn]
  · unfold Ref.mark
    rw [hr, s.mark]
    rfl
theorem sim_get {X : Eng} {R : Ref} (h : Sim X R) {k : Nat} (hk : k < R.srcs.length) : ∃ p r, X.srcs[k]? = some p ∧ R.srcs[k]? = some r := by
  have hk' : k < X.srcs.length := by rw [h.n]; exact hk
  exact ⟨X.srcs[k], R.srcs[k], List.getElem?_eq_getElem hk', List.getElem?_eq_getElem hk⟩
theorem least_eq {X : Eng} {R : Ref} (h : Sim X R) : ∀ k, k ≤ R.srcs.length → X.leastTo k = match R.leastOf k with | none => (-2199023255552, false) | some m => (m, true) := by
  intro k
  induction k with
  | zero => intro _; rfl
  | succ k ih =>
    intro hk
    obtain ⟨p, r, hp, hr⟩ := sim_get h (k := k) (by omega)
    obtain ⟨ha, hm⟩ := sim_active h hp hr
    have i := ih (by omega)
    rw [Eng.leastTo, Ref.leastOf, hp]
    simp only
    rw [ha, hm]
    cases hl : R.leastOf k with
    | none =>
      rw [hl] at i
      simp only at i
      rw [i]
      cases p.inn <;> cases p.idle <;> simp
    | some m =>
      rw [hl] at i
      simp only at i
      rw [i]
      cases p.inn <;> cases p.idle <;> simp
      split <;> rfl
theorem leastOf_le {R : Ref} : ∀ k (i : Nat), i < k → R.active i = true → ∃ m, R.leastOf k = some m ∧ m ≤ R.mark i := by
  intro k
  induction k with
  | zero => intro i hi; omega
  | succ k ih =>
    intro i hi ha
    rw [Ref.leastOf]
    by_cases hik : i = k
    · subst hik
      rw [if_pos ha]
      cases R.leastOf i with
      | none => exact ⟨_, rfl, Int.le_refl _⟩
      | some m =>
        simp only
        split
        · exact ⟨_, rfl, Int.le_refl _⟩
        · exact ⟨_, rfl, by omega⟩
    · obtain ⟨m, hm, hle⟩ := ih i (by omega) ha
      split
      · rw [hm]
        simp only
        split
        · exact ⟨_, rfl, by omega⟩
        · exact ⟨_, rfl, hle⟩
      · exact ⟨m, hm, hle⟩
theorem leastOf_mem {R : Ref} : ∀ k m, R.leastOf k = some m → ∃ i, i < k ∧ R.active i = true ∧ m = R.mark i := by
  intro k
  induction k with
  | zero => intro m h; simp [Ref.leastOf] at h
  | succ k ih =>
    intro m h
    rw [Ref.leastOf] at h
    split at h
    · rename_i ha
      split at h
      · cases h; exact ⟨k, by omega, ha, rfl⟩
      · rename_i m0 hm0
        split at h
        · cases h; exact ⟨k, by omega, ha, rfl⟩
        · cases h
          obtain ⟨i, h1, h2, h3⟩ := ih _ hm0
          exact ⟨i, by omega, h2, h3⟩
    · obtain ⟨i, h1, h2, h3⟩ := ih _ h
      exact ⟨i, by omega, h2, h3⟩
theorem topOf_spec (l : List Ev) : ∀ m, topOf l = some m → (∃ e ∈ l, e.ts + 1 = m) ∧ ∀ e ∈ l, e.ts + 1 ≤ m := by
  have key : ∀ n (l : List Ev), l.length = n → ∀ m, topOf l = some m → (∃ e ∈ l, e.ts + 1 = m) ∧ ∀ e ∈ l, e.ts + 1 ≤ m := by
    intro n
    induction n with
    | zero =>
      intro l hl m h
      have : l = [] := by simpa using hl
      subst this
      simp [topOf] at h
    | succ n ih =>
      intro l hl m h
      rcases List.eq_nil_or_concat l with e | ⟨L, x, e⟩
      · subst e; simp at hl
      · rw [List.concat_eq_append] at e
        subst e
        rw [topOf_snoc] at h
        have hL : L.length = n := by simpa using hl
        cases ht : topOf L with
        | none =>
          rw [ht] at h
          simp only [Option.some.injEq] at h
          have := (topOf_none L).1 ht
          subst this
          simp only [List.nil_append, List.mem_singleton]
          exact ⟨⟨x, rfl, h⟩, fun e he => by subst he; omega⟩
        | some k =>
          rw [ht] at h
          simp only at h
          obtain ⟨⟨e0, he0, hk⟩, hall⟩ := ih L hL k ht
          split at h
          · simp only [Option.some.injEq] at h
            refine ⟨⟨x, by simp, h⟩, fun e he => ?_⟩
            rcases List.mem_append.1 he with he | he
            · have := hall e he; omega
            · simp only [List.mem_singleton] at he; subst he; omega
          · simp only [Option.some.injEq] at h
            refine ⟨⟨e0, by simp [he0], by omega⟩, fun e he => ?_⟩
            rcases List.mem_append.1 he with he | he
            · have := hall e he; omega
            · simp only [List.mem_singleton] at he; subst he; omega
  exact key _ l rfl
theorem last_top {l : List Ev} (hs : Srt l) (e : Ev) (he : e ∈ l) : e.ts ≤ lastTs l := by
  rcases List.eq_nil_or_concat l with h | ⟨L, x, h⟩
  · subst h; simp at he
  · rw [List.concat_eq_append] at h
    subst h
    unfold lastTs
    rw [List.getLast?_append]
    simp only [List.getLast?_singleton, Option.some_or]
    unfold Srt at hs
    rw [List.pairwise_append] at hs
    rcases List.mem_append.1 he with he | he
    · have := hs.2.2 e he x (by simp)
      rw [ahead_iff] at this
      omega
    · simp only [List.mem_singleton] at he; subst he; omega
theorem last_mem {l : List Ev} (hl : l ≠ []) : ∃ e ∈ l, e.ts = lastTs l := by
  rcases List.eq_nil_or_concat l with h | ⟨L, x, h⟩
  · exact absurd h hl
  · rw [List.concat_eq_append] at h
    subst h
    unfold lastTs
    rw [List.getLast?_append]
    exact ⟨x, by simp, by simp⟩
theorem sim_wait {X : Eng} {R : Ref} (h : Sim X R) : X.wait.Perm (R.wait (-1)) := by
  have p := h.perm.filter (waits R.merged (-1))
  rw [List.filter_append] at p
  have e1 : X.log.filter (waits R.merged (-1)) = [] := by
    rw [List.filter_eq_nil_iff]
    intro e he hw
    have := h.lo e he
    simp [waits] at hw
    omega
  have e2 : X.wait.filter (waits R.merged (-1)) = X.wait := by
    rw [List.filter_eq_self]
    intro e he
    have := h.hi e he
    simp [waits]
    exact this
  rw [e1, e2, List.nil_append] at p
  exact p
theorem sim_waitOf {X : Eng} {R : Ref} (h : Sim X R) (s : Int) (hs : 0 ≤ s) : (X.wait.filter (fun e => decide (e.src = s))).length = (R.wait s).length := by
  have p := (sim_wait h).filter (fun e => decide (e.src = s))
  rw [p.length_eq]
  unfold Ref.wait
  rw [List.filter_filter]
  congr 1
  apply List.filter_congr
  intro e _
  simp [waits]
  have : ¬ s < 0 := by omega
  simp [this, Bool.and_comm]
theorem sim_rise {X : Eng} {R : Ref} {N : Nat} (h : Sim X R) (g : Good N R) : X.rise = R.settled.merged := by
  have hl := least_eq h R.srcs.length (Nat.le_refl _)
  unfold Eng.rise Eng.aim
  rw [h.n, hl]
  unfold Ref.settled Ref.aim
  cases hlo : R.leastOf R.srcs.length with
  | some m =>
    simp only [Option.isSome_some, if_true, Bool.not_true, Bool.false_and, Bool.false_eq_true, if_false]
    rw [h.merged]
    split <;> rfl
  | none =>
    simp only [Option.isSome_none, Bool.false_eq_true, if_false, Bool.not_false, Bool.true_and]
    have hp := sim_wait h
    by_cases hw : X.wait = []
    · have : R.wait (-1) = [] := by
        rw [hw] at hp
        exact List.nil_perm.1 hp
      rw [this, hw]
      have hm := g.mgd
      simp only [List.length_nil, Nat.lt_irrefl, decide_false, Bool.false_eq_true, if_false, topOf, List.foldl_nil]
      rw [h.merged, if_neg (by omega)]
    · have hne : R.wait (-1) ≠ [] := fun e => hw (by rw [e] at hp; exact List.perm_nil.1 hp)
      cases ht : topOf (R.wait (-1)) with
      | none => exact absurd ((topOf_none _).1 ht) hne
      | some m =>
        obtain ⟨⟨e0, he0, hm0⟩, hall⟩ := topOf_spec _ m ht
        obtain ⟨e1, he1, hl1⟩ := last_mem hw
        have a1 := hall e1 (hp.mem_iff.1 he1)
        have a2 := last_top h.waitS e0 (hp.mem_iff.2 he0)
        have hm : lastTs X.wait + 1 = m := by omega
        have hpos : 0 < X.wait.length := List.length_pos_iff.2 hw
        simp only [hpos, decide_true, if_true]
        rw [h.merged, hm]
        split <;> rfl
theorem settled_parts (R : Ref) : R.settled = { R with merged := R.settled.merged } := by
  unfold Ref.settled
  split
  · split <;> rfl
  · rfl
theorem settled_up (R : Ref) : R.merged ≤ R.settled.merged := by
  unfold Ref.settled
  split
  · split
    · simp only; omega
    · exact Int.le_refl _
  · exact Int.le_refl _
theorem sim_settled {X : Eng} {R : Ref} {N : Nat} (h : Sim X R) (g : Good N R) : Sim X.settled R.settled ∧ Good N R.settled := by
  have hr := sim_rise h g
  have up := settled_up R
  have hact : ∀ (i : Nat) p, X.srcs[i]? = some p → p.inn = true → p.idle = false → R.settled.merged ≤ p.mark := by
    intro i p hp h1 h2
    have hi : i < R.srcs.length := by rw [← h.n]; exact (List.getElem?_eq_some_iff.1 hp).1
    obtain ⟨ha, hm⟩ := sim_active h hp (List.getElem?_eq_getElem hi)
    rw [h1, h2] at ha
    obtain ⟨m, e, hle⟩ := leastOf_le R.srcs.length i hi ha
    have h0 := h.act i p hp h1 h2
    unfold Ref.settled Ref.aim
    rw [e]
    simp only [Option.isSome_some, if_true]
    split
    · simp only; omega
    · exact h0
  have hmgd : R.settled.merged ≤ 1099511627776 + (R.all.length : Int) := by
    have := g.mgd
    unfold Ref.settled
    cases ha : R.aim with
    | none => exact this.2
    | some m =>
      simp only
      split
      · simp only
        unfold Ref.aim at ha
        split at ha
        · obtain ⟨i, hi, _, rfl⟩ := leastOf_mem _ _ ha
          have := g.mks i _ (List.getElem?_eq_getElem hi)
          unfold Ref.mark
          rw [List.getElem?_eq_getElem hi]
          exact this
        · obtain ⟨⟨e, he, rfl⟩, _⟩ := topOf_spec _ _ ha
          exact (g.ts e (List.mem_filter.1 he).1).2
      · exact this.2
  rw [settled_parts R]
  refine ⟨⟨h.c, h.n, h.src, hr, h.late, ?_, ?_, ?_, ?_, ?_, hact, h.ids, h.own⟩, ⟨g.srcs, g.fits, g.all, g.aside, g.ts, ⟨by have := g.mgd; simp only; omega, hmgd⟩, g.mks, g.lens, g.sil⟩⟩
  · simp only [Eng.settled, List.append_assoc]
    exact ((List.filter_append_perm (fun e => decide (e.ts < X.rise)) X.wait).append_left X.log).trans h.perm
  · simp only [Eng.settled]
    unfold Srt
    rw [List.pairwise_append]
    refine ⟨h.logS, List.Pairwise.filter _ h.waitS, fun a ha b hb => ?_⟩
    have h1 := h.lo a ha
    have h2 := h.hi b (List.mem_filter.1 hb).1
    rw [ahead_iff]
    omega
  · exact List.Pairwise.filter _ h.waitS
  · intro e he
    simp only [Eng.settled, List.mem_append, List.mem_filter, decide_eq_true_eq] at he
    rcases he with he | he
    · have := h.lo e he; simp only; omega
    · have := he.2; simp only; omega
  · intro e he
    simp only [Eng.settled, List.mem_filter, Bool.not_eq_true', decide_eq_false_iff_not] at he
    have := he.2
    simp only; omega
/-! ### steps -/
theorem set_some {α : Type} {l : List α} {i j : Nat} {x y : α} (h : (l.set i x)[j]? = some y) : (i = j ∧ y = x) ∨ (i ≠ j ∧ l[j]? = some y) := by
  rw [List.getElem?_set] at h
  split at h
  · rename_i e
    split at h
    · simp only [Option.some.injEq] at h; exact Or.inl ⟨e, h.symm⟩
    · simp at h
  · rename_i e; exact Or.inr ⟨e, h⟩
theorem sim_src {X : Eng} {R : Ref} (h : Sim X R) {i : Nat} {p' : PSrc} {r r' : RSrc} (hr : R.srcs[i]? = some r) (hs : SrcSim R.c p' r') (ha : p'.inn = true → p'.idle = false → R.merged ≤ p'.mark)
    (hq : greatest r.seqs (-1) ≤ greatest r'.seqs (-1)) : Sim { X with srcs := X.srcs.set i p' } { R with srcs := R.srcs.set i r' } := by
  have hi : i < R.srcs.length := (List.getElem?_eq_some_iff.1 hr).1
  refine ⟨h.c, by simp [h.n], ?_, h.merged, h.late, h.perm, h.logS, h.waitS, h.lo, h.hi, ?_, h.ids, ?_⟩
  · intro j p q hp hq
    rcases set_some hp with ⟨e, rfl⟩ | ⟨e, hp⟩
    · rcases set_some hq with ⟨_, rfl⟩ | ⟨e', _⟩
      · exact hs
      · exact absurd e e'
    · rcases set_some hq with ⟨e', _⟩ | ⟨_, hq⟩
      · exact absurd e' e
      · exact h.src j p q hp hq
  · intro j p hp h1 h2
    rcases set_some hp with ⟨e, rfl⟩ | ⟨e, hp⟩
    · exact ha h1 h2
    · exact h.act j p hp h1 h2
  · intro e he
    obtain ⟨j, q, e1, e2, e3⟩ := h.own e he
    by_cases hij : i = j
    · subst hij
      rw [hr] at e2
      cases e2
      exact ⟨i, r', e1, by simp [hi], by omega⟩
    · exact ⟨j, q, e1, by simp only [List.getElem?_set, if_neg hij]; exact e2, e3⟩
theorem good_src {N : Nat} {R : Ref} (g : Good N R) {i : Nat} {r' : RSrc} (hm : greatest r'.marks (-2199023255552) ≤ 1099511627776 + (R.all.length : Int)) (hl : r'.marks.length ≤ N ∧ r'.seqs.length ≤ N) (hs : 0 ≤ r'.sil ∧ r'.sil ≤ 1000 * (N : Int)) :
    Good N { R with srcs := R.srcs.set i r' } := by
  refine ⟨by simp [g.srcs], g.fits, g.all, g.aside, g.ts, g.mgd, ?_, ?_, ?_⟩
  · intro j r hr; rcases set_some hr with ⟨_, rfl⟩ | ⟨_, hr⟩; exact hm; exact g.mks j r hr
  · intro j r hr; rcases set_some hr with ⟨_, rfl⟩ | ⟨_, hr⟩; exact hl; exact g.lens j r hr
  · intro j r hr; rcases set_some hr with ⟨_, rfl⟩ | ⟨_, hr⟩; exact hs; exact g.sil j r hr
/-- places change nothing -/
theorem Sim.pl {X Y : Eng} {R : Ref} (h : Sim X R) (hc : Y.c = X.c) (hs : Y.srcs = X.srcs) (hm : Y.merged = X.merged) (hw : Y.wait = X.wait) (hl : Y.log = X.log) (ha : Y.late = X.late) : Sim Y R :=
  ⟨by rw [hc]; exact h.c, by rw [hs]; exact h.n, by rw [hs]; exact h.src, by rw [hm]; exact h.merged, by rw [ha]; exact h.late, by rw [hl, hw]; exact h.perm, by rw [hl]; exact h.logS, by rw [hw]; exact h.waitS, by rw [hl]; exact h.lo, by rw [hw]; exact h.hi, by rw [hs]; exact h.act, h.ids, h.own⟩
theorem Sim.plR {X : Eng} {R S : Ref} (h : Sim X R) (hc : S.c = R.c) (hs : S.srcs = R.srcs) (hm : S.merged = R.merged) (hw : S.all = R.all) (ha : S.aside = R.aside) : Sim X S :=
  ⟨by rw [hc]; exact h.c, by rw [hs]; exact h.n, by rw [hs, hc]; exact h.src, by rw [hm]; exact h.merged, by rw [ha]; exact h.late, by rw [hw]; exact h.perm, h.logS, h.waitS, by rw [hm]; exact h.lo, by rw [hm]; exact h.hi, by rw [hm]; exact h.act, by rw [hw]; exact h.ids, by rw [hw, hs]; exact h.own⟩
theorem Good.plR {N : Nat} {R S : Ref} (h : Good N R) (hc : S.c = R.c) (hs : S.srcs = R.srcs) (hm : S.merged = R.merged) (hw : S.all = R.all) (ha : S.aside = R.aside) : Good N S :=
  ⟨by rw [hc, hs]; exact h.srcs, by rw [hc]; exact h.fits, by rw [hw]; exact h.all, by rw [ha]; exact h.aside, by rw [hw]; exact h.ts, by rw [hm, hw]; exact h.mgd, by rw [hs, hw]; exact h.mks, by rw [hs]; exact h.lens, by rw [hs]; exact h.sil⟩

def PSrc.raised (p : PSrc) (m : Int) : PSrc := if p.mark < m then { p with mark := m } else p
def PSrc.activated (p : PSrc) (m : Int) : PSrc := ({ p with idle := false, sil := 0 } : PSrc).raised m
def PSrc.touched (p : PSrc) (m : Int) : PSrc := if p.idle then ({ p with sil := 0 } : PSrc).activated m else { p with sil := 0 }
theorem raised_mark (p : PSrc) (m : Int) : (p.raised m).mark = if p.mark < m then m else p.mark := by unfold PSrc.raised; split <;> rfl
theorem raised_rest (p : PSrc) (m : Int) : (p.raised m).inn = p.inn ∧ (p.raised m).idle = p.idle ∧ (p.raised m).sil = p.sil ∧ (p.raised m).last = p.last ∧ (p.raised m).line = p.line := by unfold PSrc.raised; split <;> exact ⟨rfl, rfl, rfl, rfl, rfl⟩

/-- Join -/
def Eng.joined (X : Eng) (i : Nat) (p : PSrc) : Eng := ({ X with srcs := X.srcs.set i (({ p with inn := true } : PSrc).activated X.merged) } : Eng).settled
theorem sim_join {X : Eng} {R R' : Ref} {N i : Nat} {p : PSrc} {r' : RSrc} (h : Sim X R) (g : Good N R) (hp : X.srcs[i]? = some p) (hj : JoinOk R i r' R') : Sim (X.joined i p) R' ∧ Good (N + 1) R' := by
  obtain ⟨hi, hr', rfl⟩ := hj
  have hr := List.getElem?_eq_getElem hi
  have s := h.src i p _ hp hr
  have hc := g.fits
  have hmk := g.mks i _ hr
  have hmg := g.mgd
  have hln := g.lens i _ hr
  refine sim_settled (sim_src h hr ?_ ?_ ?_) (good_src (g.mono (Nat.le_succ N)) ?_ ?_ ?_)
  · rw [hr']
    have hm : (({ p with inn := true } : PSrc).activated X.merged).mark = greatest (R.srcs[i].marks ++ [R.merged]) (-2199023255552) := by
      unfold PSrc.activated; rw [raised_mark, greatest_snoc, h.merged]; simp only [s.mark]
    have q := raised_rest ({ ({ p with inn := true } : PSrc) with idle := false, sil := 0 } : PSrc) X.merged
    refine ⟨q.1, ?_, hm, ⟨by simp, fun _ => q.2.2.1, by simp⟩, q.2.2.2.1.trans s.last, q.2.2.2.2.trans s.line⟩
    refine q.2.1.trans ?_
    simp only [Bool.true_and]
    symm
    simp
  · intro _ _
    unfold PSrc.activated; rw [raised_mark, h.merged]
    split <;> omega
  · rw [hr']; exact Int.le_refl _
  · rw [hr']; simp only; rw [greatest_snoc]; split <;> omega
  · rw [hr']; simp; omega
  · rw [hr']; simp only; omega
/-- Leave -/
def Eng.gone (X : Eng) (i : Nat) (p : PSrc) : Eng := ({ X with srcs := X.srcs.set i { p with inn := false, idle := false } } : Eng).settled
theorem sim_leave {X : Eng} {R R' : Ref} {N i : Nat} {p : PSrc} (h : Sim X R) (g : Good N R) (hp : X.srcs[i]? = some p) (hj : LeaveOk R i R') : Sim (X.gone i p) R' ∧ Good N R' := by
  obtain ⟨hi, rfl⟩ := hj
  have hr := List.getElem?_eq_getElem hi
  have s := h.src i p _ hp hr
  refine sim_settled (sim_src h hr ⟨rfl, by simp, s.mark, s.sil, s.last, s.line⟩ (by simp) (Int.le_refl _)) (good_src g (by exact g.mks i R.srcs[i] hr) (by exact g.lens i R.srcs[i] hr) (by exact g.sil i R.srcs[i] hr))
/-- what touching makes of a source -/
theorem sim_touch {X : Eng} {R : Ref} {i : Nat} {p : PSrc} {r : RSrc} (h : Sim X R) (hc : 0 ≤ R.c.idle) (hp : X.srcs[i]? = some p) (hr : R.srcs[i]? = some r) :
    SrcSim R.c (p.touched X.merged) { r with sil := 0, marks := R.touched i r } ∧ ((p.touched X.merged).inn = true → R.merged ≤ (p.touched X.merged).mark) := by
  have s := h.src i p r hp hr
  have hid : R.isIdle i = p.idle := by unfold Ref.isIdle; rw [hr]; exact s.idle.symm
  unfold Ref.touched
  rw [hid]
  unfold PSrc.touched
  cases hpi : p.idle with
  | false =>
    simp only [Bool.false_eq_true, if_false]
    refine ⟨⟨s.inn, ?_, s.mark, ⟨by simp, fun _ => rfl, by simp⟩, s.last, s.line⟩, fun hin => h.act i p hp hin hpi⟩
    simp only [hpi]
    symm
    simp
  | true =>
    simp only [if_true]
    have hm : ((({ p with sil := 0 } : PSrc)).activated X.merged).mark = greatest (r.marks ++ [R.merged]) (-2199023255552) := by
      unfold PSrc.activated; rw [raised_mark, greatest_snoc, h.merged]; simp only [s.mark]
    have q := raised_rest ({ ({ p with sil := 0 } : PSrc) with idle := false, sil := 0 } : PSrc) X.merged
    refine ⟨⟨q.1.trans s.inn, ?_, hm, ⟨by simp, fun _ => q.2.2.1, by simp⟩, q.2.2.2.1.trans s.last, q.2.2.2.2.trans s.line⟩, fun _ => ?_⟩
    · refine q.2.1.trans ?_
      symm
      simp
    · unfold PSrc.activated; rw [raised_mark, h.merged]; split <;> omega
theorem touched_great {R : Ref} {N i : Nat} {r : RSrc} (g : Good N R) (hr : R.srcs[i]? = some r) : greatest (R.touched i r) (-2199023255552) ≤ 1099511627776 + (R.all.length : Int) ∧ (R.touched i r).length ≤ N + 1 := by
  have := g.mks i r hr
  have := g.mgd
  have := g.lens i r hr
  unfold Ref.touched
  split
  · rw [greatest_snoc]
    refine ⟨?_, by simp; omega⟩
    split <;> omega
  · exact ⟨by omega, by omega⟩
/-- raising -/
theorem srcsim_raise {c : Cfg} {p : PSrc} {r : RSrc} (s : SrcSim c p r) (m : Int) : SrcSim c (p.raised m) { r with marks := r.marks ++ [m] } := by
  have q := raised_rest p m
  refine ⟨q.1.trans s.inn, q.2.1.trans s.idle, ?_, ⟨s.sil.1, fun h => q.2.2.1.trans (s.sil.2.1 h), fun h => q.2.2.1.trans (s.sil.2.2 h)⟩, q.2.2.2.1.trans s.last, q.2.2.2.2.trans s.line⟩
  simp only
  rw [raised_mark, greatest_snoc, s.mark]
theorem raised_le (p : PSrc) (m : Int) : p.mark ≤ (p.raised m).mark := by rw [raised_mark]; split <;> omega
/-- Punct -/
def Eng.puncted (X : Eng) (i : Nat) (p : PSrc) (ts : Int) : Eng := ({ X with srcs := X.srcs.set i ((p.touched X.merged).raised ts) } : Eng).settled
theorem sim_punct {X : Eng} {R R' : Ref} {N i : Nat} {p : PSrc} {ts : Int} (h : Sim X R) (g : Good N R) (hp : X.srcs[i]? = some p) (hts : ts ≤ 1099511627776) (hj : PunctOk R i ts R') : Sim (X.puncted i p ts) R' ∧ Good (N + 2) R' := by
  obtain ⟨hi, r', hr', rfl⟩ := hj
  have hr := List.getElem?_eq_getElem hi
  have hc := g.fits
  obtain ⟨st, ha⟩ := sim_touch h (by omega) hp hr
  obtain ⟨tg, tl⟩ := touched_great g hr
  have hln := g.lens i _ hr
  have hmg := g.mgd
  have s2 := srcsim_raise st ts
  refine sim_settled (sim_src h hr ?_ ?_ ?_) (good_src (g.mono (by omega : N ≤ N + 2)) ?_ ?_ ?_)
  · rw [hr']; exact ⟨s2.inn, s2.idle, s2.mark, s2.sil, s2.last, s2.line⟩
  · intro h1 _
    have := raised_le (p.touched X.merged) ts
    have := ha (by rw [(raised_rest _ _).1] at h1; exact h1)
    omega
  · rw [hr']; exact Int.le_refl _
  · rw [hr']; simp only; rw [greatest_snoc]; split <;> omega
  · rw [hr']; simp; omega
  · rw [hr']; simp only; omega
/-- Tick -/
def hushed (c : Cfg) (n : Int) (p : PSrc) : PSrc := if p.inn then { p with sil := if 1000 < p.sil + n then 1000 else p.sil + n, idle := if 0 < c.idle ∧ c.idle ≤ (if 1000 < p.sil + n then 1000 else p.sil + n) then true else p.idle } else p
def Eng.ticked (X : Eng) (n : Int) : Eng := ({ X with srcs := X.srcs.map (hushed X.c n) } : Eng).settled
theorem srcsim_tick {c : Cfg} {p : PSrc} {r : RSrc} {n : Int} (s : SrcSim c p r) (hn : 1 ≤ n) (hn' : n ≤ 1000) (hc : c.idle ≤ 1000) : SrcSim c (hushed c n p) (ticked n r) := by
  unfold hushed ticked
  rw [s.inn]
  cases hin : r.inn with
  | false => simpa using s
  | true =>
    simp only [if_true]
    have q := s.sil
    have hs : (r.sil + n ≤ 1000 → (if 1000 < p.sil + n then (1000 : Int) else p.sil + n) = r.sil + n) ∧ (1000 ≤ r.sil + n → (if 1000 < p.sil + n then (1000 : Int) else p.sil + n) = 1000) := by
      by_cases h1 : r.sil ≤ 1000
      · have := q.2.1 h1
        refine ⟨fun h => ?_, fun h => ?_⟩
        · rw [if_neg (by omega)]; omega
        · split <;> omega
      · have := q.2.2 (by omega)
        refine ⟨fun h => by omega, fun h => ?_⟩
        rw [if_pos (by omega)]
    refine ⟨by simp [s.inn, hin], ?_, s.mark, ⟨by simp only; omega, hs.1, hs.2⟩, s.last, s.line⟩
    have hi := s.idle
    rw [hin] at hi
    generalize (if 1000 < p.sil + n then (1000 : Int) else p.sil + n) = z at hs ⊢
    by_cases h0 : 0 < c.idle
    · by_cases h1 : c.idle ≤ r.sil + n
      · have hz : c.idle ≤ z := by
          by_cases h2 : r.sil + n ≤ 1000
          · rw [hs.1 h2]; exact h1
          · rw [hs.2 (by omega)]; exact hc
        simp [h0, hz, h1]
      · have hz : ¬ c.idle ≤ z := by
          rw [hs.1 (by omega)]; exact h1
        have h2 : ¬ c.idle ≤ r.sil := by omega
        simp [h0, hz, h1, hi, h2]
    · simp [h0, hi]
theorem hushed_mark (c : Cfg) (n : Int) (p : PSrc) : (hushed c n p).mark = p.mark ∧ (hushed c n p).inn = p.inn := by unfold hushed; split <;> exact ⟨rfl, by simp [*]⟩
theorem ticked_rest (n : Int) (r : RSrc) : (ticked n r).marks = r.marks ∧ (ticked n r).seqs = r.seqs := by unfold ticked; split <;> exact ⟨rfl, rfl⟩
theorem tickTo_all (n : Int) (l : List RSrc) : tickTo n l l.length = l.map (ticked n) := by simp [tickTo]
theorem sim_tick {X : Eng} {R : Ref} {N : Nat} {n : Int} (h : Sim X R) (g : Good N R) (hn : 1 ≤ n) (hn' : n ≤ 1000) : Sim (X.ticked n) (R.ticks n) ∧ Good (N + 1) (R.ticks n) := by
  unfold Ref.ticks Eng.ticked
  rw [tickTo_all]
  have hc := g.fits
  refine sim_settled ⟨h.c, by simp [h.n], ?_, h.merged, h.late, h.perm, h.logS, h.waitS, h.lo, h.hi, ?_, h.ids, ?_⟩ ⟨by simp [g.srcs], g.fits, g.all, g.aside, g.ts, g.mgd, ?_, ?_, ?_⟩
  · intro i p r hp hr
    simp only [List.getElem?_map, Option.map_eq_some_iff] at hp hr
    obtain ⟨p0, hp0, rfl⟩ := hp
    obtain ⟨r0, hr0, rfl⟩ := hr
    rw [h.c]
    exact srcsim_tick (h.src i p0 r0 hp0 hr0) hn hn' (show R.c.idle ≤ 1000 by omega)
  · intro i p hp h1 h2
    simp only [List.getElem?_map, Option.map_eq_some_iff] at hp
    obtain ⟨p0, hp0, rfl⟩ := hp
    rw [(hushed_mark _ _ _).1]
    rw [(hushed_mark _ _ _).2] at h1
    refine h.act i p0 hp0 h1 ?_
    unfold hushed at h2
    rw [if_pos h1] at h2
    simp only at h2
    split at h2 <;> simp_all
  · intro e he
    obtain ⟨i, r, e1, e2, e3⟩ := h.own e he
    exact ⟨i, ticked n r, e1, by simp [e2], by rw [(ticked_rest n r).2]; exact e3⟩
  · intro i r hr
    simp only [List.getElem?_map, Option.map_eq_some_iff] at hr
    obtain ⟨r0, hr0, rfl⟩ := hr
    rw [(ticked_rest n r0).1]; exact g.mks i r0 hr0
  · intro i r hr
    simp only [List.getElem?_map, Option.map_eq_some_iff] at hr
    obtain ⟨r0, hr0, rfl⟩ := hr
    rw [(ticked_rest n r0).1, (ticked_rest n r0).2]
    have := g.lens i r0 hr0
    omega
  · intro i r hr
    simp only [List.getElem?_map, Option.map_eq_some_iff] at hr
    obtain ⟨r0, hr0, rfl⟩ := hr
    have := g.sil i r0 hr0
    unfold ticked
    split <;> (try simp only) <;> omega
end Go.Proofs.YthiabdpgieppoaaGreat
