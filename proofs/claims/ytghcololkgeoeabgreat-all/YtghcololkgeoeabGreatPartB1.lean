import Derived.Test.YtghcololkgeoeabGreatPartA9
import Derived.Test.YtghcololkgeoeabGreatPartA7
namespace Go.Proofs.YtghcololkgeoeabGreat
open Go.RowKit
set_option linter.unusedVariables false
set_option linter.unusedSimpArgs false
theorem ahead_iff (a c : Ev) : aheadB a c = true ↔ a.ts < c.ts ∨ (a.ts = c.ts ∧ (a.src < c.src ∨ (a.src = c.src ∧ a.seq < c.seq))) := by simp [aheadB]
theorem ahead_trans {a b c : Ev} (h : aheadB a b = true) (k : aheadB b c = true) : aheadB a c = true := by rw [ahead_iff] at *; omega
theorem ahead_asym {a b : Ev} (h : aheadB a b = true) (k : aheadB b a = true) : False := by rw [ahead_iff] at *; omega
def Apart2 (a b : Ev) : Prop := ¬ (a.src = b.src ∧ a.seq = b.seq)
theorem ahead_total {a b : Ev} (h : Apart2 a b) : aheadB a b = true ∨ aheadB b a = true := by unfold Apart2 at h; rw [ahead_iff, ahead_iff]; omega
def Srt (l : List Ev) : Prop := l.Pairwise (fun a b => aheadB a b = true)
theorem srt_unique : ∀ {l k : List Ev}, l.Perm k → Srt l → Srt k → l = k := by
  intro l
  induction l with
  | nil => intro k hp _ _; exact (List.nil_perm.1 hp).symm
  | cons a l ih =>
    intro k hp hl hk
    cases k with
    | nil => exact absurd hp.symm (by simp)
    | cons b k =>
      unfold Srt at hl hk
      rw [List.pairwise_cons] at hl hk
      have hab : a = b := by
        refine Classical.byContradiction fun hne => ?_
        have h1 : a ∈ b :: k := hp.mem_iff.1 (by simp)
        have h2 : b ∈ a :: l := hp.mem_iff.2 (by simp)
        have h1' : a ∈ k := by rcases List.mem_cons.1 h1 with e | e; exact absurd e hne; exact e
        have h2' : b ∈ l := by rcases List.mem_cons.1 h2 with e | e; exact absurd e.symm hne; exact e
        exact ahead_asym (hl.1 b h2') (hk.1 a h1')
      subst hab
      rw [ih ((List.perm_cons a).1 hp) hl.2 hk.2]
def Cand (m : Int) (l : List Ev) (T : List Bool) (i : Nat) : Prop := ∃ e, l[i]? = some e ∧ T[i]? = some false ∧ e.ts < m
theorem bestTo_spec (m : Int) (l : List Ev) (T : List Bool) (hd : ∀ (i j : Nat) (a b : Ev), l[i]? = some a → l[j]? = some b → i ≠ j → Apart2 a b) : ∀ k,
    match bestTo m l T k with
    | none => ∀ i, i < k → ¬ Cand m l T i
    | some j => Cand m l T j ∧ ∀ i, i < k → i ≠ j → Cand m l T i → ∀ a b, l[j]? = some a → l[i]? = some b → aheadB a b = true := by
  intro k
  induction k with
  | zero => simp [bestTo]
  | succ k ih =>
    have step : ¬ Cand m l T k → bestTo m l T (k + 1) = bestTo m l T k → (match bestTo m l T (k + 1) with
        | none => ∀ i, i < k + 1 → ¬ Cand m l T i
        | some j => Cand m l T j ∧ ∀ i, i < k + 1 → i ≠ j → Cand m l T i → ∀ a b, l[j]? = some a → l[i]? = some b → aheadB a b = true) := by
      intro hn he
      rw [he]
      cases hb : bestTo m l T k with
      | none =>
        rw [hb] at ih
        intro i hi
        by_cases hik : i = k
        · rw [hik]; exact hn
        · exact ih i (by omega)
      | some j =>
        rw [hb] at ih
        refine ⟨ih.1, fun i hi hij hc => ?_⟩
        by_cases hik : i = k
        · exact absurd (hik ▸ hc) hn
        · exact ih.2 i (by omega) hij hc
    by_cases hc : Cand m l T k
    · obtain ⟨e, he, ht, hm⟩ := id hc
      have e1 : bestTo m l T (k + 1) = match bestTo m l T k with
        | none => some k
        | some j => match l[j]? with | some f => if aheadB e f then some k else some j | none => some j := by
        rw [bestTo, he, ht]; simp only; rw [if_neg (by omega)]; rfl
      cases hb : bestTo m l T k with
      | none =>
        rw [hb] at ih e1
        simp only at e1
        rw [e1]
        refine ⟨hc, fun i hi hik hci => absurd hci (ih i (by omega))⟩
      | some j =>
        rw [hb] at ih e1
        obtain ⟨⟨f, hf, htj, hfm⟩, hall⟩ := ih
        simp only [hf] at e1
        have hjk : j ≠ k := fun h => by
          have := (bestTo_lt m l T k j hb).1
          omega
        by_cases ha : aheadB e f = true
        · rw [if_pos ha] at e1
          rw [e1]
          refine ⟨hc, fun i hi hik hci a b h1 h2 => ?_⟩
          rw [he] at h1
          cases h1
          by_cases hij : i = j
          · subst hij; rw [hf] at h2; cases h2; exact ha
          · exact ahead_trans ha (hall i (by omega) hij hci f b hf h2)
        · rw [if_neg ha] at e1
          rw [e1]
          refine ⟨⟨f, hf, htj, hfm⟩, fun i hi hij hci a b h1 h2 => ?_⟩
          by_cases hik : i = k
          · subst hik
            rw [he] at h2; cases h2
            rw [hf] at h1; cases h1
            rcases ahead_total (hd j i f e hf he hij.symm) with h | h
            · exact h
            · exact absurd h ha
          · exact hall i (by omega) hij hci a b h1 h2
    · refine step hc ?_
      rw [bestTo]
      split
      · rename_i e h1 h2
        rw [if_pos]
        exact Classical.byContradiction fun h => hc ⟨e, h1, h2, by omega⟩
      · rfl
def pick : List Bool → List Ev → List Ev
  | true :: T, e :: l => e :: pick T l
  | false :: T, _ :: l => pick T l
  | _, _ => []
theorem pick_set : ∀ (T : List Bool) (l : List Ev) (j : Nat) (e : Ev), T[j]? = some false → l[j]? = some e → (pick (T.set j true) l).Perm (pick T l ++ [e]) := by
  intro T
  induction T with
  | nil => intro l j e h; simp at h
  | cons t T ih =>
    intro l j e h1 h2
    cases l with
    | nil => simp at h2
    | cons a l =>
      cases j with
      | zero =>
        simp only [List.getElem?_cons_zero, Option.some.injEq] at h1 h2
        subst h1; subst h2
        simp only [List.set_cons_zero, pick]
        exact (List.perm_append_singleton a (pick T l)).symm
      | succ j =>
        simp only [List.getElem?_cons_succ] at h1 h2
        have := ih l j e h1 h2
        cases t
        · simpa only [List.set_cons_succ, pick] using this
        · simp only [List.set_cons_succ, pick, List.cons_append]; exact this.cons a
theorem pick_none : ∀ (l : List Ev), pick (List.replicate l.length false) l = [] := by
  intro l
  induction l with
  | nil => rfl
  | cons a l ih => simpa [List.replicate_succ, pick] using ih
theorem pick_full (m : Int) : ∀ (T : List Bool) (l : List Ev), T.length = l.length → (∀ (i : Nat), ¬ Cand m l T i) → (∀ (i : Nat) (e : Ev), l[i]? = some e → T[i]? = some true → e.ts < m) → pick T l = l.filter (fun e => decide (e.ts < m)) := by
  intro T
  induction T with
  | nil => intro l hl _ _; cases l with | nil => rfl | cons a l => simp at hl
  | cons t T ih =>
    intro l hl hc ht
    cases l with
    | nil => simp at hl
    | cons a l =>
      have hi := ih l (by simpa using hl) (fun i hci => hc (i + 1) (by obtain ⟨e, h1, h2, h3⟩ := hci; exact ⟨e, by simpa using h1, by simpa using h2, h3⟩)) (fun i e h1 h2 => ht (i + 1) e (by simpa using h1) (by simpa using h2))
      cases t with
      | true =>
        have := ht 0 a (by simp) (by simp)
        simp [pick, hi, this]
      | false =>
        have : ¬ a.ts < m := fun h => hc 0 ⟨a, by simp, by simp, h⟩
        simp [pick, hi, this]
theorem selRun_inv (m : Int) (l : List Ev) (hd : ∀ (i j : Nat) (a b : Ev), l[i]? = some a → l[j]? = some b → i ≠ j → Apart2 a b) : ∀ n,
    (selRun m l n).2.Perm (pick (selRun m l n).1 l) ∧ Srt (selRun m l n).2 ∧ (∀ (i : Nat) (e : Ev), l[i]? = some e → (selRun m l n).1[i]? = some true → e.ts < m) ∧
      ∀ x ∈ (selRun m l n).2, ∀ (i : Nat) (e : Ev), l[i]? = some e → Cand m l (selRun m l n).1 i → aheadB x e = true := by
  intro n
  induction n with
  | zero =>
    refine ⟨by simp [selRun, pick_none], by simp [selRun, Srt], ?_, by simp [selRun]⟩
    intro i e h1 h2
    simp [selRun, List.getElem?_replicate] at h2
  | succ n ih =>
    have hs := bestTo_spec m l (selRun m l n).1 hd l.length
    rw [selRun]
    cases hb : bestTo m l (selRun m l n).1 l.length with
    | none => exact ih
    | some j =>
      rw [hb] at hs
      obtain ⟨h1, h2, h3, h4⟩ := ih
      obtain ⟨⟨e, he, ht, hm⟩, hall⟩ := hs
      simp only [he, Option.toList_some]
      refine ⟨(h1.append_right [e]).trans (pick_set _ _ _ _ ht he).symm, ?_, ?_, ?_⟩
      · unfold Srt
        rw [List.pairwise_append]
        refine ⟨h2, by simp, fun x hx y hy => ?_⟩
        simp only [List.mem_singleton] at hy
        subst hy
        exact h4 x hx j y he ⟨y, he, ht, hm⟩
      · intro i f hf hT
        by_cases hij : j = i
        · subst hij; rw [he] at hf; cases hf; exact hm
        · rw [List.getElem?_set_ne hij] at hT
          exact h3 i f hf hT
      · intro x hx i f hf hci
        have hij : i ≠ j := fun h => by
          subst h
          obtain ⟨_, _, h, _⟩ := hci
          rw [List.getElem?_set] at h
          simp at h
        have hci' : Cand m l (selRun m l n).1 i := by
          obtain ⟨f', a1, a2, a3⟩ := hci
          rw [List.getElem?_set_ne (Ne.symm hij)] at a2
          exact ⟨f', a1, a2, a3⟩
        rcases List.mem_append.1 hx with hx | hx
        · exact h4 x hx i f hf hci'
        · simp only [List.mem_singleton] at hx
          subst hx
          exact hall i (List.getElem?_eq_some_iff.1 hf).1 hij hci' x f he hf
theorem selRun_log (m : Int) (l L : List Ev) (n : Nat) (hd : ∀ (i j : Nat) (a b : Ev), l[i]? = some a → l[j]? = some b → i ≠ j → Apart2 a b) (hb : bestTo m l (selRun m l n).1 l.length = none)
    (hp : L.Perm (l.filter (fun e => decide (e.ts < m)))) (hs : Srt L) : (selRun m l n).2 = L := by
  obtain ⟨h1, h2, h3, _⟩ := selRun_inv m l hd n
  have hsp := bestTo_spec m l (selRun m l n).1 hd l.length
  rw [hb] at hsp
  refine srt_unique ?_ h2 hs
  rw [pick_full m _ l (selRun_len m l n).1 (fun i hc => hsp i (by obtain ⟨e, h, _⟩ := hc; exact (List.getElem?_eq_some_iff.1 h).1) hc) h3] at h1
  exact h1.trans hp.symm
theorem apart_get {l : List Ev} (h : l.Pairwise Apart2) : ∀ (i j : Nat) (a b : Ev), l[i]? = some a → l[j]? = some b → i ≠ j → Apart2 a b := by
  intro i j a b hi hj hij
  obtain ⟨h1, rfl⟩ := List.getElem?_eq_some_iff.1 hi
  obtain ⟨h2, rfl⟩ := List.getElem?_eq_some_iff.1 hj
  rw [List.pairwise_iff_getElem] at h
  rcases Nat.lt_or_gt_of_ne hij with hlt | hlt
  · exact h i j h1 h2 hlt
  · intro ⟨e1, e2⟩; exact h j i h2 h1 hlt ⟨e1.symm, e2.symm⟩
end Go.Proofs.YtghcololkgeoeabGreat
namespace Go.Proofs.YtghcololkgeoeabGreat
open Go.RowKit
set_option linter.unusedVariables false
set_option linter.unusedSimpArgs false
structure PSrc where
  inn : Bool
  idle : Bool
  mark : Int
  sil : Int
  last : Int
  line : List UInt8
  la : Option Addr
  lc : Nat
structure Eng where
  c : Cfg
  srcs : List PSrc
  sg : Nat
  sc : Nat
  merged : Int
  wait : List Ev
  wa : Option Addr
  wc : Nat
  log : List Ev
  ga : Option Addr
  gc : Nat
  late : List Ev
  da : Option Addr
  dc : Nat
  pa : Option Addr
  pc : Nat
structure SrcSim (c : Cfg) (p : PSrc) (r : RSrc) : Prop where
  inn : p.inn = r.inn
  idle : p.idle = (r.inn && decide (0 < c.idle) && decide (c.idle ≤ r.sil))
  mark : p.mark = greatest r.marks (-2199023255552)
  sil : 0 ≤ r.sil ∧ (r.sil ≤ 1000 → p.sil = r.sil) ∧ (1000 ≤ r.sil → p.sil = 1000)
  last : p.last = greatest r.seqs (-1)
structure Sim (X : Eng) (R : Ref) : Prop where
  c : X.c = R.c
  n : X.srcs.length = R.srcs.length
  src : ∀ (i : Nat) p r, X.srcs[i]? = some p → R.srcs[i]? = some r → SrcSim R.c p r
  merged : X.merged = R.merged
  late : X.late = R.aside
  perm : (X.log ++ X.wait).Perm R.all
  logS : Srt X.log
  waitS : Srt X.wait
  lo : ∀ e ∈ X.log, e.ts < R.merged
  hi : ∀ e ∈ X.wait, R.merged ≤ e.ts
  act : ∀ (i : Nat) p, X.srcs[i]? = some p → p.inn = true → p.idle = false → R.merged ≤ p.mark
  ids : R.all.Pairwise Apart2
  own : ∀ e ∈ R.all, ∃ (i : Nat) (r : RSrc), e.src = i ∧ R.srcs[i]? = some r ∧ e.seq ≤ greatest r.seqs (-1)
structure Pk (R : Ref) : Prop where
  kinds : ∀ e ∈ R.all, e.kind ≠ 0
  st : R.steps = patSteps R.c.pat.data.toList
  one : R.one = patOne R.c.pat.data.toList
  win : R.win = patWin R.c.pat.data.toList
  who : wholeP R.c.pat.data.toList
structure Good (N : Nat) (R : Ref) : Prop where
  srcs : (R.srcs.length : Int) = R.c.sources
  fits : 1 ≤ R.c.sources ∧ R.c.sources ≤ 6 ∧ 0 ≤ R.c.slack ∧ R.c.slack ≤ 1000 ∧ 0 ≤ R.c.policy ∧ R.c.policy ≤ 2 ∧ 1 ≤ R.c.room ∧ R.c.room ≤ 32 ∧ 0 ≤ R.c.idle ∧ R.c.idle ≤ 1000
  all : R.all.length ≤ 200
  aside : R.aside.length ≤ 200
  ts : ∀ e ∈ R.all, -1099511627776 ≤ e.ts ∧ e.ts + 1 ≤ 1099511627776 + (R.all.length : Int)
  mgd : -2199023255552 ≤ R.merged ∧ R.merged ≤ 1099511627776 + (R.all.length : Int)
  mks : ∀ (i : Nat) r, R.srcs[i]? = some r → greatest r.marks (-2199023255552) ≤ 1099511627776 + (R.all.length : Int)
  lens : ∀ (i : Nat) r, R.srcs[i]? = some r → r.marks.length ≤ N ∧ r.seqs.length ≤ N
  sil : ∀ (i : Nat) r, R.srcs[i]? = some r → 0 ≤ r.sil ∧ r.sil ≤ 1000 * (N : Int)
  pk : Pk R
theorem Good.sane {N : Nat} {R : Ref} (h : Good N R) : Sane N R :=
  ⟨h.all, h.aside, by have := h.srcs; have := h.fits; omega, fun e he => by have := h.ts e he; have := h.all; omega, h.lens, h.sil⟩
theorem Good.mono {N M : Nat} {R : Ref} (h : Good N R) (hm : N ≤ M) : Good M R :=
  ⟨h.srcs, h.fits, h.all, h.aside, h.ts, h.mgd, h.mks, fun i r hr => by have := h.lens i r hr; omega, fun i r hr => by have := h.sil i r hr; omega, h.pk⟩
def Eng.leastTo (X : Eng) : Nat → Int × Bool
  | 0 => (-2199023255552, false)
  | k + 1 => match X.srcs[k]? with
    | some p => if (p.inn && !p.idle && (!(X.leastTo k).2 || decide (p.mark < (X.leastTo k).1))) = true then (p.mark, true) else X.leastTo k
    | none => X.leastTo k
def lastTs (l : List Ev) : Int := match l.getLast? with | some e => e.ts | none => 0
def Eng.aim (X : Eng) : Int := if (!(X.leastTo X.srcs.length).2 && decide (0 < X.wait.length)) = true then lastTs X.wait + 1 else (X.leastTo X.srcs.length).1
def Eng.rise (X : Eng) : Int := if X.merged < X.aim then X.aim else X.merged
def Eng.settled (X : Eng) : Eng := { X with merged := X.rise, log := X.log ++ X.wait.filter (fun e => decide (e.ts < X.rise)), wait := X.wait.filter (fun e => !decide (e.ts < X.rise)) }

theorem sim_active {X : Eng} {R : Ref} (h : Sim X R) {k : Nat} {p : PSrc} {r : RSrc} (hp : X.srcs[k]? = some p) (hr : R.srcs[k]? = some r) : R.active k = (p.inn && !p.idle) ∧ R.mark k = p.mark := by
  have s := h.src k p r hp hr
  refine ⟨?_, ?_⟩
  · unfold Ref.active Ref.isIdle
    rw [hr]
    simp only
    rw [s.idle, s.inn]
  · unfold Ref.mark
    rw [hr, s.mark]
    rfl
theorem sim_get {X : Eng} {R : Ref} (h : Sim X R) {k : Nat} (hk : k < R.srcs.length) : ∃ p r, X.srcs[k]? = some p ∧ R.srcs[k]? = some r := by
  have hk' : k < X.srcs.length := by rw [h.n]; exact hk
  exact ⟨X.srcs[k], R.srcs[k], List.getElem?_eq_getElem hk', List.getElem?_eq_getElem hk⟩
theorem least_eq {X : Eng} {R : Ref} (h : Sim X R) : ∀ k, k ≤ R.srcs.length → X.leastTo k = match R.leastOf k with | none => (-2199023255552, false) | some m => (m, true) := by
  intro k
  induction k with
  | zero => intro _; rfl
  | succ k ih =>
    intro hk
    obtain ⟨p, r, hp, hr⟩ := sim_get h (k := k) (by omega)
    obtain ⟨ha, hm⟩ := sim_active h hp hr
    have i := ih (by omega)
    rw [Eng.leastTo, Ref.leastOf, hp]
    simp only
    rw [ha, hm]
    cases hl : R.leastOf k with
    | none =>
      rw [hl] at i
      simp only at i
      rw [i]
      cases p.inn <;> cases p.idle <;> simp
    | some m =>
      rw [hl] at i
      simp only at i
      rw [i]
      cases p.inn <;> cases p.idle <;> simp
      split <;> rfl
theorem leastOf_le {R : Ref} : ∀ k (i : Nat), i < k → R.active i = true → ∃ m, R.leastOf k = some m ∧ m ≤ R.mark i := by
  intro k
  induction k with
  | zero => intro i hi; omega
  | succ k ih =>
    intro i hi ha
    rw [Ref.leastOf]
    by_cases hik : i = k
    · subst hik
      rw [if_pos ha]
      cases R.leastOf i with
      | none => exact ⟨_, rfl, Int.le_refl _⟩
      | some m =>
        simp only
        split
        · exact ⟨_, rfl, Int.le_refl _⟩
        · exact ⟨_, rfl, by omega⟩
    · obtain ⟨m, hm, hle⟩ := ih i (by omega) ha
      split
      · rw [hm]
        simp only
        split
        · exact ⟨_, rfl, by omega⟩
        · exact ⟨_, rfl, hle⟩
      · exact ⟨m, hm, hle⟩
theorem leastOf_mem {R : Ref} : ∀ k m, R.leastOf k = some m → ∃ i, i < k ∧ R.active i = true ∧ m = R.mark i := by
  intro k
  induction k with
  | zero => intro m h; simp [Ref.leastOf] at h
  | succ k ih =>
    intro m h
    rw [Ref.leastOf] at h
    split at h
    · rename_i ha
      split at h
      · cases h; exact ⟨k, by omega, ha, rfl⟩
      · rename_i m0 hm0
        split at h
        · cases h; exact ⟨k, by omega, ha, rfl⟩
        · cases h
          obtain ⟨i, h1, h2, h3⟩ := ih _ hm0
          exact ⟨i, by omega, h2, h3⟩
    · obtain ⟨i, h1, h2, h3⟩ := ih _ h
      exact ⟨i, by omega, h2, h3⟩
theorem topOf_spec (l : List Ev) : ∀ m, topOf l = some m → (∃ e ∈ l, e.ts + 1 = m) ∧ ∀ e ∈ l, e.ts + 1 ≤ m := by
  have key : ∀ n (l : List Ev), l.length = n → ∀ m, topOf l = some m → (∃ e ∈ l, e.ts + 1 = m) ∧ ∀ e ∈ l, e.ts + 1 ≤ m := by
    intro n
    induction n with
    | zero =>
      intro l hl m h
      have : l = [] := by simpa using hl
      subst this
      simp [topOf] at h
    | succ n ih =>
      intro l hl m h
      rcases List.eq_nil_or_concat l with e | ⟨L, x, e⟩
      · subst e; simp at hl
      · rw [List.concat_eq_append] at e
        subst e
        rw [topOf_snoc] at h
        have hL : L.length = n := by simpa using hl
        cases ht : topOf L with
        | none =>
          rw [ht] at h
          simp only [Option.some.injEq] at h
          have := (topOf_none L).1 ht
          subst this
          simp only [List.nil_append, List.mem_singleton]
          exact ⟨⟨x, rfl, h⟩, fun e he => by subst he; omega⟩
        | some k =>
          rw [ht] at h
          simp only at h
          obtain ⟨⟨e0, he0, hk⟩, hall⟩ := ih L hL k ht
          split at h
          · simp only [Option.some.injEq] at h
            refine ⟨⟨x, by simp, h⟩, fun e he => ?_⟩
            rcases List.mem_append.1 he with he | he
            · have := hall e he; omega
            · simp only [List.mem_singleton] at he; subst he; omega
          · simp only [Option.some.injEq] at h
            refine ⟨⟨e0, by simp [he0], by omega⟩, fun e he => ?_⟩
            rcases List.mem_append.1 he with he | he
            · have := hall e he; omega
            · simp only [List.mem_singleton] at he; subst he; omega
  exact key _ l rfl
theorem last_top {l : List Ev} (hs : Srt l) (e : Ev) (he : e ∈ l) : e.ts ≤ lastTs l := by
  rcases List.eq_nil_or_concat l with h | ⟨L, x, h⟩
  · subst h; simp at he
  · rw [List.concat_eq_append] at h
    subst h
    unfold lastTs
    rw [List.getLast?_append]
    simp only [List.getLast?_singleton, Option.some_or]
    unfold Srt at hs
    rw [List.pairwise_append] at hs
    rcases List.mem_append.1 he with he | he
    · have := hs.2.2 e he x (by simp)
      rw [ahead_iff] at this
      omega
    · simp only [List.mem_singleton] at he; subst he; omega
theorem last_mem {l : List Ev} (hl : l ≠ []) : ∃ e ∈ l, e.ts = lastTs l := by
  rcases List.eq_nil_or_concat l with h | ⟨L, x, h⟩
  · exact absurd h hl
  · rw [List.concat_eq_append] at h
    subst h
    unfold lastTs
    rw [List.getLast?_append]
    exact ⟨x, by simp, by simp⟩
theorem sim_wait {X : Eng} {R : Ref} (h : Sim X R) : X.wait.Perm (R.wait (-1)) := by
  have p := h.perm.filter (waits R.merged (-1))
  rw [List.filter_append] at p
  have e1 : X.log.filter (waits R.merged (-1)) = [] := by
    rw [List.filter_eq_nil_iff]
    intro e he hw
    have := h.lo e he
    simp [waits] at hw
    omega
  have e2 : X.wait.filter (waits R.merged (-1)) = X.wait := by
    rw [List.filter_eq_self]
    intro e he
    have := h.hi e he
    simp [waits]
    exact this
  rw [e1, e2, List.nil_append] at p
  exact p
theorem sim_waitOf {X : Eng} {R : Ref} (h : Sim X R) (s : Int) (hs : 0 ≤ s) : (X.wait.filter (fun e => decide (e.src = s))).length = (R.wait s).length := by
  have p := (sim_wait h).filter (fun e => decide (e.src = s))
  rw [p.length_eq]
  unfold Ref.wait
  rw [List.filter_filter]
  congr 1
  apply List.filter_congr
  intro e _
  simp [waits]
  have : ¬ s < 0 := by omega
  simp [this, Bool.and_comm]
theorem sim_rise {X : Eng} {R : Ref} {N : Nat} (h : Sim X R) (g : Good N R) : X.rise = R.settled.merged := by
  have hl := least_eq h R.srcs.length (Nat.le_refl _)
  unfold Eng.rise Eng.aim
  rw [h.n, hl]
  unfold Ref.settled Ref.aim
  cases hlo : R.leastOf R.srcs.length with
  | some m =>
    simp only [Option.isSome_some, if_true, Bool.not_true, Bool.false_and, Bool.false_eq_true, if_false]
    rw [h.merged]
    split <;> rfl
  | none =>
    simp only [Option.isSome_none, Bool.false_eq_true, if_false, Bool.not_false, Bool.true_and]
    have hp := sim_wait h
    by_cases hw : X.wait = []
    · have : R.wait (-1) = [] := by
        rw [hw] at hp
        exact List.nil_perm.1 hp
      rw [this, hw]
      have hm := g.mgd
      simp only [List.length_nil, Nat.lt_irrefl, decide_false, Bool.false_eq_true, if_false, topOf, List.foldl_nil]
      rw [h.merged, if_neg (by omega)]
    · have hne : R.wait (-1) ≠ [] := fun e => hw (by rw [e] at hp; exact List.perm_nil.1 hp)
      cases ht : topOf (R.wait (-1)) with
      | none => exact absurd ((topOf_none _).1 ht) hne
      | some m =>
        obtain ⟨⟨e0, he0, hm0⟩, hall⟩ := topOf_spec _ m ht
        obtain ⟨e1, he1, hl1⟩ := last_mem hw
        have a1 := hall e1 (hp.mem_iff.1 he1)
        have a2 := last_top h.waitS e0 (hp.mem_iff.2 he0)
        have hm : lastTs X.wait + 1 = m := by omega
        have hpos : 0 < X.wait.length := List.length_pos_iff.2 hw
        simp only [hpos, decide_true, if_true]
        rw [h.merged, hm]
        split <;> rfl
theorem settled_parts (R : Ref) : R.settled = { R with merged := R.settled.merged } := by
  unfold Ref.settled
  split
  · split <;> rfl
  · rfl
theorem settled_up (R : Ref) : R.merged ≤ R.settled.merged := by
  unfold Ref.settled
  split
  · split
    · simp only; omega
    · exact Int.le_refl _
  · exact Int.le_refl _
theorem sim_settled {X : Eng} {R : Ref} {N : Nat} (h : Sim X R) (g : Good N R) : Sim X.settled R.settled ∧ Good N R.settled := by
  have hr := sim_rise h g
  have up := settled_up R
  have hact : ∀ (i : Nat) p, X.srcs[i]? = some p → p.inn = true → p.idle = false → R.settled.merged ≤ p.mark := by
    intro i p hp h1 h2
    have hi : i < R.srcs.length := by rw [← h.n]; exact (List.getElem?_eq_some_iff.1 hp).1
    obtain ⟨ha, hm⟩ := sim_active h hp (List.getElem?_eq_getElem hi)
    rw [h1, h2] at ha
    obtain ⟨m, e, hle⟩ := leastOf_le R.srcs.length i hi ha
    have h0 := h.act i p hp h1 h2
    unfold Ref.settled Ref.aim
    rw [e]
    simp only [Option.isSome_some, if_true]
    split
    · simp only; omega
    · exact h0
  have hmgd : R.settled.merged ≤ 1099511627776 + (R.all.length : Int) := by
    have := g.mgd
    unfold Ref.settled
    cases ha : R.aim with
    | none => exact this.2
    | some m =>
      simp only
      split
      · simp only
        unfold Ref.aim at ha
        split at ha
        · obtain ⟨i, hi, _, rfl⟩ := leastOf_mem _ _ ha
          have := g.mks i _ (List.getElem?_eq_getElem hi)
          unfold Ref.mark
          rw [List.getElem?_eq_getElem hi]
          exact this
        · obtain ⟨⟨e, he, rfl⟩, _⟩ := topOf_spec _ _ ha
          exact (g.ts e (List.mem_filter.1 he).1).2
      · exact this.2
  rw [settled_parts R]
  refine ⟨⟨h.c, h.n, h.src, hr, h.late, ?_, ?_, ?_, ?_, ?_, hact, h.ids, h.own⟩, ⟨g.srcs, g.fits, g.all, g.aside, g.ts, ⟨by have := g.mgd; simp only; omega, hmgd⟩, g.mks, g.lens, g.sil, ⟨g.pk.kinds, g.pk.st, g.pk.one, g.pk.win, g.pk.who⟩⟩⟩
  · simp only [Eng.settled, List.append_assoc]
    exact ((List.filter_append_perm (fun e => decide (e.ts < X.rise)) X.wait).append_left X.log).trans h.perm
  · simp only [Eng.settled]
    unfold Srt
    rw [List.pairwise_append]
    refine ⟨h.logS, List.Pairwise.filter _ h.waitS, fun a ha b hb => ?_⟩
    have h1 := h.lo a ha
    have h2 := h.hi b (List.mem_filter.1 hb).1
    rw [ahead_iff]
    omega
  · exact List.Pairwise.filter _ h.waitS
  · intro e he
    simp only [Eng.settled, List.mem_append, List.mem_filter, decide_eq_true_eq] at he
    rcases he with he | he
    · have := h.lo e he; simp only; omega
    · have := he.2; simp only; omega
  · intro e he
    simp only [Eng.settled, List.mem_filter, Bool.not_eq_true', decide_eq_false_iff_not] at he
    have := he.2
    simp only; omega
theorem set_some {α : Type} {l : List α} {i j : Nat} {x y : α} (h : (l.set i x)[j]? = some y) : (i = j ∧ y = x) ∨ (i ≠ j ∧ l[j]? = some y) := by
  rw [List.getElem?_set] at h
  split at h
  · rename_i e
    split at h
    · simp only [Option.some.injEq] at h; exact Or.inl ⟨e, h.symm⟩
    · simp at h
  · rename_i e; exact Or.inr ⟨e, h⟩
theorem sim_src {X : Eng} {R : Ref} (h : Sim X R) {i : Nat} {p' : PSrc} {r r' : RSrc} (hr : R.srcs[i]? = some r) (hs : SrcSim R.c p' r') (ha : p'.inn = true → p'.idle = false → R.merged ≤ p'.mark)
    (hq : greatest r.seqs (-1) ≤ greatest r'.seqs (-1)) : Sim { X with srcs := X.srcs.set i p' } { R with srcs := R.srcs.set i r' } := by
  have hi : i < R.srcs.length := (List.getElem?_eq_some_iff.1 hr).1
  refine ⟨h.c, by simp [h.n], ?_, h.merged, h.late, h.perm, h.logS, h.waitS, h.lo, h.hi, ?_, h.ids, ?_⟩
  · intro j p q hp hq
    rcases set_some hp with ⟨e, rfl⟩ | ⟨e, hp⟩
    · rcases set_some hq with ⟨_, rfl⟩ | ⟨e', _⟩
      · exact hs
      · exact absurd e e'
    · rcases set_some hq with ⟨e', _⟩ | ⟨_, hq⟩
      · exact absurd e' e
      · exact h.src j p q hp hq
  · intro j p hp h1 h2
    rcases set_some hp with ⟨e, rfl⟩ | ⟨e, hp⟩
    · exact ha h1 h2
    · exact h.act j p hp h1 h2
  · intro e he
    obtain ⟨j, q, e1, e2, e3⟩ := h.own e he
    by_cases hij : i = j
    · subst hij
      rw [hr] at e2
      cases e2
      exact ⟨i, r', e1, by simp [hi], by omega⟩
    · exact ⟨j, q, e1, by simp only [List.getElem?_set, if_neg hij]; exact e2, e3⟩
theorem good_src {N : Nat} {R : Ref} (g : Good N R) {i : Nat} {r' : RSrc} (hm : greatest r'.marks (-2199023255552) ≤ 1099511627776 + (R.all.length : Int)) (hl : r'.marks.length ≤ N ∧ r'.seqs.length ≤ N) (hs : 0 ≤ r'.sil ∧ r'.sil ≤ 1000 * (N : Int)) :
    Good N { R with srcs := R.srcs.set i r' } := by
  refine ⟨by simp [g.srcs], g.fits, g.all, g.aside, g.ts, g.mgd, ?_, ?_, ?_, ⟨g.pk.kinds, g.pk.st, g.pk.one, g.pk.win, g.pk.who⟩⟩
  · intro j r hr; rcases set_some hr with ⟨_, rfl⟩ | ⟨_, hr⟩; exact hm; exact g.mks j r hr
  · intro j r hr; rcases set_some hr with ⟨_, rfl⟩ | ⟨_, hr⟩; exact hl; exact g.lens j r hr
  · intro j r hr; rcases set_some hr with ⟨_, rfl⟩ | ⟨_, hr⟩; exact hs; exact g.sil j r hr
theorem Sim.pl {X Y : Eng} {R : Ref} (h : Sim X R) (hc : Y.c = X.c) (hs : Y.srcs = X.srcs) (hm : Y.merged = X.merged) (hw : Y.wait = X.wait) (hl : Y.log = X.log) (ha : Y.late = X.late) : Sim Y R :=
  ⟨by rw [hc]; exact h.c, by rw [hs]; exact h.n, by rw [hs]; exact h.src, by rw [hm]; exact h.merged, by rw [ha]; exact h.late, by rw [hl, hw]; exact h.perm, by rw [hl]; exact h.logS, by rw [hw]; exact h.waitS, by rw [hl]; exact h.lo, by rw [hw]; exact h.hi, by rw [hs]; exact h.act, h.ids, h.own⟩
def PSrc.raised (p : PSrc) (m : Int) : PSrc := if p.mark < m then { p with mark := m } else p
def PSrc.activated (p : PSrc) (m : Int) : PSrc := ({ p with idle := false, sil := 0 } : PSrc).raised m
def PSrc.touched (p : PSrc) (m : Int) : PSrc := if p.idle then ({ p with sil := 0 } : PSrc).activated m else { p with sil := 0 }
theorem raised_mark (p : PSrc) (m : Int) : (p.raised m).mark = if p.mark < m then m else p.mark := by unfold PSrc.raised; split <;> rfl
theorem raised_rest (p : PSrc) (m : Int) : (p.raised m).inn = p.inn ∧ (p.raised m).idle = p.idle ∧ (p.raised m).sil = p.sil ∧ (p.raised m).last = p.last ∧ (p.raised m).line = p.line := by unfold PSrc.raised; split <;> exact ⟨rfl, rfl, rfl, rfl, rfl⟩

def Eng.joined (X : Eng) (i : Nat) (p : PSrc) : Eng := ({ X with srcs := X.srcs.set i (({ p with inn := true } : PSrc).activated X.merged) } : Eng).settled
theorem sim_join {X : Eng} {R R' : Ref} {N i : Nat} {p : PSrc} {r' : RSrc} (h : Sim X R) (g : Good N R) (hp : X.srcs[i]? = some p) (hj : JoinOk R i r' R') : Sim (X.joined i p) R' ∧ Good (N + 1) R' := by
  obtain ⟨hi, hr', rfl⟩ := hj
  have hr := List.getElem?_eq_getElem hi
  have s := h.src i p _ hp hr
  have hc := g.fits
  have hmk := g.mks i _ hr
  have hmg := g.mgd
  have hln := g.lens i _ hr
  refine sim_settled (sim_src h hr ?_ ?_ ?_) (good_src (g.mono (Nat.le_succ N)) ?_ ?_ ?_)
  · rw [hr']
    have hm : (({ p with inn := true } : PSrc).activated X.merged).mark = greatest (R.srcs[i].marks ++ [R.merged]) (-2199023255552) := by
      unfold PSrc.activated; rw [raised_mark, greatest_snoc, h.merged]; simp only [s.mark]
    have q := raised_rest ({ ({ p with inn := true } : PSrc) with idle := false, sil := 0 } : PSrc) X.merged
    refine ⟨q.1, ?_, hm, ⟨by simp, fun _ => q.2.2.1, by simp⟩, q.2.2.2.1.trans s.last⟩
    refine q.2.1.trans ?_
    simp only [Bool.true_and]
    symm
    simp
  · intro _ _
    unfold PSrc.activated; rw [raised_mark, h.merged]
    split <;> omega
  · rw [hr']; exact Int.le_refl _
  · rw [hr']; simp only; rw [greatest_snoc]; split <;> omega
  · rw [hr']; simp; omega
  · rw [hr']; simp only; omega
def Eng.gone (X : Eng) (i : Nat) (p : PSrc) : Eng := ({ X with srcs := X.srcs.set i { p with inn := false, idle := false } } : Eng).settled
theorem sim_leave {X : Eng} {R R' : Ref} {N i : Nat} {p : PSrc} (h : Sim X R) (g : Good N R) (hp : X.srcs[i]? = some p) (hj : LeaveOk R i R') : Sim (X.gone i p) R' ∧ Good N R' := by
  obtain ⟨hi, rfl⟩ := hj
  have hr := List.getElem?_eq_getElem hi
  have s := h.src i p _ hp hr
  refine sim_settled (sim_src h hr ⟨rfl, by simp, s.mark, s.sil, s.last⟩ (by simp) (Int.le_refl _)) (good_src g (by exact g.mks i R.srcs[i] hr) (by exact g.lens i R.srcs[i] hr) (by exact g.sil i R.srcs[i] hr))
theorem sim_touch {X : Eng} {R : Ref} {i : Nat} {p : PSrc} {r : RSrc} (h : Sim X R) (hc : 0 ≤ R.c.idle) (hp : X.srcs[i]? = some p) (hr : R.srcs[i]? = some r) :
    SrcSim R.c (p.touched X.merged) { r with sil := 0, marks := R.touched i r } ∧ ((p.touched X.merged).inn = true → R.merged ≤ (p.touched X.merged).mark) := by
  have s := h.src i p r hp hr
  have hid : R.isIdle i = p.idle := by unfold Ref.isIdle; rw [hr]; exact s.idle.symm
  unfold Ref.touched
  rw [hid]
  unfold PSrc.touched
  cases hpi : p.idle with
  | false =>
    simp only [Bool.false_eq_true, if_false]
    refine ⟨⟨s.inn, ?_, s.mark, ⟨by simp, fun _ => rfl, by simp⟩, s.last⟩, fun hin => h.act i p hp hin hpi⟩
    simp only [hpi]
    symm
    simp
  | true =>
    simp only [if_true]
    have hm : ((({ p with sil := 0 } : PSrc)).activated X.merged).mark = greatest (r.marks ++ [R.merged]) (-2199023255552) := by
      unfold PSrc.activated; rw [raised_mark, greatest_snoc, h.merged]; simp only [s.mark]
    have q := raised_rest ({ ({ p with sil := 0 } : PSrc) with idle := false, sil := 0 } : PSrc) X.merged
    refine ⟨⟨q.1.trans s.inn, ?_, hm, ⟨by simp, fun _ => q.2.2.1, by simp⟩, q.2.2.2.1.trans s.last⟩, fun _ => ?_⟩
    · refine q.2.1.trans ?_
      symm
      simp
    · unfold PSrc.activated; rw [raised_mark, h.merged]; split <;> omega
theorem touched_great {R : Ref} {N i : Nat} {r : RSrc} (g : Good N R) (hr : R.srcs[i]? = some r) : greatest (R.touched i r) (-2199023255552) ≤ 1099511627776 + (R.all.length : Int) ∧ (R.touched i r).length ≤ N + 1 := by
  have := g.mks i r hr
  have := g.mgd
  have := g.lens i r hr
  unfold Ref.touched
  split
  · rw [greatest_snoc]
    refine ⟨?_, by simp; omega⟩
    split <;> omega
  · exact ⟨by omega, by omega⟩
theorem srcsim_raise {c : Cfg} {p : PSrc} {r : RSrc} (s : SrcSim c p r) (m : Int) : SrcSim c (p.raised m) { r with marks := r.marks ++ [m] } := by
  have q := raised_rest p m
  refine ⟨q.1.trans s.inn, q.2.1.trans s.idle, ?_, ⟨s.sil.1, fun h => q.2.2.1.trans (s.sil.2.1 h), fun h => q.2.2.1.trans (s.sil.2.2 h)⟩, q.2.2.2.1.trans s.last⟩
  simp only
  rw [raised_mark, greatest_snoc, s.mark]
theorem raised_le (p : PSrc) (m : Int) : p.mark ≤ (p.raised m).mark := by rw [raised_mark]; split <;> omega
def Eng.puncted (X : Eng) (i : Nat) (p : PSrc) (ts : Int) : Eng := ({ X with srcs := X.srcs.set i ((p.touched X.merged).raised ts) } : Eng).settled
theorem sim_punct {X : Eng} {R R' : Ref} {N i : Nat} {p : PSrc} {ts : Int} (h : Sim X R) (g : Good N R) (hp : X.srcs[i]? = some p) (hts : ts ≤ 1099511627776) (hj : PunctOk R i ts R') : Sim (X.puncted i p ts) R' ∧ Good (N + 2) R' := by
  obtain ⟨hi, r', hr', rfl⟩ := hj
  have hr := List.getElem?_eq_getElem hi
  have hc := g.fits
  obtain ⟨st, ha⟩ := sim_touch h (by omega) hp hr
  obtain ⟨tg, tl⟩ := touched_great g hr
  have hln := g.lens i _ hr
  have hmg := g.mgd
  have s2 := srcsim_raise st ts
  refine sim_settled (sim_src h hr ?_ ?_ ?_) (good_src (g.mono (by omega : N ≤ N + 2)) ?_ ?_ ?_)
  · rw [hr']; exact ⟨s2.inn, s2.idle, s2.mark, s2.sil, s2.last⟩
  · intro h1 _
    have := raised_le (p.touched X.merged) ts
    have := ha (by rw [(raised_rest _ _).1] at h1; exact h1)
    omega
  · rw [hr']; exact Int.le_refl _
  · rw [hr']; simp only; rw [greatest_snoc]; split <;> omega
  · rw [hr']; simp; omega
  · rw [hr']; simp only; omega
def hushed (c : Cfg) (n : Int) (p : PSrc) : PSrc := if p.inn then { p with sil := if 1000 < p.sil + n then 1000 else p.sil + n, idle := if 0 < c.idle ∧ c.idle ≤ (if 1000 < p.sil + n then 1000 else p.sil + n) then true else p.idle } else p
def Eng.ticked (X : Eng) (n : Int) : Eng := ({ X with srcs := X.srcs.map (hushed X.c n) } : Eng).settled
theorem srcsim_tick {c : Cfg} {p : PSrc} {r : RSrc} {n : Int} (s : SrcSim c p r) (hn : 1 ≤ n) (hn' : n ≤ 1000) (hc : c.idle ≤ 1000) : SrcSim c (hushed c n p) (ticked n r) := by
  unfold hushed ticked
  rw [s.inn]
  cases hin : r.inn with
  | false => simpa using s
  | true =>
    simp only [if_true]
    have q := s.sil
    have hs : (r.sil + n ≤ 1000 → (if 1000 < p.sil + n then (1000 : Int) else p.sil + n) = r.sil + n) ∧ (1000 ≤ r.sil + n → (if 1000 < p.sil + n then (1000 : Int) else p.sil + n) = 1000) := by
      by_cases h1 : r.sil ≤ 1000
      · have := q.2.1 h1
        refine ⟨fun h => ?_, fun h => ?_⟩
        · rw [if_neg (by omega)]; omega
        · split <;> omega
      · have := q.2.2 (by omega)
        refine ⟨fun h => by omega, fun h => ?_⟩
        rw [if_pos (by omega)]
    refine ⟨by simp [s.inn, hin], ?_, s.mark, ⟨by simp only; omega, hs.1, hs.2⟩, s.last⟩
    have hi := s.idle
    rw [hin] at hi
    generalize (if 1000 < p.sil + n then (1000 : Int) else p.sil + n) = z at hs ⊢
    by_cases h0 : 0 < c.idle
    · by_cases h1 : c.idle ≤ r.sil + n
      · have hz : c.idle ≤ z := by
          by_cases h2 : r.sil + n ≤ 1000
          · rw [hs.1 h2]; exact h1
          · rw [hs.2 (by omega)]; exact hc
        simp [h0, hz, h1]
      · have hz : ¬ c.idle ≤ z := by
          rw [hs.1 (by omega)]; exact h1
        have h2 : ¬ c.idle ≤ r.sil := by omega
        simp [h0, hz, h1, hi, h2]
    · simp [h0, hi]
theorem hushed_mark (c : Cfg) (n : Int) (p : PSrc) : (hushed c n p).mark = p.mark ∧ (hushed c n p).inn = p.inn := by unfold hushed; split <;> exact ⟨rfl, by simp [*]⟩
theorem ticked_rest (n : Int) (r : RSrc) : (ticked n r).marks = r.marks ∧ (ticked n r).seqs = r.seqs := by unfold ticked; split <;> exact ⟨rfl, rfl⟩
theorem tickTo_all (n : Int) (l : List RSrc) : tickTo n l l.length = l.map (ticked n) := by simp [tickTo]
theorem sim_tick {X : Eng} {R : Ref} {N : Nat} {n : Int} (h : Sim X R) (g : Good N R) (hn : 1 ≤ n) (hn' : n ≤ 1000) : Sim (X.ticked n) (R.ticks n) ∧ Good (N + 1) (R.ticks n) := by
  unfold Ref.ticks Eng.ticked
  rw [tickTo_all]
  have hc := g.fits
  refine sim_settled ⟨h.c, by simp [h.n], ?_, h.merged, h.late, h.perm, h.logS, h.waitS, h.lo, h.hi, ?_, h.ids, ?_⟩ ⟨by simp [g.srcs], g.fits, g.all, g.aside, g.ts, g.mgd, ?_, ?_, ?_, ⟨g.pk.kinds, g.pk.st, g.pk.one, g.pk.win, g.pk.who⟩⟩
  · intro i p r hp hr
    simp only [List.getElem?_map, Option.map_eq_some_iff] at hp hr
    obtain ⟨p0, hp0, rfl⟩ := hp
    obtain ⟨r0, hr0, rfl⟩ := hr
    rw [h.c]
    exact srcsim_tick (h.src i p0 r0 hp0 hr0) hn hn' (show R.c.idle ≤ 1000 by omega)
  · intro i p hp h1 h2
    simp only [List.getElem?_map, Option.map_eq_some_iff] at hp
    obtain ⟨p0, hp0, rfl⟩ := hp
    rw [(hushed_mark _ _ _).1]
    rw [(hushed_mark _ _ _).2] at h1
    refine h.act i p0 hp0 h1 ?_
    unfold hushed at h2
    rw [if_pos h1] at h2
    simp only at h2
    split at h2 <;> simp_all
  · intro e he
    obtain ⟨i, r, e1, e2, e3⟩ := h.own e he
    exact ⟨i, ticked n r, e1, by simp [e2], by rw [(ticked_rest n r).2]; exact e3⟩
  · intro i r hr
    simp only [List.getElem?_map, Option.map_eq_some_iff] at hr
    obtain ⟨r0, hr0, rfl⟩ := hr
    rw [(ticked_rest n r0).1]; exact g.mks i r0 hr0
  · intro i r hr
    simp only [List.getElem?_map, Option.map_eq_some_iff] at hr
    obtain ⟨r0, hr0, rfl⟩ := hr
    rw [(ticked_rest n r0).1, (ticked_rest n r0).2]
    have := g.lens i r0 hr0
    omega
  · intro i r hr
    simp only [List.getElem?_map, Option.map_eq_some_iff] at hr
    obtain ⟨r0, hr0, rfl⟩ := hr
    have := g.sil i r0 hr0
    unfold ticked
    split <;> (try simp only) <;> omega
end Go.Proofs.YtghcololkgeoeabGreat
namespace Go.Proofs.YtghcololkgeoeabGreat
open Go.RowKit
set_option linter.unusedVariables false
set_option linter.unusedSimpArgs false
def Eng.isLate (X : Eng) (p : PSrc) (ts : Int) : Bool := (p.idle && decide (ts < X.merged)) || decide (ts < p.mark)
def Eng.fate (X : Eng) (late : Bool) : Int := if late then (if X.c.policy = 1 then 1 else if X.c.policy = 2 then 3 else 0) else 2
def Eng.waitOf (X : Eng) (s : Int) : Int := (X.wait.filter (fun e => decide (e.src = s))).length
def Eng.full (X : Eng) (i : Nat) (f : Int) : Bool := if f = 0 then false else if f = 1 then decide (200 ≤ X.late.length) else (decide (200 ≤ X.wait.length + X.log.length) || decide (X.c.room ≤ X.waitOf i))
structure Ins (e : Ev) (l k : List Ev) : Prop where
  ex : ∃ a b, l = a ++ b ∧ k = a ++ e :: b ∧ (∀ x ∈ b, aheadB e x = true) ∧ (∀ x, a.getLast? = some x → aheadB e x = false)
theorem Ins.perm {e : Ev} {l k : List Ev} (h : Ins e l k) : k.Perm (l ++ [e]) := by
  obtain ⟨a, b, rfl, rfl, _, _⟩ := h.ex
  rw [List.append_assoc]
  exact (List.perm_append_singleton e b).symm.append_left a
theorem Ins.srt {e : Ev} {l k : List Ev} (h : Ins e l k) (hs : Srt l) (hd : ∀ x ∈ l, Apart2 x e) : Srt k := by
  obtain ⟨a, b, rfl, rfl, h1, h2⟩ := h.ex
  unfold Srt at *
  rw [List.pairwise_append] at hs ⊢
  have h3 : ∀ x ∈ a, aheadB x e = true := by
    intro x hx
    rcases List.eq_nil_or_concat a with ha | ⟨L, y, ha⟩
    · subst ha; simp at hx
    · rw [List.concat_eq_append] at ha
      subst ha
      have hy := h2 y (by simp)
      have hye : aheadB y e = true := by
        rcases ahead_total (hd y (by simp)) with h | h
        · exact h
        · rw [hy] at h; cases h
      rcases List.mem_append.1 hx with hx | hx
      · have := (List.pairwise_append.1 hs.1).2.2 x hx y (by simp)
        exact ahead_trans this hye
      · simp only [List.mem_singleton] at hx; subst hx; exact hye
  refine ⟨hs.1, List.pairwise_cons.2 ⟨h1, hs.2.1⟩, fun x hx y hy => ?_⟩
  rcases List.mem_cons.1 hy with rfl | hy
  · exact h3 x hx
  · exact hs.2.2 x hx y hy
def Eng.taken (X : Eng) (i : Nat) (f : Int) (e : Ev) : Ev := { e with src := i, ts := if f = 3 ∧ e.ts < X.merged then X.merged else e.ts }
def Eng.pushSrc (X : Eng) (p : PSrc) (e : Ev) : PSrc := if X.isLate p e.ts then ({ p with last := e.seq } : PSrc).touched X.merged else (({ p with last := e.seq } : PSrc).touched X.merged).raised (e.ts - X.c.slack)
def Eng.Pushed (X : Eng) (i : Nat) (p : PSrc) (e : Ev) (Y : Eng) : Prop :=
  ∃ Z : Eng, Y = Z.settled ∧ Z.c = X.c ∧ Z.srcs = X.srcs.set i (X.pushSrc p e) ∧ Z.merged = X.merged ∧ Z.log = X.log ∧
    ((X.fate (X.isLate p e.ts) = 0 ∧ Z.wait = X.wait ∧ Z.late = X.late) ∨ (X.fate (X.isLate p e.ts) = 1 ∧ Z.wait = X.wait ∧ Z.late = X.late ++ [{ e with src := i }]) ∨
      (2 ≤ X.fate (X.isLate p e.ts) ∧ Ins (X.taken i (X.fate (X.isLate p e.ts)) e) X.wait Z.wait ∧ Z.late = X.late))
theorem sim_late {X : Eng} {R : Ref} {i : Nat} {p : PSrc} {r : RSrc} (h : Sim X R) (hp : X.srcs[i]? = some p) (hr : R.srcs[i]? = some r) (e : Ev) : X.isLate p e.ts = R.late i e := by
  have s := h.src i p r hp hr
  have hid : R.isIdle i = p.idle := by unfold Ref.isIdle; rw [hr]; exact s.idle.symm
  have hm := (sim_active h hp hr).2
  unfold Eng.isLate Ref.late Ref.bound
  rw [hid, hm, h.merged]
  cases p.idle
  · simp
  · by_cases h1 : p.mark < R.merged
    · simp [h1]; omega
    · simp [h1]; omega
theorem sim_stays {X : Eng} {R : Ref} {i : Nat} {p : PSrc} {r : RSrc} (h : Sim X R) (hp : X.srcs[i]? = some p) (hr : R.srcs[i]? = some r) (e : Ev) : (R.stays i e = true ↔ 2 ≤ X.fate (X.isLate p e.ts)) ∧ (R.stays i e = false → (X.fate (X.isLate p e.ts) = 1 ∧ R.c.policy = 1) ∨ (X.fate (X.isLate p e.ts) = 0 ∧ R.c.policy ≠ 1)) := by
  rw [sim_late h hp hr e]
  unfold Ref.stays Eng.fate
  rw [h.c]
  cases R.late i e
  · simp
  · by_cases h2 : R.c.policy = 2
    · simp [h2]
    · by_cases h1 : R.c.policy = 1
      · simp [h1]
      · simp [h1, h2]
theorem sim_full {X : Eng} {R : Ref} {i : Nat} {p : PSrc} {r : RSrc} (h : Sim X R) (hp : X.srcs[i]? = some p) (hr : R.srcs[i]? = some r) (e : Ev) : X.full i (X.fate (X.isLate p e.ts)) = R.full i e := by
  have hw := sim_waitOf h (i : Int) (by omega)
  have hl : X.wait.length + X.log.length = R.all.length := by have := h.perm.length_eq; simp at this; omega
  obtain ⟨h1, h2⟩ := sim_stays h hp hr e
  unfold Eng.full Ref.full Eng.waitOf
  rw [hw, hl, h.late, h.c]
  cases hs : R.stays i e with
  | true =>
    have := h1.1 hs
    rw [if_neg (by omega), if_neg (by omega)]
    simp [Bool.or_comm]
  | false =>
    rcases h2 hs with ⟨h3, h4⟩ | ⟨h3, h4⟩
    · rw [h3]; simp [h4]
    · rw [h3]; simp [h4]
theorem sim_taken {X : Eng} {R : Ref} {i : Nat} {p : PSrc} {r : RSrc} (h : Sim X R) (hp : X.srcs[i]? = some p) (hr : R.srcs[i]? = some r) (e : Ev) : R.taken i e = X.taken i (X.fate (X.isLate p e.ts)) e := by
  unfold Ref.taken Eng.taken Ref.lifts
  rw [sim_late h hp hr e]
  unfold Eng.fate
  rw [h.c, h.merged]
  cases R.late i e
  · simp
  · by_cases h2 : R.c.policy = 2
    · simp [h2]
    · by_cases h1 : R.c.policy = 1
      · simp [h1]
      · simp [h1, h2]
theorem sim_push {X Y : Eng} {R R' : Ref} {N i : Nat} {p : PSrc} {e : Ev} (h : Sim X R) (g : Good N R) (hp : X.srcs[i]? = some p) (hw : ∀ r, R.srcs[i]? = some r → wrongOf r e = 0) (hf : R.full i e = false)
    (hY : X.Pushed i p e Y) (hR : PushOk R i e R') : Sim Y R' ∧ Good (N + 2) R' := by
  obtain ⟨hi, ma, mc, qa, qc, R5, hpl, rfl⟩ := hR
  obtain ⟨Z, rfl, zc, zs, zm, zl, zz⟩ := hY
  have hr := List.getElem?_eq_getElem hi
  have hwr := hw _ hr
  have s := h.src i p _ hp hr
  have hc := g.fits
  have hmg := g.mgd
  have hsil := g.sil i _ hr
  have hln := g.lens i _ hr
  have hkd : (R.taken i e).kind ≠ 0 := by
    show e.kind ≠ 0
    unfold wrongOf at hwr
    by_cases h1 : R.srcs[i].inn = false
    · rw [if_pos h1] at hwr; cases hwr
    · rw [if_neg h1] at hwr
      by_cases h2 : badB e = true
      · rw [if_pos h2] at hwr; cases hwr
      · simp only [badB, Bool.or_eq_true, decide_eq_true_eq, not_or] at h2
        omega
  obtain ⟨hseq, hts, hgt, hin⟩ : (0 ≤ e.seq) ∧ (-1099511627776 ≤ e.ts ∧ e.ts ≤ 1099511627776) ∧ greatest R.srcs[i].seqs (-1) < e.seq ∧ R.srcs[i].inn = true := by
    unfold wrongOf at hwr
    split at hwr
    · simp at hwr
    · rename_i hin
      split at hwr
      · simp at hwr
      · rename_i hb
        split at hwr
        · simp at hwr
        · rename_i ht
          split at hwr
          · simp at hwr
          · rename_i hq
            simp [badB, beyondB] at hb
            simp [beyondB] at ht
            exact ⟨by omega, by omega, by omega, by simpa using hin⟩
  have hlate := sim_late h hp hr e
  have htk := sim_taken h hp hr e
  -- the source
  have hp1 : (X.srcs.set i ({ p with last := e.seq } : PSrc))[i]? = some { p with last := e.seq } := by
    have : i < X.srcs.length := (List.getElem?_eq_some_iff.1 hp).1
    simp [this]
  have hgq : greatest (R.srcs[i].seqs ++ [e.seq]) (-1) = e.seq := by rw [greatest_snoc, if_pos hgt]
  have S1 : Sim { X with srcs := X.srcs.set i ({ p with last := e.seq } : PSrc) } { R with srcs := R.srcs.set i { R.srcs[i] with seqs := R.srcs[i].seqs ++ [e.seq], qa := qa, qc := qc } } := by
    refine sim_src h hr ⟨s.inn, s.idle, s.mark, s.sil, hgq.symm⟩ (fun h1 h2 => h.act i p hp h1 h2) ?_
    simp only; rw [hgq]; omega
  have hr1 : (R.srcs.set i ({ R.srcs[i] with seqs := R.srcs[i].seqs ++ [e.seq], qa := qa, qc := qc } : RSrc))[i]? = some { R.srcs[i] with seqs := R.srcs[i].seqs ++ [e.seq], qa := qa, qc := qc } := by simp [hi]
  obtain ⟨st, ha⟩ := sim_touch S1 (show 0 ≤ R.c.idle by omega) hp1 hr1
  have htt : ({ R with srcs := R.srcs.set i { R.srcs[i] with seqs := R.srcs[i].seqs ++ [e.seq], qa := qa, qc := qc } } : Ref).touched i { R.srcs[i] with seqs := R.srcs[i].seqs ++ [e.seq], qa := qa, qc := qc } = R.touched i R.srcs[i] := by
    unfold Ref.touched Ref.isIdle
    simp [hi, List.getElem?_eq_getElem hi]
  rw [htt] at st
  have hnl : R.late i e = false → (R.taken i e).ts = e.ts := by
    intro hl
    unfold Ref.taken Ref.lifts
    rw [hl]; simp
  obtain ⟨tg, tl⟩ := touched_great g hr
  have SS : SrcSim R.c (X.pushSrc p e) (pushSrc R i e R.srcs[i] ma mc qa qc) := by
    unfold Eng.pushSrc pushSrc
    rw [hlate]
    cases hl : R.late i e with
    | true => simp only [if_true]; exact ⟨st.inn, st.idle, st.mark, st.sil, st.last⟩
    | false =>
      simp only [Bool.false_eq_true, if_false]
      rw [hnl hl, h.c]
      have s2 := srcsim_raise st (e.ts - R.c.slack)
      exact ⟨s2.inn, s2.idle, s2.mark, s2.sil, s2.last⟩
  have hact : (X.pushSrc p e).inn = true → (X.pushSrc p e).idle = false → R.merged ≤ (X.pushSrc p e).mark := by
    intro h1 _
    unfold Eng.pushSrc at h1 ⊢
    split at h1
    · rename_i hl; rw [if_pos hl]; exact ha h1
    · rename_i hl
      rw [if_neg hl]
      have a1 := raised_le (({ p with last := e.seq } : PSrc).touched X.merged) (e.ts - X.c.slack)
      have a2 := ha (by rw [(raised_rest _ _).1] at h1; exact h1)
      exact Int.le_trans a2 a1
  have hsq : greatest R.srcs[i].seqs (-1) ≤ greatest (pushSrc R i e R.srcs[i] ma mc qa qc).seqs (-1) := by
    unfold pushSrc; simp only; rw [hgq]; omega
  have S2 := sim_src h hr SS hact hsq
  have hgm : greatest (pushSrc R i e R.srcs[i] ma mc qa qc).marks (-2199023255552) ≤ 1099511627776 + (R.all.length : Int) := by
    unfold pushSrc
    simp only
    cases hl : R.late i e with
    | true => simp only [if_true]; exact tg
    | false =>
      simp only [Bool.false_eq_true, if_false]
      rw [greatest_snoc, hnl hl]
      split <;> omega
  have hgl : (pushSrc R i e R.srcs[i] ma mc qa qc).marks.length ≤ N + 2 ∧ (pushSrc R i e R.srcs[i] ma mc qa qc).seqs.length ≤ N + 2 := by
    unfold pushSrc
    simp only [List.length_append, List.length_cons, List.length_nil]
    refine ⟨?_, by omega⟩
    split
    · omega
    · simp; omega
  have hgs : 0 ≤ (pushSrc R i e R.srcs[i] ma mc qa qc).sil ∧ (pushSrc R i e R.srcs[i] ma mc qa qc).sil ≤ 1000 * ((N + 2 : Nat) : Int) := by unfold pushSrc; simp only; omega
  have G2 := good_src (i := i) (g.mono (by omega : N ≤ N + 2)) hgm hgl hgs
  have hap : ∀ x ∈ R.all, ∀ y : Ev, y.src = (i : Int) → y.seq = e.seq → Apart2 x y := by
    intro x hx y h1 h2
    obtain ⟨j, q, e1, e2, e3⟩ := h.own x hx
    intro ⟨f1, f2⟩
    have hj : j = i := by omega
    subst hj
    rw [hr] at e2
    cases e2
    omega
  generalize hP : ({ R with srcs := R.srcs.set i (pushSrc R i e R.srcs[i] ma mc qa qc) } : Ref) = P at hpl S2 G2
  generalize hV : ({ X with srcs := X.srcs.set i (X.pushSrc p e) } : Eng) = V at S2
  have vw : V.wait = X.wait ∧ V.log = X.log ∧ V.late = X.late ∧ V.c = X.c ∧ V.merged = X.merged ∧ V.srcs = X.srcs.set i (X.pushSrc p e) := by subst hV; exact ⟨rfl, rfl, rfl, rfl, rfl, rfl⟩
  have pw : P.all = R.all ∧ P.aside = R.aside ∧ P.merged = R.merged ∧ P.c = R.c ∧ P.srcs = R.srcs.set i (pushSrc R i e R.srcs[i] ma mc qa qc) := by subst hP; exact ⟨rfl, rfl, rfl, rfl, rfl⟩
  obtain ⟨w1, w2, w3, w4, w5, w6⟩ := vw
  obtain ⟨p1, p2, p3, p4, p5⟩ := pw
  obtain ⟨st1, st2⟩ := sim_stays h hp hr e
  have hfull : R.stays i e = true → R.all.length < 200 := by
    intro hs
    unfold Ref.full at hf
    rw [hs] at hf
    simp at hf
    omega
  have hfull2 : R.stays i e = false → R.c.policy = 1 → R.aside.length < 200 := by
    intro hs hpo
    unfold Ref.full at hf
    rw [hs, hpo] at hf
    simp at hf
    omega
  rcases hpl with ⟨hs, aa, ac, rfl⟩ | ⟨hs, hpo, da, dc, rfl⟩ | ⟨hs, hpo, rfl⟩
  · -- it waits
    have hfa := st1.1 hs
    obtain ⟨_, hins, hlt⟩ : 2 ≤ X.fate (X.isLate p e.ts) ∧ Ins (X.taken i (X.fate (X.isLate p e.ts)) e) X.wait Z.wait ∧ Z.late = X.late := by
      rcases zz with ⟨h0, _⟩ | ⟨h0, _⟩ | h0
      · omega
      · omega
      · exact h0
    rw [← htk] at hins
    have hT : (R.taken i e).src = (i : Int) ∧ (R.taken i e).seq = e.seq := ⟨rfl, rfl⟩
    have hTts : R.merged ≤ (R.taken i e).ts ∧ -1099511627776 ≤ (R.taken i e).ts ∧ (R.taken i e).ts ≤ 1099511627776 + (R.all.length : Int) := by
      unfold Ref.taken
      simp only
      cases hli : R.lifts i e with
      | true => 
        simp only [if_true]
        unfold Ref.lifts at hli
        simp at hli
        omega
      | false =>
        simp only [Bool.false_eq_true, if_false]
        refine ⟨?_, by omega, by omega⟩
        cases hl : R.late i e with
        | true =>
          unfold Ref.lifts at hli
          unfold Ref.stays at hs
          rw [hl] at hli hs
          simp at hs
          rw [hs] at hli
          simp at hli
          omega
        | false =>
          have hb : ¬ e.ts < R.bound i := by unfold Ref.late at hl; simpa using hl
          have hid : R.isIdle i = p.idle := by unfold Ref.isIdle; rw [hr]; exact s.idle.symm
          have hmk := (sim_active h hp hr).2
          unfold Ref.bound at hb
          rw [hid, hmk] at hb
          cases hpi : p.idle with
          | true =>
            rw [hpi] at hb
            by_cases hx : p.mark < R.merged
            · simp [hx] at hb; omega
            · simp [hx] at hb; omega
          | false =>
            rw [hpi] at hb
            have := h.act i p hp (by rw [s.inn]; exact hin) hpi
            simp at hb
            omega
    have hall := hfull hs
    refine sim_settled (N := N + 2) ⟨?_, ?_, ?_, ?_, ?_, ?_, ?_, ?_, ?_, ?_, ?_, ?_, ?_⟩ ⟨?_, ?_, ?_, ?_, ?_, ?_, ?_, ?_, ?_, ?_⟩
    · rw [zc, ← w4]; exact S2.c
    · rw [zs, ← w6]; exact S2.n
    · rw [zs, ← w6]; exact S2.src
    · rw [zm, ← w5]; exact S2.merged
    · rw [hlt, ← w3]; exact S2.late
    · have := S2.perm
      rw [w1, w2] at this
      rw [zl]
      simp only
      refine ((hins.perm.append_left X.log).trans ?_)
      rw [← List.append_assoc]
      exact this.append_right _
    · rw [zl]; exact h.logS
    · refine hins.srt h.waitS (fun x hx => ?_)
      exact hap x (h.perm.mem_iff.1 (by simp [hx])) _ rfl rfl
    · rw [zl]; intro x hx; have := h.lo x hx; simp only; omega
    · intro x hx
      rcases List.mem_append.1 (hins.perm.mem_iff.1 hx) with hx | hx
      · have := h.hi x hx; simp only; omega
      · simp only [List.mem_singleton] at hx; subst hx; simp only; omega
    · rw [zs, ← w6]; exact S2.act
    · simp only; rw [List.pairwise_append]
      refine ⟨S2.ids, by simp, fun x hx y hy => ?_⟩
      simp only [List.mem_singleton] at hy
      subst hy
      exact hap x (by rw [p1] at hx; exact hx) _ rfl rfl
    · intro x hx
      rcases List.mem_append.1 hx with hx | hx
      · exact S2.own x hx
      · simp only [List.mem_singleton] at hx
        subst hx
        refine ⟨i, pushSrc R i e R.srcs[i] ma mc qa qc, rfl, ?_, ?_⟩
        · simp only; rw [p5]; simp [hi]
        · unfold pushSrc; simp only; rw [hgq]; exact Int.le_refl _
    · exact G2.srcs
    · exact G2.fits
    · simp only [List.length_append, List.length_cons, List.length_nil]; rw [p1]; omega
    · exact G2.aside
    · intro x hx
      simp only [List.length_append, List.length_cons, List.length_nil]
      rcases List.mem_append.1 hx with hx | hx
      · have := G2.ts x hx; omega
      · simp only [List.mem_singleton] at hx; subst hx; rw [p1]; omega
    · have := G2.mgd; simp only [List.length_append, List.length_cons, List.length_nil]; omega
    · intro j r hj; have := G2.mks j r hj; simp only [List.length_append, List.length_cons, List.length_nil]; omega
    · exact G2.lens
    · exact G2.sil
    · refine ⟨fun x hx => ?_, G2.pk.st, G2.pk.one, G2.pk.win, G2.pk.who⟩
      rcases List.mem_append.1 hx with hx | hx
      · exact G2.pk.kinds x hx
      · simp only [List.mem_singleton] at hx
        subst hx
        exact hkd
  · -- it is laid aside
    have hpo' : R.c.policy = 1 := by rw [← p4]; exact hpo
    have h0 := hfull2 hs hpo'
    have hfa : X.fate (X.isLate p e.ts) = 1 := by
      rcases st2 hs with h | h
      · exact h.1
      · exact absurd hpo' h.2
    obtain ⟨hzw, hlt⟩ : Z.wait = X.wait ∧ Z.late = X.late ++ [{ e with src := (i : Int) }] := by
      rcases zz with ⟨h0, _⟩ | ⟨h0, h1⟩ | ⟨h0, _⟩
      · omega
      · exact h1
      · omega
    have htk' : R.taken i e = { e with src := (i : Int) } := by
      unfold Ref.taken Ref.lifts
      rw [hpo']; simp
    rw [htk']
    refine sim_settled (N := N + 2) ⟨?_, ?_, ?_, ?_, ?_, ?_, ?_, ?_, ?_, ?_, ?_, ?_, ?_⟩ ⟨G2.srcs, G2.fits, G2.all, ?_, G2.ts, G2.mgd, G2.mks, G2.lens, G2.sil, ⟨G2.pk.kinds, G2.pk.st, G2.pk.one, G2.pk.win, G2.pk.who⟩⟩
    · rw [zc, ← w4]; exact S2.c
    · rw [zs, ← w6]; exact S2.n
    · rw [zs, ← w6]; exact S2.src
    · rw [zm, ← w5]; exact S2.merged
    · rw [hlt, ← w3]; simp only; rw [S2.late]
    · rw [zl, hzw, ← w1, ← w2]; exact S2.perm
    · rw [zl]; exact h.logS
    · rw [hzw]; exact h.waitS
    · rw [zl, ← w2]; exact S2.lo
    · rw [hzw, ← w1]; exact S2.hi
    · rw [zs, ← w6]; exact S2.act
    · exact S2.ids
    · exact S2.own
    · simp only [List.length_append, List.length_cons, List.length_nil]; rw [p2]; omega
  · -- it is dropped
    have hpo' : R.c.policy ≠ 1 := by rw [← p4]; exact hpo
    have hfa : X.fate (X.isLate p e.ts) = 0 := by
      rcases st2 hs with h | h
      · exact absurd h.2 hpo'
      · exact h.1
    obtain ⟨hzw, hlt⟩ : Z.wait = X.wait ∧ Z.late = X.late := by
      rcases zz with ⟨h0, h1⟩ | ⟨h0, h1⟩ | ⟨h0, _⟩
      · exact h1
      · omega
      · omega
    exact sim_settled (S2.pl (by rw [zc, w4]) (by rw [zs, w6]) (by rw [zm, w5]) (by rw [hzw, w1]) (by rw [zl, w2]) (by rw [hlt, w3])) G2
theorem sim_new {X : Eng} {R : Ref} {n : Nat} {p : PSrc} (hc : X.c = R.c) (hs : X.srcs = List.replicate n p) (hr : R.srcs = List.replicate n zSrc) (hp : p.inn = false ∧ p.idle = false ∧ p.mark = -2199023255552 ∧ p.sil = 0 ∧ p.last = -1 ∧ p.line = [])
    (hm : X.merged = -2199023255552) (hm' : R.merged = -2199023255552) (hw : X.wait = []) (hl : X.log = []) (hd : X.late = []) (ha : R.all = []) (hb : R.aside = [])
    (hn : (n : Int) = R.c.sources) (hf : 1 ≤ R.c.sources ∧ R.c.sources ≤ 6 ∧ 0 ≤ R.c.slack ∧ R.c.slack ≤ 1000 ∧ 0 ≤ R.c.policy ∧ R.c.policy ≤ 2 ∧ 1 ≤ R.c.room ∧ R.c.room ≤ 32 ∧ 0 ≤ R.c.idle ∧ R.c.idle ≤ 1000) (hpk : Pk R) : Sim X R ∧ Good 0 R := by
  have hz : ∀ (i : Nat) (r : RSrc), R.srcs[i]? = some r → r = zSrc := by
    intro i r h; rw [hr, List.getElem?_replicate] at h; split at h; simpa using h.symm; simp at h
  have hx : ∀ (i : Nat) (r : PSrc), X.srcs[i]? = some r → r = p := by
    intro i r h; rw [hs, List.getElem?_replicate] at h; split at h; simpa using h.symm; simp at h
  obtain ⟨p1, p2, p3, p4, p5, p6⟩ := hp
  refine ⟨⟨hc, by rw [hs, hr]; simp, ?_, by rw [hm, hm'], by rw [hd, hb], by rw [hw, hl, ha]; exact List.Perm.nil, by rw [hl]; simp [Srt], by rw [hw]; simp [Srt], by rw [hl]; simp, by rw [hw]; simp, ?_, by rw [ha]; simp, by rw [ha]; simp⟩, ⟨by rw [hr]; simp [hn], hf, by rw [ha]; simp, by rw [hb]; simp, by rw [ha]; simp, by rw [hm', ha]; simp, ?_, ?_, ?_, hpk⟩⟩
  · intro i q r h1 h2
    rw [hz i r h2, hx i q h1]
    exact ⟨p1, by rw [p2]; rfl, p3, ⟨by simp [zSrc], fun _ => p4, by simp [zSrc]⟩, p5⟩
  · intro i q h1 h2
    rw [hx i q h1, p1] at h2; cases h2
  · intro i r h; rw [hz i r h, ha]; simp [zSrc, greatest]
  · intro i r h; rw [hz i r h]; simp [zSrc]
  · intro i r h; rw [hz i r h]; simp [zSrc]
theorem sim_log {X : Eng} {R : Ref} (h : Sim X R) (n : Nat) (hb : bestTo R.merged R.all (selRun R.merged R.all n).1 R.all.length = none) : (selRun R.merged R.all n).2 = X.log := by
  refine selRun_log R.merged R.all X.log n (apart_get h.ids) hb ?_ h.logS
  have p := h.perm.filter (fun e => decide (e.ts < R.merged))
  rw [List.filter_append] at p
  have e1 : X.log.filter (fun e => decide (e.ts < R.merged)) = X.log := by
    rw [List.filter_eq_self]; intro e he; simpa using h.lo e he
  have e2 : X.wait.filter (fun e => decide (e.ts < R.merged)) = [] := by
    rw [List.filter_eq_nil_iff]; intro e he; have := h.hi e he; simp; omega
  rw [e1, e2, List.append_nil] at p
  exact p
end Go.Proofs.YtghcololkgeoeabGreat
namespace Go.Proofs.YtghcololkgeoeabGreat
open Go.RowKit
set_option linter.unusedVariables false
set_option linter.unusedSimpArgs false

def Lines (N : Nat) (X : Eng) (R : Ref) : Prop := ∀ (i : Nat) p r, X.srcs[i]? = some p → R.srcs[i]? = some r → p.line = r.rest.data.toList.take 41 ∧ (∀ c ∈ r.rest.data.toList, c ≠ 10) ∧ r.rest.data.toList.length ≤ 2000 * N
def lineOf (X : Eng) : List (List UInt8) := X.srcs.map (fun p => p.line)
def restsOf (R : Ref) : List ByteArray := R.srcs.map (fun r => r.rest)
theorem lineOf_get {X Y : Eng} (h : lineOf X = lineOf Y) {i : Nat} {p : PSrc} (hp : X.srcs[i]? = some p) : ∃ q, Y.srcs[i]? = some q ∧ q.line = p.line := by
  have e : (lineOf X)[i]? = some p.line := by unfold lineOf; rw [List.getElem?_map, hp]; rfl
  rw [h] at e
  unfold lineOf at e
  rw [List.getElem?_map, Option.map_eq_some_iff] at e
  exact e
theorem restsOf_get {R S : Ref} (h : restsOf R = restsOf S) {i : Nat} {p : RSrc} (hp : R.srcs[i]? = some p) : ∃ q, S.srcs[i]? = some q ∧ q.rest = p.rest := by
  have e : (restsOf R)[i]? = some p.rest := by unfold restsOf; rw [List.getElem?_map, hp]; rfl
  rw [h] at e
  unfold restsOf at e
  rw [List.getElem?_map, Option.map_eq_some_iff] at e
  exact e
theorem Lines.frame {N M : Nat} {X X' : Eng} {R R' : Ref} (h : Lines N X R) (hx : lineOf X' = lineOf X) (hr : restsOf R' = restsOf R) (hm : N ≤ M) : Lines M X' R' := by
  intro i p r hp hr'
  obtain ⟨q, hq, eq⟩ := lineOf_get hx hp
  obtain ⟨t, ht, et⟩ := restsOf_get hr hr'
  have := h i q t hq ht
  rw [eq, et] at this
  exact ⟨this.1, this.2.1, Nat.le_trans this.2.2 (Nat.mul_le_mul_left _ hm)⟩
theorem lineOf_set {X : Eng} {i : Nat} {p q : PSrc} (hp : X.srcs[i]? = some p) (h : q.line = p.line) : lineOf { X with srcs := X.srcs.set i q } = lineOf X := by
  unfold lineOf
  simp only [List.map_set]
  rw [h]
  refine List.ext_getElem? (fun j => ?_)
  rw [List.getElem?_set]
  split
  · rename_i e; subst e
    split
    · rw [List.getElem?_map, hp]; rfl
    · rename_i hl
      simp only [List.length_map] at hl
      have := (List.getElem?_eq_some_iff.1 hp).1
      omega
  · rfl
theorem restsOf_set {R : Ref} {i : Nat} {p q : RSrc} (hp : R.srcs[i]? = some p) (h : q.rest = p.rest) : restsOf { R with srcs := R.srcs.set i q } = restsOf R := by
  unfold restsOf
  simp only [List.map_set]
  rw [h]
  refine List.ext_getElem? (fun j => ?_)
  rw [List.getElem?_set]
  split
  · rename_i e; subst e
    split
    · rw [List.getElem?_map, hp]; rfl
    · rename_i hl
      simp only [List.length_map] at hl
      have := (List.getElem?_eq_some_iff.1 hp).1
      omega
  · rfl
theorem settled_lines (X : Eng) : lineOf X.settled = lineOf X := rfl
theorem settled_srcs (R : Ref) : R.settled.srcs = R.srcs := by
  unfold Ref.settled
  split
  · split <;> rfl
  · rfl
theorem settled_rests (R : Ref) : restsOf R.settled = restsOf R := by unfold restsOf; rw [settled_srcs]
theorem activated_line (p : PSrc) (m : Int) : (p.activated m).line = p.line := by
  unfold PSrc.activated; rw [(raised_rest _ m).2.2.2.2]
theorem touched_line (p : PSrc) (m : Int) : (p.touched m).line = p.line := by
  unfold PSrc.touched; split
  · rw [activated_line]
  · rfl
theorem joined_lines {X : Eng} {i : Nat} {p : PSrc} (hp : X.srcs[i]? = some p) : lineOf (X.joined i p) = lineOf X := by
  unfold Eng.joined; rw [settled_lines]; exact lineOf_set hp (by rw [activated_line])
theorem gone_lines {X : Eng} {i : Nat} {p : PSrc} (hp : X.srcs[i]? = some p) : lineOf (X.gone i p) = lineOf X := by
  unfold Eng.gone; rw [settled_lines]; exact lineOf_set hp rfl
theorem puncted_lines {X : Eng} {i : Nat} {p : PSrc} {ts : Int} (hp : X.srcs[i]? = some p) : lineOf (X.puncted i p ts) = lineOf X := by
  unfold Eng.puncted; rw [settled_lines]; exact lineOf_set hp (by rw [(raised_rest _ ts).2.2.2.2, touched_line])
theorem ticked_lines (X : Eng) (n : Int) : lineOf (X.ticked n) = lineOf X := by
  unfold Eng.ticked; rw [settled_lines]
  unfold lineOf
  simp only [List.map_map]
  refine List.map_congr_left (fun p _ => ?_)
  simp only [Function.comp_apply, hushed]
  split <;> rfl
theorem pushed_lines {X Y : Eng} {i : Nat} {p : PSrc} {e : Ev} (hp : X.srcs[i]? = some p) (h : X.Pushed i p e Y) : lineOf Y = lineOf X := by
  obtain ⟨Z, rfl, _, hs, _⟩ := h
  rw [settled_lines]
  have : lineOf Z = lineOf { X with srcs := X.srcs.set i (X.pushSrc p e) } := by unfold lineOf; rw [hs]
  rw [this]
  refine lineOf_set hp ?_
  unfold Eng.pushSrc
  split
  · rw [touched_line]
  · rw [(raised_rest _ _).2.2.2.2, touched_line]
theorem join_rests {R R' : Ref} {i : Nat} {r' : RSrc} (h : JoinOk R i r' R') : restsOf R' = restsOf R := by
  obtain ⟨hi, hr', rfl⟩ := h
  rw [settled_rests]
  exact restsOf_set (List.getElem?_eq_getElem hi) (by rw [hr'])
theorem leave_rests {R R' : Ref} {i : Nat} (h : LeaveOk R i R') : restsOf R' = restsOf R := by
  obtain ⟨hi, rfl⟩ := h
  rw [settled_rests]
  exact restsOf_set (List.getElem?_eq_getElem hi) rfl
theorem punct_rests {R R' : Ref} {i : Nat} {ts : Int} (h : PunctOk R i ts R') : restsOf R' = restsOf R := by
  obtain ⟨hi, r', hr', rfl⟩ := h
  rw [settled_rests]
  exact restsOf_set (List.getElem?_eq_getElem hi) (by rw [hr'])
theorem tick_rests (R : Ref) (n : Int) : restsOf (R.ticks n) = restsOf R := by
  unfold Ref.ticks; rw [settled_rests]
  unfold restsOf tickTo
  simp only [List.take_length, List.drop_length, List.append_nil, List.map_map]
  refine List.map_congr_left (fun p _ => ?_)
  simp only [Function.comp_apply, ticked]
  split <;> rfl
theorem push_rests {R R' : Ref} {i : Nat} {E : Ev} (h : PushOk R i E R') : restsOf R' = restsOf R := by
  obtain ⟨hi, ma, mc, qa, qc, R5, hp, rfl⟩ := h
  rw [settled_rests]
  have e : R5.srcs = R.srcs.set i (pushSrc R i E R.srcs[i] ma mc qa qc) := by
    rcases hp with ⟨_, aa, ac, rfl⟩ | ⟨_, _, da, dc, rfl⟩ | ⟨_, _, rfl⟩ <;> rfl
  have : restsOf R5 = restsOf { R with srcs := R.srcs.set i (pushSrc R i E R.srcs[i] ma mc qa qc) } := by unfold restsOf; rw [e]
  rw [this]
  exact restsOf_set (List.getElem?_eq_getElem hi) rfl
theorem pushOk_some {R : Ref} {i : Nat} {E : Ev} (hi : i < R.srcs.length) : ∃ R', PushOk R i E R' := by
  cases hs : R.stays i E with
  | true => exact ⟨_, hi, none, 0, none, 0, _, Or.inl ⟨hs, none, 0, rfl⟩, rfl⟩
  | false =>
    by_cases hp : R.c.policy = 1
    · exact ⟨_, hi, none, 0, none, 0, _, Or.inr (Or.inl ⟨hs, hp, none, 0, rfl⟩), rfl⟩
    · exact ⟨_, hi, none, 0, none, 0, _, Or.inr (Or.inr ⟨hs, hp, rfl⟩), rfl⟩
theorem punctOk_some {R : Ref} {i : Nat} {ts : Int} (hi : i < R.srcs.length) : ∃ R', PunctOk R i ts R' :=
  ⟨_, hi, { R.srcs[i] with sil := 0, marks := R.touched i R.srcs[i] ++ [ts], ma := none, mc := 0 }, rfl, rfl⟩
end Go.Proofs.YtghcololkgeoeabGreat
