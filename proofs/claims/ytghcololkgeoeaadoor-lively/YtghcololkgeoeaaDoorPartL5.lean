import Derived.Test.YtghcololkgeoeaaDoorPartL4
namespace Go.Proofs.YtghcololkgeoeaaDoor
open Go.RowKit
set_option linter.unusedVariables false
set_option linter.unusedSimpArgs false
attribute [local go_sem ↓] Go.wp_at_zero Go.wp_at_succ

/-! ### nothing waits for ever -/
def St2 (X : Eng) : Prop := ∀ m, X.leastTo X.srcs.length = (m, true) → m ≤ X.merged
theorem leastTo_srcs {X Y : Eng} (h : X.srcs = Y.srcs) : ∀ k, X.leastTo k = Y.leastTo k := by
  intro k
  induction k with
  | zero => rfl
  | succ k ih => rw [Eng.leastTo, Eng.leastTo, ih, h]
theorem st2_settled (X : Eng) : St2 X.settled := by
  intro m hm
  rw [leastTo_srcs (show X.settled.srcs = X.srcs from rfl), show X.settled.srcs = X.srcs from rfl] at hm
  show m ≤ X.rise
  unfold Eng.rise Eng.aim
  rw [hm]
  simp only [Bool.not_true, Bool.false_and, Bool.false_eq_true, if_false]
  split <;> omega
theorem st2_pl {X X' : Eng} (h : St2 X) (hp : PlX X X') : St2 X' := by
  obtain ⟨ga, gc, wa, wc, rfl⟩ := hp
  intro m hm
  exact h m ((leastTo_srcs (X := X) (Y := { X with ga := ga, gc := gc, wa := wa, wc := wc }) rfl X.srcs.length).trans hm)
structure Lv (n : Nat) (c : Cfg) (G : LG) (tt : Int) (s : Nat) (X : Eng) : Prop where
  lo : ∀ (j : Nat) p, j < s → X.srcs[j]? = some p → p.inn = true → p.idle = false → tt ≤ p.mark
  hi : 0 < c.idle → ∀ (j : Nat) p, s ≤ j → X.srcs[j]? = some p → p.inn = true → p.idle = true
  st : St2 X ∨ ∀ (j : Nat) p, j < s → X.srcs[j]? = some p → p.inn = true → p.idle = true
  kp : ∃ R, Kp n c X G R
theorem Lv.skip {n s : Nat} {c : Cfg} {G : LG} {tt : Int} {X : Eng} {p : PSrc} (h : Lv n c G tt s X) (hp : X.srcs[s]? = some p) (hn : p.inn = false ∨ p.idle = true) : Lv n c G tt (s + 1) X := by
  refine ⟨fun j q hj hq h1 h2 => ?_, fun h0 j q hj => h.hi h0 j q (by omega), ?_, h.kp⟩
  · by_cases e : j = s
    · subst e
      rw [hp] at hq
      cases hq
      rcases hn with hn | hn
      · rw [hn] at h1; cases h1
      · rw [hn] at h2; cases h2
    · exact h.lo j q (by omega) hq h1 h2
  · rcases h.st with st | st
    · exact Or.inl st
    · right
      intro j q hj hq h1
      by_cases e : j = s
      · subst e
        rw [hp] at hq
        cases hq
        rcases hn with hn | hn
        · rw [hn] at h1; cases h1
        · exact hn
      · exact st j q (by omega) hq h1
theorem Lv.op {n s : Nat} {c : Cfg} {G : LG} {tt : Int} {X Y X' : Eng} {p' : PSrc} (h : Lv n c G tt s X) (hs : s < X.srcs.length) (hY : Y.srcs = X.srcs.set s p') (hp : p'.inn = true → p'.idle = false ∧ tt ≤ p'.mark) (hX : PlX Y.settled X') (hk : ∃ R, Kp n c X' G R) : Lv n c G tt (s + 1) X' := by
  have hsr : X'.srcs = X.srcs.set s p' := by obtain ⟨ga, gc, wa, wc, rfl⟩ := hX; exact hY
  have hget : ∀ (j : Nat) q, X'.srcs[j]? = some q → (j = s ∧ q = p') ∨ (j ≠ s ∧ X.srcs[j]? = some q) := by
    intro j q hq
    rw [hsr, List.getElem?_set] at hq
    by_cases e : s = j
    · rw [if_pos e, if_pos hs] at hq
      simp only [Option.some.injEq] at hq
      exact Or.inl ⟨e.symm, hq.symm⟩
    · rw [if_neg e] at hq
      exact Or.inr ⟨fun h => e h.symm, hq⟩
  refine ⟨fun j q hj hq h1 h2 => ?_, fun h0 j q hj hq h1 => ?_, Or.inl (st2_pl (st2_settled Y) hX), hk⟩
  · rcases hget j q hq with ⟨_, rfl⟩ | ⟨e, hq'⟩
    · exact (hp h1).2
    · exact h.lo j q (by omega) hq' h1 h2
  · rcases hget j q hq with ⟨e, _⟩ | ⟨e, hq'⟩
    · omega
    · exact h.hi h0 j q (by omega) hq' h1
theorem Lv.leave {n s : Nat} {c : Cfg} {G : LG} {tt z : Int} {X X' : Eng} {p : PSrc} (h : Lv n c G tt s X) (hp : X.srcs[s]? = some p) (hin : p.inn = true) (hX : LeavesX X s z X') : z = 0 ∧ Lv n c G tt (s + 1) X' := by
  obtain ⟨R, hk⟩ := h.kp
  have hk' := kp_leave hk hX
  rcases hX with ⟨o, _, _⟩ | ⟨i, q, hi, hq, hX⟩
  · exact (off_not o rfl (get_lt hp)).elim
  · obtain rfl : s = i := by omega
    rw [hp] at hq
    cases hq
    rcases hX with ⟨e, _, _⟩ | ⟨_, rfl, hpl⟩
    · rw [hin] at e; cases e
    · exact ⟨rfl, h.op (get_lt hp) rfl (fun e => by cases e) hpl hk'⟩
theorem touched_rest (p : PSrc) (m : Int) : (p.touched m).inn = p.inn ∧ (p.touched m).idle = false := by
  unfold PSrc.touched PSrc.activated
  cases h : p.idle with
  | false => exact ⟨rfl, rfl⟩
  | true => exact ⟨(raised_rest _ _).1, (raised_rest _ _).2.1⟩
theorem Lv.punct {n s : Nat} {c : Cfg} {G : LG} {tt z : Int} {X X' : Eng} {p : PSrc} (h : Lv n c G tt s X) (hp : X.srcs[s]? = some p) (hin : p.inn = true) (ht : beyondB tt = false) (hX : PunctsX X s tt z X') : z = 0 ∧ Lv n c G tt (s + 1) X' := by
  obtain ⟨R, hk⟩ := h.kp
  have hk' := kp_punct hk hX
  rcases hX with ⟨o, _, _⟩ | ⟨i, q, hi, hq, hX⟩
  · exact (off_not o rfl (get_lt hp)).elim
  · obtain rfl : s = i := by omega
    rw [hp] at hq
    cases hq
    rcases hX with ⟨e, _, _⟩ | ⟨_, e, _, _⟩ | ⟨_, _, rfl, hpl⟩
    · rw [hin] at e; cases e
    · rw [ht] at e; cases e
    · refine ⟨rfl, h.op (get_lt hp) rfl (fun _ => ⟨?_, ?_⟩) hpl hk'⟩
      · rw [(raised_rest _ _).2.1, (touched_rest p X.merged).2]
      · rw [raised_mark]; split <;> omega
theorem tick_idle {N : Nat} {X X' : Eng} {R : Ref} {c : Cfg} {z : Int} (hl : Like N X R) (hc : R.c = c) (h0 : 0 < c.idle) (h1 : c.idle ≤ 1000) (hX : TicksX X c.idle z X') : z = 0 ∧ ∀ (j : Nat) p, X'.srcs[j]? = some p → p.inn = true → p.idle = true := by
  rcases hX with ⟨e, _, _⟩ | ⟨_, rfl, hpl⟩
  · omega
  · refine ⟨rfl, ?_⟩
    obtain ⟨ga, gc, wa, wc, rfl⟩ := hpl
    intro j p hp hin
    have hp : (X.srcs.map (hushed X.c c.idle))[j]? = some p := hp
    rw [List.getElem?_map] at hp
    cases hq : X.srcs[j]? with
    | none => rw [hq] at hp; simp at hp
    | some q =>
      rw [hq] at hp
      simp only [Option.map_some, Option.some.injEq] at hp
      obtain ⟨r, hr, s⟩ := hl.same hq
      have hxc : X.c = c := hl.sim.c.trans hc
      rw [hxc] at hp
      have hsil : 0 ≤ q.sil := by
        by_cases h : r.sil ≤ 1000
        · have := s.sil.2.1 h; have := s.sil.1; omega
        · have := s.sil.2.2 (by omega); omega
      unfold hushed at hp
      by_cases hqi : q.inn = true
      · rw [if_pos hqi] at hp
        rw [← hp]
        simp only
        rw [if_pos]
        refine ⟨h0, ?_⟩
        split <;> omega
      · rw [if_neg hqi] at hp
        rw [← hp] at hin
        exact absurd hin hqi
theorem zero_idle {N : Nat} {X : Eng} {R : Ref} {c : Cfg} (hl : Like N X R) (hc : R.c = c) (h0 : ¬ 0 < c.idle) (j : Nat) (p : PSrc) (hp : X.srcs[j]? = some p) : p.idle = false := by
  obtain ⟨r, hr, s⟩ := hl.same hp
  rw [s.idle, hc]
  simp [h0]
theorem srt_split (t : Int) : ∀ (l : List Ev), Srt l → l = l.filter (fun e => decide (e.ts < t)) ++ l.filter (fun e => !decide (e.ts < t)) := by
  intro l
  induction l with
  | nil => intro _; rfl
  | cons a l ih =>
    intro h
    unfold Srt at h
    obtain ⟨h1, h2⟩ := List.pairwise_cons.1 h
    by_cases ha : a.ts < t
    · simp only [List.filter_cons, ha, decide_true, Bool.not_true, if_true, Bool.false_eq_true, if_false, List.cons_append]
      rw [← ih h2]
    · have hn : ∀ e ∈ l, ¬ e.ts < t := fun e he => by have := h1 e he; rw [ahead_iff] at this; omega
      have e1 : l.filter (fun e => decide (e.ts < t)) = [] := List.filter_eq_nil_iff.2 (fun e he => by simpa using hn e he)
      have e2 : l.filter (fun e => !decide (e.ts < t)) = l := List.filter_eq_self.2 (fun e he => by simpa using hn e he)
      simp only [List.filter_cons, ha, decide_false, Bool.not_false, if_true, Bool.false_eq_true, if_false, e1, e2, List.nil_append]
/-- the end of Lively -/
theorem lively_end {n : Nat} {c : Cfg} {X : Eng} {G : LG} {tt : Int} (h : Lv n c G tt n X) : ∃ P, P <+: X.log ∧ Srt P ∧ P.Perm (G.all.filter (fun e => decide (e.ts < tt))) ∧ (G.all.filter (fun e => decide (e.ts < tt))).Pairwise Apart2 ∧ SaneX X ∧ G.all.length ≤ 200 := by
  obtain ⟨R, hk⟩ := h.kp
  obtain ⟨N, hl⟩ := hk.lk
  have hn : ∀ (j : Nat) p, X.srcs[j]? = some p → j < n := fun j p hp => by have := get_lt hp; rw [hk.n] at this; exact this
  have none_wait : (∀ (j : Nat) p, X.srcs[j]? = some p → p.inn = true → p.idle = true) → X.wait = [] := fun hx => by
    have hw : R.wait (-1) = [] := hk.stl (fun i => by
      cases hr : R.srcs[i]? with
      | none => unfold Ref.active; rw [hr]; rfl
      | some r =>
        have hi : i < X.srcs.length := by rw [hl.sim.n]; exact get_lt hr
        rw [(sim_active hl.sim (List.getElem?_eq_getElem hi) hr).1]
        have := hx i _ (List.getElem?_eq_getElem hi)
        cases hi1 : X.srcs[i].inn with
        | false => rfl
        | true => rw [this hi1]; rfl)
    have p := sim_wait hl.sim
    rw [hw] at p
    exact p.eq_nil
  have hwt : ∀ e ∈ X.wait, tt ≤ e.ts := by
    rcases h.st with st | st
    · cases hlo : R.leastOf R.srcs.length with
      | none =>
        have : X.wait = [] := none_wait (fun j p hp hin => by
          cases hid : p.idle with
          | true => rfl
          | false =>
            have hjl : j < R.srcs.length := by rw [← hl.sim.n]; exact get_lt hp
            have ha := (sim_active hl.sim hp (List.getElem?_eq_getElem hjl)).1
            rw [hin, hid] at ha
            obtain ⟨m, hm, _⟩ := leastOf_le R.srcs.length j hjl ha
            rw [hlo] at hm; cases hm)
        rw [this]; intro e he; cases he
      | some m =>
        obtain ⟨i, hi, ha, hm⟩ := leastOf_mem _ _ hlo
        obtain ⟨p, r, hp, hr⟩ := sim_get hl.sim hi
        obtain ⟨h1, h2⟩ := sim_active hl.sim hp hr
        rw [ha] at h1
        have hin : p.inn = true := by cases e : p.inn with | true => rfl | false => rw [e] at h1; simp at h1
        have hid : p.idle = false := by cases e : p.idle with | false => rfl | true => rw [e] at h1; simp at h1
        have hmk := h.lo i p (hn i p hp) hp hin hid
        have hle := least_eq hl.sim R.srcs.length (Nat.le_refl _)
        rw [hlo] at hle
        have := st m (by rw [hl.sim.n]; exact hle)
        intro e he
        have := hl.sim.hi e he
        have := hl.sim.merged
        omega
    · have : X.wait = [] := none_wait (fun j p hp hin => st j p (hn j p hp) hp hin)
      rw [this]; intro e he; cases he
  have hp := hl.sim.perm.filter (fun e => decide (e.ts < tt))
  have hw0 : X.wait.filter (fun e => decide (e.ts < tt)) = [] := List.filter_eq_nil_iff.2 (fun e he => by have := hwt e he; simp; omega)
  rw [List.filter_append, hw0, List.append_nil, ← hk.all] at hp
  have hsp := srt_split tt X.log hl.sim.logS
  refine ⟨X.log.filter (fun e => decide (e.ts < tt)), ⟨_, hsp.symm⟩, ?_, hp, ?_, hl.sane, by rw [hk.all]; exact hl.good.all⟩
  · exact List.Pairwise.filter _ hl.sim.logS
  · rw [hk.all]; exact List.Pairwise.filter _ hl.sim.ids
theorem filter_take_succ (p : Ev → Bool) (l : List Ev) (k : Nat) (h : k < l.length) : (l.take (k + 1)).filter p = (l.take k).filter p ++ if p l[k] then [l[k]] else [] := filter_snoc p l k h
end Go.Proofs.YtghcololkgeoeaaDoor
