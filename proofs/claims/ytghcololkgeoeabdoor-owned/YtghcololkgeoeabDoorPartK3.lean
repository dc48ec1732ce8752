import Derived.Test.YtghcololkgeoeabDoorPartF5
import Derived.Test.YtghcololkgeoeabDoorPartK2
namespace Go.Proofs.YtghcololkgeoeabDoor
open Go.RowKit
set_option linter.unusedVariables false
set_option linter.unusedSimpArgs false

/-! ### every call as a relation, of the program's engine and of the document's -/
def Off (A : Int) (n : Nat) : Prop := A < 0 ∨ (n : Int) ≤ A
def JoinsX (X : Eng) (A : Int) (z : Int) (X' : Eng) : Prop := (Off A X.srcs.length ∧ z = 3 ∧ X' = X) ∨ ∃ (i : Nat) (p : PSrc), A = i ∧ X.srcs[i]? = some p ∧ ((p.inn = true ∧ z = 4 ∧ X' = X) ∨ (p.inn = false ∧ z = 0 ∧ PlX (X.joined i p) X'))
def JoinsR (R : Ref) (A : Int) (z : Int) (R' : Ref) : Prop := (Off A R.srcs.length ∧ z = 3 ∧ R' = R) ∨ ∃ (i : Nat) (p : RSrc), A = i ∧ R.srcs[i]? = some p ∧ ((p.inn = true ∧ z = 4 ∧ R' = R) ∨ (p.inn = false ∧ z = 0 ∧ ∃ r', JoinOk R i r' R'))
def LeavesX (X : Eng) (A : Int) (z : Int) (X' : Eng) : Prop := (Off A X.srcs.length ∧ z = 3 ∧ X' = X) ∨ ∃ (i : Nat) (p : PSrc), A = i ∧ X.srcs[i]? = some p ∧ ((p.inn = false ∧ z = 4 ∧ X' = X) ∨ (p.inn = true ∧ z = 0 ∧ PlX (X.gone i p) X'))
def LeavesR (R : Ref) (A : Int) (z : Int) (R' : Ref) : Prop := (Off A R.srcs.length ∧ z = 3 ∧ R' = R) ∨ ∃ (i : Nat) (p : RSrc), A = i ∧ R.srcs[i]? = some p ∧ ((p.inn = false ∧ z = 4 ∧ R' = R) ∨ (p.inn = true ∧ z = 0 ∧ LeaveOk R i R'))
def PushesX (X : Eng) (A : Int) (E : Ev) (z : Int) (X' : Eng) : Prop := (Off A X.srcs.length ∧ z = 3 ∧ X' = X) ∨ ∃ (i : Nat) (p : PSrc), A = i ∧ X.srcs[i]? = some p ∧ PushX X i p E z X'
def PushesR (R : Ref) (A : Int) (E : Ev) (z : Int) (R' : Ref) : Prop := (Off A R.srcs.length ∧ z = 3 ∧ R' = R) ∨ ∃ (i : Nat) (p : RSrc), A = i ∧ R.srcs[i]? = some p ∧ PushR R i p E z R'
def PunctsX (X : Eng) (A ts : Int) (z : Int) (X' : Eng) : Prop := (Off A X.srcs.length ∧ z = 3 ∧ X' = X) ∨ ∃ (i : Nat) (p : PSrc), A = i ∧ X.srcs[i]? = some p ∧ PunctX X i p ts z X'
def PunctsR (R : Ref) (A ts : Int) (z : Int) (R' : Ref) : Prop := (Off A R.srcs.length ∧ z = 3 ∧ R' = R) ∨ ∃ (i : Nat) (p : RSrc), A = i ∧ R.srcs[i]? = some p ∧ PunctR R i p ts z R'
def TicksX (X : Eng) (n : Int) (z : Int) (X' : Eng) : Prop := ((n < 1 ∨ 1000 < n) ∧ z = 9 ∧ X' = X) ∨ ((1 ≤ n ∧ n ≤ 1000) ∧ z = 0 ∧ PlX (X.ticked n) X')
def TicksR (R : Ref) (n : Int) (z : Int) (R' : Ref) : Prop := ((n < 1 ∨ 1000 < n) ∧ z = 9 ∧ R' = R) ∨ ((1 ≤ n ∧ n ≤ 1000) ∧ z = 0 ∧ R' = R.ticks n)

theorem off_not {A : Int} {n i : Nat} (h : Off A n) (e : A = i) (hi : i < n) : False := by unfold Off at h; omega
theorem get_lt {α : Type} {l : List α} {i : Nat} {p : α} (h : l[i]? = some p) : i < l.length := (List.getElem?_eq_some_iff.1 h).1
theorem Like.sane {N : Nat} {X : Eng} {R : Ref} (h : Like N X R) : SaneX X := saneX_of h.sim h.good
theorem Like.same {N : Nat} {X : Eng} {R : Ref} (h : Like N X R) {i : Nat} {p : PSrc} (hp : X.srcs[i]? = some p) : ∃ r, R.srcs[i]? = some r ∧ SrcSim R.c p r := by
  have hi : i < R.srcs.length := by rw [← h.sim.n]; exact get_lt hp
  exact ⟨_, List.getElem?_eq_getElem hi, h.sim.src i p _ hp (List.getElem?_eq_getElem hi)⟩

theorem join_agree {N : Nat} {X X' : Eng} {R R' : Ref} {A z z' : Int} (h : Like N X R) (hX : JoinsX X A z X') (hR : JoinsR R A z' R') : z = z' ∧ Like (N + 2) X' R' := by
  have hn := h.sim.n
  rcases hX with ⟨o, rfl, rfl⟩ | ⟨i, p, rfl, hp, hX⟩ <;> rcases hR with ⟨o', rfl, rfl⟩ | ⟨j, r, hj, hr, hR⟩
  · exact ⟨rfl, h.mono (by omega)⟩
  · exact (off_not (by rw [← hn]; exact o) hj (get_lt hr)).elim
  · exact (off_not (by rw [hn]; exact o') rfl (get_lt hp)).elim
  · obtain rfl : i = j := by omega
    have s := h.sim.src i p r hp hr
    rw [s.inn] at hX
    rcases hX with ⟨h1, rfl, rfl⟩ | ⟨h1, rfl, hpl⟩ <;> rcases hR with ⟨g1, rfl, rfl⟩ | ⟨g1, rfl, r', hj⟩
    · exact ⟨rfl, h.mono (by omega)⟩
    · rw [h1] at g1; cases g1
    · rw [h1] at g1; cases g1
    · exact ⟨rfl, (like_pl (sim_join h.sim h.good hp hj) hpl).mono (by omega)⟩
theorem leave_agree {N : Nat} {X X' : Eng} {R R' : Ref} {A z z' : Int} (h : Like N X R) (hX : LeavesX X A z X') (hR : LeavesR R A z' R') : z = z' ∧ Like (N + 2) X' R' := by
  have hn := h.sim.n
  rcases hX with ⟨o, rfl, rfl⟩ | ⟨i, p, rfl, hp, hX⟩ <;> rcases hR with ⟨o', rfl, rfl⟩ | ⟨j, r, hj, hr, hR⟩
  · exact ⟨rfl, h.mono (by omega)⟩
  · exact (off_not (by rw [← hn]; exact o) hj (get_lt hr)).elim
  · exact (off_not (by rw [hn]; exact o') rfl (get_lt hp)).elim
  · obtain rfl : i = j := by omega
    have s := h.sim.src i p r hp hr
    rw [s.inn] at hX
    rcases hX with ⟨h1, rfl, rfl⟩ | ⟨h1, rfl, hpl⟩ <;> rcases hR with ⟨g1, rfl, rfl⟩ | ⟨g1, rfl, hj⟩
    · exact ⟨rfl, h.mono (by omega)⟩
    · rw [h1] at g1; cases g1
    · rw [h1] at g1; cases g1
    · exact ⟨rfl, (like_pl (sim_leave h.sim h.good hp hj) hpl).mono (by omega)⟩
theorem pushes_agree {N : Nat} {X X' : Eng} {R R' : Ref} {A z z' : Int} {E : Ev} (h : Like N X R) (hX : PushesX X A E z X') (hR : PushesR R A E z' R') : z = z' ∧ Like (N + 2) X' R' := by
  have hn := h.sim.n
  rcases hX with ⟨o, rfl, rfl⟩ | ⟨i, p, rfl, hp, hX⟩ <;> rcases hR with ⟨o', rfl, rfl⟩ | ⟨j, r, hj, hr, hR⟩
  · exact ⟨rfl, h.mono (by omega)⟩
  · exact (off_not (by rw [← hn]; exact o) hj (get_lt hr)).elim
  · exact (off_not (by rw [hn]; exact o') rfl (get_lt hp)).elim
  · obtain rfl : i = j := by omega
    exact push_agree h hp hr hX hR
theorem puncts_agree {N : Nat} {X X' : Eng} {R R' : Ref} {A ts z z' : Int} (h : Like N X R) (hX : PunctsX X A ts z X') (hR : PunctsR R A ts z' R') : z = z' ∧ Like (N + 2) X' R' := by
  have hn := h.sim.n
  rcases hX with ⟨o, rfl, rfl⟩ | ⟨i, p, rfl, hp, hX⟩ <;> rcases hR with ⟨o', rfl, rfl⟩ | ⟨j, r, hj, hr, hR⟩
  · exact ⟨rfl, h.mono (by omega)⟩
  · exact (off_not (by rw [← hn]; exact o) hj (get_lt hr)).elim
  · exact (off_not (by rw [hn]; exact o') rfl (get_lt hp)).elim
  · obtain rfl : i = j := by omega
    exact punct_agree h hp hr hX hR
theorem tick_agree {N : Nat} {X X' : Eng} {R R' : Ref} {n z z' : Int} (h : Like N X R) (hX : TicksX X n z X') (hR : TicksR R n z' R') : z = z' ∧ Like (N + 2) X' R' := by
  rcases hX with ⟨o, rfl, rfl⟩ | ⟨o, rfl, hpl⟩ <;> rcases hR with ⟨o', rfl, rfl⟩ | ⟨o', rfl, rfl⟩
  · exact ⟨rfl, h.mono (by omega)⟩
  · omega
  · omega
  · exact ⟨rfl, (like_pl (sim_tick h.sim h.good o.1 o.2) hpl).mono (by omega)⟩
theorem joinR_some (R : Ref) (A : Int) : ∃ z R', JoinsR R A z R' := by
  rcases index_cases A R.srcs.length with hA | ⟨i, rfl, hi⟩
  · exact ⟨3, R, Or.inl ⟨hA, rfl, rfl⟩⟩
  · cases hin : R.srcs[i].inn with
    | true => exact ⟨4, R, Or.inr ⟨i, _, rfl, List.getElem?_eq_getElem hi, Or.inl ⟨hin, rfl, rfl⟩⟩⟩
    | false => exact ⟨0, _, Or.inr ⟨i, _, rfl, List.getElem?_eq_getElem hi, Or.inr ⟨hin, rfl, { R.srcs[i] with inn := true, sil := 0, marks := R.srcs[i].marks ++ [R.merged], ma := none, mc := 0 }, hi, rfl, rfl⟩⟩⟩
theorem leaveR_some (R : Ref) (A : Int) : ∃ z R', LeavesR R A z R' := by
  rcases index_cases A R.srcs.length with hA | ⟨i, rfl, hi⟩
  · exact ⟨3, R, Or.inl ⟨hA, rfl, rfl⟩⟩
  · cases hin : R.srcs[i].inn with
    | false => exact ⟨4, R, Or.inr ⟨i, _, rfl, List.getElem?_eq_getElem hi, Or.inl ⟨hin, rfl, rfl⟩⟩⟩
    | true => exact ⟨0, _, Or.inr ⟨i, _, rfl, List.getElem?_eq_getElem hi, Or.inr ⟨hin, rfl, hi, rfl⟩⟩⟩
theorem pushesR_some (R : Ref) (A : Int) (E : Ev) : ∃ z R', PushesR R A E z R' := by
  rcases index_cases A R.srcs.length with hA | ⟨i, rfl, hi⟩
  · exact ⟨3, R, Or.inl ⟨hA, rfl, rfl⟩⟩
  · obtain ⟨z, R', h⟩ := pushR_some R.srcs[i] E hi
    exact ⟨z, R', Or.inr ⟨i, _, rfl, List.getElem?_eq_getElem hi, h⟩⟩
theorem punctsR_some (R : Ref) (A ts : Int) : ∃ z R', PunctsR R A ts z R' := by
  rcases index_cases A R.srcs.length with hA | ⟨i, rfl, hi⟩
  · exact ⟨3, R, Or.inl ⟨hA, rfl, rfl⟩⟩
  · obtain ⟨z, R', h⟩ := punctR_some R.srcs[i] ts hi
    exact ⟨z, R', Or.inr ⟨i, _, rfl, List.getElem?_eq_getElem hi, h⟩⟩
theorem tickR_some (R : Ref) (n : Int) : ∃ z R', TicksR R n z R' := by
  by_cases h : 1 ≤ n ∧ n ≤ 1000
  · exact ⟨0, _, Or.inr ⟨h, rfl, rfl⟩⟩
  · exact ⟨9, R, Or.inl ⟨by omega, rfl, rfl⟩⟩

/-! ### the program's calls -/
theorem xjoin_rel {N b : Nat} {X : Eng} {R : Ref} (A : Int) (h : Like N X R) (u : World) (hu : MemX u b X) :
    Calls Tryd.prog 27 #[.pointer (some ⟨b, 0, none⟩), .int .i64 A] u fun e w' => ∃ z X', e = .returned (.int .i64 z) ∧ JoinsX X A z X' ∧ EvoX u b X w' X' := by
  rcases index_cases A X.srcs.length with hA | ⟨i, rfl, hi⟩
  · exact (xjoin_none b X A u hu hA).mono fun e w' ⟨he, hw⟩ => ⟨3, X, he, Or.inl ⟨hA, rfl, rfl⟩, hw ▸ EvoX.refl hu⟩
  · cases hin : X.srcs[i].inn with
    | true => exact (xjoin_in b X i u hu hi hin).mono fun e w' ⟨he, hw⟩ => ⟨4, X, he, Or.inr ⟨i, _, rfl, List.getElem?_eq_getElem hi, Or.inl ⟨hin, rfl, rfl⟩⟩, hw ▸ EvoX.refl hu⟩
    | false =>
      refine (xjoin_ok b X i u hu h.sane hi hin).mono ?_
      rintro e w' ⟨he, hw⟩
      obtain ⟨X', hpl, hev⟩ := evoP_pl hw
      exact ⟨0, X', he, Or.inr ⟨i, _, rfl, List.getElem?_eq_getElem hi, Or.inr ⟨hin, rfl, hpl⟩⟩, hev⟩
theorem xleave_rel {N b : Nat} {X : Eng} {R : Ref} (A : Int) (h : Like N X R) (u : World) (hu : MemX u b X) :
    Calls Tryd.prog 29 #[.pointer (some ⟨b, 0, none⟩), .int .i64 A] u fun e w' => ∃ z X', e = .returned (.int .i64 z) ∧ LeavesX X A z X' ∧ EvoX u b X w' X' := by
  rcases index_cases A X.srcs.length with hA | ⟨i, rfl, hi⟩
  · exact (xleave_none b X A u hu hA).mono fun e w' ⟨he, hw⟩ => ⟨3, X, he, Or.inl ⟨hA, rfl, rfl⟩, hw ▸ EvoX.refl hu⟩
  · cases hin : X.srcs[i].inn with
    | false => exact (xleave_out b X i u hu hi hin).mono fun e w' ⟨he, hw⟩ => ⟨4, X, he, Or.inr ⟨i, _, rfl, List.getElem?_eq_getElem hi, Or.inl ⟨hin, rfl, rfl⟩⟩, hw ▸ EvoX.refl hu⟩
    | true =>
      refine (xleave_ok b X i u hu h.sane hi hin).mono ?_
      rintro e w' ⟨he, hw⟩
      obtain ⟨X', hpl, hev⟩ := evoP_pl hw
      exact ⟨0, X', he, Or.inr ⟨i, _, rfl, List.getElem?_eq_getElem hi, Or.inr ⟨hin, rfl, hpl⟩⟩, hev⟩
theorem xpushes_rel {N b : Nat} {X : Eng} {R : Ref} (A : Int) (E : Ev) (h : Like N X R) (u : World) (hu : MemX u b X) :
    Calls Tryd.prog 30 #[.pointer (some ⟨b, 0, none⟩), .int .i64 A, E.agg] u fun e w' => ∃ z X', e = .returned (.int .i64 z) ∧ PushesX X A E z X' ∧ EvoX u b X w' X' := by
  rcases index_cases A X.srcs.length with hA | ⟨i, rfl, hi⟩
  · exact (xpush_none b X A E u hu hA).mono fun e w' ⟨he, hw⟩ => ⟨3, X, he, Or.inl ⟨hA, rfl, rfl⟩, EvoX.below hu hw⟩
  · exact (xpush_rel E h hi u hu).mono fun e w' ⟨z, X', he, hP, hev⟩ => ⟨z, X', he, Or.inr ⟨i, _, rfl, List.getElem?_eq_getElem hi, hP⟩, hev⟩
theorem xpuncts_rel {N b : Nat} {X : Eng} {R : Ref} (A ts : Int) (h : Like N X R) (u : World) (hu : MemX u b X) :
    Calls Tryd.prog 31 #[.pointer (some ⟨b, 0, none⟩), .int .i64 A, .int .i64 ts] u fun e w' => ∃ z X', e = .returned (.int .i64 z) ∧ PunctsX X A ts z X' ∧ EvoX u b X w' X' := by
  rcases index_cases A X.srcs.length with hA | ⟨i, rfl, hi⟩
  · exact (xpunct_none b X A ts u hu hA).mono fun e w' ⟨he, hw⟩ => ⟨3, X, he, Or.inl ⟨hA, rfl, rfl⟩, hw ▸ EvoX.refl hu⟩
  · exact (xpunct_rel ts h hi u hu).mono fun e w' ⟨z, X', he, hP, hev⟩ => ⟨z, X', he, Or.inr ⟨i, _, rfl, List.getElem?_eq_getElem hi, hP⟩, hev⟩
theorem xtick_rel {N b : Nat} {X : Eng} {R : Ref} (n : Int) (h : Like N X R) (u : World) (hu : MemX u b X) :
    Calls Tryd.prog 32 #[.pointer (some ⟨b, 0, none⟩), .int .i64 n] u fun e w' => ∃ z X', e = .returned (.int .i64 z) ∧ TicksX X n z X' ∧ EvoX u b X w' X' := by
  by_cases hn : n < 1 ∨ 1000 < n
  · exact (xtick_bad b n u hn).mono fun e w' ⟨he, hw⟩ => ⟨9, X, he, Or.inl ⟨hn, rfl, rfl⟩, hw ▸ EvoX.refl hu⟩
  · have hsl : ∀ (i : Nat) p, X.srcs[i]? = some p → 0 ≤ p.sil ∧ p.sil ≤ 1000 := by
      intro i p hp
      obtain ⟨r, _, s⟩ := h.same hp
      by_cases hq : r.sil ≤ 1000
      · have := s.sil.2.1 hq; have := s.sil.1; omega
      · have := s.sil.2.2 (by omega); omega
    refine (xtick_ok b X n u hu h.sane (by omega) hsl).mono ?_
    rintro e w' ⟨he, hw⟩
    obtain ⟨X', hpl, hev⟩ := evoP_pl hw
    exact ⟨0, X', he, Or.inr ⟨by omega, rfl, hpl⟩, hev⟩

/-! ### the log grows, the mark rises -/
structure Grow (X X' : Eng) : Prop where
  mg : X.merged ≤ X'.merged
  log : X.log <+: X'.log
  n : X'.srcs.length = X.srcs.length
  c : X'.c = X.c
theorem Grow.refl (X : Eng) : Grow X X := ⟨Int.le_refl _, List.prefix_refl _, rfl, rfl⟩
theorem Grow.trans {X Y Z : Eng} (h : Grow X Y) (g : Grow Y Z) : Grow X Z := ⟨Int.le_trans h.mg g.mg, h.log.trans g.log, g.n.trans h.n, g.c.trans h.c⟩
theorem grow_settled (X : Eng) : Grow X X.settled := by
  refine ⟨?_, List.prefix_append _ _, rfl, rfl⟩
  show X.merged ≤ X.rise
  unfold Eng.rise; split <;> omega
theorem grow_pl {X Y Y' : Eng} (h : Grow X Y) (hp : PlX Y Y') : Grow X Y' := by
  obtain ⟨ga, gc, wa, wc, rfl⟩ := hp
  exact ⟨h.mg, h.log, h.n, h.c⟩
theorem grow_src (X : Eng) (l : List PSrc) (h : l.length = X.srcs.length) : Grow X { X with srcs := l } := ⟨Int.le_refl _, List.prefix_refl _, h, rfl⟩
theorem joinX_grow {X X' : Eng} {A z : Int} (h : JoinsX X A z X') : Grow X X' := by
  rcases h with ⟨_, _, rfl⟩ | ⟨i, p, _, _, ⟨_, _, rfl⟩ | ⟨_, _, hpl⟩⟩
  · exact Grow.refl _
  · exact Grow.refl _
  · exact grow_pl ((grow_src X _ (by simp)).trans (grow_settled _)) hpl
theorem leaveX_grow {X X' : Eng} {A z : Int} (h : LeavesX X A z X') : Grow X X' := by
  rcases h with ⟨_, _, rfl⟩ | ⟨i, p, _, _, ⟨_, _, rfl⟩ | ⟨_, _, hpl⟩⟩
  · exact Grow.refl _
  · exact Grow.refl _
  · exact grow_pl ((grow_src X _ (by simp)).trans (grow_settled _)) hpl
theorem pushX_grow {X X' : Eng} {i : Nat} {p : PSrc} {E : Ev} {z : Int} (h : PushX X i p E z X') : Grow X X' := by
  rcases h with ⟨_, _, rfl⟩ | ⟨_, _, _, rfl⟩ | ⟨_, _, _, Y, hY, hpl⟩
  · exact Grow.refl _
  · exact Grow.refl _
  · obtain ⟨Z, rfl, zc, zs, zm, zl, _⟩ := hY
    have g : Grow X Z := ⟨by rw [zm]; exact Int.le_refl _, by rw [zl]; exact List.prefix_refl _, by rw [zs]; simp, zc⟩
    exact grow_pl (g.trans (grow_settled _)) hpl
theorem punctX_grow {X X' : Eng} {i : Nat} {p : PSrc} {ts z : Int} (h : PunctX X i p ts z X') : Grow X X' := by
  rcases h with ⟨_, _, rfl⟩ | ⟨_, _, _, rfl⟩ | ⟨_, _, _, hpl⟩
  · exact Grow.refl _
  · exact Grow.refl _
  · exact grow_pl ((grow_src X _ (by simp)).trans (grow_settled _)) hpl
theorem pushesX_grow {X X' : Eng} {A z : Int} {E : Ev} (h : PushesX X A E z X') : Grow X X' := by
  rcases h with ⟨_, _, rfl⟩ | ⟨i, p, _, _, h⟩
  · exact Grow.refl _
  · exact pushX_grow h
theorem punctsX_grow {X X' : Eng} {A ts z : Int} (h : PunctsX X A ts z X') : Grow X X' := by
  rcases h with ⟨_, _, rfl⟩ | ⟨i, p, _, _, h⟩
  · exact Grow.refl _
  · exact punctX_grow h
theorem tickX_grow {X X' : Eng} {n z : Int} (h : TicksX X n z X') : Grow X X' := by
  rcases h with ⟨_, _, rfl⟩ | ⟨_, _, hpl⟩
  · exact Grow.refl _
  · exact grow_pl ((grow_src X _ (by simp)).trans (grow_settled _)) hpl
theorem noLine_grow (Y : Eng) (i : Nat) : Grow Y (Y.noLine i) := by
  unfold Eng.noLine
  split
  · exact grow_src Y _ (by simp)
  · exact Grow.refl _
theorem stepX_grow {i : Nat} {c : UInt8} {f f' : FedN} {Y Y' : Eng} (h : StepX i c f Y f' Y') : Grow Y Y' := by
  obtain ⟨p, hp, ⟨_, _, la, lc, rfl⟩ | ⟨_, _, _, rfl⟩ | ⟨_, _, z, q, _, _, hP⟩ | ⟨_, _, z, q, _, _, hP⟩⟩ := h
  · exact grow_src Y _ (by simp)
  · exact noLine_grow Y i
  · exact (noLine_grow Y i).trans (pushX_grow hP)
  · exact (noLine_grow Y i).trans (punctX_grow hP)
theorem runX_grow {X0 Y : Eng} {i N k : Nat} {s : ByteArray} {f : FedN} {tr : Nat → FedN × Eng} (h : RunX X0 i N s k f Y tr) (hk : k ≤ s.size) : Grow X0 Y := by
  have : ∀ j, j ≤ k → Grow X0 (tr j).2 := by
    intro j
    induction j with
    | zero => intro _; rw [h.t0]; exact Grow.refl _
    | succ j ih => intro hj; exact (ih (by omega)).trans (stepX_grow (h.st j (by omega) (by omega)))
  have := this k (Nat.le_refl _)
  rw [h.tk] at this
  exact this
end Go.Proofs.YtghcololkgeoeabDoor
namespace Go.Proofs.YtghcololkgeoeabDoor
open Go.RowKit
set_option linter.unusedVariables false
set_option linter.unusedSimpArgs false
attribute [local go_sem ↓] Go.wp_at_zero Go.wp_at_succ

/-! ### lists of events that can be read -/
def EvAt (w : World) (a : Option Addr) (l : List Ev) : Prop := ∀ (k : Nat) (hk : k < l.length), ∃ g, a = some ⟨g, 0, none⟩ ∧ g < w.heap.size ∧ w.cell? ⟨g, k * 5, none⟩ = some (.int .i64 l[k].src) ∧ w.cell? ⟨g, k * 5 + 1, none⟩ = some (.int .i64 l[k].seq) ∧ w.cell? ⟨g, k * 5 + 2, none⟩ = some (.int .i64 l[k].ts) ∧ w.cell? ⟨g, k * 5 + 3, none⟩ = some (.int .i64 l[k].kind) ∧ w.cell? ⟨g, k * 5 + 4, none⟩ = some (.int .i64 l[k].val)
theorem EvAt.below {w w' : World} {a : Option Addr} {l : List Ev} {B : Nat} (h : EvAt w a l) (hb : Below B w w') (hB : ∀ g, bk a = some g → g < B) : EvAt w' a l := by
  intro k hk
  obtain ⟨g, ha, hg, c0, c1, c2, c3, c4⟩ := h k hk
  have hgB : g < B := hB g (by rw [ha]; rfl)
  exact ⟨g, ha, Nat.lt_of_lt_of_le hg hb.size, (hb.cell (p := ⟨g, k * 5, none⟩) hgB).trans c0, (hb.cell (p := ⟨g, k * 5 + 1, none⟩) hgB).trans c1, (hb.cell (p := ⟨g, k * 5 + 2, none⟩) hgB).trans c2, (hb.cell (p := ⟨g, k * 5 + 3, none⟩) hgB).trans c3, (hb.cell (p := ⟨g, k * 5 + 4, none⟩) hgB).trans c4⟩
theorem EvAt.drewN {w : World} {a : Option Addr} {l : List Ev} (h : EvAt w a l) (n : Nat) : EvAt (w.drewN n) a l := h
theorem EvAt.of_row {w : World} {a : Option Addr} {l : List Ev} {n c : Nat} (h : Row w 37 5 a l.length c (evs l)) : EvAt w a l := by
  intro k hk
  obtain ⟨g, hg, _, x0, x1, x2, x3, x4⟩ := evRow_cells h k hk
  exact ⟨g, hg, h.lt (by rw [hg]; rfl), x0, x1, x2, x3, x4⟩
theorem EvAt.take {w : World} {a : Option Addr} {l m : List Ev} (h : EvAt w a l) (hp : m <+: l) : EvAt w a m := by
  intro k hk
  have hk' : k < l.length := Nat.lt_of_lt_of_le hk hp.length_le
  have e : m[k] = l[k] := hp.getElem hk
  rw [e]
  exact h k hk'
set_option maxRecDepth 100000 in
set_option maxHeartbeats 2000000 in
theorem same_eq (l : List Ev) (a a' : Option Addr) (c c' : Nat) (w : World) (h : EvAt w a l) (h' : EvAt w a' l) (hl : l.length ≤ 100000) :
    Calls Tryd.prog 39 #[.slice a l.length c, .slice a' l.length c'] w fun e w' => e = .returned (.bool true) ∧ ∃ n, w' = w.drewN n := by
  have HR : Hid (EvAt w a l) := h
  have HR' : Hid (EvAt w a' l) := h'
  clear h h'
  go_enter Tryd.func39, Tryd.ntmps39
  go_wp2
  go_loopw [5] (fun i wr => ∃ (k n : Nat), k ≤ l.length ∧ i = .int .i64 k ∧ wr = w.drewN n) (fun i _ => l.length - (intOf i).toNat)
  case atStart => exact ⟨0, 0, Nat.zero_le _, rfl, rfl⟩
  case round =>
    obtain ⟨k, n, hk, rfl, hwr⟩ := hrel
    have HRr : Hid (EvAt wr a l) := by show EvAt _ _ _; rw [hwr]; exact HR.out.drewN n
    have HRr' : Hid (EvAt wr a' l) := by show EvAt _ _ _; rw [hwr]; exact HR'.out.drewN n
    have HW : Hid (wr = w.drewN n) := hwr
    clear hwr
    by_cases hlt : k < l.length
    · have hlt' : (k : Int) < (l.length : Int) := by omega
      have hk0 : (0 : Int) ≤ (k : Int) := by omega
      obtain ⟨g, hg, _, x0, x1, x2, x3, x4⟩ := HRr.out k hlt
      obtain ⟨g', hg', _, y0, y1, y2, y3, y4⟩ := HRr'.out k hlt
      obtain ⟨E, HE⟩ := hex l[k]
      rw [← HE.out] at x0 x1 x2 x3 x4 y0 y1 y2 y3 y4
      subst hg
      subst hg'
      go_wp2
      go_quiet (fail)
      go_wp2
      go_roundw
      case rel => exact ⟨k + 1, n + _, by omega, by go_num, by rw [HW.out, drewN2]⟩
      case measure => simp [intOf]; omega
    · go_wp2
      go_ret
      exact ⟨rfl, n, HW.out⟩
/-- the events' order -/
def beforeB (a b : Ev) : Bool := if a.ts ≠ b.ts then decide (a.ts < b.ts) else if a.src ≠ b.src then decide (a.src < b.src) else decide (a.seq < b.seq)
/-! ### an engine is made -/
def cfgZ : Cfg := ⟨0, 0, 0, 0, 0, ByteArray.empty⟩
set_option maxRecDepth 100000 in
set_option maxHeartbeats 4000000 in
theorem made_any (n : Nat) (c : Cfg) (w : World) (hn : c.sources = n) (hok : c.ok) :
    Calls Tryd.prog 8 #[.agg #[.int .i64 c.sources, .int .i64 c.slack, .int .i64 c.policy, .int .i64 c.room, .int .i64 c.idle, .string c.pat]] w fun e w' => ∃ b sg sc p, e = .returned (.tuple #[.pointer (some ⟨b, 0, none⟩), .bool true]) ∧ MemX w' b (newEng c n sg sc p) ∧ (∀ k, some k ∈ (newEng c n sg sc p).fp b → w.heap.size ≤ k) ∧ Below w.heap.size w w' := by
  have HX : Hid (∀ u, Calls Tryd.prog 25 #[.agg #[.int .i64 c.sources, .int .i64 c.slack, .int .i64 c.policy, .int .i64 c.room, .int .i64 c.idle, .string c.pat]] u fun e w' => ∃ b sg sc p, e = .returned (.tuple #[.pointer (some ⟨b, 0, none⟩), .int .i64 0]) ∧ MemX w' b (newEng c n sg sc p) ∧ (∀ k, some k ∈ (newEng c n sg sc p).fp b → u.heap.size ≤ k) ∧ Below u.heap.size u w') := fun u => xnew_ok n c u hn hok.1 hok.2.1 hok.2.2
  have HB : Hid (∀ u, Calls Tryd.prog 25 #[.agg #[.int .i64 0, .int .i64 0, .int .i64 0, .int .i64 0, .int .i64 0, .string ByteArray.empty]] u fun e w' => e = .returned (.tuple #[.pointer none, .int .i64 1]) ∧ Below u.heap.size u w') := fun u => xnew_config cfgZ u (fun h => by have := h.1; revert this; decide)
  clear hok hn
  have hB0 : Below w.heap.size w (w.alloc (.cells #[.int .i64 c.sources, .int .i64 c.slack, .int .i64 c.policy, .int .i64 c.room, .int .i64 c.idle, .string c.pat] 26)) := (Below.refl _ _).alloc (Nat.le_refl _) _
  have H0 : Hid (Below w.heap.size w (w.alloc (.cells #[.int .i64 c.sources, .int .i64 c.slack, .int .i64 c.policy, .int .i64 c.room, .int .i64 c.idle, .string c.pat] 26))) := hB0
  clear hB0
  go_enter Tryd.func8, Tryd.ntmps8
  go_upto_region 2 with (go_at_call 25; refine (HX.out _).mono ?_; rintro e w1 ⟨b, sg, sc, p, rfl, hM, hf, hb⟩)
  have HM : Hid (MemX w1 b (newEng c n sg sc p)) := hM
  have HF : Hid (∀ k, some k ∈ (newEng c n sg sc p).fp b → w.heap.size ≤ k) := fun k hk => Nat.le_trans (by simp) (hf k hk)
  have HW : Hid (Below w.heap.size w w1) := H0.out.trans (hb.mono (by simp))
  clear hM hf hb
  go_wp2_with (go_at_call 25; refine (HB.out _).mono ?_; rintro e w2 ⟨rfl, hb2⟩)
  go_ret2
  exact ⟨b, sg, sc, p, rfl, HM.out.below hb2, HF.out, HW.out.trans (hb2.mono HW.out.size)⟩
/-- the document's engine beside it -/
theorem new_like {c : Cfg} {n sg sc : Nat} {p : PatV} (hn : c.sources = n) (hok : c.ok) : Like 0 (newEng c n sg sc p) (newRef c n none 0 0) := by
  have := sim_new (X := newEng c n sg sc p) (R := newRef c n none 0 0) (n := n) (p := zP) rfl rfl rfl ⟨rfl, rfl, rfl, rfl, rfl, rfl⟩ rfl rfl rfl rfl rfl rfl rfl hn.symm hok.1 ⟨fun e he => absurd (show e ∈ ([] : List Ev) from he) (by simp), rfl, rfl, rfl, hok.2.2⟩
  exact ⟨this.1, this.2⟩
end Go.Proofs.YtghcololkgeoeabDoor
namespace Go.Proofs.YtghcololkgeoeabDoor
open Go.RowKit
set_option linter.unusedVariables false
set_option linter.unusedSimpArgs false
attribute [local go_sem ↓] Go.wp_at_zero Go.wp_at_succ

/-! ### acts -/
structure ActR where
  d : Int
  s : Int
  n : Int
  E : Ev
def ActR.ok (a : ActR) : Prop := I64 a.d ∧ I64 a.s ∧ I64 a.n
def ActR.cells (a : ActR) : List Value := [.int .i64 a.d, .int .i64 a.s, .int .i64 a.n, .int .i64 a.E.src, .int .i64 a.E.seq, .int .i64 a.E.ts, .int .i64 a.E.kind, .int .i64 a.E.val]
def srcI (c : Cfg) (a : ActR) : Int := pk a.s (c.sources + 2) - 1
set_option maxHeartbeats 1000000 in
theorem source_any (c : Cfg) (a : ActR) (w : World) (ha : a.ok) (hc : 1 ≤ c.sources ∧ c.sources ≤ 6) :
    Calls Tryd.prog 28 #[.agg #[.int .i64 c.sources, .int .i64 c.slack, .int .i64 c.policy, .int .i64 c.room, .int .i64 c.idle, .string c.pat], .agg #[.int .i64 a.d, .int .i64 a.s, .int .i64 a.n, .int .i64 a.E.src, .int .i64 a.E.seq, .int .i64 a.E.ts, .int .i64 a.E.kind, .int .i64 a.E.val]] w fun e w' => e = .returned (.int .i64 (srcI c a)) ∧ Below w.heap.size w w' := by
  have hp : ∀ u, Calls Tryd.prog 10 #[.int .i64 a.s, .int .i64 (c.sources + 2)] u fun e w' => e = .returned (.int .i64 (pk a.s (c.sources + 2))) ∧ u = w' := fun u => pick_any _ _ u ha.2.1 (by omega) (by omega)
  have w1 : IntKind.i64.wrap (c.sources + 2) = c.sources + 2 := by rw [IntKind.wrap_i64]; omega
  have hr := pk_range (c := a.s) (n := c.sources + 2) (by omega)
  have w2 : IntKind.i64.wrap (pk a.s (c.sources + 2) - 1) = pk a.s (c.sources + 2) - 1 := by rw [IntKind.wrap_i64]; omega
  have hb : ∀ o1 o2 : Obj, Below w.heap.size w ((w.alloc o1).alloc o2) := fun o1 o2 => ((Below.refl _ _).alloc (Nat.le_refl _) _).alloc (by simp) _
  go_enter Tryd.func28, Tryd.ntmps28
  go_wp2_with (go_at_call 10; refine (hp _).mono ?_; rintro e w' ⟨rfl, rfl⟩)
  go_ret
  exact ⟨rfl, hb _ _⟩
set_option maxRecDepth 100000 in
set_option maxHeartbeats 4000000 in
theorem joined_gen (b n : Nat) (c : Cfg) (X : Eng) (w : World) (h : MemX w b X) (hn : c.sources = n) (h6 : n ≤ 6) (Inv : Nat → Eng → Prop) (h0 : Inv 0 X) (hs : ∀ s Y, Inv s Y → SaneX Y ∧ Y.srcs.length = n)
    (hin : ∀ s Y (hl : s < Y.srcs.length), Inv s Y → Y.srcs[s].inn = true → Inv (s + 1) Y)
    (hjo : ∀ s Y (hl : s < Y.srcs.length), Inv s Y → Y.srcs[s].inn = false → ∀ Y', PlX (Y.joined s Y.srcs[s]) Y' → Inv (s + 1) Y') :
    Calls Tryd.prog 9 #[.pointer (some ⟨b, 0, none⟩), .agg #[.int .i64 c.sources, .int .i64 c.slack, .int .i64 c.policy, .int .i64 c.room, .int .i64 c.idle, .string c.pat]] w fun e w' => e = .returned (.bool true) ∧ ∃ Y, Inv n Y ∧ EvoX w b X w' Y := by
  obtain ⟨w1, HW1⟩ := hex (w.alloc (.cells c.vals.toArray 26))
  obtain ⟨cb, HCb⟩ := hex w.heap.size
  have HC1 : Hid (Blk w1 cb 26 c.vals) := by show Blk _ _ _ _; rw [HW1.out, HCb.out]; exact blk_alloc _ _ _
  have HE1 : Hid (EvoX w b X w1 X) := by show EvoX _ _ _ _ _; rw [HW1.out]; exact EvoX.below h ((Below.refl _ _).alloc (Nat.le_refl _) _)
  have HNc : Hid (¬ some cb ∈ X.fp b) := fun e => by have := h.fp_lt _ e; have := HCb.out; omega
  have HI0 : Hid (Inv 0 X) := h0
  have HIs : Hid (∀ s Y, Inv s Y → SaneX Y ∧ Y.srcs.length = n) := hs
  have HIi : Hid (∀ s Y (hl : s < Y.srcs.length), Inv s Y → Y.srcs[s].inn = true → Inv (s + 1) Y) := hin
  have HIj : Hid (∀ s Y (hl : s < Y.srcs.length), Inv s Y → Y.srcs[s].inn = false → ∀ Y', PlX (Y.joined s Y.srcs[s]) Y' → Inv (s + 1) Y') := hjo
  have HN : Hid (c.sources = n) := hn
  clear h h0 hs hin hjo hn
  have hw1 : w.alloc (.cells #[.int .i64 c.sources, .int .i64 c.slack, .int .i64 c.policy, .int .i64 c.room, .int .i64 c.idle, .string c.pat] 26) = w1 := HW1.out.symm
  go_enter Tryd.func9, Tryd.ntmps9
  go_upto_region 1 with fail
  rw [← HCb.out]
  clear hw1 HW1 HCb
  go_wp2
  go_loopw [5] (fun sv wr => ∃ (s : Nat) (Y : Eng), s ≤ n ∧ sv = .int .i64 s ∧ Inv s Y ∧ EvoX w1 b X wr Y) (fun sv _ => n - (intOf sv).toNat)
  case atStart => exact ⟨0, X, Nat.zero_le _, rfl, HI0.out, EvoX.refl HE1.out.mem⟩
  case round =>
    obtain ⟨s, Y, hsn, rfl, hI, hE⟩ := hrel
    have HI : Hid (Inv s Y) := hI
    have HE : Hid (EvoX w1 b X wr Y) := hE
    clear hI hE
    have HCr : Hid (Blk wr cb 26 c.vals) := HC1.out.kept HE.out.kept HNc.out
    have c0 := HCr.out.cell 0
    simp only [Cfg.vals, List.getElem?_cons_zero, HN.out] at c0
    by_cases hlt : s < n
    · have hlt' : (s : Int) < (n : Int) := by omega
      have hl : s < Y.srcs.length := by rw [(HIs.out s Y HI.out).2]; exact hlt
      have hso : ∀ u, MemX u b Y → Calls Tryd.prog 26 #[.pointer (some ⟨b, 0, none⟩), .int .i64 s] u fun e w' => e = .returned (.tuple #[.agg #[.bool Y.srcs[s].inn, .bool Y.srcs[s].idle, .int .i64 Y.srcs[s].mark, .int .i64 (Y.waitOf s), .int .i64 Y.srcs[s].last], .int .i64 0]) ∧ Below u.heap.size u w' := fun u hu => by
        have ht : Y.tell s = ⟨Y.srcs[s].inn, Y.srcs[s].idle, Y.srcs[s].mark, Y.waitOf s, Y.srcs[s].last, 0⟩ := by
          unfold Eng.tell
          rw [if_neg (by omega), show (s : Int).toNat = s by omega, List.getElem?_eq_getElem hl]
        have := xsource_any b Y s (HIs.out s Y HI.out).1 u hu
        rw [ht] at this
        exact this
      cases hinn : Y.srcs[s].inn with
      | true =>
        rw [hinn] at hso
        have HI2 : Hid (Inv (s + 1) Y) := HIi.out s Y hl HI.out hinn
        clear hinn
        go_wp2_with (go_at_call 26; refine (hso _ HE.out.mem).mono ?_; rintro e w2 ⟨rfl, hb2⟩)
        go_roundw
        case rel => exact ⟨s + 1, Y, by omega, by go_num, HI2.out, HE.out.belowE (hb2.alloc hb2.size _)⟩
        case measure => simp [intOf]; omega
      | false =>
        rw [hinn] at hso
        have HI2 : Hid (∀ Y', PlX (Y.joined s Y.srcs[s]) Y' → Inv (s + 1) Y') := HIj.out s Y hl HI.out hinn
        have hjn : ∀ u, MemX u b Y → Calls Tryd.prog 27 #[.pointer (some ⟨b, 0, none⟩), .int .i64 s] u fun e w' => e = .returned (.int .i64 0) ∧ EvoP u b Y w' (Y.joined s Y.srcs[s]) := fun u hu => xjoin_ok b Y s u hu (HIs.out s Y HI.out).1 hl hinn
        clear hinn
        go_wp2_with (first
          | (go_at_call 26; refine (hso _ HE.out.mem).mono ?_; rintro e w2 ⟨rfl, hb2⟩)
          | (go_at_call 27; refine (hjn _ ((HE.out.mem.below hb2).alloc _)).mono ?_; rintro e w3 ⟨rfl, hev⟩))
        go_roundw
        case rel =>
          obtain ⟨Y', hpl, hev⟩ := evoP_pl hev
          exact ⟨s + 1, Y', by omega, by go_num, HI2.out Y' hpl, (HE.out.belowE (hb2.alloc hb2.size _)).trans hev⟩
        case measure => simp [intOf]; omega
    · obtain rfl : s = n := by omega
      go_wp2
      go_ret
      exact ⟨rfl, Y, HI.out, HE1.out.trans HE.out⟩
end Go.Proofs.YtghcololkgeoeabDoor
