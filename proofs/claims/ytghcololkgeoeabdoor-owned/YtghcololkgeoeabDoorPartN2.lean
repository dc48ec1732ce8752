import Derived.Test.YtghcololkgeoeabDoorPartN1
import Derived.Test.YtghcololkgeoeabDoorPartK7
import Derived.Test.YtghcololkgeoeabDoorPartL2
namespace Go.Proofs.YtghcololkgeoeabDoor
open Go.RowKit
set_option linter.unusedVariables false
set_option linter.unusedSimpArgs false

/-! ### acts that are done in a row, sources that leave in a row -/
def RunA (c : Cfg) : List ActR → Eng → Eng → Prop
  | [], X, X' => X' = X
  | a :: l, X, X' => ∃ z Y, DoneX X (srcI c a) a z Y ∧ RunA c l Y X'
theorem runA_snoc {c : Cfg} {l : List ActR} : ∀ {X X' X'' : Eng} {a : ActR} {z : Int}, RunA c l X X' → DoneX X' (srcI c a) a z X'' → RunA c (l ++ [a]) X X'' := by
  induction l with
  | nil => intro X X' X'' a z h hd; cases h; exact ⟨z, X'', hd, rfl⟩
  | cons b l ih =>
    intro X X' X'' a z h hd
    obtain ⟨z', Y, h1, h2⟩ := h
    exact ⟨z', Y, h1, ih h2 hd⟩
theorem twin_runA {c : Cfg} {l : List ActR} : ∀ {X X' Y Y' : Eng}, Twin (fun _ => True) X Y → RunA c l X X' → RunA c l Y Y' → Twin (fun _ => True) X' Y' := by
  induction l with
  | nil => intro X X' Y Y' ht h1 h2; cases h1; cases h2; exact ht
  | cons a l ih =>
    intro X X' Y Y' ht h1 h2
    obtain ⟨z, X1, d1, r1⟩ := h1
    obtain ⟨z', Y1, d2, r2⟩ := h2
    exact ih (twin_done ht d1 d2).2 r1 r2
theorem runA_grow {c : Cfg} {l : List ActR} : ∀ {X X' : Eng}, RunA c l X X' → Grow X X' := by
  induction l with
  | nil => intro X X' h; cases h; exact Grow.refl _
  | cons a l ih =>
    intro X X' h
    obtain ⟨z, X1, d1, r1⟩ := h
    exact (doneX_grow d1).trans (ih r1)
def RunL : Nat → Eng → Eng → Prop
  | 0, X, X' => X' = X
  | s + 1, X, X' => ∃ Y p, RunL s X Y ∧ Y.srcs[s]? = some p ∧ ((p.inn = false ∧ X' = Y) ∨ (p.inn = true ∧ PlX (Y.gone s p) X'))
theorem twin_inn {P : Nat → Prop} {X Y : Eng} (h : Twin P X Y) {i : Nat} {p q : PSrc} (hp : X.srcs[i]? = some p) (hq : Y.srcs[i]? = some q) : p.inn = q.inn := by
  obtain ⟨⟨N, R, h1, h2⟩, _⟩ := h
  obtain ⟨r, hr, s1⟩ := h1.same hp
  obtain ⟨r', hr', s2⟩ := h2.same hq
  rw [hr] at hr'
  cases hr'
  rw [s1.inn, s2.inn]
theorem twin_runL {s : Nat} : ∀ {X X' Y Y' : Eng}, Twin (fun _ => True) X Y → RunL s X X' → RunL s Y Y' → Twin (fun _ => True) X' Y' := by
  induction s with
  | zero => intro X X' Y Y' ht h1 h2; cases h1; cases h2; exact ht
  | succ s ih =>
    intro X X' Y Y' ht h1 h2
    obtain ⟨X1, p, r1, hp, c1⟩ := h1
    obtain ⟨Y1, q, r2, hq, c2⟩ := h2
    have ht1 := ih ht r1 r2
    have he := twin_inn ht1 hp hq
    rcases c1 with ⟨i1, rfl⟩ | ⟨i1, p1⟩ <;> rcases c2 with ⟨i2, rfl⟩ | ⟨i2, p2⟩
    · exact ht1
    · rw [i1, i2] at he; cases he
    · rw [i1, i2] at he; cases he
    · exact (twin_leave (A := s) ht1 (Or.inr ⟨s, p, rfl, hp, Or.inr ⟨i1, rfl, p1⟩⟩) (Or.inr ⟨s, q, rfl, hq, Or.inr ⟨i2, rfl, p2⟩⟩)).2
theorem runL_grow {s : Nat} : ∀ {X X' : Eng}, RunL s X X' → Grow X X' := by
  induction s with
  | zero => intro X X' h; cases h; exact Grow.refl _
  | succ s ih =>
    intro X X' h
    obtain ⟨Y, p, r1, hp, ⟨_, rfl⟩ | ⟨i1, p1⟩⟩ := h
    · exact ih r1
    · exact (ih r1).trans (leaveX_grow (A := s) (Or.inr ⟨s, p, rfl, hp, Or.inr ⟨i1, rfl, p1⟩⟩))
theorem joinR_c {R R' : Ref} {A z : Int} (h : JoinsR R A z R') : R'.c = R.c := by
  rcases h with ⟨_, _, rfl⟩ | ⟨i, p, _, _, ⟨_, _, rfl⟩ | ⟨_, _, r', hi, _, rfl⟩⟩
  · rfl
  · rfl
  · exact (settled_keep _).2.2.2
theorem joinSeq_c (R : Ref) (s : Nat) : (joinSeq R s).c = R.c := by
  induction s with
  | zero => rfl
  | succ s ih => obtain ⟨z, h⟩ := joinSeq_spec R s; rw [joinR_c h, ih]
theorem joinedX_c {M n : Nat} {X : Eng} {c : Cfg} (h : Like M X (joinSeq (newRef c n none 0 0) n)) : X.c = c := by rw [h.sim.c, joinSeq_c]; rfl
theorem left_run (b n : Nat) (c : Cfg) (X : Eng) (w : World) (h : MemX w b X) (hl : ∃ N R, Like N X R) (hX : X.srcs.length = n) (hn : c.sources = n) (h6 : n ≤ 6) :
    Calls Tryd.prog 13 #[.pointer (some ⟨b, 0, none⟩), .agg #[.int .i64 c.sources, .int .i64 c.slack, .int .i64 c.policy, .int .i64 c.room, .int .i64 c.idle, .string c.pat]] w fun e w' => e = .returned (.bool true) ∧ ∃ Y, RunL n X Y ∧ (∃ N R, Like N Y R) ∧ Y.srcs.length = n ∧ EvoX w b X w' Y := by
  refine (left_gen b n c X w h hn h6 (fun s Y => (∃ N R, Like N Y R) ∧ Y.srcs.length = n ∧ RunL s X Y) ⟨hl, hX, rfl⟩ (fun s Y ⟨⟨N, R, hl⟩, hy, _⟩ => ⟨hl.sane, hy⟩) ?_ ?_).mono ?_
  · rintro s Y hlt ⟨hlk, hy, hr⟩ hinn
    exact ⟨hlk, hy, Y, _, hr, List.getElem?_eq_getElem hlt, Or.inl ⟨hinn, rfl⟩⟩
  · rintro s Y hlt ⟨⟨N, R, hlk⟩, hy, hr⟩ hinn Y' hpl
    have hJ : LeavesX Y s 0 Y' := Or.inr ⟨s, _, rfl, List.getElem?_eq_getElem hlt, Or.inr ⟨hinn, rfl, hpl⟩⟩
    obtain ⟨z', R', hR⟩ := leaveR_some R s
    refine ⟨⟨_, R', (leave_agree hlk hJ hR).2⟩, (leaveX_grow hJ).n.trans hy, Y, _, hr, List.getElem?_eq_getElem hlt, Or.inr ⟨hinn, hpl⟩⟩
  · rintro e w' ⟨he, Y, ⟨hlk, hy, hr⟩, hev⟩
    exact ⟨he, Y, hr, hlk, hy, hev⟩
theorem like_ts {N : Nat} {X : Eng} {R : Ref} (h : Like N X R) : TsOk X.log := by
  intro e he
  have hm : e ∈ R.all := h.sim.perm.mem_iff.1 (List.mem_append_left _ he)
  have h1 := h.good.ts e hm
  have h2 := h.good.all
  omega
/-! ### three engines in one world -/
structure Thr (w wr : World) (b b' bz : Nat) (bs : List (Nat × TypeId × List Value)) (X Y Z : Eng) : Prop where
  two : Two w wr b b' bs X Y
  mz : MemX wr bz Z
  fz : ∀ k, some k ∈ Z.fp bz → w.heap.size ≤ k
  dx : ∀ k, some k ∈ Z.fp bz → some k ∉ X.fp b
  dy : ∀ k, some k ∈ Z.fp bz → some k ∉ Y.fp b'
  nz : ∀ x ∈ bs, some x.1 ∉ Z.fp bz
theorem Thr.evoX {w wr w' : World} {b b' bz : Nat} {bs : List (Nat × TypeId × List Value)} {X Y Z X' : Eng} (h : Thr w wr b b' bz bs X Y Z) (e : EvoX wr b X w' X') : Thr w w' b b' bz bs X' Y Z := by
  refine ⟨h.two.evoX e, h.mz.kept e.kept (fun k hk hX => h.dx k hk hX), h.fz, ?_, h.dy, h.nz⟩
  intro k hk hx
  rcases e.grow k hx with f | f
  · exact h.dx k hk f
  · have := h.mz.fp_lt k hk; omega
theorem Thr.evoY {w wr w' : World} {b b' bz : Nat} {bs : List (Nat × TypeId × List Value)} {X Y Z Y' : Eng} (h : Thr w wr b b' bz bs X Y Z) (e : EvoX wr b' Y w' Y') : Thr w w' b b' bz bs X Y' Z := by
  refine ⟨h.two.evoY e, h.mz.kept e.kept (fun k hk hX => h.dy k hk hX), h.fz, h.dx, ?_, h.nz⟩
  intro k hk hx
  rcases e.grow k hx with f | f
  · exact h.dy k hk f
  · have := h.mz.fp_lt k hk; omega
theorem Thr.evoZ {w wr w' : World} {b b' bz : Nat} {bs : List (Nat × TypeId × List Value)} {X Y Z Z' : Eng} (h : Thr w wr b b' bz bs X Y Z) (e : EvoX wr bz Z w' Z') : Thr w w' b b' bz bs X Y Z' := by
  have t := h.two
  refine ⟨⟨t.mx.kept e.kept (fun k hk hZ => h.dx k hZ hk), t.my.kept e.kept (fun k hk hZ => h.dy k hZ hk), t.dis, kept_toBelow t.bel e.kept h.fz, t.fx, t.fy, fun x hx => (t.bx x hx).kept e.kept (h.nz x hx), t.nx, t.ny⟩, e.mem, ?_, ?_, ?_, ?_⟩
  · intro k hk
    rcases e.grow k hk with f | f
    · exact h.fz k f
    · exact Nat.le_trans t.bel.size f
  · intro k hk hx
    rcases e.grow k hk with f | f
    · exact h.dx k f hx
    · have := t.mx.fp_lt k hx; omega
  · intro k hk hx
    rcases e.grow k hk with f | f
    · exact h.dy k f hx
    · have := t.my.fp_lt k hx; omega
  · intro x hx hk
    rcases e.grow x.1 hk with f | f
    · exact h.nz x hx f
    · have := (t.bx x hx).lt; omega
theorem Thr.below {w wr w' : World} {b b' bz : Nat} {bs : List (Nat × TypeId × List Value)} {X Y Z : Eng} (h : Thr w wr b b' bz bs X Y Z) (hb : Below wr.heap.size wr w') : Thr w w' b b' bz bs X Y Z := h.evoX (EvoX.below h.two.mx hb)
theorem Thr.start {w wr w' : World} {b b' bz : Nat} {bs : List (Nat × TypeId × List Value)} {X Y Z : Eng} (h : Two w wr b b' bs X Y) (hM : MemX w' bz Z) (hf : ∀ k, some k ∈ Z.fp bz → wr.heap.size ≤ k) (hb : Below wr.heap.size wr w') : Thr w w' b b' bz bs X Y Z := by
  refine ⟨h.below hb, hM, fun k hk => Nat.le_trans h.bel.size (hf k hk), fun k hk hx => ?_, fun k hk hx => ?_, fun x hx hk => ?_⟩
  · have := hf k hk; have := h.mx.fp_lt k hx; omega
  · have := hf k hk; have := h.my.fp_lt k hx; omega
  · have := hf _ hk; have := (h.bx x hx).lt; omega
end Go.Proofs.YtghcololkgeoeabDoor
