import Derived.Test.YtghcololkgeoeabDoorPartK5
namespace Go.Proofs.YtghcololkgeoeabDoor
open Go.RowKit
set_option linter.unusedVariables false
set_option linter.unusedSimpArgs false

/-! ### two engines that are asked the same -/
def LinesEq (P : Nat → Prop) (X Y : Eng) : Prop := ∀ (j : Nat) p q, P j → X.srcs[j]? = some p → Y.srcs[j]? = some q → p.line = q.line
structure Twin (P : Nat → Prop) (X Y : Eng) : Prop where
  lk : ∃ N R, Like N X R ∧ Like N Y R
  ln : LinesEq P X Y
theorem LinesEq.frame {P : Nat → Prop} {X Y X' Y' : Eng} (h : LinesEq P X Y) (hx : lineOf X' = lineOf X) (hy : lineOf Y' = lineOf Y) : LinesEq P X' Y' := by
  intro j p q hj hp hq
  obtain ⟨p', hp', e⟩ := lineOf_get hx hp
  obtain ⟨q', hq', f⟩ := lineOf_get hy hq
  rw [← e, ← f]
  exact h j p' q' hj hp' hq'
theorem like_log {N : Nat} {X : Eng} {R : Ref} (h : Like N X R) : X.log.Perm (R.all.filter (fun e => decide (e.ts < R.merged))) := by
  have p := h.sim.perm.filter (fun e => decide (e.ts < R.merged))
  rw [List.filter_append] at p
  have e1 : X.log.filter (fun e => decide (e.ts < R.merged)) = X.log := List.filter_eq_self.2 (fun e he => by simpa using h.sim.lo e he)
  have e2 : X.wait.filter (fun e => decide (e.ts < R.merged)) = [] := List.filter_eq_nil_iff.2 (fun e he => by have := h.sim.hi e he; simp; omega)
  rw [e1, e2, List.append_nil] at p
  exact p
theorem like_log_eq {N M : Nat} {X Y : Eng} {R : Ref} (h : Like N X R) (g : Like M Y R) : X.log = Y.log := srt_unique ((like_log h).trans (like_log g).symm) h.sim.logS g.sim.logS
theorem joinX_lines {X X' : Eng} {A z : Int} (h : JoinsX X A z X') : lineOf X' = lineOf X := by
  rcases h with ⟨_, _, rfl⟩ | ⟨i, p, _, hp, ⟨_, _, rfl⟩ | ⟨_, _, hpl⟩⟩
  · rfl
  · rfl
  · rw [pl_lines hpl, joined_lines hp]
theorem leaveX_lines {X X' : Eng} {A z : Int} (h : LeavesX X A z X') : lineOf X' = lineOf X := by
  rcases h with ⟨_, _, rfl⟩ | ⟨i, p, _, hp, ⟨_, _, rfl⟩ | ⟨_, _, hpl⟩⟩
  · rfl
  · rfl
  · rw [pl_lines hpl, gone_lines hp]
theorem pushesX_lines {X X' : Eng} {A z : Int} {E : Ev} (h : PushesX X A E z X') : lineOf X' = lineOf X := by
  rcases h with ⟨_, _, rfl⟩ | ⟨i, p, _, hp, h⟩
  · rfl
  · exact pushX_lines hp h
theorem punctsX_lines {X X' : Eng} {A ts z : Int} (h : PunctsX X A ts z X') : lineOf X' = lineOf X := by
  rcases h with ⟨_, _, rfl⟩ | ⟨i, p, _, hp, h⟩
  · rfl
  · exact punctX_lines hp h
theorem tickX_lines {X X' : Eng} {n z : Int} (h : TicksX X n z X') : lineOf X' = lineOf X := by
  rcases h with ⟨_, _, rfl⟩ | ⟨_, _, hpl⟩
  · rfl
  · rw [pl_lines hpl, ticked_lines]
theorem twin_join {P : Nat → Prop} {X Y X' Y' : Eng} {A z z' : Int} (h : Twin P X Y) (hX : JoinsX X A z X') (hY : JoinsX Y A z' Y') : z = z' ∧ Twin P X' Y' := by
  obtain ⟨⟨N, R, h1, h2⟩, hl⟩ := h
  obtain ⟨zr, R', hR⟩ := joinR_some R A
  obtain ⟨e1, g1⟩ := join_agree h1 hX hR
  obtain ⟨e2, g2⟩ := join_agree h2 hY hR
  exact ⟨e1.trans e2.symm, ⟨_, R', g1, g2⟩, hl.frame (joinX_lines hX) (joinX_lines hY)⟩
theorem twin_leave {P : Nat → Prop} {X Y X' Y' : Eng} {A z z' : Int} (h : Twin P X Y) (hX : LeavesX X A z X') (hY : LeavesX Y A z' Y') : z = z' ∧ Twin P X' Y' := by
  obtain ⟨⟨N, R, h1, h2⟩, hl⟩ := h
  obtain ⟨zr, R', hR⟩ := leaveR_some R A
  obtain ⟨e1, g1⟩ := leave_agree h1 hX hR
  obtain ⟨e2, g2⟩ := leave_agree h2 hY hR
  exact ⟨e1.trans e2.symm, ⟨_, R', g1, g2⟩, hl.frame (leaveX_lines hX) (leaveX_lines hY)⟩
theorem twin_push {P : Nat → Prop} {X Y X' Y' : Eng} {A z z' : Int} {E : Ev} (h : Twin P X Y) (hX : PushesX X A E z X') (hY : PushesX Y A E z' Y') : z = z' ∧ Twin P X' Y' := by
  obtain ⟨⟨N, R, h1, h2⟩, hl⟩ := h
  obtain ⟨zr, R', hR⟩ := pushesR_some R A E
  obtain ⟨e1, g1⟩ := pushes_agree h1 hX hR
  obtain ⟨e2, g2⟩ := pushes_agree h2 hY hR
  exact ⟨e1.trans e2.symm, ⟨_, R', g1, g2⟩, hl.frame (pushesX_lines hX) (pushesX_lines hY)⟩
theorem twin_punct {P : Nat → Prop} {X Y X' Y' : Eng} {A ts z z' : Int} (h : Twin P X Y) (hX : PunctsX X A ts z X') (hY : PunctsX Y A ts z' Y') : z = z' ∧ Twin P X' Y' := by
  obtain ⟨⟨N, R, h1, h2⟩, hl⟩ := h
  obtain ⟨zr, R', hR⟩ := punctsR_some R A ts
  obtain ⟨e1, g1⟩ := puncts_agree h1 hX hR
  obtain ⟨e2, g2⟩ := puncts_agree h2 hY hR
  exact ⟨e1.trans e2.symm, ⟨_, R', g1, g2⟩, hl.frame (punctsX_lines hX) (punctsX_lines hY)⟩
theorem twin_tick {P : Nat → Prop} {X Y X' Y' : Eng} {n z z' : Int} (h : Twin P X Y) (hX : TicksX X n z X') (hY : TicksX Y n z' Y') : z = z' ∧ Twin P X' Y' := by
  obtain ⟨⟨N, R, h1, h2⟩, hl⟩ := h
  obtain ⟨zr, R', hR⟩ := tickR_some R n
  obtain ⟨e1, g1⟩ := tick_agree h1 hX hR
  obtain ⟨e2, g2⟩ := tick_agree h2 hY hR
  exact ⟨e1.trans e2.symm, ⟨_, R', g1, g2⟩, hl.frame (tickX_lines hX) (tickX_lines hY)⟩

/-! ### runs over bytes -/
inductive Runs (i : Nat) : List UInt8 → FedN → Eng → FedN → Eng → Prop
  | nil (f : FedN) (X : Eng) : Runs i [] f X f X
  | cons {c : UInt8} {l : List UInt8} {f f1 f2 : FedN} {X X1 X2 : Eng} (h : StepX i c f X f1 X1) (t : Runs i l f1 X1 f2 X2) : Runs i (c :: l) f X f2 X2
theorem Runs.append {i : Nat} {l m : List UInt8} {f f1 f2 : FedN} {X X1 X2 : Eng} (h : Runs i l f X f1 X1) (g : Runs i m f1 X1 f2 X2) : Runs i (l ++ m) f X f2 X2 := by
  induction h with
  | nil f X => exact g
  | cons h t ih => exact Runs.cons h (ih g)
theorem runX_runs {X0 Y : Eng} {i N : Nat} {s : ByteArray} {f : FedN} {tr : Nat → FedN × Eng} (h : RunX X0 i N s s.size f Y tr) : Runs i s.data.toList ⟨0, 0, 0⟩ X0 f Y := by
  have key : ∀ m k, k + m = s.size → Runs i (s.data.toList.drop k) (tr k).1 (tr k).2 f Y := by
    intro m
    induction m with
    | zero =>
      intro k hk
      have hk : k = s.size := by omega
      subst hk
      rw [h.tk, List.drop_eq_nil_of_le (by simp)]
      exact Runs.nil f Y
    | succ m ih =>
      intro k hk
      have hlt : k < s.data.toList.length := by simp; omega
      rw [List.drop_eq_getElem_cons hlt]
      exact Runs.cons (h.st k (by omega) (by omega)) (ih (k + 1) (by omega))
  have := key s.size 0 (by omega)
  rw [h.t0] at this
  simpa using this
theorem twin_line {P : Nat → Prop} {X Y : Eng} {i : Nat} {p q p' q' : PSrc} (h : Twin P X Y) (hp : X.srcs[i]? = some p) (hq : Y.srcs[i]? = some q) (h1 : p'.inn = p.inn ∧ p'.idle = p.idle ∧ p'.mark = p.mark ∧ p'.sil = p.sil ∧ p'.last = p.last) (h2 : q'.inn = q.inn ∧ q'.idle = q.idle ∧ q'.mark = q.mark ∧ q'.sil = q.sil ∧ q'.last = q.last) (hl : p'.line = q'.line) : Twin P { X with srcs := X.srcs.set i p' } { Y with srcs := Y.srcs.set i q' } := by
  obtain ⟨⟨N, R, g1, g2⟩, hln⟩ := h
  refine ⟨⟨N, R, sim_line g1 hp h1, sim_line g2 hq h2⟩, ?_⟩
  intro j a b hj ha hb
  have ha : (X.srcs.set i p')[j]? = some a := ha
  have hb : (Y.srcs.set i q')[j]? = some b := hb
  by_cases hij : i = j
  · subst hij
    rw [List.getElem?_set, if_pos rfl, if_pos (get_lt hp)] at ha
    rw [List.getElem?_set, if_pos rfl, if_pos (get_lt hq)] at hb
    simp only [Option.some.injEq] at ha hb
    rw [← ha, ← hb]; exact hl
  · rw [List.getElem?_set, if_neg hij] at ha hb
    exact hln j a b hj ha hb
theorem twin_step {P : Nat → Prop} {X Y X1 Y2 : Eng} {i : Nat} {c : UInt8} {f f1 f2 : FedN} (hi : P i) (h : Twin P X Y) (hX : StepX i c f X f1 X1) (hY : StepX i c f Y f2 Y2) : f1 = f2 ∧ Twin P X1 Y2 := by
  obtain ⟨p, hp, hX⟩ := hX
  obtain ⟨q, hq, hY⟩ := hY
  have hl : p.line = q.line := h.ln i p q hi hp hq
  rw [← hl] at hY
  have hn : Twin P (X.noLine i) (Y.noLine i) := by rw [noLine_get hp, noLine_get hq]; exact twin_line h hp hq ⟨rfl, rfl, rfl, rfl, rfl⟩ ⟨rfl, rfl, rfl, rfl, rfl⟩ rfl
  rcases hX with ⟨h1, rfl, la, lc, rfl⟩ | ⟨h1, h2, rfl, rfl⟩ | ⟨h1, h2, z, a, ha, rfl, hX⟩ | ⟨h1, h2, z, a, ha, rfl, hX⟩ <;> rcases hY with ⟨g1, rfl, la', lc', rfl⟩ | ⟨g1, g2, rfl, rfl⟩ | ⟨g1, g2, z', a', ha', rfl, hY⟩ | ⟨g1, g2, z', a', ha', rfl, hY⟩
  · refine ⟨rfl, twin_line h hp hq ⟨rfl, rfl, rfl, rfl, rfl⟩ ⟨rfl, rfl, rfl, rfl, rfl⟩ ?_⟩
    unfold PSrc.keeps
    simp only
    rw [hl]
  · exact absurd g1 h1
  · exact absurd g1 h1
  · exact absurd g1 h1
  · exact absurd h1 g1
  · exact ⟨rfl, hn⟩
  · omega
  · omega
  · exact absurd h1 g1
  · omega
  · have := twin_push (A := i) hn (Or.inr ⟨i, a, rfl, ha, hX⟩) (Or.inr ⟨i, a', rfl, ha', hY⟩)
    exact ⟨by rw [this.1], this.2⟩
  · omega
  · exact absurd h1 g1
  · omega
  · omega
  · have := twin_punct (A := i) hn (Or.inr ⟨i, a, rfl, ha, hX⟩) (Or.inr ⟨i, a', rfl, ha', hY⟩)
    exact ⟨by rw [this.1], this.2⟩
theorem twin_runs {P : Nat → Prop} {i : Nat} {l : List UInt8} (hi : P i) : ∀ {f f1 f2 : FedN} {X Y X1 Y2 : Eng}, Twin P X Y → Runs i l f X f1 X1 → Runs i l f Y f2 Y2 → f1 = f2 ∧ Twin P X1 Y2 := by
  induction l with
  | nil =>
    intro f f1 f2 X Y X1 Y2 h hX hY
    cases hX; cases hY
    exact ⟨rfl, h⟩
  | cons c l ih =>
    intro f f1 f2 X Y X1 Y2 h hX hY
    cases hX with
    | cons hx tx =>
      cases hY with
      | cons hy ty =>
        obtain ⟨e, ht⟩ := twin_step hi h hx hy
        subst e
        exact ih ht tx ty
theorem twin_feed {X Y X' Y' : Eng} {A z z' : Int} (h : Twin (fun _ => True) X Y) (hX : FeedsX X A z X') (hY : FeedsX Y A z' Y') : z = z' ∧ Twin (fun _ => True) X' Y' := by
  have hn : X.srcs.length = Y.srcs.length := by obtain ⟨⟨N, R, h1, h2⟩, _⟩ := h; rw [h1.sim.n, h2.sim.n]
  rcases hX with ⟨o, rfl, rfl⟩ | ⟨i, N, f, tr, rfl, hi, rfl, hX⟩ <;> rcases hY with ⟨o', rfl, rfl⟩ | ⟨j, N', f', tr', hj, hj', rfl, hY⟩
  · exact ⟨rfl, h⟩
  · exact (off_not (by rw [← hn]; exact o) hj hj').elim
  · exact (off_not (by rw [hn]; exact o') rfl hi).elim
  · obtain rfl : i = j := by omega
    exact ⟨rfl, (twin_runs (P := fun _ => True) trivial h (runX_runs hX) (runX_runs hY)).2⟩
theorem twin_done {X Y X' Y' : Eng} {A z z' : Int} {a : ActR} (h : Twin (fun _ => True) X Y) (hX : DoneX X A a z X') (hY : DoneX Y A a z' Y') : z = z' ∧ Twin (fun _ => True) X' Y' := by
  rcases hX with ⟨h1, hX⟩ | ⟨h1, hX⟩ | ⟨h1, hX⟩ | ⟨h1, hX⟩ | ⟨h1, hX⟩ | ⟨h1, hX⟩ <;> rcases hY with ⟨g1, hY⟩ | ⟨g1, hY⟩ | ⟨g1, hY⟩ | ⟨g1, hY⟩ | ⟨g1, hY⟩ | ⟨g1, hY⟩ <;> first | omega | exact twin_join h hX hY | exact twin_leave h hX hY | exact twin_push h hX hY | exact twin_punct h hX hY | exact twin_tick h hX hY | exact twin_feed h hX hY
/-! ### an error changes nothing -/
theorem pushX_err {X X' : Eng} {i : Nat} {p : PSrc} {E : Ev} {z : Int} (h : PushX X i p E z X') (hz : z ≠ 0) : X' = X := by
  rcases h with ⟨_, _, h⟩ | ⟨_, _, _, h⟩ | ⟨_, _, h, _⟩
  · exact h
  · exact h
  · exact absurd h hz
theorem punctX_err {X X' : Eng} {i : Nat} {p : PSrc} {ts z : Int} (h : PunctX X i p ts z X') (hz : z ≠ 0) : X' = X := by
  rcases h with ⟨_, _, h⟩ | ⟨_, _, _, h⟩ | ⟨_, _, h, _⟩
  · exact h
  · exact h
  · exact absurd h hz
theorem pushesX_err {X X' : Eng} {A z : Int} {E : Ev} (h : PushesX X A E z X') (hz : z ≠ 0) : X' = X := by
  rcases h with ⟨_, _, h⟩ | ⟨i, p, _, _, h⟩
  · exact h
  · exact pushX_err h hz
theorem punctsX_err {X X' : Eng} {A ts z : Int} (h : PunctsX X A ts z X') (hz : z ≠ 0) : X' = X := by
  rcases h with ⟨_, _, h⟩ | ⟨i, p, _, _, h⟩
  · exact h
  · exact punctX_err h hz
theorem joinX_err {X X' : Eng} {A z : Int} (h : JoinsX X A z X') (hz : z ≠ 0) : X' = X := by
  rcases h with ⟨_, _, h⟩ | ⟨i, p, _, _, ⟨_, _, h⟩ | ⟨_, h, _⟩⟩
  · exact h
  · exact h
  · exact absurd h hz
theorem leaveX_err {X X' : Eng} {A z : Int} (h : LeavesX X A z X') (hz : z ≠ 0) : X' = X := by
  rcases h with ⟨_, _, h⟩ | ⟨i, p, _, _, ⟨_, _, h⟩ | ⟨_, h, _⟩⟩
  · exact h
  · exact h
  · exact absurd h hz
theorem tickX_err {X X' : Eng} {n z : Int} (h : TicksX X n z X') (hz : z ≠ 0) : X' = X := by
  rcases h with ⟨_, _, h⟩ | ⟨_, h, _⟩
  · exact h
  · exact absurd h hz
theorem feedsX_err {X X' : Eng} {A z : Int} (h : FeedsX X A z X') (hz : z ≠ 0) : X' = X := by
  rcases h with ⟨_, _, h⟩ | ⟨i, N, f, tr, _, _, h, _⟩
  · exact h
  · exact absurd h hz
theorem doneX_err {X X' : Eng} {A z : Int} {a : ActR} (h : DoneX X A a z X') (hz : z ≠ 0) : X' = X := by
  rcases h with ⟨_, h⟩ | ⟨_, h⟩ | ⟨_, h⟩ | ⟨_, h⟩ | ⟨_, h⟩ | ⟨_, h⟩
  · exact joinX_err h hz
  · exact leaveX_err h hz
  · exact pushesX_err h hz
  · exact punctsX_err h hz
  · exact tickX_err h hz
  · exact feedsX_err h hz

/-! ### both in one world -/
/-- both engines, and blocks of the law's own -/
structure Two (w wr : World) (b b' : Nat) (bs : List (Nat × TypeId × List Value)) (X Y : Eng) : Prop where
  mx : MemX wr b X
  my : MemX wr b' Y
  dis : ∀ k, some k ∈ X.fp b → some k ∉ Y.fp b'
  bel : Below w.heap.size w wr
  fx : ∀ k, some k ∈ X.fp b → w.heap.size ≤ k
  fy : ∀ k, some k ∈ Y.fp b' → w.heap.size ≤ k
  bx : ∀ x ∈ bs, Blk wr x.1 x.2.1 x.2.2
  nx : ∀ x ∈ bs, some x.1 ∉ X.fp b
  ny : ∀ x ∈ bs, some x.1 ∉ Y.fp b'
theorem Two.swap {w wr : World} {b b' : Nat} {bs : List (Nat × TypeId × List Value)} {X Y : Eng} (h : Two w wr b b' bs X Y) : Two w wr b' b bs Y X :=
  ⟨h.my, h.mx, fun k hk hx => h.dis k hx hk, h.bel, h.fy, h.fx, h.bx, h.ny, h.nx⟩
theorem Two.evoX {w wr w' : World} {b b' : Nat} {bs : List (Nat × TypeId × List Value)} {X Y X' : Eng} (h : Two w wr b b' bs X Y) (e : EvoX wr b X w' X') : Two w w' b b' bs X' Y := by
  refine ⟨e.mem, h.my.kept e.kept (fun k hk hX => h.dis k hX hk), ?_, kept_toBelow h.bel e.kept h.fx, ?_, h.fy, fun x hx => (h.bx x hx).kept e.kept (h.nx x hx), ?_, h.ny⟩
  · intro k hk hy
    rcases e.grow k hk with f | f
    · exact h.dis k f hy
    · have := h.my.fp_lt k hy; omega
  · intro k hk
    rcases e.grow k hk with f | f
    · exact h.fx k f
    · exact Nat.le_trans h.bel.size f
  · intro x hx hk
    rcases e.grow x.1 hk with f | f
    · exact h.nx x hx f
    · have := (h.bx x hx).lt; omega
theorem Two.evoY {w wr w' : World} {b b' : Nat} {bs : List (Nat × TypeId × List Value)} {X Y Y' : Eng} (h : Two w wr b b' bs X Y) (e : EvoX wr b' Y w' Y') : Two w w' b b' bs X Y' := (h.swap.evoX e).swap
theorem Two.below {w wr w' : World} {b b' : Nat} {bs : List (Nat × TypeId × List Value)} {X Y : Eng} (h : Two w wr b b' bs X Y) (hb : Below wr.heap.size wr w') : Two w w' b b' bs X Y := h.evoX (EvoX.below h.mx hb)
theorem Two.start {w w1 w2 w3 : World} {b b' : Nat} {bs : List (Nat × TypeId × List Value)} {X Y : Eng} (hB : Below w.heap.size w w1) (hbs : ∀ x ∈ bs, Blk w1 x.1 x.2.1 x.2.2) (hM : MemX w2 b X) (hf : ∀ k, some k ∈ X.fp b → w1.heap.size ≤ k) (hb : Below w1.heap.size w1 w2) (hM' : MemX w3 b' Y) (hf' : ∀ k, some k ∈ Y.fp b' → w2.heap.size ≤ k) (hb' : Below w2.heap.size w2 w3) : Two w w3 b b' bs X Y := by
  have s1 := hB.size
  have s2 := hb.size
  refine ⟨hM.below hb', hM', fun k hk hy => ?_, (hB.trans (hb.mono s1)).trans (hb'.mono (by omega)), fun k hk => Nat.le_trans s1 (hf k hk), fun k hk => Nat.le_trans (by omega) (hf' k hk), fun x hx => ((hbs x hx).below hb (hbs x hx).lt).below hb' (by have := (hbs x hx).lt; omega), fun x hx e => ?_, fun x hx e => ?_⟩
  · have := hM.fp_lt k hk; have := hf' k hy; omega
  · have := hf _ e; have := (hbs x hx).lt; omega
  · have := hf' _ e; have := (hbs x hx).lt; omega

/-! ### all join -/
noncomputable def joinSeq (R : Ref) : Nat → Ref
  | 0 => R
  | s + 1 => (joinR_some (joinSeq R s) s).choose_spec.choose
theorem joinSeq_spec (R : Ref) (s : Nat) : ∃ z, JoinsR (joinSeq R s) s z (joinSeq R (s + 1)) := ⟨_, (joinR_some (joinSeq R s) s).choose_spec.choose_spec⟩
set_option maxHeartbeats 1000000 in
theorem joined_seq {N : Nat} (b n : Nat) (c : Cfg) (X : Eng) (R : Ref) (w : World) (h : MemX w b X) (hl : Like N X R) (hn : c.sources = n) (h6 : n ≤ 6) (hX : X.srcs.length = n) :
    Calls Tryd.prog 9 #[.pointer (some ⟨b, 0, none⟩), .agg #[.int .i64 c.sources, .int .i64 c.slack, .int .i64 c.policy, .int .i64 c.room, .int .i64 c.idle, .string c.pat]] w fun e w' => e = .returned (.bool true) ∧ ∃ M Y, Like M Y (joinSeq R n) ∧ lineOf Y = lineOf X ∧ Y.srcs.length = n ∧ EvoX w b X w' Y := by
  refine (joined_gen b n c X w h hn h6 (fun s Y => (∃ M, Like M Y (joinSeq R s)) ∧ lineOf Y = lineOf X ∧ Y.srcs.length = n) ⟨⟨N, hl⟩, rfl, hX⟩ (fun s Y ⟨⟨M, hl⟩, _, h2⟩ => ⟨hl.sane, h2⟩) ?_ ?_).mono ?_
  · rintro s Y hls ⟨⟨M, hlk⟩, h2, h3⟩ hinn
    obtain ⟨z, hz⟩ := joinSeq_spec R s
    have hJ : JoinsX Y s 4 Y := Or.inr ⟨s, _, rfl, List.getElem?_eq_getElem hls, Or.inl ⟨hinn, rfl, rfl⟩⟩
    exact ⟨⟨_, (join_agree hlk hJ hz).2⟩, h2, h3⟩
  · rintro s Y hls ⟨⟨M, hlk⟩, h2, h3⟩ hinn Y' hpl
    obtain ⟨z, hz⟩ := joinSeq_spec R s
    have hJ : JoinsX Y s 0 Y' := Or.inr ⟨s, _, rfl, List.getElem?_eq_getElem hls, Or.inr ⟨hinn, rfl, hpl⟩⟩
    exact ⟨⟨_, (join_agree hlk hJ hz).2⟩, (joinX_lines hJ).trans h2, (joinX_grow hJ).n.trans h3⟩
  · rintro e w' ⟨he, Y, ⟨⟨M, h1⟩, h2, h3⟩, hev⟩
    exact ⟨he, M, Y, h1, h2, h3, hev⟩
theorem twin_of {P : Nat → Prop} {N M : Nat} {X Y : Eng} {R : Ref} (h1 : Like N X R) (h2 : Like M Y R) (hl : lineOf X = lineOf Y) : Twin P X Y := by
  refine ⟨⟨N + M, R, h1.mono (by omega), h2.mono (by omega)⟩, ?_⟩
  intro j p q _ hp hq
  obtain ⟨q', hq', e⟩ := lineOf_get hl hp
  rw [hq] at hq'
  cases hq'
  exact e.symm
theorem new_lines (c c' : Cfg) (n sg sc sg' sc' : Nat) (p p' : PatV) : lineOf (newEng c n sg sc p) = lineOf (newEng c' n sg' sc' p') := rfl
end Go.Proofs.YtghcololkgeoeabDoor
namespace Go.Proofs.YtghcololkgeoeabDoor
open Go.RowKit
set_option linter.unusedVariables false
set_option linter.unusedSimpArgs false
attribute [local go_sem ↓] Go.wp_at_zero Go.wp_at_succ

theorem EvAt.of_owns {w' : World} {a : Option Addr} {l : List Ev} {c B : Nat} (hro : w'.ownsRow B 37 5 (.slice a l.length c) l.length (evs l)) : EvAt w' a l := by
  have hrow : Row w' 37 5 a l.length c (evs l) := ⟨hro.1, hro.2.imp id (fun ⟨g, cap, cur, h1, h2, h3⟩ => ⟨g, cap, cur, h1, Nat.zero_le _, h3⟩)⟩
  exact EvAt.of_row (n := 0) hrow
set_option maxRecDepth 100000 in
set_option maxHeartbeats 8000000 in
theorem alike_true {P : Nat → Prop} (b b' n : Nat) (X Y : Eng) (w : World) (hx : MemX w b X) (hy : MemX w b' Y) (ht : Twin P X Y) (hn6 : n ≤ 6) :
    Calls Tryd.prog 21 #[.pointer (some ⟨b, 0, none⟩), .pointer (some ⟨b', 0, none⟩), .int .i64 n] w fun e w' => e = .returned (.bool true) ∧ Below w.heap.size w w' := by
  obtain ⟨⟨N, R, h1, h2⟩, _⟩ := ht
  obtain ⟨L, HL⟩ := hex X.log
  obtain ⟨D, HD⟩ := hex X.late
  obtain ⟨m, HM⟩ := hex X.merged
  have hLY : L = Y.log := HL.out.trans (like_log_eq h1 h2)
  have hDY : D = Y.late := HD.out.trans (h1.sim.late.trans h2.sim.late.symm)
  have hMY : m = Y.merged := HM.out.trans (h1.sim.merged.trans h2.sim.merged.symm)
  have hL : L.length ≤ 1000 := by rw [HL.out]; exact h1.sane.log
  have hD : D.length ≤ 1000 := by rw [HD.out]; exact h1.sane.late
  have hmk : ∀ q, q = b ∨ q = b' → ∀ u, Below w.heap.size w u → Calls Tryd.prog 38 #[.pointer (some ⟨q, 0, none⟩)] u fun e w' => e = .returned (.int .i64 m) ∧ u = w' := by
    rintro q (rfl | rfl) u hu
    · rw [HM.out]; exact xmark_any _ X u (hx.below hu)
    · rw [hMY]; exact xmark_any _ Y u (hy.below hu)
  have hlg : ∀ q, q = b ∨ q = b' → ∀ u, Below w.heap.size w u → Calls Tryd.prog 16 #[.pointer (some ⟨q, 0, none⟩)] u fun e w' => ∃ (a : Option Addr) (c : Nat), e = .returned (.slice a L.length c) ∧ EvAt w' a L ∧ Below u.heap.size u w' := by
    rintro q (rfl | rfl) u hu
    · rw [HL.out]; exact (xlog_any _ X u (hx.below hu) h1.sane.log).mono fun e w' ⟨a, c, he, hr, hb⟩ => ⟨a, c, he, EvAt.of_owns hr, hb⟩
    · rw [hLY]; exact (xlog_any _ Y u (hy.below hu) h2.sane.log).mono fun e w' ⟨a, c, he, hr, hb⟩ => ⟨a, c, he, EvAt.of_owns hr, hb⟩
  have hlt : ∀ q, q = b ∨ q = b' → ∀ u, Below w.heap.size w u → Calls Tryd.prog 17 #[.pointer (some ⟨q, 0, none⟩)] u fun e w' => ∃ (a : Option Addr) (c : Nat), e = .returned (.slice a D.length c) ∧ EvAt w' a D ∧ Below u.heap.size u w' := by
    rintro q (rfl | rfl) u hu
    · rw [HD.out]; exact (xlate_any _ X u (hx.below hu) h1.sane.late).mono fun e w' ⟨a, c, he, hr, hb⟩ => ⟨a, c, he, EvAt.of_owns hr, hb⟩
    · rw [hDY]; exact (xlate_any _ Y u (hy.below hu) h2.sane.late).mono fun e w' ⟨a, c, he, hr, hb⟩ => ⟨a, c, he, EvAt.of_owns hr, hb⟩
  have HS : Hid (∀ (s : Int), ∃ T : Told, ∀ q, q = b ∨ q = b' → ∀ u, Below w.heap.size w u → Calls Tryd.prog 26 #[.pointer (some ⟨q, 0, none⟩), .int .i64 s] u fun e w' => e = .returned (.tuple #[.agg #[.bool T.inn, .bool T.idle, .int .i64 T.mark, .int .i64 T.n, .int .i64 T.last], .int .i64 T.err]) ∧ Below u.heap.size u w') := by
    intro s
    refine ⟨R.tell s, ?_⟩
    rintro q (rfl | rfl) u hu
    · have := xsource_any q X s h1.sane u (hx.below hu)
      rw [tell_same h1.sim s] at this
      exact this
    · have := xsource_any q Y s h2.sane u (hy.below hu)
      rw [tell_same h2.sim s] at this
      exact this
  clear HL HD HM hLY hDY hMY hx hy h1 h2
  have HB0 : Hid (Below w.heap.size w w) := Below.refl _ _
  go_enter Tryd.func21, Tryd.ntmps21
  go_upto_region 3 with (go_at_call 38; refine (hmk _ (by first | exact Or.inl rfl | exact Or.inr rfl) _ HB0.out).mono ?_; rintro e w' ⟨rfl, rfl⟩)
  clear hmk
  go_upto_region 4 with (first
    | (go_at_call 16; (have := hone1; clear this); refine (hlg _ (by first | exact Or.inl rfl | exact Or.inr rfl) _ hb1).mono ?_; rintro e w2 ⟨a2, c2, rfl, hev2, hb2⟩)
    | (go_at_call 16; refine (hlg _ (by first | exact Or.inl rfl | exact Or.inr rfl) _ HB0.out).mono ?_; rintro e w1 ⟨a1, c1, rfl, hev1, hb1⟩; have hone1 : True := trivial)
    | (go_at_call 39; refine (same_eq L a1 a2 c1 c2 w2 (hev1.below' hb2) hev2 (by omega)).mono ?_; rintro e w3 ⟨rfl, m3, rfl⟩))
  have HB3 : Hid (Below w.heap.size w (w2.drewN m3)) := bdrewN (hb1.trans (hb2.mono hb1.size)) m3
  generalize w2.drewN m3 = w3 at *
  clear hlg hev1 hev2 hb1 hb2 hone1
  go_upto_region 5 with (first
    | (go_at_call 17; (have := hone2; clear this); refine (hlt _ (by first | exact Or.inl rfl | exact Or.inr rfl) _ (HB3.out.trans (hb4.mono HB3.out.size))).mono ?_; rintro e w5 ⟨a5, c5, rfl, hev5, hb5⟩)
    | (go_at_call 17; refine (hlt _ (by first | exact Or.inl rfl | exact Or.inr rfl) _ HB3.out).mono ?_; rintro e w4 ⟨a4, c4, rfl, hev4, hb4⟩; have hone2 : True := trivial)
    | (go_at_call 39; refine (same_eq D a4 a5 c4 c5 w5 (hev4.below' hb5) hev5 (by omega)).mono ?_; rintro e w6 ⟨rfl, m6, rfl⟩))
  have HB6 : Hid (Below w.heap.size w (w5.drewN m6)) := bdrewN ((HB3.out.trans (hb4.mono HB3.out.size)).trans (hb5.mono (HB3.out.trans (hb4.mono HB3.out.size)).size)) m6
  generalize w5.drewN m6 = w6 at *
  clear hlt hev4 hev5 hb4 hb5 hone2 HB3
  go_wp2
  go_loopw [11] (fun sv wr => ∃ (s : Nat), s ≤ n ∧ sv = .int .i64 s ∧ Below w.heap.size w wr) (fun sv _ => n - (intOf sv).toNat)
  case atStart => exact ⟨0, Nat.zero_le _, rfl, HB6.out⟩
  case round =>
    obtain ⟨s, hsn, rfl, hB⟩ := hrel
    have HB : Hid (Below w.heap.size w wr) := hB
    clear hB HB6
    by_cases hlt : s < n
    · have hlt' : (s : Int) < (n : Int) := by omega
      obtain ⟨T, hso⟩ := HS.out s
      go_upto_region 11 with (go_at_call 26; refine (hso _ (by first | exact Or.inl rfl | exact Or.inr rfl) _ HB.out).mono ?_; rintro e w7 ⟨rfl, hb7⟩)
      have HB7 : Hid (Below w.heap.size w w7) := HB.out.trans (hb7.mono HB.out.size)
      clear hb7
      obtain ⟨w8, HW8⟩ := hex (w7.alloc (.cells #[.bool T.inn, .bool T.idle, .int .i64 T.mark, .int .i64 T.n, .int .i64 T.last] 67))
      obtain ⟨sb, HSb⟩ := hex w7.heap.size
      have HB8 : Hid (Below w.heap.size w w8) := by show Below _ _ _; rw [HW8.out]; exact HB7.out.alloc HB7.out.size _
      have HK8 : Hid (Blk w8 sb 67 [.bool T.inn, .bool T.idle, .int .i64 T.mark, .int .i64 T.n, .int .i64 T.last]) := by show Blk _ _ _ _; rw [HW8.out, HSb.out]; exact blk_alloc _ _ _
      rw [← HW8.out, ← HSb.out]
      clear HW8 HSb
      go_upto_region 12 with (go_at_call 26; refine (hso _ (by first | exact Or.inl rfl | exact Or.inr rfl) _ HB8.out).mono ?_; rintro e w9 ⟨rfl, hb9⟩)
      have HB9 : Hid (Below w.heap.size w w9) := HB8.out.trans (hb9.mono HB8.out.size)
      have HK9 : Hid (Blk w9 sb 67 [.bool T.inn, .bool T.idle, .int .i64 T.mark, .int .i64 T.n, .int .i64 T.last]) := HK8.out.below hb9 HK8.out.lt
      clear hb9
      have hsb : sb < w9.heap.size := HK9.out.lt
      have k0 := HK9.out.cell 0
      have k1 := HK9.out.cell 1
      have k2 := HK9.out.cell 2
      have k3 := HK9.out.cell 3
      have k4 := HK9.out.cell 4
      simp only [List.getElem?_cons_zero, List.getElem?_cons_succ] at k0 k1 k2 k3 k4
      have hc9 : ∀ (o : Obj) (x : Nat), (w9.alloc o).cell? ⟨sb, x, none⟩ = w9.cell? ⟨sb, x, none⟩ := fun o x => ((Below.refl _ w9).alloc (Nat.le_refl _) o).cell (p := ⟨sb, x, none⟩) hsb
      go_wp2
      go_roundw
      case rel => exact ⟨s + 1, by omega, by go_num, HB9.out.alloc HB9.out.size _⟩
      case measure => simp [intOf]; omega
    · have hnl : ¬ (s : Int) < (n : Int) := by omega
      go_wp2
      go_ret
      exact ⟨rfl, HB.out⟩
end Go.Proofs.YtghcololkgeoeabDoor
