import Derived.Test.YtghcololkgeoeaaDoorPartK7
namespace Go.Proofs.YtghcololkgeoeaaDoor
open Go.RowKit
set_option linter.unusedVariables false
set_option linter.unusedSimpArgs false
attribute [local go_sem ↓] Go.wp_at_zero Go.wp_at_succ

/-! ### the ledger in memory -/
structure LG where
  all : List Ev
  aa : Option Addr
  ac : Nat
  aside : List Ev
  da : Option Addr
  dc : Nat
def LG.fp (G : LG) (gb : Nat) : List (Option Nat) := [some gb, bk G.aa, bk G.da]
structure MemL (w : World) (gb : Nat) (G : LG) : Prop where
  blk : Blk w gb 50 [.slice G.aa G.all.length G.ac, .slice G.da G.aside.length G.dc]
  ra : Row w 37 5 G.aa G.all.length G.ac (evs G.all)
  rd : Row w 37 5 G.da G.aside.length G.dc (evs G.aside)
  dis : PD (G.fp gb)
theorem MemL.fp_lt {w : World} {gb : Nat} {G : LG} (h : MemL w gb G) : ∀ k, some k ∈ G.fp gb → k < w.heap.size := by
  intro k hk
  simp only [LG.fp, List.mem_cons, List.not_mem_nil, or_false, Option.some.injEq] at hk
  rcases hk with rfl | e | e
  · exact h.blk.lt
  · exact h.ra.lt e.symm
  · exact h.rd.lt e.symm
theorem MemL.kept {S : Nat → Prop} {w w' : World} {gb : Nat} {G : LG} (h : MemL w gb G) (hk : Kept S w w') (hn : ∀ k, some k ∈ G.fp gb → ¬ S k) : MemL w' gb G :=
  ⟨h.blk.kept hk (hn gb (by simp [LG.fp])), h.ra.kept hk (fun k e => hn k (by simp [LG.fp, e])), h.rd.kept hk (fun k e => hn k (by simp [LG.fp, e])), h.dis⟩
structure EvoL (w : World) (gb : Nat) (G : LG) (w' : World) (G' : LG) : Prop where
  mem : MemL w' gb G'
  kept : Kept (fun k => some k ∈ G.fp gb) w w'
  grow : ∀ k, some k ∈ G'.fp gb → some k ∈ G.fp gb ∨ w.heap.size ≤ k
theorem EvoL.below {w w' : World} {gb : Nat} {G : LG} (h : MemL w gb G) (hb : Below w.heap.size w w') : EvoL w gb G w' G := ⟨h.kept (below_kept hb (fun _ => False)) (fun _ _ e => e), below_kept hb _, fun k hk => Or.inl hk⟩
theorem MemL.app {w w0 w1 : World} {gb : Nat} {G : LG} {j g : Nat} {a : Option Addr} {n c : Nat} (h : MemL w gb G) (hb0 : Below w.heap.size w w0) (hj : (G.fp gb)[j]? = some (bk a)) (hj0 : j ≠ 0)
    (hg : w0.grownBy w1 (Value.slice a n c).ownBlock) (hat : (Value.slice a n c).ownBlock = some g ∨ g = w.heap.size + 1) :
    g ≠ gb ∧ Kept (fun k => bk a = some k) w w1 ∧ Kept (fun k => some k ∈ G.fp gb) w w1 ∧ PD ((G.fp gb).set j (some g)) ∧ (∀ k, some k ∈ (G.fp gb).set j (some g) → some k ∈ G.fp gb ∨ w.heap.size ≤ k) ∧ bk a ≠ some gb := by
  rw [bk_own] at hg
  have hbl : gb < w.heap.size := h.blk.lt
  have K1 : Kept (fun k => bk a = some k) w w1 := ((Kept.refl (fun k => bk a = some k) w).below hb0).grown hg (fun k _ e => e)
  have hne : bk a ≠ some gb := h.dis.ne (i := 0) (j := j) rfl hj (Ne.symm hj0)
  refine ⟨?_, K1, K1.mono (fun k _ e => List.mem_of_getElem? (hj.trans (by rw [e]))), ?_, ?_, hne⟩
  · intro e
    rcases hat with hat | hat
    · rw [bk_own] at hat; exact hne (by rw [hat, e])
    · omega
  · refine h.dis.set (H := w.heap.size) h.fp_lt ?_
    rcases app_at hat with e | ⟨k, e, hk⟩
    · exact Or.inl (by rw [hj, e])
    · exact Or.inr ⟨k, e, by omega⟩
  · intro k hk
    rcases List.mem_or_eq_of_mem_set hk with e | e
    · exact Or.inl e
    · simp only [Option.some.injEq] at e
      subst e
      rcases app_at hat with e | ⟨m, e, hm⟩
      · exact Or.inl (List.mem_of_getElem? (by rw [hj, e]))
      · simp only [Option.some.injEq] at e; right; omega
theorem MemL.appAllE {w w1 : World} {gb : Nat} {G : LG} {g cap : Nat} {x : Ev} {w0 : World} (h : MemL w gb G) (hb0 : Below w.heap.size w w0)
    (hown : w1.ownsRow 0 37 5 (.slice (some ⟨g, 0, none⟩) (G.all.length + 1) cap) (G.all.length + 1) (evs G.all ++ x.vals))
    (hg : w0.grownBy w1 (Value.slice G.aa G.all.length G.ac).ownBlock) (hat : (Value.slice G.aa G.all.length G.ac).ownBlock = some g ∨ g = w.heap.size + 1) :
    Blk w1 gb 50 [.slice G.aa G.all.length G.ac, .slice G.da G.aside.length G.dc] ∧ EvoL w gb G (w1.setCell ⟨gb, 0, none⟩ (.slice (some ⟨g, 0, none⟩) (G.all.length + 1) cap)) { G with all := G.all ++ [x], aa := some ⟨g, 0, none⟩, ac := cap } := by
  obtain ⟨hne, K1, K2, hpd, hgr, hgb⟩ := h.app (j := 1) hb0 rfl (by omega) hg hat
  have b1 : Blk w1 gb 50 [.slice G.aa G.all.length G.ac, .slice G.da G.aside.length G.dc] := h.blk.kept K1 hgb
  have hd : ∀ k, bk G.da = some k → bk G.aa ≠ some k := fun k e f => absurd (h.dis 1 2 k (by simp [LG.fp, f]) (by simp [LG.fp, e])) (by omega)
  have hdg : bk G.da ≠ some gb := h.dis.ne (i := 0) (j := 2) rfl rfl (by omega)
  refine ⟨b1, ⟨?_, ?_, ?_, hpd⟩, K2.setCell (fun _ => by simp [LG.fp]) _, hgr⟩
  · have := b1.set 0 (.slice (some ⟨g, 0, none⟩) (G.all.length + 1) cap)
    simpa using this
  · simp only [evs_snoc, List.length_append, List.length_cons, List.length_nil]
    exact (Row.other (a := some ⟨g, 0, none⟩) hown (by simp [bk]; exact hne) _)
  · exact Row.other (h.rd.kept K1 hd) hdg _
theorem MemL.appAsideE {w w1 : World} {gb : Nat} {G : LG} {g cap : Nat} {x : Ev} {w0 : World} (h : MemL w gb G) (hb0 : Below w.heap.size w w0)
    (hown : w1.ownsRow 0 37 5 (.slice (some ⟨g, 0, none⟩) (G.aside.length + 1) cap) (G.aside.length + 1) (evs G.aside ++ x.vals))
    (hg : w0.grownBy w1 (Value.slice G.da G.aside.length G.dc).ownBlock) (hat : (Value.slice G.da G.aside.length G.dc).ownBlock = some g ∨ g = w.heap.size + 1) :
    Blk w1 gb 50 [.slice G.aa G.all.length G.ac, .slice G.da G.aside.length G.dc] ∧ EvoL w gb G (w1.setCell ⟨gb, 1, none⟩ (.slice (some ⟨g, 0, none⟩) (G.aside.length + 1) cap)) { G with aside := G.aside ++ [x], da := some ⟨g, 0, none⟩, dc := cap } := by
  obtain ⟨hne, K1, K2, hpd, hgr, hgb⟩ := h.app (j := 2) hb0 rfl (by omega) hg hat
  have b1 : Blk w1 gb 50 [.slice G.aa G.all.length G.ac, .slice G.da G.aside.length G.dc] := h.blk.kept K1 hgb
  have hd : ∀ k, bk G.aa = some k → bk G.da ≠ some k := fun k e f => absurd (h.dis 1 2 k (by simp [LG.fp, e]) (by simp [LG.fp, f])) (by omega)
  have hdg : bk G.aa ≠ some gb := h.dis.ne (i := 0) (j := 1) rfl rfl (by omega)
  refine ⟨b1, ⟨?_, ?_, ?_, hpd⟩, K2.setCell (fun _ => by simp [LG.fp]) _, hgr⟩
  · have := b1.set 1 (.slice (some ⟨g, 0, none⟩) (G.aside.length + 1) cap)
    simpa using this
  · exact Row.other (h.ra.kept K1 hd) hdg _
  · simp only [evs_snoc, List.length_append, List.length_cons, List.length_nil]
    exact (Row.other (a := some ⟨g, 0, none⟩) hown (by simp [bk]; exact hne) _)

/-! ### engine and ledger in one world -/
structure OneL (w wr : World) (b gb : Nat) (bs : List (Nat × TypeId × List Value)) (X : Eng) (G : LG) : Prop where
  mx : MemX wr b X
  ml : MemL wr gb G
  dis : ∀ k, some k ∈ X.fp b → some k ∉ G.fp gb
  bel : Below w.heap.size w wr
  fx : ∀ k, some k ∈ X.fp b → w.heap.size ≤ k
  fg : ∀ k, some k ∈ G.fp gb → w.heap.size ≤ k
  bx : ∀ x ∈ bs, Blk wr x.1 x.2.1 x.2.2
  nx : ∀ x ∈ bs, some x.1 ∉ X.fp b
  ng : ∀ x ∈ bs, some x.1 ∉ G.fp gb
theorem OneL.evoX {w wr w' : World} {b gb : Nat} {bs : List (Nat × TypeId × List Value)} {X X' : Eng} {G : LG} (h : OneL w wr b gb bs X G) (e : EvoX wr b X w' X') : OneL w w' b gb bs X' G := by
  refine ⟨e.mem, h.ml.kept e.kept (fun k hk hX => h.dis k hX hk), ?_, kept_toBelow h.bel e.kept h.fx, ?_, h.fg, fun x hx => (h.bx x hx).kept e.kept (h.nx x hx), ?_, h.ng⟩
  · intro k hk hy
    rcases e.grow k hk with f | f
    · exact h.dis k f hy
    · have := h.ml.fp_lt k hy; omega
  · intro k hk
    rcases e.grow k hk with f | f
    · exact h.fx k f
    · exact Nat.le_trans h.bel.size f
  · intro x hx hk
    rcases e.grow x.1 hk with f | f
    · exact h.nx x hx f
    · have := (h.bx x hx).lt; omega
theorem OneL.evoL {w wr w' : World} {b gb : Nat} {bs : List (Nat × TypeId × List Value)} {X : Eng} {G G' : LG} (h : OneL w wr b gb bs X G) (e : EvoL wr gb G w' G') : OneL w w' b gb bs X G' := by
  refine ⟨h.mx.kept e.kept (fun k hk hX => h.dis k hk hX), e.mem, ?_, kept_toBelow h.bel e.kept h.fg, h.fx, ?_, fun x hx => (h.bx x hx).kept e.kept (h.ng x hx), h.nx, ?_⟩
  · intro k hk hy
    rcases e.grow k hy with f | f
    · exact h.dis k hk f
    · have := h.mx.fp_lt k hk; omega
  · intro k hk
    rcases e.grow k hk with f | f
    · exact h.fg k f
    · exact Nat.le_trans h.bel.size f
  · intro x hx hk
    rcases e.grow x.1 hk with f | f
    · exact h.ng x hx f
    · have := (h.bx x hx).lt; omega
theorem OneL.below {w wr w' : World} {b gb : Nat} {bs : List (Nat × TypeId × List Value)} {X : Eng} {G : LG} (h : OneL w wr b gb bs X G) (hb : Below wr.heap.size wr w') : OneL w w' b gb bs X G := h.evoX (EvoX.below h.mx hb)
theorem OneL.more {w wr : World} {b gb : Nat} {bs : List (Nat × TypeId × List Value)} {X : Eng} {G : LG} (h : OneL w wr b gb bs X G) (t : TypeId) (l : List Value) : OneL w (wr.alloc (.cells l.toArray t)) b gb ((wr.heap.size, t, l) :: bs) X G := by
  have h' := h.below ((Below.refl _ wr).alloc (Nat.le_refl _) (.cells l.toArray t))
  refine ⟨h'.mx, h'.ml, h'.dis, h'.bel, h'.fx, h'.fg, ?_, ?_, ?_⟩
  · intro x hx
    rcases List.mem_cons.1 hx with rfl | hx
    · exact blk_alloc _ _ _
    · exact h'.bx x hx
  · intro x hx
    rcases List.mem_cons.1 hx with rfl | hx
    · intro e; have := h.mx.fp_lt _ e; exact Nat.lt_irrefl _ this
    · exact h'.nx x hx
  · intro x hx
    rcases List.mem_cons.1 hx with rfl | hx
    · intro e; have := h.ml.fp_lt _ e; exact Nat.lt_irrefl _ this
    · exact h'.ng x hx
theorem OneL.less {w wr : World} {b gb : Nat} {bs bs' : List (Nat × TypeId × List Value)} {X : Eng} {G : LG} (h : OneL w wr b gb bs X G) (hs : ∀ x ∈ bs', x ∈ bs) : OneL w wr b gb bs' X G :=
  ⟨h.mx, h.ml, h.dis, h.bel, h.fx, h.fg, fun x hx => h.bx x (hs x hx), fun x hx => h.nx x (hs x hx), fun x hx => h.ng x (hs x hx)⟩
theorem OneL.set {w wr : World} {b gb eb : Nat} {t : TypeId} {l : List Value} {bs : List (Nat × TypeId × List Value)} {X : Eng} {G : LG} (h : OneL w wr b gb ((eb, t, l) :: bs) X G) (o : Nat) (v : Value) (hw : w.heap.size ≤ eb) (hn : ∀ x ∈ bs, x.1 ≠ eb) : OneL w (wr.setCell ⟨eb, o, none⟩ v) b gb ((eb, t, l.set o v) :: bs) X G := by
  have K : Kept (fun k => k = eb) wr (wr.setCell ⟨eb, o, none⟩ v) := (Kept.refl (fun k => k = eb) wr).setCell (fun _ => rfl) v
  have nX := h.nx (eb, t, l) (by simp)
  have nG := h.ng (eb, t, l) (by simp)
  refine ⟨h.mx.kept K (fun k hk e => nX (e ▸ hk)), h.ml.kept K (fun k hk e => nG (e ▸ hk)), h.dis, kept_toBelow h.bel K (fun i e => by rw [e]; exact hw), h.fx, h.fg, ?_, ?_, ?_⟩
  · intro x hx
    rcases List.mem_cons.1 hx with rfl | hx
    · exact (h.bx (eb, t, l) (by simp)).set o v
    · exact (h.bx x (by simp [hx])).kept K (hn x hx)
  · intro x hx
    rcases List.mem_cons.1 hx with rfl | hx
    · exact nX
    · exact h.nx x (by simp [hx])
  · intro x hx
    rcases List.mem_cons.1 hx with rfl | hx
    · exact nG
    · exact h.ng x (by simp [hx])

/-! ### what the document's engine keeps -/
theorem settled_keep (R : Ref) : R.settled.all = R.all ∧ R.settled.aside = R.aside ∧ R.settled.srcs = R.srcs ∧ R.settled.c = R.c := by
  unfold Ref.settled
  split
  · split <;> exact ⟨rfl, rfl, rfl, rfl⟩
  · exact ⟨rfl, rfl, rfl, rfl⟩
/-- when nobody is active, nothing waits -/
def Stl (R : Ref) : Prop := (∀ i, R.active i = false) → R.wait (-1) = []
theorem active_srcs {R S : Ref} (h : R.srcs = S.srcs) (hc : R.c = S.c) (i : Nat) : R.active i = S.active i := by unfold Ref.active Ref.isIdle; rw [h, hc]
theorem stl_settled (R : Ref) : Stl R.settled := by
  intro ha
  obtain ⟨k1, k2, k3, k4⟩ := settled_keep R
  have ha' : ∀ i, R.active i = false := fun i => by rw [← active_srcs k3 k4 i]; exact ha i
  have hl : R.leastOf R.srcs.length = none := by
    cases h : R.leastOf R.srcs.length with
    | none => rfl
    | some m =>
      obtain ⟨i, _, hi, _⟩ := leastOf_mem _ _ h
      rw [ha' i] at hi; cases hi
  have haim : R.aim = topOf (R.wait (-1)) := by unfold Ref.aim; rw [hl]; simp
  rw [show R.settled.wait (-1) = R.all.filter (waits R.settled.merged (-1)) by unfold Ref.wait; rw [k1]]
  rw [List.filter_eq_nil_iff]
  intro e he hw
  have hw1 : R.settled.merged ≤ e.ts := by simp [waits] at hw; exact hw
  have hmem : R.merged ≤ e.ts → e ∈ R.wait (-1) := fun h => by
    unfold Ref.wait
    rw [List.mem_filter]
    exact ⟨he, by simp [waits]; exact h⟩
  unfold Ref.settled at hw1
  rw [haim] at hw1
  cases ht : topOf (R.wait (-1)) with
  | none =>
    rw [ht] at hw1
    have h0 := (topOf_none _).1 ht
    have := hmem hw1
    rw [h0] at this
    cases this
  | some m =>
    obtain ⟨⟨e0, h0, h1⟩, h2⟩ := topOf_spec _ m ht
    rw [ht] at hw1
    simp only at hw1
    split at hw1
    · have := h2 e (hmem (by simp only at hw1; omega))
      simp only at hw1
      omega
    · have hw0 : waits R.merged (-1) e0 = true := (List.mem_filter.1 h0).2
      simp [waits] at hw0
      omega
structure Keeps (R R' : Ref) : Prop where
  all : R'.all = R.all
  aside : R'.aside = R.aside
  stl : Stl R → Stl R'
theorem Keeps.refl (R : Ref) : Keeps R R := ⟨rfl, rfl, id⟩
theorem keeps_settled {R S : Ref} (h1 : S.all = R.all) (h2 : S.aside = R.aside) : Keeps R S.settled := ⟨(settled_keep S).1.trans h1, (settled_keep S).2.1.trans h2, fun _ => stl_settled S⟩
theorem joinR_keeps {R R' : Ref} {A z : Int} (h : JoinsR R A z R') : Keeps R R' := by
  rcases h with ⟨_, _, rfl⟩ | ⟨i, p, _, _, ⟨_, _, rfl⟩ | ⟨_, _, r', hi, _, rfl⟩⟩
  · exact Keeps.refl _
  · exact Keeps.refl _
  · exact keeps_settled rfl rfl
theorem leaveR_keeps {R R' : Ref} {A z : Int} (h : LeavesR R A z R') : Keeps R R' := by
  rcases h with ⟨_, _, rfl⟩ | ⟨i, p, _, _, ⟨_, _, rfl⟩ | ⟨_, _, hi, rfl⟩⟩
  · exact Keeps.refl _
  · exact Keeps.refl _
  · exact keeps_settled rfl rfl
theorem punctsR_keeps {R R' : Ref} {A ts z : Int} (h : PunctsR R A ts z R') : Keeps R R' := by
  rcases h with ⟨_, _, rfl⟩ | ⟨i, p, _, _, ⟨_, _, rfl⟩ | ⟨_, _, _, rfl⟩ | ⟨_, _, _, hi, r', _, rfl⟩⟩
  · exact Keeps.refl _
  · exact Keeps.refl _
  · exact Keeps.refl _
  · exact keeps_settled rfl rfl
theorem tickR_keeps {R R' : Ref} {n z : Int} (h : TicksR R n z R') : Keeps R R' := by
  rcases h with ⟨_, _, rfl⟩ | ⟨_, _, rfl⟩
  · exact Keeps.refl _
  · exact keeps_settled rfl rfl
/-- what Push makes of an event, as the ledger writes it down -/
theorem pushesR_led {R R' : Ref} {A z : Int} {E : Ev} (h : PushesR R A E z R') : (z ≠ 0 ∧ R' = R) ∨ (z = 0 ∧ Stl R' ∧ ∃ (i : Nat) (r : RSrc), A = i ∧ R.srcs[i]? = some r ∧ r.inn = true ∧ greatest r.seqs (-1) < E.seq ∧
    ((R.stays i E = true ∧ R'.all = R.all ++ [R.taken i E] ∧ R'.aside = R.aside) ∨ (R.stays i E = false ∧ R.c.policy = 1 ∧ R'.all = R.all ∧ R'.aside = R.aside ++ [R.taken i E]) ∨ (R.stays i E = false ∧ R.c.policy ≠ 1 ∧ R'.all = R.all ∧ R'.aside = R.aside))) := by
  rcases h with ⟨_, rfl, rfl⟩ | ⟨i, r, rfl, hr, h⟩
  · exact Or.inl ⟨by decide, rfl⟩
  · rcases h with ⟨h, rfl, rfl⟩ | ⟨_, _, rfl, rfl⟩ | ⟨hw, hf, rfl, hi, ma, mc, qa, qc, R5, hP, rfl⟩
    · exact Or.inl ⟨h, rfl⟩
    · exact Or.inl ⟨by decide, rfl⟩
    · right
      refine ⟨rfl, stl_settled _, i, r, rfl, hr, ?_⟩
      obtain ⟨k1, k2, _, _⟩ := settled_keep R5
      unfold wrongOf at hw
      have hin : r.inn = true := by
        cases e : r.inn with
        | true => rfl
        | false => rw [if_pos e] at hw; cases hw
      rw [if_neg (by simp [hin])] at hw
      have hsq : greatest r.seqs (-1) < E.seq := by
        by_cases h : greatest r.seqs (-1) < E.seq
        · exact h
        · split at hw
          · cases hw
          · split at hw
            · cases hw
            · rw [if_pos (by omega)] at hw; cases hw
      refine ⟨hin, hsq, ?_⟩
      rw [k1, k2]
      rcases hP with ⟨h1, aa, ac, rfl⟩ | ⟨h1, h2, da, dc, rfl⟩ | ⟨h1, h2, rfl⟩
      · exact Or.inl ⟨h1, rfl, rfl⟩
      · exact Or.inr (Or.inl ⟨h1, h2, rfl, rfl⟩)
      · exact Or.inr (Or.inr ⟨h1, h2, rfl, rfl⟩)
/-- the engine and its ledger -/
structure Kp (n : Nat) (c : Cfg) (X : Eng) (G : LG) (R : Ref) : Prop where
  lk : ∃ N, Like N X R
  all : G.all = R.all
  aside : G.aside = R.aside
  stl : Stl R
  n : X.srcs.length = n
  c : R.c = c
theorem like_lengths {N : Nat} {X : Eng} {R : Ref} (h : Like N X R) : X.log.length + X.wait.length = R.all.length := by
  have := h.sim.perm.length_eq
  simpa using this
theorem like_n {N : Nat} {X : Eng} {R : Ref} (h : Like N X R) : X.srcs.length = R.srcs.length := h.sim.n
end Go.Proofs.YtghcololkgeoeaaDoor
