import Derived.Test.YthiabdpgieppoaaGreatSimC
namespace Go.Proofs.YthiabdpgieppoaaGreat
open Go.RowKit
set_option linter.unusedVariables false
set_option linter.unusedSimpArgs false

def PSrc.vals (p : PSrc) : List Value := [.bool p.inn, .bool p.idle, .int .i64 p.mark, .int .i64 p.sil, .int .i64 p.last, .slice p.la p.line.length p.lc]
theorem PSrc.len (p : PSrc) : p.vals.length = 6 := rfl
def bytesV (l : List UInt8) : List Value := l.map (fun x => Value.int .u8 x.toNat)
def Eng.vals (X : Eng) : List Value := X.c.vals ++ [.slice (some ⟨X.sg, 0, none⟩) X.srcs.length X.sc, .int .i64 X.merged, .slice X.wa X.wait.length X.wc, .slice X.ga X.log.length X.gc, .slice X.da X.late.length X.dc]
/-- its blocks -/
def Eng.fp (X : Eng) (b : Nat) : List (Option Nat) := [some b, some X.sg, bk X.wa, bk X.ga, bk X.da] ++ X.srcs.map (fun p => bk p.la)

/-- The program's engine lies at block b. -/
structure MemX (w : World) (b : Nat) (X : Eng) : Prop where
  eng : Blk w b 80 X.vals
  src : Row w 83 6 (some ⟨X.sg, 0, none⟩) X.srcs.length X.sc (X.srcs.flatMap PSrc.vals)
  wt : Row w 32 5 X.wa X.wait.length X.wc (evs X.wait)
  lg : Row w 32 5 X.ga X.log.length X.gc (evs X.log)
  lt : Row w 32 5 X.da X.late.length X.dc (evs X.late)
  ln : ∀ (i : Nat) p, X.srcs[i]? = some p → Row w 5 1 p.la p.line.length p.lc (bytesV p.line)
  dis : PD (X.fp b)

theorem MemX.srcCell {w : World} {b : Nat} {X : Eng} (h : MemX w b X) (i o : Nat) (hi : i < X.srcs.length) (ho : o < 6) : w.cell? ⟨X.sg, i * 6 + o, none⟩ = X.srcs[i].vals[o]? := by
  obtain ⟨g, hg, _, _, hc, _⟩ := h.src.form (by omega)
  simp only [Option.some.injEq, Addr.mk.injEq, and_true] at hg
  rw [hg, hc _ (by omega), flatMap_get _ 6 PSrc.len _ i o ho hi]
theorem MemX.srcFrozen {w : World} {b : Nat} {X : Eng} (h : MemX w b X) (o : Nat) (hi : 0 < X.srcs.length) : w.frozen? ⟨X.sg, o, none⟩ = false := by
  obtain ⟨g, hg, _, _, _, hf⟩ := h.src.form hi
  simp only [Option.some.injEq, Addr.mk.injEq, and_true] at hg
  rw [hg]; exact hf o
theorem xfp_src {X : Eng} {b i : Nat} (hi : i < X.srcs.length) : (X.fp b)[5 + i]? = some (bk X.srcs[i].la) := by
  unfold Eng.fp
  rw [List.getElem?_append_right (by simp), show 5 + i - [some b, some X.sg, bk X.wa, bk X.ga, bk X.da].length = i by simp]
  simp [hi]
theorem xfp_mem {X : Eng} {b k : Nat} (h : some k ∈ X.fp b) : k = b ∨ k = X.sg ∨ bk X.wa = some k ∨ bk X.ga = some k ∨ bk X.da = some k ∨ ∃ i, ∃ hi : i < X.srcs.length, bk X.srcs[i].la = some k := by
  unfold Eng.fp at h
  simp only [List.cons_append, List.nil_append, List.mem_cons, Option.some.injEq, List.mem_map] at h
  rcases h with h | h | h | h | h | ⟨r, hr, h⟩
  · exact Or.inl h
  · exact Or.inr (Or.inl h)
  · exact Or.inr (Or.inr (Or.inl h.symm))
  · exact Or.inr (Or.inr (Or.inr (Or.inl h.symm)))
  · exact Or.inr (Or.inr (Or.inr (Or.inr (Or.inl h.symm))))
  · obtain ⟨i, hi, rfl⟩ := List.mem_iff_getElem.1 hr
    exact Or.inr (Or.inr (Or.inr (Or.inr (Or.inr ⟨i, hi, h⟩))))
theorem MemX.fp_lt {w : World} {b : Nat} {X : Eng} (h : MemX w b X) : ∀ k, some k ∈ X.fp b → k < w.heap.size := by
  intro k hk
  rcases xfp_mem hk with e | e | e | e | e | ⟨i, hi, e⟩
  · rw [e]; exact h.eng.lt
  · subst e; exact h.src.lt (a := some ⟨X.sg, 0, none⟩) rfl
  · exact h.wt.lt e
  · exact h.lg.lt e
  · exact h.lt.lt e
  · exact (h.ln i _ (List.getElem?_eq_getElem hi)).lt e
theorem MemX.kept {S : Nat → Prop} {w w' : World} {b : Nat} {X : Eng} (h : MemX w b X) (hk : Kept S w w') (hn : ∀ k, some k ∈ X.fp b → ¬ S k) : MemX w' b X := by
  refine ⟨h.eng.kept hk (hn b (by simp [Eng.fp])), h.src.kept hk (fun k e => hn k (by simp [bk] at e; simp [Eng.fp, e])), h.wt.kept hk (fun k e => hn k (by simp [Eng.fp, e])), h.lg.kept hk (fun k e => hn k (by simp [Eng.fp, e])), h.lt.kept hk (fun k e => hn k (by simp [Eng.fp, e])), ?_, h.dis⟩
  intro i r hr
  refine (h.ln i r hr).kept hk (fun k e => hn k ?_)
  obtain ⟨hi, rfl⟩ := List.getElem?_eq_some_iff.1 hr
  exact List.mem_of_getElem? ((xfp_src (b := b) hi).trans (by rw [e]))
theorem MemX.drew {w : World} {b : Nat} {X : Eng} (h : MemX w b X) : MemX w.drew b X := h.kept ((Kept.refl (fun _ => False) w).drew) (fun _ _ e => e)
theorem MemX.drewN {w : World} {b : Nat} {X : Eng} (h : MemX w b X) (n : Nat) : MemX (w.drewN n) b X := h.kept ((Kept.refl (fun _ => False) w).drewN n) (fun _ _ e => e)
theorem MemX.alloc {w : World} {b : Nat} {X : Eng} (h : MemX w b X) (o : Obj) : MemX (w.alloc o) b X := h.kept ((Kept.refl (fun _ => False) w).alloc o) (fun _ _ e => e)
theorem MemX.below {w w' : World} {b : Nat} {X : Eng} (h : MemX w b X) (hb : Below w.heap.size w w') : MemX w' b X := h.kept (below_kept hb (fun _ => False)) (fun _ _ e => e)
theorem MemX.cells {w : World} {b : Nat} {X : Eng} (h : MemX w b X) : w.cell? ⟨b, 1, none⟩ = some (.int .i64 X.c.slack) ∧ w.cell? ⟨b, 2, none⟩ = some (.int .i64 X.c.policy) ∧ w.cell? ⟨b, 3, none⟩ = some (.int .i64 X.c.room) ∧ w.cell? ⟨b, 4, none⟩ = some (.int .i64 X.c.idle) ∧
    w.cell? ⟨b, 6, none⟩ = some (.slice (some ⟨X.sg, 0, none⟩) X.srcs.length X.sc) ∧ w.cell? ⟨b, 7, none⟩ = some (.int .i64 X.merged) ∧ w.cell? ⟨b, 8, none⟩ = some (.slice X.wa X.wait.length X.wc) ∧ w.cell? ⟨b, 9, none⟩ = some (.slice X.ga X.log.length X.gc) ∧ w.cell? ⟨b, 10, none⟩ = some (.slice X.da X.late.length X.dc) :=
  ⟨h.eng.cell 1, h.eng.cell 2, h.eng.cell 3, h.eng.cell 4, h.eng.cell 6, h.eng.cell 7, h.eng.cell 8, h.eng.cell 9, h.eng.cell 10⟩

/-- What a change of the rows with the numbers j1 and j2 leaves. -/
structure ButX (w' : World) (b : Nat) (X : Eng) (j1 j2 : Nat) : Prop where
  eng : 0 ≠ j1 → 0 ≠ j2 → Blk w' b 80 X.vals
  src : 1 ≠ j1 → 1 ≠ j2 → Row w' 83 6 (some ⟨X.sg, 0, none⟩) X.srcs.length X.sc (X.srcs.flatMap PSrc.vals)
  wt : 2 ≠ j1 → 2 ≠ j2 → Row w' 32 5 X.wa X.wait.length X.wc (evs X.wait)
  lg : 3 ≠ j1 → 3 ≠ j2 → Row w' 32 5 X.ga X.log.length X.gc (evs X.log)
  lt : 4 ≠ j1 → 4 ≠ j2 → Row w' 32 5 X.da X.late.length X.dc (evs X.late)
  ln : ∀ (i : Nat) p, X.srcs[i]? = some p → 5 + i ≠ j1 → 5 + i ≠ j2 → Row w' 5 1 p.la p.line.length p.lc (bytesV p.line)
theorem MemX.but {S : Nat → Prop} {w w' : World} {b : Nat} {X : Eng} {j1 j2 : Nat} {o1 o2 : Option Nat} (h : MemX w b X) (K : Kept S w w') (h1 : (X.fp b)[j1]? = some o1) (h2 : (X.fp b)[j2]? = some o2) (hS : ∀ k, S k → o1 = some k ∨ o2 = some k) : ButX w' b X j1 j2 := by
  have n : ∀ i k, (X.fp b)[i]? = some (some k) → i ≠ j1 → i ≠ j2 → ¬ S k := fun i k hi n1 n2 hs => by
    rcases hS k hs with e | e
    · exact n1 (h.dis i j1 k hi (by rw [h1, e]))
    · exact n2 (h.dis i j2 k hi (by rw [h2, e]))
  refine ⟨fun a c => h.eng.kept K (n 0 b rfl a c), fun a c => h.src.kept K (fun k e => n 1 k (by rw [← e]; rfl) a c), fun a c => h.wt.kept K (fun k e => n 2 k (by rw [← e]; rfl) a c), fun a c => h.lg.kept K (fun k e => n 3 k (by rw [← e]; rfl) a c), fun a c => h.lt.kept K (fun k e => n 4 k (by rw [← e]; rfl) a c), ?_⟩
  intro i r hr a c
  obtain ⟨hi, rfl⟩ := List.getElem?_eq_some_iff.1 hr
  exact (h.ln i _ hr).kept K (fun k e => n _ k (by rw [xfp_src hi, e]) a c)
theorem xsrcs_set {X : Eng} {w' : World} {i : Nat} (r' : PSrc) (hi : i < X.srcs.length) (o : Nat) (ho : o < 6) (v : Value) (hv : r'.vals = X.srcs[i].vals.set o v)
    (h : Row w' 83 6 (some ⟨X.sg, 0, none⟩) X.srcs.length X.sc (X.srcs.flatMap PSrc.vals)) :
    Row (w'.setCell ⟨X.sg, i * 6 + o, none⟩ v) 83 6 (some ⟨X.sg, 0, none⟩) (X.srcs.set i r').length X.sc ((X.srcs.set i r').flatMap PSrc.vals) := by
  have := h.set (i * 6 + o) v
  rw [flatMap_set _ 6 PSrc.len _ i o ho hi v r' hv] at this
  rw [List.length_set]
  exact this
theorem xfp_set_src {X : Eng} {b i : Nat} (r' : PSrc) : ({ X with srcs := X.srcs.set i r' } : Eng).fp b = (X.fp b).set (5 + i) (bk r'.la) := by
  unfold Eng.fp
  simp only [List.map_set]
  rw [List.set_append_right _ _ (by simp)]
  simp [show 5 + i - 5 = i by omega]

/-- From one state to another: it lies there; only its blocks were written; its new blocks are new. -/
structure EvoX (w : World) (b : Nat) (X : Eng) (w' : World) (X' : Eng) : Prop where
  mem : MemX w' b X'
  kept : Kept (fun k => some k ∈ X.fp b) w w'
  grow : ∀ k, some k ∈ X'.fp b → some k ∈ X.fp b ∨ w.heap.size ≤ k
theorem EvoX.refl {w : World} {b : Nat} {X : Eng} (h : MemX w b X) : EvoX w b X w X := ⟨h, Kept.refl _ w, fun k hk => Or.inl hk⟩
theorem EvoX.trans {w w1 w2 : World} {b : Nat} {X X1 X2 : Eng} (h : EvoX w b X w1 X1) (g : EvoX w1 b X1 w2 X2) : EvoX w b X w2 X2 := by
  refine ⟨g.mem, h.kept.trans' g.kept (fun i hi e => ?_), fun k hk => ?_⟩
  · rcases h.grow i e with e | e
    · exact e
    · omega
  · rcases g.grow k hk with e | e
    · exact h.grow k e
    · have := h.kept.size; right; omega
theorem EvoX.below {w w' : World} {b : Nat} {X : Eng} (h : MemX w b X) (hb : Below w.heap.size w w') : EvoX w b X w' X := ⟨h.below hb, below_kept hb _, fun k hk => Or.inl hk⟩
theorem EvoX.drewE {w w' : World} {b : Nat} {X X' : Eng} (h : EvoX w b X w' X') : EvoX w b X w'.drew X' := ⟨h.mem.drew, h.kept.drew, h.grow⟩
theorem EvoX.drewNE {w w' : World} {b : Nat} {X X' : Eng} (h : EvoX w b X w' X') (n : Nat) : EvoX w b X (w'.drewN n) X' := ⟨h.mem.drewN n, h.kept.drewN n, h.grow⟩

/-- one cell of a source, but for its line -/
theorem MemX.setSrcE {w : World} {b : Nat} {X : Eng} {i : Nat} (h : MemX w b X) (r' : PSrc) (hi : i < X.srcs.length) (o : Nat) (ho : o < 6) (v : Value) (hv : r'.vals = X.srcs[i].vals.set o v)
    (hm : r'.line = X.srcs[i].line ∧ r'.la = X.srcs[i].la ∧ r'.lc = X.srcs[i].lc) :
    EvoX w b X (w.setCell ⟨X.sg, i * 6 + o, none⟩ v) { X with srcs := X.srcs.set i r' } := by
  have K : Kept (fun k => k = X.sg) w (w.setCell ⟨X.sg, i * 6 + o, none⟩ v) := (Kept.refl (fun k => k = X.sg) w).setCell (fun _ => rfl) _
  have B := h.but (j1 := 1) (j2 := 1) K rfl rfl (fun k e => Or.inl (by rw [e]))
  have hfp : ({ X with srcs := X.srcs.set i r' } : Eng).fp b = X.fp b := by
    rw [xfp_set_src r', hm.2.1, set_self (xfp_src hi)]
  refine ⟨⟨?_, xsrcs_set r' hi o ho v hv h.src, B.wt (by omega) (by omega), B.lg (by omega) (by omega), B.lt (by omega) (by omega), ?_, by rw [hfp]; exact h.dis⟩, K.mono (fun k _ e => by subst e; simp [Eng.fp]), fun k hk => Or.inl (by rw [hfp] at hk; exact hk)⟩
  · have := B.eng (by omega) (by omega)
    unfold Eng.vals at *
    simpa using this
  · intro j r hr
    rcases set_get hr with ⟨e, rfl⟩ | ⟨_, hr⟩
    · subst e
      rw [hm.1, hm.2.1, hm.2.2]
      exact B.ln i _ (List.getElem?_eq_getElem hi) (by omega) (by omega)
    · exact B.ln j r hr (by omega) (by omega)
/-- the merged mark -/
theorem MemX.setMergedE {w : World} {b : Nat} {X : Eng} (h : MemX w b X) (m : Int) : EvoX w b X (w.setCell ⟨b, 7, none⟩ (.int .i64 m)) { X with merged := m } := by
  have K : Kept (fun k => k = b) w (w.setCell ⟨b, 7, none⟩ (.int .i64 m)) := (Kept.refl (fun k => k = b) w).setCell (fun _ => rfl) _
  have B := h.but (j1 := 0) (j2 := 0) K rfl rfl (fun k e => Or.inl (by rw [e]))
  refine ⟨⟨?_, B.src (by omega) (by omega), B.wt (by omega) (by omega), B.lg (by omega) (by omega), B.lt (by omega) (by omega), fun i p hp => B.ln i p hp (by omega) (by omega), h.dis⟩, K.mono (fun k _ e => by subst e; simp [Eng.fp]), fun k hk => Or.inl hk⟩
  have := h.eng.set 7 (.int .i64 m)
  unfold Eng.vals Cfg.vals at *
  simpa using this
/-- another row of those that wait -/
theorem MemX.setWaitE {w0 w : World} {b : Nat} {X0 X : Eng} {l : List Ev} {a : Option Addr} {c : Nat} (e0 : EvoX w0 b X0 w X) (hr : Row w 32 5 a l.length c (evs l)) (hf : ∀ k, bk a = some k → w0.heap.size ≤ k ∧ some k ∉ X.fp b) :
    EvoX w0 b X0 (w.setCell ⟨b, 8, none⟩ (.slice a l.length c)) { X with wait := l, wa := a, wc := c } := by
  have h := e0.mem
  have K : Kept (fun k => k = b) w (w.setCell ⟨b, 8, none⟩ (.slice a l.length c)) := (Kept.refl (fun k => k = b) w).setCell (fun _ => rfl) _
  have B := h.but (j1 := 0) (j2 := 0) K rfl rfl (fun k e => Or.inl (by rw [e]))
  have hfp : ({ X with wait := l, wa := a, wc := c } : Eng).fp b = (X.fp b).set 2 (bk a) := rfl
  refine ⟨⟨?_, B.src (by omega) (by omega), hr.kept K (fun k e f => (hf k e).2 (by rw [f]; simp [Eng.fp])), B.lg (by omega) (by omega), B.lt (by omega) (by omega), fun i p hp => B.ln i p hp (by omega) (by omega), ?_⟩, ?_, ?_⟩
  · have := h.eng.set 8 (.slice a l.length c)
    unfold Eng.vals Cfg.vals at *
    simpa using this
  · rw [hfp]
    intro i j k hi hj
    rw [List.getElem?_set] at hi hj
    split at hi <;> split at hj
    · omega
    · split at hi
      · simp only [Option.some.injEq] at hi
        exact absurd (List.mem_of_getElem? hj) (hf k hi).2
      · simp at hi
    · split at hj
      · simp only [Option.some.injEq] at hj
        exact absurd (List.mem_of_getElem? hi) (hf k hj).2
      · simp at hj
    · exact h.dis i j k hi hj
  · refine e0.kept.trans' (S' := fun k => k = b) K (fun i hi e => ?_)
    subst e; simp [Eng.fp]
  · intro k hk
    rw [hfp] at hk
    rcases List.mem_or_eq_of_mem_set hk with e | e
    · exact e0.grow k e
    · exact Or.inr (hf k e.symm).1

/-- an event more: rows number 2 (waiting), 3 (log), 4 (late) -/
theorem xapp {w w0 w1 : World} {b : Nat} {X : Eng} {j g cap : Nat} {a : Option Addr} {n c : Nat} (h : MemX w b X) (hb0 : Below w.heap.size w w0) (hj : (X.fp b)[j]? = some (bk a)) (hj0 : j ≠ 0)
    (hg : w0.grownBy w1 (Value.slice a n c).ownBlock) (hat : (Value.slice a n c).ownBlock = some g ∨ g = w.heap.size + 1) :
    g ≠ b ∧ Kept (fun k => some k ∈ X.fp b) w w1 ∧ ButX w1 b X j j ∧ PD ((X.fp b).set j (some g)) ∧ (∀ k, some k ∈ (X.fp b).set j (some g) → some k ∈ X.fp b ∨ w.heap.size ≤ k) := by
  rw [bk_own] at hg
  have hbl : b < w.heap.size := h.eng.lt
  have K1 : Kept (fun k => bk a = some k) w w1 := ((Kept.refl (fun k => bk a = some k) w).below hb0).grown hg (fun k _ e => e)
  refine ⟨?_, K1.mono (fun k _ e => List.mem_of_getElem? (hj.trans (by rw [e]))), h.but K1 hj hj (fun k e => Or.inl e), ?_, ?_⟩
  · intro e
    rcases hat with hat | hat
    · rw [bk_own] at hat
      exact h.dis.ne (i := 0) (j := j) rfl hj (Ne.symm hj0) (by rw [hat, e])
    · omega
  · refine h.dis.set (H := w.heap.size) h.fp_lt ?_
    rcases app_at hat with e | ⟨k, e, hk⟩
    · exact Or.inl (by rw [hj, e])
    · exact Or.inr ⟨k, e, by omega⟩
  · intro k hk
    rcases List.mem_or_eq_of_mem_set hk with e | e
    · exact Or.inl e
    · simp only [Option.some.injEq] at e
      subst e
      rcases app_at hat with e | ⟨m, e, hm⟩
      · exact Or.inl (List.mem_of_getElem? (by rw [hj, e]))
      · simp only [Option.some.injEq] at e; right; omega
theorem MemX.appLogE {w w1 : World} {b : Nat} {X : Eng} {g cap : Nat} {x : Ev} {w0 : World} (h : MemX w b X) (hb0 : Below w.heap.size w w0)
    (hown : w1.ownsRow 0 32 5 (.slice (some ⟨g, 0, none⟩) (X.log.length + 1) cap) (X.log.length + 1) (evs X.log ++ x.vals))
    (hg : w0.grownBy w1 (Value.slice X.ga X.log.length X.gc).ownBlock) (hat : (Value.slice X.ga X.log.length X.gc).ownBlock = some g ∨ g = w.heap.size + 1) :
    EvoX w b X (w1.setCell ⟨b, 9, none⟩ (.slice (some ⟨g, 0, none⟩) (X.log.length + 1) cap)) { X with log := X.log ++ [x], ga := some ⟨g, 0, none⟩, gc := cap } := by
  obtain ⟨hne, K1, B1, hpd, hgr⟩ := xapp (j := 3) (cap := cap) h hb0 rfl (by omega) hg hat
  have K : Kept (fun k => some k ∈ X.fp b) w (w1.setCell ⟨b, 9, none⟩ (.slice (some ⟨g, 0, none⟩) (X.log.length + 1) cap)) := K1.setCell (fun _ => by simp [Eng.fp]) _
  have hn : ∀ j k, (X.fp b)[j]? = some (some k) → j ≠ 0 → k ≠ b := fun j k hj h0 e => h0 (h.dis j 0 k hj (by rw [e]; rfl))
  refine ⟨⟨?_, Row.other (B1.src (by omega) (by omega)) (fun e => hn 1 b (by rw [← e]; rfl) (by omega) rfl) _, Row.other (B1.wt (by omega) (by omega)) (fun e => hn 2 b (by rw [← e]; rfl) (by omega) rfl) _, ?_, Row.other (B1.lt (by omega) (by omega)) (fun e => hn 4 b (by rw [← e]; rfl) (by omega) rfl) _, ?_, hpd⟩, K, hgr⟩
  · have := (B1.eng (by omega) (by omega)).set 9 (.slice (some ⟨g, 0, none⟩) (X.log.length + 1) cap)
    unfold Eng.vals Cfg.vals at *
    simpa using this
  · simp only [evs_snoc, List.length_append, List.length_cons, List.length_nil]
    exact (Row.other (a := some ⟨g, 0, none⟩) hown (by simp [bk]; exact hne) _)
  · intro i p hp
    have hi : i < X.srcs.length := (List.getElem?_eq_some_iff.1 hp).1
    have hpe : X.srcs[i] = p := (List.getElem?_eq_some_iff.1 hp).2
    refine Row.other (B1.ln i p hp (by omega) (by omega)) (fun e => hn (5 + i) b ?_ (by omega) rfl) _
    rw [xfp_src hi, hpe, e]
theorem MemX.appLateE {w w1 : World} {b : Nat} {X : Eng} {g cap : Nat} {x : Ev} {w0 : World} (h : MemX w b X) (hb0 : Below w.heap.size w w0)
    (hown : w1.ownsRow 0 32 5 (.slice (some ⟨g, 0, none⟩) (X.late.length + 1) cap) (X.late.length + 1) (evs X.late ++ x.vals))
    (hg : w0.grownBy w1 (Value.slice X.da X.late.length X.dc).ownBlock) (hat : (Value.slice X.da X.late.length X.dc).ownBlock = some g ∨ g = w.heap.size + 1) :
    EvoX w b X (w1.setCell ⟨b, 10, none⟩ (.slice (some ⟨g, 0, none⟩) (X.late.length + 1) cap)) { X with late := X.late ++ [x], da := some ⟨g, 0, none⟩, dc := cap } := by
  obtain ⟨hne, K1, B1, hpd, hgr⟩ := xapp (j := 4) (cap := cap) h hb0 rfl (by omega) hg hat
  have K : Kept (fun k => some k ∈ X.fp b) w (w1.setCell ⟨b, 10, none⟩ (.slice (some ⟨g, 0, none⟩) (X.late.length + 1) cap)) := K1.setCell (fun _ => by simp [Eng.fp]) _
  have hn : ∀ j k, (X.fp b)[j]? = some (some k) → j ≠ 0 → k ≠ b := fun j k hj h0 e => h0 (h.dis j 0 k hj (by rw [e]; rfl))
  refine ⟨⟨?_, Row.other (B1.src (by omega) (by omega)) (fun e => hn 1 b (by rw [← e]; rfl) (by omega) rfl) _, Row.other (B1.wt (by omega) (by omega)) (fun e => hn 2 b (by rw [← e]; rfl) (by omega) rfl) _, Row.other (B1.lg (by omega) (by omega)) (fun e => hn 3 b (by rw [← e]; rfl) (by omega) rfl) _, ?_, ?_, hpd⟩, K, hgr⟩
  · have := (B1.eng (by omega) (by omega)).set 10 (.slice (some ⟨g, 0, none⟩) (X.late.length + 1) cap)
    unfold Eng.vals Cfg.vals at *
    simpa using this
  · simp only [evs_snoc, List.length_append, List.length_cons, List.length_nil]
    exact (Row.other (a := some ⟨g, 0, none⟩) hown (by simp [bk]; exact hne) _)
  · intro i p hp
    have hi : i < X.srcs.length := (List.getElem?_eq_some_iff.1 hp).1
    have hpe : X.srcs[i] = p := (List.getElem?_eq_some_iff.1 hp).2
    refine Row.other (B1.ln i p hp (by omega) (by omega)) (fun e => hn (5 + i) b ?_ (by omega) rfl) _
    rw [xfp_src hi, hpe, e]
theorem MemX.appWaitE {w w1 : World} {b : Nat} {X : Eng} {g cap : Nat} {x : Ev} {w0 : World} (h : MemX w b X) (hb0 : Below w.heap.size w w0)
    (hown : w1.ownsRow 0 32 5 (.slice (some ⟨g, 0, none⟩) (X.wait.length + 1) cap) (X.wait.length + 1) (evs X.wait ++ x.vals))
    (hg : w0.grownBy w1 (Value.slice X.wa X.wait.length X.wc).ownBlock) (hat : (Value.slice X.wa X.wait.length X.wc).ownBlock = some g ∨ g = w.heap.size + 1) :
    EvoX w b X (w1.setCell ⟨b, 8, none⟩ (.slice (some ⟨g, 0, none⟩) (X.wait.length + 1) cap)) { X with wait := X.wait ++ [x], wa := some ⟨g, 0, none⟩, wc := cap } := by
  obtain ⟨hne, K1, B1, hpd, hgr⟩ := xapp (j := 2) (cap := cap) h hb0 rfl (by omega) hg hat
  have K : Kept (fun k => some k ∈ X.fp b) w (w1.setCell ⟨b, 8, none⟩ (.slice (some ⟨g, 0, none⟩) (X.wait.length + 1) cap)) := K1.setCell (fun _ => by simp [Eng.fp]) _
  have hn : ∀ j k, (X.fp b)[j]? = some (some k) → j ≠ 0 → k ≠ b := fun j k hj h0 e => h0 (h.dis j 0 k hj (by rw [e]; rfl))
  refine ⟨⟨?_, Row.other (B1.src (by omega) (by omega)) (fun e => hn 1 b (by rw [← e]; rfl) (by omega) rfl) _, ?_, Row.other (B1.lg (by omega) (by omega)) (fun e => hn 3 b (by rw [← e]; rfl) (by omega) rfl) _, Row.other (B1.lt (by omega) (by omega)) (fun e => hn 4 b (by rw [← e]; rfl) (by omega) rfl) _, ?_, hpd⟩, K, hgr⟩
  · have := (B1.eng (by omega) (by omega)).set 8 (.slice (some ⟨g, 0, none⟩) (X.wait.length + 1) cap)
    unfold Eng.vals Cfg.vals at *
    simpa using this
  · simp only [evs_snoc, List.length_append, List.length_cons, List.length_nil]
    exact (Row.other (a := some ⟨g, 0, none⟩) hown (by simp [bk]; exact hne) _)
  · intro i p hp
    have hi : i < X.srcs.length := (List.getElem?_eq_some_iff.1 hp).1
    have hpe : X.srcs[i] = p := (List.getElem?_eq_some_iff.1 hp).2
    refine Row.other (B1.ln i p hp (by omega) (by omega)) (fun e => hn (5 + i) b ?_ (by omega) rfl) _
    rw [xfp_src hi, hpe, e]
end Go.Proofs.YthiabdpgieppoaaGreat
