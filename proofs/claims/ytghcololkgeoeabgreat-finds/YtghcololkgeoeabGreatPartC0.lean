import Derived.Test.YtghcololkgeoeabGreatPartB1
namespace Go.Proofs.YtghcololkgeoeabGreat
open Go.RowKit
set_option linter.unusedVariables false
set_option linter.unusedSimpArgs false

def PSrc.vals (p : PSrc) : List Value := [.bool p.inn, .bool p.idle, .int .i64 p.mark, .int .i64 p.sil, .int .i64 p.last, .slice p.la p.line.length p.lc]
theorem PSrc.len (p : PSrc) : p.vals.length = 6 := rfl
def bytesV (l : List UInt8) : List Value := l.map (fun x => Value.int .u8 x.toNat)
def Cfg.ps (c : Cfg) : List (Int × Int) := patSteps c.pat.data.toList
def Cfg.same (c : Cfg) : Bool := patOne c.pat.data.toList
def Cfg.win (c : Cfg) : Int := patWin c.pat.data.toList
def Cfg.valsE (c : Cfg) : List Value := [.int .i64 c.sources, .int .i64 c.slack, .int .i64 c.policy, .int .i64 c.room, .int .i64 c.idle, .string ByteArray.empty]
def Eng.vals (X : Eng) : List Value := X.c.valsE ++ [.slice X.pa X.c.ps.length X.pc, .bool X.c.same, .int .i64 X.c.win, .slice (some ⟨X.sg, 0, none⟩) X.srcs.length X.sc, .int .i64 X.merged, .slice X.wa X.wait.length X.wc, .slice X.ga X.log.length X.gc, .slice X.da X.late.length X.dc]
def Eng.fp (X : Eng) (b : Nat) : List (Option Nat) := [some b, some X.sg, bk X.wa, bk X.ga, bk X.da, bk X.pa] ++ X.srcs.map (fun p => bk p.la)

structure MemX (w : World) (b : Nat) (X : Eng) : Prop where
  eng : Blk w b 88 X.vals
  src : Row w 91 6 (some ⟨X.sg, 0, none⟩) X.srcs.length X.sc (X.srcs.flatMap PSrc.vals)
  wt : Row w 30 5 X.wa X.wait.length X.wc (evs X.wait)
  lg : Row w 30 5 X.ga X.log.length X.gc (evs X.log)
  lt : Row w 30 5 X.da X.late.length X.dc (evs X.late)
  pt : Row w 152 2 X.pa X.c.ps.length X.pc (flat X.c.ps)
  ln : ∀ (i : Nat) p, X.srcs[i]? = some p → Row w 5 1 p.la p.line.length p.lc (bytesV p.line)
  dis : PD (X.fp b)

theorem MemX.srcCell {w : World} {b : Nat} {X : Eng} (h : MemX w b X) (i o : Nat) (hi : i < X.srcs.length) (ho : o < 6) : w.cell? ⟨X.sg, i * 6 + o, none⟩ = X.srcs[i].vals[o]? := by
  obtain ⟨g, hg, _, _, hc, _⟩ := h.src.form (by omega)
  simp only [Option.some.injEq, Addr.mk.injEq, and_true] at hg
  rw [hg, hc _ (by omega), flatMap_get _ 6 PSrc.len _ i o ho hi]
theorem MemX.srcFrozen {w : World} {b : Nat} {X : Eng} (h : MemX w b X) (o : Nat) (hi : 0 < X.srcs.length) : w.frozen? ⟨X.sg, o, none⟩ = false := by
  obtain ⟨g, hg, _, _, _, hf⟩ := h.src.form hi
  simp only [Option.some.injEq, Addr.mk.injEq, and_true] at hg
  rw [hg]; exact hf o
theorem xfp_src {X : Eng} {b i : Nat} (hi : i < X.srcs.length) : (X.fp b)[6 + i]? = some (bk X.srcs[i].la) := by
  unfold Eng.fp
  rw [List.getElem?_append_right (by simp), show 6 + i - [some b, some X.sg, bk X.wa, bk X.ga, bk X.da, bk X.pa].length = i by simp]
  simp [hi]
theorem xfp_mem {X : Eng} {b k : Nat} (h : some k ∈ X.fp b) : k = b ∨ k = X.sg ∨ bk X.wa = some k ∨ bk X.ga = some k ∨ bk X.da = some k ∨ bk X.pa = some k ∨ ∃ i, ∃ hi : i < X.srcs.length, bk X.srcs[i].la = some k := by
  unfold Eng.fp at h
  simp only [List.cons_append, List.nil_append, List.mem_cons, Option.some.injEq, List.mem_map] at h
  rcases h with h | h | h | h | h | h | ⟨r, hr, h⟩
  · exact Or.inl h
  · exact Or.inr (Or.inl h)
  · exact Or.inr (Or.inr (Or.inl h.symm))
  · exact Or.inr (Or.inr (Or.inr (Or.inl h.symm)))
  · exact Or.inr (Or.inr (Or.inr (Or.inr (Or.inl h.symm))))
  · exact Or.inr (Or.inr (Or.inr (Or.inr (Or.inr (Or.inl h.symm)))))
  · obtain ⟨i, hi, rfl⟩ := List.mem_iff_getElem.1 hr
    exact Or.inr (Or.inr (Or.inr (Or.inr (Or.inr (Or.inr ⟨i, hi, h⟩)))))
theorem MemX.fp_lt {w : World} {b : Nat} {X : Eng} (h : MemX w b X) : ∀ k, some k ∈ X.fp b → k < w.heap.size := by
  intro k hk
  rcases xfp_mem hk with e | e | e | e | e | e | ⟨i, hi, e⟩
  · rw [e]; exact h.eng.lt
  · subst e; exact h.src.lt (a := some ⟨X.sg, 0, none⟩) rfl
  · exact h.wt.lt e
  · exact h.lg.lt e
  · exact h.lt.lt e
  · exact h.pt.lt e
  · exact (h.ln i _ (List.getElem?_eq_getElem hi)).lt e
theorem MemX.kept {S : Nat → Prop} {w w' : World} {b : Nat} {X : Eng} (h : MemX w b X) (hk : Kept S w w') (hn : ∀ k, some k ∈ X.fp b → ¬ S k) : MemX w' b X := by
  refine ⟨h.eng.kept hk (hn b (by simp [Eng.fp])), h.src.kept hk (fun k e => hn k (by simp [bk] at e; simp [Eng.fp, e])), h.wt.kept hk (fun k e => hn k (by simp [Eng.fp, e])), h.lg.kept hk (fun k e => hn k (by simp [Eng.fp, e])), h.lt.kept hk (fun k e => hn k (by simp [Eng.fp, e])), h.pt.kept hk (fun k e => hn k (by simp [Eng.fp, e])), ?_, h.dis⟩
  intro i r hr
  refine (h.ln i r hr).kept hk (fun k e => hn k ?_)
  obtain ⟨hi, rfl⟩ := List.getElem?_eq_some_iff.1 hr
  exact List.mem_of_getElem? ((xfp_src (b := b) hi).trans (by rw [e]))
theorem MemX.drew {w : World} {b : Nat} {X : Eng} (h : MemX w b X) : MemX w.drew b X := h.kept ((Kept.refl (fun _ => False) w).drew) (fun _ _ e => e)
theorem MemX.drewN {w : World} {b : Nat} {X : Eng} (h : MemX w b X) (n : Nat) : MemX (w.drewN n) b X := h.kept ((Kept.refl (fun _ => False) w).drewN n) (fun _ _ e => e)
theorem MemX.alloc {w : World} {b : Nat} {X : Eng} (h : MemX w b X) (o : Obj) : MemX (w.alloc o) b X := h.kept ((Kept.refl (fun _ => False) w).alloc o) (fun _ _ e => e)
theorem MemX.below {w w' : World} {b : Nat} {X : Eng} (h : MemX w b X) (hb : Below w.heap.size w w') : MemX w' b X := h.kept (below_kept hb (fun _ => False)) (fun _ _ e => e)
theorem MemX.cells {w : World} {b : Nat} {X : Eng} (h : MemX w b X) : w.cell? ⟨b, 1, none⟩ = some (.int .i64 X.c.slack) ∧ w.cell? ⟨b, 2, none⟩ = some (.int .i64 X.c.policy) ∧ w.cell? ⟨b, 3, none⟩ = some (.int .i64 X.c.room) ∧ w.cell? ⟨b, 4, none⟩ = some (.int .i64 X.c.idle) ∧
    w.cell? ⟨b, 9, none⟩ = some (.slice (some ⟨X.sg, 0, none⟩) X.srcs.length X.sc) ∧ w.cell? ⟨b, 10, none⟩ = some (.int .i64 X.merged) ∧ w.cell? ⟨b, 11, none⟩ = some (.slice X.wa X.wait.length X.wc) ∧ w.cell? ⟨b, 12, none⟩ = some (.slice X.ga X.log.length X.gc) ∧ w.cell? ⟨b, 13, none⟩ = some (.slice X.da X.late.length X.dc) :=
  ⟨h.eng.cell 1, h.eng.cell 2, h.eng.cell 3, h.eng.cell 4, h.eng.cell 9, h.eng.cell 10, h.eng.cell 11, h.eng.cell 12, h.eng.cell 13⟩

structure ButX (w' : World) (b : Nat) (X : Eng) (j1 j2 : Nat) : Prop where
  eng : 0 ≠ j1 → 0 ≠ j2 → Blk w' b 88 X.vals
  src : 1 ≠ j1 → 1 ≠ j2 → Row w' 91 6 (some ⟨X.sg, 0, none⟩) X.srcs.length X.sc (X.srcs.flatMap PSrc.vals)
  wt : 2 ≠ j1 → 2 ≠ j2 → Row w' 30 5 X.wa X.wait.length X.wc (evs X.wait)
  lg : 3 ≠ j1 → 3 ≠ j2 → Row w' 30 5 X.ga X.log.length X.gc (evs X.log)
  lt : 4 ≠ j1 → 4 ≠ j2 → Row w' 30 5 X.da X.late.length X.dc (evs X.late)
  pt : 5 ≠ j1 → 5 ≠ j2 → Row w' 152 2 X.pa X.c.ps.length X.pc (flat X.c.ps)
  ln : ∀ (i : Nat) p, X.srcs[i]? = some p → 6 + i ≠ j1 → 6 + i ≠ j2 → Row w' 5 1 p.la p.line.length p.lc (bytesV p.line)
theorem MemX.but {S : Nat → Prop} {w w' : World} {b : Nat} {X : Eng} {j1 j2 : Nat} {o1 o2 : Option Nat} (h : MemX w b X) (K : Kept S w w') (h1 : (X.fp b)[j1]? = some o1) (h2 : (X.fp b)[j2]? = some o2) (hS : ∀ k, S k → o1 = some k ∨ o2 = some k) : ButX w' b X j1 j2 := by
  have n : ∀ i k, (X.fp b)[i]? = some (some k) → i ≠ j1 → i ≠ j2 → ¬ S k := fun i k hi n1 n2 hs => by
    rcases hS k hs with e | e
    · exact n1 (h.dis i j1 k hi (by rw [h1, e]))
    · exact n2 (h.dis i j2 k hi (by rw [h2, e]))
  refine ⟨fun a c => h.eng.kept K (n 0 b rfl a c), fun a c => h.src.kept K (fun k e => n 1 k (by rw [← e]; rfl) a c), fun a c => h.wt.kept K (fun k e => n 2 k (by rw [← e]; rfl) a c), fun a c => h.lg.kept K (fun k e => n 3 k (by rw [← e]; rfl) a c), fun a c => h.lt.kept K (fun k e => n 4 k (by rw [← e]; rfl) a c), fun a c => h.pt.kept K (fun k e => n 5 k (by rw [← e]; rfl) a c), ?_⟩
  intro i r hr a c
  obtain ⟨hi, rfl⟩ := List.getElem?_eq_some_iff.1 hr
  exact (h.ln i _ hr).kept K (fun k e => n _ k (by rw [xfp_src hi, e]) a c)
theorem xsrcs_set {X : Eng} {w' : World} {i : Nat} (r' : PSrc) (hi : i < X.srcs.length) (o : Nat) (ho : o < 6) (v : Value) (hv : r'.vals = X.srcs[i].vals.set o v)
    (h : Row w' 91 6 (some ⟨X.sg, 0, none⟩) X.srcs.length X.sc (X.srcs.flatMap PSrc.vals)) :
    Row (w'.setCell ⟨X.sg, i * 6 + o, none⟩ v) 91 6 (some ⟨X.sg, 0, none⟩) (X.srcs.set i r').length X.sc ((X.srcs.set i r').flatMap PSrc.vals) := by
  have := h.set (i * 6 + o) v
  rw [flatMap_set _ 6 PSrc.len _ i o ho hi v r' hv] at this
  rw [List.length_set]
  exact this
theorem xfp_set_src {X : Eng} {b i : Nat} (r' : PSrc) : ({ X with srcs := X.srcs.set i r' } : Eng).fp b = (X.fp b).set (6 + i) (bk r'.la) := by
  unfold Eng.fp
  simp only [List.map_set]
  rw [List.set_append_right _ _ (by simp)]
  simp [show 6 + i - 6 = i by omega]

structure EvoX (w : World) (b : Nat) (X : Eng) (w' : World) (X' : Eng) : Prop where
  mem : MemX w' b X'
  kept : Kept (fun k => some k ∈ X.fp b) w w'
  grow : ∀ k, some k ∈ X'.fp b → some k ∈ X.fp b ∨ w.heap.size ≤ k
theorem EvoX.refl {w : World} {b : Nat} {X : Eng} (h : MemX w b X) : EvoX w b X w X := ⟨h, Kept.refl _ w, fun k hk => Or.inl hk⟩
theorem EvoX.trans {w w1 w2 : World} {b : Nat} {X X1 X2 : Eng} (h : EvoX w b X w1 X1) (g : EvoX w1 b X1 w2 X2) : EvoX w b X w2 X2 := by
  refine ⟨g.mem, h.kept.trans' g.kept (fun i hi e => ?_), fun k hk => ?_⟩
  · rcases h.grow i e with e | e
    · exact e
    · omega
  · rcases g.grow k hk with e | e
    · exact h.grow k e
    · have := h.kept.size; right; omega
theorem EvoX.below {w w' : World} {b : Nat} {X : Eng} (h : MemX w b X) (hb : Below w.heap.size w w') : EvoX w b X w' X := ⟨h.below hb, below_kept hb _, fun k hk => Or.inl hk⟩
theorem EvoX.drewE {w w' : World} {b : Nat} {X X' : Eng} (h : EvoX w b X w' X') : EvoX w b X w'.drew X' := ⟨h.mem.drew, h.kept.drew, h.grow⟩
theorem MemX.setSrcE {w : World} {b : Nat} {X : Eng} {i : Nat} (h : MemX w b X) (r' : PSrc) (hi : i < X.srcs.length) (o : Nat) (ho : o < 6) (v : Value) (hv : r'.vals = X.srcs[i].vals.set o v)
    (hm : r'.line = X.srcs[i].line ∧ r'.la = X.srcs[i].la ∧ r'.lc = X.srcs[i].lc) :
    EvoX w b X (w.setCell ⟨X.sg, i * 6 + o, none⟩ v) { X with srcs := X.srcs.set i r' } := by
  have K : Kept (fun k => k = X.sg) w (w.setCell ⟨X.sg, i * 6 + o, none⟩ v) := (Kept.refl (fun k => k = X.sg) w).setCell (fun _ => rfl) _
  have B := h.but (j1 := 1) (j2 := 1) K rfl rfl (fun k e => Or.inl (by rw [e]))
  have hfp : ({ X with srcs := X.srcs.set i r' } : Eng).fp b = X.fp b := by
    rw [xfp_set_src r', hm.2.1, set_self (xfp_src hi)]
  refine ⟨⟨?_, xsrcs_set r' hi o ho v hv h.src, B.wt (by omega) (by omega), B.lg (by omega) (by omega), B.lt (by omega) (by omega), B.pt (by omega) (by omega), ?_, by rw [hfp]; exact h.dis⟩, K.mono (fun k _ e => by subst e; simp [Eng.fp]), fun k hk => Or.inl (by rw [hfp] at hk; exact hk)⟩
  · have := B.eng (by omega) (by omega)
    unfold Eng.vals at *
    simpa using this
  · intro j r hr
    rcases set_get hr with ⟨e, rfl⟩ | ⟨_, hr⟩
    · subst e
      rw [hm.1, hm.2.1, hm.2.2]
      exact B.ln i _ (List.getElem?_eq_getElem hi) (by omega) (by omega)
    · exact B.ln j r hr (by omega) (by omega)
theorem MemX.setMergedE {w : World} {b : Nat} {X : Eng} (h : MemX w b X) (m : Int) : EvoX w b X (w.setCell ⟨b, 10, none⟩ (.int .i64 m)) { X with merged := m } := by
  have K : Kept (fun k => k = b) w (w.setCell ⟨b, 10, none⟩ (.int .i64 m)) := (Kept.refl (fun k => k = b) w).setCell (fun _ => rfl) _
  have B := h.but (j1 := 0) (j2 := 0) K rfl rfl (fun k e => Or.inl (by rw [e]))
  refine ⟨⟨?_, B.src (by omega) (by omega), B.wt (by omega) (by omega), B.lg (by omega) (by omega), B.lt (by omega) (by omega), B.pt (by omega) (by omega), fun i p hp => B.ln i p hp (by omega) (by omega), h.dis⟩, K.mono (fun k _ e => by subst e; simp [Eng.fp]), fun k hk => Or.inl hk⟩
  have := h.eng.set 10 (.int .i64 m)
  unfold Eng.vals Cfg.valsE at *
  simpa using this
theorem MemX.setWaitE {w0 w : World} {b : Nat} {X0 X : Eng} {l : List Ev} {a : Option Addr} {c : Nat} (e0 : EvoX w0 b X0 w X) (hr : Row w 30 5 a l.length c (evs l)) (hf : ∀ k, bk a = some k → w0.heap.size ≤ k ∧ some k ∉ X.fp b) :
    EvoX w0 b X0 (w.setCell ⟨b, 11, none⟩ (.slice a l.length c)) { X with wait := l, wa := a, wc := c } := by
  have h := e0.mem
  have K : Kept (fun k => k = b) w (w.setCell ⟨b, 11, none⟩ (.slice a l.length c)) := (Kept.refl (fun k => k = b) w).setCell (fun _ => rfl) _
  have B := h.but (j1 := 0) (j2 := 0) K rfl rfl (fun k e => Or.inl (by rw [e]))
  have hfp : ({ X with wait := l, wa := a, wc := c } : Eng).fp b = (X.fp b).set 2 (bk a) := rfl
  refine ⟨⟨?_, B.src (by omega) (by omega), hr.kept K (fun k e f => (hf k e).2 (by rw [f]; simp [Eng.fp])), B.lg (by omega) (by omega), B.lt (by omega) (by omega), B.pt (by omega) (by omega), fun i p hp => B.ln i p hp (by omega) (by omega), ?_⟩, ?_, ?_⟩
  · have := h.eng.set 11 (.slice a l.length c)
    unfold Eng.vals Cfg.valsE at *
    simpa using this
  · rw [hfp]
    intro i j k hi hj
    rw [List.getElem?_set] at hi hj
    split at hi <;> split at hj
    · omega
    · split at hi
      · simp only [Option.some.injEq] at hi
        exact absurd (List.mem_of_getElem? hj) (hf k hi).2
      · simp at hi
    · split at hj
      · simp only [Option.some.injEq] at hj
        exact absurd (List.mem_of_getElem? hi) (hf k hj).2
      · simp at hj
    · exact h.dis i j k hi hj
  · refine e0.kept.trans' (S' := fun k => k = b) K (fun i hi e => ?_)
    subst e; simp [Eng.fp]
  · intro k hk
    rw [hfp] at hk
    rcases List.mem_or_eq_of_mem_set hk with e | e
    · exact e0.grow k e
    · exact Or.inr (hf k e.symm).1

theorem xapp {w w0 w1 : World} {b : Nat} {X : Eng} {j g cap : Nat} {a : Option Addr} {n c : Nat} (h : MemX w b X) (hb0 : Below w.heap.size w w0) (hj : (X.fp b)[j]? = some (bk a)) (hj0 : j ≠ 0)
    (hg : w0.grownBy w1 (Value.slice a n c).ownBlock) (hat : (Value.slice a n c).ownBlock = some g ∨ g = w.heap.size + 1) :
    g ≠ b ∧ Kept (fun k => some k ∈ X.fp b) w w1 ∧ ButX w1 b X j j ∧ PD ((X.fp b).set j (some g)) ∧ (∀ k, some k ∈ (X.fp b).set j (some g) → some k ∈ X.fp b ∨ w.heap.size ≤ k) := by
  rw [bk_own] at hg
  have hbl : b < w.heap.size := h.eng.lt
  have K1 : Kept (fun k => bk a = some k) w w1 := ((Kept.refl (fun k => bk a = some k) w).below hb0).grown hg (fun k _ e => e)
  refine ⟨?_, K1.mono (fun k _ e => List.mem_of_getElem? (hj.trans (by rw [e]))), h.but K1 hj hj (fun k e => Or.inl e), ?_, ?_⟩
  · intro e
    rcases hat with hat | hat
    · rw [bk_own] at hat
      exact h.dis.ne (i := 0) (j := j) rfl hj (Ne.symm hj0) (by rw [hat, e])
    · omega
  · refine h.dis.set (H := w.heap.size) h.fp_lt ?_
    rcases app_at hat with e | ⟨k, e, hk⟩
    · exact Or.inl (by rw [hj, e])
    · exact Or.inr ⟨k, e, by omega⟩
  · intro k hk
    rcases List.mem_or_eq_of_mem_set hk with e | e
    · exact Or.inl e
    · simp only [Option.some.injEq] at e
      subst e
      rcases app_at hat with e | ⟨m, e, hm⟩
      · exact Or.inl (List.mem_of_getElem? (by rw [hj, e]))
      · simp only [Option.some.injEq] at e; right; omega
theorem MemX.appLogE {w w1 : World} {b : Nat} {X : Eng} {g cap : Nat} {x : Ev} {w0 : World} (h : MemX w b X) (hb0 : Below w.heap.size w w0)
    (hown : w1.ownsRow 0 30 5 (.slice (some ⟨g, 0, none⟩) (X.log.length + 1) cap) (X.log.length + 1) (evs X.log ++ x.vals))
    (hg : w0.grownBy w1 (Value.slice X.ga X.log.length X.gc).ownBlock) (hat : (Value.slice X.ga X.log.length X.gc).ownBlock = some g ∨ g = w.heap.size + 1) :
    EvoX w b X (w1.setCell ⟨b, 12, none⟩ (.slice (some ⟨g, 0, none⟩) (X.log.length + 1) cap)) { X with log := X.log ++ [x], ga := some ⟨g, 0, none⟩, gc := cap } := by
  obtain ⟨hne, K1, B1, hpd, hgr⟩ := xapp (j := 3) (cap := cap) h hb0 rfl (by omega) hg hat
  have K : Kept (fun k => some k ∈ X.fp b) w (w1.setCell ⟨b, 12, none⟩ (.slice (some ⟨g, 0, none⟩) (X.log.length + 1) cap)) := K1.setCell (fun _ => by simp [Eng.fp]) _
  have hn : ∀ j k, (X.fp b)[j]? = some (some k) → j ≠ 0 → k ≠ b := fun j k hj h0 e => h0 (h.dis j 0 k hj (by rw [e]; rfl))
  refine ⟨⟨?_, Row.other (B1.src (by omega) (by omega)) (fun e => hn 1 b (by rw [← e]; rfl) (by omega) rfl) _, Row.other (B1.wt (by omega) (by omega)) (fun e => hn 2 b (by rw [← e]; rfl) (by omega) rfl) _, ?_, Row.other (B1.lt (by omega) (by omega)) (fun e => hn 4 b (by rw [← e]; rfl) (by omega) rfl) _, Row.other (B1.pt (by omega) (by omega)) (fun e => hn 5 b (by rw [← e]; rfl) (by omega) rfl) _, ?_, hpd⟩, K, hgr⟩
  · have := (B1.eng (by omega) (by omega)).set 12 (.slice (some ⟨g, 0, none⟩) (X.log.length + 1) cap)
    unfold Eng.vals Cfg.valsE at *
    simpa using this
  · simp only [evs_snoc, List.length_append, List.length_cons, List.length_nil]
    exact (Row.other (a := some ⟨g, 0, none⟩) hown (by simp [bk]; exact hne) _)
  · intro i p hp
    have hi : i < X.srcs.length := (List.getElem?_eq_some_iff.1 hp).1
    have hpe : X.srcs[i] = p := (List.getElem?_eq_some_iff.1 hp).2
    refine Row.other (B1.ln i p hp (by omega) (by omega)) (fun e => hn (6 + i) b ?_ (by omega) rfl) _
    rw [xfp_src hi, hpe, e]
theorem MemX.appLateE {w w1 : World} {b : Nat} {X : Eng} {g cap : Nat} {x : Ev} {w0 : World} (h : MemX w b X) (hb0 : Below w.heap.size w w0)
    (hown : w1.ownsRow 0 30 5 (.slice (some ⟨g, 0, none⟩) (X.late.length + 1) cap) (X.late.length + 1) (evs X.late ++ x.vals))
    (hg : w0.grownBy w1 (Value.slice X.da X.late.length X.dc).ownBlock) (hat : (Value.slice X.da X.late.length X.dc).ownBlock = some g ∨ g = w.heap.size + 1) :
    EvoX w b X (w1.setCell ⟨b, 13, none⟩ (.slice (some ⟨g, 0, none⟩) (X.late.length + 1) cap)) { X with late := X.late ++ [x], da := some ⟨g, 0, none⟩, dc := cap } := by
  obtain ⟨hne, K1, B1, hpd, hgr⟩ := xapp (j := 4) (cap := cap) h hb0 rfl (by omega) hg hat
  have K : Kept (fun k => some k ∈ X.fp b) w (w1.setCell ⟨b, 13, none⟩ (.slice (some ⟨g, 0, none⟩) (X.late.length + 1) cap)) := K1.setCell (fun _ => by simp [Eng.fp]) _
  have hn : ∀ j k, (X.fp b)[j]? = some (some k) → j ≠ 0 → k ≠ b := fun j k hj h0 e => h0 (h.dis j 0 k hj (by rw [e]; rfl))
  refine ⟨⟨?_, Row.other (B1.src (by omega) (by omega)) (fun e => hn 1 b (by rw [← e]; rfl) (by omega) rfl) _, Row.other (B1.wt (by omega) (by omega)) (fun e => hn 2 b (by rw [← e]; rfl) (by omega) rfl) _, Row.other (B1.lg (by omega) (by omega)) (fun e => hn 3 b (by rw [← e]; rfl) (by omega) rfl) _, ?_, Row.other (B1.pt (by omega) (by omega)) (fun e => hn 5 b (by rw [← e]; rfl) (by omega) rfl) _, ?_, hpd⟩, K, hgr⟩
  · have := (B1.eng (by omega) (by omega)).set 13 (.slice (some ⟨g, 0, none⟩) (X.late.length + 1) cap)
    unfold Eng.vals Cfg.valsE at *
    simpa using this
  · simp only [evs_snoc, List.length_append, List.length_cons, List.length_nil]
    exact (Row.other (a := some ⟨g, 0, none⟩) hown (by simp [bk]; exact hne) _)
  · intro i p hp
    have hi : i < X.srcs.length := (List.getElem?_eq_some_iff.1 hp).1
    have hpe : X.srcs[i] = p := (List.getElem?_eq_some_iff.1 hp).2
    refine Row.other (B1.ln i p hp (by omega) (by omega)) (fun e => hn (6 + i) b ?_ (by omega) rfl) _
    rw [xfp_src hi, hpe, e]
theorem MemX.appWaitE {w w1 : World} {b : Nat} {X : Eng} {g cap : Nat} {x : Ev} {w0 : World} (h : MemX w b X) (hb0 : Below w.heap.size w w0)
    (hown : w1.ownsRow 0 30 5 (.slice (some ⟨g, 0, none⟩) (X.wait.length + 1) cap) (X.wait.length + 1) (evs X.wait ++ x.vals))
    (hg : w0.grownBy w1 (Value.slice X.wa X.wait.length X.wc).ownBlock) (hat : (Value.slice X.wa X.wait.length X.wc).ownBlock = some g ∨ g = w.heap.size + 1) :
    EvoX w b X (w1.setCell ⟨b, 11, none⟩ (.slice (some ⟨g, 0, none⟩) (X.wait.length + 1) cap)) { X with wait := X.wait ++ [x], wa := some ⟨g, 0, none⟩, wc := cap } := by
  obtain ⟨hne, K1, B1, hpd, hgr⟩ := xapp (j := 2) (cap := cap) h hb0 rfl (by omega) hg hat
  have K : Kept (fun k => some k ∈ X.fp b) w (w1.setCell ⟨b, 11, none⟩ (.slice (some ⟨g, 0, none⟩) (X.wait.length + 1) cap)) := K1.setCell (fun _ => by simp [Eng.fp]) _
  have hn : ∀ j k, (X.fp b)[j]? = some (some k) → j ≠ 0 → k ≠ b := fun j k hj h0 e => h0 (h.dis j 0 k hj (by rw [e]; rfl))
  refine ⟨⟨?_, Row.other (B1.src (by omega) (by omega)) (fun e => hn 1 b (by rw [← e]; rfl) (by omega) rfl) _, ?_, Row.other (B1.lg (by omega) (by omega)) (fun e => hn 3 b (by rw [← e]; rfl) (by omega) rfl) _, Row.other (B1.lt (by omega) (by omega)) (fun e => hn 4 b (by rw [← e]; rfl) (by omega) rfl) _, Row.other (B1.pt (by omega) (by omega)) (fun e => hn 5 b (by rw [← e]; rfl) (by omega) rfl) _, ?_, hpd⟩, K, hgr⟩
  · have := (B1.eng (by omega) (by omega)).set 11 (.slice (some ⟨g, 0, none⟩) (X.wait.length + 1) cap)
    unfold Eng.vals Cfg.valsE at *
    simpa using this
  · simp only [evs_snoc, List.length_append, List.length_cons, List.length_nil]
    exact (Row.other (a := some ⟨g, 0, none⟩) hown (by simp [bk]; exact hne) _)
  · intro i p hp
    have hi : i < X.srcs.length := (List.getElem?_eq_some_iff.1 hp).1
    have hpe : X.srcs[i] = p := (List.getElem?_eq_some_iff.1 hp).2
    refine Row.other (B1.ln i p hp (by omega) (by omega)) (fun e => hn (6 + i) b ?_ (by omega) rfl) _
    rw [xfp_src hi, hpe, e]
end Go.Proofs.YtghcololkgeoeabGreat
namespace Go.Proofs.YtghcololkgeoeabGreat
open Go.RowKit
set_option linter.unusedVariables false
set_option linter.unusedSimpArgs false
attribute [local go_sem ↓] Go.wp_at_zero Go.wp_at_succ

set_option maxHeartbeats 400000 in
theorem xhas_any (b : Nat) (X : Eng) (s : Int) (w : World) (h : MemX w b X) :
    Calls Tryz.prog 39 #[.pointer (some ⟨b, 0, none⟩), .int .i64 s] w fun e w' => e = .returned (.bool (decide (0 ≤ s ∧ s < (X.srcs.length : Int)))) ∧ w = w' := by
  obtain ⟨_, _, _, _, c6, _⟩ := h.cells
  by_cases h0 : 0 ≤ s
  · by_cases h1 : s < (X.srcs.length : Int)
    · have hd : decide (0 ≤ s ∧ s < (X.srcs.length : Int)) = true := by simp [h0, h1]
      rw [hd]
      go_enter Tryz.func39, Tryz.ntmps39
      go_wp2
      go_ret
      exact ⟨rfl, rfl⟩
    · have hd : decide (0 ≤ s ∧ s < (X.srcs.length : Int)) = false := by simp [h1]
      rw [hd]
      have hd1 : decide (s < (X.srcs.length : Int)) = false := by simpa using h1
      go_enter Tryz.func39, Tryz.ntmps39
      go_wp2
      go_ret
      exact ⟨rfl, rfl⟩
  · have hd : decide (0 ≤ s ∧ s < (X.srcs.length : Int)) = false := by simp [h0]
    rw [hd]
    have hd0 : decide (0 ≤ s) = false := by simpa using h0
    go_enter Tryz.func39, Tryz.ntmps39
    go_wp2
    go_ret
    exact ⟨rfl, rfl⟩

set_option maxHeartbeats 400000 in
theorem xcheckIn_none (b : Nat) (X : Eng) (s : Int) (w : World) (h : MemX w b X) (hs : s < 0 ∨ (X.srcs.length : Int) ≤ s) :
    Calls Tryz.prog 55 #[.pointer (some ⟨b, 0, none⟩), .int .i64 s] w fun e w' => e = .returned (.int .i64 3) ∧ w = w' := by
  have HD : Hid (decide (0 ≤ s ∧ s < (X.srcs.length : Int)) = false) := by show _ = _; simp; omega
  clear hs
  go_enter Tryz.func55, Tryz.ntmps55
  go_wp2_with (go_at_call 39; refine (xhas_any b X s _ h).mono ?_; rintro e w' ⟨rfl, rfl⟩; rw [HD.out])
  go_ret
  exact ⟨rfl, rfl⟩
set_option maxHeartbeats 400000 in
theorem xcheckIn_some (b : Nat) (X : Eng) (i : Nat) (w : World) (h : MemX w b X) (hi : i < X.srcs.length) :
    Calls Tryz.prog 55 #[.pointer (some ⟨b, 0, none⟩), .int .i64 i] w fun e w' => e = .returned (.int .i64 (if X.srcs[i].inn then 0 else 4)) ∧ w = w' := by
  have HD : Hid (decide (0 ≤ (i : Int) ∧ (i : Int) < (X.srcs.length : Int)) = true) := by show _ = _; simp; omega
  obtain ⟨_, _, _, _, c6, _⟩ := h.cells
  have s0 := h.srcCell i 0 hi (by omega)
  simp only [PSrc.vals, List.getElem?_cons_zero, Nat.add_zero] at s0
  have hi' : (i : Int) < (X.srcs.length : Int) := by omega
  have hi0 : (0 : Int) ≤ (i : Int) := by omega
  cases hin : X.srcs[i].inn with
  | false =>
    rw [hin] at s0
    go_enter Tryz.func55, Tryz.ntmps55
    go_wp2_with (go_at_call 39; refine (xhas_any b X _ _ h).mono ?_; rintro e w' ⟨rfl, rfl⟩; rw [HD.out])
    go_ret
    exact ⟨rfl, rfl⟩
  | true =>
    rw [hin] at s0
    go_enter Tryz.func55, Tryz.ntmps55
    go_wp2_with (go_at_call 39; refine (xhas_any b X _ _ h).mono ?_; rintro e w' ⟨rfl, rfl⟩; rw [HD.out])
    go_ret
    exact ⟨rfl, rfl⟩

theorem set_same (X : Eng) (i : Nat) (hi : i < X.srcs.length) : ({ X with srcs := X.srcs.set i X.srcs[i] } : Eng) = X := by
  rw [List.set_getElem_self]
set_option maxHeartbeats 400000 in
theorem xraise_any (b : Nat) (X : Eng) (i : Nat) (m : Int) (w : World) (h : MemX w b X) (hi : i < X.srcs.length) :
    Calls Tryz.prog 62 #[.pointer (some ⟨b, 0, none⟩), .int .i64 i, .int .i64 m] w fun e w' => e = .returned (.tuple #[]) ∧ EvoX w b X w' { X with srcs := X.srcs.set i (X.srcs[i].raised m) } := by
  obtain ⟨_, _, _, _, c6, _⟩ := h.cells
  have s2 := h.srcCell i 2 hi (by omega)
  simp only [PSrc.vals, List.getElem?_cons_zero, List.getElem?_cons_succ, Nat.add_zero] at s2
  have f2 := h.srcFrozen (i * 6 + 2) (by omega)
  have hi' : (i : Int) < (X.srcs.length : Int) := by omega
  have hi0 : (0 : Int) ≤ (i : Int) := by omega
  have H : Hid (MemX w b X) := h
  clear h
  by_cases hm : X.srcs[i].mark < m
  · have HE : Hid (X.srcs[i].raised m = { X.srcs[i] with mark := m }) := by show _ = _; unfold PSrc.raised; rw [if_pos hm]
    go_enter Tryz.func62, Tryz.ntmps62
    go_wp2
    go_end0
    rw [HE.out]
    exact ⟨rfl, H.out.setSrcE _ hi 2 (by omega) (.int .i64 m) rfl ⟨rfl, rfl, rfl⟩⟩
  · have HE : Hid (X.srcs[i].raised m = X.srcs[i]) := by show _ = _; unfold PSrc.raised; rw [if_neg hm]
    have hd : decide (X.srcs[i].mark < m) = false := by simpa using hm
    go_enter Tryz.func62, Tryz.ntmps62
    go_wp2
    go_end0
    rw [HE.out, set_same]
    exact ⟨rfl, EvoX.refl H.out⟩

set_option maxHeartbeats 800000 in
theorem xactivate_any (b : Nat) (X : Eng) (i : Nat) (w : World) (h : MemX w b X) (hi : i < X.srcs.length) :
    Calls Tryz.prog 52 #[.pointer (some ⟨b, 0, none⟩), .int .i64 i] w fun e w' => e = .returned (.tuple #[]) ∧ EvoX w b X w' { X with srcs := X.srcs.set i (X.srcs[i].activated X.merged) } := by
  obtain ⟨_, _, _, _, c6, _⟩ := h.cells
  have s1 := h.srcCell i 1 hi (by omega)
  have s3 := h.srcCell i 3 hi (by omega)
  simp only [PSrc.vals, List.getElem?_cons_zero, List.getElem?_cons_succ, Nat.add_zero] at s1 s3
  have f1 := h.srcFrozen (i * 6 + 1) (by omega)
  have f3 := h.srcFrozen (i * 6 + 3) (by omega)
  have hi' : (i : Int) < (X.srcs.length : Int) := by omega
  have hi0 : (0 : Int) ≤ (i : Int) := by omega
  have H : Hid (MemX w b X) := h
  have hbs : b ≠ X.sg := fun e => by have := h.dis 0 1 b rfl (by rw [e]; rfl); omega
  clear h
  go_enter Tryz.func52, Tryz.ntmps52
  go_upto_region 2 with fail
  obtain ⟨X1, HX1⟩ := hex ({ X with srcs := X.srcs.set i { X.srcs[i] with idle := false, sil := 0 } } : Eng)
  have HE1 : Hid (EvoX w b X ((w.setCell ⟨X.sg, i * 6 + 1, none⟩ (.bool false)).setCell ⟨X.sg, i * 6 + 3, none⟩ (.int .i64 0)) X1) := by
    show EvoX _ _ _ _ _
    rw [HX1.out]
    have e1 := H.out.setSrcE { X.srcs[i] with idle := false } hi 1 (by omega) (.bool false) rfl ⟨rfl, rfl, rfl⟩
    have e2 := e1.mem.setSrcE (i := i) { X.srcs[i] with idle := false, sil := 0 } (by simp; exact hi) 3 (by omega) (.int .i64 0) (by simp [PSrc.vals]) (by simp)
    simp only [List.set_set] at e2
    exact e1.trans e2
  clear c6 s1 s3 f1 f3
  generalize (w.setCell ⟨X.sg, i * 6 + 1, none⟩ (.bool false)).setCell ⟨X.sg, i * 6 + 3, none⟩ (.int .i64 0) = wq at *
  obtain ⟨_, _, _, _, _, c7, _⟩ := HE1.out.mem.cells
  have hl1 : i < X1.srcs.length := by rw [HX1.out]; simp; exact hi
  go_wp2_with (go_at_call 62; refine (xraise_any b X1 i _ _ HE1.out.mem hl1).mono ?_; rintro e w' ⟨rfl, hev⟩)
  go_end0
  refine ⟨rfl, ?_⟩
  have ht := HE1.out.trans hev
  have e1 := HX1.out
  subst e1
  simp only [List.getElem_set_self, List.set_set] at ht
  exact ht

set_option maxHeartbeats 800000 in
theorem xtouch_any (b : Nat) (X : Eng) (i : Nat) (w : World) (h : MemX w b X) (hi : i < X.srcs.length) :
    Calls Tryz.prog 60 #[.pointer (some ⟨b, 0, none⟩), .int .i64 i] w fun e w' => e = .returned (.tuple #[]) ∧ EvoX w b X w' { X with srcs := X.srcs.set i (X.srcs[i].touched X.merged) } := by
  obtain ⟨_, _, _, _, c6, _⟩ := h.cells
  have s3 := h.srcCell i 3 hi (by omega)
  simp only [PSrc.vals, List.getElem?_cons_zero, List.getElem?_cons_succ, Nat.add_zero] at s3
  have f3 := h.srcFrozen (i * 6 + 3) (by omega)
  have hi' : (i : Int) < (X.srcs.length : Int) := by omega
  have hi0 : (0 : Int) ≤ (i : Int) := by omega
  have H : Hid (MemX w b X) := h
  have hbs : b ≠ X.sg := fun e => by have := h.dis 0 1 b rfl (by rw [e]; rfl); omega
  clear h
  go_enter Tryz.func60, Tryz.ntmps60
  go_upto_region 1 with fail
  obtain ⟨X1, HX1⟩ := hex ({ X with srcs := X.srcs.set i { X.srcs[i] with sil := 0 } } : Eng)
  have HE1 : Hid (EvoX w b X (w.setCell ⟨X.sg, i * 6 + 3, none⟩ (.int .i64 0)) X1) := by
    show EvoX _ _ _ _ _
    rw [HX1.out]
    exact H.out.setSrcE { X.srcs[i] with sil := 0 } hi 3 (by omega) (.int .i64 0) rfl ⟨rfl, rfl, rfl⟩
  have hp1 : X1.srcs.length = X.srcs.length := by rw [HX1.out]; simp
  have hl1 : i < X1.srcs.length := by omega
  have hp2 : Hid (X1.srcs[i] = { X.srcs[i] with sil := 0 } ∧ X1.merged = X.merged) := by show _ ∧ _; have e1 := HX1.out; subst e1; simp
  have hsg : X1.sg = X.sg ∧ X1.sc = X.sc := by rw [HX1.out]; exact ⟨rfl, rfl⟩
  clear c6 s3 f3
  generalize w.setCell ⟨X.sg, i * 6 + 3, none⟩ (.int .i64 0) = wq at *
  obtain ⟨_, _, _, _, c6, _⟩ := HE1.out.mem.cells
  rw [hsg.1, hsg.2, hp1] at c6
  have s1 := HE1.out.mem.srcCell i 1 hl1 (by omega)
  rw [hp2.out.1, hsg.1] at s1
  simp only [PSrc.vals, List.getElem?_cons_zero, List.getElem?_cons_succ, Nat.add_zero] at s1
  have key : Hid (({ X1 with srcs := X1.srcs.set i (X1.srcs[i].activated X1.merged) } : Eng) = { X with srcs := X.srcs.set i (({ X.srcs[i] with sil := 0 } : PSrc).activated X.merged) }) := by
    show _ = _
    have e1 := HX1.out
    subst e1
    simp
  cases hid : X.srcs[i].idle with
  | false =>
    rw [hid] at s1
    go_wp2
    go_end0
    refine ⟨rfl, ?_⟩
    have ht := HE1.out
    rw [HX1.out] at ht
    unfold PSrc.touched
    simp only [hid, Bool.false_eq_true, if_false]
    simp only [hid] at ht
    exact ht
  | true =>
    rw [hid] at s1
    go_wp2_with (go_at_call 52; refine (xactivate_any b X1 i _ HE1.out.mem hl1).mono ?_; rintro e w' ⟨rfl, hev⟩)
    go_end0
    refine ⟨rfl, ?_⟩
    have ht := HE1.out.trans hev
    rw [key.out] at ht
    unfold PSrc.touched
    simp only [hid, if_true]
    simp only [hid] at ht
    exact ht
end Go.Proofs.YtghcololkgeoeabGreat
namespace Go.Proofs.YtghcololkgeoeabGreat
open Go.RowKit
set_option linter.unusedVariables false
set_option linter.unusedSimpArgs false
attribute [local go_sem ↓] Go.wp_at_zero Go.wp_at_succ

set_option maxRecDepth 100000 in
set_option maxHeartbeats 2000000 in
theorem xwaitingOf_any (b : Nat) (X : Eng) (s : Int) (w : World) (h : MemX w b X) (hall : X.wait.length ≤ 1000) :
    Calls Tryz.prog 40 #[.pointer (some ⟨b, 0, none⟩), .int .i64 s] w fun e w' => e = .returned (.int .i64 (X.waitOf s)) ∧ Below w.heap.size w w' := by
  have hlt0 := h.eng.lt
  have HW : Hid (Row w 30 5 X.wa X.wait.length X.wc (evs X.wait)) := h.wt
  obtain ⟨_, _, _, _, _, _, c8, _⟩ := h.cells
  clear h
  unfold Eng.waitOf
  obtain ⟨L, HL⟩ := hex X.wait
  rw [← HL.out] at HW c8 hall ⊢
  go_enter Tryz.func40, Tryz.ntmps40
  go_wp2
  go_loopw [5, 13] (fun v i wr => ∃ (k : Nat), k ≤ L.length ∧ i = .int .i64 k ∧ v = .int .i64 ((L.take k).filter (fun e => decide (e.src = s))).length ∧ Below w.heap.size w wr) (fun _ i _ => L.length - (intOf i).toNat)
  case atStart => exact ⟨0, Nat.zero_le _, rfl, by simp, Below.refl _ _⟩
  case round =>
    obtain ⟨k, hk, rfl, rfl, hbel⟩ := hrel
    have hfl : ((L.take k).filter (fun e => decide (e.src = s))).length ≤ 1000 := by
      have := List.length_filter_le (fun e : Ev => decide (e.src = s)) (L.take k)
      simp at this; omega
    by_cases hlt : k < L.length
    · have HWr : Hid (Row wr 30 5 X.wa L.length X.wc (evs L)) := ownsRow_of_heap HW.out (fun k hk => hbel.block k hk)
      obtain ⟨g, hg, hnc, e0, e1, e2, e3, e4⟩ := evRow_cells HWr.out k hlt
      have hlt' : (k : Int) < (L.length : Int) := by omega
      have hk0 : (0 : Int) ≤ (k : Int) := by omega
      have hsz := hbel.size
      have HF : Hid ((L.take (k + 1)).filter (fun e => decide (e.src = s)) = (L.take k).filter (fun e => decide (e.src = s)) ++ if decide (L[k].src = s) then [L[k]] else []) := filter_snoc _ _ _ hlt
      clear c8
      rw [hg]
      generalize (L.take k).filter (fun e => decide (e.src = s)) = M at *
      generalize hE : L[k] = E at *
      by_cases t : E.src = s
      · subst t
        go_wp2
        go_roundw
        case rel =>
          refine ⟨k + 1, by omega, by go_num, ?_, hbel.alloc (by omega) _⟩
          rw [HF.out]; simp
        case measure => simp [intOf]; omega
      · have h3 : (E.src == s) = false := by simpa using t
        have hd : decide (E.src = s) = false := by simpa using t
        go_wp2
        go_roundw
        case rel =>
          refine ⟨k + 1, by omega, by go_num, ?_, hbel.alloc (by omega) _⟩
          rw [HF.out, hd]; simp
        case measure => simp [intOf]; omega
    · go_wp2
      go_ret
      exact ⟨ret_int (by rw [List.take_of_length_le (by omega)]), hbel⟩

theorem leastTo_succ {X : Eng} {k : Nat} (hk : k < X.srcs.length) : X.leastTo (k + 1) = if (X.srcs[k].inn && !X.srcs[k].idle && (!(X.leastTo k).2 || decide (X.srcs[k].mark < (X.leastTo k).1))) = true then (X.srcs[k].mark, true) else X.leastTo k := by
  rw [Eng.leastTo, List.getElem?_eq_getElem hk]
set_option maxRecDepth 100000 in
set_option maxHeartbeats 4000000 in
theorem xleast_any (b : Nat) (X : Eng) (w : World) (h : MemX w b X) (hn : X.srcs.length ≤ 6) :
    Calls Tryz.prog 96 #[.pointer (some ⟨b, 0, none⟩)] w fun e w' => e = .returned (.tuple #[.int .i64 (X.leastTo X.srcs.length).1, .bool (X.leastTo X.srcs.length).2]) ∧ Below w.heap.size w w' := by
  have H : Hid (MemX w b X) := h
  obtain ⟨_, _, _, _, c6, _⟩ := h.cells
  clear h
  go_enter Tryz.func96, Tryz.ntmps96
  go_wp2
  go_loopw [4, 5, 13] (fun m a i wr => ∃ (k : Nat), k ≤ X.srcs.length ∧ i = .int .i64 k ∧ m = .int .i64 (X.leastTo k).1 ∧ a = .bool (X.leastTo k).2 ∧ Below w.heap.size w wr) (fun _ _ i _ => X.srcs.length - (intOf i).toNat)
  case atStart => exact ⟨0, Nat.zero_le _, rfl, rfl, rfl, Below.refl _ _⟩
  case round =>
    obtain ⟨k, hk, rfl, rfl, rfl, hbel⟩ := hrel
    by_cases hlt : k < X.srcs.length
    · have hlt' : (k : Int) < (X.srcs.length : Int) := by omega
      have hk0 : (0 : Int) ≤ (k : Int) := by omega
      have hM := H.out.below hbel
      have s0 := hM.srcCell k 0 hlt (by omega)
      have s1 := hM.srcCell k 1 hlt (by omega)
      have s2 := hM.srcCell k 2 hlt (by omega)
      have s3 := hM.srcCell k 3 hlt (by omega)
      have s4 := hM.srcCell k 4 hlt (by omega)
      have s5 := hM.srcCell k 5 hlt (by omega)
      simp only [PSrc.vals, List.getElem?_cons_zero, List.getElem?_cons_succ, Nat.add_zero] at s0 s1 s2 s3 s4 s5
      have hsz := hbel.size
      have HS : Hid (X.leastTo (k + 1) = if (X.srcs[k].inn && !X.srcs[k].idle && (!(X.leastTo k).2 || decide (X.srcs[k].mark < (X.leastTo k).1))) = true then (X.srcs[k].mark, true) else X.leastTo k) := leastTo_succ hlt
      clear c6 hM
      obtain ⟨P, HP⟩ := hex X.srcs[k]
      rw [← HP.out] at s0 s1 s2 s3 s4 s5 HS
      generalize X.leastTo k = q at *
      obtain ⟨q1, q2⟩ := q
      simp only at HS
      generalize hin : P.inn = pin at *
      generalize hid : P.idle = pid at *
      cases pin with
      | false =>
        have HN : Hid (X.leastTo (k + 1) = (q1, q2)) := by show _ = _; rw [HS.out]; simp
        go_wp2
        go_roundw
        case rel => exact ⟨k + 1, by omega, by go_num, by rw [HN.out], by rw [HN.out], hbel.alloc (by omega) _⟩
        case measure => simp [intOf]; omega
      | true =>
        cases pid with
        | true =>
          have HN : Hid (X.leastTo (k + 1) = (q1, q2)) := by show _ = _; rw [HS.out]; simp
          go_wp2
          go_roundw
          case rel => exact ⟨k + 1, by omega, by go_num, by rw [HN.out], by rw [HN.out], hbel.alloc (by omega) _⟩
          case measure => simp [intOf]; omega
        | false =>
          cases q2 with
          | false =>
            have HN : Hid (X.leastTo (k + 1) = (P.mark, true)) := by show _ = _; rw [HS.out]; simp
            go_wp2
            go_roundw
            case rel => exact ⟨k + 1, by omega, by go_num, by rw [HN.out], by rw [HN.out], hbel.alloc (by omega) _⟩
            case measure => simp [intOf]; omega
          | true =>
            by_cases hm : P.mark < q1
            · have HN : Hid (X.leastTo (k + 1) = (P.mark, true)) := by show _ = _; rw [HS.out]; simp [hm]
              go_wp2
              go_roundw
              case rel => exact ⟨k + 1, by omega, by go_num, by rw [HN.out], by rw [HN.out], hbel.alloc (by omega) _⟩
              case measure => simp [intOf]; omega
            · have HN : Hid (X.leastTo (k + 1) = (q1, true)) := by show _ = _; rw [HS.out]; simp [hm]
              have hd : decide (P.mark < q1) = false := by simpa using hm
              go_wp2
              go_roundw
              case rel => exact ⟨k + 1, by omega, by go_num, by rw [HN.out], by rw [HN.out], hbel.alloc (by omega) _⟩
              case measure => simp [intOf]; omega
    · obtain rfl : k = X.srcs.length := by omega
      go_wp2
      refine bodyPost_ret (v := .tuple #[.int .i64 (X.leastTo X.srcs.length).1, .bool (X.leastTo X.srcs.length).2]) (by simp [results, Tryz.results96, go_sem]) rfl ⟨rfl, hbel⟩

theorem lastTs_get (l : List Ev) (h : 0 < l.length) : lastTs l = (l[l.length - 1]'(by omega)).ts := by
  unfold lastTs
  rw [List.getLast?_eq_getElem?, List.getElem?_eq_getElem (by omega)]
set_option maxRecDepth 100000 in
set_option maxHeartbeats 4000000 in
theorem xmerge_any (b : Nat) (X : Eng) (w : World) (h : MemX w b X) (hn : X.srcs.length ≤ 6) (hall : X.wait.length ≤ 1000) (hts : ∀ e ∈ X.wait, -4398046511104 ≤ e.ts ∧ e.ts ≤ 4398046511104) :
    Calls Tryz.prog 82 #[.pointer (some ⟨b, 0, none⟩)] w fun e w' => e = .returned (.tuple #[]) ∧ EvoX w b X w' { X with merged := X.rise } := by
  have H : Hid (MemX w b X) := h
  clear h
  have HA : Hid (X.aim = if (!(X.leastTo X.srcs.length).2 && decide (0 < X.wait.length)) = true then lastTs X.wait + 1 else (X.leastTo X.srcs.length).1) := rfl
  have HR : Hid (X.rise = if X.merged < X.aim then X.aim else X.merged) := rfl
  have fin : Hid (∀ (w2 : World) (m : Int), Below w.heap.size w w2 → X.aim = m → (X.merged < m → EvoX w b X (w2.setCell ⟨b, 10, none⟩ (.int .i64 m)) { X with merged := X.rise }) ∧ (¬ X.merged < m → EvoX w b X w2 { X with merged := X.rise })) := by
    intro w2 m hb hm
    refine ⟨fun hlt => ?_, fun hlt => ?_⟩
    · rw [HR.out, hm, if_pos hlt]
      exact (EvoX.below H.out hb).trans ((H.out.below hb).setMergedE m)
    · rw [HR.out, hm, if_neg hlt]
      exact EvoX.below H.out hb
  go_enter Tryz.func82, Tryz.ntmps82
  go_upto_region 1 with (go_at_call 96; refine (xleast_any b X _ H.out hn).mono ?_; rintro e w2 ⟨rfl, hb2⟩)
  have HB2 : Hid (Below w.heap.size w w2) := hb2
  clear hb2
  obtain ⟨_, _, _, _, _, c7, c8, _⟩ := (H.out.below HB2.out).cells
  have f7 := (H.out.below HB2.out).eng.frozen 10
  generalize X.leastTo X.srcs.length = q at *
  obtain ⟨q1, q2⟩ := q
  simp only at HA ⊢
  cases q2 with
  | true =>
    have HM : Hid (X.aim = q1) := by show _ = _; rw [HA.out]; simp
    by_cases hm : X.merged < q1
    · go_wp2
      go_end0
      exact ⟨rfl, (fin.out _ q1 HB2.out HM.out).1 hm⟩
    · have hd : decide (X.merged < q1) = false := by simpa using hm
      go_wp2
      go_end0
      exact ⟨rfl, (fin.out _ q1 HB2.out HM.out).2 hm⟩
  | false =>
    by_cases h0 : 0 < X.wait.length
    · have HM : Hid (X.aim = (X.wait[X.wait.length - 1]'(by omega)).ts + 1) := by show _ = _; rw [HA.out]; simp [h0, lastTs_get _ h0]
      have hb := hts _ (List.getElem_mem (show X.wait.length - 1 < X.wait.length by omega))
      obtain ⟨g, hg, hnc, _, _, e2, _, _⟩ := evRow_cells (H.out.below HB2.out).wt (X.wait.length - 1) (by omega)
      obtain ⟨t, HT⟩ := hex (X.wait[X.wait.length - 1]'(by omega)).ts
      rw [← HT.out] at e2 HM hb
      have h0' : (0 : Int) < (X.wait.length : Int) := by omega
      rw [hg] at c8
      obtain ⟨n, hn'⟩ : ∃ n : Nat, X.wait.length = n + 1 := ⟨X.wait.length - 1, by omega⟩
      rw [hn'] at c8 h0' hall hnc
      simp only [hn', Nat.add_sub_cancel] at e2
      have hx1 : ((n + 1 : Nat) : Int) - 1 = (n : Int) := by omega
      have hx2 : (0 : Int) ≤ (n : Int) := by omega
      have hx3 : (n : Int) < ((n + 1 : Nat) : Int) := by omega
      by_cases hm : X.merged < t + 1
      · go_wp2
        go_quiet (fail)
        go_wp2
        go_end0
        exact ⟨rfl, (fin.out _ (t + 1) (bdrewN HB2.out _) HM.out).1 hm⟩
      · have hd : decide (X.merged < t + 1) = false := by simpa using hm
        go_wp2
        go_quiet (fail)
        go_wp2
        go_end0
        exact ⟨rfl, (fin.out _ (t + 1) (bdrewN HB2.out _) HM.out).2 hm⟩
    · have HM : Hid (X.aim = q1) := by show _ = _; rw [HA.out]; simp [h0]
      have hw0 : X.wait.length = 0 := by omega
      rw [hw0] at c8
      by_cases hm : X.merged < q1
      · go_wp2
        go_end0
        exact ⟨rfl, (fin.out _ q1 HB2.out HM.out).1 hm⟩
      · have hd : decide (X.merged < q1) = false := by simpa using hm
        go_wp2
        go_end0
        exact ⟨rfl, (fin.out _ q1 HB2.out HM.out).2 hm⟩
end Go.Proofs.YtghcololkgeoeabGreat
