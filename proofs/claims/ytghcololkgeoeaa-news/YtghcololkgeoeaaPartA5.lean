import Derived.Test.YtghcololkgeoeaaPartA4
import Derived.Test.YtghcololkgeoeaaPartA0
namespace Go.Proofs.Ytghcololkgeoeaa
open Go.RowKit
set_option linter.unusedVariables false
set_option linter.unusedSimpArgs false

theorem toRow {w : World} {base : Nat} {t : TypeId} {sz : Nat} {a : Option Addr} {n c : Nat} {xs : List Value} (h : w.ownsRow base t sz (.slice a n c) n xs) : Row w t sz a n c xs := by
  obtain ⟨h1, h2⟩ := h
  refine ⟨h1, ?_⟩
  rcases h2 with h2 | ⟨g, cap, cur, hv, hg, r⟩
  · exact Or.inl h2
  · exact Or.inr ⟨g, cap, cur, hv, Nat.zero_le _, r⟩
theorem MemR.setMerged {w : World} {b : Nat} {R : Ref} (h : MemR w b R) (m : Int) : MemR (w.setCell ⟨b, 12, none⟩ (.int .i64 m)) b { R with merged := m } := by
  have d : ∀ i o k, (R.fp b)[i]? = some o → i ≠ 0 → o = some k → k ≠ b := fun i o k hi h0 e f => by
    subst f; subst e
    exact h0 (h.dis i 0 k hi rfl)
  have K : Kept (fun k => k = b) w (w.setCell ⟨b, 12, none⟩ (.int .i64 m)) := (Kept.refl (fun k => k = b) w).setCell (fun _ => rfl) _
  refine ⟨?_, h.stp.kept K (fun k e => d 1 _ k rfl (by omega) e), h.src.kept K (fun k e => d 2 _ k rfl (by omega) e), h.all.kept K (fun k e => d 3 _ k rfl (by omega) e), h.asd.kept K (fun k e => d 4 _ k rfl (by omega) e), ?_, ?_, h.dis⟩
  · exact h.eng.set 12 _
  · intro i r hr
    obtain ⟨hi, rfl⟩ := List.getElem?_eq_some_iff.1 hr
    exact (h.mrk i _ hr).kept K (fun k e => d _ _ k (fp_src hi).1 (by omega) e)
  · intro i r hr
    obtain ⟨hi, rfl⟩ := List.getElem?_eq_some_iff.1 hr
    exact (h.sqs i _ hr).kept K (fun k e => d _ _ k (fp_src hi).2 (by omega) e)

/-- the least mark of the active ones among the first k sources -/
def Ref.active (R : Ref) (i : Nat) : Bool := (match R.srcs[i]? with | some r => r.inn | none => false) && !R.isIdle i
def Ref.leastOf (R : Ref) : Nat → Option Int
  | 0 => none
  | k + 1 => if R.active k then (match R.leastOf k with | none => some (R.mark k) | some m => if R.mark k < m then some (R.mark k) else some m) else R.leastOf k
/-- one more than the greatest time -/
def topOf (l : List Ev) : Option Int := l.foldl (fun o e => match o with | none => some (e.ts + 1) | some m => if m < e.ts + 1 then some (e.ts + 1) else some m) none
theorem topOf_snoc (l : List Ev) (e : Ev) : topOf (l ++ [e]) = match topOf l with | none => some (e.ts + 1) | some m => if m < e.ts + 1 then some (e.ts + 1) else some m := by
  unfold topOf; rw [List.foldl_append]; rfl
theorem topOf_none (l : List Ev) : topOf l = none ↔ l = [] := by
  constructor
  · intro h
    rcases List.eq_nil_or_concat l with e | ⟨L, x, e⟩
    · exact e
    · rw [e, List.concat_eq_append, topOf_snoc] at h
      split at h
      · simp at h
      · split at h <;> simp at h
  · rintro rfl; rfl
def Ref.aim (R : Ref) : Option Int := if (R.leastOf R.srcs.length).isSome then R.leastOf R.srcs.length else topOf (R.wait (-1))
def Ref.settled (R : Ref) : Ref := match R.aim with | some m => if R.merged < m then { R with merged := m } else R | none => R

theorem Ref.active_eq {R : Ref} {i : Nat} (hi : i < R.srcs.length) : R.active i = (R.srcs[i].inn && !R.isIdle i) := by simp [Ref.active, List.getElem?_eq_getElem hi]

end Go.Proofs.Ytghcololkgeoeaa
namespace Go.Proofs.Ytghcololkgeoeaa
open Go.RowKit
set_option linter.unusedVariables false
set_option linter.unusedSimpArgs false

/-- What a change of the rows with the numbers j1 and j2 leaves. -/
structure ButR (w' : World) (b : Nat) (R : Ref) (j1 j2 : Nat) : Prop where
  eng : 0 ≠ j1 → 0 ≠ j2 → Blk w' b 61 R.vals
  stp : 1 ≠ j1 → 1 ≠ j2 → Row w' 78 2 R.pa R.steps.length R.pc (flat R.steps)
  src : 2 ≠ j1 → 2 ≠ j2 → Row w' 93 5 (some ⟨R.sg, 0, none⟩) R.srcs.length R.sc (R.srcs.flatMap RSrc.vals)
  all : 3 ≠ j1 → 3 ≠ j2 → Row w' 36 5 R.aa R.all.length R.ac (evs R.all)
  asd : 4 ≠ j1 → 4 ≠ j2 → Row w' 36 5 R.da R.aside.length R.dc (evs R.aside)
  mrk : ∀ (i : Nat) r, R.srcs[i]? = some r → 5 + 2 * i ≠ j1 → 5 + 2 * i ≠ j2 → Row w' 3 1 r.ma r.marks.length r.mc (ints r.marks)
  sqs : ∀ (i : Nat) r, R.srcs[i]? = some r → 6 + 2 * i ≠ j1 → 6 + 2 * i ≠ j2 → Row w' 3 1 r.qa r.seqs.length r.qc (ints r.seqs)

theorem MemR.but {S : Nat → Prop} {w w' : World} {b : Nat} {R : Ref} {j1 j2 : Nat} {o1 o2 : Option Nat} (h : MemR w b R) (K : Kept S w w') (h1 : (R.fp b)[j1]? = some o1) (h2 : (R.fp b)[j2]? = some o2) (hS : ∀ k, S k → o1 = some k ∨ o2 = some k) : ButR w' b R j1 j2 := by
  have n : ∀ i k, (R.fp b)[i]? = some (some k) → i ≠ j1 → i ≠ j2 → ¬ S k := fun i k hi n1 n2 hs => by
    rcases hS k hs with e | e
    · exact n1 (h.dis i j1 k hi (by rw [h1, e]))
    · exact n2 (h.dis i j2 k hi (by rw [h2, e]))
  refine ⟨fun a c => h.eng.kept K (n 0 b rfl a c), fun a c => h.stp.kept K (fun k e => n 1 k (by rw [← e]; rfl) a c), fun a c => h.src.kept K (fun k e => n 2 k (by rw [← e]; rfl) a c), fun a c => h.all.kept K (fun k e => n 3 k (by rw [← e]; rfl) a c), fun a c => h.asd.kept K (fun k e => n 4 k (by rw [← e]; rfl) a c), ?_, ?_⟩
  · intro i r hr a c
    obtain ⟨hi, rfl⟩ := List.getElem?_eq_some_iff.1 hr
    exact (h.mrk i _ hr).kept K (fun k e => n _ k (by rw [(fp_src hi).1, e]) a c)
  · intro i r hr a c
    obtain ⟨hi, rfl⟩ := List.getElem?_eq_some_iff.1 hr
    exact (h.sqs i _ hr).kept K (fun k e => n _ k (by rw [(fp_src hi).2, e]) a c)

/-- the source row behind a change of one source -/
theorem srcs_set {R : Ref} {w' : World} {i : Nat} (r' : RSrc) (hi : i < R.srcs.length) (o : Nat) (ho : o < 5) (v : Value) (hv : r'.vals = R.srcs[i].vals.set o v)
    (h : Row w' 93 5 (some ⟨R.sg, 0, none⟩) R.srcs.length R.sc (R.srcs.flatMap RSrc.vals)) :
    Row (w'.setCell ⟨R.sg, i * 5 + o, none⟩ v) 93 5 (some ⟨R.sg, 0, none⟩) (R.srcs.set i r').length R.sc ((R.srcs.set i r').flatMap RSrc.vals) := by
  have := h.set (i * 5 + o) v
  rw [flatMap_set _ 5 RSrc.len _ i o ho hi v r' hv] at this
  rw [List.length_set]
  exact this
theorem set_get {α : Type} {l : List α} {i j : Nat} {a b : α} (h : (l.set i a)[j]? = some b) : (i = j ∧ b = a) ∨ (i ≠ j ∧ l[j]? = some b) := by
  rw [List.getElem?_set] at h
  split at h
  · rename_i e
    split at h
    · simp only [Option.some.injEq] at h; exact Or.inl ⟨e, h.symm⟩
    · simp at h
  · rename_i e; exact Or.inr ⟨e, h⟩
theorem fp_set_src {R : Ref} {b i : Nat} (r' : RSrc) (hi : i < R.srcs.length) : ({ R with srcs := R.srcs.set i r' } : Ref).fp b = ((R.fp b).set (5 + 2 * i) (bk r'.ma)).set (6 + 2 * i) (bk r'.qa) := by
  have key : ∀ (l : List RSrc) (i : Nat), i < l.length → (l.set i r').flatMap (fun r => [bk r.ma, bk r.qa]) = ((l.flatMap (fun r => [bk r.ma, bk r.qa])).set (2 * i) (bk r'.ma)).set (2 * i + 1) (bk r'.qa) := by
    intro l
    induction l with
    | nil => intro i hi; simp at hi
    | cons a l ih =>
      intro i hi
      cases i with
      | zero => simp
      | succ i =>
        simp only [List.set_cons_succ, List.flatMap_cons]
        rw [ih i (by simpa using hi), List.set_append_right _ _ (by simp; omega), List.set_append_right _ _ (by simp; omega)]
        simp [show 2 * (i + 1) - 2 = 2 * i by omega, show 2 * (i + 1) + 1 - 2 = 2 * i + 1 by omega]
  unfold Ref.fp
  simp only
  rw [key R.srcs i hi, List.set_append_right _ _ (by simp), List.set_append_right _ _ (by simp; omega)]
  simp [show 5 + 2 * i - 5 = 2 * i by omega, show 6 + 2 * i - 5 = 2 * i + 1 by omega]
theorem set_self {α : Type} {l : List α} {i : Nat} {a : α} (h : l[i]? = some a) : l.set i a = l := by
  apply List.ext_getElem?
  intro j
  rw [List.getElem?_set]
  split
  · rename_i e
    subst e
    rw [h, if_pos (by rw [List.getElem?_eq_some_iff] at h; exact h.1)]
  · rfl

/-- In, Silence, Rest: one cell of a source -/
theorem MemR.setSrc {w : World} {b : Nat} {R : Ref} {i : Nat} (h : MemR w b R) (r' : RSrc) (hi : i < R.srcs.length) (o : Nat) (ho : o < 5) (v : Value) (hv : r'.vals = R.srcs[i].vals.set o v)
    (hm : r'.marks = R.srcs[i].marks ∧ r'.ma = R.srcs[i].ma ∧ r'.mc = R.srcs[i].mc) (hq : r'.seqs = R.srcs[i].seqs ∧ r'.qa = R.srcs[i].qa ∧ r'.qc = R.srcs[i].qc) :
    MemR (w.setCell ⟨R.sg, i * 5 + o, none⟩ v) b { R with srcs := R.srcs.set i r' } ∧ Kept (fun k => some k ∈ R.fp b) w (w.setCell ⟨R.sg, i * 5 + o, none⟩ v) := by
  have K : Kept (fun k => k = R.sg) w (w.setCell ⟨R.sg, i * 5 + o, none⟩ v) := (Kept.refl (fun k => k = R.sg) w).setCell (fun _ => rfl) _
  have B := h.but (j1 := 2) (j2 := 2) K rfl rfl (fun k e => Or.inl (by rw [e]))
  have hfp : ({ R with srcs := R.srcs.set i r' } : Ref).fp b = R.fp b := by
    rw [fp_set_src r' hi, hm.2.1, hq.2.1, set_self (fp_src hi).1, set_self (fp_src hi).2]
  refine ⟨⟨?_, B.stp (by omega) (by omega), srcs_set r' hi o ho v hv h.src, B.all (by omega) (by omega), B.asd (by omega) (by omega), ?_, ?_, by rw [hfp]; exact h.dis⟩, K.mono (fun k _ e => by subst e; simp [Ref.fp])⟩
  · have := B.eng (by omega) (by omega)
    unfold Ref.vals at *
    simpa using this
  · intro j r hr
    rcases set_get hr with ⟨e, rfl⟩ | ⟨_, hr⟩
    · subst e
      rw [hm.1, hm.2.1, hm.2.2]
      exact B.mrk i _ (List.getElem?_eq_getElem hi) (by omega) (by omega)
    · exact B.mrk j r hr (by omega) (by omega)
  · intro j r hr
    rcases set_get hr with ⟨e, rfl⟩ | ⟨_, hr⟩
    · subst e
      rw [hq.1, hq.2.1, hq.2.2]
      exact B.sqs i _ (List.getElem?_eq_getElem hi) (by omega) (by omega)
    · exact B.sqs j r hr (by omega) (by omega)

theorem ints_snoc (l : List Int) (x : Int) : ints (l ++ [x]) = ints l ++ [.int .i64 x] := by simp [ints]
/-- where a row lies behind an append -/
theorem app_at {a : Option Addr} {n c g H : Nat} (h : (Value.slice a n c).ownBlock = some g ∨ g = H) : bk a = some g ∨ ∃ k, some g = some k ∧ H ≤ k := by
  rcases h with h | h
  · rw [bk_own] at h; exact Or.inl h
  · exact Or.inr ⟨g, rfl, by omega⟩

/-- a mark more -/
theorem MemR.appMark {w w1 : World} {b : Nat} {R : Ref} {i g cap : Nat} {x : Int} {w0 : World} (h : MemR w b R) (hb0 : Below w.heap.size w w0) (hi : i < R.srcs.length)
    (hown : w1.ownsRow 0 3 1 (.slice (some ⟨g, 0, none⟩) (R.srcs[i].marks.length + 1) cap) (R.srcs[i].marks.length + 1) (ints R.srcs[i].marks ++ [.int .i64 x]))
    (hg : w0.grownBy w1 (Value.slice R.srcs[i].ma R.srcs[i].marks.length R.srcs[i].mc).ownBlock) (hat : (Value.slice R.srcs[i].ma R.srcs[i].marks.length R.srcs[i].mc).ownBlock = some g ∨ g = w.heap.size + 1) :
    MemR (w1.setCell ⟨R.sg, i * 5 + 2, none⟩ (.slice (some ⟨g, 0, none⟩) (R.srcs[i].marks.length + 1) cap)) b { R with srcs := R.srcs.set i { R.srcs[i] with marks := R.srcs[i].marks ++ [x], ma := some ⟨g, 0, none⟩, mc := cap } } ∧
      Kept (fun k => some k ∈ R.fp b) w (w1.setCell ⟨R.sg, i * 5 + 2, none⟩ (.slice (some ⟨g, 0, none⟩) (R.srcs[i].marks.length + 1) cap)) := by
  rw [bk_own] at hg
  have hsg : R.sg < w.heap.size := h.src.lt (a := some ⟨R.sg, 0, none⟩) rfl
  have hgs : g ≠ R.sg := by
    intro e
    rcases hat with hat | hat
    · rw [bk_own] at hat
      exact h.dis.ne (i := 2) (j := 5 + 2 * i) rfl (fp_src hi).1 (by omega) (by rw [hat, e])
    · omega
  have K1 : Kept (fun k => bk R.srcs[i].ma = some k) w w1 := ((Kept.refl (fun k => bk R.srcs[i].ma = some k) w).below hb0).grown hg (fun k _ e => e)
  have B1 := h.but (j1 := 5 + 2 * i) (j2 := 5 + 2 * i) K1 (fp_src hi).1 (fp_src hi).1 (fun k e => Or.inl e)
  have K : Kept (fun k => bk R.srcs[i].ma = some k ∨ k = R.sg) w (w1.setCell ⟨R.sg, i * 5 + 2, none⟩ (.slice (some ⟨g, 0, none⟩) (R.srcs[i].marks.length + 1) cap)) := (K1.mono (S' := fun k => bk R.srcs[i].ma = some k ∨ k = R.sg) (fun k _ e => Or.inl e)).setCell (fun _ => Or.inr rfl) _
  have B := h.but (j1 := 5 + 2 * i) (j2 := 2) K (fp_src hi).1 rfl (fun k e => e.imp id (fun e => by rw [e]))
  refine ⟨⟨?_, B.stp (by omega) (by omega), ?_, B.all (by omega) (by omega), B.asd (by omega) (by omega), ?_, ?_, ?_⟩, K.mono (fun k _ e => ?_)⟩
  · have := B.eng (by omega) (by omega)
    unfold Ref.vals at *
    simpa using this
  · refine srcs_set _ hi 2 (by omega) _ ?_ (B1.src (by omega) (by omega))
    simp [RSrc.vals]
  · intro j r hr
    rcases set_get hr with ⟨e, rfl⟩ | ⟨hne, hr⟩
    · simp only [ints_snoc, List.length_append, List.length_cons, List.length_nil]
      exact (Row.other (a := some ⟨g, 0, none⟩) hown (by simp [bk]; exact hgs) _)
    · exact B.mrk j r hr (by omega) (by omega)
  · intro j r hr
    rcases set_get hr with ⟨e, rfl⟩ | ⟨hne, hr⟩
    · subst e
      exact B.sqs i R.srcs[i] (List.getElem?_eq_getElem hi) (by omega) (by omega)
    · exact B.sqs j r hr (by omega) (by omega)
  · rw [fp_set_src _ hi]
    simp only
    have hp : PD ((R.fp b).set (5 + 2 * i) (some g)) := h.dis.set (H := w.heap.size) h.fp_lt (by
      rw [(fp_src hi).1]
      rcases app_at hat with e | ⟨k, e, hk⟩
      · exact Or.inl (by rw [e])
      · exact Or.inr ⟨k, e, by omega⟩)
    rw [set_self]
    · exact hp
    · rw [List.getElem?_set, if_neg (by omega)]; exact (fp_src hi).2
  · rcases e with e | e
    · exact List.mem_of_getElem? ((fp_src hi).1.trans (by rw [e]))
    · subst e; simp [Ref.fp]
/-- a number more -/
theorem MemR.appSeq {w w1 : World} {b : Nat} {R : Ref} {i g cap : Nat} {x : Int} {w0 : World} (h : MemR w b R) (hb0 : Below w.heap.size w w0) (hi : i < R.srcs.length)
    (hown : w1.ownsRow 0 3 1 (.slice (some ⟨g, 0, none⟩) (R.srcs[i].seqs.length + 1) cap) (R.srcs[i].seqs.length + 1) (ints R.srcs[i].seqs ++ [.int .i64 x]))
    (hg : w0.grownBy w1 (Value.slice R.srcs[i].qa R.srcs[i].seqs.length R.srcs[i].qc).ownBlock) (hat : (Value.slice R.srcs[i].qa R.srcs[i].seqs.length R.srcs[i].qc).ownBlock = some g ∨ g = w.heap.size + 1) :
    MemR (w1.setCell ⟨R.sg, i * 5 + 3, none⟩ (.slice (some ⟨g, 0, none⟩) (R.srcs[i].seqs.length + 1) cap)) b { R with srcs := R.srcs.set i { R.srcs[i] with seqs := R.srcs[i].seqs ++ [x], qa := some ⟨g, 0, none⟩, qc := cap } } ∧
      Kept (fun k => some k ∈ R.fp b) w (w1.setCell ⟨R.sg, i * 5 + 3, none⟩ (.slice (some ⟨g, 0, none⟩) (R.srcs[i].seqs.length + 1) cap)) := by
  rw [bk_own] at hg
  have hsg : R.sg < w.heap.size := h.src.lt (a := some ⟨R.sg, 0, none⟩) rfl
  have hgs : g ≠ R.sg := by
    intro e
    rcases hat with hat | hat
    · rw [bk_own] at hat
      exact h.dis.ne (i := 2) (j := 6 + 2 * i) rfl (fp_src hi).2 (by omega) (by rw [hat, e])
    · omega
  have K1 : Kept (fun k => bk R.srcs[i].qa = some k) w w1 := ((Kept.refl (fun k => bk R.srcs[i].qa = some k) w).below hb0).grown hg (fun k _ e => e)
  have B1 := h.but (j1 := 6 + 2 * i) (j2 := 6 + 2 * i) K1 (fp_src hi).2 (fp_src hi).2 (fun k e => Or.inl e)
  have K : Kept (fun k => bk R.srcs[i].qa = some k ∨ k = R.sg) w (w1.setCell ⟨R.sg, i * 5 + 3, none⟩ (.slice (some ⟨g, 0, none⟩) (R.srcs[i].seqs.length + 1) cap)) := (K1.mono (S' := fun k => bk R.srcs[i].qa = some k ∨ k = R.sg) (fun k _ e => Or.inl e)).setCell (fun _ => Or.inr rfl) _
  have B := h.but (j1 := 6 + 2 * i) (j2 := 2) K (fp_src hi).2 rfl (fun k e => e.imp id (fun e => by rw [e]))
  refine ⟨⟨?_, B.stp (by omega) (by omega), ?_, B.all (by omega) (by omega), B.asd (by omega) (by omega), ?_, ?_, ?_⟩, K.mono (fun k _ e => ?_)⟩
  · have := B.eng (by omega) (by omega)
    unfold Ref.vals at *
    simpa using this
  · refine srcs_set _ hi 3 (by omega) _ ?_ (B1.src (by omega) (by omega))
    simp [RSrc.vals]
  · intro j r hr
    rcases set_get hr with ⟨e, rfl⟩ | ⟨hne, hr⟩
    · subst e
      exact B.mrk i R.srcs[i] (List.getElem?_eq_getElem hi) (by omega) (by omega)
    · exact B.mrk j r hr (by omega) (by omega)
  · intro j r hr
    rcases set_get hr with ⟨e, rfl⟩ | ⟨hne, hr⟩
    · simp only [ints_snoc, List.length_append, List.length_cons, List.length_nil]
      exact (Row.other (a := some ⟨g, 0, none⟩) hown (by simp [bk]; exact hgs) _)
    · exact B.sqs j r hr (by omega) (by omega)
  · rw [fp_set_src _ hi]
    simp only
    rw [set_self (fp_src hi).1]
    exact h.dis.set (H := w.heap.size) h.fp_lt (by
      rw [(fp_src hi).2]
      rcases app_at hat with e | ⟨k, e, hk⟩
      · exact Or.inl (by rw [e]; rfl)
      · exact Or.inr ⟨k, e, by omega⟩)
  · rcases e with e | e
    · exact List.mem_of_getElem? ((fp_src hi).2.trans (by rw [e]))
    · subst e; simp [Ref.fp]
/-- an event more that waits or is let go -/
theorem MemR.appAll {w w1 : World} {b : Nat} {R : Ref} {g cap : Nat} {x : Ev} {w0 : World} (h : MemR w b R) (hb0 : Below w.heap.size w w0)
    (hown : w1.ownsRow 0 36 5 (.slice (some ⟨g, 0, none⟩) (R.all.length + 1) cap) (R.all.length + 1) (evs R.all ++ x.vals))
    (hg : w0.grownBy w1 (Value.slice R.aa R.all.length R.ac).ownBlock) (hat : (Value.slice R.aa R.all.length R.ac).ownBlock = some g ∨ g = w.heap.size + 1) :
    MemR (w1.setCell ⟨b, 10, none⟩ (.slice (some ⟨g, 0, none⟩) (R.all.length + 1) cap)) b { R with all := R.all ++ [x], aa := some ⟨g, 0, none⟩, ac := cap } ∧
      Kept (fun k => some k ∈ R.fp b) w (w1.setCell ⟨b, 10, none⟩ (.slice (some ⟨g, 0, none⟩) (R.all.length + 1) cap)) := by
  rw [bk_own] at hg
  have hbl : b < w.heap.size := h.eng.lt
  have hgs : g ≠ b := by
    intro e
    rcases hat with hat | hat
    · rw [bk_own] at hat
      exact h.dis.ne (i := 0) (j := 3) rfl rfl (by omega) (by rw [hat, e])
    · omega
  have K1 : Kept (fun k => bk R.aa = some k) w w1 := ((Kept.refl (fun k => bk R.aa = some k) w).below hb0).grown hg (fun k _ e => e)
  have B1 := h.but (j1 := 3) (j2 := 3) K1 rfl rfl (fun k e => Or.inl e)
  have K : Kept (fun k => bk R.aa = some k ∨ k = b) w (w1.setCell ⟨b, 10, none⟩ (.slice (some ⟨g, 0, none⟩) (R.all.length + 1) cap)) := (K1.mono (S' := fun k => bk R.aa = some k ∨ k = b) (fun k _ e => Or.inl e)).setCell (fun _ => Or.inr rfl) _
  have B := h.but (j1 := 3) (j2 := 0) K rfl rfl (fun k e => e.imp id (fun e => by rw [e]))
  refine ⟨⟨?_, B.stp (by omega) (by omega), B.src (by omega) (by omega), ?_, B.asd (by omega) (by omega), fun i r hr => B.mrk i r hr (by omega) (by omega), fun i r hr => B.sqs i r hr (by omega) (by omega), ?_⟩, K.mono (fun k _ e => ?_)⟩
  · have := (B1.eng (by omega) (by omega)).set 10 (.slice (some ⟨g, 0, none⟩) (R.all.length + 1) cap)
    unfold Ref.vals Cfg.vals at *
    simpa using this
  · simp only [evs_snoc, List.length_append, List.length_cons, List.length_nil]
    exact (Row.other (a := some ⟨g, 0, none⟩) hown (by simp [bk]; exact hgs) _)
  · have e : ({ R with all := R.all ++ [x], aa := some ⟨g, 0, none⟩, ac := cap } : Ref).fp b = (R.fp b).set 3 (some g) := rfl
    rw [e]
    exact h.dis.set (H := w.heap.size) h.fp_lt (by
      rcases app_at hat with e | ⟨k, e, hk⟩
      · exact Or.inl (by rw [← e]; rfl)
      · exact Or.inr ⟨k, e, by omega⟩)
  · rcases e with e | e
    · exact List.mem_of_getElem? (i := 3) (by rw [← e]; rfl)
    · subst e; simp [Ref.fp]
/-- an event more that is laid aside -/
theorem MemR.appAside {w w1 : World} {b : Nat} {R : Ref} {g cap : Nat} {x : Ev} {w0 : World} (h : MemR w b R) (hb0 : Below w.heap.size w w0)
    (hown : w1.ownsRow 0 36 5 (.slice (some ⟨g, 0, none⟩) (R.aside.length + 1) cap) (R.aside.length + 1) (evs R.aside ++ x.vals))
    (hg : w0.grownBy w1 (Value.slice R.da R.aside.length R.dc).ownBlock) (hat : (Value.slice R.da R.aside.length R.dc).ownBlock = some g ∨ g = w.heap.size + 1) :
    MemR (w1.setCell ⟨b, 11, none⟩ (.slice (some ⟨g, 0, none⟩) (R.aside.length + 1) cap)) b { R with aside := R.aside ++ [x], da := some ⟨g, 0, none⟩, dc := cap } ∧
      Kept (fun k => some k ∈ R.fp b) w (w1.setCell ⟨b, 11, none⟩ (.slice (some ⟨g, 0, none⟩) (R.aside.length + 1) cap)) := by
  rw [bk_own] at hg
  have hbl : b < w.heap.size := h.eng.lt
  have hgs : g ≠ b := by
    intro e
    rcases hat with hat | hat
    · rw [bk_own] at hat
      exact h.dis.ne (i := 0) (j := 4) rfl rfl (by omega) (by rw [hat, e])
    · omega
  have K1 : Kept (fun k => bk R.da = some k) w w1 := ((Kept.refl (fun k => bk R.da = some k) w).below hb0).grown hg (fun k _ e => e)
  have B1 := h.but (j1 := 4) (j2 := 4) K1 rfl rfl (fun k e => Or.inl e)
  have K : Kept (fun k => bk R.da = some k ∨ k = b) w (w1.setCell ⟨b, 11, none⟩ (.slice (some ⟨g, 0, none⟩) (R.aside.length + 1) cap)) := (K1.mono (S' := fun k => bk R.da = some k ∨ k = b) (fun k _ e => Or.inl e)).setCell (fun _ => Or.inr rfl) _
  have B := h.but (j1 := 4) (j2 := 0) K rfl rfl (fun k e => e.imp id (fun e => by rw [e]))
  refine ⟨⟨?_, B.stp (by omega) (by omega), B.src (by omega) (by omega), B.all (by omega) (by omega), ?_, fun i r hr => B.mrk i r hr (by omega) (by omega), fun i r hr => B.sqs i r hr (by omega) (by omega), ?_⟩, K.mono (fun k _ e => ?_)⟩
  · have := (B1.eng (by omega) (by omega)).set 11 (.slice (some ⟨g, 0, none⟩) (R.aside.length + 1) cap)
    unfold Ref.vals Cfg.vals at *
    simpa using this
  · simp only [evs_snoc, List.length_append, List.length_cons, List.length_nil]
    exact (Row.other (a := some ⟨g, 0, none⟩) hown (by simp [bk]; exact hgs) _)
  · have e : ({ R with aside := R.aside ++ [x], da := some ⟨g, 0, none⟩, dc := cap } : Ref).fp b = (R.fp b).set 4 (some g) := rfl
    rw [e]
    exact h.dis.set (H := w.heap.size) h.fp_lt (by
      rcases app_at hat with e | ⟨k, e, hk⟩
      · exact Or.inl (by rw [← e]; rfl)
      · exact Or.inr ⟨k, e, by omega⟩)
  · rcases e with e | e
    · exact List.mem_of_getElem? (i := 4) (by rw [← e]; rfl)
    · subst e; simp [Ref.fp]

/-- From one state to another: it lies there; only its blocks were written; its new blocks are new. -/
structure Evo (w : World) (b : Nat) (R : Ref) (w' : World) (R' : Ref) : Prop where
  mem : MemR w' b R'
  kept : Kept (fun k => some k ∈ R.fp b) w w'
  grow : ∀ k, some k ∈ R'.fp b → some k ∈ R.fp b ∨ w.heap.size ≤ k
theorem Evo.refl {w : World} {b : Nat} {R : Ref} (h : MemR w b R) : Evo w b R w R := ⟨h, Kept.refl _ w, fun k hk => Or.inl hk⟩
theorem Evo.trans {w w1 w2 : World} {b : Nat} {R R1 R2 : Ref} (h : Evo w b R w1 R1) (g : Evo w1 b R1 w2 R2) : Evo w b R w2 R2 := by
  refine ⟨g.mem, h.kept.trans' g.kept (fun i hi e => ?_), fun k hk => ?_⟩
  · rcases h.grow i e with e | e
    · exact e
    · omega
  · rcases g.grow k hk with e | e
    · exact h.grow k e
    · have := h.kept.size; right; omega
theorem Evo.below {w w' : World} {b : Nat} {R : Ref} (h : MemR w b R) (hb : Below w.heap.size w w') : Evo w b R w' R := ⟨h.below hb, below_kept hb _, fun k hk => Or.inl hk⟩
theorem MemR.setMergedE {w : World} {b : Nat} {R : Ref} (h : MemR w b R) (m : Int) : Evo w b R (w.setCell ⟨b, 12, none⟩ (.int .i64 m)) { R with merged := m } :=
  ⟨h.setMerged m, (Kept.refl (fun k => some k ∈ R.fp b) w).setCell (fun _ => by simp [Ref.fp]) _, fun k hk => Or.inl hk⟩
theorem MemR.setSrcE {w : World} {b : Nat} {R : Ref} {i : Nat} (h : MemR w b R) (r' : RSrc) (hi : i < R.srcs.length) (o : Nat) (ho : o < 5) (v : Value) (hv : r'.vals = R.srcs[i].vals.set o v)
    (hm : r'.marks = R.srcs[i].marks ∧ r'.ma = R.srcs[i].ma ∧ r'.mc = R.srcs[i].mc) (hq : r'.seqs = R.srcs[i].seqs ∧ r'.qa = R.srcs[i].qa ∧ r'.qc = R.srcs[i].qc) :
    Evo w b R (w.setCell ⟨R.sg, i * 5 + o, none⟩ v) { R with srcs := R.srcs.set i r' } := by
  refine ⟨(h.setSrc r' hi o ho v hv hm hq).1, (h.setSrc r' hi o ho v hv hm hq).2, fun k hk => Or.inl ?_⟩
  rwa [fp_set_src r' hi, hm.2.1, hq.2.1, set_self (fp_src hi).1, set_self (fp_src hi).2] at hk
theorem app_grow {w : World} {b : Nat} {R : Ref} {L : List (Option Nat)} {j g : Nat} {a : Option Addr} {n c : Nat} (hL : L = (R.fp b).set j (some g)) (hj : (R.fp b)[j]? = some (bk a)) (hat : (Value.slice a n c).ownBlock = some g ∨ g = w.heap.size + 1) :
    ∀ k, some k ∈ L → some k ∈ R.fp b ∨ w.heap.size ≤ k := by
  intro k hk
  rw [hL] at hk
  rcases List.mem_or_eq_of_mem_set hk with e | e
  · exact Or.inl e
  · simp only [Option.some.injEq] at e
    subst e
    rcases app_at hat with e | ⟨m, e, hm⟩
    · exact Or.inl (List.mem_of_getElem? (by rw [hj, e]))
    · simp only [Option.some.injEq] at e; right; omega
theorem MemR.appMarkE {w w1 : World} {b : Nat} {R : Ref} {i g cap : Nat} {x : Int} {w0 : World} (h : MemR w b R) (hb0 : Below w.heap.size w w0) (hi : i < R.srcs.length)
    (hown : w1.ownsRow 0 3 1 (.slice (some ⟨g, 0, none⟩) (R.srcs[i].marks.length + 1) cap) (R.srcs[i].marks.length + 1) (ints R.srcs[i].marks ++ [.int .i64 x]))
    (hg : w0.grownBy w1 (Value.slice R.srcs[i].ma R.srcs[i].marks.length R.srcs[i].mc).ownBlock) (hat : (Value.slice R.srcs[i].ma R.srcs[i].marks.length R.srcs[i].mc).ownBlock = some g ∨ g = w.heap.size + 1) :
    Evo w b R (w1.setCell ⟨R.sg, i * 5 + 2, none⟩ (.slice (some ⟨g, 0, none⟩) (R.srcs[i].marks.length + 1) cap)) { R with srcs := R.srcs.set i { R.srcs[i] with marks := R.srcs[i].marks ++ [x], ma := some ⟨g, 0, none⟩, mc := cap } } :=
  ⟨(h.appMark hb0 hi hown hg hat).1, (h.appMark hb0 hi hown hg hat).2, app_grow (by rw [fp_set_src _ hi]; simp only; rw [set_self (by rw [List.getElem?_set, if_neg (by omega)]; exact (fp_src hi).2)]; rfl) (fp_src hi).1 hat⟩
theorem MemR.appSeqE {w w1 : World} {b : Nat} {R : Ref} {i g cap : Nat} {x : Int} {w0 : World} (h : MemR w b R) (hb0 : Below w.heap.size w w0) (hi : i < R.srcs.length)
    (hown : w1.ownsRow 0 3 1 (.slice (some ⟨g, 0, none⟩) (R.srcs[i].seqs.length + 1) cap) (R.srcs[i].seqs.length + 1) (ints R.srcs[i].seqs ++ [.int .i64 x]))
    (hg : w0.grownBy w1 (Value.slice R.srcs[i].qa R.srcs[i].seqs.length R.srcs[i].qc).ownBlock) (hat : (Value.slice R.srcs[i].qa R.srcs[i].seqs.length R.srcs[i].qc).ownBlock = some g ∨ g = w.heap.size + 1) :
    Evo w b R (w1.setCell ⟨R.sg, i * 5 + 3, none⟩ (.slice (some ⟨g, 0, none⟩) (R.srcs[i].seqs.length + 1) cap)) { R with srcs := R.srcs.set i { R.srcs[i] with seqs := R.srcs[i].seqs ++ [x], qa := some ⟨g, 0, none⟩, qc := cap } } :=
  ⟨(h.appSeq hb0 hi hown hg hat).1, (h.appSeq hb0 hi hown hg hat).2, app_grow (by rw [fp_set_src _ hi]; simp only; rw [set_self (fp_src hi).1]; rfl) (fp_src hi).2 hat⟩
theorem MemR.appAllE {w w1 : World} {b : Nat} {R : Ref} {g cap : Nat} {x : Ev} {w0 : World} (h : MemR w b R) (hb0 : Below w.heap.size w w0)
    (hown : w1.ownsRow 0 36 5 (.slice (some ⟨g, 0, none⟩) (R.all.length + 1) cap) (R.all.length + 1) (evs R.all ++ x.vals))
    (hg : w0.grownBy w1 (Value.slice R.aa R.all.length R.ac).ownBlock) (hat : (Value.slice R.aa R.all.length R.ac).ownBlock = some g ∨ g = w.heap.size + 1) :
    Evo w b R (w1.setCell ⟨b, 10, none⟩ (.slice (some ⟨g, 0, none⟩) (R.all.length + 1) cap)) { R with all := R.all ++ [x], aa := some ⟨g, 0, none⟩, ac := cap } :=
  ⟨(h.appAll hb0 hown hg hat).1, (h.appAll hb0 hown hg hat).2, app_grow (j := 3) rfl rfl hat⟩
theorem MemR.appAsideE {w w1 : World} {b : Nat} {R : Ref} {g cap : Nat} {x : Ev} {w0 : World} (h : MemR w b R) (hb0 : Below w.heap.size w w0)
    (hown : w1.ownsRow 0 36 5 (.slice (some ⟨g, 0, none⟩) (R.aside.length + 1) cap) (R.aside.length + 1) (evs R.aside ++ x.vals))
    (hg : w0.grownBy w1 (Value.slice R.da R.aside.length R.dc).ownBlock) (hat : (Value.slice R.da R.aside.length R.dc).ownBlock = some g ∨ g = w.heap.size + 1) :
    Evo w b R (w1.setCell ⟨b, 11, none⟩ (.slice (some ⟨g, 0, none⟩) (R.aside.length + 1) cap)) { R with aside := R.aside ++ [x], da := some ⟨g, 0, none⟩, dc := cap } :=
  ⟨(h.appAside hb0 hown hg hat).1, (h.appAside hb0 hown hg hat).2, app_grow (j := 4) rfl rfl hat⟩
theorem settled_fp (R : Ref) (b : Nat) : R.settled.fp b = R.fp b := by
  unfold Ref.settled
  split
  · split <;> rfl
  · rfl
end Go.Proofs.Ytghcololkgeoeaa
namespace Go.Proofs.Ytghcololkgeoeaa
open Go.RowKit
set_option linter.unusedVariables false
set_option linter.unusedSimpArgs false
attribute [local go_sem ↓] Go.wp_at_zero Go.wp_at_succ

/-- the cells that an append to a source's row reads -/
theorem kS {w : World} {b : Nat} {R : Ref} (h : Blk w b 61 R.vals) : w.cell? ⟨b, 9, none⟩ = some (.slice (some ⟨R.sg, 0, none⟩) R.srcs.length R.sc) ∧ w.cell? ⟨b, 12, none⟩ = some (.int .i64 R.merged) := ⟨h.cell 9, h.cell 12⟩

/-- behind the append: the sources' row can be written -/
theorem tS {w w1 : World} {b : Nat} {R : Ref} {i g cap : Nat} {x : Value} {w0 : World} (h : MemR w b R) (hb0 : Below w.heap.size w w0) (hi : i < R.srcs.length)
    (hown : w1.ownsRow 0 3 1 (.slice (some ⟨g, 0, none⟩) (R.srcs[i].marks.length + 1) cap) (R.srcs[i].marks.length + 1) (ints R.srcs[i].marks ++ [x]))
    (hg : w0.grownBy w1 (Value.slice R.srcs[i].ma R.srcs[i].marks.length R.srcs[i].mc).ownBlock) (hat : (Value.slice R.srcs[i].ma R.srcs[i].marks.length R.srcs[i].mc).ownBlock = some g ∨ g = w.heap.size + 1) :
    Blk w1 b 61 R.vals ∧ w1.cell? ⟨R.sg, i * 5 + 2, none⟩ = some (.slice R.srcs[i].ma R.srcs[i].marks.length R.srcs[i].mc) ∧ w1.frozen? ⟨R.sg, i * 5 + 2, none⟩ = false ∧ Kept (fun k => some k ∈ R.fp b) w w1 := by
  rw [bk_own] at hg
  have K1 : Kept (fun k => bk R.srcs[i].ma = some k) w w1 := ((Kept.refl (fun k => bk R.srcs[i].ma = some k) w).below hb0).grown hg (fun k _ e => e)
  have B1 := h.but (j1 := 5 + 2 * i) (j2 := 5 + 2 * i) K1 (fp_src hi).1 (fp_src hi).1 (fun k e => Or.inl e)
  obtain ⟨g', hg', _, _, hc, hf⟩ := (B1.src (by omega) (by omega)).form (by omega)
  simp only [Option.some.injEq, Addr.mk.injEq, and_true] at hg'
  refine ⟨B1.eng (by omega) (by omega), ?_, ?_, K1.mono (fun k _ e => List.mem_of_getElem? ((fp_src hi).1.trans (by rw [e])))⟩
  · rw [hg', hc _ (by omega), flatMap_get _ 5 RSrc.len _ i 2 (by omega) hi]; rfl
  · rw [hg']; exact hf _
/-- behind the append: the sources' row can be written -/
theorem tQ {w w1 : World} {b : Nat} {R : Ref} {i g cap : Nat} {x : Value} {w0 : World} (h : MemR w b R) (hb0 : Below w.heap.size w w0) (hi : i < R.srcs.length)
    (hown : w1.ownsRow 0 3 1 (.slice (some ⟨g, 0, none⟩) (R.srcs[i].seqs.length + 1) cap) (R.srcs[i].seqs.length + 1) (ints R.srcs[i].seqs ++ [x]))
    (hg : w0.grownBy w1 (Value.slice R.srcs[i].qa R.srcs[i].seqs.length R.srcs[i].qc).ownBlock) (hat : (Value.slice R.srcs[i].qa R.srcs[i].seqs.length R.srcs[i].qc).ownBlock = some g ∨ g = w.heap.size + 1) :
    Blk w1 b 61 R.vals ∧ w1.cell? ⟨R.sg, i * 5 + 3, none⟩ = some (.slice R.srcs[i].qa R.srcs[i].seqs.length R.srcs[i].qc) ∧ w1.frozen? ⟨R.sg, i * 5 + 3, none⟩ = false ∧ Kept (fun k => some k ∈ R.fp b) w w1 := by
  rw [bk_own] at hg
  have K1 : Kept (fun k => bk R.srcs[i].qa = some k) w w1 := ((Kept.refl (fun k => bk R.srcs[i].qa = some k) w).below hb0).grown hg (fun k _ e => e)
  have B1 := h.but (j1 := 6 + 2 * i) (j2 := 6 + 2 * i) K1 (fp_src hi).2 (fp_src hi).2 (fun k e => Or.inl e)
  obtain ⟨g', hg', _, _, hc, hf⟩ := (B1.src (by omega) (by omega)).form (by omega)
  simp only [Option.some.injEq, Addr.mk.injEq, and_true] at hg'
  refine ⟨B1.eng (by omega) (by omega), ?_, ?_, K1.mono (fun k _ e => List.mem_of_getElem? ((fp_src hi).2.trans (by rw [e])))⟩
  · rw [hg', hc _ (by omega), flatMap_get _ 5 RSrc.len _ i 3 (by omega) hi]; rfl
  · rw [hg']; exact hf _

/-- the answers' shape: the error, the engine behind -/
def JoinR (R : Ref) (s : Int) : Int := if s < 0 ∨ (R.srcs.length : Int) ≤ s then 3 else if (match R.srcs[s.toNat]? with | some r => r.inn | none => false) then 4 else 0

end Go.Proofs.Ytghcololkgeoeaa
