import Derived.Test.YthiabdpgieppoaaGreatSimB
namespace Go.Proofs.YthiabdpgieppoaaGreat
open Go.RowKit
set_option linter.unusedVariables false
set_option linter.unusedSimpArgs false
/-! ### Push -/
def Eng.isLate (X : Eng) (p : PSrc) (ts : Int) : Bool := (p.idle && decide (ts < X.merged)) || decide (ts < p.mark)
def Eng.fate (X : Eng) (late : Bool) : Int := if late then (if X.c.policy = 1 then 1 else if X.c.policy = 2 then 3 else 0) else 2
def Eng.waitOf (X : Eng) (s : Int) : Int := (X.wait.filter (fun e => decide (e.src = s))).length
def Eng.full (X : Eng) (i : Nat) (f : Int) : Bool := if f = 0 then false else if f = 1 then decide (200 ≤ X.late.length) else (decide (200 ≤ X.wait.length + X.log.length) || decide (X.c.room ≤ X.waitOf i))
/-- a place for an event among those that wait -/
structure Ins (e : Ev) (l k : List Ev) : Prop where
  ex : ∃ a b, l = a ++ b ∧ k = a ++ e :: b ∧ (∀ x ∈ b, aheadB e x = true) ∧ (∀ x, a.getLast? = some x → aheadB e x = false)
theorem Ins.perm {e : Ev} {l k : List Ev} (h : Ins e l k) : k.Perm (l ++ [e]) := by
  obtain ⟨a, b, rfl, rfl, _, _⟩ := h.ex
  rw [List.append_assoc]
  exact (List.perm_append_singleton e b).symm.append_left a
theorem Ins.srt {e : Ev} {l k : List Ev} (h : Ins e l k) (hs : Srt l) (hd : ∀ x ∈ l, Apart2 x e) : Srt k := by
  obtain ⟨a, b, rfl, rfl, h1, h2⟩ := h.ex
  unfold Srt at *
  rw [List.pairwise_append] at hs ⊢
  have h3 : ∀ x ∈ a, aheadB x e = true := by
    intro x hx
    rcases List.eq_nil_or_concat a with ha | ⟨L, y, ha⟩
    · subst ha; simp at hx
    · rw [List.concat_eq_append] at ha
      subst ha
      have hy := h2 y (by simp)
      have hye : aheadB y e = true := by
        rcases ahead_total (hd y (by simp)) with h | h
        · exact h
        · rw [hy] at h; cases h
      rcases List.mem_append.1 hx with hx | hx
      · have := (List.pairwise_append.1 hs.1).2.2 x hx y (by simp)
        exact ahead_trans this hye
      · simp only [List.mem_singleton] at hx; subst hx; exact hye
  refine ⟨hs.1, List.pairwise_cons.2 ⟨h1, hs.2.1⟩, fun x hx y hy => ?_⟩
  rcases List.mem_cons.1 hy with rfl | hy
  · exact h3 x hx
  · exact hs.2.2 x hx y hy
/-- the event as it is taken -/
def Eng.taken (X : Eng) (i : Nat) (f : Int) (e : Ev) : Ev := { e with src := i, ts := if f = 3 ∧ e.ts < X.merged then X.merged else e.ts }
/-- its source behind Push -/
def Eng.pushSrc (X : Eng) (p : PSrc) (e : Ev) : PSrc := if X.isLate p e.ts then ({ p with last := e.seq } : PSrc).touched X.merged else (({ p with last := e.seq } : PSrc).touched X.merged).raised (e.ts - X.c.slack)
/-- Push -/
def Eng.Pushed (X : Eng) (i : Nat) (p : PSrc) (e : Ev) (Y : Eng) : Prop :=
  ∃ Z : Eng, Y = Z.settled ∧ Z.c = X.c ∧ Z.srcs = X.srcs.set i (X.pushSrc p e) ∧ Z.merged = X.merged ∧ Z.log = X.log ∧
    ((X.fate (X.isLate p e.ts) = 0 ∧ Z.wait = X.wait ∧ Z.late = X.late) ∨ (X.fate (X.isLate p e.ts) = 1 ∧ Z.wait = X.wait ∧ Z.late = X.late ++ [{ e with src := i }]) ∨
      (2 ≤ X.fate (X.isLate p e.ts) ∧ Ins (X.taken i (X.fate (X.isLate p e.ts)) e) X.wait Z.wait ∧ Z.late = X.late))
theorem sim_late {X : Eng} {R : Ref} {i : Nat} {p : PSrc} {r : RSrc} (h : Sim X R) (hp : X.srcs[i]? = some p) (hr : R.srcs[i]? = some r) (e : Ev) : X.isLate p e.ts = R.late i e := by
  have s := h.src i p r hp hr
  have hid : R.isIdle i = p.idle := by unfold Ref.isIdle; rw [hr]; exact s.idle.symm
  have hm := (sim_active h hp hr).2
  unfold Eng.isLate Ref.late Ref.bound
  rw [hid, hm, h.merged]
  cases p.idle
  · simp
  · by_cases h1 : p.mark < R.merged
    · simp [h1]; omega
    · simp [h1]; omega
theorem sim_stays {X : Eng} {R : Ref} {i : Nat} {p : PSrc} {r : RSrc} (h : Sim X R) (hp : X.srcs[i]? = some p) (hr : R.srcs[i]? = some r) (e : Ev) : (R.stays i e = true ↔ 2 ≤ X.fate (X.isLate p e.ts)) ∧ (R.stays i e = false → (X.fate (X.isLate p e.ts) = 1 ∧ R.c.policy = 1) ∨ (X.fate (X.isLate p e.ts) = 0 ∧ R.c.policy ≠ 1)) := by
  rw [sim_late h hp hr e]
  unfold Ref.stays Eng.fate
  rw [h.c]
  cases R.late i e
  · simp
  · by_cases h2 : R.c.policy = 2
    · simp [h2]
    · by_cases h1 : R.c.policy = 1
      · simp [h1]
      · simp [h1, h2]
theorem sim_full {X : Eng} {R : Ref} {i : Nat} {p : PSrc} {r : RSrc} (h : Sim X R) (hp : X.srcs[i]? = some p) (hr : R.srcs[i]? = some r) (e : Ev) : X.full i (X.fate (X.isLate p e.ts)) = R.full i e := by
  have hw := sim_waitOf h (i : Int) (by omega)
  have hl : X.wait.length + X.log.length = R.all.length := by have := h.perm.length_eq; simp at this; omega
  obtain ⟨h1, h2⟩ := sim_stays h hp hr e
  unfold Eng.full Ref.full Eng.waitOf
  rw [hw, hl, h.late, h.c]
  cases hs : R.stays i e with
  | true =>
    have := h1.1 hs
    rw [if_neg (by omega), if_neg (by omega)]
    simp [Bool.or_comm]
  | false =>
    rcases h2 hs with ⟨h3, h4⟩ | ⟨h3, h4⟩
    · rw [h3]; simp [h4]
    · rw [h3]; simp [h4]
theorem sim_taken {X : Eng} {R : Ref} {i : Nat} {p : PSrc} {r : RSrc} (h : Sim X R) (hp : X.srcs[i]? = some p) (hr : R.srcs[i]? = some r) (e : Ev) : R.taken i e = X.taken i (X.fate (X.isLate p e.ts)) e := by
  unfold Ref.taken Eng.taken Ref.lifts
  rw [sim_late h hp hr e]
  unfold Eng.fate
  rw [h.c, h.merged]
  cases R.late i e
  · simp
  · by_cases h2 : R.c.policy = 2
    · simp [h2]
    · by_cases h1 : R.c.policy = 1
      · simp [h1]
      · simp [h1, h2]
theorem sim_push {X Y : Eng} {R R' : Ref} {N i : Nat} {p : PSrc} {e : Ev} (h : Sim X R) (g : Good N R) (hp : X.srcs[i]? = some p) (hw : ∀ r, R.srcs[i]? = some r → wrongOf r e = 0) (hf : R.full i e = false)
    (hY : X.Pushed i p e Y) (hR : PushOk R i e R') : Sim Y R' ∧ Good (N + 2) R' := by
  obtain ⟨hi, ma, mc, qa, qc, R5, hpl, rfl⟩ := hR
  obtain ⟨Z, rfl, zc, zs, zm, zl, zz⟩ := hY
  have hr := List.getElem?_eq_getElem hi
  have hwr := hw _ hr
  have s := h.src i p _ hp hr
  have hc := g.fits
  have hmg := g.mgd
  have hsil := g.sil i _ hr
  have hln := g.lens i _ hr
  obtain ⟨hseq, hts, hgt, hin⟩ : (0 ≤ e.seq) ∧ (-1099511627776 ≤ e.ts ∧ e.ts ≤ 1099511627776) ∧ greatest R.srcs[i].seqs (-1) < e.seq ∧ R.srcs[i].inn = true := by
    unfold wrongOf at hwr
    split at hwr
    · simp at hwr
    · rename_i hin
      split at hwr
      · simp at hwr
      · rename_i hb
        split at hwr
        · simp at hwr
        · rename_i ht
          split at hwr
          · simp at hwr
          · rename_i hq
            simp [badB, beyondB] at hb
            simp [beyondB] at ht
            exact ⟨by omega, by omega, by omega, by simpa using hin⟩
  have hlate := sim_late h hp hr e
  have htk := sim_taken h hp hr e
  -- the source
  have hp1 : (X.srcs.set i ({ p with last := e.seq } : PSrc))[i]? = some { p with last := e.seq } := by
    have : i < X.srcs.length := (List.getElem?_eq_some_iff.1 hp).1
    simp [this]
  have hgq : greatest (R.srcs[i].seqs ++ [e.seq]) (-1) = e.seq := by rw [greatest_snoc, if_pos hgt]
  have S1 : Sim { X with srcs := X.srcs.set i ({ p with last := e.seq } : PSrc) } { R with srcs := R.srcs.set i { R.srcs[i] with seqs := R.srcs[i].seqs ++ [e.seq], qa := qa, qc := qc } } := by
    refine sim_src h hr ⟨s.inn, s.idle, s.mark, s.sil, hgq.symm, s.line⟩ (fun h1 h2 => h.act i p hp h1 h2) ?_
    simp only; rw [hgq]; omega
  have hr1 : (R.srcs.set i ({ R.srcs[i] with seqs := R.srcs[i].seqs ++ [e.seq], qa := qa, qc := qc } : RSrc))[i]? = some { R.srcs[i] with seqs := R.srcs[i].seqs ++ [e.seq], qa := qa, qc := qc } := by simp [hi]
  obtain ⟨st, ha⟩ := sim_touch S1 (show 0 ≤ R.c.idle by omega) hp1 hr1
  have htt : ({ R with srcs := R.srcs.set i { R.srcs[i] with seqs := R.srcs[i].seqs ++ [e.seq], qa := qa, qc := qc } } : Ref).touched i { R.srcs[i] with seqs := R.srcs[i].seqs ++ [e.seq], qa := qa, qc := qc } = R.touched i R.srcs[i] := by
    unfold Ref.touched Ref.isIdle
    simp [hi, List.getElem?_eq_getElem hi]
  rw [htt] at st
  have hnl : R.late i e = false → (R.taken i e).ts = e.ts := by
    intro hl
    unfold Ref.taken Ref.lifts
    rw [hl]; simp
  obtain ⟨tg, tl⟩ := touched_great g hr
  have SS : SrcSim R.c (X.pushSrc p e) (pushSrc R i e R.srcs[i] ma mc qa qc) := by
    unfold Eng.pushSrc pushSrc
    rw [hlate]
    cases hl : R.late i e with
    | true => simp only [if_true]; exact ⟨st.inn, st.idle, st.mark, st.sil, st.last, st.line⟩
    | false =>
      simp only [Bool.false_eq_true, if_false]
      rw [hnl hl, h.c]
      have s2 := srcsim_raise st (e.ts - R.c.slack)
      exact ⟨s2.inn, s2.idle, s2.mark, s2.sil, s2.last, s2.line⟩
  have hact : (X.pushSrc p e).inn = true → (X.pushSrc p e).idle = false → R.merged ≤ (X.pushSrc p e).mark := by
    intro h1 _
    unfold Eng.pushSrc at h1 ⊢
    split at h1
    · rename_i hl; rw [if_pos hl]; exact ha h1
    · rename_i hl
      rw [if_neg hl]
      have a1 := raised_le (({ p with last := e.seq } : PSrc).touched X.merged) (e.ts - X.c.slack)
      have a2 := ha (by rw [(raised_rest _ _).1] at h1; exact h1)
      exact Int.le_trans a2 a1
  have hsq : greatest R.srcs[i].seqs (-1) ≤ greatest (pushSrc R i e R.srcs[i] ma mc qa qc).seqs (-1) := by
    unfold pushSrc; simp only; rw [hgq]; omega
  have S2 := sim_src h hr SS hact hsq
  have hgm : greatest (pushSrc R i e R.srcs[i] ma mc qa qc).marks (-2199023255552) ≤ 1099511627776 + (R.all.length : Int) := by
    unfold pushSrc
    simp only
    cases hl : R.late i e with
    | true => simp only [if_true]; exact tg
    | false =>
      simp only [Bool.false_eq_true, if_false]
      rw [greatest_snoc, hnl hl]
      split <;> omega
  have hgl : (pushSrc R i e R.srcs[i] ma mc qa qc).marks.length ≤ N + 2 ∧ (pushSrc R i e R.srcs[i] ma mc qa qc).seqs.length ≤ N + 2 := by
    unfold pushSrc
    simp only [List.length_append, List.length_cons, List.length_nil]
    refine ⟨?_, by omega⟩
    split
    · omega
    · simp; omega
  have hgs : 0 ≤ (pushSrc R i e R.srcs[i] ma mc qa qc).sil ∧ (pushSrc R i e R.srcs[i] ma mc qa qc).sil ≤ 1000 * ((N + 2 : Nat) : Int) := by unfold pushSrc; simp only; omega
  have G2 := good_src (i := i) (g.mono (by omega : N ≤ N + 2)) hgm hgl hgs
  have hap : ∀ x ∈ R.all, ∀ y : Ev, y.src = (i : Int) → y.seq = e.seq → Apart2 x y := by
    intro x hx y h1 h2
    obtain ⟨j, q, e1, e2, e3⟩ := h.own x hx
    intro ⟨f1, f2⟩
    have hj : j = i := by omega
    subst hj
    rw [hr] at e2
    cases e2
    omega
  generalize hP : ({ R with srcs := R.srcs.set i (pushSrc R i e R.srcs[i] ma mc qa qc) } : Ref) = P at hpl S2 G2
  generalize hV : ({ X with srcs := X.srcs.set i (X.pushSrc p e) } : Eng) = V at S2
  have vw : V.wait = X.wait ∧ V.log = X.log ∧ V.late = X.late ∧ V.c = X.c ∧ V.merged = X.merged ∧ V.srcs = X.srcs.set i (X.pushSrc p e) := by subst hV; exact ⟨rfl, rfl, rfl, rfl, rfl, rfl⟩
  have pw : P.all = R.all ∧ P.aside = R.aside ∧ P.merged = R.merged ∧ P.c = R.c ∧ P.srcs = R.srcs.set i (pushSrc R i e R.srcs[i] ma mc qa qc) := by subst hP; exact ⟨rfl, rfl, rfl, rfl, rfl⟩
  obtain ⟨w1, w2, w3, w4, w5, w6⟩ := vw
  obtain ⟨p1, p2, p3, p4, p5⟩ := pw
  obtain ⟨st1, st2⟩ := sim_stays h hp hr e
  have hfull : R.stays i e = true → R.all.length < 200 := by
    intro hs
    unfold Ref.full at hf
    rw [hs] at hf
    simp at hf
    omega
  have hfull2 : R.stays i e = false → R.c.policy = 1 → R.aside.length < 200 := by
    intro hs hpo
    unfold Ref.full at hf
    rw [hs, hpo] at hf
    simp at hf
    omega
  rcases hpl with ⟨hs, aa, ac, rfl⟩ | ⟨hs, hpo, da, dc, rfl⟩ | ⟨hs, hpo, rfl⟩
  · -- it waits
    have hfa := st1.1 hs
    obtain ⟨_, hins, hlt⟩ : 2 ≤ X.fate (X.isLate p e.ts) ∧ Ins (X.taken i (X.fate (X.isLate p e.ts)) e) X.wait Z.wait ∧ Z.late = X.late := by
      rcases zz with ⟨h0, _⟩ | ⟨h0, _⟩ | h0
      · omega
      · omega
      · exact h0
    rw [← htk] at hins
    have hT : (R.taken i e).src = (i : Int) ∧ (R.taken i e).seq = e.seq := ⟨rfl, rfl⟩
    have hTts : R.merged ≤ (R.taken i e).ts ∧ -1099511627776 ≤ (R.taken i e).ts ∧ (R.taken i e).ts ≤ 1099511627776 + (R.all.length : Int) := by
      unfold Ref.taken
      simp only
      cases hli : R.lifts i e with
      | true => 
        simp only [if_true]
        unfold Ref.lifts at hli
        simp at hli
        omega
      | false =>
        simp only [Bool.false_eq_true, if_false]
        refine ⟨?_, by omega, by omega⟩
        cases hl : R.late i e with
        | true =>
          unfold Ref.lifts at hli
          unfold Ref.stays at hs
          rw [hl] at hli hs
          simp at hs
          rw [hs] at hli
          simp at hli
          omega
        | false =>
          have hb : ¬ e.ts < R.bound i := by unfold Ref.late at hl; simpa using hl
          have hid : R.isIdle i = p.idle := by unfold Ref.isIdle; rw [hr]; exact s.idle.symm
          have hmk := (sim_active h hp hr).2
          unfold Ref.bound at hb
          rw [hid, hmk] at hb
          cases hpi : p.idle with
          | true =>
            rw [hpi] at hb
            by_cases hx : p.mark < R.merged
            · simp [hx] at hb; omega
            · simp [hx] at hb; omega
          | false =>
            rw [hpi] at hb
            have := h.act i p hp (by rw [s.inn]; exact hin) hpi
            simp at hb
            omega
    have hall := hfull hs
    refine sim_settled (N := N + 2) ⟨?_, ?_, ?_, ?_, ?_, ?_, ?_, ?_, ?_, ?_, ?_, ?_, ?_⟩ ⟨?_, ?_, ?_, ?_, ?_, ?_, ?_, ?_, ?_⟩
    · rw [zc, ← w4]; exact S2.c
    · rw [zs, ← w6]; exact S2.n
    · rw [zs, ← w6]; exact S2.src
    · rw [zm, ← w5]; exact S2.merged
    · rw [hlt, ← w3]; exact S2.late
    · have := S2.perm
      rw [w1, w2] at this
      rw [zl]
      simp only
      refine ((hins.perm.append_left X.log).trans ?_)
      rw [← List.append_assoc]
      exact this.append_right _
    · rw [zl]; exact h.logS
    · refine hins.srt h.waitS (fun x hx => ?_)
      exact hap x (h.perm.mem_iff.1 (by simp [hx])) _ rfl rfl
    · rw [zl]; intro x hx; have := h.lo x hx; simp only; omega
    · intro x hx
      rcases List.mem_append.1 (hins.perm.mem_iff.1 hx) with hx | hx
      · have := h.hi x hx; simp only; omega
      · simp only [List.mem_singleton] at hx; subst hx; simp only; omega
    · rw [zs, ← w6]; exact S2.act
    · simp only; rw [List.pairwise_append]
      refine ⟨S2.ids, by simp, fun x hx y hy => ?_⟩
      simp only [List.mem_singleton] at hy
      subst hy
      exact hap x (by rw [p1] at hx; exact hx) _ rfl rfl
    · intro x hx
      rcases List.mem_append.1 hx with hx | hx
      · exact S2.own x hx
      · simp only [List.mem_singleton] at hx
        subst hx
        refine ⟨i, pushSrc R i e R.srcs[i] ma mc qa qc, rfl, ?_, ?_⟩
        · simp only; rw [p5]; simp [hi]
        · unfold pushSrc; simp only; rw [hgq]; exact Int.le_refl _
    · exact G2.srcs
    · exact G2.fits
    · simp only [List.length_append, List.length_cons, List.length_nil]; rw [p1]; omega
    · exact G2.aside
    · intro x hx
      simp only [List.length_append, List.length_cons, List.length_nil]
      rcases List.mem_append.1 hx with hx | hx
      · have := G2.ts x hx; omega
      · simp only [List.mem_singleton] at hx; subst hx; rw [p1]; omega
    · have := G2.mgd; simp only [List.length_append, List.length_cons, List.length_nil]; omega
    · intro j r hj; have := G2.mks j r hj; simp only [List.length_append, List.length_cons, List.length_nil]; omega
    · exact G2.lens
    · exact G2.sil
  · -- it is laid aside
    have hpo' : R.c.policy = 1 := by rw [← p4]; exact hpo
    have h0 := hfull2 hs hpo'
    have hfa : X.fate (X.isLate p e.ts) = 1 := by
      rcases st2 hs with h | h
      · exact h.1
      · exact absurd hpo' h.2
    obtain ⟨hzw, hlt⟩ : Z.wait = X.wait ∧ Z.late = X.late ++ [{ e with src := (i : Int) }] := by
      rcases zz with ⟨h0, _⟩ | ⟨h0, h1⟩ | ⟨h0, _⟩
      · omega
      · exact h1
      · omega
    have htk' : R.taken i e = { e with src := (i : Int) } := by
      unfold Ref.taken Ref.lifts
      rw [hpo']; simp
    rw [htk']
    refine sim_settled (N := N + 2) ⟨?_, ?_, ?_, ?_, ?_, ?_, ?_, ?_, ?_, ?_, ?_, ?_, ?_⟩ ⟨G2.srcs, G2.fits, G2.all, ?_, G2.ts, G2.mgd, G2.mks, G2.lens, G2.sil⟩
    · rw [zc, ← w4]; exact S2.c
    · rw [zs, ← w6]; exact S2.n
    · rw [zs, ← w6]; exact S2.src
    · rw [zm, ← w5]; exact S2.merged
    · rw [hlt, ← w3]; simp only; rw [S2.late]
    · rw [zl, hzw, ← w1, ← w2]; exact S2.perm
    · rw [zl]; exact h.logS
    · rw [hzw]; exact h.waitS
    · rw [zl, ← w2]; exact S2.lo
    · rw [hzw, ← w1]; exact S2.hi
    · rw [zs, ← w6]; exact S2.act
    · exact S2.ids
    · exact S2.own
    · simp only [List.length_append, List.length_cons, List.length_nil]; rw [p2]; omega
  · -- it is dropped
    have hpo' : R.c.policy ≠ 1 := by rw [← p4]; exact hpo
    have hfa : X.fate (X.isLate p e.ts) = 0 := by
      rcases st2 hs with h | h
      · exact absurd h.2 hpo'
      · exact h.1
    obtain ⟨hzw, hlt⟩ : Z.wait = X.wait ∧ Z.late = X.late := by
      rcases zz with ⟨h0, h1⟩ | ⟨h0, h1⟩ | ⟨h0, _⟩
      · exact h1
      · omega
      · omega
    exact sim_settled (S2.pl (by rw [zc, w4]) (by rw [zs, w6]) (by rw [zm, w5]) (by rw [hzw, w1]) (by rw [zl, w2]) (by rw [hlt, w3])) G2
/-- a new engine -/
theorem sim_new {X : Eng} {R : Ref} {n : Nat} {p : PSrc} (hc : X.c = R.c) (hs : X.srcs = List.replicate n p) (hr : R.srcs = List.replicate n zSrc) (hp : p.inn = false ∧ p.idle = false ∧ p.mark = -2199023255552 ∧ p.sil = 0 ∧ p.last = -1 ∧ p.line = [])
    (hm : X.merged = -2199023255552) (hm' : R.merged = -2199023255552) (hw : X.wait = []) (hl : X.log = []) (hd : X.late = []) (ha : R.all = []) (hb : R.aside = [])
    (hn : (n : Int) = R.c.sources) (hf : 1 ≤ R.c.sources ∧ R.c.sources ≤ 6 ∧ 0 ≤ R.c.slack ∧ R.c.slack ≤ 1000 ∧ 0 ≤ R.c.policy ∧ R.c.policy ≤ 2 ∧ 1 ≤ R.c.room ∧ R.c.room ≤ 32 ∧ 0 ≤ R.c.idle ∧ R.c.idle ≤ 1000) : Sim X R ∧ Good 0 R := by
  have hz : ∀ (i : Nat) (r : RSrc), R.srcs[i]? = some r → r = zSrc := by
    intro i r h; rw [hr, List.getElem?_replicate] at h; split at h; simpa using h.symm; simp at h
  have hx : ∀ (i : Nat) (r : PSrc), X.srcs[i]? = some r → r = p := by
    intro i r h; rw [hs, List.getElem?_replicate] at h; split at h; simpa using h.symm; simp at h
  obtain ⟨p1, p2, p3, p4, p5, p6⟩ := hp
  refine ⟨⟨hc, by rw [hs, hr]; simp, ?_, by rw [hm, hm'], by rw [hd, hb], by rw [hw, hl, ha]; exact List.Perm.nil, by rw [hl]; simp [Srt], by rw [hw]; simp [Srt], by rw [hl]; simp, by rw [hw]; simp, ?_, by rw [ha]; simp, by rw [ha]; simp⟩, ⟨by rw [hr]; simp [hn], hf, by rw [ha]; simp, by rw [hb]; simp, by rw [ha]; simp, by rw [hm', ha]; simp, ?_, ?_, ?_⟩⟩
  · intro i q r h1 h2
    rw [hz i r h2, hx i q h1]
    exact ⟨p1, by rw [p2]; rfl, p3, ⟨by simp [zSrc], fun _ => p4, by simp [zSrc]⟩, p5, by rw [p6]; rfl⟩
  · intro i q h1 h2
    rw [hx i q h1, p1] at h2; cases h2
  · intro i r h; rw [hz i r h, ha]; simp [zSrc, greatest]
  · intro i r h; rw [hz i r h]; simp [zSrc]
  · intro i r h; rw [hz i r h]; simp [zSrc]
/-- the log is the document's -/
theorem sim_log {X : Eng} {R : Ref} (h : Sim X R) (n : Nat) (hb : bestTo R.merged R.all (selRun R.merged R.all n).1 R.all.length = none) : (selRun R.merged R.all n).2 = X.log := by
  refine selRun_log R.merged R.all X.log n (apart_get h.ids) hb ?_ h.logS
  have p := h.perm.filter (fun e => decide (e.ts < R.merged))
  rw [List.filter_append] at p
  have e1 : X.log.filter (fun e => decide (e.ts < R.merged)) = X.log := by
    rw [List.filter_eq_self]; intro e he; simpa using h.lo e he
  have e2 : X.wait.filter (fun e => decide (e.ts < R.merged)) = [] := by
    rw [List.filter_eq_nil_iff]; intro e he; have := h.hi e he; simp; omega
  rw [e1, e2, List.append_nil] at p
  exact p
end Go.Proofs.YthiabdpgieppoaaGreat
