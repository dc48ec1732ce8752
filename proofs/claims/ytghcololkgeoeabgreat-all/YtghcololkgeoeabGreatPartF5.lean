import Derived.Test.YtghcololkgeoeabGreatPartD3
import Derived.Test.YtghcololkgeoeabGreatPartF3
import Derived.Test.YtghcololkgeoeabGreatPartF2
import Derived.Test.YtghcololkgeoeabGreatPartF4
namespace Go.Proofs.YtghcololkgeoeabGreat
open Go.RowKit
set_option linter.unusedVariables false
set_option linter.unusedSimpArgs false

def PushX (X : Eng) (i : Nat) (p : PSrc) (E : Ev) (z : Int) (X' : Eng) : Prop :=
  (pWrong p E ≠ 0 ∧ z = pWrong p E ∧ X' = X) ∨ (pWrong p E = 0 ∧ X.full i (X.fate (X.isLate p E.ts)) = true ∧ z = 8 ∧ X' = X) ∨ (pWrong p E = 0 ∧ X.full i (X.fate (X.isLate p E.ts)) = false ∧ z = 0 ∧ ∃ Y, X.Pushed i p E Y ∧ PlX Y X')
def PushR (R : Ref) (i : Nat) (r : RSrc) (E : Ev) (z : Int) (R' : Ref) : Prop :=
  (wrongOf r E ≠ 0 ∧ z = wrongOf r E ∧ R' = R) ∨ (wrongOf r E = 0 ∧ R.full i E = true ∧ z = 8 ∧ R' = R) ∨ (wrongOf r E = 0 ∧ R.full i E = false ∧ z = 0 ∧ PushOk R i E R')
def PunctX (X : Eng) (i : Nat) (p : PSrc) (ts : Int) (z : Int) (X' : Eng) : Prop :=
  (p.inn = false ∧ z = 4 ∧ X' = X) ∨ (p.inn = true ∧ beyondB ts = true ∧ z = 6 ∧ X' = X) ∨ (p.inn = true ∧ beyondB ts = false ∧ z = 0 ∧ PlX (X.puncted i p ts) X')
def PunctR (R : Ref) (i : Nat) (r : RSrc) (ts : Int) (z : Int) (R' : Ref) : Prop :=
  (r.inn = false ∧ z = 4 ∧ R' = R) ∨ (r.inn = true ∧ beyondB ts = true ∧ z = 6 ∧ R' = R) ∨ (r.inn = true ∧ beyondB ts = false ∧ z = 0 ∧ PunctOk R i ts R')

theorem pl_lines {X X' : Eng} (h : PlX X X') : lineOf X' = lineOf X := by obtain ⟨_, _, _, _, rfl⟩ := h; rfl
theorem pushX_lines {X X' : Eng} {i : Nat} {p : PSrc} {E : Ev} {z : Int} (hp : X.srcs[i]? = some p) (h : PushX X i p E z X') : lineOf X' = lineOf X := by
  rcases h with ⟨_, _, rfl⟩ | ⟨_, _, _, rfl⟩ | ⟨_, _, _, Y, hY, hpl⟩
  · rfl
  · rfl
  · rw [pl_lines hpl]; exact pushed_lines hp hY
theorem punctX_lines {X X' : Eng} {i : Nat} {p : PSrc} {ts z : Int} (hp : X.srcs[i]? = some p) (h : PunctX X i p ts z X') : lineOf X' = lineOf X := by
  rcases h with ⟨_, _, rfl⟩ | ⟨_, _, _, rfl⟩ | ⟨_, _, _, hpl⟩
  · rfl
  · rfl
  · rw [pl_lines hpl]; exact puncted_lines hp
theorem pushR_rests {R R' : Ref} {i : Nat} {r : RSrc} {E : Ev} {z : Int} (h : PushR R i r E z R') : restsOf R' = restsOf R := by
  rcases h with ⟨_, _, rfl⟩ | ⟨_, _, _, rfl⟩ | ⟨_, _, _, hY⟩
  · rfl
  · rfl
  · exact push_rests hY
theorem punctR_rests {R R' : Ref} {i : Nat} {r : RSrc} {ts z : Int} (h : PunctR R i r ts z R') : restsOf R' = restsOf R := by
  rcases h with ⟨_, _, rfl⟩ | ⟨_, _, _, rfl⟩ | ⟨_, _, _, hY⟩
  · rfl
  · rfl
  · exact punct_rests hY
theorem pushR_some {R : Ref} {i : Nat} (r : RSrc) (E : Ev) (hi : i < R.srcs.length) : ∃ z R', PushR R i r E z R' := by
  by_cases hw : wrongOf r E = 0
  · cases hf : R.full i E with
    | true => exact ⟨8, R, Or.inr (Or.inl ⟨hw, hf, rfl, rfl⟩)⟩
    | false =>
      obtain ⟨R', h⟩ := pushOk_some (E := E) hi
      exact ⟨0, R', Or.inr (Or.inr ⟨hw, hf, rfl, h⟩)⟩
  · exact ⟨_, R, Or.inl ⟨hw, rfl, rfl⟩⟩
theorem punctR_some {R : Ref} {i : Nat} (r : RSrc) (ts : Int) (hi : i < R.srcs.length) : ∃ z R', PunctR R i r ts z R' := by
  cases hin : r.inn with
  | false => exact ⟨4, R, Or.inl ⟨hin, rfl, rfl⟩⟩
  | true =>
    cases hb : beyondB ts with
    | true => exact ⟨6, R, Or.inr (Or.inl ⟨hin, hb, rfl, rfl⟩)⟩
    | false =>
      obtain ⟨R', h⟩ := punctOk_some (ts := ts) hi
      exact ⟨0, R', Or.inr (Or.inr ⟨hin, hb, rfl, h⟩)⟩

structure Like (N : Nat) (X : Eng) (R : Ref) : Prop where
  sim : Sim X R
  good : Good N R
theorem Like.mono {N M : Nat} {X : Eng} {R : Ref} (h : Like N X R) (hm : N ≤ M) : Like M X R := ⟨h.sim, h.good.mono hm⟩
theorem like_pl {N : Nat} {X X' : Eng} {R : Ref} (h : Sim X R ∧ Good N R) (hp : PlX X X') : Like N X' R := by
  obtain ⟨ga, gc, wa, wc, rfl⟩ := hp
  exact ⟨h.1.pl rfl rfl rfl rfl rfl rfl, h.2⟩
theorem push_agree {N i : Nat} {X X' : Eng} {R R' : Ref} {p : PSrc} {r : RSrc} {E : Ev} {z z' : Int} (hb : Like N X R) (hp : X.srcs[i]? = some p) (hr : R.srcs[i]? = some r) (hX : PushX X i p E z X') (hR : PushR R i r E z' R') : z = z' ∧ Like (N + 2) X' R' := by
  have s := hb.sim.src i _ _ hp hr
  have hws := wrong_same (X := X) (R := R) (i := i) s E
  have hfu := sim_full hb.sim hp hr E
  unfold PushX at hX
  rw [hws, hfu] at hX
  rcases hX with ⟨h1, rfl, rfl⟩ | ⟨h1, h2, rfl, rfl⟩ | ⟨h1, h2, rfl, Y, hY, hpl⟩ <;> rcases hR with ⟨g1, rfl, rfl⟩ | ⟨g1, g2, rfl, rfl⟩ | ⟨g1, g2, rfl, hR⟩
  · exact ⟨rfl, hb.mono (by omega)⟩
  · exact absurd g1 h1
  · exact absurd g1 h1
  · exact absurd h1 g1
  · exact ⟨rfl, hb.mono (by omega)⟩
  · rw [h2] at g2; cases g2
  · exact absurd h1 g1
  · rw [h2] at g2; cases g2
  · refine ⟨rfl, ?_⟩
    have := sim_push hb.sim hb.good hp (fun r' hr' => by rw [hr] at hr'; cases hr'; exact h1) h2 hY hR
    exact like_pl this hpl
theorem punct_agree {N i : Nat} {X X' : Eng} {R R' : Ref} {p : PSrc} {r : RSrc} {ts z z' : Int} (hb : Like N X R) (hp : X.srcs[i]? = some p) (hr : R.srcs[i]? = some r) (hX : PunctX X i p ts z X') (hR : PunctR R i r ts z' R') : z = z' ∧ Like (N + 2) X' R' := by
  have s := hb.sim.src i _ _ hp hr
  unfold PunctX at hX
  rw [s.inn] at hX
  rcases hX with ⟨h1, rfl, rfl⟩ | ⟨h1, h2, rfl, rfl⟩ | ⟨h1, h2, rfl, hpl⟩ <;> rcases hR with ⟨g1, rfl, rfl⟩ | ⟨g1, g2, rfl, rfl⟩ | ⟨g1, g2, rfl, hR⟩
  · exact ⟨rfl, hb.mono (by omega)⟩
  · rw [h1] at g1; cases g1
  · rw [h1] at g1; cases g1
  · rw [h1] at g1; cases g1
  · exact ⟨rfl, hb.mono (by omega)⟩
  · rw [h2] at g2; cases g2
  · rw [h1] at g1; cases g1
  · rw [h2] at g2; cases g2
  · refine ⟨rfl, ?_⟩
    have htt : ts ≤ 1099511627776 := by simp [beyondB] at h2; omega
    have := sim_punct hb.sim hb.good hp htt hR
    exact like_pl this hpl
theorem xpush_rel {N i xb : Nat} {X : Eng} {R : Ref} (E : Ev) (hb : Like N X R) (hx : i < X.srcs.length) (u : World) (hu : MemX u xb X) :
    Calls Tryz.prog 26 #[.pointer (some ⟨xb, 0, none⟩), .int .i64 i, E.agg] u fun e w' => ∃ z X', e = .returned (.int .i64 z) ∧ PushX X i X.srcs[i] E z X' ∧ EvoX u xb X w' X' := by
  have hs : SaneX X := saneX_of hb.sim hb.good
  have hc := hb.good.fits
  have hcc := hb.sim.c
  have hmgd := hb.good.mgd
  have hall := hb.good.all
  have hmm := hb.sim.merged
  have hlen := hb.sim.perm.length_eq
  simp only [List.length_append] at hlen
  by_cases hpw : pWrong X.srcs[i] E = 0
  · have hts := (pWrong_zero hpw).2.2.1
    refine (xpush_ok xb X i E u hu hs (by omega) hx hpw (by rw [hcc]; omega) (by rw [hmm]; omega)).mono ?_
    rintro e w' (⟨h1, he, hw⟩ | ⟨h1, he, Y, hY, hw⟩)
    · exact ⟨8, X, he, Or.inr (Or.inl ⟨hpw, h1, rfl, rfl⟩), EvoX.below hu hw⟩
    · obtain ⟨X', hpl, hev⟩ := evoP_pl hw
      exact ⟨0, X', he, Or.inr (Or.inr ⟨hpw, h1, rfl, Y, hY, hpl⟩), hev⟩
  · exact (xpush_wrong xb X i E u hu hx hpw).mono fun e w' ⟨he, hw⟩ => ⟨_, X, he, Or.inl ⟨hpw, rfl, rfl⟩, EvoX.below hu hw⟩
theorem rpush_rel {N i rb : Nat} {X : Eng} {R : Ref} (E : Ev) (hb : Like N X R) (hN : N ≤ 7000000000000) (hi : i < R.srcs.length) (u : World) (hu : MemR u rb R) :
    Calls Tryz.prog 27 #[.pointer (some ⟨rb, 0, none⟩), .int .i64 i, E.agg] u fun e w' => ∃ z R', e = .returned (.int .i64 z) ∧ PushR R i R.srcs[i] E z R' ∧ Evo u rb R w' R' := by
  have hc := hb.good.fits
  have hmgd := hb.good.mgd
  have hall := hb.good.all
  by_cases hw : wrongOf R.srcs[i] E = 0
  · have hx : i < X.srcs.length := by have := hb.sim.n; omega
    have s := hb.sim.src i _ _ (List.getElem?_eq_getElem hx) (List.getElem?_eq_getElem hi)
    have hpw : pWrong X.srcs[i] E = 0 := (wrong_same (X := X) (R := R) (i := i) s E).trans hw
    have hts := (pWrong_zero hpw).2.2.1
    refine (rpush_ok N rb R i E u hu hb.good.sane (by omega) hi hw (by omega) (by omega) hts).mono ?_
    rintro e w' (⟨h1, he, hw'⟩ | ⟨h1, he, R', hR, hw'⟩)
    · exact ⟨8, R, he, Or.inr (Or.inl ⟨hw, h1, rfl, rfl⟩), Evo.below hu hw'⟩
    · exact ⟨0, R', he, Or.inr (Or.inr ⟨hw, h1, rfl, hR⟩), hw'⟩
  · exact (rpush_wrong rb R i E u hu hi hw).mono fun e w' ⟨he, hw'⟩ => ⟨_, R, he, Or.inl ⟨hw, rfl, rfl⟩, Evo.below hu hw'⟩
theorem xpunct_rel {N i xb : Nat} {X : Eng} {R : Ref} (ts : Int) (hb : Like N X R) (hx : i < X.srcs.length) (u : World) (hu : MemX u xb X) :
    Calls Tryz.prog 28 #[.pointer (some ⟨xb, 0, none⟩), .int .i64 i, .int .i64 ts] u fun e w' => ∃ z X', e = .returned (.int .i64 z) ∧ PunctX X i X.srcs[i] ts z X' ∧ EvoX u xb X w' X' := by
  have hs : SaneX X := saneX_of hb.sim hb.good
  cases hin : X.srcs[i].inn with
  | false => exact (xpunct_out xb X i ts u hu hx hin).mono fun e w' ⟨he, hw⟩ => ⟨4, X, he, Or.inl ⟨hin, rfl, rfl⟩, hw ▸ EvoX.refl hu⟩
  | true =>
    cases ht : beyondB ts with
    | true => exact (xpunct_time xb X i ts u hu hx hin ht).mono fun e w' ⟨he, hw⟩ => ⟨6, X, he, Or.inr (Or.inl ⟨hin, ht, rfl, rfl⟩), hw ▸ EvoX.refl hu⟩
    | false =>
      refine (xpunct_ok xb X i ts u hu hs hx hin ht).mono ?_
      rintro e w' ⟨he, hw⟩
      obtain ⟨X', hpl, hev⟩ := evoP_pl hw
      exact ⟨0, X', he, Or.inr (Or.inr ⟨hin, ht, rfl, hpl⟩), hev⟩
theorem rpunct_rel {N i rb : Nat} {X : Eng} {R : Ref} (ts : Int) (hb : Like N X R) (hN : N ≤ 7000000000000) (hi : i < R.srcs.length) (u : World) (hu : MemR u rb R) :
    Calls Tryz.prog 29 #[.pointer (some ⟨rb, 0, none⟩), .int .i64 i, .int .i64 ts] u fun e w' => ∃ z R', e = .returned (.int .i64 z) ∧ PunctR R i R.srcs[i] ts z R' ∧ Evo u rb R w' R' := by
  cases hin : R.srcs[i].inn with
  | false => exact (rpunct_out rb R i ts u hu hi hin).mono fun e w' ⟨he, hw⟩ => ⟨4, R, he, Or.inl ⟨hin, rfl, rfl⟩, hw ▸ Evo.refl hu⟩
  | true =>
    cases ht : beyondB ts with
    | true => exact (rpunct_time rb R i ts u hu hi hin ht).mono fun e w' ⟨he, hw⟩ => ⟨6, R, he, Or.inr (Or.inl ⟨hin, ht, rfl, rfl⟩), hw ▸ Evo.refl hu⟩
    | false => exact (rpunct_ok N rb R i ts u hu hb.good.sane (by omega) hi hin ht).mono fun e w' ⟨he, R', hj, hw⟩ => ⟨0, R', he, Or.inr (Or.inr ⟨hin, ht, rfl, hj⟩), hw⟩

theorem sim_line {N : Nat} {X : Eng} {R : Ref} {i : Nat} {p q : PSrc} (h : Like N X R) (hp : X.srcs[i]? = some p) (hq : q.inn = p.inn ∧ q.idle = p.idle ∧ q.mark = p.mark ∧ q.sil = p.sil ∧ q.last = p.last) : Like N { X with srcs := X.srcs.set i q } R := by
  have hi : i < R.srcs.length := by rw [← h.sim.n]; exact (List.getElem?_eq_some_iff.1 hp).1
  have hr := List.getElem?_eq_getElem hi
  have s := h.sim.src i p _ hp hr
  obtain ⟨q1, q2, q3, q4, q5⟩ := hq
  have s' : SrcSim R.c q R.srcs[i] := ⟨q1.trans s.inn, q2.trans s.idle, q3.trans s.mark, ⟨s.sil.1, fun e => q4.trans (s.sil.2.1 e), fun e => q4.trans (s.sil.2.2 e)⟩, q5.trans s.last⟩
  have := sim_src h.sim hr s' (fun h1 h2 => by rw [q3]; exact h.sim.act i p hp (q1 ▸ h1) (q2 ▸ h2)) (Int.le_refl _)
  rw [set_self hr] at this
  exact ⟨this, h.good⟩
theorem rest_like {N : Nat} {X : Eng} {R : Ref} {i : Nat} {r : RSrc} (t : ByteArray) (h : Like N X R) (hr : R.srcs[i]? = some r) : Like N X { R with srcs := R.srcs.set i { r with rest := t } } := by
  have hi : i < X.srcs.length := by rw [h.sim.n]; exact (List.getElem?_eq_some_iff.1 hr).1
  have hp := List.getElem?_eq_getElem hi
  have s := h.sim.src i _ _ hp hr
  have := sim_src (p' := X.srcs[i]) (r' := { r with rest := t }) h.sim hr ⟨s.inn, s.idle, s.mark, s.sil, s.last⟩ (fun h1 h2 => h.sim.act i _ hp h1 h2) (Int.le_refl _)
  rw [set_self hp] at this
  exact ⟨this, good_src h.good (by exact h.good.mks i r hr) (by exact h.good.lens i r hr) (by exact h.good.sil i r hr)⟩
end Go.Proofs.YtghcololkgeoeabGreat
namespace Go.Proofs.YtghcololkgeoeabGreat
open Go.RowKit
set_option linter.unusedVariables false
set_option linter.unusedSimpArgs false

def seg (l : List UInt8) (a k : Nat) : List UInt8 := (l.drop a).take (k - a)
theorem seg_snoc {l : List UInt8} {a k : Nat} (ha : a ≤ k) (hk : k < l.length) : seg l a (k + 1) = seg l a k ++ [l[k]] := by
  unfold seg
  rw [show k + 1 - a = (k - a) + 1 by omega, List.take_add_one, List.getElem?_drop, show a + (k - a) = k by omega, List.getElem?_eq_getElem hk]
  rfl
theorem seg_nil (l : List UInt8) (k : Nat) : seg l k k = [] := by unfold seg; simp
theorem extract_seg (al : ByteArray) (a k : Nat) : (al.extract a k).data.toList = seg al.data.toList a k := by
  unfold seg
  simp [ByteArray.data_extract, List.extract_eq_take_drop]
theorem seg_len (l : List UInt8) (a k : Nat) : (seg l a k).length ≤ l.length := by unfold seg; simp; omega
theorem seg_zero (l m : List UInt8) : seg (l ++ m) 0 l.length = l := by unfold seg; simp

theorem noLine_get {Y : Eng} {i : Nat} {p : PSrc} (hp : Y.srcs[i]? = some p) : Y.noLine i = { Y with srcs := Y.srcs.set i { p with line := [], la := none, lc := 0 } } := by
  unfold Eng.noLine; rw [hp]
theorem noLine_len (Y : Eng) (i : Nat) : (Y.noLine i).srcs.length = Y.srcs.length := by
  unfold Eng.noLine; split <;> simp
theorem noLine_at' {Y : Eng} {i : Nat} {p : PSrc} (hp : Y.srcs[i]? = some p) : (Y.noLine i).srcs[i]? = some { p with line := [], la := none, lc := 0 } := by
  have hi := (List.getElem?_eq_some_iff.1 hp).1
  rw [noLine_get hp]; simp [hi]
theorem noLine_other {Y : Eng} {i j : Nat} (h : j ≠ i) : (Y.noLine i).srcs[j]? = Y.srcs[j]? := by
  unfold Eng.noLine
  split
  · simp [List.getElem?_set, Ne.symm h]
  · rfl
theorem noLine_like {N : Nat} {Y : Eng} {Z : Ref} {i : Nat} {p : PSrc} (h : Like N Y Z) (hp : Y.srcs[i]? = some p) : Like N (Y.noLine i) Z := by
  rw [noLine_get hp]; exact sim_line h hp ⟨rfl, rfl, rfl, rfl, rfl⟩
theorem len_of_lines {X Y : Eng} (h : lineOf X = lineOf Y) : X.srcs.length = Y.srcs.length := by
  have := congrArg List.length h
  simpa [lineOf] using this
theorem len_of_rests {X Y : Ref} (h : restsOf X = restsOf Y) : X.srcs.length = Y.srcs.length := by
  have := congrArg List.length h
  simpa [restsOf] using this

def StepX (i : Nat) (c : UInt8) (f : FedN) (Y : Eng) (f' : FedN) (Y' : Eng) : Prop := ∃ p, Y.srcs[i]? = some p ∧
  ((c ≠ 10 ∧ f' = f ∧ ∃ la lc, Y' = { Y with srcs := Y.srcs.set i (p.keeps c la lc) }) ∨
   (c = 10 ∧ (readOf p.line).k = 0 ∧ f' = f.plus ⟨0, 0, 1⟩ ∧ Y' = Y.noLine i) ∨
   (c = 10 ∧ (readOf p.line).k = 1 ∧ ∃ z q, (Y.noLine i).srcs[i]? = some q ∧ f' = f.plus (fedOf z) ∧ PushX (Y.noLine i) i q (readOf p.line).E z Y') ∨
   (c = 10 ∧ (readOf p.line).k = 2 ∧ ∃ z q, (Y.noLine i).srcs[i]? = some q ∧ f' = f.plus (fedOf z) ∧ PunctX (Y.noLine i) i q (readOf p.line).t z Y'))
def Cnt (j : Nat) (f : FedN) : Prop := 0 ≤ f.good ∧ 0 ≤ f.refused ∧ 0 ≤ f.bad ∧ f.good + f.refused + f.bad ≤ j
theorem cnt_plus {j : Nat} {f : FedN} (h : Cnt j f) (z : Int) : Cnt (j + 1) (f.plus (fedOf z)) := by
  unfold Cnt at *
  unfold fedOf FedN.plus
  split <;> (simp only; omega)
theorem cnt_bad {j : Nat} {f : FedN} (h : Cnt j f) : Cnt (j + 1) (f.plus ⟨0, 0, 1⟩) := by
  unfold Cnt at *
  unfold FedN.plus
  simp only; omega
structure RunX (X0 : Eng) (i N : Nat) (s : ByteArray) (k : Nat) (f : FedN) (Y : Eng) (tr : Nat → FedN × Eng) : Prop where
  t0 : tr 0 = (⟨0, 0, 0⟩, X0)
  tk : tr k = (f, Y)
  st : ∀ j (hj : j < s.size), j < k → StepX i s[j] (tr j).1 (tr j).2 (tr (j + 1)).1 (tr (j + 1)).2
  len : Y.srcs.length = X0.srcs.length
  cnt : ∀ j, j ≤ k → Cnt j (tr j).1
  ex : ∃ Z, Like (N + 2 * k) Y Z
theorem RunX.snoc {X0 Y Y' : Eng} {i N k : Nat} {s : ByteArray} {f f' : FedN} {tr : Nat → FedN × Eng} (h : RunX X0 i N s k f Y tr) (hk : k < s.size) (hst : StepX i s[k] f Y f' Y') (hl : Y'.srcs.length = Y.srcs.length) (hc : Cnt (k + 1) f') (he : ∃ Z, Like (N + 2 * k + 2) Y' Z) : ∃ tr', RunX X0 i N s (k + 1) f' Y' tr' := by
  refine ⟨fun j => if j ≤ k then tr j else (f', Y'), ?_, ?_, ?_, hl.trans h.len, ?_, he⟩
  · simp [h.t0]
  · show (if k + 1 ≤ k then tr (k + 1) else (f', Y')) = _
    rw [if_neg (by omega)]
  · intro j hj hjk
    by_cases hjk' : j < k
    · simp only [if_pos (show j ≤ k by omega), if_pos (show j + 1 ≤ k by omega)]
      exact h.st j hj hjk'
    · obtain rfl : j = k := by omega
      simp only [if_pos (Nat.le_refl j), if_neg (show ¬ j + 1 ≤ j by omega), h.tk]
      exact hst
  · intro j hj
    by_cases hjk : j ≤ k
    · simp only [if_pos hjk]; exact h.cnt j hjk
    · obtain rfl : j = k + 1 := by omega
      simp only [if_neg hjk]; exact hc
theorem xfeed_run (N b : Nat) (X : Eng) (R : Ref) (i : Nat) (s : ByteArray) (w : World) (h : MemX w b X) (hb : Like N X R) (hs : s.size ≤ 2000) (hi : i < X.srcs.length) :
    Calls Tryz.prog 32 #[.pointer (some ⟨b, 0, none⟩), .int .i64 i, .string s] w fun e w' => ∃ f Y tr, e = .returned (.tuple #[.agg #[.int .i64 (FedN.good f), .int .i64 (FedN.refused f), .int .i64 (FedN.bad f)], .int .i64 0]) ∧ RunX X i N s s.size f Y tr ∧ EvoX w b X w' Y := by
  refine (xfeed_ok b X i s w h hs hi (fun k f Y => k ≤ s.size ∧ ∃ tr, RunX X i N s k f Y tr) ?_ ?_ ?_ ?_ ?_).mono ?_
  · refine ⟨Nat.zero_le _, fun _ => (⟨0, 0, 0⟩, X), rfl, rfl, fun j _ hj => absurd hj (by omega), rfl, ?_, ⟨R, hb.mono (by omega)⟩⟩
    intro j hj
    unfold Cnt; simp
  · rintro k f Y ⟨_, tr, hr⟩; exact hr.len
  · rintro k f Y ⟨hk, tr, hr⟩
    have := hr.cnt k (Nat.le_refl _)
    rw [hr.tk] at this
    unfold Cnt at this
    simp only at this
    omega
  · rintro k hk f Y hl ⟨_, tr, hr⟩ h10 la lc
    refine ⟨by omega, ?_⟩
    have hp := List.getElem?_eq_getElem hl
    have hc := hr.cnt k (Nat.le_refl _)
    rw [hr.tk] at hc
    obtain ⟨Z, hZ⟩ := hr.ex
    refine hr.snoc hk ⟨Y.srcs[i], hp, Or.inl ⟨h10, rfl, la, lc, rfl⟩⟩ (by simp) ?_ ⟨Z, Like.mono (N := N + 2 * k) (sim_line hZ hp ⟨rfl, rfl, rfl, rfl, rfl⟩) (by omega)⟩
    unfold Cnt at *
    simp only at hc
    omega
  · rintro k hk f Y ⟨_, tr, hr⟩ h10 u hu
    have hl : i < Y.srcs.length := by rw [hr.len]; exact hi
    have hp := List.getElem?_eq_getElem hl
    have hc := hr.cnt k (Nat.le_refl _)
    rw [hr.tk] at hc
    obtain ⟨Z, hZ⟩ := hr.ex
    have hZn := noLine_like hZ hp
    have hln : i < (Y.noLine i).srcs.length := by rw [noLine_len]; exact hl
    have hlz : i < Z.srcs.length := by rw [← hZ.sim.n]; exact hl
    have hpn := List.getElem?_eq_getElem hln
    have hrz := List.getElem?_eq_getElem hlz
    refine (xtake_any b Y i u hu hl (readOf Y.srcs[i].line) rfl (readOf_kind _) (fun g Z => ∃ tr, RunX X i N s (k + 1) (f.plus g) Z tr) ?_ ?_ ?_).mono ?_
    · intro hk0
      exact hr.snoc hk ⟨Y.srcs[i], hp, Or.inr (Or.inl ⟨h10, hk0, rfl, rfl⟩)⟩ (noLine_len _ _) (cnt_bad hc) ⟨Z, hZn.mono (by omega)⟩
    · intro hk1 v hv
      refine (xpush_rel (readOf Y.srcs[i].line).E hZn hln v hv).mono ?_
      rintro e w' ⟨z, X', he, hP, hev⟩
      refine ⟨z, X', he, ?_, hev⟩
      obtain ⟨z', R', hR⟩ := pushR_some Z.srcs[i] (readOf Y.srcs[i].line).E hlz
      exact hr.snoc hk ⟨Y.srcs[i], hp, Or.inr (Or.inr (Or.inl ⟨h10, hk1, z, _, hpn, rfl, hP⟩))⟩ ((len_of_lines (pushX_lines hpn hP)).trans (noLine_len _ _)) (cnt_plus hc z) ⟨R', (push_agree hZn hpn hrz hP hR).2⟩
    · intro hk1 v hv
      refine (xpunct_rel (readOf Y.srcs[i].line).t hZn hln v hv).mono ?_
      rintro e w' ⟨z, X', he, hP, hev⟩
      refine ⟨z, X', he, ?_, hev⟩
      obtain ⟨z', R', hR⟩ := punctR_some Z.srcs[i] (readOf Y.srcs[i].line).t hlz
      exact hr.snoc hk ⟨Y.srcs[i], hp, Or.inr (Or.inr (Or.inr ⟨h10, hk1, z, _, hpn, rfl, hP⟩))⟩ ((len_of_lines (punctX_lines hpn hP)).trans (noLine_len _ _)) (cnt_plus hc z) ⟨R', (punct_agree hZn hpn hrz hP hR).2⟩
    · rintro e w' ⟨g, Z', he, hg, hev⟩
      exact ⟨g, Z', he, ⟨by omega, hg⟩, hev⟩
  · rintro e w' ⟨f, Y, he, ⟨_, tr, hr⟩, hev⟩
    exact ⟨f, Y, tr, he, hr, hev⟩

structure RunR (X0 : Eng) (R0 : Ref) (i N : Nat) (al : List UInt8) (r : Nat) (tr : Nat → FedN × Eng) (k a : Nat) (f : FedN) (Z : Ref) : Prop where
  ak : a ≤ k
  kl : k ≤ al.length
  early : k < r → a = 0
  eq : f = (tr (k - r)).1
  like : Like (N + 2 * (k - r)) (tr (k - r)).2 Z
  rests : restsOf Z = restsOf R0
  line : r ≤ k → ∃ p, (tr (k - r)).2.srcs[i]? = some p ∧ p.line = (seg al a k).take 41
  no10 : ∀ c ∈ seg al a k, c ≠ 10
  frame : ∀ (j : Nat) p, j ≠ i → (tr (k - r)).2.srcs[j]? = some p → ∃ q, X0.srcs[j]? = some q ∧ q.line = p.line
theorem keeps_take {T : List UInt8} {p : PSrc} {c : UInt8} {la : Option Addr} {lc : Nat} (h : p.line = T.take 41) : (p.keeps c la lc).line = (T ++ [c]).take 41 := by
  unfold PSrc.keeps
  simp only
  rw [h]
  by_cases hl : T.length ≤ 40
  · rw [List.take_of_length_le (show T.length ≤ 41 by omega), if_pos hl, List.take_of_length_le (by simp; omega)]
  · rw [if_neg (by simp; omega), List.take_append_of_le_length (by omega)]
theorem RunR.next {X0 : Eng} {R0 : Ref} {i N : Nat} {al : List UInt8} {r : Nat} {tr : Nat → FedN × Eng} {k a : Nat} {f f' : FedN} {Z Z' : Ref} (h : RunR X0 R0 i N al r tr k a f Z) (hr : r ≤ k) (hk : k < al.length) (hp : ∃ p, (tr (k - r)).2.srcs[i]? = some p)
    (hf : f' = (tr (k - r + 1)).1) (hl : Like (N + 2 * (k - r) + 2) (tr (k - r + 1)).2 Z') (hz : restsOf Z' = restsOf Z) (hx : lineOf (tr (k - r + 1)).2 = lineOf ((tr (k - r)).2.noLine i)) : RunR X0 R0 i N al r tr (k + 1) (k + 1) f' Z' := by
  have e : k + 1 - r = k - r + 1 := by omega
  obtain ⟨p, hp⟩ := hp
  refine ⟨Nat.le_refl _, by omega, fun h => absurd h (by omega), by rw [e]; exact hf, by rw [e]; exact hl.mono (by omega), hz.trans h.rests, ?_, ?_, ?_⟩
  · intro _
    rw [e]
    obtain ⟨q, hq, eq⟩ := lineOf_get hx.symm (noLine_at' hp)
    exact ⟨q, hq, by rw [eq, seg_nil]; rfl⟩
  · rw [seg_nil]; simp
  · intro j q hj hq
    rw [e] at hq
    obtain ⟨q', hq', eq⟩ := lineOf_get hx hq
    rw [noLine_other hj] at hq'
    obtain ⟨q2, h2, e2⟩ := h.frame j q' hj hq'
    exact ⟨q2, h2, e2.trans eq⟩
theorem RunR.skip {X0 : Eng} {R0 : Ref} {i N : Nat} {s : ByteArray} {al : List UInt8} {r : Nat} {tr : Nat → FedN × Eng} {k a : Nat} {f fe : FedN} {Y : Eng} {Z : Ref} {rs : RSrc} (h : RunR X0 R0 i N al r tr k a f Z) (hk : k < al.length) (hX : RunX X0 i N s s.size fe Y tr) (hl : Lines N X0 R0) (hrs : R0.srcs[i]? = some rs) (hx0 : i < X0.srcs.length) (hr : r = rs.rest.data.toList.length) (hal : al = rs.rest.data.toList ++ s.data.toList) (h10 : al[k] ≠ 10) : RunR X0 R0 i N al r tr (k + 1) a f Z := by
  have hsl : al.length = r + s.size := by rw [hal, hr]; simp
  have hno : ∀ c ∈ seg al a (k + 1), c ≠ 10 := by
    rw [seg_snoc h.ak hk]
    intro c hc
    rcases List.mem_append.1 hc with hc | hc
    · exact h.no10 c hc
    · simp only [List.mem_singleton] at hc; rw [hc]; exact h10
  by_cases hkr : k < r
  · have e0 : k - r = 0 := by omega
    have e1 : k + 1 - r = 0 := by omega
    have ha := h.early hkr
    have hlk := h.like
    have heq := h.eq
    have hfr := h.frame
    rw [e0] at hlk heq hfr
    refine ⟨by omega, by omega, fun _ => ha, by rw [e1]; exact heq, by rw [e1]; exact hlk, h.rests, ?_, hno, by rw [e1]; exact hfr⟩
    intro hrk
    have hkk : k + 1 = r := by omega
    rw [e1, hX.t0]
    refine ⟨X0.srcs[i], List.getElem?_eq_getElem hx0, ?_⟩
    rw [ha, hkk, hal, hr, seg_zero]
    exact (hl i _ _ (List.getElem?_eq_getElem hx0) hrs).1
  · have hj : k - r < s.size := by omega
    have e : k + 1 - r = k - r + 1 := by omega
    have hb : s[k - r] = al[k] := by
      have : al[k] = s.data.toList[k - r]'(by simpa using hj) := by
        simp only [hal]
        rw [List.getElem_append_right (by omega)]
        simp only [hr]
      rw [this]; rfl
    obtain ⟨p, hp, hst⟩ := hX.st (k - r) hj hj
    rw [hb] at hst
    obtain ⟨p', hp', hln⟩ := h.line (by omega)
    rw [hp] at hp'
    cases hp'
    rcases hst with ⟨_, hf, la, lc, hY⟩ | ⟨hc, _⟩ | ⟨hc, _⟩ | ⟨hc, _⟩
    · have hi := (List.getElem?_eq_some_iff.1 hp).1
      refine ⟨by have := h.ak; omega, by omega, fun h => absurd h (by omega), by rw [e, hf]; exact h.eq, ?_, h.rests, ?_, hno, ?_⟩
      · rw [e, hY]
        exact Like.mono (N := N + 2 * (k - r)) (sim_line h.like hp ⟨rfl, rfl, rfl, rfl, rfl⟩) (by omega)
      · intro _
        rw [e, hY]
        refine ⟨p.keeps al[k] la lc, by simp [hi], ?_⟩
        rw [seg_snoc h.ak hk]
        exact keeps_take hln
      · intro j q hjn hq
        rw [e, hY] at hq
        simp only [List.getElem?_set, if_neg (Ne.symm hjn)] at hq
        exact h.frame j q hjn hq
    · exact absurd hc h10
    · exact absurd hc h10
    · exact absurd hc h10
theorem fedZ_done (z : Int) : fedZ (doneOf z) = fedOf z := by
  unfold fedZ doneOf fedOf
  split <;> simp
theorem read_line {T : List UInt8} : (T.length ≤ 40 → T.take 41 = T) ∧ (40 < T.length → 40 < (T.take 41).length) := ⟨fun h => List.take_of_length_le (by omega), fun h => by simp; omega⟩
theorem rfeed_run (N b : Nat) (X : Eng) (R : Ref) (i : Nat) (s : ByteArray) (w : World) (h : MemR w b R) (hb : Like N X R) (hlines : Lines N X R) (hN : N ≤ 400000000000) (hs : s.size ≤ 2000) (hi : i < R.srcs.length) (f : FedN) (Y : Eng) (tr : Nat → FedN × Eng) (hX : RunX X i N s s.size f Y tr) :
    Calls Tryz.prog 33 #[.pointer (some ⟨b, 0, none⟩), .int .i64 i, .string s] w fun e w' => ∃ Z, e = .returned (.tuple #[.agg #[.int .i64 (FedN.good f), .int .i64 (FedN.refused f), .int .i64 (FedN.bad f)], .int .i64 0]) ∧ Like (N + 5000) Y Z ∧ Lines (N + 5000) Y Z ∧ Evo w b R w' Z := by
  have hx : i < X.srcs.length := by rw [hb.sim.n]; exact hi
  have hrs := List.getElem?_eq_getElem hi
  have hxs := List.getElem?_eq_getElem hx
  have hli := hlines i _ _ hxs hrs
  obtain ⟨al, hal⟩ : ∃ al, al = R.srcs[i].rest ++ s := ⟨_, rfl⟩
  have hall : al.data.toList = R.srcs[i].rest.data.toList ++ s.data.toList := by rw [hal]; exact append_toList _ _
  have hsz : al.data.toList.length = al.size := by simp
  have hln : al.size = R.srcs[i].rest.data.toList.length + s.size := by rw [← hsz, hall]; simp
  refine (rfeed_ok b R i s w h hs hi al hal (by omega) (fun k a f Z => RunR X R i N al.data.toList R.srcs[i].rest.data.toList.length tr k a f Z) ?_ ?_ ?_ ?_ ?_).mono ?_
  · refine ⟨Nat.le_refl _, Nat.zero_le _, fun _ => rfl, ?_, ?_, rfl, ?_, ?_, ?_⟩
    · rw [Nat.zero_sub, hX.t0]
    · rw [Nat.zero_sub, hX.t0]; exact hb.mono (by omega)
    · intro h0
      rw [Nat.zero_sub, hX.t0]
      refine ⟨_, hxs, ?_⟩
      have : R.srcs[i].rest.data.toList = [] := List.eq_nil_of_length_eq_zero (by omega)
      rw [hli.1, this, seg_nil]
    · rw [seg_nil]; simp
    · intro j p hj hp
      rw [Nat.zero_sub, hX.t0] at hp
      exact ⟨p, hp, rfl⟩
  · intro k a f Z hR
    exact ⟨len_of_rests hR.rests, hR.ak⟩
  · intro k a f' Z hR
    have hk := hR.kl
    have := hX.cnt (k - R.srcs[i].rest.data.toList.length) (by omega)
    rw [← hR.eq] at this
    unfold Cnt at this
    omega
  · intro k hk a f' Z hR h10
    exact hR.skip (by omega) hX hlines hrs hx rfl hall h10
  · intro k hk a f' Z hR h10 u hu
    have hkl : k < al.data.toList.length := by omega
    have hk10 : al.data.toList[k] = 10 := h10
    have hkr : R.srcs[i].rest.data.toList.length ≤ k := by
      by_cases hc : k < R.srcs[i].rest.data.toList.length
      · exfalso
        have : al.data.toList[k] = R.srcs[i].rest.data.toList[k] := by simp only [hall]; rw [List.getElem_append_left hc]
        rw [this] at hk10
        exact hli.2.1 _ (List.getElem_mem hc) hk10
      · omega
    have hj : k - R.srcs[i].rest.data.toList.length < s.size := by omega
    obtain ⟨p, hp, hst⟩ := hX.st (k - R.srcs[i].rest.data.toList.length) hj hj
    have hb10 : s[k - R.srcs[i].rest.data.toList.length] = 10 := by
      have : al.data.toList[k] = s.data.toList[k - R.srcs[i].rest.data.toList.length]'(by simpa using hj) := by
        simp only [hall]
        rw [List.getElem_append_right (by omega)]
      rw [this] at hk10; exact hk10
    rw [hb10] at hst
    obtain ⟨p', hp', hpl⟩ := hR.line hkr
    rw [hp] at hp'
    cases hp'
    have hT := extract_seg al a k
    have hTs : (al.extract a k).size = (seg al.data.toList a k).length := by rw [← hT, Array.length_toList]; rfl
    have hiz : i < Z.srcs.length := by rw [len_of_rests hR.rests]; exact hi
    have hrz := List.getElem?_eq_getElem hiz
    have hNb : N + 2 * (k - R.srcs[i].rest.data.toList.length) ≤ 7000000000000 := by omega
    have hlk := noLine_like hR.like hp
    refine (rline_any b Z i (al.extract a k) u hu (fun z Z' => RunR X R i N al.data.toList R.srcs[i].rest.data.toList.length tr (k + 1) (k + 1) (f'.plus (fedZ z)) Z') ?_ ?_ ?_).mono ?_
    · intro hbad
      rw [hT, hTs] at hbad
      have hrd : readOf p.line = zSaid := by
        rw [hpl]
        by_cases h40 : (seg al.data.toList a k).length ≤ 40
        · rw [read_line.1 h40]
          rcases hbad with hbad | hbad
          · omega
          · exact readOf_bad (Or.inr hbad)
        · exact readOf_bad (Or.inl (read_line.2 (by omega)))
      rw [hrd] at hst
      rcases hst with ⟨hc, _⟩ | ⟨_, _, hf, hY⟩ | ⟨_, hc, _⟩ | ⟨_, hc, _⟩
      · exact absurd rfl hc
      · refine hR.next hkr hkl ⟨p, hp⟩ ?_ ?_ rfl (by rw [hY])
        · rw [hf, ← hR.eq]; rfl
        · rw [hY]; exact hlk.mono (by omega)
      · exact absurd hc (by first | decide | simp)
      · exact absurd hc (by first | decide | simp)
    · intro h40 hev v hv
      rw [hT] at hev ⊢
      have hrd : readOf p.line = ⟨1, evOf (seg al.data.toList a k), 0⟩ := by
        rw [hpl, read_line.1 (by omega)]; exact readOf_ev (by omega) hev
      rw [hrd] at hst
      rcases hst with ⟨hc, _⟩ | ⟨_, hc, _⟩ | ⟨_, _, z, q, hq, hf, hP⟩ | ⟨_, hc, _⟩
      · exact absurd rfl hc
      · exact absurd hc (by first | decide | simp)
      · refine (rpush_rel (evOf (seg al.data.toList a k)) hR.like hNb hiz v hv).mono ?_
        rintro e w' ⟨z', Z', he, hPR, hev'⟩
        refine ⟨z', Z', he, ?_, hev'⟩
        obtain ⟨hzz, hL⟩ := push_agree hlk hq hrz hP hPR
        refine hR.next hkr hkl ⟨p, hp⟩ ?_ hL (pushR_rests hPR) (pushX_lines hq hP)
        rw [hf, ← hR.eq, ← hzz, fedZ_done]
      · exact absurd hc (by first | decide | simp)
    · intro h40 hnev hpu v hv
      rw [hT] at hpu ⊢
      have hrd : readOf p.line = ⟨2, zE, (punctOf (seg al.data.toList a k)).1⟩ := by
        rw [hpl, read_line.1 (by omega)]; exact readOf_punct (by omega) hpu
      rw [hrd] at hst
      rcases hst with ⟨hc, _⟩ | ⟨_, hc, _⟩ | ⟨_, hc, _⟩ | ⟨_, _, z, q, hq, hf, hP⟩
      · exact absurd rfl hc
      · exact absurd hc (by first | decide | simp)
      · exact absurd hc (by first | decide | simp)
      · refine (rpunct_rel (punctOf (seg al.data.toList a k)).1 hR.like hNb hiz v hv).mono ?_
        rintro e w' ⟨z', Z', he, hPR, hev'⟩
        refine ⟨z', Z', he, ?_, hev'⟩
        obtain ⟨hzz, hL⟩ := punct_agree hlk hq hrz hP hPR
        refine hR.next hkr hkl ⟨p, hp⟩ ?_ hL (punctR_rests hPR) (punctX_lines hq hP)
        rw [hf, ← hR.eq, ← hzz, fedZ_done]
    · rintro e w' ⟨z, Z', he, hz, hR', hev⟩
      exact ⟨z, Z', he, hz, hR', hev⟩
  · rintro e w' ⟨f', a, Z, he, hR, hlz, hev⟩
    have ej : al.size - R.srcs[i].rest.data.toList.length = s.size := by omega
    have heq := hR.eq
    have hlk := hR.like
    have hli' := hR.line (by omega)
    have hfr := hR.frame
    rw [ej, hX.tk] at heq hlk hli' hfr
    simp only at heq hlk hli' hfr
    subst heq
    have hrz := List.getElem?_eq_getElem hlz
    refine ⟨_, he, (rest_like (al.extract a al.size) hlk hrz).mono (by omega), ?_, hev⟩
    intro j q r hq hr
    rw [List.getElem?_set] at hr
    split at hr
    · rename_i e
      subst e
      (try rw [if_pos hlz] at hr)
      simp only [Option.some.injEq] at hr
      subst hr
      obtain ⟨p, hp, hpl⟩ := hli'
      rw [hq] at hp
      cases hp
      simp only
      rw [extract_seg]
      refine ⟨hpl, hR.no10, ?_⟩
      have := seg_len al.data.toList a al.size
      have := hli.2.2
      omega
    · rename_i hji
      obtain ⟨q0, h0, e0⟩ := hfr j q (Ne.symm hji) hq
      obtain ⟨r0, g0, e1⟩ := restsOf_get hR.rests hr
      have := hlines j q0 r0 h0 g0
      rw [e0, e1] at this
      exact ⟨this.1, this.2.1, by have := this.2.2; omega⟩
end Go.Proofs.YtghcololkgeoeabGreat
