import Derived.Test.YtghcololkgeoeabGreatPartN1
import Derived.Test.YtghcololkgeoeabGreatPartN0
import Derived.Deep.QuietTactic
import Derived.BigQuiet
import Derived.Deep.DeepCutAuto
import Derived.Deep.CutBlock
namespace Go.Proofs.YtghcololkgeoeabGreat
open Go.RowKit
set_option linter.unusedVariables false
set_option linter.unusedSimpArgs false
attribute [local go_sem ↓] Go.wp_at_zero Go.wp_at_succ

def atN (f : List Nat) (k : Nat) : Nat := f[k]?.getD 0
def Pq.hit (P : Pq) (l : List Ev) (f : List Nat) (k i : Nat) : Prop := atN f (k - 1) < i ∧ i < atN f k ∧ (evAt l i).kind = P.nt k ∧ (P.sm = true → (evAt l i).val = (evAt l (atN f 0)).val)
def Pq.okD (P : Pq) (l : List Ev) (f : List Nat) (k : Nat) : Prop := (evAt l (atN f k)).kind = P.kd k ∧ (P.sm = true → (evAt l (atN f k)).val = (evAt l (atN f 0)).val) ∧ (k ≠ 0 → atN f (k - 1) < atN f k ∧ ∀ i, ¬ P.hit l f k i)
theorem M_iffD {P : Pq} {l : List Ev} {f : List Nat} (hn : f ≠ []) : P.M l f ↔ (evAt l (atN f (f.length - 1))).ts - (evAt l (atN f 0)).ts ≤ P.wn ∧ ∀ k, k < f.length → P.okD l f k := by
  have hh : f.headD 0 = atN f 0 := by cases f <;> rfl
  have hl : f.getLastD 0 = atN f (f.length - 1) := by
    unfold atN
    rw [List.getLastD_eq_getLast?, List.getLast?_eq_getElem?]
  have hat : ∀ k p, f[k]? = some p → p = atN f k := fun k p h => by unfold atN; rw [h]; rfl
  have hta : ∀ k, k < f.length → f[k]? = some (atN f k) := fun k h => by unfold atN; rw [List.getElem?_eq_getElem h]; rfl
  unfold Pq.M
  rw [hh, hl]
  constructor
  · rintro ⟨h1, h2, h3⟩
    refine ⟨h1, fun k hk => ?_⟩
    obtain ⟨a1, a2⟩ := h2 k _ (hta k hk)
    refine ⟨a1, a2, fun h0 => ?_⟩
    obtain ⟨j, rfl⟩ : ∃ j, k = j + 1 := ⟨k - 1, by omega⟩
    obtain ⟨b1, b2⟩ := h3 j _ _ (hta j (by omega)) (hta (j + 1) hk)
    exact ⟨b1, fun i hi => b2 i hi.1 hi.2.1 hi.2.2⟩
  · rintro ⟨h1, h2⟩
    refine ⟨h1, ?_, ?_⟩
    · intro k p hp
      have hk := (List.getElem?_eq_some_iff.1 hp).1
      rw [hat k p hp]
      exact ⟨(h2 k hk).1, (h2 k hk).2.1⟩
    · intro k p q hp hq
      have hk := (List.getElem?_eq_some_iff.1 hq).1
      rw [hat k p hp, hat _ q hq]
      have := (h2 (k + 1) hk).2.2 (by omega)
      exact ⟨this.1, fun i i1 i2 h => this.2 i ⟨i1, i2, h⟩⟩
def NumR (w : World) (a : Option Addr) (n : Nat) (f : Nat → Int) : Prop := ∀ (k : Nat), k < n → ∃ g, a = some ⟨g, 0, none⟩ ∧ g < w.heap.size ∧ w.cell? ⟨g, k, none⟩ = some (.int .i64 (f k))
theorem NumR.below {w w' : World} {a : Option Addr} {n : Nat} {f : Nat → Int} (h : NumR w a n f) (hb : Below w.heap.size w w') : NumR w' a n f := by
  intro k hk
  obtain ⟨g, ha, hg, c⟩ := h k hk
  exact ⟨g, ha, Nat.lt_of_lt_of_le hg hb.size, (hb.cell (p := ⟨g, k, none⟩) hg).trans c⟩
def EvR (w : World) (a : Option Addr) (l : List Ev) : Prop := ∀ (k : Nat), k < l.length → ∃ g, a = some ⟨g, 0, none⟩ ∧ g < w.heap.size ∧ w.cell? ⟨g, k * 5, none⟩ = some (.int .i64 (evAt l k).src) ∧ w.cell? ⟨g, k * 5 + 1, none⟩ = some (.int .i64 (evAt l k).seq) ∧ w.cell? ⟨g, k * 5 + 2, none⟩ = some (.int .i64 (evAt l k).ts) ∧ w.cell? ⟨g, k * 5 + 3, none⟩ = some (.int .i64 (evAt l k).kind) ∧ w.cell? ⟨g, k * 5 + 4, none⟩ = some (.int .i64 (evAt l k).val)
theorem EvR.below {w w' : World} {a : Option Addr} {l : List Ev} (h : EvR w a l) (hb : Below w.heap.size w w') : EvR w' a l := by
  intro k hk
  obtain ⟨g, ha, hg, c0, c1, c2, c3, c4⟩ := h k hk
  exact ⟨g, ha, Nat.lt_of_lt_of_le hg hb.size, (hb.cell (p := ⟨g, k * 5, none⟩) hg).trans c0, (hb.cell (p := ⟨g, k * 5 + 1, none⟩) hg).trans c1, (hb.cell (p := ⟨g, k * 5 + 2, none⟩) hg).trans c2, (hb.cell (p := ⟨g, k * 5 + 3, none⟩) hg).trans c3, (hb.cell (p := ⟨g, k * 5 + 4, none⟩) hg).trans c4⟩
theorem EvR.of_row {w : World} {a : Option Addr} {l : List Ev} {c : Nat} {t : TypeId} (h : Row w t 5 a l.length c (evs l)) : EvR w a l := by
  intro k hk
  obtain ⟨g, hg, _, _, hc, _⟩ := h.form (by omega)
  have e : evAt l k = l[k] := by unfold evAt; rw [List.getElem?_eq_getElem hk]; rfl
  have hh : ∀ o, o < 5 → w.cell? ⟨g, k * 5 + o, none⟩ = (l[k]).vals[o]? := by
    intro o ho
    rw [hc _ (by omega), evs, flatMap_get _ 5 Ev.len l k o ho hk]
  rw [e]
  exact ⟨g, hg, h.lt (by rw [hg]; rfl), hh 0 (by omega), hh 1 (by omega), hh 2 (by omega), hh 3 (by omega), hh 4 (by omega)⟩
structure Md (w wr : World) (P : Pq) (l : List Ev) (f : List Nat) (n rb : Nat) (sa : Option Addr) (sc : Nat) (ga : Option Addr) (aa : Option Addr) (ab : Nat) : Prop where
  bel : Below w.heap.size w wr
  lt : rb < wr.heap.size
  p0 : wr.cell? ⟨rb, 6, none⟩ = some (.slice sa n sc)
  p1 : wr.cell? ⟨rb, 7, none⟩ = some (.bool P.sm)
  p2 : wr.cell? ⟨rb, 8, none⟩ = some (.int .i64 P.wn)
  st : StAt wr sa P.st
  fst : Blk wr ab 30 (Ev.vals (evAt l (atN f 0)))
  ev : EvR wr ga l
  at_ : NumR wr aa n (fun k => (atN f k : Nat))
theorem Md.below {w wr wq : World} {P : Pq} {l : List Ev} {f : List Nat} {n rb : Nat} {sa : Option Addr} {sc : Nat} {ga aa : Option Addr} {ab : Nat} (h : Md w wr P l f n rb sa sc ga aa ab) (hb : Below wr.heap.size wr wq) : Md w wq P l f n rb sa sc ga aa ab :=
  ⟨h.bel.trans (hb.mono h.bel.size), Nat.lt_of_lt_of_le h.lt hb.size, (hb.cell (p := ⟨rb, 6, none⟩) h.lt).trans h.p0, (hb.cell (p := ⟨rb, 7, none⟩) h.lt).trans h.p1, (hb.cell (p := ⟨rb, 8, none⟩) h.lt).trans h.p2, h.st.below hb, h.fst.below hb h.fst.lt, h.ev.below hb, h.at_.below hb⟩
set_option maxRecDepth 100000 in
set_option maxHeartbeats 4000000 in
theorem rmatch_any (P : Pq) (l : List Ev) (f : List Nat) (n rb : Nat) (sa : Option Addr) (sc : Nat) (ga : Option Addr) (gc : Nat) (aa : Option Addr) (ac : Nat) (w : World) (hf : f.length = n) (hn : P.st.length = n) (h1 : 1 ≤ n) (h3 : n ≤ 3) (hl : l.length ≤ 1000) (hlt : ∀ k, k < n → atN f k < l.length) (hts : TsOk l) (hkn : ∀ i, i < l.length → (evAt l i).kind ≠ 0) (hnn : ∀ k, 0 ≤ P.nt k)
    (hrb : rb < w.heap.size) (hp0 : w.cell? ⟨rb, 6, none⟩ = some (.slice sa n sc)) (hp1 : w.cell? ⟨rb, 7, none⟩ = some (.bool P.sm)) (hp2 : w.cell? ⟨rb, 8, none⟩ = some (.int .i64 P.wn)) (hst : StAt w sa P.st) (hev : EvR w ga l) (hat : NumR w aa n (fun k => (atN f k : Nat))) :
    Calls Tryz.prog 80 #[.pointer (some ⟨rb, 6, none⟩), .slice ga l.length gc, .slice aa n ac] w fun e w' => ∃ r, e = .returned (.bool r) ∧ (r = true ↔ P.M l f) ∧ Below w.heap.size w w' := by
  have HMi : Hid (P.M l f ↔ (evAt l (atN f (n - 1))).ts - (evAt l (atN f 0)).ts ≤ P.wn ∧ ∀ k, k < n → P.okD l f k) := by show _ ↔ _; rw [← hf]; exact M_iffD (fun e => by rw [e] at hf; simp at hf; omega)
  obtain ⟨MM, HMM⟩ := hex (P.M l f)
  rw [← HMM.out] at HMi ⊢
  have HA : Hid (∀ ab v, Below w.heap.size w v → Blk v ab 30 (Ev.vals (evAt l (atN f 0))) → Md w v P l f n rb sa sc ga aa ab) := fun ab v hv hb => ⟨hv, Nat.lt_of_lt_of_le hrb hv.size, (hv.cell (p := ⟨rb, 6, none⟩) hrb).trans hp0, (hv.cell (p := ⟨rb, 7, none⟩) hrb).trans hp1, (hv.cell (p := ⟨rb, 8, none⟩) hrb).trans hp2, hst.below hv, hb, hev.below hv, hat.below hv⟩
  have HLt : Hid (∀ k, k < n → atN f k < l.length) := hlt
  have HKn : Hid ((∀ i, i < l.length → (evAt l i).kind ≠ 0) ∧ ∀ k, 0 ≤ P.nt k) := ⟨hkn, hnn⟩
  have HPn : Hid (P.st.length = n) := hn
  have t0 := hts.at (atN f 0) (hlt 0 (by omega))
  have t1 := hts.at (atN f (n - 1)) (hlt (n - 1) (by omega))
  obtain ⟨m, hm⟩ : ∃ m, n = m + 1 := ⟨n - 1, by omega⟩
  have HNm : Hid (n = m + 1) := hm
  have hw1 : IntKind.i64.wrap ((n : Int) - 1) = (m : Int) := by rw [IntKind.wrap_i64]; omega
  have hm1 : (m : Int) < (n : Int) := by omega
  have hm0 : (0 : Int) ≤ (m : Int) := by omega
  have hn0 : (0 : Int) < (n : Int) := by omega
  have hnm : n - 1 = m := by omega
  rw [hnm] at HMi t1
  have hlt0 : atN f 0 < l.length := hlt 0 (by omega)
  have hltm : atN f m < l.length := hlt m (by omega)
  have hlt0' : (atN f 0 : Int) < (l.length : Int) := by omega
  have hltm' : (atN f m : Int) < (l.length : Int) := by omega
  have hp00 : (0 : Int) ≤ (atN f 0 : Int) := by omega
  have hpm0 : (0 : Int) ≤ (atN f m : Int) := by omega
  obtain ⟨ga0, hga0, _, e0, e1, e2, e3, e4⟩ := hev (atN f 0) hlt0
  obtain ⟨ga1, hga1, _, x0⟩ := hat 0 (by omega)
  subst hga0
  subst hga1
  obtain ⟨E0, HE0⟩ := hex (evAt l (atN f 0))
  rw [← HE0.out] at e0 e1 e2 e3 e4 t0 HMi HA
  clear hp0 hp1 hp2 hst hev hat hlt hts hm hnm HMM hkn hnn hrb hn
  go_enter Tryz.func80, Tryz.ntmps80
  go_upto_region 2 with fail
  obtain ⟨w2, HW2⟩ := hex (w.alloc (.cells (Ev.vals E0).toArray 30))
  obtain ⟨ab, HAb⟩ := hex w.heap.size
  have hw2 : w.alloc (.cells #[.int .i64 E0.src, .int .i64 E0.seq, .int .i64 E0.ts, .int .i64 E0.kind, .int .i64 E0.val] 30) = w2 := HW2.out.symm
  have HM2 : Hid (Md w w2 P l f n rb sa sc (some ⟨ga0, 0, none⟩) (some ⟨ga1, 0, none⟩) ab) := by
    have hb : Below w.heap.size w w2 := by rw [HW2.out]; exact (Below.refl _ _).alloc (Nat.le_refl _) _
    refine HA.out _ _ hb ?_
    rw [HW2.out, HAb.out]; exact blk_alloc _ _ _
  rw [hw2, ← HAb.out]
  clear hw2 HW2 HAb e0 e1 e2 e3 e4 x0 HA
  obtain ⟨ga2, hga2, _, x0⟩ := HM2.out.at_ m (by omega)
  simp only [Option.some.injEq, Addr.mk.injEq, and_true] at hga2
  subst hga2
  obtain ⟨ga3, hga3, _, e0, e1, e2, e3, e4⟩ := HM2.out.ev (atN f m) hltm
  simp only [Option.some.injEq, Addr.mk.injEq, and_true] at hga3
  subst hga3
  obtain ⟨E1, HE1⟩ := hex (evAt l (atN f m))
  rw [← HE1.out] at e0 e1 e2 e3 e4 t1 HMi
  go_upto_region 3 with fail
  obtain ⟨w3, HW3⟩ := hex (w2.alloc (.cells (Ev.vals E1).toArray 30))
  obtain ⟨zb, HZb⟩ := hex w2.heap.size
  have hw3 : w2.alloc (.cells #[.int .i64 E1.src, .int .i64 E1.seq, .int .i64 E1.ts, .int .i64 E1.kind, .int .i64 E1.val] 30) = w3 := HW3.out.symm
  have HM3 : Hid (Md w w3 P l f n rb sa sc (some ⟨ga0, 0, none⟩) (some ⟨ga1, 0, none⟩) ab ∧ Blk w3 zb 30 (Ev.vals E1)) := by
    have hb : Below w2.heap.size w2 w3 := by rw [HW3.out]; exact (Below.refl _ _).alloc (Nat.le_refl _) _
    refine ⟨HM2.out.below hb, ?_⟩
    rw [HW3.out, HZb.out]; exact blk_alloc _ _ _
  rw [hw3, ← HZb.out]
  clear hw3 HW3 HZb e0 e1 e2 e3 e4 x0 HM2
  have p3 := HM3.out.1.p2
  have a2 := HM3.out.1.fst.cell 2
  have z2 := HM3.out.2.cell 2
  rw [← HE0.out] at a2
  simp only [Ev.vals, List.getElem?_cons_succ, List.getElem?_cons_zero] at a2 z2
  have hsub : IntKind.i64.wrap (E1.ts - E0.ts) = E1.ts - E0.ts := by rw [IntKind.wrap_i64]; omega
  obtain ⟨wb3, HWb3⟩ := hex (decide (P.wn < E1.ts - E0.ts))
  go_cut [36] (fun s wx => s = .bool wb3 ∧ ∃ q, wx = w3.drewN q)
  case first =>
    go_quiet (fail)
    go_wp2
    go_meet
    case rel => exact ⟨by rw [HWb3.out], _, rfl⟩
  case rest =>
  obtain ⟨rfl, q0, hq0⟩ := hcut
  have HM4 : Hid (Md w wc P l f n rb sa sc (some ⟨ga0, 0, none⟩) (some ⟨ga1, 0, none⟩) ab) := by
    show Md _ _ _ _ _ _ _ _ _ _ _ _
    rw [hq0]; exact HM3.out.1.below ⟨rfl, rfl, rfl, Nat.le_refl _, fun _ _ => rfl⟩
  clear p3 a2 z2 hsub HM3 hq0
  by_cases hwn : P.wn < E1.ts - E0.ts
  · have hwt : wb3 = true := by rw [HWb3.out]; simpa using hwn
    have HF : Hid (¬ MM) := by intro h; have := (HMi.out.1 h).1; omega
    clear HWb3
    subst hwt
    go_wp2
    go_ret
    first | exact ⟨false, rfl, ⟨(fun h => by cases h), fun h => (HF.out h).elim⟩, HM4.out.bel⟩ | exact Or.inl ⟨rfl, HF.out, HM4.out.bel⟩
  · have HMj : Hid (MM ↔ ∀ k, k < n → P.okD l f k) := by
      have h := HMi.out
      constructor
      · intro hM; exact (h.1 hM).2
      · intro hk; exact h.2 ⟨by omega, hk⟩
    have hwt : wb3 = false := by rw [HWb3.out]; simpa using hwn
    clear HMi t0 t1 HE1 HWb3
    subst hwt
    obtain ⟨w4, HW4⟩ := hex wc
    rw [← HW4.out] at HM4
    rw [← HW4.out]
    clear HW4
    go_wp2
    go_loopw [9] (fun kv wr => ∃ (k : Nat), k ≤ n ∧ kv = .int .i64 k ∧ Md w wr P l f n rb sa sc (some ⟨ga0, 0, none⟩) (some ⟨ga1, 0, none⟩) ab ∧ ∀ j, j < k → P.okD l f j) (fun kv _ => n - (intOf kv).toNat)
    case atStart => exact ⟨0, Nat.zero_le _, rfl, HM4.out, fun j hj => by omega⟩
    case round =>
      clear HM4
      obtain ⟨k, hk, rfl, hMd, hok⟩ := hrel
      have HM : Hid (Md w wr P l f n rb sa sc (some ⟨ga0, 0, none⟩) (some ⟨ga1, 0, none⟩) ab) := hMd
      have HOk : Hid (∀ j, j < k → P.okD l f j) := hok
      clear hMd hok
      by_cases hkn : k < n
      · have hkn' : (k : Int) < (n : Int) := by omega
        have hk0 : (0 : Int) ≤ (k : Int) := by omega
        have hpk := HLt.out k hkn
        have hpk' : (atN f k : Int) < (l.length : Int) := by omega
        have hpk0 : (0 : Int) ≤ (atN f k : Int) := by omega
        obtain ⟨g1, hg1, _, x0⟩ := HM.out.at_ k hkn
        simp only [Option.some.injEq, Addr.mk.injEq, and_true] at hg1
        subst hg1
        obtain ⟨g2, hg2, _, e0, e1, e2, e3, e4⟩ := HM.out.ev (atN f k) hpk
        simp only [Option.some.injEq, Addr.mk.injEq, and_true] at hg2
        subst hg2
        obtain ⟨EK, HEK⟩ := hex (evAt l (atN f k))
        rw [← HEK.out] at e0 e1 e2 e3 e4
        go_upto_region 9 with fail
        obtain ⟨v1, HV1⟩ := hex (wr.alloc (.cells (Ev.vals EK).toArray 30))
        obtain ⟨eb, HEb⟩ := hex wr.heap.size
        have hv1 : wr.alloc (.cells #[.int .i64 EK.src, .int .i64 EK.seq, .int .i64 EK.ts, .int .i64 EK.kind, .int .i64 EK.val] 30) = v1 := HV1.out.symm
        have HN : Hid (Md w v1 P l f n rb sa sc (some ⟨ga0, 0, none⟩) (some ⟨ga1, 0, none⟩) ab ∧ Blk v1 eb 30 (Ev.vals EK)) := by
          have hb : Below wr.heap.size wr v1 := by rw [HV1.out]; exact (Below.refl _ _).alloc (Nat.le_refl _) _
          refine ⟨HM.out.below hb, ?_⟩
          rw [HV1.out, HEb.out]; exact blk_alloc _ _ _
        rw [hv1, ← HEb.out]
        clear hv1 HV1 HEb e0 e1 e2 e3 e4 x0 HM
        have p0 := HN.out.1.p0
        have p2 := HN.out.1.p1
        have a4 := HN.out.1.fst.cell 4
        have e3 := HN.out.2.cell 3
        have e4 := HN.out.2.cell 4
        rw [← HE0.out] at a4
        simp only [Ev.vals, List.getElem?_cons_succ, List.getElem?_cons_zero] at a4 e3 e4
        obtain ⟨gk, hgk, -, y00, -⟩ := HN.out.1.st k (by rw [HPn.out]; exact hkn)
        rw [hgk] at p0
        have HGk : Hid (sa = some ⟨gk, 0, none⟩) := hgk
        obtain ⟨u, HU⟩ := hex (P.kd k)
        have y0 : v1.cell? ⟨gk, k * 2, none⟩ = some (.int .i64 u) := by rw [HU.out]; exact y00
        clear hgk y00
        obtain ⟨bad, HBad⟩ := hex ((EK.kind != u) || (P.sm && (EK.val != E0.val)))
        go_cut [73] (fun s wx => s = .bool bad ∧ ∃ q, wx = v1.drewN q)
        case first =>
          by_cases hvu : EK.kind = u
          · have hb : (EK.kind != u) = false := by simp [hvu]
            obtain ⟨sv, hs⟩ : ∃ sv, P.sm = sv := ⟨_, rfl⟩
            cases sv with
            | false =>
              rw [hs] at p2
              have HR : Hid (bad = false) := by show _ = _; rw [HBad.out, hb, hs]; rfl
              clear hs HBad
              go_quiet (fail)
              go_wp2
              go_meet
              case rel => exact ⟨by rw [HR.out], _, rfl⟩
            | true =>
              rw [hs] at p2
              have HR : Hid (bad = (EK.val != E0.val)) := by show _ = _; rw [HBad.out, hb, hs]; rfl
              clear hs HBad
              go_quiet (fail)
              go_wp2
              go_meet
              case rel => exact ⟨by rw [HR.out], _, rfl⟩
          · have hb : (EK.kind != u) = true := by simp [hvu]
            have HR : Hid (bad = true) := by show _ = _; rw [HBad.out, hb]; rfl
            clear HBad
            go_quiet (fail)
            go_wp2
            go_meet
            case rel => exact ⟨by rw [HR.out], _, rfl⟩
        case rest =>
          obtain ⟨rfl, q1, hq1⟩ := hcut
          have HN' : Hid (Md w wc P l f n rb sa sc (some ⟨ga0, 0, none⟩) (some ⟨ga1, 0, none⟩) ab) := by
            show Md _ _ _ _ _ _ _ _ _ _ _ _
            rw [hq1]; exact HN.out.1.below ⟨rfl, rfl, rfl, Nat.le_refl _, fun _ _ => rfl⟩
          clear p0 p2 a4 e3 e4 y0 HN hq1
          cases hbd : bad with
          | true =>
            have HF : Hid (¬ MM) := by
              intro h
              have hh := HMj.out.1 h k hkn
              rw [HBad.out] at hbd
              have k1 : EK.kind = u := by rw [HEK.out, HU.out]; exact hh.1
              have k2 : P.sm = true → EK.val = E0.val := by rw [HEK.out, HE0.out]; exact hh.2.1
              cases hs : P.sm with
              | false => rw [hs, k1] at hbd; simp at hbd
              | true => rw [hs, k1, k2 hs] at hbd; simp at hbd
            clear hbd
            go_wp2
            go_ret
            first | exact ⟨false, rfl, ⟨(fun h => by cases h), fun h => (HF.out h).elim⟩, HN'.out.bel⟩ | exact Or.inl ⟨rfl, HF.out, HN'.out.bel⟩
          | false =>
            have HG : Hid ((evAt l (atN f k)).kind = P.kd k ∧ (P.sm = true → (evAt l (atN f k)).val = (evAt l (atN f 0)).val)) := by
              show _ ∧ _
              rw [HBad.out] at hbd
              rw [← HEK.out, ← HU.out, ← HE0.out]
              simp only [Bool.or_eq_false_iff, bne_eq_false_iff_eq, Bool.and_eq_false_iff] at hbd
              refine ⟨hbd.1, fun hs => ?_⟩
              rcases hbd.2 with h | h
              · rw [hs] at h; cases h
              · exact h
            clear hbd HBad
            by_cases hkz : k = 0
            · have hkzb : ((k : Int) == 0) = true := by rw [beq_iff_eq]; omega
              have HOk1 : Hid (∀ j, j < k + 1 → P.okD l f j) := by
                intro j hj
                by_cases e : j < k
                · exact HOk.out j e
                · have : j = k := by omega
                  subst this
                  exact ⟨HG.out.1, HG.out.2, fun h => absurd hkz h⟩
              clear hkz
              go_wp2
              go_roundw
              case rel => first | exact ⟨k + 1, by omega, by go_num, HN'.out, HOk1.out⟩ | ((repeat apply Exists.intro); exact ⟨⟨k + 1, by omega, by go_num, HN'.out, HOk1.out⟩, rfl⟩)
              case measure => simp [intOf]; omega
            · have hkzb : ((k : Int) == 0) = false := by rw [beq_eq_false_iff_ne]; omega
              obtain ⟨k1, hk1⟩ : ∃ k1, k = k1 + 1 := ⟨k - 1, by omega⟩
              have HK1 : Hid (k - 1 = k1) := by show _ = _; omega
              have hwk : IntKind.i64.wrap ((k : Int) - 1) = (k1 : Int) := by rw [IntKind.wrap_i64]; omega
              have hk1n : (k1 : Int) < (n : Int) := by omega
              have hk10 : (0 : Int) ≤ (k1 : Int) := by omega
              have hk1N : k1 < n := by omega
              clear hk1
              have hpj := HLt.out k1 hk1N
              obtain ⟨g1, hg1, _, x0⟩ := HN'.out.at_ k hkn
              simp only [Option.some.injEq, Addr.mk.injEq, and_true] at hg1
              subst hg1
              obtain ⟨g2, hg2, _, x1⟩ := HN'.out.at_ k1 hk1N
              simp only [Option.some.injEq, Addr.mk.injEq, and_true] at hg2
              subst hg2
              obtain ⟨pk, HPk⟩ := hex (atN f k)
              obtain ⟨pj, HPj⟩ := hex (atN f k1)
              simp only at x0 x1
              rw [← HPk.out] at x0 hpk hpk' hpk0
              rw [← HPj.out] at x1 hpj
              obtain ⟨lb, HLb⟩ := hex (decide ((pk : Int) ≤ (pj : Int)))
              go_upto_region 12 with fail
              go_cut [85] (fun s wx => s = .bool lb ∧ ∃ q, wx = wc.drewN q)
              case first =>
                go_quiet (fail)
                go_wp2
                go_meet
                case rel => exact ⟨by rw [HLb.out]; simp, _, rfl⟩
              case rest =>
              obtain ⟨rfl, q3, hq3⟩ := hcut
              rename_i wc0 _
              have HN2 : Hid (Md w wc P l f n rb sa sc (some ⟨ga0, 0, none⟩) (some ⟨ga1, 0, none⟩) ab) := by
                show Md _ _ _ _ _ _ _ _ _ _ _ _
                rw [hq3]; exact HN'.out.below ⟨rfl, rfl, rfl, Nat.le_refl _, fun _ _ => rfl⟩
              clear HN' x0 x1 hq3
              have HN' : Hid (Md w wc P l f n rb sa sc (some ⟨ga0, 0, none⟩) (some ⟨ga1, 0, none⟩) ab) := HN2.out
              clear HN2
              obtain ⟨g1, hg1, _, x0⟩ := HN'.out.at_ k hkn
              simp only [Option.some.injEq, Addr.mk.injEq, and_true] at hg1
              subst hg1
              obtain ⟨g2, hg2, _, x1⟩ := HN'.out.at_ k1 hk1N
              simp only [Option.some.injEq, Addr.mk.injEq, and_true] at hg2
              subst hg2
              simp only at x0 x1
              rw [← HPk.out] at x0
              rw [← HPj.out] at x1
              by_cases hle : pk ≤ pj
              · have hlt : lb = true := by rw [HLb.out]; simp; omega
                have HF : Hid (¬ MM) := by
                  intro h
                  have hh := (HMj.out.1 h k hkn).2.2 hkz
                  rw [HK1.out, ← HPk.out, ← HPj.out] at hh
                  omega
                clear HLb
                subst hlt
                go_wp2
                go_ret
                first | exact ⟨false, rfl, ⟨(fun h => by cases h), fun h => (HF.out h).elim⟩, HN'.out.bel⟩ | exact Or.inl ⟨rfl, HF.out, HN'.out.bel⟩
              · have hlt : lb = false := by rw [HLb.out]; simp; omega
                clear HLb
                subst hlt
                have hwj : IntKind.i64.wrap ((pj : Int) + 1) = ((pj + 1 : Nat) : Int) := by rw [IntKind.wrap_i64]; omega
                go_upto_region 15 with fail
                obtain ⟨wo, HWo⟩ := hex wc
                rw [← HWo.out] at HN' x0 x1
                rw [← HWo.out]
                clear HWo x0 x1
                go_wp2
                go_loopw [11] (fun iv wq => ∃ (i : Nat), pj + 1 ≤ i ∧ i ≤ pk ∧ iv = .int .i64 i ∧ Md w wq P l f n rb sa sc (some ⟨ga0, 0, none⟩) (some ⟨ga1, 0, none⟩) ab ∧ ∀ i', i' < i → ¬ P.hit l f k i') (fun iv _ => pk - (intOf iv).toNat)
                case atStart => exact ⟨pj + 1, Nat.le_refl _, by omega, rfl, HN'.out, fun i' hi' h => by have h1 := h.1; rw [HK1.out, ← HPj.out] at h1; omega⟩
                case round =>
                  clear HN'
                  obtain ⟨i, hij, hik, rfl, hMd, hno⟩ := hrel
                  have HM : Hid (Md w wr P l f n rb sa sc (some ⟨ga0, 0, none⟩) (some ⟨ga1, 0, none⟩) ab) := hMd
                  have HNo : Hid (∀ i', i' < i → ¬ P.hit l f k i') := hno
                  clear hMd hno
                  obtain ⟨g1, hg1, _, x0⟩ := HM.out.at_ k hkn
                  simp only [Option.some.injEq, Addr.mk.injEq, and_true] at hg1
                  subst hg1
                  simp only at x0
                  rw [← HPk.out] at x0
                  by_cases hil : i < pk
                  · have hil' : (i : Int) < (pk : Int) := by omega
                    have hill : i < l.length := by omega
                    have hill' : (i : Int) < (l.length : Int) := by omega
                    have hi0 : (0 : Int) ≤ (i : Int) := by omega
                    have p1 := HM.out.p0
                    have p2 := HM.out.p1
                    have a4 := HM.out.fst.cell 4
                    rw [← HE0.out] at a4
                    simp only [Ev.vals, List.getElem?_cons_succ, List.getElem?_cons_zero] at a4
                    rw [HGk.out] at p1
                    obtain ⟨gn, hgn, _, _, y0⟩ := HM.out.st k (by rw [HPn.out]; exact hkn)
                    rw [HGk.out] at hgn
                    simp only [Option.some.injEq, Addr.mk.injEq, and_true] at hgn
                    subst hgn
                    obtain ⟨u2, HU2⟩ := hex (P.nt k)
                    have y0 : wr.cell? ⟨gk, k * 2 + 1, none⟩ = some (.int .i64 u2) := by rw [HU2.out]; exact y0
                    have hu2 : 0 ≤ u2 := by rw [HU2.out]; exact HKn.out.2 k
                    obtain ⟨g4, hg4, _, _, _, _, i3, i4⟩ := HM.out.ev i hill
                    simp only [Option.some.injEq, Addr.mk.injEq, and_true] at hg4
                    subst hg4
                    obtain ⟨EI, HEI⟩ := hex (evAt l i)
                    have hkk : EI.kind ≠ 0 := by rw [HEI.out]; exact HKn.out.1 i hill
                    rw [← HEI.out] at i3 i4
                    have HUu : Hid (0 ≤ u2 ∧ EI.kind ≠ 0) := ⟨hu2, hkk⟩
                    clear hu2 hkk
                    obtain ⟨hb, HHb⟩ := hex (decide (0 < u2) && (EI.kind == u2) && (!P.sm || (EI.val == E0.val)))
                    obtain ⟨wd, HWd⟩ := hex wr
                    rw [← HWd.out] at HM x0 p1 p2 a4 y0 i3 i4
                    rw [← HWd.out]
                    clear HWd
                    go_upto_region 17 with fail
                    clear x0
                    go_cut [141] (fun s wx => s = .bool hb ∧ ∃ q, wx = wd.drewN q)
                    case first =>
                      by_cases hpos : 0 < u2
                      · have hpd : decide (0 < u2) = true := by simpa using hpos
                        by_cases hvu : EI.kind = u2
                        · have hbq : (EI.kind == u2) = true := by simp [hvu]
                          obtain ⟨sv, hs⟩ : ∃ sv, P.sm = sv := ⟨_, rfl⟩
                          cases sv with
                          | false =>
                            rw [hs] at p2
                            have HR : Hid (hb = true) := by show _ = _; rw [HHb.out, hpd, hbq, hs]; rfl
                            clear hs HHb
                            go_quiet (fail)
                            go_wp2
                            go_meet
                            case rel => exact ⟨by rw [HR.out], _, rfl⟩
                          | true =>
                            rw [hs] at p2
                            have HR : Hid (hb = (EI.val == E0.val)) := by show _ = _; rw [HHb.out, hpd, hbq, hs]; rfl
                            clear hs HHb
                            go_quiet (fail)
                            go_wp2
                            go_meet
                            case rel => exact ⟨by rw [HR.out], _, rfl⟩
                        · have hbq : (EI.kind == u2) = false := by simp [hvu]
                          have HR : Hid (hb = false) := by show _ = _; rw [HHb.out, hpd, hbq]; rfl
                          clear HHb
                          go_quiet (fail)
                          go_wp2
                          go_meet
                          case rel => exact ⟨by rw [HR.out], _, rfl⟩
                      · have hpd : decide (0 < u2) = false := by simpa using hpos
                        have HR : Hid (hb = false) := by show _ = _; rw [HHb.out, hpd]; rfl
                        clear HHb
                        go_quiet (fail)
                        go_wp2
                        go_meet
                        case rel => exact ⟨by rw [HR.out], _, rfl⟩
                    case rest =>
                      obtain ⟨rfl, q2, hq2⟩ := hcut
                      have HMe : Hid (Md w wc P l f n rb sa sc (some ⟨ga0, 0, none⟩) (some ⟨ga1, 0, none⟩) ab) := by
                        show Md _ _ _ _ _ _ _ _ _ _ _ _
                        rw [hq2]; exact HM.out.below ⟨rfl, rfl, rfl, Nat.le_refl _, fun _ _ => rfl⟩
                      clear p1 p2 a4 y0 i3 i4 hq2 HM
                      have HHit : Hid (hb = true ↔ P.hit l f k i) := by
                        show _ ↔ _
                        unfold Pq.hit
                        have hq := HUu.out
                        rw [HHb.out, HK1.out, ← HPk.out, ← HPj.out, ← HEI.out, ← HE0.out, ← HU2.out]
                        have h1 : pj < i := by omega
                        simp only [Bool.and_eq_true, decide_eq_true_eq, beq_iff_eq, h1, hil, true_and]
                        constructor
                        · rintro ⟨⟨_, a⟩, b⟩
                          refine ⟨a, fun hs => ?_⟩
                          rw [hs] at b; simpa using b
                        · rintro ⟨a, b⟩
                          refine ⟨⟨by omega, a⟩, ?_⟩
                          cases hs : P.sm with
                          | false => rfl
                          | true => simpa using b hs
                      clear HHb
                      cases hbd : hb with
                      | true =>
                        have HF : Hid (¬ MM) := by
                          intro h
                          exact ((HMj.out.1 h k hkn).2.2 hkz).2 i (HHit.out.1 hbd)
                        clear hbd
                        go_wp2
                        go_ret
                        first | exact ⟨false, rfl, ⟨(fun h => by cases h), fun h => (HF.out h).elim⟩, HMe.out.bel⟩ | exact Or.inl ⟨rfl, HF.out, HMe.out.bel⟩
                      | false =>
                        have HN2 : Hid (∀ i', i' < i + 1 → ¬ P.hit l f k i') := by
                          intro i' hi'
                          by_cases e : i' < i
                          · exact HNo.out i' e
                          · have : i' = i := by omega
                            subst this
                            intro h
                            rw [HHit.out.2 h] at hbd; cases hbd
                        clear hbd
                        go_wp2
                        go_roundw
                        case rel => first | exact ⟨i + 1, by omega, by omega, by go_num, HMe.out, HN2.out⟩ | ((repeat apply Exists.intro); exact ⟨⟨i + 1, by omega, by omega, by go_num, HMe.out, HN2.out⟩, rfl⟩)
                        case measure => simp [intOf]; omega
                  · have hil' : ¬ (i : Int) < (pk : Int) := by omega
                    have HOk1 : Hid (∀ j, j < k + 1 → P.okD l f j) := by
                      intro j hj
                      by_cases e : j < k
                      · exact HOk.out j e
                      · have : j = k := by omega
                        subst this
                        refine ⟨HG.out.1, HG.out.2, fun _ => ⟨by rw [HK1.out, ← HPk.out, ← HPj.out]; omega, fun i' hh => ?_⟩⟩
                        by_cases e2 : i' < i
                        · exact HNo.out i' e2 hh
                        · have h2 := hh.2.1
                          rw [← HPk.out] at h2; omega
                    go_wp2
                    go_roundw
                    case rel => first | exact ⟨k + 1, by omega, by go_num, HM.out, HOk1.out⟩ | ((repeat apply Exists.intro); exact ⟨⟨k + 1, by omega, by go_num, HM.out, HOk1.out⟩, rfl⟩)
                    case measure => simp [intOf]; omega
      · have hkn' : ¬ (k : Int) < (n : Int) := by omega
        have HT : Hid MM := HMj.out.2 (fun j hj => HOk.out j (by omega))
        go_wp2
        go_ret
        first | exact ⟨true, rfl, ⟨fun _ => HT.out, fun _ => rfl⟩, HM.out.bel⟩ | exact Or.inr ⟨rfl, HT.out, HM.out.bel⟩
end Go.Proofs.YtghcololkgeoeabGreat
namespace Go.Proofs.YtghcololkgeoeabGreat
open Go.RowKit
set_option linter.unusedVariables false
set_option linter.unusedSimpArgs false
attribute [local go_sem ↓] Go.wp_at_zero Go.wp_at_succ

open Classical in
noncomputable def Pq.candD (P : Pq) (l : List Ev) (z a b : Nat) : List (List Nat) :=
  if P.st.length = 1 then (if a = z ∧ b = a ∧ P.M l [z] then [[z]] else [])
  else if P.st.length = 2 then (if b = a ∧ a < z ∧ P.M l [a, z] then [[a, z]] else [])
  else (if a < b ∧ b < z ∧ P.M l [a, b, z] then [[a, b, z]] else [])
noncomputable def Pq.dB (P : Pq) (l : List Ev) (z a b : Nat) : List (List Nat) := (List.range' a (b - a)).flatMap (P.candD l z a)
noncomputable def Pq.dA (P : Pq) (l : List Ev) (z a : Nat) : List (List Nat) := (List.range' 0 a).flatMap (fun a => P.dB l z a (z + 1))
noncomputable def Pq.dZ (P : Pq) (l : List Ev) (z : Nat) : List (List Nat) := (List.range z).flatMap (fun z => P.dA l z (z + 1))
theorem dB_zero (P : Pq) (l : List Ev) (z a : Nat) : P.dB l z a a = [] := by unfold Pq.dB; rw [Nat.sub_self]; rfl
theorem dB_succ (P : Pq) (l : List Ev) (z a b : Nat) (h : a ≤ b) : P.dB l z a (b + 1) = P.dB l z a b ++ P.candD l z a b := by
  unfold Pq.dB
  rw [show b + 1 - a = (b - a) + 1 by omega, List.range'_concat, List.flatMap_append]
  simp only [List.flatMap_cons, List.flatMap_nil, List.append_nil, Nat.one_mul]
  rw [show a + (b - a) = b by omega]
theorem dA_succ (P : Pq) (l : List Ev) (z a : Nat) : P.dA l z (a + 1) = P.dA l z a ++ P.dB l z a (z + 1) := by
  unfold Pq.dA
  rw [List.range'_concat, List.flatMap_append]
  simp
theorem dZ_succ (P : Pq) (l : List Ev) (z : Nat) : P.dZ l (z + 1) = P.dZ l z ++ P.dA l z (z + 1) := by
  unfold Pq.dZ
  rw [List.range_succ, List.flatMap_append]
  simp
theorem dB_more (P : Pq) (l : List Ev) (z a b c : Nat) (h : a ≤ b) (hc : b ≤ c) : ∃ T, P.dB l z a c = P.dB l z a b ++ T := by
  obtain ⟨d, rfl⟩ := Nat.exists_eq_add_of_le hc
  clear hc
  induction d with
  | zero => exact ⟨[], by simp⟩
  | succ d ih => obtain ⟨T, hT⟩ := ih; exact ⟨T ++ P.candD l z a (b + d), by rw [← Nat.add_assoc, dB_succ _ _ _ _ _ (by omega), hT, List.append_assoc]⟩
theorem dA_more (P : Pq) (l : List Ev) (z a c : Nat) (hc : a ≤ c) : ∃ T, P.dA l z c = P.dA l z a ++ T := by
  obtain ⟨d, rfl⟩ := Nat.exists_eq_add_of_le hc
  clear hc
  induction d with
  | zero => exact ⟨[], by simp⟩
  | succ d ih => obtain ⟨T, hT⟩ := ih; exact ⟨T ++ P.dB l z (a + d) (z + 1), by rw [← Nat.add_assoc, dA_succ, hT, List.append_assoc]⟩
theorem dZ_more (P : Pq) (l : List Ev) (z c : Nat) (hc : z ≤ c) : ∃ T, P.dZ l c = P.dZ l z ++ T := by
  obtain ⟨d, rfl⟩ := Nat.exists_eq_add_of_le hc
  clear hc
  induction d with
  | zero => exact ⟨[], by simp⟩
  | succ d ih => obtain ⟨T, hT⟩ := ih; exact ⟨T ++ P.dA l (z + d) (z + d + 1), by rw [← Nat.add_assoc, dZ_succ, hT, List.append_assoc]⟩
theorem drows_more (P : Pq) (l : List Ev) (z a b N : Nat) (h : a ≤ b) (hb : b ≤ z + 1) (ha : a ≤ z) (hz : z < N) : ∃ T, P.dZ l N = (P.dZ l z ++ P.dA l z a ++ P.dB l z a b) ++ T := by
  obtain ⟨T1, h1⟩ := dB_more P l z a b (z + 1) h hb
  obtain ⟨T2, h2⟩ := dA_more P l z (a + 1) (z + 1) (by omega)
  obtain ⟨T3, h3⟩ := dZ_more P l (z + 1) N hz
  rw [dZ_succ, h2, dA_succ, h1] at h3
  exact ⟨T1 ++ T2 ++ T3, by rw [h3]; simp [List.append_assoc]⟩
theorem dZ_find {P : Pq} {l : List Ev} (h1 : 1 ≤ P.st.length) (h3 : P.st.length ≤ 3) (hw : 0 ≤ P.wn) (h0 : ∀ i, i < l.length → (evAt l i).kind ≠ P.nt 0) : P.dZ l l.length = P.findL l := by
  unfold Pq.dZ Pq.findL
  rw [if_neg (by omega)]
  refine flatMap_congr' (fun z hz' => ?_)
  rw [List.mem_range] at hz'
  rw [endL_brute ⟨h1, h3⟩ hw (fun p hp => h0 p (by omega))]
  rfl
structure Ad (w1 wr : World) (P : Pq) (l : List Ev) (n rb : Nat) (sa : Option Addr) (sc : Nat) (ga : Option Addr) (fa : Option Addr) (fc : Nat) (ms : List (Nat × Nat)) (F : List (List Nat)) : Prop where
  bel : Below w1.heap.size w1 wr
  lt : rb < w1.heap.size
  p0 : w1.cell? ⟨rb, 6, none⟩ = some (.slice sa n sc)
  p1 : w1.cell? ⟨rb, 7, none⟩ = some (.bool P.sm)
  p2 : w1.cell? ⟨rb, 8, none⟩ = some (.int .i64 P.wn)
  st : StAt w1 sa P.st
  ev : EvR w1 ga l
  lst : LsAt wr w1.heap.size fa fc ms n F
theorem Ad.below {w1 wr wq : World} {P : Pq} {l : List Ev} {n rb : Nat} {sa : Option Addr} {sc : Nat} {ga : Option Addr} {fa : Option Addr} {fc : Nat} {ms : List (Nat × Nat)} {F : List (List Nat)} (h : Ad w1 wr P l n rb sa sc ga fa fc ms F) (hb : Below wr.heap.size wr wq) : Ad w1 wq P l n rb sa sc ga fa fc ms F :=
  ⟨h.bel.trans (hb.mono h.bel.size), h.lt, h.p0, h.p1, h.p2, h.st, h.ev, h.lst.below hb⟩
theorem lit_rowD (w : World) (f : List Nat) (hl : f.length ≤ 3) : Row (w.alloc (.cells (natV f).toArray 3)) 3 1 (some ⟨w.heap.size, 0, none⟩) f.length f.length (natV f) := by
  have : (w.alloc (.cells (natV f).toArray 3)).ownsRow 0 3 1 (.slice (some ⟨w.heap.size, 0, none⟩) f.length f.length) f.length (natV f) := by
    have h := World.ownsRow_lit (base := 0) (size := 1) (e := 3) w (natV f).toArray f.length (Nat.zero_le _) (by unfold maxLen; omega) (by simp [natV_len])
    simpa using h
  exact this
theorem candD1 {P : Pq} {l : List Ev} {z a b : Nat} (hn : P.st.length = 1) : (a = z ∧ b = a → (P.M l [z] → P.candD l z a b = [[z]]) ∧ (¬ P.M l [z] → P.candD l z a b = [])) ∧ (¬ (a = z ∧ b = a) → P.candD l z a b = []) := by
  unfold Pq.candD
  rw [if_pos hn]
  exact ⟨fun h => ⟨fun m => if_pos ⟨h.1, h.2, m⟩, fun m => if_neg (fun e => m e.2.2)⟩, fun h => if_neg (fun e => h ⟨e.1, e.2.1⟩)⟩
theorem candD2 {P : Pq} {l : List Ev} {z a b : Nat} (hn : P.st.length = 2) : (b = a → (P.M l [a, z] → P.candD l z a b = [[a, z]]) ∧ (¬ P.M l [a, z] → P.candD l z a b = [])) ∧ (¬ b = a → P.candD l z a b = []) := by
  unfold Pq.candD
  rw [if_neg (by omega), if_pos hn]
  exact ⟨fun h => ⟨fun m => if_pos ⟨h, (M2.1 m).2.2.2.2.1, m⟩, fun m => if_neg (fun e => m e.2.2)⟩, fun h => if_neg (fun e => h e.1)⟩
theorem candD3 {P : Pq} {l : List Ev} {z a b : Nat} (hn : P.st.length = 3) : (P.M l [a, b, z] → P.candD l z a b = [[a, b, z]]) ∧ (¬ P.M l [a, b, z] → P.candD l z a b = []) := by
  unfold Pq.candD
  rw [if_neg (by omega), if_neg (by omega)]
  refine ⟨fun m => if_pos ⟨?_, ?_, m⟩, fun m => if_neg (fun e => m e.2.2)⟩
  · have := M3.1 m; exact this.2.2.2.2.2.2.1
  · have := M3.1 m; exact this.2.2.2.2.2.2.2.2.1
end Go.Proofs.YtghcololkgeoeabGreat
namespace Go.Proofs.YtghcololkgeoeabGreat
open Go.RowKit
set_option linter.unusedVariables false
set_option linter.unusedSimpArgs false
attribute [local go_sem ↓] Go.wp_at_zero Go.wp_at_succ
def plcF (n z a b : Nat) : List Nat := if n < 2 then [z] else if n < 3 then [a, z] else [a, b, z]
def plcS (n z a b : Nat) : Bool := (decide (n < 3) && decide (b ≠ a)) || (decide (n < 2) && decide (a ≠ z))
theorem plcF_len {n z a b : Nat} (h1 : 1 ≤ n) (h3 : n ≤ 3) : (plcF n z a b).length = n := by
  unfold plcF
  split
  · simp; omega
  · split
    · simp; omega
    · simp; omega
theorem plc_skip {P : Pq} {l : List Ev} {n z a b : Nat} (hn : P.st.length = n) (h1 : 1 ≤ n) (h3 : n ≤ 3) (hs : plcS n z a b = true) : P.candD l z a b = [] := by
  unfold plcS at hs
  simp only [Bool.or_eq_true, Bool.and_eq_true, decide_eq_true_eq] at hs
  obtain rfl | rfl | rfl : n = 1 ∨ n = 2 ∨ n = 3 := by omega
  · exact (candD1 hn).2 (fun e => by rcases hs with h | h <;> omega)
  · exact (candD2 hn).2 (fun e => by rcases hs with h | h <;> omega)
  · rcases hs with h | h <;> omega
theorem plc_take {P : Pq} {l : List Ev} {n z a b : Nat} (hn : P.st.length = n) (h1 : 1 ≤ n) (h3 : n ≤ 3) (hs : plcS n z a b = false) : (P.M l (plcF n z a b) → P.candD l z a b = [plcF n z a b]) ∧ (¬ P.M l (plcF n z a b) → P.candD l z a b = []) := by
  unfold plcS at hs
  simp only [Bool.or_eq_false_iff, Bool.and_eq_false_iff, decide_eq_false_iff_not] at hs
  obtain rfl | rfl | rfl : n = 1 ∨ n = 2 ∨ n = 3 := by omega
  · exact (candD1 hn).1 ⟨by omega, by omega⟩
  · exact (candD2 hn).1 (by omega)
  · exact candD3 hn
theorem plcF_at {n z a b : Nat} (h1 : 1 ≤ n) (h3 : n ≤ 3) (ha : a ≤ z) (hb : b ≤ z) : ∀ k, k < n → atN (plcF n z a b) k ≤ z := by
  intro k hk
  obtain rfl | rfl | rfl : n = 1 ∨ n = 2 ∨ n = 3 := by omega
  · obtain rfl : k = 0 := by omega
    simp [plcF, atN]
  · obtain rfl | rfl : k = 0 ∨ k = 1 := by omega
    · simp [plcF, atN]; omega
    · simp [plcF, atN]
  · obtain rfl | rfl | rfl : k = 0 ∨ k = 1 ∨ k = 2 := by omega
    · simp [plcF, atN]; omega
    · simp [plcF, atN]; omega
    · simp [plcF, atN]
set_option maxRecDepth 100000 in
set_option maxHeartbeats 16000000 in
theorem rmatches_some (P : Pq) (l : List Ev) (n rb : Nat) (sa : Option Addr) (sc : Nat) (ga : Option Addr) (gc : Nat) (w : World) (hn : P.st.length = n) (h1 : 1 ≤ n) (h3 : n ≤ 3) (hl : l.length ≤ 1000) (hts : TsOk l) (hkn : ∀ i, i < l.length → (evAt l i).kind ≠ 0) (hnn : ∀ k, 0 ≤ P.nt k)
    (hrb : rb < w.heap.size) (hp0 : w.cell? ⟨rb, 6, none⟩ = some (.slice sa n sc)) (hp1 : w.cell? ⟨rb, 7, none⟩ = some (.bool P.sm)) (hp2 : w.cell? ⟨rb, 8, none⟩ = some (.int .i64 P.wn)) (hst : StAt w sa P.st) (hev : EvR w ga l) :
    Calls Tryz.prog 49 #[.pointer (some ⟨rb, 6, none⟩), .slice ga l.length gc] w fun e w' => ∃ a c ms, e = .returned (.tuple #[.slice a (List.length ms) c, .bool (decide (100 < (P.dZ l l.length).length))]) ∧ LsAt w' w.heap.size a c ms n ((P.dZ l l.length).take 100) ∧ Below w.heap.size w w' := by
  obtain ⟨j0, hj0, hy0, hy1, hy2⟩ := info_parts Tryz.infoInts
  obtain ⟨nl, HNl⟩ := hex l.length
  obtain ⟨BB, HBB⟩ := hex (P.dZ l l.length)
  rw [← HBB.out]
  have HMo : Hid (∀ z a b, a ≤ b → b ≤ z + 1 → a ≤ z → z < nl → ∃ T, BB = (P.dZ l z ++ P.dA l z a ++ P.dB l z a b) ++ T) := by
    intro z a b h1 h2 h3 h4
    rw [HBB.out, ← HNl.out]
    exact drows_more P l z a b nl h1 h2 h3 h4
  have HBe : Hid (BB = P.dZ l nl) := by show _ = _; rw [HBB.out, HNl.out]
  have HTs : Hid (TsOk l ∧ l.length ≤ 1000 ∧ (∀ i, i < l.length → (evAt l i).kind ≠ 0) ∧ (∀ k, 0 ≤ P.nt k) ∧ P.st.length = n ∧ nl = l.length) := ⟨hts, hl, hkn, hnn, hn, HNl.out⟩
  have hnl : nl ≤ 1000 := by rw [HNl.out]; exact hl
  have hn0 : (0 : Int) < (n : Int) := by omega
  have hnN : 0 < n := by omega
  have hnd : decide (0 < n) = true := by simpa using hnN
  have HA0 : Hid (Ad w w P l n rb sa sc ga none 0 [] []) := ⟨Below.refl _ _, hrb, hp0, hp1, hp2, hst, hev, ⟨Row.nil _ _ _, rfl, fun i m f hm => by simp at hm, fun i j k hi => by cases i <;> simp [bk] at hi, fun k hk => by simp [bk] at hk⟩⟩
  rw [← HNl.out]
  have HN3 : Hid (1 ≤ n ∧ n ≤ 3) := ⟨h1, h3⟩
  clear hp1 hp2 hst hev hn hts hl HBB HNl hkn hnn h1 h3
  go_enter Tryz.func49, Tryz.ntmps49
  go_wp2
  go_loopw [6, 8] (fun ov zv wr => ∃ (z : Nat) (fa : Option Addr) (fc : Nat) (ms : List (Nat × Nat)), ov = .slice fa ms.length fc ∧ z ≤ nl ∧ zv = .int .i64 z ∧ (P.dZ l z).length ≤ 100 ∧ Ad w wr P l n rb sa sc ga fa fc ms (P.dZ l z)) (fun _ zv _ => nl - (intOf zv).toNat)
  case atStart => exact ⟨0, none, 0, [], rfl, Nat.zero_le _, rfl, by simp [Pq.dZ], HA0.out⟩
  case round =>
    clear HA0 hp0
    obtain ⟨z, fa, fc, ms, rfl, hz, rfl, hlen, hal⟩ := hrel
    have HLz : Hid ((P.dZ l z).length ≤ 100) := hlen
    have HAl : Hid (Ad w wr P l n rb sa sc ga fa fc ms (P.dZ l z)) := hal
    clear hlen hal
    by_cases hzl : z < nl
    · have hzl' : (z : Int) < (nl : Int) := by omega
      have hz0 : (0 : Int) ≤ (z : Int) := by omega
      go_upto_region 6 with fail
      obtain ⟨wo, HWo⟩ := hex wr
      rw [← HWo.out] at HAl
      rw [← HWo.out]
      clear HWo
      go_wp2
      go_loopw [6, 9] (fun ov av wr => ∃ (a : Nat) (fa : Option Addr) (fc : Nat) (ms : List (Nat × Nat)), ov = .slice fa ms.length fc ∧ a ≤ z + 1 ∧ av = .int .i64 a ∧ (P.dZ l z ++ P.dA l z a).length ≤ 100 ∧ Ad w wr P l n rb sa sc ga fa fc ms (P.dZ l z ++ P.dA l z a)) (fun _ av _ => z + 1 - (intOf av).toNat)
      case atStart => exact ⟨0, fa, fc, ms, rfl, Nat.zero_le _, rfl, by simpa [Pq.dA] using HLz.out, by simpa [Pq.dA] using HAl.out⟩
      case round =>
        clear HAl HLz
        obtain ⟨a, fa, fc, ms, rfl, ha, rfl, hlen, hal⟩ := hrel
        have HLz : Hid ((P.dZ l z ++ P.dA l z a).length ≤ 100) := hlen
        have HAl : Hid (Ad w wr P l n rb sa sc ga fa fc ms (P.dZ l z ++ P.dA l z a)) := hal
        clear hlen hal
        by_cases haz : a ≤ z
        · have haz' : (a : Int) ≤ (z : Int) := by omega
          go_upto_region 9 with fail
          obtain ⟨wo2, HWo⟩ := hex wr
          rw [← HWo.out] at HAl
          rw [← HWo.out]
          clear HWo
          go_wp2
          go_loopw [6, 10] (fun ov bv wr => ∃ (b : Nat) (fa : Option Addr) (fc : Nat) (ms : List (Nat × Nat)), ov = .slice fa ms.length fc ∧ (a ≤ b ∧ b ≤ z + 1) ∧ bv = .int .i64 b ∧ (P.dZ l z ++ P.dA l z a ++ P.dB l z a b).length ≤ 100 ∧ Ad w wr P l n rb sa sc ga fa fc ms (P.dZ l z ++ P.dA l z a ++ P.dB l z a b)) (fun _ bv _ => z + 1 - (intOf bv).toNat)
          case atStart => exact ⟨a, fa, fc, ms, rfl, ⟨Nat.le_refl _, by omega⟩, rfl, by rw [dB_zero, List.append_nil]; exact HLz.out, by rw [dB_zero, List.append_nil]; exact HAl.out⟩
          case round =>
            clear HAl HLz
            obtain ⟨b, fa, fc, ms, rfl, hb, rfl, hlen, hal⟩ := hrel
            obtain ⟨S, HS⟩ := hex (P.dZ l z ++ P.dA l z a ++ P.dB l z a b)
            rw [← HS.out] at hlen hal
            have HLz : Hid (S.length ≤ 100) := hlen
            have HAl : Hid (Ad w wr P l n rb sa sc ga fa fc ms S) := hal
            have HMl : Hid (ms.length = S.length) := hal.lst.len
            clear hal
            have HS1 : Hid (P.dZ l z ++ P.dA l z a ++ P.dB l z a (b + 1) = S ++ P.candD l z a b) := by show _ = _; rw [dB_succ _ _ _ _ _ hb.1, ← List.append_assoc, ← HS.out]
            by_cases hbz : b ≤ z
            · have hbz' : (b : Int) ≤ (z : Int) := by omega
              obtain ⟨f, HFf⟩ := hex (plcF n z a b)
              obtain ⟨sk, HSk⟩ := hex (plcS n z a b)
              go_upto_region 13 with fail
              obtain ⟨v1, HV1⟩ := hex (wr.alloc (.cells (natV [a, b, z]).toArray 3))
              have hv1 : wr.alloc (.cells #[.int .i64 (a : Nat), .int .i64 (b : Nat), .int .i64 (z : Nat)] 3) = v1 := HV1.out.symm
              have HB1 : Hid (Below wr.heap.size wr v1) := by show Below _ _ _; rw [HV1.out]; exact (Below.refl _ _).alloc (Nat.le_refl _) _
              obtain ⟨m1, HM1⟩ := hex wr.heap.size
              have HR1 : Hid (Row v1 3 1 (some ⟨m1, 0, none⟩) 3 3 (natV [a, b, z])) := by show Row _ _ _ _ _ _ _; rw [HV1.out, HM1.out]; exact lit_rowD _ [a, b, z] (by simp)
              have HM1e : Hid (wr.heap.size ≤ m1) := by show _ ≤ _; rw [HM1.out]; exact Nat.le_refl _
              rw [hv1, ← HM1.out]
              clear hv1 HV1 HM1
              go_cut [58] (fun s wx => s = .bool sk ∧ wx = v1)
              case first =>
                by_cases c3 : n < 3
                · have q3 : (n : Int) < 3 := by omega
                  by_cases cb : b = a
                  · have qb : ((b : Int) != (a : Int)) = false := by simp [cb]
                    by_cases c2 : n < 2
                    · have q2 : (n : Int) < 2 := by omega
                      by_cases ca : a = z
                      · have qa : ((a : Int) != (z : Int)) = false := by simp [ca]
                        have HR : Hid (sk = false) := by show _ = _; rw [HSk.out]; simp [plcS, c3, cb, c2, ca]
                        clear c3 c2 ca cb HSk
                        go_wp2
                        go_meet
                        case rel => exact ⟨by rw [HR.out], rfl⟩
                      · have qa : ((a : Int) != (z : Int)) = true := by simp; omega
                        have HR : Hid (sk = true) := by show _ = _; rw [HSk.out]; simp [plcS, c3, cb, c2, ca]
                        clear c3 c2 ca cb HSk
                        go_wp2
                        go_meet
                        case rel => exact ⟨by rw [HR.out], rfl⟩
                    · have q2 : ¬ (n : Int) < 2 := by omega
                      have q2d : decide ((n : Int) < 2) = false := by simpa using q2
                      have HR : Hid (sk = false) := by show _ = _; rw [HSk.out]; simp [plcS, c3, cb, c2]
                      clear c3 c2 cb HSk
                      go_wp2
                      go_meet
                      case rel => exact ⟨by rw [HR.out], rfl⟩
                  · have qb : ((b : Int) != (a : Int)) = true := by simp; omega
                    have HR : Hid (sk = true) := by show _ = _; rw [HSk.out]; simp [plcS, c3, cb]
                    clear c3 cb HSk
                    go_wp2
                    go_meet
                    case rel => exact ⟨by rw [HR.out], rfl⟩
                · have q3 : ¬ (n : Int) < 3 := by omega
                  have q3d : decide ((n : Int) < 3) = false := by simpa using q3
                  have q2 : ¬ (n : Int) < 2 := by omega
                  have q2d : decide ((n : Int) < 2) = false := by simpa using q2
                  have c2 : ¬ n < 2 := by omega
                  have HR : Hid (sk = false) := by show _ = _; rw [HSk.out]; simp [plcS, c3, c2]
                  clear c3 c2 HSk
                  go_wp2
                  go_meet
                  case rel => exact ⟨by rw [HR.out], rfl⟩
              case rest =>
              obtain ⟨rfl, hwx⟩ := hcut
              rw [hwx]
              clear hwx
              have HA1 : Hid (Ad w v1 P l n rb sa sc ga fa fc ms S) := HAl.out.below HB1.out
              cases hsk : sk with
              | true =>
                have HCn : Hid (P.candD l z a b = []) := plc_skip HTs.out.2.2.2.2.1 HN3.out.1 HN3.out.2 (by rw [← HSk.out]; exact hsk)
                have HA2 : Hid (Ad w v1 P l n rb sa sc ga fa fc ms (P.dZ l z ++ P.dA l z a ++ P.dB l z a (b + 1))) := by show Ad _ _ _ _ _ _ _ _ _ _ _ _ _; rw [HS1.out, HCn.out, List.append_nil]; exact HA1.out
                have HL2 : Hid ((P.dZ l z ++ P.dA l z a ++ P.dB l z a (b + 1)).length ≤ 100) := by show _ ≤ _; rw [HS1.out, HCn.out, List.append_nil]; exact HLz.out
                clear HCn HA1 HAl HS1 hsk HSk
                go_wp2
                go_roundw
                case rel => first | exact ⟨b + 1, fa, fc, ms, rfl, ⟨by omega, by omega⟩, by go_num, HL2.out, HA2.out⟩ | ((repeat apply Exists.intro); exact ⟨⟨b + 1, fa, fc, ms, rfl, ⟨by omega, by omega⟩, by go_num, HL2.out, HA2.out⟩, rfl⟩)
                case measure => simp [intOf]; omega
              | false =>
                have HCd : Hid ((P.M l f → P.candD l z a b = [f]) ∧ (¬ P.M l f → P.candD l z a b = [])) := by show _ ∧ _; rw [HFf.out]; exact plc_take HTs.out.2.2.2.2.1 HN3.out.1 HN3.out.2 (by rw [← HSk.out]; exact hsk)
                clear hsk HSk
                go_upto_if 60 with fail
                obtain ⟨f2, HF2⟩ := hex (if n < 3 then [a, z] else [a, b, z])
                go_cut [11] (fun s wx => ∃ mb k, s = .slice (some ⟨mb, 0, none⟩) k k ∧ Row wx 3 1 (some ⟨mb, 0, none⟩) k k (natV f2) ∧ Below v1.heap.size v1 wx ∧ wr.heap.size ≤ mb ∧ k = f2.length)
                case first =>
                  by_cases c3 : n < 3
                  · have q3 : (n : Int) < 3 := by omega
                    have HR : Hid (Row (v1.alloc (.cells (natV f2).toArray 3)) 3 1 (some ⟨v1.heap.size, 0, none⟩) 2 2 (natV f2) ∧ 2 = f2.length) := by
                      show _ ∧ _; rw [HF2.out, if_pos c3]; exact ⟨lit_rowD _ [a, z] (by simp), rfl⟩
                    have HE : Hid ((natV f2).toArray = #[.int .i64 (a : Nat), .int .i64 (z : Nat)]) := by show _ = _; rw [HF2.out, if_pos c3]; rfl
                    clear c3 HF2
                    go_wp2
                    go_meet
                    case rel =>
                      rw [← HE.out]
                      exact ⟨v1.heap.size, 2, rfl, HR.out.1, (Below.refl _ _).alloc (Nat.le_refl _) _, HB1.out.size, HR.out.2⟩
                  · have q3 : ¬ (n : Int) < 3 := by omega
                    have q3d : decide ((n : Int) < 3) = false := by simpa using q3
                    have HR : Hid (Row v1 3 1 (some ⟨m1, 0, none⟩) 3 3 (natV f2) ∧ 3 = f2.length) := by
                      show _ ∧ _; rw [HF2.out, if_neg c3]; exact ⟨HR1.out, rfl⟩
                    clear c3 HF2
                    go_wp2
                    go_meet
                    case rel => exact ⟨m1, 3, rfl, HR.out.1, Below.refl _ _, HM1e.out, HR.out.2⟩
                case rest =>
                obtain ⟨m2, k2, rfl, hr2, hb2, hm2, hk2⟩ := hcut
                have HR2 : Hid (Row wc 3 1 (some ⟨m2, 0, none⟩) k2 k2 (natV f2) ∧ k2 = f2.length) := ⟨hr2, hk2⟩
                have HB2 : Hid (Below wr.heap.size wr wc ∧ wr.heap.size ≤ m2) := ⟨HB1.out.trans (hb2.mono HB1.out.size), hm2⟩
                clear hr2 hb2 hm2 hk2 HR1 HM1e
                obtain ⟨v2, HV2⟩ := hex wc
                rw [← HV2.out] at HR2 HB2
                rw [← HV2.out]
                clear HV2
                go_upto_if 65 with fail
                go_cut [11] (fun s wx => ∃ mb, s = .slice (some ⟨mb, 0, none⟩) n n ∧ Row wx 3 1 (some ⟨mb, 0, none⟩) n n (natV f) ∧ Below v2.heap.size v2 wx ∧ wr.heap.size ≤ mb)
                case first =>
                  by_cases c2 : n < 2
                  · have q2 : (n : Int) < 2 := by omega
                    have HR : Hid (Row (v2.alloc (.cells (natV f).toArray 3)) 3 1 (some ⟨v2.heap.size, 0, none⟩) n n (natV f)) := by
                      show Row _ _ _ _ _ _ _
                      rw [HFf.out, show n = 1 by have := HN3.out.1; omega]
                      exact lit_rowD _ [z] (by simp)
                    have e1 : n = 1 := by have := HN3.out.1; omega
                    have HE : Hid ((natV f).toArray = #[.int .i64 (z : Nat)] ∧ n = 1) := by show _ ∧ _; rw [HFf.out, e1]; exact ⟨rfl, rfl⟩
                    clear c2 HFf e1
                    go_wp2
                    go_meet
                    case rel =>
                      rw [← HE.out.1]
                      exact ⟨v2.heap.size, by rw [HE.out.2], HR.out, (Below.refl _ _).alloc (Nat.le_refl _) _, HB2.out.1.size⟩
                  · have q2 : ¬ (n : Int) < 2 := by omega
                    have q2d : decide ((n : Int) < 2) = false := by simpa using q2
                    have HE : Hid (f2 = f ∧ k2 = n) := by
                      have h3 := HN3.out
                      have e : f2 = f := by rw [HF2.out, HFf.out]; unfold plcF; rw [if_neg c2]
                      exact ⟨e, by rw [HR2.out.2, e, HFf.out]; exact plcF_len h3.1 h3.2⟩
                    clear c2
                    go_wp2
                    go_meet
                    case rel =>
                      have hr := HR2.out.1
                      rw [HE.out.1, HE.out.2] at hr
                      exact ⟨m2, by rw [HE.out.2], hr, Below.refl _ _, HB2.out.2⟩
                case rest =>
                obtain ⟨mb, rfl, hr3, hb3, hmb⟩ := hcut
                have HR3 : Hid (Row wc 3 1 (some ⟨mb, 0, none⟩) n n (natV f)) := hr3
                have HB3 : Hid (Below wr.heap.size wr wc) := HB2.out.1.trans (hb3.mono HB2.out.1.size)
                have HA3 : Hid (Ad w wc P l n rb sa sc ga fa fc ms S ∧ some mb ∉ (bk fa :: ms.map fun m => some m.1) ∧ w.heap.size ≤ mb) := ⟨HAl.out.below HB3.out, fun e => by have := HAl.out.lst.lt mb e; omega, Nat.le_trans HAl.out.bel.size hmb⟩
                clear hr3 hb3 hmb HR2 HB2 HB1 HA1 HAl HB3 HF2
                obtain ⟨v3, HV3⟩ := hex wc
                rw [← HV3.out] at HR3 HA3
                rw [← HV3.out]
                clear HV3
                have hmt : Calls Tryz.prog 80 #[.pointer (some ⟨rb, 6, none⟩), .slice ga nl gc, .slice (some ⟨mb, 0, none⟩) n n] v3 fun e w' => ∃ r, e = .returned (.bool r) ∧ (r = true ↔ P.M l f) ∧ Below v3.heap.size v3 w' := by
                  rw [HTs.out.2.2.2.2.2]
                  have hA := HA3.out.1
                  have h13 := HN3.out
                  have hzz : z < l.length := by rw [← HTs.out.2.2.2.2.2]; exact hzl
                  have hfl : f.length = n := by rw [HFf.out]; exact plcF_len h13.1 h13.2
                  refine rmatch_any P l f n rb sa sc ga gc (some ⟨mb, 0, none⟩) n v3 hfl HTs.out.2.2.2.2.1 h13.1 h13.2 HTs.out.2.1 ?_ HTs.out.1 HTs.out.2.2.1 HTs.out.2.2.2.1 (Nat.lt_of_lt_of_le hA.lt hA.bel.size) ((hA.bel.cell (p := ⟨rb, 6, none⟩) hA.lt).trans hA.p0) ((hA.bel.cell (p := ⟨rb, 7, none⟩) hA.lt).trans hA.p1) ((hA.bel.cell (p := ⟨rb, 8, none⟩) hA.lt).trans hA.p2) (hA.st.below hA.bel) (hA.ev.below hA.bel) ?_
                  · intro k hk
                    have := plcF_at h13.1 h13.2 haz hbz k hk
                    rw [← HFf.out] at this
                    omega
                  · intro k hk
                    obtain ⟨g, hg, _, _, hc, _⟩ := HR3.out.form (by omega)
                    simp only [Option.some.injEq, Addr.mk.injEq, and_true] at hg
                    refine ⟨mb, rfl, HR3.out.lt rfl, ?_⟩
                    have := hc k (by omega)
                    rw [hg, this]
                    have hkf : k < f.length := by omega
                    simp [natV, atN, List.getElem?_eq_getElem hkf]
                go_upto_region 19 with (go_at_call 80; refine hmt.mono ?_; rintro e w3 ⟨r, rfl, hr, hb3⟩)
                have HA4 : Hid (Ad w w3 P l n rb sa sc ga fa fc ms S) := HA3.out.1.below hb3
                have HR4 : Hid (Row w3 3 1 (some ⟨mb, 0, none⟩) n n (natV f)) := HR3.out.kept (below_kept hb3 (fun _ => False)) (fun _ _ e => e)
                have HMr : Hid (r = true ↔ P.M l f) := hr
                have HNe : Hid (some mb ∉ (bk fa :: ms.map fun m => some m.1) ∧ w.heap.size ≤ mb) := HA3.out.2
                have HFl : Hid (f.length = n) := by have h13 := HN3.out; show _ = _; rw [HFf.out]; exact plcF_len h13.1 h13.2
                clear hmt hr hb3 HA3 HR3
                cases r with
                | false =>
                  have hcn : P.candD l z a b = [] := HCd.out.2 (fun h => by have := HMr.out.2 h; cases this)
                  have HA5 : Hid (Ad w w3 P l n rb sa sc ga fa fc ms (P.dZ l z ++ P.dA l z a ++ P.dB l z a (b + 1))) := by show Ad _ _ _ _ _ _ _ _ _ _ _ _ _; rw [HS1.out, hcn, List.append_nil]; exact HA4.out
                  have HL2 : Hid ((P.dZ l z ++ P.dA l z a ++ P.dB l z a (b + 1)).length ≤ 100) := by show _ ≤ _; rw [HS1.out, hcn, List.append_nil]; exact HLz.out
                  clear hcn HA4 HS1
                  go_wp2
                  go_roundw
                  case rel => first | exact ⟨b + 1, fa, fc, ms, rfl, ⟨by omega, by omega⟩, by go_num, HL2.out, HA5.out⟩ | ((repeat apply Exists.intro); exact ⟨⟨b + 1, fa, fc, ms, rfl, ⟨by omega, by omega⟩, by go_num, HL2.out, HA5.out⟩, rfl⟩)
                  case measure => simp [intOf]; omega
                | true =>
                  have HCf : Hid (P.candD l z a b = [f]) := HCd.out.1 (HMr.out.1 rfl)
                  by_cases hfull : ms.length = 100
                  · have hfb : ((ms.length : Int) == 100) = true := by rw [beq_iff_eq]; omega
                    have HOut : Hid (BB.take 100 = S ∧ decide (100 < BB.length) = true) := by
                      obtain ⟨T, hT⟩ := HMo.out z a (b + 1) (by omega) (by omega) haz hzl
                      rw [HS1.out, HCf.out] at hT
                      have h100 : S.length = 100 := by have := HMl.out; omega
                      rw [hT]
                      refine ⟨?_, ?_⟩
                      · rw [List.append_assoc, List.take_append_of_le_length (by omega), List.take_of_length_le (by omega)]
                      · rw [decide_eq_true_eq]; simp only [List.length_append, List.length_cons, List.length_nil]; omega
                    clear hfull
                    go_wp2
                    go_ret2
                    refine ⟨fa, fc, ms, ?_, ?_, ?_⟩
                    · rw [HOut.out.2]; rfl
                    · rw [HOut.out.1]; exact HA4.out.lst
                    · exact HA4.out.bel
                  · have hfb : ((ms.length : Int) == 100) = false := by rw [beq_eq_false_iff_ne]; omega
                    obtain ⟨vals, HVs⟩ := hex (ms.map fun m => Value.slice (some ⟨m.1, 0, none⟩) n m.2)
                    have HFr : Hid (Row w3 36 1 fa ms.length fc vals) := by show Row _ _ _ _ _ _ _; rw [HVs.out]; exact HA4.out.lst.row
                    have hml : ms.length ≤ 99 := by have := HMl.out; have := HLz.out; omega
                    clear hfull
                    go_wp2_with (at_builtin; refine wpList_append_lies _ rfl _ _ _ rfl 0 36 j0 _ 1 24 Tryz.underlying107 hj0 hy0 hy1 hy2 rfl (by omega) (.slice fa ms.length fc) ms.length vals rfl (ownsRow_of_heap HFr.out (fun j hj => Below.heap_alloc _ _ _ hj)) ⟨w3.heap.size, 0, none⟩ 1 1 [.slice (some ⟨mb, 0, none⟩) n n] rfl rfl (news_new _ _ (by simp) [.slice (some ⟨mb, 0, none⟩) n n] 36) (by simp [Value.oneCell']) (by omega) (by unfold maxLen; omega) (by omega) (by simp) (w3.heap.size + 1) (by simp) ?_; intro g2 cap w4 hown1 hgrow hat hlt1; rw [bk_own] at hgrow hat)
                    have HA5 : Hid (Ad w w4 P l n rb sa sc ga (some ⟨g2, 0, none⟩) cap (ms ++ [(mb, n)]) (P.dZ l z ++ P.dA l z a ++ P.dB l z a (b + 1))) := by
                      show Ad _ _ _ _ _ _ _ _ _ _ _ _ _
                      rw [HS1.out, HCf.out]
                      have hba : Below w3.heap.size w3 (w3.alloc (.cells #[.slice (some ⟨mb, 0, none⟩) n n] 36)) := (Below.refl _ _).alloc (Nat.le_refl _) _
                      have K : Kept (fun k => bk fa = some k) w3 w4 := ((Kept.refl _ w3).below hba).grown hgrow (fun k _ e => e)
                      have hup : ∀ k, bk fa = some k → w.heap.size ≤ k := fun k e => HA4.out.lst.up k (by simp [e])
                      have hA := HA4.out
                      exact ⟨kept_toBelow hA.bel K hup, hA.lt, hA.p0, hA.p1, hA.p2, hA.st, hA.ev, hA.lst.app HR4.out HFl.out HNe.out.2 HNe.out.1 hba (by rw [← HVs.out]; exact hown1) hgrow (hat.imp id (fun e => by simp; omega)) hA.bel.size⟩
                    have HL2 : Hid ((P.dZ l z ++ P.dA l z a ++ P.dB l z a (b + 1)).length ≤ 100) := by show _ ≤ _; rw [HS1.out, HCf.out]; simp only [List.length_append, List.length_cons, List.length_nil]; have := HMl.out; omega
                    clear hown1 hgrow hat hlt1 HA4 HR4 HFr HS1
                    go_roundw
                    case rel => first | exact ⟨b + 1, some ⟨g2, 0, none⟩, cap, ms ++ [(mb, n)], by simp, ⟨by omega, by omega⟩, by go_num, HL2.out, HA5.out⟩ | ((repeat apply Exists.intro); exact ⟨⟨b + 1, some ⟨g2, 0, none⟩, cap, ms ++ [(mb, n)], by simp, ⟨by omega, by omega⟩, by go_num, HL2.out, HA5.out⟩, rfl⟩)
                    case measure => simp [intOf]; omega
            · have hbz' : ¬ (b : Int) ≤ (z : Int) := by omega
              have HA2 : Hid (Ad w wr P l n rb sa sc ga fa fc ms (P.dZ l z ++ P.dA l z (a + 1))) := by show Ad _ _ _ _ _ _ _ _ _ _ _ _ _; have := HAl.out; rw [HS.out, show b = z + 1 by omega, List.append_assoc, ← dA_succ] at this; exact this
              have HL2 : Hid ((P.dZ l z ++ P.dA l z (a + 1)).length ≤ 100) := by show _ ≤ _; have := HLz.out; rw [HS.out, show b = z + 1 by omega, List.append_assoc, ← dA_succ] at this; exact this
              clear HAl HS1 hlen
              go_wp2
              go_roundw
              case rel => first | exact ⟨a + 1, fa, fc, ms, rfl, by omega, by go_num, HL2.out, HA2.out⟩ | ((repeat apply Exists.intro); exact ⟨⟨a + 1, fa, fc, ms, rfl, by omega, by go_num, HL2.out, HA2.out⟩, rfl⟩)
              case measure => simp [intOf]; omega
        · have haz' : ¬ (a : Int) ≤ (z : Int) := by omega
          have HA2 : Hid (Ad w wr P l n rb sa sc ga fa fc ms (P.dZ l (z + 1))) := by show Ad _ _ _ _ _ _ _ _ _ _ _ _ _; have := HAl.out; rw [show a = z + 1 by omega, ← dZ_succ] at this; exact this
          have HL2 : Hid ((P.dZ l (z + 1)).length ≤ 100) := by show _ ≤ _; have := HLz.out; rw [show a = z + 1 by omega, ← dZ_succ] at this; exact this
          clear HAl
          go_wp2
          go_roundw
          case rel => first | exact ⟨z + 1, fa, fc, ms, rfl, by omega, by go_num, HL2.out, HA2.out⟩ | ((repeat apply Exists.intro); exact ⟨⟨z + 1, fa, fc, ms, rfl, by omega, by go_num, HL2.out, HA2.out⟩, rfl⟩)
          case measure => simp [intOf]; omega
    · have hzl' : ¬ (z : Int) < (nl : Int) := by omega
      have hzd : decide ((z : Int) < (nl : Int)) = false := by simpa using hzl'
      have HOut : Hid (BB.take 100 = P.dZ l z ∧ decide (100 < BB.length) = false) := by
        have hh := HLz.out
        rw [HBe.out, show nl = z by omega]
        exact ⟨List.take_of_length_le hh, by rw [decide_eq_false_iff_not]; omega⟩
      go_wp2
      go_ret2
      refine ⟨fa, fc, ms, ?_, ?_, ?_⟩
      · rw [HOut.out.2]; rfl
      · rw [HOut.out.1]; exact HAl.out.lst
      · exact HAl.out.bel
end Go.Proofs.YtghcololkgeoeabGreat
