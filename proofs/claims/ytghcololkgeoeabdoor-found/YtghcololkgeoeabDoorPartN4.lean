import Derived.Test.YtghcololkgeoeabDoorPartN1
import Derived.Test.YtghcololkgeoeabDoorPartN0
import Derived.Test.YtghcololkgeoeabDoorPartK3
import Derived.Deep.QuietTactic
import Derived.BigQuiet
import Derived.Deep.DeepCutAuto
import Derived.Deep.CutBlock
namespace Go.Proofs.YtghcololkgeoeabDoor
open Go.RowKit
set_option linter.unusedVariables false
set_option linter.unusedSimpArgs false
attribute [local go_sem ↓] Go.wp_at_zero Go.wp_at_succ

/-! ### a match, place by place -/
def atN (f : List Nat) (k : Nat) : Nat := f[k]?.getD 0
def Pq.hit (P : Pq) (l : List Ev) (f : List Nat) (k i : Nat) : Prop := atN f (k - 1) < i ∧ i < atN f k ∧ (evAt l i).kind = P.nt k ∧ (P.sm = true → (evAt l i).val = (evAt l (atN f 0)).val)
def Pq.okK (P : Pq) (l : List Ev) (f : List Nat) (k : Nat) : Prop := (evAt l (atN f k)).kind = P.kd k ∧ (P.sm = true → (evAt l (atN f k)).val = (evAt l (atN f 0)).val) ∧ (k ≠ 0 → ∀ i, ¬ P.hit l f k i)
theorem M_iff {P : Pq} {l : List Ev} {f : List Nat} (hn : f ≠ []) (hup : ∀ k, k + 1 < f.length → atN f k < atN f (k + 1)) : P.M l f ↔ (evAt l (atN f (f.length - 1))).ts - (evAt l (atN f 0)).ts ≤ P.wn ∧ ∀ k, k < f.length → P.okK l f k := by
  have hh : f.headD 0 = atN f 0 := by cases f <;> rfl
  have hl : f.getLastD 0 = atN f (f.length - 1) := by
    unfold atN
    rw [List.getLastD_eq_getLast?, List.getLast?_eq_getElem?]
  have hat : ∀ k p, f[k]? = some p → p = atN f k := fun k p h => by unfold atN; rw [h]; rfl
  have hta : ∀ k, k < f.length → f[k]? = some (atN f k) := fun k h => by unfold atN; rw [List.getElem?_eq_getElem h]; rfl
  unfold Pq.M
  rw [hh, hl]
  constructor
  · rintro ⟨h1, h2, h3⟩
    refine ⟨h1, fun k hk => ?_⟩
    obtain ⟨a1, a2⟩ := h2 k _ (hta k hk)
    refine ⟨a1, a2, fun h0 i hi => ?_⟩
    obtain ⟨j, rfl⟩ : ∃ j, k = j + 1 := ⟨k - 1, by omega⟩
    obtain ⟨b1, b2⟩ := h3 j _ _ (hta j (by omega)) (hta (j + 1) hk)
    exact b2 i hi.1 hi.2.1 hi.2.2
  · rintro ⟨h1, h2⟩
    refine ⟨h1, ?_, ?_⟩
    · intro k p hp
      have hk := (List.getElem?_eq_some_iff.1 hp).1
      rw [hat k p hp]
      exact ⟨(h2 k hk).1, (h2 k hk).2.1⟩
    · intro k p q hp hq
      have hk := (List.getElem?_eq_some_iff.1 hq).1
      rw [hat k p hp, hat _ q hq]
      exact ⟨hup k hk, fun i i1 i2 h => (h2 (k + 1) hk).2.2 (by omega) i ⟨i1, i2, h⟩⟩
/-- a list of numbers that can be read -/
def NumR (w : World) (a : Option Addr) (n : Nat) (f : Nat → Int) : Prop := ∀ (k : Nat), k < n → ∃ g, a = some ⟨g, 0, none⟩ ∧ g < w.heap.size ∧ w.cell? ⟨g, k, none⟩ = some (.int .i64 (f k))
theorem NumR.below {w w' : World} {a : Option Addr} {n : Nat} {f : Nat → Int} (h : NumR w a n f) (hb : Below w.heap.size w w') : NumR w' a n f := by
  intro k hk
  obtain ⟨g, ha, hg, c⟩ := h k hk
  exact ⟨g, ha, Nat.lt_of_lt_of_le hg hb.size, (hb.cell (p := ⟨g, k, none⟩) hg).trans c⟩
theorem EvAt.belowW {w w' : World} {a : Option Addr} {l : List Ev} (h : EvAt w a l) (hb : Below w.heap.size w w') : EvAt w' a l := by
  intro k hk
  obtain ⟨g, ha, hg, c0, c1, c2, c3, c4⟩ := h k hk
  exact ⟨g, ha, Nat.lt_of_lt_of_le hg hb.size, (hb.cell (p := ⟨g, k * 5, none⟩) hg).trans c0, (hb.cell (p := ⟨g, k * 5 + 1, none⟩) hg).trans c1, (hb.cell (p := ⟨g, k * 5 + 2, none⟩) hg).trans c2, (hb.cell (p := ⟨g, k * 5 + 3, none⟩) hg).trans c3, (hb.cell (p := ⟨g, k * 5 + 4, none⟩) hg).trans c4⟩
theorem EvAt.at {w : World} {a : Option Addr} {l : List Ev} (h : EvAt w a l) (k : Nat) (hk : k < l.length) : ∃ g, a = some ⟨g, 0, none⟩ ∧ w.cell? ⟨g, k * 5, none⟩ = some (.int .i64 (evAt l k).src) ∧ w.cell? ⟨g, k * 5 + 1, none⟩ = some (.int .i64 (evAt l k).seq) ∧ w.cell? ⟨g, k * 5 + 2, none⟩ = some (.int .i64 (evAt l k).ts) ∧ w.cell? ⟨g, k * 5 + 3, none⟩ = some (.int .i64 (evAt l k).kind) ∧ w.cell? ⟨g, k * 5 + 4, none⟩ = some (.int .i64 (evAt l k).val) := by
  obtain ⟨g, ha, _, c⟩ := h k hk
  have e : evAt l k = l[k] := by unfold evAt; rw [List.getElem?_eq_getElem hk]; rfl
  rw [e]
  exact ⟨g, ha, c⟩
structure Mt (w wr : World) (P : Pq) (l : List Ev) (f : List Nat) (n : Nat) (ka : Option Addr) (kc : Nat) (na : Option Addr) (nc : Nat) (ga : Option Addr) (aa : Option Addr) (pb ab : Nat) : Prop where
  bel : Below w.heap.size w wr
  pat : Blk wr pb 30 [.slice ka n kc, .slice na n nc, .bool P.sm, .int .i64 P.wn]
  fst : Blk wr ab 37 (Ev.vals (evAt l (atN f 0)))
  kd : NumR wr ka n P.kd
  nt : NumR wr na n P.nt
  ev : EvAt wr ga l
  at_ : NumR wr aa n (fun k => (atN f k : Nat))
theorem Mt.below {w wr wq : World} {P : Pq} {l : List Ev} {f : List Nat} {n : Nat} {ka : Option Addr} {kc : Nat} {na : Option Addr} {nc : Nat} {ga aa : Option Addr} {pb ab : Nat} (h : Mt w wr P l f n ka kc na nc ga aa pb ab) (hb : Below wr.heap.size wr wq) : Mt w wq P l f n ka kc na nc ga aa pb ab :=
  ⟨h.bel.trans (hb.mono h.bel.size), h.pat.below hb h.pat.lt, h.fst.below hb h.fst.lt, h.kd.below hb, h.nt.below hb, h.ev.belowW hb, h.at_.below hb⟩
set_option maxRecDepth 100000 in
set_option maxHeartbeats 4000000 in
theorem match_any (P : Pq) (l : List Ev) (f : List Nat) (n : Nat) (ka : Option Addr) (kc : Nat) (na : Option Addr) (nc : Nat) (ga : Option Addr) (gc : Nat) (aa : Option Addr) (ac : Nat) (w : World) (hf : f.length = n) (h1 : 1 ≤ n) (h3 : n ≤ 3) (hl : l.length ≤ 1000) (hlt : ∀ k, k < n → atN f k < l.length) (hup : ∀ k, k + 1 < f.length → atN f k < atN f (k + 1)) (hts : TsOk l)
    (hkd : NumR w ka n P.kd) (hnt : NumR w na n P.nt) (hev : EvAt w ga l) (hat : NumR w aa n (fun k => (atN f k : Nat))) :
    Calls Tryd.prog 60 #[.agg #[.slice ka n kc, .slice na n nc, .bool P.sm, .int .i64 P.wn], .slice ga l.length gc, .slice aa n ac] w fun e w' => ∃ r, e = .returned (.bool r) ∧ (r = true ↔ P.M l f) ∧ Below w.heap.size w w' := by
  have HMi : Hid (P.M l f ↔ (evAt l (atN f (n - 1))).ts - (evAt l (atN f 0)).ts ≤ P.wn ∧ ∀ k, k < n → P.okK l f k) := by show _ ↔ _; rw [← hf]; exact M_iff (fun e => by rw [e] at hf; simp at hf; omega) hup
  obtain ⟨MM, HMM⟩ := hex (P.M l f)
  rw [← HMM.out] at HMi ⊢
  have HA : Hid (NumR w ka n P.kd ∧ NumR w na n P.nt ∧ EvAt w ga l ∧ NumR w aa n (fun k => (atN f k : Nat))) := ⟨hkd, hnt, hev, hat⟩
  have HLt : Hid (∀ k, k < n → atN f k < l.length) := hlt
  have t0 := hts.at (atN f 0) (hlt 0 (by omega))
  have t1 := hts.at (atN f (n - 1)) (hlt (n - 1) (by omega))
  obtain ⟨m, hm⟩ : ∃ m, n = m + 1 := ⟨n - 1, by omega⟩
  have HNm : Hid (n = m + 1) := hm
  have hw1 : IntKind.i64.wrap ((n : Int) - 1) = (m : Int) := by rw [IntKind.wrap_i64]; omega
  have hm1 : (m : Int) < (n : Int) := by omega
  have hm0 : (0 : Int) ≤ (m : Int) := by omega
  have hn0 : (0 : Int) < (n : Int) := by omega
  have hnm : n - 1 = m := by omega
  rw [hnm] at HMi t1
  obtain ⟨w1, HW1⟩ := hex (w.alloc (.cells #[.slice ka n kc, .slice na n nc, .bool P.sm, .int .i64 P.wn] 30))
  obtain ⟨pb, HPb⟩ := hex w.heap.size
  have HP1 : Hid (Blk w1 pb 30 [.slice ka n kc, .slice na n nc, .bool P.sm, .int .i64 P.wn] ∧ Below w.heap.size w w1) := by
    show _ ∧ _
    rw [HW1.out, HPb.out]; exact ⟨blk_alloc _ _ _, (Below.refl _ _).alloc (Nat.le_refl _) _⟩
  have hlt0 : atN f 0 < l.length := hlt 0 (by omega)
  have hltm : atN f m < l.length := hlt m (by omega)
  have hlt0' : (atN f 0 : Int) < (l.length : Int) := by omega
  have hltm' : (atN f m : Int) < (l.length : Int) := by omega
  have hp00 : (0 : Int) ≤ (atN f 0 : Int) := by omega
  have hpm0 : (0 : Int) ≤ (atN f m : Int) := by omega
  obtain ⟨ga0, hga0, e0, e1, e2, e3, e4⟩ := (HA.out.2.2.1.belowW HP1.out.2).at (atN f 0) hlt0
  obtain ⟨ga1, hga1, _, x0⟩ := (HA.out.2.2.2.below HP1.out.2) 0 (by omega)
  subst hga0
  subst hga1
  obtain ⟨E0, HE0⟩ := hex (evAt l (atN f 0))
  rw [← HE0.out] at e0 e1 e2 e3 e4 t0 HMi
  clear hkd hnt hev hat hlt hup hts hm hnm HMM
  have hw1' : w.alloc (.cells #[.slice ka n kc, .slice na n nc, .bool P.sm, .int .i64 P.wn] 30) = w1 := HW1.out.symm
  go_enter Tryd.func60, Tryd.ntmps60
  go_upto_region 1 with fail
  rw [← HPb.out]
  clear hw1' HW1
  go_upto_region 2 with fail
  obtain ⟨w2, HW2⟩ := hex (w1.alloc (.cells (Ev.vals E0).toArray 37))
  obtain ⟨ab, HAb⟩ := hex w1.heap.size
  have hw2 : w1.alloc (.cells #[.int .i64 E0.src, .int .i64 E0.seq, .int .i64 E0.ts, .int .i64 E0.kind, .int .i64 E0.val] 37) = w2 := HW2.out.symm
  have HM2 : Hid (Mt w w2 P l f n ka kc na nc (some ⟨ga0, 0, none⟩) (some ⟨ga1, 0, none⟩) pb ab) := by
    have hb : Below w1.heap.size w1 w2 := by rw [HW2.out]; exact (Below.refl _ _).alloc (Nat.le_refl _) _
    have hbw := HP1.out.2
    have hb2 := hbw.trans (hb.mono hbw.size)
    refine ⟨hb2, HP1.out.1.below hb HP1.out.1.lt, ?_, HA.out.1.below hb2, HA.out.2.1.below hb2, HA.out.2.2.1.belowW hb2, HA.out.2.2.2.below hb2⟩
    rw [← HE0.out, HW2.out, HAb.out]; exact blk_alloc _ _ _
  rw [hw2, ← HAb.out]
  clear hw2 HW2 HAb e0 e1 e2 e3 e4 x0 HP1 HA
  obtain ⟨ga2, hga2, _, x0⟩ := HM2.out.at_ m (by omega)
  simp only [Option.some.injEq, Addr.mk.injEq, and_true] at hga2
  subst hga2
  obtain ⟨ga3, hga3, e0, e1, e2, e3, e4⟩ := HM2.out.ev.at (atN f m) hltm
  simp only [Option.some.injEq, Addr.mk.injEq, and_true] at hga3
  subst hga3
  obtain ⟨E1, HE1⟩ := hex (evAt l (atN f m))
  rw [← HE1.out] at e0 e1 e2 e3 e4 t1 HMi
  go_upto_region 3 with fail
  obtain ⟨w3, HW3⟩ := hex (w2.alloc (.cells (Ev.vals E1).toArray 37))
  obtain ⟨zb, HZb⟩ := hex w2.heap.size
  have hw3 : w2.alloc (.cells #[.int .i64 E1.src, .int .i64 E1.seq, .int .i64 E1.ts, .int .i64 E1.kind, .int .i64 E1.val] 37) = w3 := HW3.out.symm
  have HM3 : Hid (Mt w w3 P l f n ka kc na nc (some ⟨ga0, 0, none⟩) (some ⟨ga1, 0, none⟩) pb ab ∧ Blk w3 zb 37 (Ev.vals E1)) := by
    have hb : Below w2.heap.size w2 w3 := by rw [HW3.out]; exact (Below.refl _ _).alloc (Nat.le_refl _) _
    refine ⟨HM2.out.below hb, ?_⟩
    rw [HW3.out, HZb.out]; exact blk_alloc _ _ _
  rw [hw3, ← HZb.out]
  clear hw3 HW3 HZb e0 e1 e2 e3 e4 x0 HM2
  have p3 := HM3.out.1.pat.cell 3
  have a2 := HM3.out.1.fst.cell 2
  have z2 := HM3.out.2.cell 2
  rw [← HE0.out] at a2
  simp only [Ev.vals, List.getElem?_cons_succ, List.getElem?_cons_zero] at p3 a2 z2
  have hsub : IntKind.i64.wrap (E1.ts - E0.ts) = E1.ts - E0.ts := by rw [IntKind.wrap_i64]; omega
  by_cases hwn : P.wn < E1.ts - E0.ts
  · have HF : Hid (¬ MM) := by intro h; have := (HMi.out.1 h).1; omega
    go_wp2
    go_ret
    first | exact ⟨false, rfl, ⟨(fun h => by cases h), fun h => (HF.out h).elim⟩, HM3.out.1.bel⟩ | exact Or.inl ⟨rfl, HF.out, HM3.out.1.bel⟩
  · have HMj : Hid (MM ↔ ∀ k, k < n → P.okK l f k) := by
      have h := HMi.out
      constructor
      · intro hM; exact (h.1 hM).2
      · intro hk; exact h.2 ⟨by omega, hk⟩
    clear HMi t0 t1 HE1
    have hdw : decide (P.wn < E1.ts - E0.ts) = false := by simpa using hwn
    go_wp2
    clear p3 a2 z2 hsub
    go_loopw [9] (fun kv wr => ∃ (k : Nat), k ≤ n ∧ kv = .int .i64 k ∧ Mt w wr P l f n ka kc na nc (some ⟨ga0, 0, none⟩) (some ⟨ga1, 0, none⟩) pb ab ∧ ∀ j, j < k → P.okK l f j) (fun kv _ => n - (intOf kv).toNat)
    case atStart => exact ⟨0, Nat.zero_le _, rfl, HM3.out.1, fun j hj => by omega⟩
    case round =>
      clear HM3
      obtain ⟨k, hk, rfl, hMt, hok⟩ := hrel
      have HM : Hid (Mt w wr P l f n ka kc na nc (some ⟨ga0, 0, none⟩) (some ⟨ga1, 0, none⟩) pb ab) := hMt
      have HOk : Hid (∀ j, j < k → P.okK l f j) := hok
      clear hMt hok
      by_cases hkn : k < n
      · have hkn' : (k : Int) < (n : Int) := by omega
        have hk0 : (0 : Int) ≤ (k : Int) := by omega
        obtain ⟨g1, hg1, _, x0⟩ := HM.out.at_ k hkn
        simp only [Option.some.injEq, Addr.mk.injEq, and_true] at hg1
        subst hg1
        have hltk : atN f k < l.length := HLt.out k hkn
        have hltk' : (atN f k : Int) < (l.length : Int) := by omega
        have hpk0 : (0 : Int) ≤ (atN f k : Int) := by omega
        obtain ⟨g3, hg3, e0, e1, e2, e3, e4⟩ := HM.out.ev.at (atN f k) hltk
        simp only [Option.some.injEq, Addr.mk.injEq, and_true] at hg3
        subst hg3
        obtain ⟨EK, HEK⟩ := hex (evAt l (atN f k))
        rw [← HEK.out] at e0 e1 e2 e3 e4
        go_upto_region 9 with fail
        obtain ⟨v1, HV1⟩ := hex (wr.alloc (.cells (Ev.vals EK).toArray 37))
        obtain ⟨eb, HEb⟩ := hex wr.heap.size
        have hv1 : wr.alloc (.cells #[.int .i64 EK.src, .int .i64 EK.seq, .int .i64 EK.ts, .int .i64 EK.kind, .int .i64 EK.val] 37) = v1 := HV1.out.symm
        have HN : Hid (Mt w v1 P l f n ka kc na nc (some ⟨ga0, 0, none⟩) (some ⟨ga1, 0, none⟩) pb ab ∧ Blk v1 eb 37 (Ev.vals EK)) := by
          have hb : Below wr.heap.size wr v1 := by rw [HV1.out]; exact (Below.refl _ _).alloc (Nat.le_refl _) _
          refine ⟨HM.out.below hb, ?_⟩
          rw [HV1.out, HEb.out]; exact blk_alloc _ _ _
        rw [hv1, ← HEb.out]
        clear hv1 HV1 HEb e0 e1 e2 e3 e4 x0 HM
        have p0 := HN.out.1.pat.cell 0
        have p2 := HN.out.1.pat.cell 2
        have a4 := HN.out.1.fst.cell 4
        have e3 := HN.out.2.cell 3
        have e4 := HN.out.2.cell 4
        rw [← HE0.out] at a4
        simp only [Ev.vals, List.getElem?_cons_succ, List.getElem?_cons_zero] at p0 p2 a4 e3 e4
        obtain ⟨gk, hgk, _, y0⟩ := HN.out.1.kd k hkn
        rw [hgk] at p0
        obtain ⟨u, HU⟩ := hex (P.kd k)
        rw [← HU.out] at y0
        obtain ⟨bad, HBad⟩ := hex ((EK.kind != u) || (P.sm && (EK.val != E0.val)))
        go_cut [67] (fun s wx => s = .bool bad ∧ ∃ q, wx = v1.drewN q)
        case first =>
          by_cases hvu : EK.kind = u
          · have hb : (EK.kind != u) = false := by simp [hvu]
            obtain ⟨sv, hs⟩ : ∃ sv, P.sm = sv := ⟨_, rfl⟩
            cases sv with
            | false =>
              rw [hs] at p2
              have HR : Hid (bad = false) := by show _ = _; rw [HBad.out, hb, hs]; rfl
              clear hs HBad
              go_quiet (fail)
              go_wp2
              go_meet
              case rel => exact ⟨by rw [HR.out], _, rfl⟩
            | true =>
              rw [hs] at p2
              have HR : Hid (bad = (EK.val != E0.val)) := by show _ = _; rw [HBad.out, hb, hs]; rfl
              clear hs HBad
              go_quiet (fail)
              go_wp2
              go_meet
              case rel => exact ⟨by rw [HR.out], _, rfl⟩
          · have hb : (EK.kind != u) = true := by simp [hvu]
            have HR : Hid (bad = true) := by show _ = _; rw [HBad.out, hb]; rfl
            clear HBad
            go_quiet (fail)
            go_wp2
            go_meet
            case rel => exact ⟨by rw [HR.out], _, rfl⟩
        case rest =>
          obtain ⟨rfl, q1, hq1⟩ := hcut
          have HN' : Hid (Mt w wc P l f n ka kc na nc (some ⟨ga0, 0, none⟩) (some ⟨ga1, 0, none⟩) pb ab) := by
            show Mt _ _ _ _ _ _ _ _ _ _ _ _ _ _
            rw [hq1]; exact HN.out.1.below ⟨rfl, rfl, rfl, Nat.le_refl _, fun _ _ => rfl⟩
          clear p0 p2 a4 e3 e4 y0 HN hq1 hgk
          cases hbd : bad with
          | true =>
            have HF : Hid (¬ MM) := by
              intro h
              have hh := HMj.out.1 h k hkn
              rw [HBad.out] at hbd
              have k1 : EK.kind = u := by rw [HEK.out, HU.out]; exact hh.1
              have k2 : P.sm = true → EK.val = E0.val := by rw [HEK.out, HE0.out]; exact hh.2.1
              cases hs : P.sm with
              | false => rw [hs, k1] at hbd; simp at hbd
              | true => rw [hs, k1, k2 hs] at hbd; simp at hbd
            clear hbd
            go_wp2
            go_ret
            first | exact ⟨false, rfl, ⟨(fun h => by cases h), fun h => (HF.out h).elim⟩, HN'.out.bel⟩ | exact Or.inl ⟨rfl, HF.out, HN'.out.bel⟩
          | false =>
            have HG : Hid ((evAt l (atN f k)).kind = P.kd k ∧ (P.sm = true → (evAt l (atN f k)).val = (evAt l (atN f 0)).val)) := by
              show _ ∧ _
              rw [HBad.out] at hbd
              rw [← HEK.out, ← HU.out, ← HE0.out]
              simp only [Bool.or_eq_false_iff, bne_eq_false_iff_eq, Bool.and_eq_false_iff] at hbd
              refine ⟨hbd.1, fun hs => ?_⟩
              rcases hbd.2 with h | h
              · rw [hs] at h; cases h
              · exact h
            clear hbd
            go_upto_region 11 with fail
            obtain ⟨wo, HWo⟩ := hex wc
            rw [← HWo.out] at HN'
            rw [← HWo.out]
            clear HWo HBad
            go_wp2
            go_loopw [11] (fun iv wq => ∃ (i : Nat), i ≤ l.length ∧ iv = .int .i64 i ∧ Mt w wq P l f n ka kc na nc (some ⟨ga0, 0, none⟩) (some ⟨ga1, 0, none⟩) pb ab ∧ (k ≠ 0 → ∀ i', i' < i → ¬ P.hit l f k i') ∧ (k = 0 → i = 0)) (fun iv _ => l.length - (intOf iv).toNat)
            case atStart => exact ⟨0, Nat.zero_le _, rfl, HN'.out, fun _ i' hi' => by omega, fun _ => rfl⟩
            case round =>
              clear HN'
              obtain ⟨i, hi, rfl, hMt, hno, hk00⟩ := hrel
              have HM : Hid (Mt w wr P l f n ka kc na nc (some ⟨ga0, 0, none⟩) (some ⟨ga1, 0, none⟩) pb ab) := hMt
              have HNo : Hid (k ≠ 0 → ∀ i', i' < i → ¬ P.hit l f k i') := hno
              clear hMt hno hk00
              by_cases hkz : k = 0
              · have hkz' : ¬ (0 : Int) < (k : Int) := by omega
                have hdk : decide ((0 : Int) < (k : Int)) = false := by simpa using hkz'
                have HOk1 : Hid (∀ j, j < k + 1 → P.okK l f j) := by
                  intro j hj
                  by_cases e : j < k
                  · exact HOk.out j e
                  · have : j = k := by omega
                    subst this
                    exact ⟨HG.out.1, HG.out.2, fun h => absurd hkz h⟩
                clear hkz
                go_wp2
                go_roundw
                case rel => first | exact ⟨k + 1, by omega, by go_num, HM.out, HOk1.out⟩ | ((repeat apply Exists.intro); exact ⟨⟨k + 1, by omega, by go_num, HM.out, HOk1.out⟩, rfl⟩)
                case measure => simp [intOf]; omega
              · have hkz' : (0 : Int) < (k : Int) := by omega
                by_cases hil : i < l.length
                · have hil' : (i : Int) < (l.length : Int) := by omega
                  have hi0 : (0 : Int) ≤ (i : Int) := by omega
                  obtain ⟨k1, hk1⟩ : ∃ k1, k = k1 + 1 := ⟨k - 1, by omega⟩
                  have HK1 : Hid (k - 1 = k1) := by show _ = _; omega
                  have hwk : IntKind.i64.wrap ((k : Int) - 1) = (k1 : Int) := by rw [IntKind.wrap_i64]; omega
                  have hk1n : (k1 : Int) < (n : Int) := by omega
                  have hk10 : (0 : Int) ≤ (k1 : Int) := by omega
                  have hk1N : k1 < n := by omega
                  clear hk1
                  obtain ⟨g1, hg1, _, x0⟩ := HM.out.at_ k hkn
                  simp only [Option.some.injEq, Addr.mk.injEq, and_true] at hg1
                  subst hg1
                  obtain ⟨g2, hg2, _, x1⟩ := HM.out.at_ k1 hk1N
                  simp only [Option.some.injEq, Addr.mk.injEq, and_true] at hg2
                  subst hg2
                  obtain ⟨pk, HPk⟩ := hex (atN f k)
                  obtain ⟨pj, HPj⟩ := hex (atN f k1)
                  simp only at x0 x1
                  rw [← HPk.out] at x0
                  rw [← HPj.out] at x1
                  obtain ⟨inB, HIn⟩ := hex (decide (pj < i) && decide (i < pk))
                  go_upto_region 14 with fail
                  go_cut [12] (fun s wx => s = .bool inB ∧ wx = wr)
                  case first =>
                    by_cases c1 : pj < i
                    · have c1' : (pj : Int) < (i : Int) := by omega
                      by_cases c2 : i < pk
                      · have c2' : (i : Int) < (pk : Int) := by omega
                        have HR : Hid (inB = true) := by show _ = _; rw [HIn.out]; simp [c1, c2]
                        go_wp2
                        go_meet
                        case rel => exact ⟨by rw [HR.out], rfl⟩
                      · have c2' : ¬ (i : Int) < (pk : Int) := by omega
                        have HR : Hid (inB = false) := by show _ = _; rw [HIn.out]; simp [c2]
                        go_wp2
                        go_meet
                        case rel => exact ⟨by rw [HR.out], rfl⟩
                    · have c1' : ¬ (pj : Int) < (i : Int) := by omega
                      have hd1 : decide ((pj : Int) < (i : Int)) = false := by simpa using c1'
                      have HR : Hid (inB = false) := by show _ = _; rw [HIn.out]; simp [c1]
                      go_wp2
                      go_meet
                      case rel => exact ⟨by rw [HR.out], rfl⟩
                  case rest =>
                    obtain ⟨rfl, hwc⟩ := hcut
                    have HMc : Hid (Mt w wc P l f n ka kc na nc (some ⟨ga0, 0, none⟩) (some ⟨ga1, 0, none⟩) pb ab) := by show Mt _ _ _ _ _ _ _ _ _ _ _ _ _ _; rw [hwc]; exact HM.out
                    clear HM x0 x1 hwc
                    obtain ⟨wd, HWd⟩ := hex wc
                    rw [← HWd.out] at HMc
                    rw [← HWd.out]
                    clear HWd
                    have p1 := HMc.out.pat.cell 1
                    have p2 := HMc.out.pat.cell 2
                    have a4 := HMc.out.fst.cell 4
                    rw [← HE0.out] at a4
                    simp only [Ev.vals, List.getElem?_cons_succ, List.getElem?_cons_zero] at p1 p2 a4
                    obtain ⟨gn, hgn, _, y0⟩ := HMc.out.nt k hkn
                    rw [hgn] at p1
                    obtain ⟨u2, HU2⟩ := hex (P.nt k)
                    rw [← HU2.out] at y0
                    obtain ⟨g4, hg4, _, _, _, i3, i4⟩ := HMc.out.ev.at i hil
                    simp only [Option.some.injEq, Addr.mk.injEq, and_true] at hg4
                    subst hg4
                    obtain ⟨EI, HEI⟩ := hex (evAt l i)
                    rw [← HEI.out] at i3 i4
                    obtain ⟨hb, HHb⟩ := hex (inB && (EI.kind == u2) && (!P.sm || (EI.val == E0.val)))
                    go_upto_region 15 with fail
                    go_cut [12, 121] (fun s12 s wx => s12 = .bool inB ∧ s = .bool hb ∧ ∃ q, wx = wd.drewN q)
                    case first =>
                      cases inB with
                      | false =>
                        have HR : Hid (hb = false) := by show _ = _; rw [HHb.out]; rfl
                        clear HHb HIn
                        go_quiet (fail)
                        go_wp2
                        go_meet
                        case rel => exact ⟨rfl, by rw [HR.out], _, rfl⟩
                      | true =>
                        by_cases hvu : EI.kind = u2
                        · have hbq : (EI.kind == u2) = true := by simp [hvu]
                          obtain ⟨sv, hs⟩ : ∃ sv, P.sm = sv := ⟨_, rfl⟩
                          cases sv with
                          | false =>
                            rw [hs] at p2
                            have HR : Hid (hb = true) := by show _ = _; rw [HHb.out, hbq, hs]; rfl
                            clear hs HHb HIn
                            go_quiet (fail)
                            go_wp2
                            go_meet
                            case rel => exact ⟨rfl, by rw [HR.out], _, rfl⟩
                          | true =>
                            rw [hs] at p2
                            have HR : Hid (hb = (EI.val == E0.val)) := by show _ = _; rw [HHb.out, hbq, hs]; rfl
                            clear hs HHb HIn
                            go_quiet (fail)
                            go_wp2
                            go_meet
                            case rel => exact ⟨rfl, by rw [HR.out], _, rfl⟩
                        · have hbq : (EI.kind == u2) = false := by simp [hvu]
                          have HR : Hid (hb = false) := by show _ = _; rw [HHb.out, hbq]; simp
                          clear HHb HIn
                          go_quiet (fail)
                          go_wp2
                          go_meet
                          case rel => exact ⟨rfl, by rw [HR.out], _, rfl⟩
                    case rest =>
                      obtain ⟨rfl, rfl, q2, hq2⟩ := hcut
                      have HMe : Hid (Mt w wc P l f n ka kc na nc (some ⟨ga0, 0, none⟩) (some ⟨ga1, 0, none⟩) pb ab) := by
                        show Mt _ _ _ _ _ _ _ _ _ _ _ _ _ _
                        rw [hq2]; exact HMc.out.below ⟨rfl, rfl, rfl, Nat.le_refl _, fun _ _ => rfl⟩
                      clear p1 p2 a4 y0 i3 i4 hq2 HMc hgn
                      have HHit : Hid (hb = true ↔ P.hit l f k i) := by
                        show _ ↔ _
                        unfold Pq.hit
                        rw [HHb.out, HIn.out, HK1.out, ← HPk.out, ← HPj.out, ← HEI.out, ← HE0.out, ← HU2.out]
                        cases P.sm <;> simp [and_assoc]
                      clear HHb HIn
                      cases hbd : hb with
                      | true =>
                        have HF : Hid (¬ MM) := by
                          intro h
                          exact (HMj.out.1 h k hkn).2.2 hkz i (HHit.out.1 hbd)
                        clear hbd
                        go_wp2
                        go_ret
                        first | exact ⟨false, rfl, ⟨(fun h => by cases h), fun h => (HF.out h).elim⟩, HMe.out.bel⟩ | exact Or.inl ⟨rfl, HF.out, HMe.out.bel⟩
                      | false =>
                        have HN2 : Hid (k ≠ 0 → ∀ i', i' < i + 1 → ¬ P.hit l f k i') := by
                          intro h0 i' hi'
                          by_cases e : i' < i
                          · exact HNo.out h0 i' e
                          · have : i' = i := by omega
                            subst this
                            intro h
                            rw [HHit.out.2 h] at hbd; cases hbd
                        clear hbd
                        go_wp2
                        go_roundw
                        case rel => first | exact ⟨i + 1, by omega, by go_num, HMe.out, HN2.out, fun h => absurd h hkz⟩ | ((repeat apply Exists.intro); exact ⟨⟨i + 1, by omega, by go_num, HMe.out, HN2.out, fun h => absurd h hkz⟩, rfl⟩)
                        case measure => simp [intOf]; omega
                · have hil' : ¬ (i : Int) < (l.length : Int) := by omega
                  have HOk1 : Hid (∀ j, j < k + 1 → P.okK l f j) := by
                    intro j hj
                    by_cases e : j < k
                    · exact HOk.out j e
                    · have : j = k := by omega
                      subst this
                      refine ⟨HG.out.1, HG.out.2, fun h i' hh => ?_⟩
                      by_cases e2 : i' < i
                      · exact HNo.out h i' e2 hh
                      · have := hh.2.1; omega
                  go_wp2
                  go_roundw
                  case rel => first | exact ⟨k + 1, by omega, by go_num, HM.out, HOk1.out⟩ | ((repeat apply Exists.intro); exact ⟨⟨k + 1, by omega, by go_num, HM.out, HOk1.out⟩, rfl⟩)
                  case measure => simp [intOf]; omega
      · have hkn' : ¬ (k : Int) < (n : Int) := by omega
        have HT : Hid MM := HMj.out.2 (fun j hj => HOk.out j (by omega))
        go_wp2
        go_ret
        first | exact ⟨true, rfl, ⟨fun _ => HT.out, fun _ => rfl⟩, HM.out.bel⟩ | exact Or.inr ⟨rfl, HT.out, HM.out.bel⟩
end Go.Proofs.YtghcololkgeoeabDoor
