import Derived.Test.YtghcololkgeoeaaDoorPartL0
import Derived.Laws.CopyRow
import Derived.Test.YtghcololkgeoeaaDoorPartA9
namespace Go.Proofs.YtghcololkgeoeaaDoor
open Go.RowKit
set_option linter.unusedVariables false
set_option linter.unusedSimpArgs false
attribute [local go_sem ↓] Go.wp_at_zero Go.wp_at_succ

/-! ### copy of events -/
theorem run_copy_rowN {P : Program} (w : World) (dT sT ty elem : TypeId) (g dLen dCap : Nat) (a : Addr) (sLen sCap sz : Nat) (cur : Array Value) (t : TypeId) (cs : List Value)
    (hu : P.underlying dT = some (.slice elem)) (hs : (P.info? elem).map (·.size) = some sz)
    (hg : w.heap[g]? = some (.cells cur t (0, 0))) (hn : cs.length = Nat.min sLen dLen * sz)
    (hsrc : ∀ j v, cs[j]? = some v → w.cell? (a.add j) = some v) (hfit : cs.length ≤ cur.size) (h1 : ∀ v ∈ cs, v.oneCell' = true) :
    (Builtin.copy_ #[dT, sT] ty #[.slice (some ⟨g, 0, none⟩) dLen dCap, .slice (some a) sLen sCap]).run P w =
      .ok (goInt (Nat.min sLen dLen)) (w.setRow g (cs ++ cur.toList.drop cs.length).toArray) := by
  have hl := run_loadCells_list (P := P) w a cs hsrc
  have hst := run_storeCells_at P g 0 t cs 0 cur w hg (by simpa using hfit) h1
  simp only [Nat.zero_add, List.take_zero, List.nil_append] at hst
  cases hq : P.info? elem with
  | none => simp [hq] at hs
  | some i =>
    have hi : i.size = sz := by simpa [hq] using hs
    simp [Builtin.copy_, run_underlying hu, Builtin.lenOf, Builtin.firstCells, sizeOf, typeInfo, hq, hi, ← hn, hl, hst]
theorem run_copy_nilN {P : Program} (w : World) (dT sT ty elem : TypeId) (a : Addr) (dLen dCap : Nat) (hu : P.underlying dT = some (.slice elem)) (hs : ((P.info? elem).map (·.size)).isSome = true) :
    (Builtin.copy_ #[dT, sT] ty #[.slice (some a) dLen dCap, .slice none 0 0]).run P w = .ok (goInt 0) w := run_copy_nil P w dT sT ty elem a dLen dCap hu hs
theorem evs_len (l : List Ev) : (evs l).length = l.length * 5 := by unfold evs; rw [flatMap_len _ 5 Ev.len]
theorem evs_one (l : List Ev) : ∀ u ∈ evs l, u.oneCell' = true := by
  intro u hu
  unfold evs at hu
  obtain ⟨e, _, he⟩ := List.mem_flatMap.1 hu
  exact Ev.one e u he
theorem copy_evs (w : World) (g : Nat) (l : List Ev) (a : Option Addr) (c : Nat) (z : List Value) (h : Row w 37 5 a l.length c (evs l)) (hz : w.ownsRow 0 37 5 (.slice (some ⟨g, 0, none⟩) l.length l.length) l.length z) :
    ∃ w', (Builtin.copy_ #[32, 32] 3 #[.slice (some ⟨g, 0, none⟩) l.length l.length, .slice a l.length c]).run Tryd.prog w = .ok (goInt l.length) w' ∧ Row w' 37 5 (some ⟨g, 0, none⟩) l.length l.length (evs l) ∧ Kept (fun k => k = g) w w' := by
  obtain ⟨j0, hj0, hy0, hy1, hy2⟩ := info_parts Tryd.infoEv
  have hsz : (Tryd.prog.info? 37).map (·.size) = some 5 := by rw [hj0]; simp [hy1]
  rcases hz.2 with ⟨e, _⟩ | ⟨g', cap, cur, hv, _, hh, h3, h4, h5, h6⟩
  · simp at e
  · simp only [Value.slice.injEq, Option.some.injEq, Addr.mk.injEq, and_true, true_and] at hv
    obtain ⟨rfl, rfl⟩ := hv
    have hzl := hz.1
    rcases h.2 with ⟨e, h0⟩ | ⟨ga, cap', cur', hv', _, hh', h3', h4', h5', h6'⟩
    · simp only [Value.slice.injEq] at e
      obtain ⟨rfl, _, rfl⟩ := e
      have hl0 : l = [] := List.length_eq_zero_iff.1 h0
      subst hl0
      refine ⟨w, run_copy_nilN w _ _ _ _ _ _ _ Tryd.underlying32 (by rw [hsz]; rfl), ⟨rfl, Or.inr ⟨g, _, cur, rfl, Nat.zero_le _, hh, Nat.le_refl _, h4, h5, by simp [evs]⟩⟩, Kept.refl _ _⟩
    · simp only [Value.slice.injEq] at hv'
      obtain ⟨rfl, _, rfl⟩ := hv'
      have hcell : ∀ j v, (evs l)[j]? = some v → w.cell? ((⟨ga, 0, none⟩ : Addr).add j) = some v := by
        intro j v hj
        have hlt : j < l.length * 5 := by have := (List.getElem?_eq_some_iff.1 hj).1; rw [evs_len] at this; exact this
        have hz : (⟨ga, 0, none⟩ : Addr).add j = ⟨ga, j, none⟩ := by simp [Addr.add]; intro h; exact h.symm
        rw [hz]
        obtain ⟨g2, hg2, _, _, hc2, _⟩ := h.form (by omega)
        simp only [Option.some.injEq, Addr.mk.injEq, and_true] at hg2
        subst hg2
        rw [hc2 j hlt]; exact hj
      have hcs : cur.size = (evs l).length := by rw [h5, evs_len]
      have hrun := run_copy_rowN (P := Tryd.prog) w 32 32 3 37 g l.length l.length ⟨ga, 0, none⟩ l.length c 5 cur 37 (evs l) Tryd.underlying32 hsz hh (by rw [evs_len]; simp [Nat.min_def]) hcell (by omega) (evs_one l)
      have hd : cur.toList.drop (evs l).length = [] := List.drop_eq_nil_of_le (by rw [Array.length_toList]; omega)
      rw [hd, List.append_nil, show Nat.min l.length l.length = l.length by simp [Nat.min_def]] at hrun
      refine ⟨_, hrun, ⟨h.1, Or.inr ⟨g, _, _, rfl, Nat.zero_le _, setRow_heap w g cur _ _ _ hh, Nat.le_refl _, h4, by rw [List.size_toArray, evs_len], ?_⟩⟩, ⟨rfl, rfl, rfl, by simp [World.setRow], fun k _ hk => setRow_other w g k _ hk⟩⟩
      rw [List.take_of_length_le (by show (evs l).length ≤ _; rw [evs_len]; exact Nat.le_refl _)]

/-! ### sorting by neighbours -/
def SrtTo (M : List Ev) (i : Nat) : Prop := ∀ (a b : Nat) (x y : Ev), a < b → b < i → M[a]? = some x → M[b]? = some y → aheadB x y = true
def SrtIn (M : List Ev) (i k : Nat) : Prop := ∀ (a b : Nat) (x y : Ev), a < b → b ≤ i → b ≠ k → M[a]? = some x → M[b]? = some y → aheadB x y = true
theorem srtIn_start {M : List Ev} {i : Nat} (h : SrtTo M i) : SrtIn M i i := fun a b x y h1 h2 h3 hx hy => h a b x y h1 (by omega) hx hy
theorem srtIn_zero {M : List Ev} {i : Nat} (h : SrtIn M i 0) : SrtTo M (i + 1) := fun a b x y h1 h2 hx hy => h a b x y h1 (by omega) (by omega) hx hy
theorem srtIn_stop {M : List Ev} {i k : Nat} {p q : Ev} (h : SrtIn M i (k + 1)) (hp : M[k]? = some p) (hq : M[k + 1]? = some q) (ha : aheadB p q = true) : SrtTo M (i + 1) := by
  intro a b x y h1 h2 hx hy
  by_cases hb : b = k + 1
  · subst hb
    rw [hq] at hy
    cases hy
    by_cases hak : a = k
    · subst hak; rw [hp] at hx; cases hx; exact ha
    · exact ahead_trans (h a k x p (by omega) (by omega) (by omega) hx hp) ha
  · exact h a b x y h1 (by omega) hb hx hy
theorem srtIn_swap {M : List Ev} {i k : Nat} {p q : Ev} (h : SrtIn M i (k + 1)) (hp : M[k]? = some p) (hq : M[k + 1]? = some q) (ha : aheadB q p = true) (hki : k + 1 ≤ i) : SrtIn ((M.set (k + 1) p).set k q) i k := by
  have hk1 : k + 1 < M.length := get_lt hq
  have hg : ∀ a, ((M.set (k + 1) p).set k q)[a]? = if a = k then some q else if a = k + 1 then some p else M[a]? := by
    intro a
    rw [List.getElem?_set, List.getElem?_set]
    by_cases h1 : k = a
    · subst h1; simp [show k < M.length by omega]
    · rw [if_neg h1, if_neg (Ne.symm h1)]
      by_cases h2 : k + 1 = a
      · subst h2; simp [hk1]
      · rw [if_neg h2, if_neg (Ne.symm h2)]
  intro a b x y h1 h2 h3 hx hy
  rw [hg] at hx hy
  rw [if_neg h3] at hy
  by_cases ha1 : a = k
  · rw [if_pos ha1] at hx
    cases hx
    by_cases hb1 : b = k + 1
    · rw [if_pos hb1] at hy; cases hy; exact ha
    · rw [if_neg hb1] at hy
      exact h (k + 1) b q y (by omega) h2 hb1 hq hy
  · rw [if_neg ha1] at hx
    by_cases ha2 : a = k + 1
    · rw [if_pos ha2] at hx
      cases hx
      rw [if_neg (by omega)] at hy
      exact h k b p y (by omega) h2 (by omega) hp hy
    · rw [if_neg ha2] at hx
      by_cases hb1 : b = k + 1
      · rw [if_pos hb1] at hy
        cases hy
        exact h a k x p (by omega) (by omega) (by omega) hx hp
      · rw [if_neg hb1] at hy
        exact h a b x y h1 h2 hb1 hx hy
theorem swap_perm {M : List Ev} {k : Nat} {p q : Ev} (hp : M[k]? = some p) (hq : M[k + 1]? = some q) : ((M.set (k + 1) p).set k q).Perm M := by
  have h1 := get_lt hp
  have h2 := get_lt hq
  have e1 : M[k] = p := by have := List.getElem?_eq_getElem h1; rw [hp] at this; exact (Option.some.inj this).symm
  have e2 : M[k + 1] = q := by have := List.getElem?_eq_getElem h2; rw [hq] at this; exact (Option.some.inj this).symm
  have := List.set_set_perm h2 h1
  rw [e1, e2] at this
  exact this
theorem srt_of_to {M : List Ev} (h : SrtTo M M.length) : Srt M := by
  unfold Srt
  rw [List.pairwise_iff_getElem]
  intro a b ha hb hab
  exact h a b _ _ hab hb (List.getElem?_eq_getElem ha) (List.getElem?_eq_getElem hb)
theorem apart_perm {M l : List Ev} (h : M.Perm l) (hl : l.Pairwise Apart2) {a b : Nat} {x y : Ev} (hx : M[a]? = some x) (hy : M[b]? = some y) (hab : a < b) : Apart2 x y := by
  have hM : M.Pairwise Apart2 := h.symm.pairwise hl (fun hab => by unfold Apart2 at *; exact fun hh => hab ⟨hh.1.symm, hh.2.symm⟩)
  have := List.pairwise_iff_getElem.1 hM a b (get_lt hx) (get_lt hy) hab
  rw [show M[a]'(get_lt hx) = x from (Option.some.inj ((List.getElem?_eq_getElem (get_lt hx)).symm.trans hx)), show M[b]'(get_lt hy) = y from (Option.some.inj ((List.getElem?_eq_getElem (get_lt hy)).symm.trans hy))] at this
  exact this
end Go.Proofs.YtghcololkgeoeaaDoor
namespace Go.Proofs.YtghcololkgeoeaaDoor
open Go.RowKit
set_option linter.unusedVariables false
set_option linter.unusedSimpArgs false
attribute [local go_sem ↓] Go.wp_at_zero Go.wp_at_succ

theorem row_cells5 {w : World} {t : TypeId} {g n c : Nat} {M : List Ev} (h : Row w t 5 (some ⟨g, 0, none⟩) n c (evs M)) (hn : M.length = n) (k : Nat) (E : Ev) (hk : M[k]? = some E) :
    g < w.heap.size ∧ w.cell? ⟨g, k * 5, none⟩ = some (.int .i64 E.src) ∧ w.cell? ⟨g, k * 5 + 1, none⟩ = some (.int .i64 E.seq) ∧ w.cell? ⟨g, k * 5 + 2, none⟩ = some (.int .i64 E.ts) ∧ w.cell? ⟨g, k * 5 + 3, none⟩ = some (.int .i64 E.kind) ∧ w.cell? ⟨g, k * 5 + 4, none⟩ = some (.int .i64 E.val) ∧ (∀ o, w.frozen? ⟨g, o, none⟩ = false) := by
  subst hn
  have hlt := get_lt hk
  obtain ⟨g', hg, _, x0, x1, x2, x3, x4⟩ := evRow_cells h k hlt
  simp only [Option.some.injEq, Addr.mk.injEq, and_true] at hg
  subst hg
  have e : M[k] = E := by have := List.getElem?_eq_getElem hlt; rw [hk] at this; exact (Option.some.inj this).symm
  rw [e] at x0 x1 x2 x3 x4
  obtain ⟨g', hg', _, _, _, hf⟩ := h.form (by omega)
  simp only [Option.some.injEq, Addr.mk.injEq, and_true] at hg'
  subst hg'
  exact ⟨h.lt rfl, x0, x1, x2, x3, x4, hf⟩
/-- what a round of sorting keeps -/
structure Sg (w wr : World) (g : Nat) (l M : List Ev) : Prop where
  perm : M.Perm l
  row : Row wr 37 5 (some ⟨g, 0, none⟩) l.length l.length (evs M)
  bel : Below w.heap.size w wr
  new : w.heap.size ≤ g
theorem Sg.below {w wr w' : World} {g : Nat} {l M : List Ev} (h : Sg w wr g l M) (hb : Below wr.heap.size wr w') : Sg w w' g l M :=
  ⟨h.perm, h.row.kept (below_kept hb (fun _ => False)) (fun _ _ e => e), h.bel.trans (hb.mono h.bel.size), h.new⟩
theorem Sg.swap {w wr : World} {g k : Nat} {l M : List Ev} {p q : Ev} (h : Sg w wr g l M) (hp : M[k]? = some p) (hq : M[k + 1]? = some q) : Sg w (setEv (setEv wr g (k + 1) p) g k q) g l ((M.set (k + 1) p).set k q) := by
  have h1 := get_lt hp
  have h2 := get_lt hq
  refine ⟨(swap_perm hp hq).trans h.perm, Row.setEv (Row.setEv h.row h2) (by simpa using h1), ?_, h.new⟩
  exact kept_toBelow h.bel (kept_setEv (kept_setEv (Kept.refl (fun j => j = g) wr) (fun _ => rfl)) (fun _ => rfl)) (fun i e => by rw [e]; exact h.new)
set_option maxRecDepth 100000 in
set_option maxHeartbeats 8000000 in
theorem sorted_any (l : List Ev) (a : Option Addr) (c : Nat) (w : World) (h : Row w 37 5 a l.length c (evs l)) (hl : l.length ≤ 1000) (hp : l.Pairwise Apart2) :
    Calls Tryd.prog 21 #[.slice a l.length c] w fun e w' => ∃ (S : List Ev) (g : Nat), e = .returned (.slice (some ⟨g, 0, none⟩) l.length l.length) ∧ Srt S ∧ Sg w w' g l S := by
  obtain ⟨j0, hj0, hy0, hy1, hy2⟩ := info_parts Tryd.infoEv
  have hmk := run_makeSlice_full (P := Tryd.prog) w w.heap.size 32 37 j0 _ 5 Tryd.underlying32 hj0 hy0 hy1 .i64 .i64 l.length (by omega) (by rw [hy2]; omega) (by unfold maxLen; omega) (Nat.le_refl _)
  obtain ⟨wm, hrun, hownm, hgm⟩ := hmk
  have hbm : Below w.heap.size w wm := (Below.refl _ w).grown hgm (Nat.le_refl _) (fun k e => by simp at e)
  obtain ⟨g, HG⟩ := hex w.heap.size
  have hz : ∃ z, wm.ownsRow 0 37 5 (.slice (some ⟨g, 0, none⟩) l.length l.length) l.length z := by
    rw [HG.out]
    exact ⟨_, hownm.1, hownm.2.imp id (fun ⟨g, cap, cur, h1, h2, h3⟩ => ⟨g, cap, cur, h1, Nat.zero_le _, h3⟩)⟩
  obtain ⟨zz, hz⟩ := hz
  obtain ⟨w2, hrun2, hrow2, hk2⟩ := copy_evs wm g l a c zz (h.kept (below_kept hbm (fun _ => False)) (fun _ _ e => e)) hz
  rw [← HG.out] at hrun
  have HS2 : Hid (Sg w w2 g l l) := ⟨List.Perm.refl _, hrow2, kept_toBelow hbm hk2 (fun i e => by rw [e, HG.out]; exact Nat.le_refl _), by rw [HG.out]; exact Nat.le_refl _⟩
  have HAp : Hid (l.Pairwise Apart2) := hp
  clear hownm hgm hz hrow2 hk2 hbm hp h
  go_enter Tryd.func21, Tryd.ntmps21
  go_upto_region 3 with fail
  clear hrun hrun2
  go_wp2
  go_loopw [4] (fun iv wr => ∃ (i : Nat) (M : List Ev), 1 ≤ i ∧ i ≤ l.length + 1 ∧ iv = .int .i64 i ∧ SrtTo M i ∧ Sg w wr g l M) (fun iv _ => l.length + 1 - (intOf iv).toNat)
  case atStart => exact ⟨1, l, Nat.le_refl _, by omega, rfl, fun a b x y h1 h2 _ _ => by omega, HS2.out⟩
  case round =>
    obtain ⟨i, M, hi1, hi2, rfl, hs, hg⟩ := hrel
    have HS : Hid (SrtTo M i) := hs
    have HGr : Hid (Sg w wr g l M) := hg
    clear hs hg HS2
    have HML : Hid (M.length = l.length) := HGr.out.perm.length_eq
    by_cases hlt : i < l.length
    · have hlt' : (i : Int) < (l.length : Int) := by omega
      obtain ⟨wo, HWo⟩ := hex wr
      rw [← HWo.out]
      rw [← HWo.out] at HGr
      clear HWo
      go_wp2
      go_loopw [5] (fun kv wx => ∃ (k : Nat) (M : List Ev), k ≤ i ∧ kv = .int .i64 k ∧ SrtIn M i k ∧ Sg w wx g l M) (fun kv _ => (intOf kv).toNat)
      case atStart => exact ⟨i, M, Nat.le_refl _, rfl, srtIn_start HS.out, HGr.out⟩
      case round =>
        obtain ⟨k, M, hki, rfl, hs, hg⟩ := hrel
        clear HS HGr HML
        have HS : Hid (SrtIn M i k) := hs
        have HGr : Hid (Sg w wr g l M) := hg
        have HML : Hid (M.length = l.length) := HGr.out.perm.length_eq
        clear hs hg
        by_cases hk0 : k = 0
        · subst hk0
          have HSo : Hid (SrtTo M (i + 1)) := srtIn_zero HS.out
          go_wp2
          go_roundw
          case rel => exact ⟨i + 1, M, by omega, by omega, by go_num, HSo.out, HGr.out⟩
          case measure => first | (simp [intOf]; done) | (simp [intOf]; omega)
        · obtain ⟨k', rfl⟩ : ∃ k', k = k' + 1 := ⟨k - 1, by omega⟩
          obtain ⟨p, hp⟩ : ∃ p, M[k']? = some p := ⟨M[k']'(by have := HML.out; omega), List.getElem?_eq_getElem _⟩
          obtain ⟨q, hq⟩ : ∃ q, M[k' + 1]? = some q := ⟨M[k' + 1]'(by have := HML.out; omega), List.getElem?_eq_getElem _⟩
          have HP : Hid (M[k']? = some p) := hp
          have HQ : Hid (M[k' + 1]? = some q) := hq
          obtain ⟨hgl, z0, z1, z2, z3, z4, _⟩ := row_cells5 HGr.out.row HML.out k' p hp
          obtain ⟨_, y0, y1, y2, y3, y4, _⟩ := row_cells5 HGr.out.row HML.out (k' + 1) q hq
          clear hp hq
          obtain ⟨k, HKk⟩ := hex (k' + 1)
          rw [← HKk.out] at y0 y1 y2 y3 y4 hki HS HQ hk0
          have hkc : ((k' : Int) + 1) = (k : Int) := by have := HKk.out; omega
          have hbf : ∀ u, Calls Tryd.prog 17 #[.agg #[.int .i64 q.src, .int .i64 q.seq, .int .i64 q.ts, .int .i64 q.kind, .int .i64 q.val], .agg #[.int .i64 p.src, .int .i64 p.seq, .int .i64 p.ts, .int .i64 p.kind, .int .i64 p.val]] u fun e w' => e = .returned (.bool (beforeB q p)) ∧ Below u.heap.size u w' := fun u => before_any q p u
          have e1 : (0 : Int) < (k : Int) := by omega
          have hk1 : IntKind.i64.wrap ((k : Int) - 1) = (k' : Int) := by rw [IntKind.wrap_i64]; have := HKk.out; omega
          have hk1' : (k : Int) - 1 = (k' : Int) := by have := HKk.out; omega
          have hwk' : IntKind.i64.wrap (k' : Int) = (k' : Int) := by rw [IntKind.wrap_i64]; have := HKk.out; omega
          have hkl : (k : Int) < (l.length : Int) := by omega
          have hk00 : (0 : Int) ≤ (k : Int) := by omega
          have hkl2 : (k' : Int) < (l.length : Int) := by have := HKk.out; omega
          have hk02 : (0 : Int) ≤ (k' : Int) := by omega
          have e1c : (0 : Int) < ((k' : Int) + 1) := by omega
          try rw [hkc]
          go_upto_region 9 with fail
          try rw [hkc]
          refine upTo_region (fun u : World => u.cell? ⟨g, k' * 5, none⟩ = some (.int .i64 p.src) ∧ u.cell? ⟨g, k' * 5 + 1, none⟩ = some (.int .i64 p.seq) ∧ u.cell? ⟨g, k' * 5 + 2, none⟩ = some (.int .i64 p.ts) ∧ u.cell? ⟨g, k' * 5 + 3, none⟩ = some (.int .i64 p.kind) ∧ u.cell? ⟨g, k' * 5 + 4, none⟩ = some (.int .i64 p.val) ∧ u.cell? ⟨g, k * 5, none⟩ = some (.int .i64 q.src) ∧ u.cell? ⟨g, k * 5 + 1, none⟩ = some (.int .i64 q.seq) ∧ u.cell? ⟨g, k * 5 + 2, none⟩ = some (.int .i64 q.ts) ∧ u.cell? ⟨g, k * 5 + 3, none⟩ = some (.int .i64 q.kind) ∧ u.cell? ⟨g, k * 5 + 4, none⟩ = some (.int .i64 q.val)) 11 11 rfl (by kernel_rfl) ?_
          have hS0 : (fun u : World => u.cell? ⟨g, k' * 5, none⟩ = some (.int .i64 p.src) ∧ u.cell? ⟨g, k' * 5 + 1, none⟩ = some (.int .i64 p.seq) ∧ u.cell? ⟨g, k' * 5 + 2, none⟩ = some (.int .i64 p.ts) ∧ u.cell? ⟨g, k' * 5 + 3, none⟩ = some (.int .i64 p.kind) ∧ u.cell? ⟨g, k' * 5 + 4, none⟩ = some (.int .i64 p.val) ∧ u.cell? ⟨g, k * 5, none⟩ = some (.int .i64 q.src) ∧ u.cell? ⟨g, k * 5 + 1, none⟩ = some (.int .i64 q.seq) ∧ u.cell? ⟨g, k * 5 + 2, none⟩ = some (.int .i64 q.ts) ∧ u.cell? ⟨g, k * 5 + 3, none⟩ = some (.int .i64 q.kind) ∧ u.cell? ⟨g, k * 5 + 4, none⟩ = some (.int .i64 q.val)) wr.drew := ⟨z0, z1, z2, z3, z4, y0, y1, y2, y3, y4⟩
          refine upTo_take2 (i := 0) (v := ?v40_0) rfl (by kernel_rfl) (by kernel_rfl) (by kernel_rfl) rfl (fun _ _ _ h => h) (by rfl) hS0 ?hy40_0 ?rest40_0
          case hy40_0 => (intro u hu; (try dsimp only at hu); go_simp; first | done | with_reducible rfl)
          (try simp only [Act.put, List.setIfInBounds_toArray, List.set_cons_zero, List.set_cons_succ, List.getElem_toArray, List.getElem_cons_succ, List.getElem_cons_zero])
          refine upTo_take2 (i := 1) (v := ?v40_1) rfl (by kernel_rfl) (by kernel_rfl) (by kernel_rfl) rfl (fun _ _ _ h => h) (by rfl) hS0 ?hy40_1 ?rest40_1
          case hy40_1 => (intro u hu; (try dsimp only at hu); go_simp; first | done | with_reducible rfl)
          (try simp only [Act.put, List.setIfInBounds_toArray, List.set_cons_zero, List.set_cons_succ, List.getElem_toArray, List.getElem_cons_succ, List.getElem_cons_zero])
          refine upTo_take2 (i := 2) (v := ?v40_2) rfl (by kernel_rfl) (by kernel_rfl) (by kernel_rfl) rfl (fun _ _ _ h => h) (by rfl) hS0 ?hy40_2 ?rest40_2
          case hy40_2 => (intro u hu; (try dsimp only at hu); go_simp; first | done | with_reducible rfl)
          (try simp only [Act.put, List.setIfInBounds_toArray, List.set_cons_zero, List.set_cons_succ, List.getElem_toArray, List.getElem_cons_succ, List.getElem_cons_zero])
          refine upTo_take2 (i := 3) (v := ?v40_3) rfl (by kernel_rfl) (by kernel_rfl) (by kernel_rfl) rfl (fun _ _ _ h => h) (by rfl) hS0 ?hy40_3 ?rest40_3
          case hy40_3 => (intro u hu; (try dsimp only at hu); go_simp; first | done | with_reducible rfl)
          (try simp only [Act.put, List.setIfInBounds_toArray, List.set_cons_zero, List.set_cons_succ, List.getElem_toArray, List.getElem_cons_succ, List.getElem_cons_zero])
          refine upTo_take2 (i := 4) (v := ?v40_4) rfl (by kernel_rfl) (by kernel_rfl) (by kernel_rfl) rfl (fun _ _ _ h => h) (by rfl) hS0 ?hy40_4 ?rest40_4
          case hy40_4 => (intro u hu; (try dsimp only at hu); go_simp; first | done | with_reducible rfl)
          (try simp only [Act.put, List.setIfInBounds_toArray, List.set_cons_zero, List.set_cons_succ, List.getElem_toArray, List.getElem_cons_succ, List.getElem_cons_zero])
          refine upTo_take2 (i := 5) (v := ?v40_5) rfl (by kernel_rfl) (by kernel_rfl) (by kernel_rfl) rfl (fun _ _ _ h => h) (by rfl) hS0 ?hy40_5 ?rest40_5
          case hy40_5 => (intro u hu; (try dsimp only at hu); go_simp; first | done | with_reducible rfl)
          (try simp only [Act.put, List.setIfInBounds_toArray, List.set_cons_zero, List.set_cons_succ, List.getElem_toArray, List.getElem_cons_succ, List.getElem_cons_zero])
          refine upTo_take2 (i := 6) (v := ?v40_6) rfl (by kernel_rfl) (by kernel_rfl) (by kernel_rfl) rfl (fun _ _ _ h => h) (by rfl) hS0 ?hy40_6 ?rest40_6
          case hy40_6 => (intro u hu; (try dsimp only at hu); go_simp; first | done | with_reducible rfl)
          (try simp only [Act.put, List.setIfInBounds_toArray, List.set_cons_zero, List.set_cons_succ, List.getElem_toArray, List.getElem_cons_succ, List.getElem_cons_zero])
          refine upTo_take2 (i := 7) (v := ?v40_7) rfl (by kernel_rfl) (by kernel_rfl) (by kernel_rfl) rfl (fun _ _ _ h => h) (by rfl) hS0 ?hy40_7 ?rest40_7
          case hy40_7 => (intro u hu; (try dsimp only at hu); go_simp; first | done | with_reducible rfl)
          (try simp only [Act.put, List.setIfInBounds_toArray, List.set_cons_zero, List.set_cons_succ, List.getElem_toArray, List.getElem_cons_succ, List.getElem_cons_zero])
          refine upTo_take2 (i := 8) (v := ?v40_8) rfl (by kernel_rfl) (by kernel_rfl) (by kernel_rfl) rfl (fun _ _ _ h => h) (by rfl) hS0 ?hy40_8 ?rest40_8
          case hy40_8 => (intro u hu; (try dsimp only at hu); go_simp; first | done | with_reducible rfl)
          (try simp only [Act.put, List.setIfInBounds_toArray, List.set_cons_zero, List.set_cons_succ, List.getElem_toArray, List.getElem_cons_succ, List.getElem_cons_zero])
          clear hS0
          refine upTo_one (i := 9) (by kernel_rfl) rfl (fun K hK => ?_)
          go_simp
          refine (hbf _).mono ?_
          rintro e w8 ⟨rfl, hb8⟩
          have HB8 : Hid (Below wr.heap.size wr w8) := ⟨hb8.os, hb8.tape, hb8.output, hb8.size, hb8.block⟩
          have hcx : ∀ o, w8.cell? ⟨g, o, none⟩ = wr.cell? ⟨g, o, none⟩ := fun o => HB8.out.cell (p := ⟨g, o, none⟩) hgl
          clear hb8
          refine hK.out _ _ (fun _ => ⟨(hcx _).trans z0, (hcx _).trans z1, (hcx _).trans z2, (hcx _).trans z3, (hcx _).trans z4, (hcx _).trans y0, (hcx _).trans y1, (hcx _).trans y2, (hcx _).trans y3, (hcx _).trans y4⟩) ?_
          clear hK K
          (try simp only [Act.put, List.setIfInBounds_toArray, List.set_cons_zero, List.set_cons_succ, List.getElem_toArray, List.getElem_cons_succ, List.getElem_cons_zero])
          refine upTo_one (i := 10) (by kernel_rfl) rfl (fun K hK => ?_)
          go_simp
          refine hK.out _ _ (fun _ => ⟨(hcx _).trans z0, (hcx _).trans z1, (hcx _).trans z2, (hcx _).trans z3, (hcx _).trans z4, (hcx _).trans y0, (hcx _).trans y1, (hcx _).trans y2, (hcx _).trans y3, (hcx _).trans y4⟩) ?_
          clear hK K
          (try simp only [Act.put, List.setIfInBounds_toArray, List.set_cons_zero, List.set_cons_succ, List.getElem_toArray, List.getElem_cons_succ, List.getElem_cons_zero])
          refine upTo_done (by kernel_rfl) ?_
          have HG8 : Hid (Sg w w8 g l M) := HGr.out.below HB8.out
          clear z0 z1 z2 z3 z4 y0 y1 y2 y3 y4 hcx HGr HB8 hbf hgl
          cases hbb : beforeB q p with
          | false =>
            have HSo : Hid (SrtTo M (i + 1)) := by
              have h1 : aheadB p q = true := by
                rcases ahead_total (apart_perm HG8.out.perm HAp.out HP.out (HKk.out ▸ HQ.out : M[k' + 1]? = some q) (by omega)) with h | h
                · exact h
                · rw [before_ahead, h] at hbb; cases hbb
              exact srtIn_stop (k := k') (HKk.out ▸ HS.out) HP.out (HKk.out ▸ HQ.out) h1
            clear hbb
            go_wp2
            go_roundw
            case rel => exact ⟨i + 1, M, by omega, by omega, by go_num, HSo.out, HG8.out⟩
            case measure => first | (simp [intOf]; done) | (simp [intOf]; omega)
          | true =>
            have HSo : Hid (SrtIn ((M.set (k' + 1) p).set k' q) i k') := srtIn_swap (HKk.out ▸ HS.out) HP.out (HKk.out ▸ HQ.out) (by rw [← before_ahead]; exact hbb) (by have := HKk.out; omega)
            clear hbb
            obtain ⟨hgl, y0, y1, y2, y3, y4, _⟩ := row_cells5 HG8.out.row HML.out k q HQ.out
            go_upto_region 12 with fail
            obtain ⟨wv, HWv⟩ := hex (w8.alloc (.cells q.vals.toArray 37))
            obtain ⟨eb, HEb⟩ := hex w8.heap.size
            have hwv : w8.alloc (.cells #[.int .i64 q.src, .int .i64 q.seq, .int .i64 q.ts, .int .i64 q.kind, .int .i64 q.val] 37) = wv := HWv.out.symm
            have HGv : Hid (Sg w wv g l M) := by show Sg _ _ _ _ _; rw [HWv.out]; exact HG8.out.below ((Below.refl _ _).alloc (Nat.le_refl _) _)
            have HEv : Hid (Blk wv eb 37 q.vals) := by show Blk _ _ _ _; rw [HWv.out, HEb.out]; exact blk_alloc _ _ _
            have HNe : Hid (g ≠ eb) := by show _ ≠ _; have := HEb.out; omega
            rw [hwv, ← HEb.out]
            clear hwv HWv HEb y0 y1 y2 y3 y4 hgl HG8
            obtain ⟨hgl, z0, z1, z2, z3, z4, hfz⟩ := row_cells5 HGv.out.row HML.out k' p HP.out
            obtain ⟨_, y0, y1, y2, y3, y4, _⟩ := row_cells5 HGv.out.row HML.out k q HQ.out
            have f0 := hfz (k * 5)
            have f1 := hfz (k * 5 + 1)
            have f2 := hfz (k * 5 + 2)
            have f3 := hfz (k * 5 + 3)
            have f4 := hfz (k * 5 + 4)
            clear hfz
            go_upto_region 13 with fail
            have HRv : Hid (Row (setEv wv g k p) 37 5 (some ⟨g, 0, none⟩) l.length l.length (evs (M.set k p))) := Row.setEv HGv.out.row (get_lt HQ.out)
            have HEw : Hid (Blk (setEv wv g k p) eb 37 q.vals) := HEv.out.kept (kept_setEv (Kept.refl (fun j => j = g) wv) (fun _ => rfl)) (fun e => HNe.out e.symm)
            have HFin : Hid (Sg w (setEv (setEv wv g k p) g k' q) g l ((M.set (k' + 1) p).set k' q)) := by
              show Sg _ _ _ _ _
              rw [HKk.out]
              exact HGv.out.swap HP.out (HKk.out ▸ HQ.out)
            have hch : ((((wv.setCell ⟨g, k * 5, none⟩ (.int .i64 p.src)).setCell ⟨g, k * 5 + 1, none⟩ (.int .i64 p.seq)).setCell ⟨g, k * 5 + 2, none⟩ (.int .i64 p.ts)).setCell ⟨g, k * 5 + 3, none⟩ (.int .i64 p.kind)).setCell ⟨g, k * 5 + 4, none⟩ (.int .i64 p.val) = setEv wv g k p := rfl
            rw [hch]
            clear hch z0 z1 z2 z3 z4 y0 y1 y2 y3 y4 f0 f1 f2 f3 f4
            generalize setEv wv g k p = wu at *
            have hMl : (M.set k p).length = l.length := by rw [List.length_set]; exact HML.out
            have hMk : (M.set k p)[k']? = some p := by rw [List.getElem?_set, if_neg (by have := HKk.out; omega)]; exact HP.out
            obtain ⟨_, z0, z1, z2, z3, z4, hfz⟩ := row_cells5 HRv.out hMl k' p hMk
            have f0 := hfz (k' * 5)
            have f1 := hfz (k' * 5 + 1)
            have f2 := hfz (k' * 5 + 2)
            have f3 := hfz (k' * 5 + 3)
            have f4 := hfz (k' * 5 + 4)
            have m0 := HEw.out.cell 0
            have m1 := HEw.out.cell 1
            have m2 := HEw.out.cell 2
            have m3 := HEw.out.cell 3
            have m4 := HEw.out.cell 4
            simp only [Ev.vals, List.getElem?_cons_zero, List.getElem?_cons_succ] at m0 m1 m2 m3 m4
            clear hfz hMk hMl
            go_wp2
            go_roundw
            case rel => exact ⟨k', _, by have := HKk.out; omega, by first | rfl | go_num, HSo.out, HFin.out⟩
            case measure => first | (simp [intOf]; done) | (simp [intOf]; omega)
    · have hnl : ¬ (i : Int) < (l.length : Int) := by omega
      have HSo : Hid (Srt M) := srt_of_to (fun a b x y h1 h2 hx hy => HS.out a b x y h1 (by have := HML.out; omega) hx hy)
      go_wp2
      go_ret
      exact ⟨M, g, rfl, HSo.out, HGr.out⟩
end Go.Proofs.YtghcololkgeoeaaDoor
namespace Go.Proofs.YtghcololkgeoeaaDoor
open Go.RowKit
set_option linter.unusedVariables false
set_option linter.unusedSimpArgs false
attribute [local go_sem ↓] Go.wp_at_zero Go.wp_at_succ

set_option maxRecDepth 100000 in
set_option maxHeartbeats 4000000 in
theorem left_gen (b n : Nat) (c : Cfg) (X : Eng) (w : World) (h : MemX w b X) (hn : c.sources = n) (h6 : n ≤ 6) (Inv : Nat → Eng → Prop) (h0 : Inv 0 X) (hs : ∀ s Y, Inv s Y → SaneX Y ∧ Y.srcs.length = n)
    (hin : ∀ s Y (hl : s < Y.srcs.length), Inv s Y → Y.srcs[s].inn = false → Inv (s + 1) Y)
    (hjo : ∀ s Y (hl : s < Y.srcs.length), Inv s Y → Y.srcs[s].inn = true → ∀ Y', PlX (Y.gone s Y.srcs[s]) Y' → Inv (s + 1) Y') :
    Calls Tryd.prog 20 #[.pointer (some ⟨b, 0, none⟩), .agg #[.int .i64 c.sources, .int .i64 c.slack, .int .i64 c.policy, .int .i64 c.room, .int .i64 c.idle, .string c.pat]] w fun e w' => e = .returned (.bool true) ∧ ∃ Y, Inv n Y ∧ EvoX w b X w' Y := by
  obtain ⟨w1, HW1⟩ := hex (w.alloc (.cells c.vals.toArray 26))
  obtain ⟨cb, HCb⟩ := hex w.heap.size
  have HC1 : Hid (Blk w1 cb 26 c.vals) := by show Blk _ _ _ _; rw [HW1.out, HCb.out]; exact blk_alloc _ _ _
  have HE1 : Hid (EvoX w b X w1 X) := by show EvoX _ _ _ _ _; rw [HW1.out]; exact EvoX.below h ((Below.refl _ _).alloc (Nat.le_refl _) _)
  have HNc : Hid (¬ some cb ∈ X.fp b) := fun e => by have := h.fp_lt _ e; have := HCb.out; omega
  have HI0 : Hid (Inv 0 X) := h0
  have HIs : Hid (∀ s Y, Inv s Y → SaneX Y ∧ Y.srcs.length = n) := hs
  have HIi : Hid (∀ s Y (hl : s < Y.srcs.length), Inv s Y → Y.srcs[s].inn = false → Inv (s + 1) Y) := hin
  have HIj : Hid (∀ s Y (hl : s < Y.srcs.length), Inv s Y → Y.srcs[s].inn = true → ∀ Y', PlX (Y.gone s Y.srcs[s]) Y' → Inv (s + 1) Y') := hjo
  have HN : Hid (c.sources = n) := hn
  clear h h0 hs hin hjo hn
  have hw1 : w.alloc (.cells #[.int .i64 c.sources, .int .i64 c.slack, .int .i64 c.policy, .int .i64 c.room, .int .i64 c.idle, .string c.pat] 26) = w1 := HW1.out.symm
  go_enter Tryd.func20, Tryd.ntmps20
  go_upto_region 1 with fail
  rw [← HCb.out]
  clear hw1 HW1 HCb
  go_wp2
  go_loopw [5] (fun sv wr => ∃ (s : Nat) (Y : Eng), s ≤ n ∧ sv = .int .i64 s ∧ Inv s Y ∧ EvoX w1 b X wr Y) (fun sv _ => n - (intOf sv).toNat)
  case atStart => exact ⟨0, X, Nat.zero_le _, rfl, HI0.out, EvoX.refl HE1.out.mem⟩
  case round =>
    obtain ⟨s, Y, hsn, rfl, hI, hE⟩ := hrel
    have HI : Hid (Inv s Y) := hI
    have HE : Hid (EvoX w1 b X wr Y) := hE
    clear hI hE
    have HCr : Hid (Blk wr cb 26 c.vals) := HC1.out.kept HE.out.kept HNc.out
    have c0 := HCr.out.cell 0
    simp only [Cfg.vals, List.getElem?_cons_zero, HN.out] at c0
    by_cases hlt : s < n
    · have hlt' : (s : Int) < (n : Int) := by omega
      have hl : s < Y.srcs.length := by rw [(HIs.out s Y HI.out).2]; exact hlt
      have hso : ∀ u, MemX u b Y → Calls Tryd.prog 28 #[.pointer (some ⟨b, 0, none⟩), .int .i64 s] u fun e w' => e = .returned (.tuple #[.agg #[.bool Y.srcs[s].inn, .bool Y.srcs[s].idle, .int .i64 Y.srcs[s].mark, .int .i64 (Y.waitOf s), .int .i64 Y.srcs[s].last], .int .i64 0]) ∧ Below u.heap.size u w' := fun u hu => by
        have ht : Y.tell s = ⟨Y.srcs[s].inn, Y.srcs[s].idle, Y.srcs[s].mark, Y.waitOf s, Y.srcs[s].last, 0⟩ := by
          unfold Eng.tell
          rw [if_neg (by omega), show (s : Int).toNat = s by omega, List.getElem?_eq_getElem hl]
        have := xsource_any b Y s (HIs.out s Y HI.out).1 u hu
        rw [ht] at this
        exact this
      cases hinn : Y.srcs[s].inn with
      | false =>
        rw [hinn] at hso
        have HI2 : Hid (Inv (s + 1) Y) := HIi.out s Y hl HI.out hinn
        clear hinn
        go_wp2_with (go_at_call 28; refine (hso _ HE.out.mem).mono ?_; rintro e w2 ⟨rfl, hb2⟩)
        go_roundw
        case rel => exact ⟨s + 1, Y, by omega, by go_num, HI2.out, HE.out.belowE (hb2.alloc hb2.size _)⟩
        case measure => simp [intOf]; omega
      | true =>
        rw [hinn] at hso
        have HI2 : Hid (∀ Y', PlX (Y.gone s Y.srcs[s]) Y' → Inv (s + 1) Y') := HIj.out s Y hl HI.out hinn
        have hjn : ∀ u, MemX u b Y → Calls Tryd.prog 29 #[.pointer (some ⟨b, 0, none⟩), .int .i64 s] u fun e w' => e = .returned (.int .i64 0) ∧ EvoP u b Y w' (Y.gone s Y.srcs[s]) := fun u hu => xleave_ok b Y s u hu (HIs.out s Y HI.out).1 hl hinn
        clear hinn
        go_wp2_with (first
          | (go_at_call 28; refine (hso _ HE.out.mem).mono ?_; rintro e w2 ⟨rfl, hb2⟩)
          | (go_at_call 29; refine (hjn _ ((HE.out.mem.below hb2).alloc _)).mono ?_; rintro e w3 ⟨rfl, hev⟩))
        go_roundw
        case rel =>
          obtain ⟨Y', hpl, hev⟩ := evoP_pl hev
          exact ⟨s + 1, Y', by omega, by go_num, HI2.out Y' hpl, (HE.out.belowE (hb2.alloc hb2.size _)).trans hev⟩
        case measure => simp [intOf]; omega
    · obtain rfl : s = n := by omega
      go_wp2
      go_ret
      exact ⟨rfl, Y, HI.out, HE1.out.trans HE.out⟩

/-! ### what the ledger's engine keeps -/
theorem Kp.step {n : Nat} {c : Cfg} {X X' : Eng} {G : LG} {R R' : Ref} {N : Nat} (h : Kp n c X G R) (hk : Keeps R R') (hl : Like N X' R') (hg : Grow X X') : Kp n c X' G R' := by
  obtain ⟨M, hl0⟩ := h.lk
  refine ⟨⟨N, hl⟩, h.all.trans hk.all.symm, h.aside.trans hk.aside.symm, hk.stl h.stl, hg.n.trans h.n, ?_⟩
  rw [← hl.sim.c, hg.c, hl0.sim.c, h.c]
theorem kp_join {n : Nat} {c : Cfg} {X X' : Eng} {G : LG} {R : Ref} {A z : Int} (h : Kp n c X G R) (hX : JoinsX X A z X') : ∃ R', Kp n c X' G R' := by
  obtain ⟨N, hl⟩ := h.lk
  obtain ⟨z', R', hR⟩ := joinR_some R A
  exact ⟨R', h.step (joinR_keeps hR) (join_agree hl hX hR).2 (joinX_grow hX)⟩
theorem kp_leave {n : Nat} {c : Cfg} {X X' : Eng} {G : LG} {R : Ref} {A z : Int} (h : Kp n c X G R) (hX : LeavesX X A z X') : ∃ R', Kp n c X' G R' := by
  obtain ⟨N, hl⟩ := h.lk
  obtain ⟨z', R', hR⟩ := leaveR_some R A
  exact ⟨R', h.step (leaveR_keeps hR) (leave_agree hl hX hR).2 (leaveX_grow hX)⟩
theorem kp_punct {n : Nat} {c : Cfg} {X X' : Eng} {G : LG} {R : Ref} {A ts z : Int} (h : Kp n c X G R) (hX : PunctsX X A ts z X') : ∃ R', Kp n c X' G R' := by
  obtain ⟨N, hl⟩ := h.lk
  obtain ⟨z', R', hR⟩ := punctsR_some R A ts
  exact ⟨R', h.step (punctsR_keeps hR) (puncts_agree hl hX hR).2 (punctsX_grow hX)⟩
theorem kp_tick {n : Nat} {c : Cfg} {X X' : Eng} {G : LG} {R : Ref} {m z : Int} (h : Kp n c X G R) (hX : TicksX X m z X') : ∃ R', Kp n c X' G R' := by
  obtain ⟨N, hl⟩ := h.lk
  obtain ⟨z', R', hR⟩ := tickR_some R m
  exact ⟨R', h.step (tickR_keeps hR) (tick_agree hl hX hR).2 (tickX_grow hX)⟩
theorem kp_done {n : Nat} {c : Cfg} {X X' : Eng} {G : LG} {R : Ref} {A z : Int} {a : ActR} (h : Kp n c X G R) (hX : DoneX X A a z X') (h2 : pk a.d 7 ≠ 2) (h3 : pk a.d 7 ≠ 3) (h6 : pk a.d 7 ≠ 6) : ∃ R', Kp n c X' G R' := by
  rcases hX with ⟨_, hX⟩ | ⟨_, hX⟩ | ⟨e, hX⟩ | ⟨_, hX⟩ | ⟨_, hX⟩ | ⟨e, hX⟩
  · exact kp_join h hX
  · exact kp_leave h hX
  · omega
  · exact kp_punct h hX
  · exact kp_tick h hX
  · exact absurd e h6
def LG0 : LG := ⟨[], none, 0, [], none, 0⟩
theorem OneL.begin {w w1 w2 : World} {b : Nat} {bs : List (Nat × TypeId × List Value)} {X : Eng} (hM : MemX w1 b X) (hb : Below w.heap.size w w1) (hfx : ∀ k, some k ∈ X.fp b → w.heap.size ≤ k) (hbx : ∀ x ∈ bs, Blk w1 x.1 x.2.1 x.2.2) (hnx : ∀ x ∈ bs, some x.1 ∉ X.fp b) (e : w2 = w1.alloc (.cells #[.slice none 0 0, .slice none 0 0] 50)) : OneL w w2 b w1.heap.size bs X LG0 := by
  subst e
  have hal := (Below.refl w1.heap.size w1).alloc (Nat.le_refl _) (.cells #[.slice none 0 0, .slice none 0 0] 50)
  have hfp : ∀ k, some k ∈ LG0.fp w1.heap.size → k = w1.heap.size := by
    intro k hk
    simp only [LG.fp, LG0, bk, Option.map_none, List.mem_cons, List.not_mem_nil, or_false, Option.some.injEq, reduceCtorEq] at hk
    exact hk
  refine ⟨hM.below hal, ⟨?_, World.ownsRow_nil _ _ _ _, World.ownsRow_nil _ _ _ _, ?_⟩, ?_, hb.trans (hal.mono hb.size), hfx, ?_, fun x hx => (hbx x hx).below hal (hbx x hx).lt, hnx, ?_⟩
  · exact blk_alloc w1 [.slice none 0 0, .slice none 0 0] 50
  · intro i j k hi hj
    rcases i with _ | _ | _ | i <;> rcases j with _ | _ | _ | j <;> simp [LG.fp, LG0, bk] at hi hj ⊢
  · intro k hk hg
    have := hM.fp_lt k hk
    have := hfp k hg
    omega
  · intro k hk
    rw [hfp k hk]; exact hb.size
  · intro x hx hk
    have := (hbx x hx).lt
    have := hfp _ hk
    omega
theorem gone_inn {X X' : Eng} {s : Nat} {p : PSrc} (hp : X.srcs[s]? = some p) (h : PlX (X.gone s p) X') (j : Nat) (q : PSrc) (hq : X'.srcs[j]? = some q) : (j = s ∧ q.inn = false) ∨ (j ≠ s ∧ X.srcs[j]? = some q) := by
  obtain ⟨ga, gc, wa, wc, rfl⟩ := h
  have hq : (X.srcs.set s { p with inn := false, idle := false })[j]? = some q := hq
  rw [List.getElem?_set] at hq
  by_cases hj : s = j
  · rw [if_pos hj, if_pos (get_lt hp)] at hq
    simp only [Option.some.injEq] at hq
    exact Or.inl ⟨hj.symm, by rw [← hq]⟩
  · rw [if_neg hj] at hq
    exact Or.inr ⟨fun e => hj e.symm, hq⟩
theorem kp_end {n : Nat} {c : Cfg} {X : Eng} {G : LG} {R : Ref} (h : Kp n c X G R) (ho : ∀ (j : Nat) p, X.srcs[j]? = some p → p.inn = false) : X.log.Perm G.all ∧ Srt X.log ∧ X.late = G.aside ∧ G.all.Pairwise Apart2 ∧ SaneX X ∧ G.all.length ≤ 200 ∧ G.aside.length ≤ 200 := by
  obtain ⟨N, hl⟩ := h.lk
  have hw : R.wait (-1) = [] := h.stl (fun i => by
    unfold Ref.active
    cases hr : R.srcs[i]? with
    | none => rfl
    | some r =>
      have hi : i < X.srcs.length := by rw [hl.sim.n]; exact get_lt hr
      have s := hl.sim.src i _ r (List.getElem?_eq_getElem hi) hr
      have := ho i _ (List.getElem?_eq_getElem hi)
      rw [s.inn] at this
      simp [this])
  have hx : X.wait = [] := by have p := sim_wait hl.sim; rw [hw] at p; exact p.eq_nil
  have hp := hl.sim.perm
  rw [hx, List.append_nil] at hp
  exact ⟨h.all ▸ hp, hl.sim.logS, hl.sim.late.trans h.aside.symm, by rw [h.all]; exact hl.sim.ids, hl.sane, by rw [h.all]; exact hl.good.all, by rw [h.aside]; exact hl.good.aside⟩
theorem kp_new {c : Cfg} {n sg sc : Nat} {p : PatV} (hn : c.sources = n) (hok : c.ok) : Kp n c (newEng c n sg sc p) LG0 (newRef c n none 0 0) :=
  ⟨⟨0, new_like hn hok⟩, rfl, rfl, fun _ => rfl, by show (List.replicate n zP).length = n; simp, rfl⟩
end Go.Proofs.YtghcololkgeoeaaDoor
