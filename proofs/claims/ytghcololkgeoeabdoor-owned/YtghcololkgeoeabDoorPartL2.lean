import Derived.Test.YtghcololkgeoeabDoorPartL0
import Derived.Laws.CopyRow
import Derived.Test.YtghcololkgeoeabDoorPartA9
namespace Go.Proofs.YtghcololkgeoeabDoor
open Go.RowKit
set_option linter.unusedVariables false
set_option linter.unusedSimpArgs false
attribute [local go_sem ↓] Go.wp_at_zero Go.wp_at_succ

/-! ### copy of events -/
theorem run_copy_rowN {P : Program} (w : World) (dT sT ty elem : TypeId) (g dLen dCap : Nat) (a : Addr) (sLen sCap sz : Nat) (cur : Array Value) (t : TypeId) (cs : List Value)
    (hu : P.underlying dT = some (.slice elem)) (hs : (P.info? elem).map (·.size) = some sz)
    (hg : w.heap[g]? = some (.cells cur t (0, 0))) (hn : cs.length = Nat.min sLen dLen * sz)
    (hsrc : ∀ j v, cs[j]? = some v → w.cell? (a.add j) = some v) (hfit : cs.length ≤ cur.size) (h1 : ∀ v ∈ cs, v.oneCell' = true) :
    (Builtin.copy_ #[dT, sT] ty #[.slice (some ⟨g, 0, none⟩) dLen dCap, .slice (some a) sLen sCap]).run P w =
      .ok (goInt (Nat.min sLen dLen)) (w.setRow g (cs ++ cur.toList.drop cs.length).toArray) := by
  have hl := run_loadCells_list (P := P) w a cs hsrc
  have hst := run_storeCells_at P g 0 t cs 0 cur w hg (by simpa using hfit) h1
  simp only [Nat.zero_add, List.take_zero, List.nil_append] at hst
  cases hq : P.info? elem with
  | none => simp [hq] at hs
  | some i =>
    have hi : i.size = sz := by simpa [hq] using hs
    simp [Builtin.copy_, run_underlying hu, Builtin.lenOf, Builtin.firstCells, sizeOf, typeInfo, hq, hi, ← hn, hl, hst]
theorem run_copy_nilN {P : Program} (w : World) (dT sT ty elem : TypeId) (a : Addr) (dLen dCap : Nat) (hu : P.underlying dT = some (.slice elem)) (hs : ((P.info? elem).map (·.size)).isSome = true) :
    (Builtin.copy_ #[dT, sT] ty #[.slice (some a) dLen dCap, .slice none 0 0]).run P w = .ok (goInt 0) w := run_copy_nil P w dT sT ty elem a dLen dCap hu hs
theorem evs_len (l : List Ev) : (evs l).length = l.length * 5 := by unfold evs; rw [flatMap_len _ 5 Ev.len]
theorem evs_one (l : List Ev) : ∀ u ∈ evs l, u.oneCell' = true := by
  intro u hu
  unfold evs at hu
  obtain ⟨e, _, he⟩ := List.mem_flatMap.1 hu
  exact Ev.one e u he
theorem copy_evs (w : World) (g : Nat) (l : List Ev) (a : Option Addr) (c : Nat) (z : List Value) (h : Row w 37 5 a l.length c (evs l)) (hz : w.ownsRow 0 37 5 (.slice (some ⟨g, 0, none⟩) l.length l.length) l.length z) :
    ∃ w', (Builtin.copy_ #[52, 52] 3 #[.slice (some ⟨g, 0, none⟩) l.length l.length, .slice a l.length c]).run Tryd.prog w = .ok (goInt l.length) w' ∧ Row w' 37 5 (some ⟨g, 0, none⟩) l.length l.length (evs l) ∧ Kept (fun k => k = g) w w' := by
  obtain ⟨j0, hj0, hy0, hy1, hy2⟩ := info_parts Tryd.infoEv
  have hsz : (Tryd.prog.info? 37).map (·.size) = some 5 := by rw [hj0]; simp [hy1]
  rcases hz.2 with ⟨e, _⟩ | ⟨g', cap, cur, hv, _, hh, h3, h4, h5, h6⟩
  · simp at e
  · simp only [Value.slice.injEq, Option.some.injEq, Addr.mk.injEq, and_true, true_and] at hv
    obtain ⟨rfl, rfl⟩ := hv
    have hzl := hz.1
    rcases h.2 with ⟨e, h0⟩ | ⟨ga, cap', cur', hv', _, hh', h3', h4', h5', h6'⟩
    · simp only [Value.slice.injEq] at e
      obtain ⟨rfl, _, rfl⟩ := e
      have hl0 : l = [] := List.length_eq_zero_iff.1 h0
      subst hl0
      refine ⟨w, run_copy_nilN w _ _ _ _ _ _ _ Tryd.underlying52 (by rw [hsz]; rfl), ⟨rfl, Or.inr ⟨g, _, cur, rfl, Nat.zero_le _, hh, Nat.le_refl _, h4, h5, by simp [evs]⟩⟩, Kept.refl _ _⟩
    · simp only [Value.slice.injEq] at hv'
      obtain ⟨rfl, _, rfl⟩ := hv'
      have hcell : ∀ j v, (evs l)[j]? = some v → w.cell? ((⟨ga, 0, none⟩ : Addr).add j) = some v := by
        intro j v hj
        have hlt : j < l.length * 5 := by have := (List.getElem?_eq_some_iff.1 hj).1; rw [evs_len] at this; exact this
        have hz : (⟨ga, 0, none⟩ : Addr).add j = ⟨ga, j, none⟩ := by simp [Addr.add]; intro h; exact h.symm
        rw [hz]
        obtain ⟨g2, hg2, _, _, hc2, _⟩ := h.form (by omega)
        simp only [Option.some.injEq, Addr.mk.injEq, and_true] at hg2
        subst hg2
        rw [hc2 j hlt]; exact hj
      have hcs : cur.size = (evs l).length := by rw [h5, evs_len]
      have hrun := run_copy_rowN (P := Tryd.prog) w 52 52 3 37 g l.length l.length ⟨ga, 0, none⟩ l.length c 5 cur 37 (evs l) Tryd.underlying52 hsz hh (by rw [evs_len]; simp [Nat.min_def]) hcell (by omega) (evs_one l)
      have hd : cur.toList.drop (evs l).length = [] := List.drop_eq_nil_of_le (by rw [Array.length_toList]; omega)
      rw [hd, List.append_nil, show Nat.min l.length l.length = l.length by simp [Nat.min_def]] at hrun
      refine ⟨_, hrun, ⟨h.1, Or.inr ⟨g, _, _, rfl, Nat.zero_le _, setRow_heap w g cur _ _ _ hh, Nat.le_refl _, h4, by rw [List.size_toArray, evs_len], ?_⟩⟩, ⟨rfl, rfl, rfl, by simp [World.setRow], fun k _ hk => setRow_other w g k _ hk⟩⟩
      rw [List.take_of_length_le (by show (evs l).length ≤ _; rw [evs_len]; exact Nat.le_refl _)]

/-! ### sorting by neighbours -/
def SrtTo (M : List Ev) (i : Nat) : Prop := ∀ (a b : Nat) (x y : Ev), a < b → b < i → M[a]? = some x → M[b]? = some y → aheadB x y = true
def SrtIn (M : List Ev) (i k : Nat) : Prop := ∀ (a b : Nat) (x y : Ev), a < b → b ≤ i → b ≠ k → M[a]? = some x → M[b]? = some y → aheadB x y = true
theorem srtIn_start {M : List Ev} {i : Nat} (h : SrtTo M i) : SrtIn M i i := fun a b x y h1 h2 h3 hx hy => h a b x y h1 (by omega) hx hy
theorem srtIn_zero {M : List Ev} {i : Nat} (h : SrtIn M i 0) : SrtTo M (i + 1) := fun a b x y h1 h2 hx hy => h a b x y h1 (by omega) (by omega) hx hy
theorem srtIn_stop {M : List Ev} {i k : Nat} {p q : Ev} (h : SrtIn M i (k + 1)) (hp : M[k]? = some p) (hq : M[k + 1]? = some q) (ha : aheadB p q = true) : SrtTo M (i + 1) := by
  intro a b x y h1 h2 hx hy
  by_cases hb : b = k + 1
  · subst hb
    rw [hq] at hy
    cases hy
    by_cases hak : a = k
    · subst hak; rw [hp] at hx; cases hx; exact ha
    · exact ahead_trans (h a k x p (by omega) (by omega) (by omega) hx hp) ha
  · exact h a b x y h1 (by omega) hb hx hy
theorem srtIn_swap {M : List Ev} {i k : Nat} {p q : Ev} (h : SrtIn M i (k + 1)) (hp : M[k]? = some p) (hq : M[k + 1]? = some q) (ha : aheadB q p = true) (hki : k + 1 ≤ i) : SrtIn ((M.set (k + 1) p).set k q) i k := by
  have hk1 : k + 1 < M.length := get_lt hq
  have hg : ∀ a, ((M.set (k + 1) p).set k q)[a]? = if a = k then some q else if a = k + 1 then some p else M[a]? := by
    intro a
    rw [List.getElem?_set, List.getElem?_set]
    by_cases h1 : k = a
    · subst h1; simp [show k < M.length by omega]
    · rw [if_neg h1, if_neg (Ne.symm h1)]
      by_cases h2 : k + 1 = a
      · subst h2; simp [hk1]
      · rw [if_neg h2, if_neg (Ne.symm h2)]
  intro a b x y h1 h2 h3 hx hy
  rw [hg] at hx hy
  rw [if_neg h3] at hy
  by_cases ha1 : a = k
  · rw [if_pos ha1] at hx
    cases hx
    by_cases hb1 : b = k + 1
    · rw [if_pos hb1] at hy; cases hy; exact ha
    · rw [if_neg hb1] at hy
      exact h (k + 1) b q y (by omega) h2 hb1 hq hy
  · rw [if_neg ha1] at hx
    by_cases ha2 : a = k + 1
    · rw [if_pos ha2] at hx
      cases hx
      rw [if_neg (by omega)] at hy
      exact h k b p y (by omega) h2 (by omega) hp hy
    · rw [if_neg ha2] at hx
      by_cases hb1 : b = k + 1
      · rw [if_pos hb1] at hy
        cases hy
        exact h a k x p (by omega) (by omega) (by omega) hx hp
      · rw [if_neg hb1] at hy
        exact h a b x y h1 h2 hb1 hx hy
theorem swap_perm {M : List Ev} {k : Nat} {p q : Ev} (hp : M[k]? = some p) (hq : M[k + 1]? = some q) : ((M.set (k + 1) p).set k q).Perm M := by
  have h1 := get_lt hp
  have h2 := get_lt hq
  have e1 : M[k] = p := by have := List.getElem?_eq_getElem h1; rw [hp] at this; exact (Option.some.inj this).symm
  have e2 : M[k + 1] = q := by have := List.getElem?_eq_getElem h2; rw [hq] at this; exact (Option.some.inj this).symm
  have := List.set_set_perm h2 h1
  rw [e1, e2] at this
  exact this
theorem srt_of_to {M : List Ev} (h : SrtTo M M.length) : Srt M := by
  unfold Srt
  rw [List.pairwise_iff_getElem]
  intro a b ha hb hab
  exact h a b _ _ hab hb (List.getElem?_eq_getElem ha) (List.getElem?_eq_getElem hb)
theorem apart_perm {M l : List Ev} (h : M.Perm l) (hl : l.Pairwise Apart2) {a b : Nat} {x y : Ev} (hx : M[a]? = some x) (hy : M[b]? = some y) (hab : a < b) : Apart2 x y := by
  have hM : M.Pairwise Apart2 := h.symm.pairwise hl (fun hab => by unfold Apart2 at *; exact fun hh => hab ⟨hh.1.symm, hh.2.symm⟩)
  have := List.pairwise_iff_getElem.1 hM a b (get_lt hx) (get_lt hy) hab
  rw [show M[a]'(get_lt hx) = x from (Option.some.inj ((List.getElem?_eq_getElem (get_lt hx)).symm.trans hx)), show M[b]'(get_lt hy) = y from (Option.some.inj ((List.getElem?_eq_getElem (get_lt hy)).symm.trans hy))] at this
  exact this
end Go.Proofs.YtghcololkgeoeabDoor
namespace Go.Proofs.YtghcololkgeoeabDoor
open Go.RowKit
set_option linter.unusedVariables false
set_option linter.unusedSimpArgs false
attribute [local go_sem ↓] Go.wp_at_zero Go.wp_at_succ

theorem row_cells5 {w : World} {t : TypeId} {g n c : Nat} {M : List Ev} (h : Row w t 5 (some ⟨g, 0, none⟩) n c (evs M)) (hn : M.length = n) (k : Nat) (E : Ev) (hk : M[k]? = some E) :
    g < w.heap.size ∧ w.cell? ⟨g, k * 5, none⟩ = some (.int .i64 E.src) ∧ w.cell? ⟨g, k * 5 + 1, none⟩ = some (.int .i64 E.seq) ∧ w.cell? ⟨g, k * 5 + 2, none⟩ = some (.int .i64 E.ts) ∧ w.cell? ⟨g, k * 5 + 3, none⟩ = some (.int .i64 E.kind) ∧ w.cell? ⟨g, k * 5 + 4, none⟩ = some (.int .i64 E.val) ∧ (∀ o, w.frozen? ⟨g, o, none⟩ = false) := by
  subst hn
  have hlt := get_lt hk
  obtain ⟨g', hg, _, x0, x1, x2, x3, x4⟩ := evRow_cells h k hlt
  simp only [Option.some.injEq, Addr.mk.injEq, and_true] at hg
  subst hg
  have e : M[k] = E := by have := List.getElem?_eq_getElem hlt; rw [hk] at this; exact (Option.some.inj this).symm
  rw [e] at x0 x1 x2 x3 x4
  obtain ⟨g', hg', _, _, _, hf⟩ := h.form (by omega)
  simp only [Option.some.injEq, Addr.mk.injEq, and_true] at hg'
  subst hg'
  exact ⟨h.lt rfl, x0, x1, x2, x3, x4, hf⟩
/-- what a round of sorting keeps -/
structure Sg (w wr : World) (g : Nat) (l M : List Ev) : Prop where
  perm : M.Perm l
  row : Row wr 37 5 (some ⟨g, 0, none⟩) l.length l.length (evs M)
  bel : Below w.heap.size w wr
  new : w.heap.size ≤ g
theorem Sg.below {w wr w' : World} {g : Nat} {l M : List Ev} (h : Sg w wr g l M) (hb : Below wr.heap.size wr w') : Sg w w' g l M :=
  ⟨h.perm, h.row.kept (below_kept hb (fun _ => False)) (fun _ _ e => e), h.bel.trans (hb.mono h.bel.size), h.new⟩
theorem Sg.swap {w wr : World} {g k : Nat} {l M : List Ev} {p q : Ev} (h : Sg w wr g l M) (hp : M[k]? = some p) (hq : M[k + 1]? = some q) : Sg w (setEv (setEv wr g (k + 1) p) g k q) g l ((M.set (k + 1) p).set k q) := by
  have h1 := get_lt hp
  have h2 := get_lt hq
  refine ⟨(swap_perm hp hq).trans h.perm, Row.setEv (Row.setEv h.row h2) (by simpa using h1), ?_, h.new⟩
  exact kept_toBelow h.bel (kept_setEv (kept_setEv (Kept.refl (fun j => j = g) wr) (fun _ => rfl)) (fun _ => rfl)) (fun i e => by rw [e]; exact h.new)
end Go.Proofs.YtghcololkgeoeabDoor
namespace Go.Proofs.YtghcololkgeoeabDoor
open Go.RowKit
set_option linter.unusedVariables false
set_option linter.unusedSimpArgs false
attribute [local go_sem ↓] Go.wp_at_zero Go.wp_at_succ

set_option maxRecDepth 100000 in
set_option maxHeartbeats 4000000 in
theorem left_gen (b n : Nat) (c : Cfg) (X : Eng) (w : World) (h : MemX w b X) (hn : c.sources = n) (h6 : n ≤ 6) (Inv : Nat → Eng → Prop) (h0 : Inv 0 X) (hs : ∀ s Y, Inv s Y → SaneX Y ∧ Y.srcs.length = n)
    (hin : ∀ s Y (hl : s < Y.srcs.length), Inv s Y → Y.srcs[s].inn = false → Inv (s + 1) Y)
    (hjo : ∀ s Y (hl : s < Y.srcs.length), Inv s Y → Y.srcs[s].inn = true → ∀ Y', PlX (Y.gone s Y.srcs[s]) Y' → Inv (s + 1) Y') :
    Calls Tryd.prog 13 #[.pointer (some ⟨b, 0, none⟩), .agg #[.int .i64 c.sources, .int .i64 c.slack, .int .i64 c.policy, .int .i64 c.room, .int .i64 c.idle, .string c.pat]] w fun e w' => e = .returned (.bool true) ∧ ∃ Y, Inv n Y ∧ EvoX w b X w' Y := by
  obtain ⟨w1, HW1⟩ := hex (w.alloc (.cells c.vals.toArray 26))
  obtain ⟨cb, HCb⟩ := hex w.heap.size
  have HC1 : Hid (Blk w1 cb 26 c.vals) := by show Blk _ _ _ _; rw [HW1.out, HCb.out]; exact blk_alloc _ _ _
  have HE1 : Hid (EvoX w b X w1 X) := by show EvoX _ _ _ _ _; rw [HW1.out]; exact EvoX.below h ((Below.refl _ _).alloc (Nat.le_refl _) _)
  have HNc : Hid (¬ some cb ∈ X.fp b) := fun e => by have := h.fp_lt _ e; have := HCb.out; omega
  have HI0 : Hid (Inv 0 X) := h0
  have HIs : Hid (∀ s Y, Inv s Y → SaneX Y ∧ Y.srcs.length = n) := hs
  have HIi : Hid (∀ s Y (hl : s < Y.srcs.length), Inv s Y → Y.srcs[s].inn = false → Inv (s + 1) Y) := hin
  have HIj : Hid (∀ s Y (hl : s < Y.srcs.length), Inv s Y → Y.srcs[s].inn = true → ∀ Y', PlX (Y.gone s Y.srcs[s]) Y' → Inv (s + 1) Y') := hjo
  have HN : Hid (c.sources = n) := hn
  clear h h0 hs hin hjo hn
  have hw1 : w.alloc (.cells #[.int .i64 c.sources, .int .i64 c.slack, .int .i64 c.policy, .int .i64 c.room, .int .i64 c.idle, .string c.pat] 26) = w1 := HW1.out.symm
  go_enter Tryd.func13, Tryd.ntmps13
  go_upto_region 1 with fail
  rw [← HCb.out]
  clear hw1 HW1 HCb
  go_wp2
  go_loopw [5] (fun sv wr => ∃ (s : Nat) (Y : Eng), s ≤ n ∧ sv = .int .i64 s ∧ Inv s Y ∧ EvoX w1 b X wr Y) (fun sv _ => n - (intOf sv).toNat)
  case atStart => exact ⟨0, X, Nat.zero_le _, rfl, HI0.out, EvoX.refl HE1.out.mem⟩
  case round =>
    obtain ⟨s, Y, hsn, rfl, hI, hE⟩ := hrel
    have HI : Hid (Inv s Y) := hI
    have HE : Hid (EvoX w1 b X wr Y) := hE
    clear hI hE
    have HCr : Hid (Blk wr cb 26 c.vals) := HC1.out.kept HE.out.kept HNc.out
    have c0 := HCr.out.cell 0
    simp only [Cfg.vals, List.getElem?_cons_zero, HN.out] at c0
    by_cases hlt : s < n
    · have hlt' : (s : Int) < (n : Int) := by omega
      have hl : s < Y.srcs.length := by rw [(HIs.out s Y HI.out).2]; exact hlt
      have hso : ∀ u, MemX u b Y → Calls Tryd.prog 26 #[.pointer (some ⟨b, 0, none⟩), .int .i64 s] u fun e w' => e = .returned (.tuple #[.agg #[.bool Y.srcs[s].inn, .bool Y.srcs[s].idle, .int .i64 Y.srcs[s].mark, .int .i64 (Y.waitOf s), .int .i64 Y.srcs[s].last], .int .i64 0]) ∧ Below u.heap.size u w' := fun u hu => by
        have ht : Y.tell s = ⟨Y.srcs[s].inn, Y.srcs[s].idle, Y.srcs[s].mark, Y.waitOf s, Y.srcs[s].last, 0⟩ := by
          unfold Eng.tell
          rw [if_neg (by omega), show (s : Int).toNat = s by omega, List.getElem?_eq_getElem hl]
        have := xsource_any b Y s (HIs.out s Y HI.out).1 u hu
        rw [ht] at this
        exact this
      cases hinn : Y.srcs[s].inn with
      | false =>
        rw [hinn] at hso
        have HI2 : Hid (Inv (s + 1) Y) := HIi.out s Y hl HI.out hinn
        clear hinn
        go_wp2_with (go_at_call 26; refine (hso _ HE.out.mem).mono ?_; rintro e w2 ⟨rfl, hb2⟩)
        go_roundw
        case rel => exact ⟨s + 1, Y, by omega, by go_num, HI2.out, HE.out.belowE (hb2.alloc hb2.size _)⟩
        case measure => simp [intOf]; omega
      | true =>
        rw [hinn] at hso
        have HI2 : Hid (∀ Y', PlX (Y.gone s Y.srcs[s]) Y' → Inv (s + 1) Y') := HIj.out s Y hl HI.out hinn
        have hjn : ∀ u, MemX u b Y → Calls Tryd.prog 29 #[.pointer (some ⟨b, 0, none⟩), .int .i64 s] u fun e w' => e = .returned (.int .i64 0) ∧ EvoP u b Y w' (Y.gone s Y.srcs[s]) := fun u hu => xleave_ok b Y s u hu (HIs.out s Y HI.out).1 hl hinn
        clear hinn
        go_wp2_with (first
          | (go_at_call 26; refine (hso _ HE.out.mem).mono ?_; rintro e w2 ⟨rfl, hb2⟩)
          | (go_at_call 29; refine (hjn _ ((HE.out.mem.below hb2).alloc _)).mono ?_; rintro e w3 ⟨rfl, hev⟩))
        go_roundw
        case rel =>
          obtain ⟨Y', hpl, hev⟩ := evoP_pl hev
          exact ⟨s + 1, Y', by omega, by go_num, HI2.out Y' hpl, (HE.out.belowE (hb2.alloc hb2.size _)).trans hev⟩
        case measure => simp [intOf]; omega
    · obtain rfl : s = n := by omega
      go_wp2
      go_ret
      exact ⟨rfl, Y, HI.out, HE1.out.trans HE.out⟩

/-! ### what the ledger's engine keeps -/
theorem Kp.step {n : Nat} {c : Cfg} {X X' : Eng} {G : LG} {R R' : Ref} {N : Nat} (h : Kp n c X G R) (hk : Keeps R R') (hl : Like N X' R') (hg : Grow X X') : Kp n c X' G R' := by
  obtain ⟨M, hl0⟩ := h.lk
  refine ⟨⟨N, hl⟩, h.all.trans hk.all.symm, h.aside.trans hk.aside.symm, hk.stl h.stl, hg.n.trans h.n, ?_⟩
  rw [← hl.sim.c, hg.c, hl0.sim.c, h.c]
theorem kp_join {n : Nat} {c : Cfg} {X X' : Eng} {G : LG} {R : Ref} {A z : Int} (h : Kp n c X G R) (hX : JoinsX X A z X') : ∃ R', Kp n c X' G R' := by
  obtain ⟨N, hl⟩ := h.lk
  obtain ⟨z', R', hR⟩ := joinR_some R A
  exact ⟨R', h.step (joinR_keeps hR) (join_agree hl hX hR).2 (joinX_grow hX)⟩
theorem kp_leave {n : Nat} {c : Cfg} {X X' : Eng} {G : LG} {R : Ref} {A z : Int} (h : Kp n c X G R) (hX : LeavesX X A z X') : ∃ R', Kp n c X' G R' := by
  obtain ⟨N, hl⟩ := h.lk
  obtain ⟨z', R', hR⟩ := leaveR_some R A
  exact ⟨R', h.step (leaveR_keeps hR) (leave_agree hl hX hR).2 (leaveX_grow hX)⟩
theorem kp_punct {n : Nat} {c : Cfg} {X X' : Eng} {G : LG} {R : Ref} {A ts z : Int} (h : Kp n c X G R) (hX : PunctsX X A ts z X') : ∃ R', Kp n c X' G R' := by
  obtain ⟨N, hl⟩ := h.lk
  obtain ⟨z', R', hR⟩ := punctsR_some R A ts
  exact ⟨R', h.step (punctsR_keeps hR) (puncts_agree hl hX hR).2 (punctsX_grow hX)⟩
theorem kp_tick {n : Nat} {c : Cfg} {X X' : Eng} {G : LG} {R : Ref} {m z : Int} (h : Kp n c X G R) (hX : TicksX X m z X') : ∃ R', Kp n c X' G R' := by
  obtain ⟨N, hl⟩ := h.lk
  obtain ⟨z', R', hR⟩ := tickR_some R m
  exact ⟨R', h.step (tickR_keeps hR) (tick_agree hl hX hR).2 (tickX_grow hX)⟩
theorem kp_done {n : Nat} {c : Cfg} {X X' : Eng} {G : LG} {R : Ref} {A z : Int} {a : ActR} (h : Kp n c X G R) (hX : DoneX X A a z X') (h2 : pk a.d 7 ≠ 2) (h3 : pk a.d 7 ≠ 3) (h6 : pk a.d 7 ≠ 6) : ∃ R', Kp n c X' G R' := by
  rcases hX with ⟨_, hX⟩ | ⟨_, hX⟩ | ⟨e, hX⟩ | ⟨_, hX⟩ | ⟨_, hX⟩ | ⟨e, hX⟩
  · exact kp_join h hX
  · exact kp_leave h hX
  · omega
  · exact kp_punct h hX
  · exact kp_tick h hX
  · exact absurd e h6
def LG0 : LG := ⟨[], none, 0, [], none, 0⟩
theorem gone_inn {X X' : Eng} {s : Nat} {p : PSrc} (hp : X.srcs[s]? = some p) (h : PlX (X.gone s p) X') (j : Nat) (q : PSrc) (hq : X'.srcs[j]? = some q) : (j = s ∧ q.inn = false) ∨ (j ≠ s ∧ X.srcs[j]? = some q) := by
  obtain ⟨ga, gc, wa, wc, rfl⟩ := h
  have hq : (X.srcs.set s { p with inn := false, idle := false })[j]? = some q := hq
  rw [List.getElem?_set] at hq
  by_cases hj : s = j
  · rw [if_pos hj, if_pos (get_lt hp)] at hq
    simp only [Option.some.injEq] at hq
    exact Or.inl ⟨hj.symm, by rw [← hq]⟩
  · rw [if_neg hj] at hq
    exact Or.inr ⟨fun e => hj e.symm, hq⟩
theorem kp_end {n : Nat} {c : Cfg} {X : Eng} {G : LG} {R : Ref} (h : Kp n c X G R) (ho : ∀ (j : Nat) p, X.srcs[j]? = some p → p.inn = false) : X.log.Perm G.all ∧ Srt X.log ∧ X.late = G.aside ∧ G.all.Pairwise Apart2 ∧ SaneX X ∧ G.all.length ≤ 200 ∧ G.aside.length ≤ 200 := by
  obtain ⟨N, hl⟩ := h.lk
  have hw : R.wait (-1) = [] := h.stl (fun i => by
    unfold Ref.active
    cases hr : R.srcs[i]? with
    | none => rfl
    | some r =>
      have hi : i < X.srcs.length := by rw [hl.sim.n]; exact get_lt hr
      have s := hl.sim.src i _ r (List.getElem?_eq_getElem hi) hr
      have := ho i _ (List.getElem?_eq_getElem hi)
      rw [s.inn] at this
      simp [this])
  have hx : X.wait = [] := by have p := sim_wait hl.sim; rw [hw] at p; exact p.eq_nil
  have hp := hl.sim.perm
  rw [hx, List.append_nil] at hp
  exact ⟨h.all ▸ hp, hl.sim.logS, hl.sim.late.trans h.aside.symm, by rw [h.all]; exact hl.sim.ids, hl.sane, by rw [h.all]; exact hl.good.all, by rw [h.aside]; exact hl.good.aside⟩
theorem kp_new {c : Cfg} {n sg sc : Nat} {p : PatV} (hn : c.sources = n) (hok : c.ok) : Kp n c (newEng c n sg sc p) LG0 (newRef c n none 0 0) :=
  ⟨⟨0, new_like hn hok⟩, rfl, rfl, fun _ => rfl, by show (List.replicate n zP).length = n; simp, rfl⟩
end Go.Proofs.YtghcololkgeoeabDoor
