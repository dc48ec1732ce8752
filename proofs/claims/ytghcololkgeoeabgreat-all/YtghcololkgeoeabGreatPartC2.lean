import Derived.Test.YtghcololkgeoeabGreatPartC1
import Derived.Laws.AppendOwnNone
namespace Go.Proofs.YtghcololkgeoeabGreat
open Go.RowKit
set_option linter.unusedVariables false
set_option linter.unusedSimpArgs false
attribute [local go_sem ↓] Go.wp_at_zero Go.wp_at_succ

set_option maxHeartbeats 400000 in
theorem xmark_any (b : Nat) (X : Eng) (w : World) (h : MemX w b X) :
    Calls Tryz.prog 13 #[.pointer (some ⟨b, 0, none⟩)] w fun e w' => e = .returned (.int .i64 X.merged) ∧ w = w' := by
  obtain ⟨_, _, _, _, _, c7, _⟩ := h.cells
  go_enter Tryz.func13, Tryz.ntmps13
  go_wp2
  go_ret
  exact ⟨rfl, rfl⟩
set_option maxHeartbeats 1000000 in
theorem xsource_none (b : Nat) (X : Eng) (s : Int) (w : World) (h : MemX w b X) (hs : s < 0 ∨ (X.srcs.length : Int) ≤ s) :
    Calls Tryz.prog 14 #[.pointer (some ⟨b, 0, none⟩), .int .i64 s] w fun e w' => e = .returned (.tuple #[srcAgg false false 0 0 0, .int .i64 3]) ∧ Below w.heap.size w w' := by
  have HD : Hid (decide (0 ≤ s ∧ s < (X.srcs.length : Int)) = false) := by show _ = _; simp; omega
  clear hs
  go_enter Tryz.func14, Tryz.ntmps14
  go_wp2_with (go_at_call 39; refine (xhas_any b X s _ (h.alloc _)).mono ?_; rintro e w' ⟨rfl, rfl⟩; rw [HD.out])
  refine bodyPost_ret (v := .tuple #[srcAgg false false 0 0 0, .int .i64 3]) (by simp [results, Tryz.results14, go_sem, srcAgg]) rfl ⟨rfl, ?_⟩
  exact (Below.refl _ _).alloc (Nat.le_refl _) _
set_option maxRecDepth 100000 in
set_option maxHeartbeats 2000000 in
theorem xsource_some (b : Nat) (X : Eng) (i : Nat) (w : World) (h : MemX w b X) (hs : SaneX X) (hi : i < X.srcs.length) :
    Calls Tryz.prog 14 #[.pointer (some ⟨b, 0, none⟩), .int .i64 i] w fun e w' => e = .returned (.tuple #[srcAgg X.srcs[i].inn X.srcs[i].idle X.srcs[i].mark (X.waitOf i) X.srcs[i].last, .int .i64 0]) ∧ Below w.heap.size w w' := by
  have HD : Hid (decide (0 ≤ (i : Int) ∧ (i : Int) < (X.srcs.length : Int)) = true) := by show _ = _; simp; omega
  have HA : Hid (MemX (w.alloc (.cells z5.toArray 60)) b X) := h.alloc _
  have HZ : Hid (Blk (w.alloc (.cells z5.toArray 60)) w.heap.size 60 z5) := blk_alloc _ _ _
  have hwl := hs.wait
  have hi' : (i : Int) < (X.srcs.length : Int) := by omega
  have hi00 : (0 : Int) ≤ (i : Int) := by omega
  clear h hs
  obtain ⟨P, HP⟩ := hex X.srcs[i]
  rw [← HP.out]
  go_enter Tryz.func14, Tryz.ntmps14
  go_upto_region 4 with (first
    | (go_at_call 39; refine (xhas_any b X _ _ HA.out).mono ?_; rintro e w' ⟨rfl, rfl⟩; rw [HD.out])
    | (go_at_call 40; refine (xwaitingOf_any b X i _ HA.out hwl).mono ?_; rintro e w3 ⟨rfl, hb2⟩; have HB2 : Hid (Below (w.alloc (.cells z5.toArray 60)).heap.size (w.alloc (.cells z5.toArray 60)) w3) := hb2; clear hb2; have HM3 : Hid (MemX w3 b X) := HA.out.below HB2.out))
  have HB3 : Hid (Below w.heap.size w w3) := ((Below.refl _ _).alloc (Nat.le_refl _) _).trans (HB2.out.mono (by simp))
  have HZ3 : Hid (Blk w3 w.heap.size 60 z5) := HZ.out.below HB2.out (by simp)
  have hsz : w.heap.size < w3.heap.size := HZ3.out.lt
  obtain ⟨_, _, _, _, c6, _⟩ := HM3.out.cells
  have s0 := HM3.out.srcCell i 0 hi (by omega)
  have s1 := HM3.out.srcCell i 1 hi (by omega)
  have s2 := HM3.out.srcCell i 2 hi (by omega)
  have s3 := HM3.out.srcCell i 3 hi (by omega)
  have s4 := HM3.out.srcCell i 4 hi (by omega)
  have s5 := HM3.out.srcCell i 5 hi (by omega)
  simp only [PSrc.vals, List.getElem?_cons_zero, List.getElem?_cons_succ, Nat.add_zero] at s0 s1 s2 s3 s4 s5
  rw [← HP.out] at s0 s1 s2 s3 s4 s5
  go_upto_region 5 with fail
  obtain ⟨w4, HW4⟩ := hex (w3.alloc (.cells P.vals.toArray 91))
  have hw4 : w3.alloc (.cells #[.bool P.inn, .bool P.idle, .int .i64 P.mark, .int .i64 P.sil, .int .i64 P.last, .slice P.la P.line.length P.lc] 91) = w4 := HW4.out.symm
  rw [hw4]
  have HB4 : Hid (Below w.heap.size w w4) := by show Below _ _ _; rw [HW4.out]; exact HB3.out.alloc (by omega) _
  have HZ4 : Hid (Blk w4 w.heap.size 60 z5) := by show Blk _ _ _ _; rw [HW4.out]; exact HZ3.out.alloc _
  obtain ⟨pb, HPb⟩ := hex w3.heap.size
  have HP4 : Hid (Blk w4 pb 91 P.vals) := by show Blk _ _ _ _; rw [HW4.out, HPb.out]; exact blk_alloc _ _ _
  have hpb : pb ≠ w.heap.size := by rw [HPb.out]; omega
  rw [← HPb.out]
  clear hw4 HW4 HPb s0 s1 s2 s3 s4 s5 c6 hsz
  have r0 := HZ4.out.cell 0
  have r1 := HZ4.out.cell 1
  have r2 := HZ4.out.cell 2
  have r3 := HZ4.out.cell 3
  have r4 := HZ4.out.cell 4
  have g0 := HZ4.out.frozen 0
  have g1 := HZ4.out.frozen 1
  have g2 := HZ4.out.frozen 2
  have g3 := HZ4.out.frozen 3
  have g4 := HZ4.out.frozen 4
  have p0 := HP4.out.cell 0
  have p1 := HP4.out.cell 1
  have p2 := HP4.out.cell 2
  have p4 := HP4.out.cell 4
  simp only [z5, PSrc.vals, List.getElem?_cons_zero, List.getElem?_cons_succ] at r0 r1 r2 r3 r4 p0 p1 p2 p4
  go_wp2
  refine bodyPost_ret (v := .tuple #[srcAgg P.inn P.idle P.mark (X.waitOf i) P.last, .int .i64 0]) (by simp [results, Tryz.results14, go_sem, srcAgg, r0, r1, r2, r3, r4]) rfl ⟨rfl, ?_⟩
  exact HB4.out.trans (below_set5)

theorem ownsRow_form' {w : World} {base : Nat} {t : TypeId} {sz : Nat} {v : Value} {n : Nat} {xs : List Value} (h : w.ownsRow base t sz v n xs) : ∃ a c, v = .slice a n c := by
  rcases h.2 with ⟨rfl, rfl⟩ | ⟨g, cap, cur, rfl, _⟩
  · exact ⟨none, 0, rfl⟩
  · exact ⟨_, cap, rfl⟩

set_option maxRecDepth 100000 in
set_option maxHeartbeats 1000000 in
theorem xlog_any (b : Nat) (X : Eng) (w : World) (h : MemX w b X) (hl : X.log.length ≤ 1000) :
    Calls Tryz.prog 16 #[.pointer (some ⟨b, 0, none⟩)] w fun e w' => ∃ (a : Option Addr) (c : Nat), e = .returned (.slice a X.log.length c) ∧ w'.ownsRow w.heap.size 30 5 (.slice a X.log.length c) X.log.length (evs X.log) ∧ Below w.heap.size w w' := by
  obtain ⟨j0, hj0, hy0, hy1, hy2⟩ := info_parts Tryz.infoEv
  have HR : Hid (Row w 30 5 X.ga X.log.length X.gc (evs X.log)) := h.lg
  have cx : ∀ o, (w.alloc o).cell? ⟨b, 12, none⟩ = some (.slice X.ga X.log.length X.gc) := fun o => (h.alloc o).eng.cell 12
  have HE : Hid ((w.alloc (.cells #[] 30)).ownsRow w.heap.size 30 5 (.slice (some ⟨w.heap.size, 0, none⟩) 0 0) 0 []) := World.ownsRow_lit w #[] 0 (Nat.le_refl _) (by unfold maxLen; omega) (by simp)
  have HB0 : Hid (Below w.heap.size w (w.alloc (.cells #[] 30))) := (Below.refl _ _).alloc (Nat.le_refl _) _
  clear h
  cases ha : X.ga with
  | none =>
    have h0 : X.log.length = 0 ∧ X.gc = 0 ∧ X.log = [] := by
      have hr := HR.out
      rw [ha] at hr
      rcases hr.2 with ⟨e, e2⟩ | ⟨g, cap, cur, hv, _⟩
      · simp only [Value.slice.injEq] at e; exact ⟨e.2.1, e.2.2, List.length_eq_zero_iff.1 e.2.1⟩
      · simp at hv
    rw [ha, h0.1, h0.2.1] at cx
    rw [h0.2.2]
    clear HR ha h0
    go_enter Tryz.func16, Tryz.ntmps16
    go_wp2_with (at_builtin; refine wpList_append_own_none rfl _ _ _ rfl w.heap.size 30 j0 5 Tryz.underlying22 hj0 (.slice (some ⟨w.heap.size, 0, none⟩) 0 0) 0 [] rfl HE.out rfl ?_)
    go_ret
    exact ⟨some ⟨w.heap.size, 0, none⟩, 0, rfl, HE.out, HB0.out⟩
  | some ad =>
    have hf : ad.spot = none ∧ ∀ j u, (evs X.log)[j]? = some u → (w.alloc (.cells #[] 30)).cell? (ad.add j) = some u := by
      have hr := HR.out
      rw [ha] at hr
      rcases hr.2 with ⟨e, e2⟩ | ⟨g, cap, cur, hv, _⟩
      · simp at e
      · simp only [Value.slice.injEq, Option.some.injEq] at hv
        obtain ⟨rfl, _, rfl⟩ := hv
        refine ⟨rfl, fun j u hu => ?_⟩
        have hlt := (List.getElem?_eq_some_iff.1 hu).1
        rw [evs, flatMap_len _ 5 Ev.len] at hlt
        obtain ⟨g', hg', _, _, hcell, _⟩ := hr.form (by omega)
        simp only [Option.some.injEq, Addr.mk.injEq, and_true] at hg'
        subst hg'
        have hc := hcell j hlt
        rw [hu] at hc
        have hz : (⟨g, 0, none⟩ : Addr).add j = ⟨g, j, none⟩ := by simp [Addr.add]; intro h; exact h.symm
        rw [hz]
        exact (HB0.out.cell (p := ⟨g, j, none⟩) (World.block_lt_of_cell? w _ hc)).trans hc
    rw [ha] at cx
    clear ha
    go_enter Tryz.func16, Tryz.ntmps16
    go_wp2_with (at_builtin; refine wpList_append_own _ rfl _ _ _ rfl w.heap.size 30 j0 _ 5 40 Tryz.underlying22 hj0 hy0 hy1 hy2 rfl (by omega) (.slice (some ⟨w.heap.size, 0, none⟩) 0 0) 0 [] rfl HE.out ad X.log.length X.gc (evs X.log) rfl (by rw [evs, flatMap_len _ 5 Ev.len]) hf.2 (fun u hu => by simp only [evs, List.mem_flatMap] at hu; obtain ⟨e, _, he⟩ := hu; exact Ev.one e u he) (by unfold maxLen; omega) (by omega) (by simp) ?_; intro v' w1 hown hgrow hiff)
    go_ret
    rw [Nat.zero_add, List.nil_append] at hown
    obtain ⟨a, c, rfl⟩ := ownsRow_form' hown
    refine ⟨a, c, rfl, hown, HB0.out.grown hgrow (by simp) (fun k e => ?_)⟩
    simp only [Value.ownBlock, Option.some.injEq] at e
    omega

set_option maxRecDepth 100000 in
set_option maxHeartbeats 1000000 in
theorem xlate_any (b : Nat) (X : Eng) (w : World) (h : MemX w b X) (hl : X.late.length ≤ 1000) :
    Calls Tryz.prog 20 #[.pointer (some ⟨b, 0, none⟩)] w fun e w' => ∃ (a : Option Addr) (c : Nat), e = .returned (.slice a X.late.length c) ∧ w'.ownsRow w.heap.size 30 5 (.slice a X.late.length c) X.late.length (evs X.late) ∧ Below w.heap.size w w' := by
  obtain ⟨j0, hj0, hy0, hy1, hy2⟩ := info_parts Tryz.infoEv
  have HR : Hid (Row w 30 5 X.da X.late.length X.dc (evs X.late)) := h.lt
  have cx : ∀ o, (w.alloc o).cell? ⟨b, 13, none⟩ = some (.slice X.da X.late.length X.dc) := fun o => (h.alloc o).eng.cell 13
  have HE : Hid ((w.alloc (.cells #[] 30)).ownsRow w.heap.size 30 5 (.slice (some ⟨w.heap.size, 0, none⟩) 0 0) 0 []) := World.ownsRow_lit w #[] 0 (Nat.le_refl _) (by unfold maxLen; omega) (by simp)
  have HB0 : Hid (Below w.heap.size w (w.alloc (.cells #[] 30))) := (Below.refl _ _).alloc (Nat.le_refl _) _
  clear h
  cases ha : X.da with
  | none =>
    have h0 : X.late.length = 0 ∧ X.dc = 0 ∧ X.late = [] := by
      have hr := HR.out
      rw [ha] at hr
      rcases hr.2 with ⟨e, e2⟩ | ⟨g, cap, cur, hv, _⟩
      · simp only [Value.slice.injEq] at e; exact ⟨e.2.1, e.2.2, List.length_eq_zero_iff.1 e.2.1⟩
      · simp at hv
    rw [ha, h0.1, h0.2.1] at cx
    rw [h0.2.2]
    clear HR ha h0
    go_enter Tryz.func20, Tryz.ntmps20
    go_wp2_with (at_builtin; refine wpList_append_own_none rfl _ _ _ rfl w.heap.size 30 j0 5 Tryz.underlying22 hj0 (.slice (some ⟨w.heap.size, 0, none⟩) 0 0) 0 [] rfl HE.out rfl ?_)
    go_ret
    exact ⟨some ⟨w.heap.size, 0, none⟩, 0, rfl, HE.out, HB0.out⟩
  | some ad =>
    have hf : ad.spot = none ∧ ∀ j u, (evs X.late)[j]? = some u → (w.alloc (.cells #[] 30)).cell? (ad.add j) = some u := by
      have hr := HR.out
      rw [ha] at hr
      rcases hr.2 with ⟨e, e2⟩ | ⟨g, cap, cur, hv, _⟩
      · simp at e
      · simp only [Value.slice.injEq, Option.some.injEq] at hv
        obtain ⟨rfl, _, rfl⟩ := hv
        refine ⟨rfl, fun j u hu => ?_⟩
        have hlt := (List.getElem?_eq_some_iff.1 hu).1
        rw [evs, flatMap_len _ 5 Ev.len] at hlt
        obtain ⟨g', hg', _, _, hcell, _⟩ := hr.form (by omega)
        simp only [Option.some.injEq, Addr.mk.injEq, and_true] at hg'
        subst hg'
        have hc := hcell j hlt
        rw [hu] at hc
        have hz : (⟨g, 0, none⟩ : Addr).add j = ⟨g, j, none⟩ := by simp [Addr.add]; intro h; exact h.symm
        rw [hz]
        exact (HB0.out.cell (p := ⟨g, j, none⟩) (World.block_lt_of_cell? w _ hc)).trans hc
    rw [ha] at cx
    clear ha
    go_enter Tryz.func20, Tryz.ntmps20
    go_wp2_with (at_builtin; refine wpList_append_own _ rfl _ _ _ rfl w.heap.size 30 j0 _ 5 40 Tryz.underlying22 hj0 hy0 hy1 hy2 rfl (by omega) (.slice (some ⟨w.heap.size, 0, none⟩) 0 0) 0 [] rfl HE.out ad X.late.length X.dc (evs X.late) rfl (by rw [evs, flatMap_len _ 5 Ev.len]) hf.2 (fun u hu => by simp only [evs, List.mem_flatMap] at hu; obtain ⟨e, _, he⟩ := hu; exact Ev.one e u he) (by unfold maxLen; omega) (by omega) (by simp) ?_; intro v' w1 hown hgrow hiff)
    go_ret
    rw [Nat.zero_add, List.nil_append] at hown
    obtain ⟨a, c, rfl⟩ := ownsRow_form' hown
    refine ⟨a, c, rfl, hown, HB0.out.grown hgrow (by simp) (fun k e => ?_)⟩
    simp only [Value.ownBlock, Option.some.injEq] at e
    omega

def zP : PSrc := ⟨false, false, -2199023255552, 0, -1, [], none, 0⟩
structure PatV where
  pa : Option Addr
  pc : Nat
def newEng (c : Cfg) (n sg sc : Nat) (p : PatV) : Eng := { c := c, pa := p.pa, pc := p.pc, srcs := List.replicate n zP, sg := sg, sc := sc, merged := -2199023255552, wait := [], wa := none, wc := 0, log := [], ga := none, gc := 0, late := [], da := none, dc := 0 }
theorem Tryz.infoPSrc : (Tryz.prog.info? 91).map (fun i => (i.zero, i.size, i.bytes)) = some (some (.agg #[.bool false, .bool false, .int .i64 0, .int .i64 0, .int .i64 0, .slice none 0 0]), 6, 56) := by kernel_rfl
def engV (c : Cfg) (p : PatV) (a : Option Addr) (k cc : Nat) : List Value := c.valsE ++ [.slice p.pa c.ps.length p.pc, .bool c.same, .int .i64 c.win, .slice a k cc, .int .i64 (-2199023255552), .slice none 0 0, .slice none 0 0, .slice none 0 0]
structure PatAt (w wr : World) (b cb : Nat) (c : Cfg) (p : PatV) : Prop where
  row : Row wr 152 2 p.pa c.ps.length p.pc (flat c.ps)
  off : ∀ g, bk p.pa = some g → g ≠ b ∧ g ≠ cb ∧ w.heap.size ≤ g
structure NewK (w wr : World) (b cb : Nat) (c : Cfg) (p : PatV) (k : Nat) (a : Option Addr) (cc : Nat) : Prop where
  eng : Blk wr b 88 (engV c p a k cc)
  box : Blk wr cb 27 c.valsE
  pat : PatAt w wr b cb c p
  offp : ∀ g, bk a = some g → bk p.pa ≠ some g
  row : Row wr 91 6 a k cc ((List.replicate k zP).flatMap PSrc.vals)
  bel : Below w.heap.size w wr
  off : ∀ g, bk a = some g → g ≠ b ∧ g ≠ cb ∧ w.heap.size ≤ g
def lenAt (w : World) (b : Nat) : Nat := match w.cell? ⟨b, 9, none⟩ with | some (.slice _ k _) => k | _ => 0
theorem NewK.lenAt {w wr : World} {b cb k cc : Nat} {c : Cfg} {p : PatV} {a : Option Addr} (h : NewK w wr b cb c p k a cc) : lenAt wr b = k := by
  have := h.eng.cell 9
  simp only [engV, Cfg.valsE, List.cons_append, List.nil_append, List.getElem?_cons_succ, List.getElem?_cons_zero] at this
  unfold Proofs.YtghcololkgeoeabGreat.lenAt
  rw [this]
set_option maxHeartbeats 1000000 in
theorem xnew_config (c : Cfg) (w : World) (hf : ¬ c.fits) :
    Calls Tryz.prog 10 #[c.agg] w fun e w' => e = .returned (.tuple #[.pointer none, .int .i64 1]) ∧ Below w.heap.size w w' := by
  have hB : Below w.heap.size w (w.alloc (.cells #[.int .i64 c.sources, .int .i64 c.slack, .int .i64 c.policy, .int .i64 c.room, .int .i64 c.idle, .string c.pat] 27)) := (Below.refl _ _).alloc (Nat.le_refl _) _
  have HF : Hid (false = true ↔ c.fits) := ⟨fun h => (by cases h), fun h => absurd h hf⟩
  clear hf
  unfold Cfg.agg
  go_enter Tryz.func10, Tryz.ntmps10
  go_wp2_with (go_at_call 35; refine (xisConfig_any c false _ HF.out).mono ?_; rintro e w1 ⟨rfl, hb1⟩)
  go_ret2
  exact ⟨rfl, hB.trans (hb1.mono (by simp))⟩
set_option maxHeartbeats 1000000 in
theorem xnew_pattern (c : Cfg) (w : World) (hs : c.pat.size ≤ maxLen) (hf : c.fits) (hp : ¬ (c.pat.data.toList.length ≤ 60 ∧ wholeP c.pat.data.toList)) :
    Calls Tryz.prog 10 #[c.agg] w fun e w' => e = .returned (.tuple #[.pointer none, .int .i64 2]) ∧ Below w.heap.size w w' := by
  have hB : Below w.heap.size w (w.alloc (.cells c.vals.toArray 27)) := (Below.refl _ _).alloc (Nat.le_refl _) _
  have HF : Hid (true = true ↔ c.fits) := ⟨fun _ => hf, fun _ => rfl⟩
  have HP : Hid (¬ (c.pat.data.toList.length ≤ 60 ∧ wholeP c.pat.data.toList)) := hp
  clear hf hp
  have HX : Hid (Blk (w.alloc (.cells c.vals.toArray 27)) w.heap.size 27 c.vals) := blk_alloc _ _ _
  unfold Cfg.agg
  go_enter Tryz.func10, Tryz.ntmps10
  go_upto_region 3 with (go_at_call 35; refine (xisConfig_any c true _ HF.out).mono ?_; rintro e w1 ⟨rfl, hb1⟩)
  have HB1 : Hid (Below (w.alloc (.cells c.vals.toArray 27)).heap.size (w.alloc (.cells c.vals.toArray 27)) w1) := hb1
  have c5 := (HX.out.below HB1.out (by simp)).cell 5
  simp only [Cfg.vals, List.getElem?_cons_succ, List.getElem?_cons_zero] at c5
  clear hb1
  go_wp2_with (go_at_call 36; refine (pread_any _ _ hs).mono ?_; rintro e w2 ⟨pa, pc, st, same, win, x, y, rfl, hr⟩; have hx : (x != 0) = true := by (have := check_zero ((checkIs_iff _ _ _).1 hr.chk); simp; intro e; exact HP.out (this.1 e)))
  go_ret2
  exact ⟨rfl, ((hB.trans (HB1.out.mono (by simp))).trans (hr.bel.mono (Nat.le_trans (by simp) HB1.out.size))).alloc (Nat.le_trans (Nat.le_trans (by simp) HB1.out.size) hr.bel.size) _⟩
theorem newEng_pd {c : Cfg} {n sg sc b : Nat} {p : PatV} (h : b ≠ sg) (hb : bk p.pa ≠ some b) (hs : bk p.pa ≠ some sg) : PD ((newEng c n sg sc p).fp b) := by
  have key : ∀ i k : Nat, ((newEng c n sg sc p).fp b)[i]? = some (some k) → (i = 0 ∧ k = b) ∨ (i = 1 ∧ k = sg) ∨ (i = 5 ∧ bk p.pa = some k) := by
    intro i k hi
    unfold Eng.fp newEng at hi
    simp only [List.map_replicate, zP] at hi
    rcases i with _ | _ | _ | _ | _ | _ | i
    · simp at hi; exact Or.inl ⟨rfl, hi.symm⟩
    · simp at hi; exact Or.inr (Or.inl ⟨rfl, hi.symm⟩)
    · simp [bk] at hi
    · simp [bk] at hi
    · simp [bk] at hi
    · simp at hi; exact Or.inr (Or.inr ⟨rfl, hi⟩)
    · simp [bk, List.getElem?_replicate] at hi
  intro i j k hi hj
  rcases key i k hi with ⟨rfl, e1⟩ | ⟨rfl, e1⟩ | ⟨rfl, e1⟩ <;> rcases key j k hj with ⟨rfl, e2⟩ | ⟨rfl, e2⟩ | ⟨rfl, e2⟩
  · rfl
  · exact absurd (e1.symm.trans e2) h
  · exact absurd (e1 ▸ e2) hb
  · exact absurd (e2.symm.trans e1) h
  · rfl
  · exact absurd (e1 ▸ e2) hs
  · exact absurd (e2 ▸ e1) hb
  · exact absurd (e2 ▸ e1) hs
  · rfl
theorem newEng_mem {w : World} {b n sg sc : Nat} {c : Cfg} {p : PatV} (hn : 0 < n) (hp : Row w 152 2 p.pa c.ps.length p.pc (flat c.ps)) (hb : bk p.pa ≠ some b) (hsg : bk p.pa ≠ some sg) (he : Blk w b 88 (engV c p (some ⟨sg, 0, none⟩) n sc)) (hr : Row w 91 6 (some ⟨sg, 0, none⟩) n sc ((List.replicate n zP).flatMap PSrc.vals)) (hne : b ≠ sg) : MemX w b (newEng c n sg sc p) := by
  refine ⟨?_, ?_, Row.nil _ _ _, Row.nil _ _ _, Row.nil _ _ _, hp, ?_, newEng_pd hne hb hsg⟩
  · have : (newEng c n sg sc p).vals = engV c p (some ⟨sg, 0, none⟩) n sc := by
      show c.valsE ++ [.slice p.pa c.ps.length p.pc, .bool c.same, .int .i64 c.win, .slice (some ⟨sg, 0, none⟩) (List.replicate n zP).length sc, .int .i64 (-2199023255552), .slice none 0 0, .slice none 0 0, .slice none 0 0] = _
      rw [List.length_replicate]; rfl
    rw [this]; exact he
  · show Row w _ 6 (some ⟨sg, 0, none⟩) (List.replicate n zP).length sc ((List.replicate n zP).flatMap PSrc.vals)
    rw [List.length_replicate]; exact hr
  · intro i p hp
    have hp : (List.replicate n zP)[i]? = some p := hp
    rw [List.getElem?_replicate] at hp
    split at hp
    · simp only [Option.some.injEq] at hp; subst hp; exact Row.nil _ _ _
    · simp at hp
set_option maxRecDepth 100000 in
set_option maxHeartbeats 4000000 in
theorem xnew_ok (n : Nat) (c : Cfg) (w : World) (hn : c.sources = n) (hf : c.fits) (hl : c.pat.data.toList.length ≤ 60) (hp : wholeP c.pat.data.toList) :
    Calls Tryz.prog 10 #[c.agg] w fun e w' => ∃ b sg sc p, e = .returned (.tuple #[.pointer (some ⟨b, 0, none⟩), .int .i64 0]) ∧ MemX w' b (newEng c n sg sc p) ∧ (∀ k, some k ∈ (newEng c n sg sc p).fp b → w.heap.size ≤ k) ∧ Below w.heap.size w w' := by
  obtain ⟨i0, hi0, hz0, hz1, hz2⟩ := info_parts Tryz.infoPSrc
  have hfit := hf
  unfold Cfg.fits at hfit
  have hn1 : 1 ≤ n ∧ n ≤ 6 := by omega
  have hs : c.pat.size ≤ maxLen := by
    have hq : c.pat.size = c.pat.data.toList.length := rfl
    unfold maxLen; omega
  have HF : Hid (true = true ↔ c.fits) := ⟨fun _ => hf, fun _ => rfl⟩
  have HP : Hid (c.pat.data.toList.length ≤ 60 ∧ wholeP c.pat.data.toList) := ⟨hl, hp⟩
  have HN : Hid (c.sources = n) := hn
  clear hf hp hl hfit hn
  have HX : Hid (Blk (w.alloc (.cells c.vals.toArray 27)) w.heap.size 27 c.vals) := blk_alloc _ _ _
  have HB0 : Hid (Below w.heap.size w (w.alloc (.cells c.vals.toArray 27))) := (Below.refl _ _).alloc (Nat.le_refl _) _
  unfold Cfg.agg
  go_enter Tryz.func10, Tryz.ntmps10
  go_upto_region 3 with (go_at_call 35; refine (xisConfig_any c true _ HF.out).mono ?_; rintro e w1 ⟨rfl, hb1⟩)
  have HB1 : Hid (Below (w.alloc (.cells c.vals.toArray 27)).heap.size (w.alloc (.cells c.vals.toArray 27)) w1) := hb1
  have HX1 : Hid (Blk w1 w.heap.size 27 c.vals) := HX.out.below HB1.out (by simp)
  have c5 := HX1.out.cell 5
  simp only [Cfg.vals, List.getElem?_cons_succ, List.getElem?_cons_zero] at c5
  clear hb1
  go_upto_region 6 with (go_at_call 36; refine (pread_any _ _ hs).mono ?_; rintro e w2 ⟨pa, pc, st, same, win, x, y, rfl, hr⟩; have hx : x = 0 := (check_zero ((checkIs_iff _ _ _).1 hr.chk)).2 HP.out; subst hx)
  obtain ⟨rr, r1, r2, r3, r4, r5⟩ := hr.pat rfl
  obtain ⟨q1, q2, q3⟩ := run_content r1 r2
  obtain rfl : c.ps = st := (q1.symm.trans r3)
  obtain rfl : c.same = same := (q2.symm.trans r4)
  obtain rfl : c.win = win := (q3.symm.trans r5)
  have HR2 : Hid (ReadIs c.pat.data.toList w1 w2 pa pc c.ps c.same c.win 0 y) := hr
  have HB2 : Hid (Below w1.heap.size w1 w2) := hr.bel
  clear hr c5 r1 r2 r3 r4 r5 q1 q2 q3
  obtain ⟨p, HPv⟩ := hex (⟨pa, pc⟩ : PatV)
  have HBw : Hid (Below w.heap.size w w2) := (HB0.out.trans (HB1.out.mono (by simp))).trans (HB2.out.mono (Nat.le_trans (by simp) HB1.out.size))
  have HX2 : Hid (Blk w2 w.heap.size 27 c.vals) := HX1.out.below HB2.out HX1.out.lt
  have hsz : w.heap.size < w2.heap.size := HX2.out.lt
  -- the pattern's box
  obtain ⟨w2a, HW2a⟩ := hex (w2.alloc (.cells #[.slice pa c.ps.length pc, .bool c.same, .int .i64 c.win] 83))
  have hw2a : w2.alloc (.cells #[.slice pa c.ps.length pc, .bool c.same, .int .i64 c.win] 83) = w2a := HW2a.out.symm
  rw [hw2a]
  clear hw2a
  have HX2a : Hid (Blk w2a w.heap.size 27 c.vals) := by show Blk _ _ _ _; rw [HW2a.out]; exact HX2.out.alloc _
  have HP2a : Hid (Blk w2a w2.heap.size 83 [.slice pa c.ps.length pc, .bool c.same, .int .i64 c.win]) := by show Blk _ _ _ _; rw [HW2a.out]; exact blk_alloc _ _ _
  have HBa : Hid (Below w.heap.size w w2a) := by show Below _ _ _; rw [HW2a.out]; exact HBw.out.alloc (by omega) _
  have k5 := HX2a.out.cell 5
  have kf5 := HX2a.out.frozen 5
  simp only [Cfg.vals, List.getElem?_cons_succ, List.getElem?_cons_zero] at k5
  go_upto_region 7 with fail
  obtain ⟨w2b, HW2b⟩ := hex (w2a.setCell ⟨w.heap.size, 5, none⟩ (.string ByteArray.empty))
  have hw2b : w2a.setCell ⟨w.heap.size, 5, none⟩ (.string ByteArray.empty) = w2b := HW2b.out.symm
  first | rw [hw2b] | (change _ at hw2b; rw [show (w2a.setCell ⟨w.heap.size, 5, none⟩ (.string { data := #[] })) = w2b from hw2b])
  clear hw2b k5 kf5
  have HX3 : Hid (Blk w2b w.heap.size 27 c.valsE) := by
    show Blk _ _ _ _
    rw [HW2b.out]
    have := HX2a.out.set 5 (.string ByteArray.empty)
    simpa [Cfg.vals, Cfg.valsE] using this
  have HP3 : Hid (Blk w2b w2.heap.size 83 [.slice pa c.ps.length pc, .bool c.same, .int .i64 c.win]) := by show Blk _ _ _ _; rw [HW2b.out]; exact HP2a.out.other (by simp; omega) _
  have HB3 : Hid (Below w.heap.size w w2b) := by show Below _ _ _; rw [HW2b.out]; exact HBa.out.setCell (p := ⟨w.heap.size, 5, none⟩) (Nat.le_refl _) _
  have hsz3 : w2b.heap.size = w2.heap.size + 1 := by rw [HW2b.out, HW2a.out]; simp
  have HRow3 : Hid (Row w2b 152 2 p.pa c.ps.length p.pc (flat c.ps) ∧ ∀ g, bk p.pa = some g → w1.heap.size ≤ g ∧ g < w2.heap.size) := by
    show _ ∧ _
    rw [HPv.out]
    have ho := HR2.out.own
    refine ⟨?_, fun g e => ho.lt g (by rw [bk_own]; exact e)⟩
    obtain ⟨h1, h2⟩ := ho
    refine ⟨h1, ?_⟩
    rcases h2 with h2 | ⟨g, cap, cur, hv, hg, hh, r⟩
    · exact Or.inl h2
    · have hgl : g < w2.heap.size := by
        by_cases hb : g < w2.heap.size
        · exact hb
        · rw [Array.getElem?_eq_none (by omega)] at hh; simp at hh
      have hgw : w.heap.size < w1.heap.size := HX1.out.lt
      refine Or.inr ⟨g, cap, cur, hv, Nat.zero_le _, ?_, r⟩
      rw [HW2b.out, HW2a.out, Below.heap_setCell _ _ _ _ (by simp; omega), Below.heap_alloc _ _ _ hgl]
      exact hh
  have c0 := HX3.out.cell 0
  have c1 := HX3.out.cell 1
  have c2 := HX3.out.cell 2
  have c3 := HX3.out.cell 3
  have c4 := HX3.out.cell 4
  have c5 := HX3.out.cell 5
  simp only [Cfg.valsE, List.getElem?_cons_succ, List.getElem?_cons_zero] at c0 c1 c2 c3 c4 c5
  have d0 := HP3.out.cell 0
  have d1 := HP3.out.cell 1
  have d2 := HP3.out.cell 2
  simp only [List.getElem?_cons_succ, List.getElem?_cons_zero] at d0 d1 d2
  go_upto_region 8 with fail
  obtain ⟨w3, HW3⟩ := hex (w2b.alloc (.cells (engV c p none 0 0).toArray 88))
  have hw3 : w2b.alloc (.cells #[.int .i64 c.sources, .int .i64 c.slack, .int .i64 c.policy, .int .i64 c.room, .int .i64 c.idle, .string ByteArray.empty, .slice pa c.ps.length pc, .bool c.same, .int .i64 c.win, .slice none 0 0, .int .i64 (-2199023255552), .slice none 0 0, .slice none 0 0, .slice none 0 0] 88) = w3 := by rw [HW3.out, HPv.out]; rfl
  rw [hw3]
  obtain ⟨b, HBb⟩ := hex (w2.heap.size + 1)
  obtain ⟨cb, HCb⟩ := hex w.heap.size
  have hw1s : w.heap.size < w1.heap.size := HX1.out.lt
  have HK0 : Hid (NewK w w3 b cb c p 0 none 0) := by
    refine ⟨?_, ?_, ⟨?_, ?_⟩, (fun g e => by cases e), by simpa using Row.nil _ _ _, ?_, (fun g e => by cases e)⟩
    · rw [HW3.out, HBb.out, ← hsz3]; exact blk_alloc _ _ _
    · rw [HW3.out, HCb.out]; exact HX3.out.alloc _
    · rw [HW3.out]; exact HRow3.out.1.kept ((Kept.refl (fun _ => False) w2b).alloc _) (fun _ _ e => e)
    · intro g e
      have := HRow3.out.2 g e
      rw [HBb.out, HCb.out]; omega
    · rw [HW3.out]; exact HB3.out.alloc (by omega) _
  have HBC : Hid (w.heap.size ≤ b ∧ w.heap.size ≤ cb ∧ b ≠ cb) := by show _ ∧ _; rw [HBb.out, HCb.out]; omega
  rw [← HBb.out, ← HCb.out]
  clear hw3 HW3 c0 c1 c2 c3 c4 c5 d0 d1 d2 hsz hsz3 hw1s HBw HX2 HB2 HX1 HB1 HX HB0 HBb HCb HX3 HP3 HB3 HRow3 HR2 HPv HW2a HW2b HX2a HP2a HBa
  go_loopw [26] (fun _ wr => ∃ (k cc : Nat) (a : Option Addr), k ≤ n ∧ NewK w wr b cb c p k a cc) (fun _ wr => n - lenAt wr b)
  case atStart => exact ⟨0, 0, none, Nat.zero_le _, HK0.out⟩
  case round =>
    obtain ⟨k, cc, a, hk, hnk⟩ := hrel
    have HK : Hid (NewK w wr b cb c p k a cc) := hnk
    clear hnk
    have e6 := HK.out.eng.cell 9
    have fz6 := HK.out.eng.frozen 9
    simp only [engV, Cfg.valsE, List.cons_append, List.nil_append, List.getElem?_cons_succ, List.getElem?_cons_zero] at e6
    have b0 := HK.out.box.cell 0
    simp only [Cfg.valsE, List.getElem?_cons_zero, HN.out] at b0
    have hwb := HBC.out.1
    have hla := HK.out.lenAt
    by_cases hlt : k < n
    · have hlt' : (k : Int) < (n : Int) := by omega
      have HRow : Hid (Row wr 91 6 a k cc ((List.replicate k zP).flatMap PSrc.vals)) := HK.out.row
      have hbl := HK.out.eng.lt
      have hcbl := HK.out.box.lt
      have hwrs := HK.out.bel.size
      have HM : Hid (lenAt wr b = k) := hla
      clear hla
      go_wp2_with (at_builtin; refine wpList_append_lies _ rfl _ _ _ rfl 0 91 i0 _ 6 56 Tryz.underlying86 hi0 hz0 hz1 hz2 rfl (by omega) (.slice a k cc) k ((List.replicate k zP).flatMap PSrc.vals) rfl (ownsRow_of_heap HRow.out (fun j hj => Below.heap_alloc _ _ _ hj)) ⟨wr.heap.size, 0, none⟩ 1 1 zP.vals rfl rfl (news_new _ _ (by simp) zP.vals 91) (by simp [PSrc.vals, Value.oneCell']) (by omega) (by unfold maxLen; omega) (by omega) (by simp) (wr.heap.size + 1) (by simp) ?_; intro g2 cap w1 hown1 hgrow hat hlt1; rw [bk_own] at hgrow hat; have HG6 : Hid (Blk w1 b 88 (engV c p a k cc) ∧ Blk w1 cb 27 c.valsE) := ⟨(HK.out.eng.alloc _).grown hgrow (fun e => (HK.out.off _ e).1 rfl), (HK.out.box.alloc _).grown hgrow (fun e => (HK.out.off _ e).2.1 rfl)⟩; have e6' := HG6.out.1.cell 9; have fz6' := HG6.out.1.frozen 9; simp only [engV, Cfg.valsE, List.cons_append, List.nil_append, List.getElem?_cons_succ, List.getElem?_cons_zero] at e6')
      have hNK : NewK w (w1.setCell ⟨b, 9, none⟩ (.slice (some ⟨g2, 0, none⟩) (k + 1) cap)) b cb c p (k + 1) (some ⟨g2, 0, none⟩) cap := by
        have hgb : g2 ≠ b ∧ g2 ≠ cb ∧ w.heap.size ≤ g2 := by
          rcases hat with h | h
          · exact HK.out.off _ h
          · omega
        have hgp : bk p.pa ≠ some g2 := by
          rcases hat with h | h
          · exact HK.out.offp _ h
          · intro e
            have := HK.out.pat.row.lt e
            omega
        refine ⟨?_, HG6.out.2.other (by simp only; exact HBC.out.2.2) _, ⟨?_, HK.out.pat.off⟩, ?_, ?_, ?_, ?_⟩
        · have := HG6.out.1.set 9 (.slice (some ⟨g2, 0, none⟩) (k + 1) cap)
          simpa [engV, Cfg.valsE] using this
        · refine Row.other ?_ (fun e => (HK.out.pat.off b e).1 rfl) _
          exact HK.out.pat.row.kept (((Kept.refl (fun k => bk a = some k) wr).alloc _).grown hgrow (fun k _ e => e)) (fun k e f => HK.out.offp k f e)
        · intro g e
          simp only [bk, Option.map_some, Option.some.injEq] at e
          subst e
          exact hgp
        · have : (List.replicate (k + 1) zP).flatMap PSrc.vals = (List.replicate k zP).flatMap PSrc.vals ++ zP.vals := by rw [List.replicate_succ', List.flatMap_append]; simp
          rw [this]
          exact Row.other (a := some ⟨g2, 0, none⟩) hown1 (by simp [bk]; exact hgb.1) _
        · have b1 : Below w.heap.size w (wr.alloc (.cells zP.vals.toArray 91)) := HK.out.bel.alloc hwrs _
          have b2 : Below w.heap.size w w1 := b1.grown hgrow b1.size (fun k e => (HK.out.off k e).2.2)
          exact b2.setCell (by omega) _
        · intro g e
          simp only [bk, Option.map_some, Option.some.injEq] at e
          subst e
          exact hgb
      go_roundw
      case rel => exact ⟨k + 1, cap, some ⟨g2, 0, none⟩, by omega, hNK⟩
      case measure =>
        have e1 := hNK.lenAt
        have e2 := HM.out
        rw [e1, e2]; omega
    · obtain rfl : k = n := by omega
      go_wp2
      go_ret2
      obtain ⟨g, hg, _⟩ := HK.out.row.form (by omega)
      subst hg
      have hoff := HK.out.off g rfl
      refine ⟨b, g, cc, p, rfl, newEng_mem (by omega) HK.out.pat.row (fun e => (HK.out.pat.off b e).1 rfl) (HK.out.offp g rfl) HK.out.eng HK.out.row (Ne.symm hoff.1), ?_, HK.out.bel⟩
      intro j hj
      unfold Eng.fp newEng at hj
      simp only [List.map_replicate, zP, List.cons_append, List.nil_append, List.mem_cons, Option.some.injEq, List.mem_replicate] at hj
      rcases hj with hj | hj | hj | hj | hj | hj | hj
      · rw [hj]; exact HBC.out.1
      · rw [hj]; exact hoff.2.2
      · cases hj
      · cases hj
      · cases hj
      · exact (HK.out.pat.off j hj.symm).2.2
      · cases hj.2
end Go.Proofs.YtghcololkgeoeabGreat
namespace Go.Proofs.YtghcololkgeoeabGreat
open Go.RowKit
set_option linter.unusedVariables false
set_option linter.unusedSimpArgs false
attribute [local go_sem ↓] Go.wp_at_zero Go.wp_at_succ

set_option maxHeartbeats 400000 in
theorem isTime_any (t : Int) (w : World) : Calls Tryz.prog 65 #[.int .i64 t] w fun e w' => e = .returned (.bool (!beyondB t)) ∧ w = w' := by
  have HD : Hid (decide (-1099511627776 ≤ t ∧ t ≤ 1099511627776) = !beyondB t) := by
    show _ = _
    unfold beyondB
    by_cases h : t < -1099511627776 ∨ 1099511627776 < t
    · simp [h]; omega
    · simp [h]; omega
  go_enter Tryz.func65, Tryz.ntmps65
  go_wp2_with (go_at_call 67; refine (within_any _ _ _ _).mono ?_; rintro e w' ⟨rfl, rfl⟩; rw [HD.out])
  go_ret
  exact ⟨rfl, rfl⟩
set_option maxRecDepth 100000 in
set_option maxHeartbeats 2000000 in
theorem isEvent_any (E : Ev) (w : World) : Calls Tryz.prog 84 #[E.agg] w fun e w' => e = .returned (.bool (!badB E)) ∧ Below w.heap.size w w' := by
  have hB : Below w.heap.size w (w.alloc (.cells #[.int .i64 E.src, .int .i64 E.seq, .int .i64 E.ts, .int .i64 E.kind, .int .i64 E.val] 30)) := (Below.refl _ _).alloc (Nat.le_refl _) _
  have HF : Hid (badB E = false ↔ (0 ≤ E.seq ∧ E.seq ≤ 1099511627776) ∧ (65 ≤ E.kind ∧ E.kind ≤ 90) ∧ (-1099511627776 ≤ E.val ∧ E.val ≤ 1099511627776)) := by
    show _ ↔ _
    unfold badB beyondB
    simp
    omega
  unfold Ev.agg
  cases h1 : decide (0 ≤ E.seq ∧ E.seq ≤ 1099511627776) with
  | false =>
    have hf : badB E = true := by
      cases hb : badB E with
      | true => rfl
      | false => have := HF.out.1 hb; simp at h1; omega
    rw [hf]
    have H1 : Hid (decide (0 ≤ E.seq ∧ E.seq ≤ 1099511627776) = false) := h1
    clear h1 hf
    go_enter Tryz.func84, Tryz.ntmps84
    go_wp2_with (go_at_call 67; refine (within_any _ _ _ _).mono ?_; rintro e w' ⟨rfl, rfl⟩; rw [H1.out])
    go_ret
    exact ⟨rfl, hB⟩
  | true =>
    have H1 : Hid (decide (0 ≤ E.seq ∧ E.seq ≤ 1099511627776) = true) := h1
    clear h1
    cases h2 : decide (65 ≤ E.kind ∧ E.kind ≤ 90) with
    | false =>
      have hf : badB E = true := by
        cases hb : badB E with
        | true => rfl
        | false => have := HF.out.1 hb; simp at h2; omega
      rw [hf]
      have H2 : Hid (decide (65 ≤ E.kind ∧ E.kind ≤ 90) = false) := h2
      clear h2 hf
      go_enter Tryz.func84, Tryz.ntmps84
      go_wp2_with (go_at_call 67; refine (within_any _ _ _ _).mono ?_; rintro e w' ⟨rfl, rfl⟩; first | rw [H1.out] | rw [H2.out])
      go_ret
      exact ⟨rfl, hB⟩
    | true =>
      have H2 : Hid (decide (65 ≤ E.kind ∧ E.kind ≤ 90) = true) := h2
      clear h2
      obtain ⟨t5, h5⟩ : ∃ t5, decide (-1099511627776 ≤ E.val ∧ E.val ≤ 1099511627776) = t5 := ⟨_, rfl⟩
      have H5 : Hid (decide (-1099511627776 ≤ E.val ∧ E.val ≤ 1099511627776) = t5) := h5
      clear h5
      have hf : (!badB E) = t5 := by
        have a1 := of_decide_eq_true H1.out
        have a2 := of_decide_eq_true H2.out
        have hx : badB E = false ↔ t5 = true := by
          rw [HF.out, ← H5.out, decide_eq_true_iff]
          exact ⟨fun h => h.2.2, fun h => ⟨a1, a2, h⟩⟩
        cases hb : badB E <;> cases t5 <;> simp_all
      rw [hf]
      clear hf
      go_enter Tryz.func84, Tryz.ntmps84
      go_wp2_with (go_at_call 67; refine (within_any _ _ _ _).mono ?_; rintro e w' ⟨rfl, rfl⟩; first | rw [H1.out] | rw [H2.out] | rw [H5.out])
      go_ret
      exact ⟨rfl, hB⟩
def pWrong (p : PSrc) (e : Ev) : Int := if p.inn = false then 4 else if badB e = true then 5 else if beyondB e.ts = true then 6 else if e.seq ≤ p.last then 7 else 0
set_option maxRecDepth 100000 in
set_option maxHeartbeats 1000000 in
theorem xcheckPush_none (b : Nat) (X : Eng) (s : Int) (E : Ev) (w : World) (h : MemX w b X) (hs : s < 0 ∨ (X.srcs.length : Int) ≤ s) :
    Calls Tryz.prog 56 #[.pointer (some ⟨b, 0, none⟩), .int .i64 s, E.agg] w fun e w' => e = .returned (.int .i64 3) ∧ Below w.heap.size w w' := by
  have hB : Below w.heap.size w (w.alloc (.cells #[.int .i64 E.src, .int .i64 E.seq, .int .i64 E.ts, .int .i64 E.kind, .int .i64 E.val] 30)) := (Below.refl _ _).alloc (Nat.le_refl _) _
  unfold Ev.agg
  go_enter Tryz.func56, Tryz.ntmps56
  go_wp2_with (go_at_call 55; refine (xcheckIn_none b X s _ (h.alloc _) hs).mono ?_; rintro e w' ⟨rfl, rfl⟩)
  go_ret
  exact ⟨rfl, hB⟩
set_option maxRecDepth 100000 in
set_option maxHeartbeats 2000000 in
theorem xcheckPush_some (b : Nat) (X : Eng) (i : Nat) (E : Ev) (w : World) (h : MemX w b X) (hi : i < X.srcs.length) :
    Calls Tryz.prog 56 #[.pointer (some ⟨b, 0, none⟩), .int .i64 i, E.agg] w fun e w' => e = .returned (.int .i64 (pWrong X.srcs[i] E)) ∧ Below w.heap.size w w' := by
  obtain ⟨w1, HW1⟩ := hex (w.alloc (.cells E.vals.toArray 30))
  have hw1 : w.alloc (.cells #[.int .i64 E.src, .int .i64 E.seq, .int .i64 E.ts, .int .i64 E.kind, .int .i64 E.val] 30) = w1 := HW1.out.symm
  have HB1 : Hid (Below w.heap.size w w1) := by show Below _ _ _; rw [HW1.out]; exact (Below.refl _ _).alloc (Nat.le_refl _) _
  have HM1 : Hid (MemX w1 b X) := h.below HB1.out
  have HE1 : Hid (Blk w1 w.heap.size 30 E.vals) := by show Blk _ _ _ _; rw [HW1.out]; exact blk_alloc _ _ _
  have hev : ∀ u, Calls Tryz.prog 84 #[.agg #[.int .i64 E.src, .int .i64 E.seq, .int .i64 E.ts, .int .i64 E.kind, .int .i64 E.val]] u fun e w' => e = .returned (.bool (!badB E)) ∧ Below u.heap.size u w' := fun u => isEvent_any E u
  have hi' : (i : Int) < (X.srcs.length : Int) := by omega
  have hi0 : (0 : Int) ≤ (i : Int) := by omega
  have m0 := HE1.out.cell 0
  have m1 := HE1.out.cell 1
  have m2 := HE1.out.cell 2
  have m3 := HE1.out.cell 3
  have m4 := HE1.out.cell 4
  simp only [Ev.vals, List.getElem?_cons_zero, List.getElem?_cons_succ] at m0 m1 m2 m3 m4
  clear h
  unfold pWrong Ev.agg
  cases hin : X.srcs[i].inn with
  | false =>
    have HI : Hid ((if X.srcs[i].inn then (0 : Int) else 4) = 4) := by show _ = _; rw [hin]; rfl
    simp only [if_true]
    go_enter Tryz.func56, Tryz.ntmps56
    go_wp2_with (go_at_call 55; refine (xcheckIn_some b X i _ HM1.out hi).mono ?_; rintro e w' ⟨rfl, rfl⟩; rw [HI.out])
    go_ret
    exact ⟨rfl, HB1.out⟩
  | true =>
    have HI : Hid ((if X.srcs[i].inn then (0 : Int) else 4) = 0) := by show _ = _; rw [hin]; rfl
    simp only [Bool.true_eq_false, if_false]
    cases hbd : badB E with
    | true =>
      have HV : Hid (badB E = true) := hbd
      simp only [if_true]
      clear hbd
      go_enter Tryz.func56, Tryz.ntmps56
      go_wp2_with (first
        | (go_at_call 55; refine (xcheckIn_some b X i _ HM1.out hi).mono ?_; rintro e w' ⟨rfl, rfl⟩; rw [HI.out])
        | (go_at_call 84; refine (hev _).mono ?_; rintro e w2 ⟨rfl, hb2⟩; rw [HV.out]))
      go_ret
      exact ⟨rfl, HB1.out.trans (hb2.mono HB1.out.size)⟩
    | false =>
      have HV : Hid (badB E = false) := hbd
      simp only [Bool.false_eq_true, if_false]
      clear hbd
      cases hts : beyondB E.ts with
      | true =>
        have HT : Hid (beyondB E.ts = true) := hts
        simp only [if_true]
        clear hts
        go_enter Tryz.func56, Tryz.ntmps56
        go_upto_region 6 with (first
          | (go_at_call 55; refine (xcheckIn_some b X i _ HM1.out hi).mono ?_; rintro e w' ⟨rfl, rfl⟩; rw [HI.out])
          | (go_at_call 84; refine (hev _).mono ?_; rintro e w2 ⟨rfl, hb2⟩; rw [HV.out]))
        have HB2 : Hid (Below w1.heap.size w1 w2) := hb2
        clear hb2 m0 m1 m2 m3 m4
        have m2 := (HE1.out.below HB2.out HE1.out.lt).cell 2
        simp only [Ev.vals, List.getElem?_cons_zero, List.getElem?_cons_succ] at m2
        go_wp2_with (go_at_call 65; refine (isTime_any _ _).mono ?_; rintro e w3 ⟨rfl, rfl⟩; rw [HT.out])
        go_ret
        exact ⟨rfl, HB1.out.trans (HB2.out.mono HB1.out.size)⟩
      | false =>
        have HT : Hid (beyondB E.ts = false) := hts
        simp only [Bool.false_eq_true, if_false]
        clear hts
        obtain ⟨L, HLs⟩ := hex X.srcs[i].last
        rw [← HLs.out]
        by_cases hq : E.seq ≤ L
        · simp only [hq, if_true]
          go_enter Tryz.func56, Tryz.ntmps56
          go_upto_region 6 with (first
            | (go_at_call 55; refine (xcheckIn_some b X i _ HM1.out hi).mono ?_; rintro e w' ⟨rfl, rfl⟩; rw [HI.out])
            | (go_at_call 84; refine (hev _).mono ?_; rintro e w2 ⟨rfl, hb2⟩; rw [HV.out]))
          have HB2 : Hid (Below w1.heap.size w1 w2) := hb2
          clear hb2 m0 m1 m2 m3 m4
          have m1 := (HE1.out.below HB2.out HE1.out.lt).cell 1
          have m2 := (HE1.out.below HB2.out HE1.out.lt).cell 2
          simp only [Ev.vals, List.getElem?_cons_zero, List.getElem?_cons_succ] at m1 m2
          obtain ⟨_, _, _, _, c6, _⟩ := (HM1.out.below HB2.out).cells
          have s4 := (HM1.out.below HB2.out).srcCell i 4 hi (by omega)
          simp only [PSrc.vals, List.getElem?_cons_zero, List.getElem?_cons_succ, Nat.add_zero] at s4
          rw [← HLs.out] at s4
          go_wp2_with (go_at_call 65; refine (isTime_any _ _).mono ?_; rintro e w3 ⟨rfl, rfl⟩; rw [HT.out])
          go_quiet (fail)
          go_wp2
          go_ret
          exact ⟨rfl, bdrewN (HB1.out.trans (HB2.out.mono HB1.out.size)) _⟩
        · simp only [hq, if_false]
          have hd : decide (E.seq ≤ L) = false := by simpa using hq
          go_enter Tryz.func56, Tryz.ntmps56
          go_upto_region 6 with (first
            | (go_at_call 55; refine (xcheckIn_some b X i _ HM1.out hi).mono ?_; rintro e w' ⟨rfl, rfl⟩; rw [HI.out])
            | (go_at_call 84; refine (hev _).mono ?_; rintro e w2 ⟨rfl, hb2⟩; rw [HV.out]))
          have HB2 : Hid (Below w1.heap.size w1 w2) := hb2
          clear hb2 m0 m1 m2 m3 m4
          have m1 := (HE1.out.below HB2.out HE1.out.lt).cell 1
          have m2 := (HE1.out.below HB2.out HE1.out.lt).cell 2
          simp only [Ev.vals, List.getElem?_cons_zero, List.getElem?_cons_succ] at m1 m2
          obtain ⟨_, _, _, _, c6, _⟩ := (HM1.out.below HB2.out).cells
          have s4 := (HM1.out.below HB2.out).srcCell i 4 hi (by omega)
          simp only [PSrc.vals, List.getElem?_cons_zero, List.getElem?_cons_succ, Nat.add_zero] at s4
          rw [← HLs.out] at s4
          go_wp2_with (go_at_call 65; refine (isTime_any _ _).mono ?_; rintro e w3 ⟨rfl, rfl⟩; rw [HT.out])
          go_quiet (fail)
          go_wp2
          go_ret
          exact ⟨rfl, bdrewN (HB1.out.trans (HB2.out.mono HB1.out.size)) _⟩

set_option maxRecDepth 100000 in
set_option maxHeartbeats 1000000 in
theorem xisLate_any (b : Nat) (X : Eng) (i : Nat) (ts : Int) (w : World) (h : MemX w b X) (hi : i < X.srcs.length) :
    Calls Tryz.prog 57 #[.pointer (some ⟨b, 0, none⟩), .int .i64 i, .int .i64 ts] w fun e w' => e = .returned (.bool (X.isLate X.srcs[i] ts)) ∧ w = w' := by
  obtain ⟨_, _, _, _, c6, c7, _⟩ := h.cells
  have s1 := h.srcCell i 1 hi (by omega)
  have s2 := h.srcCell i 2 hi (by omega)
  simp only [PSrc.vals, List.getElem?_cons_zero, List.getElem?_cons_succ, Nat.add_zero] at s1 s2
  have hi' : (i : Int) < (X.srcs.length : Int) := by omega
  have hi0 : (0 : Int) ≤ (i : Int) := by omega
  obtain ⟨P, HP⟩ := hex X.srcs[i]
  rw [← HP.out] at s1 s2 ⊢
  have HL : Hid (X.isLate P ts = ((P.idle && decide (ts < X.merged)) || decide (ts < P.mark))) := rfl
  generalize hid : P.idle = pid at *
  cases pid with
  | false =>
    have HR : Hid (X.isLate P ts = decide (ts < P.mark)) := by show _ = _; rw [HL.out]; simp
    go_enter Tryz.func57, Tryz.ntmps57
    go_wp2
    go_ret
    exact ⟨ret_bool HR.out.symm, rfl⟩
  | true =>
    by_cases hm : ts < X.merged
    · have HR : Hid (X.isLate P ts = true) := by show _ = _; rw [HL.out]; simp [hm]
      go_enter Tryz.func57, Tryz.ntmps57
      go_wp2
      go_ret
      exact ⟨ret_bool HR.out.symm, rfl⟩
    · have HR : Hid (X.isLate P ts = decide (ts < P.mark)) := by show _ = _; rw [HL.out]; simp [hm]
      have hd : decide (ts < X.merged) = false := by simpa using hm
      go_enter Tryz.func57, Tryz.ntmps57
      go_wp2
      go_ret
      exact ⟨ret_bool HR.out.symm, rfl⟩
set_option maxRecDepth 100000 in
set_option maxHeartbeats 1000000 in
theorem xfate_any (b : Nat) (X : Eng) (late : Bool) (w : World) (h : MemX w b X) :
    Calls Tryz.prog 58 #[.pointer (some ⟨b, 0, none⟩), .bool late] w fun e w' => e = .returned (.int .i64 (X.fate late)) ∧ w = w' := by
  obtain ⟨_, c2, _⟩ := h.cells
  have HF : Hid (X.fate late = if late then (if X.c.policy = 1 then 1 else if X.c.policy = 2 then 3 else 0) else 2) := rfl
  cases late with
  | false =>
    have HR : Hid (X.fate false = 2) := rfl
    go_enter Tryz.func58, Tryz.ntmps58
    go_wp2
    go_ret
    exact ⟨ret_int HR.out.symm, rfl⟩
  | true =>
    by_cases h1 : X.c.policy = 1
    · have HR : Hid (X.fate true = 1) := by show _ = _; rw [HF.out]; simp [h1]
      rw [h1] at c2
      go_enter Tryz.func58, Tryz.ntmps58
      go_wp2
      go_ret
      exact ⟨ret_int HR.out.symm, rfl⟩
    · by_cases h2 : X.c.policy = 2
      · have HR : Hid (X.fate true = 3) := by show _ = _; rw [HF.out]; simp [h2]
        rw [h2] at c2
        go_enter Tryz.func58, Tryz.ntmps58
        go_wp2
        go_ret
        exact ⟨ret_int HR.out.symm, rfl⟩
      · have HR : Hid (X.fate true = 0) := by show _ = _; rw [HF.out]; simp [h1, h2]
        have d1 : (X.c.policy == 1) = false := by simpa using h1
        have d2 : (X.c.policy == 2) = false := by simpa using h2
        go_enter Tryz.func58, Tryz.ntmps58
        go_wp2
        go_ret
        exact ⟨ret_int HR.out.symm, rfl⟩
set_option maxRecDepth 100000 in
set_option maxHeartbeats 2000000 in
theorem xisFull_any (b : Nat) (X : Eng) (i : Nat) (f : Int) (w : World) (h : MemX w b X) (hs : SaneX X) :
    Calls Tryz.prog 59 #[.pointer (some ⟨b, 0, none⟩), .int .i64 i, .int .i64 f] w fun e w' => e = .returned (.bool (X.full i f)) ∧ Below w.heap.size w w' := by
  obtain ⟨_, _, c3, _, _, _, c8, c9, c10⟩ := h.cells
  have H : Hid (MemX w b X) := h
  have hw := hs.wait
  have hg := hs.log
  have hla := hs.late
  clear h hs
  have HF : Hid (X.full i f = if f = 0 then false else if f = 1 then decide (200 ≤ X.late.length) else (decide (200 ≤ X.wait.length + X.log.length) || decide (X.c.room ≤ X.waitOf i))) := rfl
  by_cases h0 : f = 0
  · subst h0
    have HR : Hid (X.full i 0 = false) := rfl
    go_enter Tryz.func59, Tryz.ntmps59
    go_wp2
    go_ret
    exact ⟨ret_bool HR.out.symm, Below.refl _ _⟩
  · have d0 : (f == 0) = false := by simpa using h0
    by_cases h1 : f = 1
    · subst h1
      have HR : Hid (X.full i 1 = decide ((200 : Int) ≤ (X.late.length : Int))) := by show _ = _; rw [HF.out]; simp; omega
      go_enter Tryz.func59, Tryz.ntmps59
      go_wp2
      go_ret
      exact ⟨ret_bool HR.out.symm, Below.refl _ _⟩
    · have d1 : (f == 1) = false := by simpa using h1
      by_cases h2 : (200 : Int) ≤ (X.wait.length : Int) + (X.log.length : Int)
      · have HR : Hid (X.full i f = true) := by show _ = _; rw [HF.out, if_neg h0, if_neg h1]; simp; left; omega
        clear HF
        go_enter Tryz.func59, Tryz.ntmps59
        go_wp2
        go_quiet (fail)
        go_wp2
        go_ret
        exact ⟨ret_bool HR.out.symm, bdrewN (Below.refl _ _) _⟩
      · have HR : Hid (X.full i f = decide (X.c.room ≤ X.waitOf i)) := by show _ = _; rw [HF.out, if_neg h0, if_neg h1]; simp; intro; omega
        have d2 : decide ((200 : Int) ≤ (X.wait.length : Int) + (X.log.length : Int)) = false := by simpa using h2
        clear HF
        go_enter Tryz.func59, Tryz.ntmps59
        go_wp2
        go_quiet (fail)
        go_upto_region 8 with fail
        obtain ⟨wq, HWq⟩ := hex (w.drewN nq)
        rw [← HWq.out]
        have HMq : Hid (MemX wq b X) := by show MemX _ _ _; rw [HWq.out]; exact H.out.drewN nq
        have HBq : Hid (Below w.heap.size w wq) := by show Below _ _ _; rw [HWq.out]; exact bdrewN (Below.refl _ _) nq
        clear HWq c3 c8 c9 c10 d2 h2
        have c3 := HMq.out.cells.2.2.1
        refine upTo_region (fun u => u.cell? ⟨b, 3, none⟩ = some (.int .i64 X.c.room)) 9 10 rfl (by kernel_rfl) ?_
        have hS0 : (fun u : World => u.cell? ⟨b, 3, none⟩ = some (.int .i64 X.c.room)) wq.drew := c3
        refine upTo_tk (i := 0) (v := ?v14_0) rfl (by kernel_rfl) (fun _ _ _ h => h) (by rfl) hS0 ?h14_0 ?r14_0
        case h14_0 => (intro u hu; (try dsimp only at hu); go_simp; first | done | with_reducible rfl)
        (try simp only [Act.put, tkS])
        refine upTo_tk (i := 1) (v := ?v14_1) rfl (by kernel_rfl) (fun _ _ _ h => h) (by rfl) hS0 ?h14_1 ?r14_1
        case h14_1 => (intro u hu; (try dsimp only at hu); go_simp; first | done | with_reducible rfl)
        (try simp only [Act.put, tkS])
        refine upTo_tk (i := 3) (v := ?v14_3) rfl (by kernel_rfl) (fun _ _ _ h => h) (by rfl) hS0 ?h14_3 ?r14_3
        case h14_3 => (intro u hu; (try dsimp only at hu); go_simp; first | done | with_reducible rfl)
        (try simp only [Act.put, tkS])
        refine upTo_tk (i := 4) (v := ?v14_4) rfl (by kernel_rfl) (fun _ _ _ h => h) (by rfl) hS0 ?h14_4 ?r14_4
        case h14_4 => (intro u hu; (try dsimp only at hu); go_simp; first | done | with_reducible rfl)
        (try simp only [Act.put, tkS])
        refine upTo_tk (i := 5) (v := ?v14_5) rfl (by kernel_rfl) (fun _ _ _ h => h) (by rfl) hS0 ?h14_5 ?r14_5
        case h14_5 => (intro u hu; (try dsimp only at hu); go_simp; first | done | with_reducible rfl)
        (try simp only [Act.put, tkS])
        refine upTo_tk (i := 6) (v := ?v14_6) rfl (by kernel_rfl) (fun _ _ _ h => h) (by rfl) hS0 ?h14_6 ?r14_6
        case h14_6 => (intro u hu; (try dsimp only at hu); go_simp; first | done | with_reducible rfl)
        (try simp only [Act.put, tkS])
        refine upTo_tk (i := 7) (v := ?v14_7) rfl (by kernel_rfl) (fun _ _ _ h => h) (by rfl) hS0 ?h14_7 ?r14_7
        case h14_7 => (intro u hu; (try dsimp only at hu); go_simp; first | done | with_reducible rfl)
        (try simp only [Act.put, tkS])
        refine upTo_one (i := 2) (by kernel_rfl) rfl (fun K hK => ?_)
        go_simp
        refine (xwaitingOf_any b X i _ HMq.out.drew hw).mono ?_
        rintro e w2 ⟨rfl, hb2⟩
        have HB2 : Hid (Below wq.heap.size wq w2) := ⟨hb2.os, hb2.tape, hb2.output, hb2.size, hb2.block⟩
        clear hb2 hS0 c3
        have c3 := (HMq.out.below HB2.out).cells.2.2.1
        refine hK.out _ _ (fun _ => c3) ?_
        clear hK K
        (try simp only [Act.put, tkS])
        refine upTo_one (i := 8) (by kernel_rfl) rfl (fun K hK => ?_)
        go_simp
        refine hK.out _ _ (fun _ => c3) ?_
        clear hK K
        (try simp only [Act.put, tkS])
        refine upTo_one (i := 9) (by kernel_rfl) rfl (fun K hK => ?_)
        go_simp
        refine hK.out _ _ (fun h => absurd rfl h) ?_
        clear hK K
        (try simp only [Act.put, tkS])
        refine upTo_done (by kernel_rfl) ?_
        go_wp2
        go_ret
        exact ⟨ret_bool HR.out.symm, HBq.out.trans (HB2.out.mono HBq.out.size)⟩
set_option maxRecDepth 100000 in
set_option maxHeartbeats 2000000 in
theorem xisAhead_any (A C : Ev) (w : World) : Calls Tryz.prog 97 #[A.agg, C.agg] w fun e w' => e = .returned (.bool (aheadB A C)) ∧ Below w.heap.size w w' := by
  unfold Ev.agg
  by_cases h1 : A.ts = C.ts
  · by_cases h2 : A.src = C.src
    · have HR : Hid (aheadB A C = decide (A.seq < C.seq)) := by show _ = _; simp [aheadB, h1, h2]
      go_enter Tryz.func97, Tryz.ntmps97
      go_wp2
      go_ret
      exact ⟨ret_bool HR.out.symm, ((Below.refl _ _).alloc (Nat.le_refl _) _).alloc (by simp) _⟩
    · have HR : Hid (aheadB A C = decide (A.src < C.src)) := by show _ = _; simp [aheadB, h1, h2]
      have d2 : (A.src != C.src) = true := by simpa using h2
      go_enter Tryz.func97, Tryz.ntmps97
      go_wp2
      go_ret
      exact ⟨ret_bool HR.out.symm, ((Below.refl _ _).alloc (Nat.le_refl _) _).alloc (by simp) _⟩
  · have HR : Hid (aheadB A C = decide (A.ts < C.ts)) := by show _ = _; simp [aheadB, h1]
    have d1 : (A.ts != C.ts) = true := by simpa using h1
    go_enter Tryz.func97, Tryz.ntmps97
    go_wp2
    go_ret
    exact ⟨ret_bool HR.out.symm, ((Below.refl _ _).alloc (Nat.le_refl _) _).alloc (by simp) _⟩
end Go.Proofs.YtghcololkgeoeabGreat
