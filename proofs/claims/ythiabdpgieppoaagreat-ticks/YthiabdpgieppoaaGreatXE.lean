import Derived.Test.YthiabdpgieppoaaGreatXD
import Derived.Laws.AppendOwnNone
namespace Go.Proofs.YthiabdpgieppoaaGreat
open Go.RowKit
set_option linter.unusedVariables false
set_option linter.unusedSimpArgs false
attribute [local go_sem ↓] Go.wp_at_zero Go.wp_at_succ

set_option maxHeartbeats 400000 in
theorem xmark_any (b : Nat) (X : Eng) (w : World) (h : MemX w b X) :
    Calls Tryz.prog 61 #[.pointer (some ⟨b, 0, none⟩)] w fun e w' => e = .returned (.int .i64 X.merged) ∧ w = w' := by
  obtain ⟨_, _, _, _, _, c7, _⟩ := h.cells
  go_enter Tryz.func61, Tryz.ntmps61
  go_wp2
  go_ret
  exact ⟨rfl, rfl⟩
set_option maxHeartbeats 1000000 in
theorem xsource_none (b : Nat) (X : Eng) (s : Int) (w : World) (h : MemX w b X) (hs : s < 0 ∨ (X.srcs.length : Int) ≤ s) :
    Calls Tryz.prog 62 #[.pointer (some ⟨b, 0, none⟩), .int .i64 s] w fun e w' => e = .returned (.tuple #[srcAgg false false 0 0 0, .int .i64 3]) ∧ Below w.heap.size w w' := by
  have HD : Hid (decide (0 ≤ s ∧ s < (X.srcs.length : Int)) = false) := by show _ = _; simp; omega
  clear hs
  go_enter Tryz.func62, Tryz.ntmps62
  go_wp2_with (go_at_call 36; refine (xhas_any b X s _ (h.alloc _)).mono ?_; rintro e w' ⟨rfl, rfl⟩; rw [HD.out])
  refine bodyPost_ret (v := .tuple #[srcAgg false false 0 0 0, .int .i64 3]) (by simp [results, Tryz.results62, go_sem, srcAgg]) rfl ⟨rfl, ?_⟩
  exact (Below.refl _ _).alloc (Nat.le_refl _) _
set_option maxRecDepth 100000 in
set_option maxHeartbeats 2000000 in
theorem xsource_some (b : Nat) (X : Eng) (i : Nat) (w : World) (h : MemX w b X) (hs : SaneX X) (hi : i < X.srcs.length) :
    Calls Tryz.prog 62 #[.pointer (some ⟨b, 0, none⟩), .int .i64 i] w fun e w' => e = .returned (.tuple #[srcAgg X.srcs[i].inn X.srcs[i].idle X.srcs[i].mark (X.waitOf i) X.srcs[i].last, .int .i64 0]) ∧ Below w.heap.size w w' := by
  have HD : Hid (decide (0 ≤ (i : Int) ∧ (i : Int) < (X.srcs.length : Int)) = true) := by show _ = _; simp; omega
  have HA : Hid (MemX (w.alloc (.cells z5.toArray 108)) b X) := h.alloc _
  have HZ : Hid (Blk (w.alloc (.cells z5.toArray 108)) w.heap.size 108 z5) := blk_alloc _ _ _
  have hwl := hs.wait
  have hi' : (i : Int) < (X.srcs.length : Int) := by omega
  have hi00 : (0 : Int) ≤ (i : Int) := by omega
  clear h hs
  obtain ⟨P, HP⟩ := hex X.srcs[i]
  rw [← HP.out]
  go_enter Tryz.func62, Tryz.ntmps62
  go_upto_region 4 with (first
    | (go_at_call 36; refine (xhas_any b X _ _ HA.out).mono ?_; rintro e w' ⟨rfl, rfl⟩; rw [HD.out])
    | (go_at_call 76; refine (xwaitingOf_any b X i _ HA.out hwl).mono ?_; rintro e w3 ⟨rfl, hb2⟩; have HB2 : Hid (Below (w.alloc (.cells z5.toArray 108)).heap.size (w.alloc (.cells z5.toArray 108)) w3) := hb2; clear hb2; have HM3 : Hid (MemX w3 b X) := HA.out.below HB2.out))
  have HB3 : Hid (Below w.heap.size w w3) := ((Below.refl _ _).alloc (Nat.le_refl _) _).trans (HB2.out.mono (by simp))
  have HZ3 : Hid (Blk w3 w.heap.size 108 z5) := HZ.out.below HB2.out (by simp)
  have hsz : w.heap.size < w3.heap.size := HZ3.out.lt
  obtain ⟨_, _, _, _, c6, _⟩ := HM3.out.cells
  have s0 := HM3.out.srcCell i 0 hi (by omega)
  have s1 := HM3.out.srcCell i 1 hi (by omega)
  have s2 := HM3.out.srcCell i 2 hi (by omega)
  have s3 := HM3.out.srcCell i 3 hi (by omega)
  have s4 := HM3.out.srcCell i 4 hi (by omega)
  have s5 := HM3.out.srcCell i 5 hi (by omega)
  simp only [PSrc.vals, List.getElem?_cons_zero, List.getElem?_cons_succ, Nat.add_zero] at s0 s1 s2 s3 s4 s5
  rw [← HP.out] at s0 s1 s2 s3 s4 s5
  go_upto_region 5 with fail
  obtain ⟨w4, HW4⟩ := hex (w3.alloc (.cells P.vals.toArray 83))
  have hw4 : w3.alloc (.cells #[.bool P.inn, .bool P.idle, .int .i64 P.mark, .int .i64 P.sil, .int .i64 P.last, .slice P.la P.line.length P.lc] 83) = w4 := HW4.out.symm
  rw [hw4]
  have HB4 : Hid (Below w.heap.size w w4) := by show Below _ _ _; rw [HW4.out]; exact HB3.out.alloc (by omega) _
  have HZ4 : Hid (Blk w4 w.heap.size 108 z5) := by show Blk _ _ _ _; rw [HW4.out]; exact HZ3.out.alloc _
  obtain ⟨pb, HPb⟩ := hex w3.heap.size
  have HP4 : Hid (Blk w4 pb 83 P.vals) := by show Blk _ _ _ _; rw [HW4.out, HPb.out]; exact blk_alloc _ _ _
  have hpb : pb ≠ w.heap.size := by rw [HPb.out]; omega
  rw [← HPb.out]
  clear hw4 HW4 HPb s0 s1 s2 s3 s4 s5 c6 hsz
  have r0 := HZ4.out.cell 0
  have r1 := HZ4.out.cell 1
  have r2 := HZ4.out.cell 2
  have r3 := HZ4.out.cell 3
  have r4 := HZ4.out.cell 4
  have g0 := HZ4.out.frozen 0
  have g1 := HZ4.out.frozen 1
  have g2 := HZ4.out.frozen 2
  have g3 := HZ4.out.frozen 3
  have g4 := HZ4.out.frozen 4
  have p0 := HP4.out.cell 0
  have p1 := HP4.out.cell 1
  have p2 := HP4.out.cell 2
  have p4 := HP4.out.cell 4
  simp only [z5, PSrc.vals, List.getElem?_cons_zero, List.getElem?_cons_succ] at r0 r1 r2 r3 r4 p0 p1 p2 p4
  go_wp2
  refine bodyPost_ret (v := .tuple #[srcAgg P.inn P.idle P.mark (X.waitOf i) P.last, .int .i64 0]) (by simp [results, Tryz.results62, go_sem, srcAgg, r0, r1, r2, r3, r4]) rfl ⟨rfl, ?_⟩
  exact HB4.out.trans (below_set5)

/-- a fresh copy of a list -/
theorem ownsRow_form' {w : World} {base : Nat} {t : TypeId} {sz : Nat} {v : Value} {n : Nat} {xs : List Value} (h : w.ownsRow base t sz v n xs) : ∃ a c, v = .slice a n c := by
  rcases h.2 with ⟨rfl, rfl⟩ | ⟨g, cap, cur, rfl, _⟩
  · exact ⟨none, 0, rfl⟩
  · exact ⟨_, cap, rfl⟩

set_option maxRecDepth 100000 in
set_option maxHeartbeats 1000000 in
theorem xlog_any (b : Nat) (X : Eng) (w : World) (h : MemX w b X) (hl : X.log.length ≤ 1000) :
    Calls Tryz.prog 64 #[.pointer (some ⟨b, 0, none⟩)] w fun e w' => ∃ (a : Option Addr) (c : Nat), e = .returned (.slice a X.log.length c) ∧ w'.ownsRow w.heap.size 32 5 (.slice a X.log.length c) X.log.length (evs X.log) ∧ Below w.heap.size w w' := by
  obtain ⟨j0, hj0, hy0, hy1, hy2⟩ := info_parts Tryz.infoEv
  have HR : Hid (Row w 32 5 X.ga X.log.length X.gc (evs X.log)) := h.lg
  have cx : ∀ o, (w.alloc o).cell? ⟨b, 9, none⟩ = some (.slice X.ga X.log.length X.gc) := fun o => (h.alloc o).eng.cell 9
  have HE : Hid ((w.alloc (.cells #[] 32)).ownsRow w.heap.size 32 5 (.slice (some ⟨w.heap.size, 0, none⟩) 0 0) 0 []) := World.ownsRow_lit w #[] 0 (Nat.le_refl _) (by unfold maxLen; omega) (by simp)
  have HB0 : Hid (Below w.heap.size w (w.alloc (.cells #[] 32))) := (Below.refl _ _).alloc (Nat.le_refl _) _
  clear h
  cases ha : X.ga with
  | none =>
    have h0 : X.log.length = 0 ∧ X.gc = 0 ∧ X.log = [] := by
      have hr := HR.out
      rw [ha] at hr
      rcases hr.2 with ⟨e, e2⟩ | ⟨g, cap, cur, hv, _⟩
      · simp only [Value.slice.injEq] at e; exact ⟨e.2.1, e.2.2, List.length_eq_zero_iff.1 e.2.1⟩
      · simp at hv
    rw [ha, h0.1, h0.2.1] at cx
    rw [h0.2.2]
    clear HR ha h0
    go_enter Tryz.func64, Tryz.ntmps64
    go_wp2_with (at_builtin; refine wpList_append_own_none rfl _ _ _ rfl w.heap.size 32 j0 5 Tryz.underlying78 hj0 (.slice (some ⟨w.heap.size, 0, none⟩) 0 0) 0 [] rfl HE.out rfl ?_)
    go_ret
    exact ⟨some ⟨w.heap.size, 0, none⟩, 0, rfl, HE.out, HB0.out⟩
  | some ad =>
    have hf : ad.spot = none ∧ ∀ j u, (evs X.log)[j]? = some u → (w.alloc (.cells #[] 32)).cell? (ad.add j) = some u := by
      have hr := HR.out
      rw [ha] at hr
      rcases hr.2 with ⟨e, e2⟩ | ⟨g, cap, cur, hv, _⟩
      · simp at e
      · simp only [Value.slice.injEq, Option.some.injEq] at hv
        obtain ⟨rfl, _, rfl⟩ := hv
        refine ⟨rfl, fun j u hu => ?_⟩
        have hlt := (List.getElem?_eq_some_iff.1 hu).1
        rw [evs, flatMap_len _ 5 Ev.len] at hlt
        obtain ⟨g', hg', _, _, hcell, _⟩ := hr.form (by omega)
        simp only [Option.some.injEq, Addr.mk.injEq, and_true] at hg'
        subst hg'
        have hc := hcell j hlt
        rw [hu] at hc
        have hz : (⟨g, 0, none⟩ : Addr).add j = ⟨g, j, none⟩ := by simp [Addr.add]; intro h; exact h.symm
        rw [hz]
        exact (HB0.out.cell (p := ⟨g, j, none⟩) (World.block_lt_of_cell? w _ hc)).trans hc
    rw [ha] at cx
    clear ha
    go_enter Tryz.func64, Tryz.ntmps64
    go_wp2_with (at_builtin; refine wpList_append_own _ rfl _ _ _ rfl w.heap.size 32 j0 _ 5 40 Tryz.underlying78 hj0 hy0 hy1 hy2 rfl (by omega) (.slice (some ⟨w.heap.size, 0, none⟩) 0 0) 0 [] rfl HE.out ad X.log.length X.gc (evs X.log) rfl (by rw [evs, flatMap_len _ 5 Ev.len]) hf.2 (fun u hu => by simp only [evs, List.mem_flatMap] at hu; obtain ⟨e, _, he⟩ := hu; exact Ev.one e u he) (by unfold maxLen; omega) (by omega) (by simp) ?_; intro v' w1 hown hgrow hiff)
    go_ret
    rw [Nat.zero_add, List.nil_append] at hown
    obtain ⟨a, c, rfl⟩ := ownsRow_form' hown
    refine ⟨a, c, rfl, hown, HB0.out.grown hgrow (by simp) (fun k e => ?_)⟩
    simp only [Value.ownBlock, Option.some.injEq] at e
    omega

set_option maxRecDepth 100000 in
set_option maxHeartbeats 1000000 in
theorem xlate_any (b : Nat) (X : Eng) (w : World) (h : MemX w b X) (hl : X.late.length ≤ 1000) :
    Calls Tryz.prog 68 #[.pointer (some ⟨b, 0, none⟩)] w fun e w' => ∃ (a : Option Addr) (c : Nat), e = .returned (.slice a X.late.length c) ∧ w'.ownsRow w.heap.size 32 5 (.slice a X.late.length c) X.late.length (evs X.late) ∧ Below w.heap.size w w' := by
  obtain ⟨j0, hj0, hy0, hy1, hy2⟩ := info_parts Tryz.infoEv
  have HR : Hid (Row w 32 5 X.da X.late.length X.dc (evs X.late)) := h.lt
  have cx : ∀ o, (w.alloc o).cell? ⟨b, 10, none⟩ = some (.slice X.da X.late.length X.dc) := fun o => (h.alloc o).eng.cell 10
  have HE : Hid ((w.alloc (.cells #[] 32)).ownsRow w.heap.size 32 5 (.slice (some ⟨w.heap.size, 0, none⟩) 0 0) 0 []) := World.ownsRow_lit w #[] 0 (Nat.le_refl _) (by unfold maxLen; omega) (by simp)
  have HB0 : Hid (Below w.heap.size w (w.alloc (.cells #[] 32))) := (Below.refl _ _).alloc (Nat.le_refl _) _
  clear h
  cases ha : X.da with
  | none =>
    have h0 : X.late.length = 0 ∧ X.dc = 0 ∧ X.late = [] := by
      have hr := HR.out
      rw [ha] at hr
      rcases hr.2 with ⟨e, e2⟩ | ⟨g, cap, cur, hv, _⟩
      · simp only [Value.slice.injEq] at e; exact ⟨e.2.1, e.2.2, List.length_eq_zero_iff.1 e.2.1⟩
      · simp at hv
    rw [ha, h0.1, h0.2.1] at cx
    rw [h0.2.2]
    clear HR ha h0
    go_enter Tryz.func68, Tryz.ntmps68
    go_wp2_with (at_builtin; refine wpList_append_own_none rfl _ _ _ rfl w.heap.size 32 j0 5 Tryz.underlying78 hj0 (.slice (some ⟨w.heap.size, 0, none⟩) 0 0) 0 [] rfl HE.out rfl ?_)
    go_ret
    exact ⟨some ⟨w.heap.size, 0, none⟩, 0, rfl, HE.out, HB0.out⟩
  | some ad =>
    have hf : ad.spot = none ∧ ∀ j u, (evs X.late)[j]? = some u → (w.alloc (.cells #[] 32)).cell? (ad.add j) = some u := by
      have hr := HR.out
      rw [ha] at hr
      rcases hr.2 with ⟨e, e2⟩ | ⟨g, cap, cur, hv, _⟩
      · simp at e
      · simp only [Value.slice.injEq, Option.some.injEq] at hv
        obtain ⟨rfl, _, rfl⟩ := hv
        refine ⟨rfl, fun j u hu => ?_⟩
        have hlt := (List.getElem?_eq_some_iff.1 hu).1
        rw [evs, flatMap_len _ 5 Ev.len] at hlt
        obtain ⟨g', hg', _, _, hcell, _⟩ := hr.form (by omega)
        simp only [Option.some.injEq, Addr.mk.injEq, and_true] at hg'
        subst hg'
        have hc := hcell j hlt
        rw [hu] at hc
        have hz : (⟨g, 0, none⟩ : Addr).add j = ⟨g, j, none⟩ := by simp [Addr.add]; intro h; exact h.symm
        rw [hz]
        exact (HB0.out.cell (p := ⟨g, j, none⟩) (World.block_lt_of_cell? w _ hc)).trans hc
    rw [ha] at cx
    clear ha
    go_enter Tryz.func68, Tryz.ntmps68
    go_wp2_with (at_builtin; refine wpList_append_own _ rfl _ _ _ rfl w.heap.size 32 j0 _ 5 40 Tryz.underlying78 hj0 hy0 hy1 hy2 rfl (by omega) (.slice (some ⟨w.heap.size, 0, none⟩) 0 0) 0 [] rfl HE.out ad X.late.length X.dc (evs X.late) rfl (by rw [evs, flatMap_len _ 5 Ev.len]) hf.2 (fun u hu => by simp only [evs, List.mem_flatMap] at hu; obtain ⟨e, _, he⟩ := hu; exact Ev.one e u he) (by unfold maxLen; omega) (by omega) (by simp) ?_; intro v' w1 hown hgrow hiff)
    go_ret
    rw [Nat.zero_add, List.nil_append] at hown
    obtain ⟨a, c, rfl⟩ := ownsRow_form' hown
    refine ⟨a, c, rfl, hown, HB0.out.grown hgrow (by simp) (fun k e => ?_)⟩
    simp only [Value.ownBlock, Option.some.injEq] at e
    omega

/-! ### New -/
def zP : PSrc := ⟨false, false, -2199023255552, 0, -1, [], none, 0⟩
def newEng (c : Cfg) (n sg sc : Nat) : Eng := { c := c, srcs := List.replicate n zP, sg := sg, sc := sc, merged := -2199023255552, wait := [], wa := none, wc := 0, log := [], ga := none, gc := 0, late := [], da := none, dc := 0 }
theorem Tryz.infoPSrc : (Tryz.prog.info? 83).map (fun i => (i.zero, i.size, i.bytes)) = some (some (.agg #[.bool false, .bool false, .int .i64 0, .int .i64 0, .int .i64 0, .slice none 0 0]), 6, 56) := by kernel_rfl
def engV (c : Cfg) (a : Option Addr) (k cc : Nat) : List Value := c.vals ++ [.slice a k cc, .int .i64 (-2199023255552), .slice none 0 0, .slice none 0 0, .slice none 0 0]
structure NewK (w wr : World) (b cb : Nat) (c : Cfg) (k : Nat) (a : Option Addr) (cc : Nat) : Prop where
  eng : Blk wr b 80 (engV c a k cc)
  box : Blk wr cb 23 c.vals
  row : Row wr 83 6 a k cc ((List.replicate k zP).flatMap PSrc.vals)
  bel : Below w.heap.size w wr
  off : ∀ g, bk a = some g → g ≠ b ∧ g ≠ cb ∧ w.heap.size ≤ g
def lenAt (w : World) (b : Nat) : Nat := match w.cell? ⟨b, 6, none⟩ with | some (.slice _ k _) => k | _ => 0
theorem NewK.lenAt {w wr : World} {b cb k cc : Nat} {c : Cfg} {a : Option Addr} (h : NewK w wr b cb c k a cc) : lenAt wr b = k := by
  have := h.eng.cell 6
  simp only [engV, Cfg.vals, List.cons_append, List.nil_append, List.getElem?_cons_succ, List.getElem?_cons_zero] at this
  unfold Proofs.YthiabdpgieppoaaGreat.lenAt
  rw [this]
set_option maxHeartbeats 1000000 in
theorem xnew_config (c : Cfg) (w : World) (hf : ¬ c.fits) :
    Calls Tryz.prog 11 #[c.agg] w fun e w' => e = .returned (.tuple #[.pointer none, .int .i64 1]) ∧ Below w.heap.size w w' := by
  have hB : Below w.heap.size w (w.alloc (.cells #[.int .i64 c.sources, .int .i64 c.slack, .int .i64 c.policy, .int .i64 c.room, .int .i64 c.idle, .string c.pat] 23)) := (Below.refl _ _).alloc (Nat.le_refl _) _
  have HF : Hid (false = true ↔ c.fits) := ⟨fun h => (by cases h), fun h => absurd h hf⟩
  clear hf
  unfold Cfg.agg
  go_enter Tryz.func11, Tryz.ntmps11
  go_wp2_with (go_at_call 32; refine (xisConfig_any c false _ HF.out).mono ?_; rintro e w1 ⟨rfl, hb1⟩)
  go_ret2
  exact ⟨rfl, hB.trans (hb1.mono (by simp))⟩
set_option maxHeartbeats 1000000 in
theorem xnew_pattern (c : Cfg) (w : World) (hs : c.pat.size ≤ maxLen) (hf : c.fits) (hp : ¬ (c.pat.data.toList.length ≤ 60 ∧ wholeP c.pat.data.toList)) :
    Calls Tryz.prog 11 #[c.agg] w fun e w' => e = .returned (.tuple #[.pointer none, .int .i64 2]) ∧ Below w.heap.size w w' := by
  have hB : Below w.heap.size w (w.alloc (.cells c.vals.toArray 23)) := (Below.refl _ _).alloc (Nat.le_refl _) _
  have HF : Hid (true = true ↔ c.fits) := ⟨fun _ => hf, fun _ => rfl⟩
  have HP : Hid (¬ (c.pat.data.toList.length ≤ 60 ∧ wholeP c.pat.data.toList)) := hp
  clear hf hp
  have HX : Hid (Blk (w.alloc (.cells c.vals.toArray 23)) w.heap.size 23 c.vals) := blk_alloc _ _ _
  unfold Cfg.agg
  go_enter Tryz.func11, Tryz.ntmps11
  go_upto_region 3 with (go_at_call 32; refine (xisConfig_any c true _ HF.out).mono ?_; rintro e w1 ⟨rfl, hb1⟩)
  have HB1 : Hid (Below (w.alloc (.cells c.vals.toArray 23)).heap.size (w.alloc (.cells c.vals.toArray 23)) w1) := hb1
  have c5 := (HX.out.below HB1.out (by simp)).cell 5
  simp only [Cfg.vals, List.getElem?_cons_succ, List.getElem?_cons_zero] at c5
  clear hb1
  go_wp2_with (go_at_call 33; refine (pcheck_any _ _ hs).mono ?_; rintro e w2 ⟨x, y, rfl, hc, hb2⟩; have hx : (x != 0) = true := by (have := check_zero ((checkIs_iff _ _ _).1 hc); simp; intro e; exact HP.out (this.1 e)))
  go_ret2
  exact ⟨rfl, (hB.trans (HB1.out.mono (by simp))).trans (hb2.mono (Nat.le_trans (by simp) HB1.out.size))⟩
theorem newEng_pd {c : Cfg} {n sg sc b : Nat} (h : b ≠ sg) : PD ((newEng c n sg sc).fp b) := by
  have key : ∀ i k : Nat, ((newEng c n sg sc).fp b)[i]? = some (some k) → (i = 0 ∧ k = b) ∨ (i = 1 ∧ k = sg) := by
    intro i k hi
    unfold Eng.fp newEng at hi
    simp only [bk, Option.map_none, List.map_replicate, zP] at hi
    rcases i with _ | _ | _ | _ | _ | i
    · simp at hi; exact Or.inl ⟨rfl, hi.symm⟩
    · simp at hi; exact Or.inr ⟨rfl, hi.symm⟩
    · simp at hi
    · simp at hi
    · simp at hi
    · simp [List.getElem?_replicate] at hi
  intro i j k hi hj
  rcases key i k hi with ⟨rfl, e1⟩ | ⟨rfl, e1⟩ <;> rcases key j k hj with ⟨rfl, e2⟩ | ⟨rfl, e2⟩
  · rfl
  · exact absurd (e1.symm.trans e2) h
  · exact absurd (e2.symm.trans e1) h
  · rfl
theorem newEng_mem {w : World} {b n sg sc : Nat} {c : Cfg} (hn : 0 < n) (he : Blk w b 80 (engV c (some ⟨sg, 0, none⟩) n sc)) (hr : Row w 83 6 (some ⟨sg, 0, none⟩) n sc ((List.replicate n zP).flatMap PSrc.vals)) (hne : b ≠ sg) : MemX w b (newEng c n sg sc) := by
  refine ⟨?_, ?_, Row.nil _ _ _, Row.nil _ _ _, Row.nil _ _ _, ?_, newEng_pd hne⟩
  · have : (newEng c n sg sc).vals = engV c (some ⟨sg, 0, none⟩) n sc := by
      show c.vals ++ [.slice (some ⟨sg, 0, none⟩) (List.replicate n zP).length sc, .int .i64 (-2199023255552), .slice none 0 0, .slice none 0 0, .slice none 0 0] = _
      rw [List.length_replicate]; rfl
    rw [this]; exact he
  · show Row w _ 6 (some ⟨sg, 0, none⟩) (List.replicate n zP).length sc ((List.replicate n zP).flatMap PSrc.vals)
    rw [List.length_replicate]; exact hr
  · intro i p hp
    have hp : (List.replicate n zP)[i]? = some p := hp
    rw [List.getElem?_replicate] at hp
    split at hp
    · simp only [Option.some.injEq] at hp; subst hp; exact Row.nil _ _ _
    · simp at hp
set_option maxRecDepth 100000 in
set_option maxHeartbeats 4000000 in
theorem xnew_ok (n : Nat) (c : Cfg) (w : World) (hn : c.sources = n) (hf : c.fits) (hl : c.pat.data.toList.length ≤ 60) (hp : wholeP c.pat.data.toList) :
    Calls Tryz.prog 11 #[c.agg] w fun e w' => ∃ b sg sc, e = .returned (.tuple #[.pointer (some ⟨b, 0, none⟩), .int .i64 0]) ∧ MemX w' b (newEng c n sg sc) ∧ (∀ k, some k ∈ (newEng c n sg sc).fp b → w.heap.size ≤ k) ∧ Below w.heap.size w w' := by
  obtain ⟨i0, hi0, hz0, hz1, hz2⟩ := info_parts Tryz.infoPSrc
  have hfit := hf
  unfold Cfg.fits at hfit
  have hn1 : 1 ≤ n ∧ n ≤ 6 := by omega
  have hs : c.pat.size ≤ maxLen := by
    have hq : c.pat.size = c.pat.data.toList.length := rfl
    unfold maxLen; omega
  have HF : Hid (true = true ↔ c.fits) := ⟨fun _ => hf, fun _ => rfl⟩
  have HP : Hid (c.pat.data.toList.length ≤ 60 ∧ wholeP c.pat.data.toList) := ⟨hl, hp⟩
  have HN : Hid (c.sources = n) := hn
  clear hf hp hl hfit hn
  have HX : Hid (Blk (w.alloc (.cells c.vals.toArray 23)) w.heap.size 23 c.vals) := blk_alloc _ _ _
  have HB0 : Hid (Below w.heap.size w (w.alloc (.cells c.vals.toArray 23))) := (Below.refl _ _).alloc (Nat.le_refl _) _
  unfold Cfg.agg
  go_enter Tryz.func11, Tryz.ntmps11
  go_upto_region 3 with (go_at_call 32; refine (xisConfig_any c true _ HF.out).mono ?_; rintro e w1 ⟨rfl, hb1⟩)
  have HB1 : Hid (Below (w.alloc (.cells c.vals.toArray 23)).heap.size (w.alloc (.cells c.vals.toArray 23)) w1) := hb1
  have HX1 : Hid (Blk w1 w.heap.size 23 c.vals) := HX.out.below HB1.out (by simp)
  have c5 := HX1.out.cell 5
  simp only [Cfg.vals, List.getElem?_cons_succ, List.getElem?_cons_zero] at c5
  clear hb1
  go_upto_region 6 with (go_at_call 33; refine (pcheck_any _ _ hs).mono ?_; rintro e w2 ⟨x, y, rfl, hc, hb2⟩; have hx : x = 0 := (check_zero ((checkIs_iff _ _ _).1 hc)).2 HP.out; subst hx)
  have HB2 : Hid (Below w1.heap.size w1 w2) := hb2
  clear hb2 hc c5
  have HBw : Hid (Below w.heap.size w w2) := (HB0.out.trans (HB1.out.mono (by simp))).trans (HB2.out.mono (Nat.le_trans (by simp) HB1.out.size))
  have HX2 : Hid (Blk w2 w.heap.size 23 c.vals) := HX1.out.below HB2.out HX1.out.lt
  have hsz : w.heap.size < w2.heap.size := HX2.out.lt
  have c0 := HX2.out.cell 0
  have c1 := HX2.out.cell 1
  have c2 := HX2.out.cell 2
  have c3 := HX2.out.cell 3
  have c4 := HX2.out.cell 4
  have c5 := HX2.out.cell 5
  simp only [Cfg.vals, List.getElem?_cons_succ, List.getElem?_cons_zero] at c0 c1 c2 c3 c4 c5
  go_upto_region 7 with fail
  obtain ⟨w3, HW3⟩ := hex (w2.alloc (.cells (engV c none 0 0).toArray 80))
  have hw3 : w2.alloc (.cells #[.int .i64 c.sources, .int .i64 c.slack, .int .i64 c.policy, .int .i64 c.room, .int .i64 c.idle, .string c.pat, .slice none 0 0, .int .i64 (-2199023255552), .slice none 0 0, .slice none 0 0, .slice none 0 0] 80) = w3 := HW3.out.symm
  rw [hw3]
  obtain ⟨b, HBb⟩ := hex w2.heap.size
  obtain ⟨cb, HCb⟩ := hex w.heap.size
  have HK0 : Hid (NewK w w3 b cb c 0 none 0) := by
    refine ⟨?_, ?_, by simpa using Row.nil _ _ _, ?_, fun g e => by cases e⟩
    · rw [HW3.out, HBb.out]; exact blk_alloc _ _ _
    · rw [HW3.out, HCb.out]; exact HX2.out.alloc _
    · rw [HW3.out]; exact HBw.out.alloc (by omega) _
  have HBC : Hid (w.heap.size ≤ b ∧ w.heap.size ≤ cb ∧ b ≠ cb) := by show _ ∧ _; rw [HBb.out, HCb.out]; omega
  rw [← HBb.out, ← HCb.out]
  clear hw3 HW3 c0 c1 c2 c3 c4 c5 hsz HBw HX2 HB2 HX1 HB1 HX HB0 HBb HCb
  go_loopw [20] (fun _ wr => ∃ (k cc : Nat) (a : Option Addr), k ≤ n ∧ NewK w wr b cb c k a cc) (fun _ wr => n - lenAt wr b)
  case atStart => exact ⟨0, 0, none, Nat.zero_le _, HK0.out⟩
  case round =>
    obtain ⟨k, cc, a, hk, hnk⟩ := hrel
    have HK : Hid (NewK w wr b cb c k a cc) := hnk
    clear hnk
    have e6 := HK.out.eng.cell 6
    have fz6 := HK.out.eng.frozen 6
    simp only [engV, Cfg.vals, List.cons_append, List.nil_append, List.getElem?_cons_succ, List.getElem?_cons_zero] at e6
    have b0 := HK.out.box.cell 0
    simp only [Cfg.vals, List.getElem?_cons_zero, HN.out] at b0
    have hwb := HBC.out.1
    have hla := HK.out.lenAt
    by_cases hlt : k < n
    · have hlt' : (k : Int) < (n : Int) := by omega
      have HRow : Hid (Row wr 83 6 a k cc ((List.replicate k zP).flatMap PSrc.vals)) := HK.out.row
      have hbl := HK.out.eng.lt
      have hcbl := HK.out.box.lt
      have hwrs := HK.out.bel.size
      have HM : Hid (lenAt wr b = k) := hla
      clear hla
      go_wp2_with (at_builtin; refine wpList_append_lies _ rfl _ _ _ rfl 0 83 i0 _ 6 56 Tryz.underlying77 hi0 hz0 hz1 hz2 rfl (by omega) (.slice a k cc) k ((List.replicate k zP).flatMap PSrc.vals) rfl (ownsRow_of_heap HRow.out (fun j hj => Below.heap_alloc _ _ _ hj)) ⟨wr.heap.size, 0, none⟩ 1 1 zP.vals rfl rfl (news_new _ _ (by simp) zP.vals 83) (by simp [PSrc.vals, Value.oneCell']) (by omega) (by unfold maxLen; omega) (by omega) (by simp) (wr.heap.size + 1) (by simp) ?_; intro g2 cap w1 hown1 hgrow hat hlt1; rw [bk_own] at hgrow hat; have HG6 : Hid (Blk w1 b 80 (engV c a k cc) ∧ Blk w1 cb 23 c.vals) := ⟨(HK.out.eng.alloc _).grown hgrow (fun e => (HK.out.off _ e).1 rfl), (HK.out.box.alloc _).grown hgrow (fun e => (HK.out.off _ e).2.1 rfl)⟩; have e6' := HG6.out.1.cell 6; have fz6' := HG6.out.1.frozen 6; simp only [engV, Cfg.vals, List.cons_append, List.nil_append, List.getElem?_cons_succ, List.getElem?_cons_zero] at e6')
      have hNK : NewK w (w1.setCell ⟨b, 6, none⟩ (.slice (some ⟨g2, 0, none⟩) (k + 1) cap)) b cb c (k + 1) (some ⟨g2, 0, none⟩) cap := by
        have hgb : g2 ≠ b ∧ g2 ≠ cb ∧ w.heap.size ≤ g2 := by
          rcases hat with h | h
          · exact HK.out.off _ h
          · omega
        refine ⟨?_, HG6.out.2.other (by simp only; exact HBC.out.2.2) _, ?_, ?_, ?_⟩
        · have := HG6.out.1.set 6 (.slice (some ⟨g2, 0, none⟩) (k + 1) cap)
          simpa [engV, Cfg.vals] using this
        · have : (List.replicate (k + 1) zP).flatMap PSrc.vals = (List.replicate k zP).flatMap PSrc.vals ++ zP.vals := by rw [List.replicate_succ', List.flatMap_append]; simp
          rw [this]
          exact Row.other (a := some ⟨g2, 0, none⟩) hown1 (by simp [bk]; exact hgb.1) _
        · have b1 : Below w.heap.size w (wr.alloc (.cells zP.vals.toArray 83)) := HK.out.bel.alloc hwrs _
          have b2 : Below w.heap.size w w1 := b1.grown hgrow b1.size (fun k e => (HK.out.off k e).2.2)
          exact b2.setCell (by omega) _
        · intro g e
          simp only [bk, Option.map_some, Option.some.injEq] at e
          subst e
          exact hgb
      go_roundw
      case rel => exact ⟨k + 1, cap, some ⟨g2, 0, none⟩, by omega, hNK⟩
      case measure =>
        have e1 := hNK.lenAt
        have e2 := HM.out
        rw [e1, e2]; omega
    · obtain rfl : k = n := by omega
      go_wp2
      go_ret2
      obtain ⟨g, hg, _⟩ := HK.out.row.form (by omega)
      subst hg
      have hoff := HK.out.off g rfl
      refine ⟨b, g, cc, rfl, newEng_mem (by omega) HK.out.eng HK.out.row (Ne.symm hoff.1), ?_, HK.out.bel⟩
      intro j hj
      unfold Eng.fp newEng at hj
      simp only [bk, Option.map_none, List.map_replicate, zP, List.cons_append, List.nil_append, List.mem_cons, Option.some.injEq, List.mem_replicate] at hj
      rcases hj with hj | hj | hj | hj | hj | hj
      · rw [hj]; exact HBC.out.1
      · rw [hj]; exact hoff.2.2
      · cases hj
      · cases hj
      · cases hj
      · cases hj.2
end Go.Proofs.YthiabdpgieppoaaGreat
