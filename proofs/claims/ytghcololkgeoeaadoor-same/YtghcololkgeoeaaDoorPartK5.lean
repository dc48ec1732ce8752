import Derived.Test.YtghcololkgeoeaaDoorPartK4
namespace Go.Proofs.YtghcololkgeoeaaDoor
open Go.RowKit
set_option linter.unusedVariables false
set_option linter.unusedSimpArgs false
attribute [local go_sem ↓] Go.wp_at_zero Go.wp_at_succ

theorem before_ahead (a b : Ev) : beforeB a b = aheadB a b := by
  unfold beforeB aheadB
  by_cases h1 : a.ts = b.ts
  · by_cases h2 : a.src = b.src
    · simp [h1, h2]
    · simp [h1, h2]
  · simp [h1]
/-- acts that lie there -/
def ActsAt (w : World) (sa : Option Addr) (acts : List ActR) : Prop := ∀ (i : Nat) (hi : i < acts.length), acts[i].ok ∧ ∃ b off, sa = some ⟨b, off, none⟩ ∧ b < w.heap.size ∧ ∀ o, o < 8 → w.cell? ⟨b, off + i * 8 + o, none⟩ = acts[i].cells[o]?
theorem ActsAt.below {w w' : World} {sa : Option Addr} {acts : List ActR} (h : ActsAt w sa acts) (hb : Below w.heap.size w w') : ActsAt w' sa acts := by
  intro i hi
  obtain ⟨h1, b, off, h2, h3, h4⟩ := h i hi
  exact ⟨h1, b, off, h2, Nat.lt_of_lt_of_le h3 hb.size, fun o ho => (hb.cell (p := ⟨b, off + i * 8 + o, none⟩) h3).trans (h4 o ho)⟩
theorem EvAt.below' {w w' : World} {a : Option Addr} {l : List Ev} (h : EvAt w a l) (hb : Below w.heap.size w w') : EvAt w' a l := by
  intro k hk
  obtain ⟨g, ha, hg, c0, c1, c2, c3, c4⟩ := h k hk
  exact ⟨g, ha, Nat.lt_of_lt_of_le hg hb.size, (hb.cell (p := ⟨g, k * 5, none⟩) hg).trans c0, (hb.cell (p := ⟨g, k * 5 + 1, none⟩) hg).trans c1, (hb.cell (p := ⟨g, k * 5 + 2, none⟩) hg).trans c2, (hb.cell (p := ⟨g, k * 5 + 3, none⟩) hg).trans c3, (hb.cell (p := ⟨g, k * 5 + 4, none⟩) hg).trans c4⟩
structure OrdK (w wr : World) (b cb n : Nat) (c : Cfg) (X : Eng) (old : List Ev) (oa : Option Addr) : Prop where
  mem : MemX wr b X
  lk : ∃ N R, Like N X R
  n : X.srcs.length = n
  bel : Below w.heap.size w wr
  fp : ∀ k, some k ∈ X.fp b → w.heap.size ≤ k
  box : Blk wr cb 26 c.vals
  nb : some cb ∉ X.fp b
  ev : EvAt wr oa old
  no : ∀ (k : Nat), k < old.length → ∀ g, oa = some ⟨g, 0, none⟩ → some g ∉ X.fp b
  pre : old <+: X.log
theorem OrdK.evo {w wr w' : World} {b cb n : Nat} {c : Cfg} {X X' : Eng} {old : List Ev} {oa : Option Addr} (h : OrdK w wr b cb n c X old oa) (e : EvoX wr b X w' X') (g : Grow X X') (hl : ∃ N R, Like N X' R) : OrdK w w' b cb n c X' old oa := by
  refine ⟨e.mem, hl, g.n.trans h.n, kept_toBelow h.bel e.kept h.fp, ?_, h.box.kept e.kept h.nb, ?_, ?_, ?_, h.pre.trans g.log⟩
  · intro k hk
    rcases e.grow k hk with f | f
    · exact h.fp k f
    · exact Nat.le_trans h.bel.size f
  · intro hk
    rcases e.grow cb hk with f | f
    · exact h.nb f
    · have := h.box.lt; omega
  · intro k hk
    obtain ⟨g', ha, hg, c0, c1, c2, c3, c4⟩ := h.ev k hk
    have hn := h.no k hk g' ha
    have hbk := e.kept.block g' hg hn
    have hc : ∀ o, w'.cell? ⟨g', o, none⟩ = wr.cell? ⟨g', o, none⟩ := fun o => by unfold World.cell?; rw [hbk]
    exact ⟨g', ha, Nat.lt_of_lt_of_le hg e.kept.size, (hc _).trans c0, (hc _).trans c1, (hc _).trans c2, (hc _).trans c3, (hc _).trans c4⟩
  · intro k hk g' ha hf
    obtain ⟨g2, ha2, hg, _⟩ := h.ev k hk
    rw [ha] at ha2
    simp only [Option.some.injEq, Addr.mk.injEq, and_true] at ha2
    rcases e.grow g' hf with f | f
    · exact h.no k hk g' ha f
    · omega
theorem OrdK.below {w wr w' : World} {b cb n : Nat} {c : Cfg} {X : Eng} {old : List Ev} {oa : Option Addr} (h : OrdK w wr b cb n c X old oa) (hb : Below wr.heap.size wr w') : OrdK w w' b cb n c X old oa := h.evo (EvoX.below h.mem hb) (Grow.refl _) h.lk
/-- what Log gave -/
theorem OrdK.logged {w wr w' : World} {b cb n cc : Nat} {c : Cfg} {X : Eng} {old : List Ev} {oa a : Option Addr} (h : OrdK w wr b cb n c X old oa) (hb : Below wr.heap.size wr w') (hro : w'.ownsRow wr.heap.size 37 5 (.slice a X.log.length cc) X.log.length (evs X.log)) :
    OrdK w w' b cb n c X X.log a ∧ EvAt w' a X.log ∧ ((a = none ∧ X.log.length = 0 ∧ cc = 0) ∨ ∃ g, a = some ⟨g, 0, none⟩ ∧ X.log.length ≤ cc) := by
  have hrow : Row w' 37 5 a X.log.length cc (evs X.log) := ⟨hro.1, hro.2.imp id (fun ⟨g, cap, cur, h1, h2, h3⟩ => ⟨g, cap, cur, h1, Nat.zero_le _, h3⟩)⟩
  have hev : EvAt w' a X.log := EvAt.of_row (n := 0) hrow
  have h' := h.below hb
  refine ⟨⟨h'.mem, h'.lk, h'.n, h'.bel, h'.fp, h'.box, h'.nb, hev, ?_, List.prefix_refl _⟩, hev, ?_⟩
  · intro k hk g ha hf
    have := (hro.lt g (by rw [bk_own, ha]; rfl)).1
    have := h.mem.fp_lt g hf
    omega
  · rcases hrow.2 with ⟨e, h0⟩ | ⟨g, cap, cur, hv, _, _, hnc, _⟩
    · left
      simp only [Value.slice.injEq] at e
      exact ⟨e.1, h0, e.2.2⟩
    · right
      simp only [Value.slice.injEq] at hv
      exact ⟨g, hv.1, by rw [hv.2.2]; exact hnc⟩
theorem OrdK.sorted {w wr : World} {b cb n : Nat} {c : Cfg} {X : Eng} {old : List Ev} {oa : Option Addr} (h : OrdK w wr b cb n c X old oa) : (∀ (k : Nat) (hk : k + 1 < X.log.length), beforeB X.log[k] X.log[k + 1] = true) ∧ (∀ (k : Nat) (hk : k < X.log.length), X.log[k].ts < X.merged) ∧ SaneX X := by
  obtain ⟨N, R, hl⟩ := h.lk
  refine ⟨fun k hk => ?_, fun k hk => ?_, hl.sane⟩
  · rw [before_ahead]
    exact List.pairwise_iff_getElem.1 hl.sim.logS k (k + 1) (by omega) hk (by omega)
  · rw [hl.sim.merged]; exact hl.sim.lo _ (List.getElem_mem hk)
set_option maxRecDepth 100000 in
set_option maxHeartbeats 16000000 in
theorem ordered_walk (r : RawC) (sa : Option Addr) (sc : Nat) (acts : List ActR) (w : World) (hr : r.ok) (hsa : ActsAt w sa acts) (htab : ∀ u, Below w.heap.size w u → tab10 u) (hlen : acts.length ≤ 9000000000000000) :
    Calls Tryd.prog 3 #[.agg #[.int .i64 r.sources, .int .i64 r.slack, .int .i64 r.policy, .int .i64 r.room, .int .i64 r.idle, .int .i64 r.pattern], .slice sa acts.length sc] w fun e w' => e = .returned (.bool true) ∧ Below w.heap.size w w' := by
  obtain ⟨c, HC⟩ := hex r.cfg
  have HOK : Hid c.ok := by show c.ok; rw [HC.out]; exact r.cfg_ok
  obtain ⟨n, hn⟩ : ∃ n : Nat, c.sources = n := ⟨c.sources.toNat, by have := HOK.out.1.1; omega⟩
  have HNn : Hid (c.sources = n) := hn
  have hn6 : 1 ≤ n ∧ n ≤ 6 := by have := HOK.out.1.1; have := HOK.out.1.2.1; omega
  have hcf : ∀ u, Below w.heap.size w u → Calls Tryd.prog 10 #[.agg #[.int .i64 r.sources, .int .i64 r.slack, .int .i64 r.policy, .int .i64 r.room, .int .i64 r.idle, .int .i64 r.pattern]] u fun e w' => e = .returned (.agg #[.int .i64 c.sources, .int .i64 c.slack, .int .i64 c.policy, .int .i64 c.room, .int .i64 c.idle, .string c.pat]) ∧ Below u.heap.size u w' := fun u hu => by rw [HC.out]; exact config_any r u hr (fun v hv => htab v (hu.trans (hv.mono hu.size)))
  have HMd : Hid (∀ u, Calls Tryd.prog 11 #[.agg #[.int .i64 c.sources, .int .i64 c.slack, .int .i64 c.policy, .int .i64 c.room, .int .i64 c.idle, .string c.pat]] u fun e w' => ∃ b sg sc p, e = .returned (.tuple #[.pointer (some ⟨b, 0, none⟩), .bool true]) ∧ MemX w' b (newEng c n sg sc p) ∧ (∀ k, some k ∈ (newEng c n sg sc p).fp b → u.heap.size ≤ k) ∧ Below u.heap.size u w') := fun u => made_any n c u hn HOK.out
  have HFl : Hid (∀ u, Calls Tryd.prog 18 #[.agg #[.int .i64 c.sources, .int .i64 c.slack, .int .i64 c.policy, .int .i64 c.room, .int .i64 c.idle, .string c.pat]] u fun e w' => e = .returned (.bool true) ∧ Below u.heap.size u w') := fun u => flows_true n c u hn HOK.out
  have HSA : Hid (ActsAt w sa acts) := hsa
  clear hn hsa htab hr HC
  have H0 : Hid (Below w.heap.size w (w.alloc (.cells #[.int .i64 r.sources, .int .i64 r.slack, .int .i64 r.policy, .int .i64 r.room, .int .i64 r.idle, .int .i64 r.pattern] 23))) := (Below.refl _ _).alloc (Nat.le_refl _) _
  go_enter Tryd.func3, Tryd.ntmps3
  go_upto_region 2 with (go_at_call 10; refine (hcf _ H0.out).mono ?_; rintro e w1 ⟨rfl, hb1⟩)
  have HB1 : Hid (Below w.heap.size w w1) := H0.out.trans (hb1.mono (by simp))
  clear hcf hb1 H0
  obtain ⟨w2, HW2⟩ := hex (w1.alloc (.cells c.vals.toArray 26))
  have hw2 : w1.alloc (.cells #[.int .i64 c.sources, .int .i64 c.slack, .int .i64 c.policy, .int .i64 c.room, .int .i64 c.idle, .string c.pat] 26) = w2 := HW2.out.symm
  rw [hw2]
  obtain ⟨cb, HCb⟩ := hex w1.heap.size
  have HC2 : Hid (Blk w2 cb 26 c.vals) := by show Blk _ _ _ _; rw [HW2.out, HCb.out]; exact blk_alloc _ _ _
  have HB2 : Hid (Below w.heap.size w w2) := by show Below _ _ _; rw [HW2.out]; exact HB1.out.alloc HB1.out.size _
  rw [← HCb.out]
  clear hw2 HW2 HCb HB1
  have k0 := HC2.out.cell 0
  have k1 := HC2.out.cell 1
  have k2 := HC2.out.cell 2
  have k3 := HC2.out.cell 3
  have k4 := HC2.out.cell 4
  have k5 := HC2.out.cell 5
  simp only [Cfg.vals, List.getElem?_cons_zero, List.getElem?_cons_succ] at k0 k1 k2 k3 k4 k5
  go_upto_region 5 with (go_at_call 11; refine (HMd.out _).mono ?_; rintro e w3 ⟨b, sg, scc, pv, rfl, hM, hf, hb⟩)
  have HC3 : Hid (Blk w3 cb 26 c.vals) := HC2.out.below hb HC2.out.lt
  have HK3 : Hid (OrdK w w3 b cb n c (newEng c n sg scc pv) [] none) := by
    refine ⟨hM, ⟨0, _, new_like HNn.out HOK.out⟩, ?_, HB2.out.trans (hb.mono HB2.out.size), fun k hk => Nat.le_trans HB2.out.size (hf k hk), HC3.out, fun e => ?_, fun k hk => absurd hk (by simp), fun k hk => absurd hk (by simp), List.nil_prefix⟩
    · show (List.replicate n zP).length = n; simp
    · have := hf cb e; have := HC2.out.lt; omega
  clear hM hf hb k0 k1 k2 k3 k4 k5 HC2 HB2 HMd
  have k0 := HC3.out.cell 0
  have k1 := HC3.out.cell 1
  have k2 := HC3.out.cell 2
  have k3 := HC3.out.cell 3
  have k4 := HC3.out.cell 4
  have k5 := HC3.out.cell 5
  simp only [Cfg.vals, List.getElem?_cons_zero, List.getElem?_cons_succ] at k0 k1 k2 k3 k4 k5
  have hjo : ∀ u, OrdK w u b cb n c (newEng c n sg scc pv) [] none → Calls Tryd.prog 12 #[.pointer (some ⟨b, 0, none⟩), .agg #[.int .i64 c.sources, .int .i64 c.slack, .int .i64 c.policy, .int .i64 c.room, .int .i64 c.idle, .string c.pat]] u fun e w' => e = .returned (.bool true) ∧ ∃ X, OrdK w w' b cb n c X [] none := fun u hu => by
    refine (joined_gen b n c (newEng c n sg scc pv) u hu.mem HNn.out hn6.2 (fun s Y => (∃ N R, Like N Y R) ∧ Y.srcs.length = n ∧ Grow (newEng c n sg scc pv) Y) ⟨hu.lk, hu.n, Grow.refl _⟩ (fun s Y ⟨⟨N, R, hl⟩, h2, _⟩ => ⟨hl.sane, h2⟩) (fun s Y hl h _ => h) ?_).mono ?_
    · rintro s Y hl ⟨⟨N, R, hlk⟩, h2, h3⟩ hinn Y' hpl
      have hJ : JoinsX Y s 0 Y' := Or.inr ⟨s, _, rfl, List.getElem?_eq_getElem hl, Or.inr ⟨hinn, rfl, hpl⟩⟩
      obtain ⟨z, R', hR⟩ := joinR_some R s
      have hg := joinX_grow hJ
      exact ⟨⟨_, R', (join_agree hlk hJ hR).2⟩, hg.n.trans h2, h3.trans hg⟩
    · rintro e w' ⟨he, Y, ⟨hlk, h2, h3⟩, hev⟩
      exact ⟨he, Y, hu.evo hev h3 hlk⟩
  go_upto_region 8 with (go_at_call 12; refine (hjo _ HK3.out).mono ?_; rintro e w4 ⟨rfl, X4, hk4⟩)
  have HK4 : Hid (OrdK w w4 b cb n c X4 [] none) := hk4
  clear hjo hk4 k0 k1 k2 k3 k4 k5 HC3 HK3
  have hmk : ∀ u (X : Eng), MemX u b X → Calls Tryd.prog 13 #[.pointer (some ⟨b, 0, none⟩)] u fun e w' => e = .returned (.int .i64 X.merged) ∧ u = w' := fun u X hu => xmark_any b X u hu
  go_wp2_with (go_at_call 13; refine (hmk _ X4 HK4.out.mem).mono ?_; rintro e w' ⟨rfl, rfl⟩)
  go_loopw [8, 9, 10] (fun ov mv iv wr => ∃ (i : Nat) (X : Eng) (old : List Ev) (oa : Option Addr) (oc : Nat) (mk : Int), i ≤ acts.length + 1 ∧ ov = .slice oa old.length oc ∧ mv = .int .i64 mk ∧ iv = .int .i64 i ∧ mk ≤ X.merged ∧ OrdK w wr b cb n c X old oa) (fun _ _ iv _ => acts.length + 1 - (intOf iv).toNat)
  case atStart => exact ⟨0, X4, [], none, 0, X4.merged, Nat.zero_le _, rfl, rfl, rfl, Int.le_refl _, HK4.out⟩
  case round =>
    obtain ⟨i, X, old, oa, oc, mk, hi, rfl, rfl, rfl, hmm, hk⟩ := hrel
    have HK : Hid (OrdK w wr b cb n c X old oa) := hk
    have HMm : Hid (mk ≤ X.merged) := hmm
    clear hk hmm HK4
    by_cases hle : i < acts.length
    · have hle' : (i : Int) < (acts.length : Int) := by omega
      have hle2 : (i : Int) ≤ (acts.length : Int) := by omega
      have hi00 : (0 : Int) ≤ (i : Int) := by omega
      obtain ⟨hao, ab, ao, hsab, hal, hac⟩ := (HSA.out.below HK.out.bel) i hle
      obtain ⟨a, HAa⟩ := hex acts[i]
      rw [← HAa.out] at hao hac
      have HAo : Hid a.ok := hao
      have a0 := hac 0 (by omega)
      have a1 := hac 1 (by omega)
      have a2 := hac 2 (by omega)
      have a3 := hac 3 (by omega)
      have a4 := hac 4 (by omega)
      have a5 := hac 5 (by omega)
      have a6 := hac 6 (by omega)
      have a7 := hac 7 (by omega)
      simp only [ActR.cells, List.getElem?_cons_zero, List.getElem?_cons_succ, Nat.add_zero] at a0 a1 a2 a3 a4 a5 a6 a7
      have HACr : Hid (∀ v, Below wr.heap.size wr v → ∀ o, o < 8 → v.cell? ⟨ab, ao + i * 8 + o, none⟩ = a.cells[o]?) := fun v hv o ho => (hv.cell (p := ⟨ab, ao + i * 8 + o, none⟩) hal).trans (hac o ho)
      have HAL : Hid (ab < w.heap.size ∧ ∀ o, o < 8 → w.cell? ⟨ab, ao + i * 8 + o, none⟩ = a.cells[o]?) := by
        obtain ⟨_, b', off', e', hl', hc'⟩ := HSA.out i hle
        rw [hsab] at e'
        simp only [Option.some.injEq, Addr.mk.injEq, and_true] at e'
        obtain ⟨rfl, rfl⟩ := e'
        rw [← HAa.out] at hc'
        exact ⟨hl', hc'⟩
      clear hac hao
      subst hsab
      have HCr : Hid (Blk wr cb 26 c.vals) := HK.out.box
      have k0 := HCr.out.cell 0
      have k1 := HCr.out.cell 1
      have k2 := HCr.out.cell 2
      have k3 := HCr.out.cell 3
      have k4 := HCr.out.cell 4
      have k5 := HCr.out.cell 5
      simp only [Cfg.vals, List.getElem?_cons_zero, List.getElem?_cons_succ] at k0 k1 k2 k3 k4 k5
      go_upto_region 14 with fail
      have hdo : ∀ u, OrdK w u b cb n c X old oa → Calls Tryd.prog 14 #[.pointer (some ⟨b, 0, none⟩), .agg #[.int .i64 c.sources, .int .i64 c.slack, .int .i64 c.policy, .int .i64 c.room, .int .i64 c.idle, .string c.pat], .agg #[.int .i64 a.d, .int .i64 a.s, .int .i64 a.n, .int .i64 a.E.src, .int .i64 a.E.seq, .int .i64 a.E.ts, .int .i64 a.E.kind, .int .i64 a.E.val]] u fun e w' => ∃ z X', e = .returned (.int .i64 z) ∧ X.merged ≤ X'.merged ∧ OrdK w w' b cb n c X' old oa := fun u hu => by
        obtain ⟨N, R, hl⟩ := hu.lk
        refine (done_rel b c X R a u hu.mem hl HAo.out (by rw [HNn.out]; omega)).mono ?_
        rintro e w' ⟨z, X', he, hD, hev⟩
        have hg := doneX_grow hD
        exact ⟨z, X', he, hg.mg, hu.evo hev hg (doneX_like hl hD)⟩
      refine upTo_region (fun u : World => u.cell? ⟨cb, 0, none⟩ = some (.int .i64 c.sources) ∧ u.cell? ⟨cb, 1, none⟩ = some (.int .i64 c.slack) ∧ u.cell? ⟨cb, 2, none⟩ = some (.int .i64 c.policy) ∧ u.cell? ⟨cb, 3, none⟩ = some (.int .i64 c.room) ∧ u.cell? ⟨cb, 4, none⟩ = some (.int .i64 c.idle) ∧ u.cell? ⟨cb, 5, none⟩ = some (.string c.pat) ∧ u.cell? ⟨ab, ao + i * 8, none⟩ = some (.int .i64 a.d) ∧ u.cell? ⟨ab, ao + i * 8 + 1, none⟩ = some (.int .i64 a.s) ∧ u.cell? ⟨ab, ao + i * 8 + 2, none⟩ = some (.int .i64 a.n) ∧ u.cell? ⟨ab, ao + i * 8 + 3, none⟩ = some (.int .i64 a.E.src) ∧ u.cell? ⟨ab, ao + i * 8 + 4, none⟩ = some (.int .i64 a.E.seq) ∧ u.cell? ⟨ab, ao + i * 8 + 5, none⟩ = some (.int .i64 a.E.ts) ∧ u.cell? ⟨ab, ao + i * 8 + 6, none⟩ = some (.int .i64 a.E.kind) ∧ u.cell? ⟨ab, ao + i * 8 + 7, none⟩ = some (.int .i64 a.E.val)) 7 7 rfl (by kernel_rfl) ?_
      have hS0 : (fun u : World => u.cell? ⟨cb, 0, none⟩ = some (.int .i64 c.sources) ∧ u.cell? ⟨cb, 1, none⟩ = some (.int .i64 c.slack) ∧ u.cell? ⟨cb, 2, none⟩ = some (.int .i64 c.policy) ∧ u.cell? ⟨cb, 3, none⟩ = some (.int .i64 c.room) ∧ u.cell? ⟨cb, 4, none⟩ = some (.int .i64 c.idle) ∧ u.cell? ⟨cb, 5, none⟩ = some (.string c.pat) ∧ u.cell? ⟨ab, ao + i * 8, none⟩ = some (.int .i64 a.d) ∧ u.cell? ⟨ab, ao + i * 8 + 1, none⟩ = some (.int .i64 a.s) ∧ u.cell? ⟨ab, ao + i * 8 + 2, none⟩ = some (.int .i64 a.n) ∧ u.cell? ⟨ab, ao + i * 8 + 3, none⟩ = some (.int .i64 a.E.src) ∧ u.cell? ⟨ab, ao + i * 8 + 4, none⟩ = some (.int .i64 a.E.seq) ∧ u.cell? ⟨ab, ao + i * 8 + 5, none⟩ = some (.int .i64 a.E.ts) ∧ u.cell? ⟨ab, ao + i * 8 + 6, none⟩ = some (.int .i64 a.E.kind) ∧ u.cell? ⟨ab, ao + i * 8 + 7, none⟩ = some (.int .i64 a.E.val)) wr.drew := ⟨k0, k1, k2, k3, k4, k5, a0, a1, a2, a3, a4, a5, a6, a7⟩
      refine upTo_take2 (i := 0) (v := ?v24_0) rfl (by kernel_rfl) (by kernel_rfl) (by kernel_rfl) rfl (fun _ _ _ h => h) (by rfl) hS0 ?hy24_0 ?rest24_0
      case hy24_0 => (intro u hu; (try dsimp only at hu); go_simp; first | done | with_reducible rfl)
      (try simp only [Act.put, List.setIfInBounds_toArray, List.set_cons_zero, List.set_cons_succ, List.getElem_toArray, List.getElem_cons_succ, List.getElem_cons_zero])
      refine upTo_take2 (i := 1) (v := ?v24_1) rfl (by kernel_rfl) (by kernel_rfl) (by kernel_rfl) rfl (fun _ _ _ h => h) (by rfl) hS0 ?hy24_1 ?rest24_1
      case hy24_1 => (intro u hu; (try dsimp only at hu); go_simp; first | done | with_reducible rfl)
      (try simp only [Act.put, List.setIfInBounds_toArray, List.set_cons_zero, List.set_cons_succ, List.getElem_toArray, List.getElem_cons_succ, List.getElem_cons_zero])
      refine upTo_take2 (i := 2) (v := ?v24_2) rfl (by kernel_rfl) (by kernel_rfl) (by kernel_rfl) rfl (fun _ _ _ h => h) (by rfl) hS0 ?hy24_2 ?rest24_2
      case hy24_2 => (intro u hu; (try dsimp only at hu); go_simp; first | done | with_reducible rfl)
      (try simp only [Act.put, List.setIfInBounds_toArray, List.set_cons_zero, List.set_cons_succ, List.getElem_toArray, List.getElem_cons_succ, List.getElem_cons_zero])
      refine upTo_take2 (i := 3) (v := ?v24_3) rfl (by kernel_rfl) (by kernel_rfl) (by kernel_rfl) rfl (fun _ _ _ h => h) (by rfl) hS0 ?hy24_3 ?rest24_3
      case hy24_3 => (intro u hu; (try dsimp only at hu); go_simp; first | done | with_reducible rfl)
      (try simp only [Act.put, List.setIfInBounds_toArray, List.set_cons_zero, List.set_cons_succ, List.getElem_toArray, List.getElem_cons_succ, List.getElem_cons_zero])
      refine upTo_take2 (i := 4) (v := ?v24_4) rfl (by kernel_rfl) (by kernel_rfl) (by kernel_rfl) rfl (fun _ _ _ h => h) (by rfl) hS0 ?hy24_4 ?rest24_4
      case hy24_4 => (intro u hu; (try dsimp only at hu); go_simp; first | done | with_reducible rfl)
      (try simp only [Act.put, List.setIfInBounds_toArray, List.set_cons_zero, List.set_cons_succ, List.getElem_toArray, List.getElem_cons_succ, List.getElem_cons_zero])
      refine upTo_take2 (i := 5) (v := ?v24_5) rfl (by kernel_rfl) (by kernel_rfl) (by kernel_rfl) rfl (fun _ _ _ h => h) (by rfl) hS0 ?hy24_5 ?rest24_5
      case hy24_5 => (intro u hu; (try dsimp only at hu); go_simp; first | done | with_reducible rfl)
      (try simp only [Act.put, List.setIfInBounds_toArray, List.set_cons_zero, List.set_cons_succ, List.getElem_toArray, List.getElem_cons_succ, List.getElem_cons_zero])
      clear hS0 k0 k1 k2 k3 k4 k5 a0 a1 a2 a3 a4 a5 a6 a7
      refine upTo_one (i := 6) (by kernel_rfl) rfl (fun K hK => ?_)
      go_simp
      refine (hdo _ (HK.out.below ((Below.refl _ wr).drew))).mono ?_
      rintro e w5 ⟨z, X5, rfl, hmg, hk5⟩
      have HK5 : Hid (OrdK w w5 b cb n c X5 old oa) := hk5
      have HM5 : Hid (mk ≤ X5.merged) := Int.le_trans HMm.out hmg
      clear hk5 hmg hdo
      have HC5 : Hid (Blk w5 cb 26 c.vals) := HK5.out.box
      have k0 := HC5.out.cell 0
      have k1 := HC5.out.cell 1
      have k2 := HC5.out.cell 2
      have k3 := HC5.out.cell 3
      have k4 := HC5.out.cell 4
      have k5 := HC5.out.cell 5
      simp only [Cfg.vals, List.getElem?_cons_zero, List.getElem?_cons_succ] at k0 k1 k2 k3 k4 k5
      have b2 := HK5.out.bel.cell (p := ⟨ab, ao + i * 8 + 2, none⟩) HAL.out.1
      have bb : ∀ o, o < 8 → w5.cell? ⟨ab, ao + i * 8 + o, none⟩ = a.cells[o]? := fun o ho => (HK5.out.bel.cell (p := ⟨ab, ao + i * 8 + o, none⟩) HAL.out.1).trans (HAL.out.2 o ho)
      have a0 := bb 0 (by omega)
      have a1 := bb 1 (by omega)
      have a2 := bb 2 (by omega)
      have a3 := bb 3 (by omega)
      have a4 := bb 4 (by omega)
      have a5 := bb 5 (by omega)
      have a6 := bb 6 (by omega)
      have a7 := bb 7 (by omega)
      simp only [ActR.cells, List.getElem?_cons_zero, List.getElem?_cons_succ, Nat.add_zero] at a0 a1 a2 a3 a4 a5 a6 a7
      refine hK.out _ _ (fun _ => ⟨k0, k1, k2, k3, k4, k5, a0, a1, a2, a3, a4, a5, a6, a7⟩) ?_
      clear hK K b2 bb
      (try simp only [Act.put, List.setIfInBounds_toArray, List.set_cons_zero, List.set_cons_succ, List.getElem_toArray, List.getElem_cons_succ, List.getElem_cons_zero])
      refine upTo_done (by kernel_rfl) ?_
      clear k0 k1 k2 k3 k4 k5 a0 a1 a3 a4 a5 a6 a7 HK HC5 HCr HMm
      by_cases hodd : a.n.tmod 2 = 0
      · have hev : (a.n.tmod 2 != 0) = false := by simpa using hodd
        have hev2 : (IntKind.i64.wrap (a.n.tmod 2) != 0) = false := by rw [hodd]; rfl
        clear hodd
        go_upto_region 16 with fail
        have hlg : ∀ u, OrdK w u b cb n c X5 old oa → Calls Tryd.prog 15 #[.pointer (some ⟨b, 0, none⟩)] u fun e w' => ∃ (la : Option Addr) (lc : Nat), e = .returned (.slice la X5.log.length lc) ∧ OrdK w w' b cb n c X5 X5.log la ∧ EvAt w' la X5.log ∧ ((la = none ∧ X5.log.length = 0 ∧ lc = 0) ∨ ∃ g, la = some ⟨g, 0, none⟩ ∧ X5.log.length ≤ lc) ∧ EvAt w' oa old := fun u hu => by
          refine (xlog_any b X5 u hu.mem (hu.sorted.2.2.log)).mono ?_
          rintro e w' ⟨la, lc, he, hro, hbe⟩
          obtain ⟨h1, h2, h3⟩ := hu.logged hbe hro
          exact ⟨la, lc, he, h1, h2, h3, (hu.below hbe).ev⟩
        go_upto_region 17 with (go_at_call 13; refine (hmk _ X5 (by first | exact HK5.out.mem | exact HK5.out.mem.drew)).mono ?_; rintro e w' ⟨rfl, rfl⟩)
        go_upto_region 18 with (go_at_call 15; refine (hlg _ (by first | exact HK5.out | exact HK5.out.below ((Below.refl _ _).drew))).mono ?_; rintro e w6 ⟨la, lc, rfl, hk6, hev6, hlc6, hold6⟩)
        have HK6 : Hid (OrdK w w6 b cb n c X5 X5.log la) := hk6
        have HEv6 : Hid (EvAt w6 la X5.log) := hev6
        have HOl6 : Hid (EvAt w6 oa old) := hold6
        have HPr : Hid (old <+: X5.log) := HK5.out.pre
        have hlog1 : X5.log.length ≤ 1000 := HK5.out.sorted.2.2.log
        have hold1 : old.length ≤ X5.log.length := HPr.out.length_le
        have HSo : Hid ((∀ (k : Nat) (hk : k + 1 < X5.log.length), beforeB X5.log[k] X5.log[k + 1] = true) ∧ (∀ (k : Nat) (hk : k < X5.log.length), X5.log[k].ts < X5.merged)) := ⟨HK5.out.sorted.1, HK5.out.sorted.2.1⟩
        clear hk6 hev6 hold6 hlg
        have g1 : decide (X5.merged < mk) = false := decide_eq_false (by have := HM5.out; omega)
        have g2 : decide ((X5.log.length : Int) < (old.length : Int)) = false := decide_eq_false (by omega)
        have g3 : ¬ X5.merged < mk := by have := HM5.out; omega
        have g4 : ¬ ((X5.log.length : Int) < (old.length : Int)) := by omega
        have hsm : ∀ u, Below w6.heap.size w6 u → Calls Tryd.prog 16 #[.slice la old.length lc, .slice oa old.length oc] u fun e w' => e = .returned (.bool true) ∧ ∃ m, w' = u.drewN m := fun u hu => same_eq old la oa lc oc u ((HEv6.out.take HPr.out).below' hu) (HOl6.out.below' hu) (by omega)
        have hbf : ∀ (A B : Ev) u, Calls Tryd.prog 17 #[.agg #[.int .i64 A.src, .int .i64 A.seq, .int .i64 A.ts, .int .i64 A.kind, .int .i64 A.val], .agg #[.int .i64 B.src, .int .i64 B.seq, .int .i64 B.ts, .int .i64 B.kind, .int .i64 B.val]] u fun e w' => e = .returned (.bool (beforeB A B)) ∧ Below u.heap.size u w' := fun A B u => before_any A B u
        rcases hlc6 with ⟨rfl, hl0, rfl⟩ | ⟨lg, rfl, hlc⟩
        · have ho0 : old.length = 0 := by omega
          have ho0' : (old.length : Int) = 0 := by omega
          go_upto_region 23 with (go_at_call 16; refine (by simpa [ho0] using hsm _ (Below.refl _ _) : Calls _ _ _ _ _).mono ?_; rintro e w7 ⟨rfl, m7, rfl⟩)
          have HB7 : Hid (Below w6.heap.size w6 (w6.drewN m7)) := bdrewN (Below.refl _ _) m7
          have HEv7 : Hid (EvAt (w6.drewN m7) none X5.log) := HEv6.out.drewN m7
          clear hsm g1 g2 g3 g4
          generalize w6.drewN m7 = w7 at *
          have HK7 : Hid (OrdK w w7 b cb n c X5 X5.log none) := HK6.out.below HB7.out
          clear HB7
          go_wp2
          go_loopw [14] (fun kv wx => ∃ (k : Nat), k ≤ X5.log.length ∧ kv = .int .i64 k ∧ Below w7.heap.size w7 wx) (fun kv _ => X5.log.length - (intOf kv).toNat)
          case atStart => exact ⟨0, Nat.zero_le _, rfl, Below.refl _ _⟩
          case round =>
            obtain ⟨k, hkl, rfl, hbx⟩ := hrel
            have HBx : Hid (Below w7.heap.size w7 wr) := hbx
            clear hbx
            have hkt : ¬ k < X5.log.length := by omega
            have hkn : ¬ (k : Int) < (X5.log.length : Int) := by omega
            go_wp2
            go_roundw
            case rel => exact ⟨i + 1, X5, X5.log, none, 0, X5.merged, by omega, by first | rfl | rw [hl0], rfl, by go_num, Int.le_refl _, HK7.out.below HBx.out⟩
            case measure => first | (simp [intOf]; done) | (simp [intOf]; omega)
        · have hlc' : (old.length : Int) ≤ (lc : Int) := by omega
          have ho00 : (0 : Int) ≤ (old.length : Int) := by omega
          go_upto_region 23 with (go_at_call 16; refine (hsm _ (Below.refl _ _)).mono ?_; rintro e w7 ⟨rfl, m7, rfl⟩)
          have HB7 : Hid (Below w6.heap.size w6 (w6.drewN m7)) := bdrewN (Below.refl _ _) m7
          have HEv7 : Hid (EvAt (w6.drewN m7) (some ⟨lg, 0, none⟩) X5.log) := HEv6.out.drewN m7
          clear hsm g1 g2 g3 g4
          generalize w6.drewN m7 = w7 at *
          have HK7 : Hid (OrdK w w7 b cb n c X5 X5.log (some ⟨lg, 0, none⟩)) := HK6.out.below HB7.out
          clear HB7
          go_wp2
          go_loopw [14] (fun kv wx => ∃ (k : Nat), k ≤ X5.log.length ∧ kv = .int .i64 k ∧ Below w7.heap.size w7 wx) (fun kv _ => X5.log.length - (intOf kv).toNat)
          case atStart => exact ⟨0, Nat.zero_le _, rfl, Below.refl _ _⟩
          case round =>
            obtain ⟨k, hkl, rfl, hbx⟩ := hrel
            have HBx : Hid (Below w7.heap.size w7 wr) := hbx
            clear hbx
            by_cases hkt : k < X5.log.length
            · have hkt' : (k : Int) < (X5.log.length : Int) := by omega
              have hk00 : (0 : Int) ≤ (k : Int) := by omega
              obtain ⟨gg, hgg, hgl, x0, x1, x2, x3, x4⟩ := HEv7.out k hkt
              simp only [Option.some.injEq, Addr.mk.injEq, and_true] at hgg
              obtain rfl : gg = lg := hgg.symm
              have hts := HSo.out.2 k hkt
              have hbf1 : Hid (∀ (k' : Nat), k = k' + 1 → ∃ hk' : k' < X5.log.length, beforeB X5.log[k'] X5.log[k] = true) := by
                intro k' e
                subst e
                exact ⟨by omega, HSo.out.1 k' hkt⟩
              obtain ⟨Ek, HEk⟩ := hex X5.log[k]
              rw [← HEk.out] at x0 x1 x2 x3 x4 hts
              have y0 := (HBx.out.cell (p := ⟨gg, k * 5, none⟩) hgl).trans x0
              have y1 := (HBx.out.cell (p := ⟨gg, k * 5 + 1, none⟩) hgl).trans x1
              have y2 := (HBx.out.cell (p := ⟨gg, k * 5 + 2, none⟩) hgl).trans x2
              have y3 := (HBx.out.cell (p := ⟨gg, k * 5 + 3, none⟩) hgl).trans x3
              have y4 := (HBx.out.cell (p := ⟨gg, k * 5 + 4, none⟩) hgl).trans x4
              have HX2 : Hid (w7.cell? ⟨gg, k * 5 + 2, none⟩ = some (.int .i64 Ek.ts)) := x2
              clear x0 x1 x2 x3 x4
              have hge : ¬ X5.merged ≤ Ek.ts := by omega
              have hgd : decide (X5.merged ≤ Ek.ts) = false := decide_eq_false hge
              by_cases hk0 : k = 0
              · subst hk0
                have y2' : wr.cell? ⟨gg, 2, none⟩ = some (.int .i64 Ek.ts) := y2
                clear y0 y1 y2 y3 y4
                go_wp2
                go_roundw
                case rel => exact ⟨1, by omega, by first | rfl | go_num, HBx.out⟩
                case measure => first | (simp [intOf]; done) | (simp [intOf]; omega)
              · have e1 : (0 : Int) < (k : Int) := by omega
                obtain ⟨k', hk'⟩ : ∃ k', k = k' + 1 := ⟨k - 1, by omega⟩
                obtain ⟨hkl', hbt⟩ := hbf1.out k' hk'
                obtain ⟨gg', hgg', hgl', v0, v1, v2, v3, v4⟩ := HEv7.out k' hkl'
                have hge' : gg' = gg := by (simp only [Option.some.injEq, Addr.mk.injEq, and_true] at hgg'; exact hgg'.symm)
                subst hge'
                obtain ⟨Ej, HEj⟩ := hex X5.log[k']
                rw [← HEj.out] at v0 v1 v2 v3 v4 hbt
                rw [← HEk.out] at hbt
                have HBt : Hid (beforeB Ej Ek = true) := hbt
                have z0 := (HBx.out.cell (p := ⟨gg', k' * 5, none⟩) hgl').trans v0
                have z1 := (HBx.out.cell (p := ⟨gg', k' * 5 + 1, none⟩) hgl').trans v1
                have z2 := (HBx.out.cell (p := ⟨gg', k' * 5 + 2, none⟩) hgl').trans v2
                have z3 := (HBx.out.cell (p := ⟨gg', k' * 5 + 3, none⟩) hgl').trans v3
                have z4 := (HBx.out.cell (p := ⟨gg', k' * 5 + 4, none⟩) hgl').trans v4
                have hk1 : IntKind.i64.wrap ((k : Int) - 1) = (k' : Int) := by rw [IntKind.wrap_i64]; omega
                have hk1' : (k : Int) - 1 = (k' : Int) := by omega
                have hwk' : IntKind.i64.wrap (k' : Int) = (k' : Int) := by rw [IntKind.wrap_i64]; omega
                have hkl2 : (k' : Int) < (X5.log.length : Int) := by omega
                have hk02 : (0 : Int) ≤ (k' : Int) := by omega
                have HK' : Hid (k = k' + 1) := hk'
                clear v0 v1 v2 v3 v4 hbt hk'
                go_upto_region 28 with fail
                refine upTo_region (fun u : World => u.cell? ⟨gg', k' * 5, none⟩ = some (.int .i64 Ej.src) ∧ u.cell? ⟨gg', k' * 5 + 1, none⟩ = some (.int .i64 Ej.seq) ∧ u.cell? ⟨gg', k' * 5 + 2, none⟩ = some (.int .i64 Ej.ts) ∧ u.cell? ⟨gg', k' * 5 + 3, none⟩ = some (.int .i64 Ej.kind) ∧ u.cell? ⟨gg', k' * 5 + 4, none⟩ = some (.int .i64 Ej.val) ∧ u.cell? ⟨gg', k * 5, none⟩ = some (.int .i64 Ek.src) ∧ u.cell? ⟨gg', k * 5 + 1, none⟩ = some (.int .i64 Ek.seq) ∧ u.cell? ⟨gg', k * 5 + 2, none⟩ = some (.int .i64 Ek.ts) ∧ u.cell? ⟨gg', k * 5 + 3, none⟩ = some (.int .i64 Ek.kind) ∧ u.cell? ⟨gg', k * 5 + 4, none⟩ = some (.int .i64 Ek.val)) 11 11 rfl (by kernel_rfl) ?_
                have hS0 : (fun u : World => u.cell? ⟨gg', k' * 5, none⟩ = some (.int .i64 Ej.src) ∧ u.cell? ⟨gg', k' * 5 + 1, none⟩ = some (.int .i64 Ej.seq) ∧ u.cell? ⟨gg', k' * 5 + 2, none⟩ = some (.int .i64 Ej.ts) ∧ u.cell? ⟨gg', k' * 5 + 3, none⟩ = some (.int .i64 Ej.kind) ∧ u.cell? ⟨gg', k' * 5 + 4, none⟩ = some (.int .i64 Ej.val) ∧ u.cell? ⟨gg', k * 5, none⟩ = some (.int .i64 Ek.src) ∧ u.cell? ⟨gg', k * 5 + 1, none⟩ = some (.int .i64 Ek.seq) ∧ u.cell? ⟨gg', k * 5 + 2, none⟩ = some (.int .i64 Ek.ts) ∧ u.cell? ⟨gg', k * 5 + 3, none⟩ = some (.int .i64 Ek.kind) ∧ u.cell? ⟨gg', k * 5 + 4, none⟩ = some (.int .i64 Ek.val)) wr.drew := ⟨z0, z1, z2, z3, z4, y0, y1, y2, y3, y4⟩
                refine upTo_take2 (i := 0) (v := ?v25_0) rfl (by kernel_rfl) (by kernel_rfl) (by kernel_rfl) rfl (fun _ _ _ h => h) (by rfl) hS0 ?hy25_0 ?rest25_0
                case hy25_0 => (intro u hu; (try dsimp only at hu); go_simp; first | done | with_reducible rfl)
                (try simp only [Act.put, List.setIfInBounds_toArray, List.set_cons_zero, List.set_cons_succ, List.getElem_toArray, List.getElem_cons_succ, List.getElem_cons_zero])
                refine upTo_take2 (i := 1) (v := ?v25_1) rfl (by kernel_rfl) (by kernel_rfl) (by kernel_rfl) rfl (fun _ _ _ h => h) (by rfl) hS0 ?hy25_1 ?rest25_1
                case hy25_1 => (intro u hu; (try dsimp only at hu); go_simp; first | done | with_reducible rfl)
                (try simp only [Act.put, List.setIfInBounds_toArray, List.set_cons_zero, List.set_cons_succ, List.getElem_toArray, List.getElem_cons_succ, List.getElem_cons_zero])
                refine upTo_take2 (i := 2) (v := ?v25_2) rfl (by kernel_rfl) (by kernel_rfl) (by kernel_rfl) rfl (fun _ _ _ h => h) (by rfl) hS0 ?hy25_2 ?rest25_2
                case hy25_2 => (intro u hu; (try dsimp only at hu); go_simp; first | done | with_reducible rfl)
                (try simp only [Act.put, List.setIfInBounds_toArray, List.set_cons_zero, List.set_cons_succ, List.getElem_toArray, List.getElem_cons_succ, List.getElem_cons_zero])
                refine upTo_take2 (i := 3) (v := ?v25_3) rfl (by kernel_rfl) (by kernel_rfl) (by kernel_rfl) rfl (fun _ _ _ h => h) (by rfl) hS0 ?hy25_3 ?rest25_3
                case hy25_3 => (intro u hu; (try dsimp only at hu); go_simp; first | done | with_reducible rfl)
                (try simp only [Act.put, List.setIfInBounds_toArray, List.set_cons_zero, List.set_cons_succ, List.getElem_toArray, List.getElem_cons_succ, List.getElem_cons_zero])
                refine upTo_take2 (i := 4) (v := ?v25_4) rfl (by kernel_rfl) (by kernel_rfl) (by kernel_rfl) rfl (fun _ _ _ h => h) (by rfl) hS0 ?hy25_4 ?rest25_4
                case hy25_4 => (intro u hu; (try dsimp only at hu); go_simp; first | done | with_reducible rfl)
                (try simp only [Act.put, List.setIfInBounds_toArray, List.set_cons_zero, List.set_cons_succ, List.getElem_toArray, List.getElem_cons_succ, List.getElem_cons_zero])
                refine upTo_take2 (i := 5) (v := ?v25_5) rfl (by kernel_rfl) (by kernel_rfl) (by kernel_rfl) rfl (fun _ _ _ h => h) (by rfl) hS0 ?hy25_5 ?rest25_5
                case hy25_5 => (intro u hu; (try dsimp only at hu); go_simp; first | done | with_reducible rfl)
                (try simp only [Act.put, List.setIfInBounds_toArray, List.set_cons_zero, List.set_cons_succ, List.getElem_toArray, List.getElem_cons_succ, List.getElem_cons_zero])
                refine upTo_take2 (i := 6) (v := ?v25_6) rfl (by kernel_rfl) (by kernel_rfl) (by kernel_rfl) rfl (fun _ _ _ h => h) (by rfl) hS0 ?hy25_6 ?rest25_6
                case hy25_6 => (intro u hu; (try dsimp only at hu); go_simp; first | done | with_reducible rfl)
                (try simp only [Act.put, List.setIfInBounds_toArray, List.set_cons_zero, List.set_cons_succ, List.getElem_toArray, List.getElem_cons_succ, List.getElem_cons_zero])
                refine upTo_take2 (i := 7) (v := ?v25_7) rfl (by kernel_rfl) (by kernel_rfl) (by kernel_rfl) rfl (fun _ _ _ h => h) (by rfl) hS0 ?hy25_7 ?rest25_7
                case hy25_7 => (intro u hu; (try dsimp only at hu); go_simp; first | done | with_reducible rfl)
                (try simp only [Act.put, List.setIfInBounds_toArray, List.set_cons_zero, List.set_cons_succ, List.getElem_toArray, List.getElem_cons_succ, List.getElem_cons_zero])
                refine upTo_take2 (i := 8) (v := ?v25_8) rfl (by kernel_rfl) (by kernel_rfl) (by kernel_rfl) rfl (fun _ _ _ h => h) (by rfl) hS0 ?hy25_8 ?rest25_8
                case hy25_8 => (intro u hu; (try dsimp only at hu); go_simp; first | done | with_reducible rfl)
                (try simp only [Act.put, List.setIfInBounds_toArray, List.set_cons_zero, List.set_cons_succ, List.getElem_toArray, List.getElem_cons_succ, List.getElem_cons_zero])
                clear hS0
                refine upTo_one (i := 9) (by kernel_rfl) rfl (fun K hK => ?_)
                go_simp
                refine (hbf Ej Ek _).mono ?_
                rintro e w8 ⟨rfl, hb8⟩
                rw [HBt.out]
                have HB8 : Hid (Below wr.heap.size wr w8) := ⟨hb8.os, hb8.tape, hb8.output, hb8.size, hb8.block⟩
                have hcx : ∀ p : Addr, p.block < w7.heap.size → w8.cell? p = wr.cell? p := fun p hp => HB8.out.cell (p := p) (Nat.lt_of_lt_of_le hp HBx.out.size)
                clear hb8
                refine hK.out _ _ (fun _ => ⟨(hcx _ hgl').trans z0, (hcx _ hgl').trans z1, (hcx _ hgl').trans z2, (hcx _ hgl').trans z3, (hcx _ hgl').trans z4, (hcx _ hgl').trans y0, (hcx _ hgl').trans y1, (hcx _ hgl').trans y2, (hcx _ hgl').trans y3, (hcx _ hgl').trans y4⟩) ?_
                clear hK K
                (try simp only [Act.put, List.setIfInBounds_toArray, List.set_cons_zero, List.set_cons_succ, List.getElem_toArray, List.getElem_cons_succ, List.getElem_cons_zero])
                refine upTo_one (i := 10) (by kernel_rfl) rfl (fun K hK => ?_)
                go_simp
                refine hK.out _ _ (fun _ => ⟨(hcx _ hgl').trans z0, (hcx _ hgl').trans z1, (hcx _ hgl').trans z2, (hcx _ hgl').trans z3, (hcx _ hgl').trans z4, (hcx _ hgl').trans y0, (hcx _ hgl').trans y1, (hcx _ hgl').trans y2, (hcx _ hgl').trans y3, (hcx _ hgl').trans y4⟩) ?_
                clear hK K
                (try simp only [Act.put, List.setIfInBounds_toArray, List.set_cons_zero, List.set_cons_succ, List.getElem_toArray, List.getElem_cons_succ, List.getElem_cons_zero])
                refine upTo_done (by kernel_rfl) ?_
                have y2' := (hcx ⟨gg', k * 5 + 2, none⟩ hgl').trans y2
                clear y0 y1 y2 y3 y4 z0 z1 z2 z3 z4 hcx
                go_wp2
                go_roundw
                case rel => exact ⟨k + 1, by omega, by go_num, HBx.out.trans (HB8.out.mono HBx.out.size)⟩
                case measure => simp [intOf]; omega
            · have hkn : ¬ (k : Int) < (X5.log.length : Int) := by omega
              go_wp2
              go_roundw
              case rel => exact ⟨i + 1, X5, X5.log, (some ⟨lg, 0, none⟩), lc, X5.merged, by omega, by first | rfl | rw [hl0], rfl, by go_num, Int.le_refl _, HK7.out.below HBx.out⟩
              case measure => first | (simp [intOf]; done) | (simp [intOf]; omega)
      · have hod : (a.n.tmod 2 != 0) = true := by simpa using hodd
        have hwt : IntKind.i64.wrap (a.n.tmod 2) = a.n.tmod 2 := by
          have h1 := Int.tmod_lt_of_pos a.n (show (0 : Int) < 2 by omega)
          have h2 : -2 < a.n.tmod 2 := Int.neg_lt_of_neg_lt (by have := Int.tmod_lt_of_pos (-a.n) (show (0 : Int) < 2 by omega); rw [Int.neg_tmod] at this; omega)
          rw [IntKind.wrap_i64]; omega
        clear hodd
        go_wp2
        go_roundw
        case rel => exact ⟨i + 1, X5, old, oa, oc, mk, by omega, rfl, rfl, by go_num, HM5.out, HK5.out⟩
        case measure => simp [intOf]; omega
    · by_cases heq : i = acts.length
      · subst heq
        have hle2 : ((acts.length : Nat) : Int) ≤ (acts.length : Int) := by omega
        have hnl : ¬ ((acts.length : Nat) : Int) < (acts.length : Int) := by omega
        go_upto_region 16 with fail
        have hlg : ∀ u, OrdK w u b cb n c X old oa → Calls Tryd.prog 15 #[.pointer (some ⟨b, 0, none⟩)] u fun e w' => ∃ (la : Option Addr) (lc : Nat), e = .returned (.slice la X.log.length lc) ∧ OrdK w w' b cb n c X X.log la ∧ EvAt w' la X.log ∧ ((la = none ∧ X.log.length = 0 ∧ lc = 0) ∨ ∃ g, la = some ⟨g, 0, none⟩ ∧ X.log.length ≤ lc) ∧ EvAt w' oa old := fun u hu => by
          refine (xlog_any b X u hu.mem (hu.sorted.2.2.log)).mono ?_
          rintro e w' ⟨la, lc, he, hro, hbe⟩
          obtain ⟨h1, h2, h3⟩ := hu.logged hbe hro
          exact ⟨la, lc, he, h1, h2, h3, (hu.below hbe).ev⟩
        go_upto_region 17 with (go_at_call 13; refine (hmk _ X (by first | exact HK.out.mem | exact HK.out.mem.drew)).mono ?_; rintro e w' ⟨rfl, rfl⟩)
        go_upto_region 18 with (go_at_call 15; refine (hlg _ (by first | exact HK.out | exact HK.out.below ((Below.refl _ _).drew))).mono ?_; rintro e w6 ⟨la, lc, rfl, hk6, hev6, hlc6, hold6⟩)
        have HK6 : Hid (OrdK w w6 b cb n c X X.log la) := hk6
        have HEv6 : Hid (EvAt w6 la X.log) := hev6
        have HOl6 : Hid (EvAt w6 oa old) := hold6
        have HPr : Hid (old <+: X.log) := HK.out.pre
        have hlog1 : X.log.length ≤ 1000 := HK.out.sorted.2.2.log
        have hold1 : old.length ≤ X.log.length := HPr.out.length_le
        have HSo : Hid ((∀ (k : Nat) (hk : k + 1 < X.log.length), beforeB X.log[k] X.log[k + 1] = true) ∧ (∀ (k : Nat) (hk : k < X.log.length), X.log[k].ts < X.merged)) := ⟨HK.out.sorted.1, HK.out.sorted.2.1⟩
        clear hk6 hev6 hold6 hlg
        have g1 : decide (X.merged < mk) = false := decide_eq_false (by have := HMm.out; omega)
        have g2 : decide ((X.log.length : Int) < (old.length : Int)) = false := decide_eq_false (by omega)
        have g3 : ¬ X.merged < mk := by have := HMm.out; omega
        have g4 : ¬ ((X.log.length : Int) < (old.length : Int)) := by omega
        have hsm : ∀ u, Below w6.heap.size w6 u → Calls Tryd.prog 16 #[.slice la old.length lc, .slice oa old.length oc] u fun e w' => e = .returned (.bool true) ∧ ∃ m, w' = u.drewN m := fun u hu => same_eq old la oa lc oc u ((HEv6.out.take HPr.out).below' hu) (HOl6.out.below' hu) (by omega)
        have hbf : ∀ (A B : Ev) u, Calls Tryd.prog 17 #[.agg #[.int .i64 A.src, .int .i64 A.seq, .int .i64 A.ts, .int .i64 A.kind, .int .i64 A.val], .agg #[.int .i64 B.src, .int .i64 B.seq, .int .i64 B.ts, .int .i64 B.kind, .int .i64 B.val]] u fun e w' => e = .returned (.bool (beforeB A B)) ∧ Below u.heap.size u w' := fun A B u => before_any A B u
        rcases hlc6 with ⟨rfl, hl0, rfl⟩ | ⟨lg, rfl, hlc⟩
        · have ho0 : old.length = 0 := by omega
          have ho0' : (old.length : Int) = 0 := by omega
          go_upto_region 23 with (go_at_call 16; refine (by simpa [ho0] using hsm _ (Below.refl _ _) : Calls _ _ _ _ _).mono ?_; rintro e w7 ⟨rfl, m7, rfl⟩)
          have HB7 : Hid (Below w6.heap.size w6 (w6.drewN m7)) := bdrewN (Below.refl _ _) m7
          have HEv7 : Hid (EvAt (w6.drewN m7) none X.log) := HEv6.out.drewN m7
          clear hsm g1 g2 g3 g4
          generalize w6.drewN m7 = w7 at *
          have HK7 : Hid (OrdK w w7 b cb n c X X.log none) := HK6.out.below HB7.out
          clear HB7
          go_wp2
          go_loopw [14] (fun kv wx => ∃ (k : Nat), k ≤ X.log.length ∧ kv = .int .i64 k ∧ Below w7.heap.size w7 wx) (fun kv _ => X.log.length - (intOf kv).toNat)
          case atStart => exact ⟨0, Nat.zero_le _, rfl, Below.refl _ _⟩
          case round =>
            obtain ⟨k, hkl, rfl, hbx⟩ := hrel
            have HBx : Hid (Below w7.heap.size w7 wr) := hbx
            clear hbx
            have hkt : ¬ k < X.log.length := by omega
            have hkn : ¬ (k : Int) < (X.log.length : Int) := by omega
            go_wp2
            go_roundw
            case rel => exact ⟨acts.length + 1, X, X.log, none, 0, X.merged, by omega, by first | rfl | rw [hl0], rfl, by go_num, Int.le_refl _, HK7.out.below HBx.out⟩
            case measure => first | (simp [intOf]; done) | (simp [intOf]; omega)
        · have hlc' : (old.length : Int) ≤ (lc : Int) := by omega
          have ho00 : (0 : Int) ≤ (old.length : Int) := by omega
          go_upto_region 23 with (go_at_call 16; refine (hsm _ (Below.refl _ _)).mono ?_; rintro e w7 ⟨rfl, m7, rfl⟩)
          have HB7 : Hid (Below w6.heap.size w6 (w6.drewN m7)) := bdrewN (Below.refl _ _) m7
          have HEv7 : Hid (EvAt (w6.drewN m7) (some ⟨lg, 0, none⟩) X.log) := HEv6.out.drewN m7
          clear hsm g1 g2 g3 g4
          generalize w6.drewN m7 = w7 at *
          have HK7 : Hid (OrdK w w7 b cb n c X X.log (some ⟨lg, 0, none⟩)) := HK6.out.below HB7.out
          clear HB7
          go_wp2
          go_loopw [14] (fun kv wx => ∃ (k : Nat), k ≤ X.log.length ∧ kv = .int .i64 k ∧ Below w7.heap.size w7 wx) (fun kv _ => X.log.length - (intOf kv).toNat)
          case atStart => exact ⟨0, Nat.zero_le _, rfl, Below.refl _ _⟩
          case round =>
            obtain ⟨k, hkl, rfl, hbx⟩ := hrel
            have HBx : Hid (Below w7.heap.size w7 wr) := hbx
            clear hbx
            by_cases hkt : k < X.log.length
            · have hkt' : (k : Int) < (X.log.length : Int) := by omega
              have hk00 : (0 : Int) ≤ (k : Int) := by omega
              obtain ⟨gg, hgg, hgl, x0, x1, x2, x3, x4⟩ := HEv7.out k hkt
              simp only [Option.some.injEq, Addr.mk.injEq, and_true] at hgg
              obtain rfl : gg = lg := hgg.symm
              have hts := HSo.out.2 k hkt
              have hbf1 : Hid (∀ (k' : Nat), k = k' + 1 → ∃ hk' : k' < X.log.length, beforeB X.log[k'] X.log[k] = true) := by
                intro k' e
                subst e
                exact ⟨by omega, HSo.out.1 k' hkt⟩
              obtain ⟨Ek, HEk⟩ := hex X.log[k]
              rw [← HEk.out] at x0 x1 x2 x3 x4 hts
              have y0 := (HBx.out.cell (p := ⟨gg, k * 5, none⟩) hgl).trans x0
              have y1 := (HBx.out.cell (p := ⟨gg, k * 5 + 1, none⟩) hgl).trans x1
              have y2 := (HBx.out.cell (p := ⟨gg, k * 5 + 2, none⟩) hgl).trans x2
              have y3 := (HBx.out.cell (p := ⟨gg, k * 5 + 3, none⟩) hgl).trans x3
              have y4 := (HBx.out.cell (p := ⟨gg, k * 5 + 4, none⟩) hgl).trans x4
              have HX2 : Hid (w7.cell? ⟨gg, k * 5 + 2, none⟩ = some (.int .i64 Ek.ts)) := x2
              clear x0 x1 x2 x3 x4
              have hge : ¬ X.merged ≤ Ek.ts := by omega
              have hgd : decide (X.merged ≤ Ek.ts) = false := decide_eq_false hge
              by_cases hk0 : k = 0
              · subst hk0
                have y2' : wr.cell? ⟨gg, 2, none⟩ = some (.int .i64 Ek.ts) := y2
                clear y0 y1 y2 y3 y4
                go_wp2
                go_roundw
                case rel => exact ⟨1, by omega, by first | rfl | go_num, HBx.out⟩
                case measure => first | (simp [intOf]; done) | (simp [intOf]; omega)
              · have e1 : (0 : Int) < (k : Int) := by omega
                obtain ⟨k', hk'⟩ : ∃ k', k = k' + 1 := ⟨k - 1, by omega⟩
                obtain ⟨hkl', hbt⟩ := hbf1.out k' hk'
                obtain ⟨gg', hgg', hgl', v0, v1, v2, v3, v4⟩ := HEv7.out k' hkl'
                have hge' : gg' = gg := by (simp only [Option.some.injEq, Addr.mk.injEq, and_true] at hgg'; exact hgg'.symm)
                subst hge'
                obtain ⟨Ej, HEj⟩ := hex X.log[k']
                rw [← HEj.out] at v0 v1 v2 v3 v4 hbt
                rw [← HEk.out] at hbt
                have HBt : Hid (beforeB Ej Ek = true) := hbt
                have z0 := (HBx.out.cell (p := ⟨gg', k' * 5, none⟩) hgl').trans v0
                have z1 := (HBx.out.cell (p := ⟨gg', k' * 5 + 1, none⟩) hgl').trans v1
                have z2 := (HBx.out.cell (p := ⟨gg', k' * 5 + 2, none⟩) hgl').trans v2
                have z3 := (HBx.out.cell (p := ⟨gg', k' * 5 + 3, none⟩) hgl').trans v3
                have z4 := (HBx.out.cell (p := ⟨gg', k' * 5 + 4, none⟩) hgl').trans v4
                have hk1 : IntKind.i64.wrap ((k : Int) - 1) = (k' : Int) := by rw [IntKind.wrap_i64]; omega
                have hk1' : (k : Int) - 1 = (k' : Int) := by omega
                have hwk' : IntKind.i64.wrap (k' : Int) = (k' : Int) := by rw [IntKind.wrap_i64]; omega
                have hkl2 : (k' : Int) < (X.log.length : Int) := by omega
                have hk02 : (0 : Int) ≤ (k' : Int) := by omega
                have HK' : Hid (k = k' + 1) := hk'
                clear v0 v1 v2 v3 v4 hbt hk'
                go_upto_region 28 with fail
                refine upTo_region (fun u : World => u.cell? ⟨gg', k' * 5, none⟩ = some (.int .i64 Ej.src) ∧ u.cell? ⟨gg', k' * 5 + 1, none⟩ = some (.int .i64 Ej.seq) ∧ u.cell? ⟨gg', k' * 5 + 2, none⟩ = some (.int .i64 Ej.ts) ∧ u.cell? ⟨gg', k' * 5 + 3, none⟩ = some (.int .i64 Ej.kind) ∧ u.cell? ⟨gg', k' * 5 + 4, none⟩ = some (.int .i64 Ej.val) ∧ u.cell? ⟨gg', k * 5, none⟩ = some (.int .i64 Ek.src) ∧ u.cell? ⟨gg', k * 5 + 1, none⟩ = some (.int .i64 Ek.seq) ∧ u.cell? ⟨gg', k * 5 + 2, none⟩ = some (.int .i64 Ek.ts) ∧ u.cell? ⟨gg', k * 5 + 3, none⟩ = some (.int .i64 Ek.kind) ∧ u.cell? ⟨gg', k * 5 + 4, none⟩ = some (.int .i64 Ek.val)) 11 11 rfl (by kernel_rfl) ?_
                have hS0 : (fun u : World => u.cell? ⟨gg', k' * 5, none⟩ = some (.int .i64 Ej.src) ∧ u.cell? ⟨gg', k' * 5 + 1, none⟩ = some (.int .i64 Ej.seq) ∧ u.cell? ⟨gg', k' * 5 + 2, none⟩ = some (.int .i64 Ej.ts) ∧ u.cell? ⟨gg', k' * 5 + 3, none⟩ = some (.int .i64 Ej.kind) ∧ u.cell? ⟨gg', k' * 5 + 4, none⟩ = some (.int .i64 Ej.val) ∧ u.cell? ⟨gg', k * 5, none⟩ = some (.int .i64 Ek.src) ∧ u.cell? ⟨gg', k * 5 + 1, none⟩ = some (.int .i64 Ek.seq) ∧ u.cell? ⟨gg', k * 5 + 2, none⟩ = some (.int .i64 Ek.ts) ∧ u.cell? ⟨gg', k * 5 + 3, none⟩ = some (.int .i64 Ek.kind) ∧ u.cell? ⟨gg', k * 5 + 4, none⟩ = some (.int .i64 Ek.val)) wr.drew := ⟨z0, z1, z2, z3, z4, y0, y1, y2, y3, y4⟩
                refine upTo_take2 (i := 0) (v := ?v26_0) rfl (by kernel_rfl) (by kernel_rfl) (by kernel_rfl) rfl (fun _ _ _ h => h) (by rfl) hS0 ?hy26_0 ?rest26_0
                case hy26_0 => (intro u hu; (try dsimp only at hu); go_simp; first | done | with_reducible rfl)
                (try simp only [Act.put, List.setIfInBounds_toArray, List.set_cons_zero, List.set_cons_succ, List.getElem_toArray, List.getElem_cons_succ, List.getElem_cons_zero])
                refine upTo_take2 (i := 1) (v := ?v26_1) rfl (by kernel_rfl) (by kernel_rfl) (by kernel_rfl) rfl (fun _ _ _ h => h) (by rfl) hS0 ?hy26_1 ?rest26_1
                case hy26_1 => (intro u hu; (try dsimp only at hu); go_simp; first | done | with_reducible rfl)
                (try simp only [Act.put, List.setIfInBounds_toArray, List.set_cons_zero, List.set_cons_succ, List.getElem_toArray, List.getElem_cons_succ, List.getElem_cons_zero])
                refine upTo_take2 (i := 2) (v := ?v26_2) rfl (by kernel_rfl) (by kernel_rfl) (by kernel_rfl) rfl (fun _ _ _ h => h) (by rfl) hS0 ?hy26_2 ?rest26_2
                case hy26_2 => (intro u hu; (try dsimp only at hu); go_simp; first | done | with_reducible rfl)
                (try simp only [Act.put, List.setIfInBounds_toArray, List.set_cons_zero, List.set_cons_succ, List.getElem_toArray, List.getElem_cons_succ, List.getElem_cons_zero])
                refine upTo_take2 (i := 3) (v := ?v26_3) rfl (by kernel_rfl) (by kernel_rfl) (by kernel_rfl) rfl (fun _ _ _ h => h) (by rfl) hS0 ?hy26_3 ?rest26_3
                case hy26_3 => (intro u hu; (try dsimp only at hu); go_simp; first | done | with_reducible rfl)
                (try simp only [Act.put, List.setIfInBounds_toArray, List.set_cons_zero, List.set_cons_succ, List.getElem_toArray, List.getElem_cons_succ, List.getElem_cons_zero])
                refine upTo_take2 (i := 4) (v := ?v26_4) rfl (by kernel_rfl) (by kernel_rfl) (by kernel_rfl) rfl (fun _ _ _ h => h) (by rfl) hS0 ?hy26_4 ?rest26_4
                case hy26_4 => (intro u hu; (try dsimp only at hu); go_simp; first | done | with_reducible rfl)
                (try simp only [Act.put, List.setIfInBounds_toArray, List.set_cons_zero, List.set_cons_succ, List.getElem_toArray, List.getElem_cons_succ, List.getElem_cons_zero])
                refine upTo_take2 (i := 5) (v := ?v26_5) rfl (by kernel_rfl) (by kernel_rfl) (by kernel_rfl) rfl (fun _ _ _ h => h) (by rfl) hS0 ?hy26_5 ?rest26_5
                case hy26_5 => (intro u hu; (try dsimp only at hu); go_simp; first | done | with_reducible rfl)
                (try simp only [Act.put, List.setIfInBounds_toArray, List.set_cons_zero, List.set_cons_succ, List.getElem_toArray, List.getElem_cons_succ, List.getElem_cons_zero])
                refine upTo_take2 (i := 6) (v := ?v26_6) rfl (by kernel_rfl) (by kernel_rfl) (by kernel_rfl) rfl (fun _ _ _ h => h) (by rfl) hS0 ?hy26_6 ?rest26_6
                case hy26_6 => (intro u hu; (try dsimp only at hu); go_simp; first | done | with_reducible rfl)
                (try simp only [Act.put, List.setIfInBounds_toArray, List.set_cons_zero, List.set_cons_succ, List.getElem_toArray, List.getElem_cons_succ, List.getElem_cons_zero])
                refine upTo_take2 (i := 7) (v := ?v26_7) rfl (by kernel_rfl) (by kernel_rfl) (by kernel_rfl) rfl (fun _ _ _ h => h) (by rfl) hS0 ?hy26_7 ?rest26_7
                case hy26_7 => (intro u hu; (try dsimp only at hu); go_simp; first | done | with_reducible rfl)
                (try simp only [Act.put, List.setIfInBounds_toArray, List.set_cons_zero, List.set_cons_succ, List.getElem_toArray, List.getElem_cons_succ, List.getElem_cons_zero])
                refine upTo_take2 (i := 8) (v := ?v26_8) rfl (by kernel_rfl) (by kernel_rfl) (by kernel_rfl) rfl (fun _ _ _ h => h) (by rfl) hS0 ?hy26_8 ?rest26_8
                case hy26_8 => (intro u hu; (try dsimp only at hu); go_simp; first | done | with_reducible rfl)
                (try simp only [Act.put, List.setIfInBounds_toArray, List.set_cons_zero, List.set_cons_succ, List.getElem_toArray, List.getElem_cons_succ, List.getElem_cons_zero])
                clear hS0
                refine upTo_one (i := 9) (by kernel_rfl) rfl (fun K hK => ?_)
                go_simp
                refine (hbf Ej Ek _).mono ?_
                rintro e w8 ⟨rfl, hb8⟩
                rw [HBt.out]
                have HB8 : Hid (Below wr.heap.size wr w8) := ⟨hb8.os, hb8.tape, hb8.output, hb8.size, hb8.block⟩
                have hcx : ∀ p : Addr, p.block < w7.heap.size → w8.cell? p = wr.cell? p := fun p hp => HB8.out.cell (p := p) (Nat.lt_of_lt_of_le hp HBx.out.size)
                clear hb8
                refine hK.out _ _ (fun _ => ⟨(hcx _ hgl').trans z0, (hcx _ hgl').trans z1, (hcx _ hgl').trans z2, (hcx _ hgl').trans z3, (hcx _ hgl').trans z4, (hcx _ hgl').trans y0, (hcx _ hgl').trans y1, (hcx _ hgl').trans y2, (hcx _ hgl').trans y3, (hcx _ hgl').trans y4⟩) ?_
                clear hK K
                (try simp only [Act.put, List.setIfInBounds_toArray, List.set_cons_zero, List.set_cons_succ, List.getElem_toArray, List.getElem_cons_succ, List.getElem_cons_zero])
                refine upTo_one (i := 10) (by kernel_rfl) rfl (fun K hK => ?_)
                go_simp
                refine hK.out _ _ (fun _ => ⟨(hcx _ hgl').trans z0, (hcx _ hgl').trans z1, (hcx _ hgl').trans z2, (hcx _ hgl').trans z3, (hcx _ hgl').trans z4, (hcx _ hgl').trans y0, (hcx _ hgl').trans y1, (hcx _ hgl').trans y2, (hcx _ hgl').trans y3, (hcx _ hgl').trans y4⟩) ?_
                clear hK K
                (try simp only [Act.put, List.setIfInBounds_toArray, List.set_cons_zero, List.set_cons_succ, List.getElem_toArray, List.getElem_cons_succ, List.getElem_cons_zero])
                refine upTo_done (by kernel_rfl) ?_
                have y2' := (hcx ⟨gg', k * 5 + 2, none⟩ hgl').trans y2
                clear y0 y1 y2 y3 y4 z0 z1 z2 z3 z4 hcx
                go_wp2
                go_roundw
                case rel => exact ⟨k + 1, by omega, by go_num, HBx.out.trans (HB8.out.mono HBx.out.size)⟩
                case measure => simp [intOf]; omega
            · have hkn : ¬ (k : Int) < (X.log.length : Int) := by omega
              go_wp2
              go_roundw
              case rel => exact ⟨acts.length + 1, X, X.log, (some ⟨lg, 0, none⟩), lc, X.merged, by omega, by first | rfl | rw [hl0], rfl, by go_num, Int.le_refl _, HK7.out.below HBx.out⟩
              case measure => first | (simp [intOf]; done) | (simp [intOf]; omega)
      · have hgt : ¬ (i : Int) ≤ (acts.length : Int) := by omega
        have HCr : Hid (Blk wr cb 26 c.vals) := HK.out.box
        have k0 := HCr.out.cell 0
        have k1 := HCr.out.cell 1
        have k2 := HCr.out.cell 2
        have k3 := HCr.out.cell 3
        have k4 := HCr.out.cell 4
        have k5 := HCr.out.cell 5
        simp only [Cfg.vals, List.getElem?_cons_zero, List.getElem?_cons_succ] at k0 k1 k2 k3 k4 k5
        go_wp2_with (go_at_call 18; refine (HFl.out _).mono ?_; rintro e w9 ⟨rfl, hb9⟩)
        go_ret
        exact ⟨rfl, HK.out.bel.trans (hb9.mono HK.out.bel.size)⟩
end Go.Proofs.YtghcololkgeoeaaDoor
