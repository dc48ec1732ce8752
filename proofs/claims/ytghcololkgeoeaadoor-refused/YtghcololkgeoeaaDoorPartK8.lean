import Derived.Test.YtghcololkgeoeaaDoorPartK7
namespace Go.Proofs.YtghcololkgeoeaaDoor
open Go.RowKit
set_option linter.unusedVariables false
set_option linter.unusedSimpArgs false
attribute [local go_sem ↓] Go.wp_at_zero Go.wp_at_succ

theorem push_neg {X X' : Eng} {z : Int} (h : PushesX X 0 ⟨0, -1, 0, 65, 0⟩ z X') (hn : 0 < X.srcs.length) : z = 4 ∨ z = 5 := by
  rcases h with ⟨o, _, _⟩ | ⟨i, p, hi, hp, h⟩
  · unfold Off at o; omega
  · have hb : badB ⟨0, -1, 0, 65, 0⟩ = true := by decide
    have hw : pWrong p ⟨0, -1, 0, 65, 0⟩ = 4 ∨ pWrong p ⟨0, -1, 0, 65, 0⟩ = 5 := by
      unfold pWrong
      rw [if_pos hb]
      split
      · exact Or.inl rfl
      · exact Or.inr rfl
    rcases h with ⟨_, rfl, _⟩ | ⟨h, _⟩ | ⟨h, _⟩
    · exact hw
    · omega
    · omega
set_option maxRecDepth 100000 in
set_option maxHeartbeats 16000000 in
theorem refused_walk (r : RawC) (sa : Option Addr) (sc : Nat) (acts : List ActR) (q : ActR) (w : World) (hr : r.ok) (hsa : ActsAt w sa acts) (hlen : acts.length ≤ 9000000000000000) (hqo : q.ok) (htab : ∀ u, Below w.heap.size w u → tab10 u) :
    Calls Tryd.prog 7 #[.agg #[.int .i64 r.sources, .int .i64 r.slack, .int .i64 r.policy, .int .i64 r.room, .int .i64 r.idle, .int .i64 r.pattern], .slice sa acts.length sc, .agg #[.int .i64 q.d, .int .i64 q.s, .int .i64 q.n, .int .i64 q.E.src, .int .i64 q.E.seq, .int .i64 q.E.ts, .int .i64 q.E.kind, .int .i64 q.E.val]] w fun e w' => e = .returned (.bool true) ∧ Below w.heap.size w w' := by
  obtain ⟨c, HC⟩ := hex r.cfg
  have HOK : Hid c.ok := by show c.ok; rw [HC.out]; exact r.cfg_ok
  obtain ⟨n, hn⟩ : ∃ n : Nat, c.sources = n := ⟨c.sources.toNat, by have := HOK.out.1.1; omega⟩
  have HNn : Hid (c.sources = n) := hn
  have hn6 : 1 ≤ n ∧ n ≤ 6 := by have := HOK.out.1.1; have := HOK.out.1.2.1; omega
  have hcf : ∀ u, Below w.heap.size w u → Calls Tryd.prog 10 #[.agg #[.int .i64 r.sources, .int .i64 r.slack, .int .i64 r.policy, .int .i64 r.room, .int .i64 r.idle, .int .i64 r.pattern]] u fun e w' => e = .returned (.agg #[.int .i64 c.sources, .int .i64 c.slack, .int .i64 c.policy, .int .i64 c.room, .int .i64 c.idle, .string c.pat]) ∧ Below u.heap.size u w' := fun u hu => by rw [HC.out]; exact config_any r u hr (fun v hv => htab v (hu.trans (hv.mono hu.size)))
  have HMd : Hid (∀ u, Calls Tryd.prog 11 #[.agg #[.int .i64 c.sources, .int .i64 c.slack, .int .i64 c.policy, .int .i64 c.room, .int .i64 c.idle, .string c.pat]] u fun e w' => ∃ b sg sc p, e = .returned (.tuple #[.pointer (some ⟨b, 0, none⟩), .bool true]) ∧ MemX w' b (newEng c n sg sc p) ∧ (∀ k, some k ∈ (newEng c n sg sc p).fp b → u.heap.size ≤ k) ∧ Below u.heap.size u w') := fun u => made_any n c u hn HOK.out
  have HFl : Hid (∀ u, Calls Tryd.prog 18 #[.agg #[.int .i64 c.sources, .int .i64 c.slack, .int .i64 c.policy, .int .i64 c.room, .int .i64 c.idle, .string c.pat]] u fun e w' => e = .returned (.bool true) ∧ Below u.heap.size u w') := fun u => flows_true n c u hn HOK.out
  have HSA : Hid (ActsAt w sa acts) := hsa
  have HQo : Hid q.ok := hqo
  clear hn hsa htab hr HC hqo
  obtain ⟨w0, HW0⟩ := hex ((w.alloc (.cells r.vals.toArray 23)).alloc (.cells q.cells.toArray 39))
  obtain ⟨rb, HRb⟩ := hex w.heap.size
  obtain ⟨qb, HQb⟩ := hex (w.heap.size + 1)
  have HQ0 : Hid (Blk w0 qb 39 q.cells) := by show Blk _ _ _ _; rw [HW0.out, HQb.out]; have := blk_alloc (w.alloc (.cells r.vals.toArray 23)) q.cells 39; simpa using this
  have HR0 : Hid (Blk w0 rb 23 r.vals) := by show Blk _ _ _ _; rw [HW0.out, HRb.out]; exact (blk_alloc _ _ _).alloc _
  have H0 : Hid (Below w.heap.size w w0) := by show Below _ _ _; rw [HW0.out]; exact ((Below.refl _ _).alloc (Nat.le_refl _) _).alloc (by simp) _
  have hw0 : (w.alloc (.cells #[.int .i64 r.sources, .int .i64 r.slack, .int .i64 r.policy, .int .i64 r.room, .int .i64 r.idle, .int .i64 r.pattern] 23)).alloc (.cells #[.int .i64 q.d, .int .i64 q.s, .int .i64 q.n, .int .i64 q.E.src, .int .i64 q.E.seq, .int .i64 q.E.ts, .int .i64 q.E.kind, .int .i64 q.E.val] 39) = w0 := HW0.out.symm
  go_enter Tryd.func7, Tryd.ntmps7
  go_upto_region 1 with fail
  rw [← HQb.out, ← HRb.out]
  clear hw0 HW0 HRb HQb
  have r0 := HR0.out.cell 0
  have r1 := HR0.out.cell 1
  have r2 := HR0.out.cell 2
  have r3 := HR0.out.cell 3
  have r4 := HR0.out.cell 4
  have r5 := HR0.out.cell 5
  simp only [RawC.vals, List.getElem?_cons_zero, List.getElem?_cons_succ] at r0 r1 r2 r3 r4 r5
  go_upto_region 2 with (go_at_call 10; refine (hcf _ H0.out).mono ?_; rintro e w1 ⟨rfl, hb1⟩)
  have HB1 : Hid (Below w.heap.size w w1) := H0.out.trans (hb1.mono H0.out.size)
  have HQ1 : Hid (Blk w1 qb 39 q.cells) := HQ0.out.below hb1 HQ0.out.lt
  clear hcf hb1 H0 r0 r1 r2 r3 r4 r5 HR0 HQ0
  obtain ⟨w2, HW2⟩ := hex (w1.alloc (.cells c.vals.toArray 26))
  have hw2 : w1.alloc (.cells #[.int .i64 c.sources, .int .i64 c.slack, .int .i64 c.policy, .int .i64 c.room, .int .i64 c.idle, .string c.pat] 26) = w2 := HW2.out.symm
  rw [hw2]
  obtain ⟨cb, HCb⟩ := hex w1.heap.size
  have HC2 : Hid (Blk w2 cb 26 c.vals) := by show Blk _ _ _ _; rw [HW2.out, HCb.out]; exact blk_alloc _ _ _
  have HQ2 : Hid (Blk w2 qb 39 q.cells) := by show Blk _ _ _ _; rw [HW2.out]; exact HQ1.out.alloc _
  have HB2 : Hid (Below w.heap.size w w2) := by show Below _ _ _; rw [HW2.out]; exact HB1.out.alloc HB1.out.size _
  rw [← HCb.out]
  clear hw2 HW2 HCb HB1 HQ1
  have k0 := HC2.out.cell 0
  have k1 := HC2.out.cell 1
  have k2 := HC2.out.cell 2
  have k3 := HC2.out.cell 3
  have k4 := HC2.out.cell 4
  have k5 := HC2.out.cell 5
  simp only [Cfg.vals, List.getElem?_cons_zero, List.getElem?_cons_succ] at k0 k1 k2 k3 k4 k5
  go_upto_region 3 with (go_at_call 11; refine (HMd.out _).mono ?_; rintro e w3 ⟨b, sg, scc, pv, rfl, hM, hf, hb⟩)
  have HM3 : Hid (MemX w3 b (newEng c n sg scc pv) ∧ (∀ k, some k ∈ (newEng c n sg scc pv).fp b → w2.heap.size ≤ k) ∧ Below w2.heap.size w2 w3) := ⟨hM, hf, hb⟩
  have HC3 : Hid (Blk w3 cb 26 c.vals) := HC2.out.below hb HC2.out.lt
  clear hM hf hb k0 k1 k2 k3 k4 k5
  have k0 := HC3.out.cell 0
  have k1 := HC3.out.cell 1
  have k2 := HC3.out.cell 2
  have k3 := HC3.out.cell 3
  have k4 := HC3.out.cell 4
  have k5 := HC3.out.cell 5
  simp only [Cfg.vals, List.getElem?_cons_zero, List.getElem?_cons_succ] at k0 k1 k2 k3 k4 k5
  go_upto_region 4 with (go_at_call 11; refine (HMd.out _).mono ?_; rintro e w4 ⟨b', sg', scc', pv', rfl, hM, hf, hb⟩)
  obtain ⟨bs, HBs⟩ := hex [(cb, 26, c.vals), (qb, 39, q.cells)]
  have HK4 : Hid (Two w w4 b b' bs (newEng c n sg scc pv) (newEng c n sg' scc' pv')) := by
    refine Two.start HB2.out ?_ HM3.out.1 HM3.out.2.1 HM3.out.2.2 hM hf hb
    rw [HBs.out]
    intro x hx
    simp only [List.mem_cons, List.not_mem_nil, or_false] at hx
    rcases hx with rfl | rfl
    · exact HC2.out
    · exact HQ2.out
  clear hM hf hb k0 k1 k2 k3 k4 k5 HC2 HC3 HQ2 HB2 HMd HM3
  have k0 := (HK4.out.bx (cb, 26, c.vals) (HBs.out ▸ by simp)).cell 0
  have k1 := (HK4.out.bx (cb, 26, c.vals) (HBs.out ▸ by simp)).cell 1
  have k2 := (HK4.out.bx (cb, 26, c.vals) (HBs.out ▸ by simp)).cell 2
  have k3 := (HK4.out.bx (cb, 26, c.vals) (HBs.out ▸ by simp)).cell 3
  have k4 := (HK4.out.bx (cb, 26, c.vals) (HBs.out ▸ by simp)).cell 4
  have k5 := (HK4.out.bx (cb, 26, c.vals) (HBs.out ▸ by simp)).cell 5
  simp only [Cfg.vals, List.getElem?_cons_zero, List.getElem?_cons_succ] at k0 k1 k2 k3 k4 k5
  have hjx : ∀ u, Two w u b b' bs (newEng c n sg scc pv) (newEng c n sg' scc' pv') → Calls Tryd.prog 12 #[.pointer (some ⟨b, 0, none⟩), .agg #[.int .i64 c.sources, .int .i64 c.slack, .int .i64 c.policy, .int .i64 c.room, .int .i64 c.idle, .string c.pat]] u fun e w' => e = .returned (.bool true) ∧ ∃ M X, Like M X (joinSeq (newRef c n none 0 0) n) ∧ lineOf X = lineOf (newEng c n sg scc pv) ∧ X.srcs.length = n ∧ Two w w' b b' bs X (newEng c n sg' scc' pv') := fun u hu => by
    refine (joined_seq b n c (newEng c n sg scc pv) (newRef c n none 0 0) u hu.mx (new_like HNn.out HOK.out) HNn.out hn6.2 (by show (List.replicate n zP).length = n; simp)).mono ?_
    rintro e w' ⟨he, M, Y, h1, h2, h3, hev⟩
    exact ⟨he, M, Y, h1, h2, h3, hu.evoX hev⟩
  go_upto_region 7 with (go_at_call 12; refine (hjx _ HK4.out).mono ?_; rintro e w5 ⟨rfl, M5, X5, hl5, hi5, hn5, hk5⟩)
  have HK5 : Hid (Two w w5 b b' bs X5 (newEng c n sg' scc' pv')) := hk5
  have HL5 : Hid (Like M5 X5 (joinSeq (newRef c n none 0 0) n) ∧ lineOf X5 = lineOf (newEng c n sg scc pv) ∧ X5.srcs.length = n) := ⟨hl5, hi5, hn5⟩
  clear hjx hk5 hl5 hi5 hn5 k0 k1 k2 k3 k4 k5 HK4
  have k0 := (HK5.out.bx (cb, 26, c.vals) (HBs.out ▸ by simp)).cell 0
  have k1 := (HK5.out.bx (cb, 26, c.vals) (HBs.out ▸ by simp)).cell 1
  have k2 := (HK5.out.bx (cb, 26, c.vals) (HBs.out ▸ by simp)).cell 2
  have k3 := (HK5.out.bx (cb, 26, c.vals) (HBs.out ▸ by simp)).cell 3
  have k4 := (HK5.out.bx (cb, 26, c.vals) (HBs.out ▸ by simp)).cell 4
  have k5 := (HK5.out.bx (cb, 26, c.vals) (HBs.out ▸ by simp)).cell 5
  simp only [Cfg.vals, List.getElem?_cons_zero, List.getElem?_cons_succ] at k0 k1 k2 k3 k4 k5
  have hjy : ∀ u, Two w u b b' bs X5 (newEng c n sg' scc' pv') → Calls Tryd.prog 12 #[.pointer (some ⟨b', 0, none⟩), .agg #[.int .i64 c.sources, .int .i64 c.slack, .int .i64 c.policy, .int .i64 c.room, .int .i64 c.idle, .string c.pat]] u fun e w' => e = .returned (.bool true) ∧ ∃ M Y, Like M Y (joinSeq (newRef c n none 0 0) n) ∧ lineOf Y = lineOf (newEng c n sg' scc' pv') ∧ Y.srcs.length = n ∧ Two w w' b b' bs X5 Y := fun u hu => by
    refine (joined_seq b' n c (newEng c n sg' scc' pv') (newRef c n none 0 0) u hu.my (new_like HNn.out HOK.out) HNn.out hn6.2 (by show (List.replicate n zP).length = n; simp)).mono ?_
    rintro e w' ⟨he, M, Y, h1, h2, h3, hev⟩
    exact ⟨he, M, Y, h1, h2, h3, hu.evoY hev⟩
  go_upto_region 8 with (go_at_call 12; refine (hjy _ HK5.out).mono ?_; rintro e w6 ⟨rfl, M6, Y6, hl6, hi6, hn6', hk6⟩)
  have HK6 : Hid (Two w w6 b b' bs X5 Y6) := hk6
  have HT6 : Hid (Twin (fun _ => True) X5 Y6) := twin_of HL5.out.1 hl6 (HL5.out.2.1.trans ((new_lines _ _ _ _ _ _ _ _ _).trans hi6.symm))
  have HLX : Hid (X5.srcs.length = n) := HL5.out.2.2
  clear hjy hk6 hl6 hi6 hn6' k0 k1 k2 k3 k4 k5 HK5 HL5
  go_wp2
  go_loopw [12] (fun iv wr => ∃ (i : Nat) (X Y : Eng), i ≤ acts.length ∧ iv = .int .i64 i ∧ X.srcs.length = n ∧ Twin (fun _ => True) X Y ∧ Two w wr b b' bs X Y) (fun iv _ => acts.length - (intOf iv).toNat)
  case atStart => exact ⟨0, X5, Y6, Nat.zero_le _, rfl, HLX.out, HT6.out, HK6.out⟩
  case round =>
    clear HLX HT6 HK6
    obtain ⟨i, X, Y, hi, rfl, hlx, ht, hk⟩ := hrel
    have HK : Hid (Two w wr b b' bs X Y) := hk
    have HT : Hid (Twin (fun _ => True) X Y) := ht
    have HLX : Hid (X.srcs.length = n) := hlx
    clear hk ht hlx
    by_cases hle : i < acts.length
    · have hle' : (i : Int) < (acts.length : Int) := by omega
      have hi00 : (0 : Int) ≤ (i : Int) := by omega
      obtain ⟨hao, ab, ao, hsab, hal, hac⟩ := HSA.out i hle
      obtain ⟨a, HAa⟩ := hex acts[i]
      rw [← HAa.out] at hao hac
      have HAo : Hid a.ok := hao
      have HAL : Hid (ab < w.heap.size ∧ ∀ o, o < 8 → w.cell? ⟨ab, ao + i * 8 + o, none⟩ = a.cells[o]?) := ⟨hal, hac⟩
      clear hac hao hal
      subst hsab
      have k0 := (HK.out.bx (cb, 26, c.vals) (HBs.out ▸ by simp)).cell 0
      have k1 := (HK.out.bx (cb, 26, c.vals) (HBs.out ▸ by simp)).cell 1
      have k2 := (HK.out.bx (cb, 26, c.vals) (HBs.out ▸ by simp)).cell 2
      have k3 := (HK.out.bx (cb, 26, c.vals) (HBs.out ▸ by simp)).cell 3
      have k4 := (HK.out.bx (cb, 26, c.vals) (HBs.out ▸ by simp)).cell 4
      have k5 := (HK.out.bx (cb, 26, c.vals) (HBs.out ▸ by simp)).cell 5
      simp only [Cfg.vals, List.getElem?_cons_zero, List.getElem?_cons_succ] at k0 k1 k2 k3 k4 k5
      have bb : ∀ o, o < 8 → wr.cell? ⟨ab, ao + i * 8 + o, none⟩ = a.cells[o]? := fun o ho => (HK.out.bel.cell (p := ⟨ab, ao + i * 8 + o, none⟩) HAL.out.1).trans (HAL.out.2 o ho)
      have a0 := bb 0 (by omega)
      have a1 := bb 1 (by omega)
      have a2 := bb 2 (by omega)
      have a3 := bb 3 (by omega)
      have a4 := bb 4 (by omega)
      have a5 := bb 5 (by omega)
      have a6 := bb 6 (by omega)
      have a7 := bb 7 (by omega)
      simp only [ActR.cells, List.getElem?_cons_zero, List.getElem?_cons_succ, Nat.add_zero] at a0 a1 a2 a3 a4 a5 a6 a7
      clear bb
      have hdo : ∀ u, Two w u b b' bs X Y → Calls Tryd.prog 14 #[.pointer (some ⟨b, 0, none⟩), .agg #[.int .i64 c.sources, .int .i64 c.slack, .int .i64 c.policy, .int .i64 c.room, .int .i64 c.idle, .string c.pat], .agg #[.int .i64 a.d, .int .i64 a.s, .int .i64 a.n, .int .i64 a.E.src, .int .i64 a.E.seq, .int .i64 a.E.ts, .int .i64 a.E.kind, .int .i64 a.E.val]] u fun e w' => ∃ z X', e = .returned (.int .i64 z) ∧ DoneX X (srcI c a) a z X' ∧ Two w w' b b' bs X' Y := fun u hu => by
        obtain ⟨N, R, hl1, hl2⟩ := HT.out.lk
        refine (done_rel b c X R a u hu.mx hl1 HAo.out (by rw [HNn.out]; omega)).mono ?_
        rintro e w' ⟨z, X', he, hD, hev⟩
        exact ⟨z, X', he, hD, hu.evoX hev⟩
      go_upto_region 13 with fail
      refine upTo_region (fun u : World => u.cell? ⟨cb, 0, none⟩ = some (.int .i64 c.sources) ∧ u.cell? ⟨cb, 1, none⟩ = some (.int .i64 c.slack) ∧ u.cell? ⟨cb, 2, none⟩ = some (.int .i64 c.policy) ∧ u.cell? ⟨cb, 3, none⟩ = some (.int .i64 c.room) ∧ u.cell? ⟨cb, 4, none⟩ = some (.int .i64 c.idle) ∧ u.cell? ⟨cb, 5, none⟩ = some (.string c.pat) ∧ u.cell? ⟨ab, ao + i * 8, none⟩ = some (.int .i64 a.d) ∧ u.cell? ⟨ab, ao + i * 8 + 1, none⟩ = some (.int .i64 a.s) ∧ u.cell? ⟨ab, ao + i * 8 + 2, none⟩ = some (.int .i64 a.n) ∧ u.cell? ⟨ab, ao + i * 8 + 3, none⟩ = some (.int .i64 a.E.src) ∧ u.cell? ⟨ab, ao + i * 8 + 4, none⟩ = some (.int .i64 a.E.seq) ∧ u.cell? ⟨ab, ao + i * 8 + 5, none⟩ = some (.int .i64 a.E.ts) ∧ u.cell? ⟨ab, ao + i * 8 + 6, none⟩ = some (.int .i64 a.E.kind) ∧ u.cell? ⟨ab, ao + i * 8 + 7, none⟩ = some (.int .i64 a.E.val)) 8 8 rfl (by kernel_rfl) ?_
      have hS0 : (fun u : World => u.cell? ⟨cb, 0, none⟩ = some (.int .i64 c.sources) ∧ u.cell? ⟨cb, 1, none⟩ = some (.int .i64 c.slack) ∧ u.cell? ⟨cb, 2, none⟩ = some (.int .i64 c.policy) ∧ u.cell? ⟨cb, 3, none⟩ = some (.int .i64 c.room) ∧ u.cell? ⟨cb, 4, none⟩ = some (.int .i64 c.idle) ∧ u.cell? ⟨cb, 5, none⟩ = some (.string c.pat) ∧ u.cell? ⟨ab, ao + i * 8, none⟩ = some (.int .i64 a.d) ∧ u.cell? ⟨ab, ao + i * 8 + 1, none⟩ = some (.int .i64 a.s) ∧ u.cell? ⟨ab, ao + i * 8 + 2, none⟩ = some (.int .i64 a.n) ∧ u.cell? ⟨ab, ao + i * 8 + 3, none⟩ = some (.int .i64 a.E.src) ∧ u.cell? ⟨ab, ao + i * 8 + 4, none⟩ = some (.int .i64 a.E.seq) ∧ u.cell? ⟨ab, ao + i * 8 + 5, none⟩ = some (.int .i64 a.E.ts) ∧ u.cell? ⟨ab, ao + i * 8 + 6, none⟩ = some (.int .i64 a.E.kind) ∧ u.cell? ⟨ab, ao + i * 8 + 7, none⟩ = some (.int .i64 a.E.val)) wr.drew := ⟨k0, k1, k2, k3, k4, k5, a0, a1, a2, a3, a4, a5, a6, a7⟩
      refine upTo_take2 (i := 0) (v := ?v27_0) rfl (by kernel_rfl) (by kernel_rfl) (by kernel_rfl) rfl (fun _ _ _ h => h) (by rfl) hS0 ?hy27_0 ?rest27_0
      case hy27_0 => (intro u hu; (try dsimp only at hu); go_simp; first | done | with_reducible rfl)
      (try simp only [Act.put, List.setIfInBounds_toArray, List.set_cons_zero, List.set_cons_succ, List.getElem_toArray, List.getElem_cons_succ, List.getElem_cons_zero])
      refine upTo_take2 (i := 1) (v := ?v27_1) rfl (by kernel_rfl) (by kernel_rfl) (by kernel_rfl) rfl (fun _ _ _ h => h) (by rfl) hS0 ?hy27_1 ?rest27_1
      case hy27_1 => (intro u hu; (try dsimp only at hu); go_simp; first | done | with_reducible rfl)
      (try simp only [Act.put, List.setIfInBounds_toArray, List.set_cons_zero, List.set_cons_succ, List.getElem_toArray, List.getElem_cons_succ, List.getElem_cons_zero])
      refine upTo_take2 (i := 2) (v := ?v27_2) rfl (by kernel_rfl) (by kernel_rfl) (by kernel_rfl) rfl (fun _ _ _ h => h) (by rfl) hS0 ?hy27_2 ?rest27_2
      case hy27_2 => (intro u hu; (try dsimp only at hu); go_simp; first | done | with_reducible rfl)
      (try simp only [Act.put, List.setIfInBounds_toArray, List.set_cons_zero, List.set_cons_succ, List.getElem_toArray, List.getElem_cons_succ, List.getElem_cons_zero])
      refine upTo_take2 (i := 3) (v := ?v27_3) rfl (by kernel_rfl) (by kernel_rfl) (by kernel_rfl) rfl (fun _ _ _ h => h) (by rfl) hS0 ?hy27_3 ?rest27_3
      case hy27_3 => (intro u hu; (try dsimp only at hu); go_simp; first | done | with_reducible rfl)
      (try simp only [Act.put, List.setIfInBounds_toArray, List.set_cons_zero, List.set_cons_succ, List.getElem_toArray, List.getElem_cons_succ, List.getElem_cons_zero])
      refine upTo_take2 (i := 4) (v := ?v27_4) rfl (by kernel_rfl) (by kernel_rfl) (by kernel_rfl) rfl (fun _ _ _ h => h) (by rfl) hS0 ?hy27_4 ?rest27_4
      case hy27_4 => (intro u hu; (try dsimp only at hu); go_simp; first | done | with_reducible rfl)
      (try simp only [Act.put, List.setIfInBounds_toArray, List.set_cons_zero, List.set_cons_succ, List.getElem_toArray, List.getElem_cons_succ, List.getElem_cons_zero])
      refine upTo_take2 (i := 5) (v := ?v27_5) rfl (by kernel_rfl) (by kernel_rfl) (by kernel_rfl) rfl (fun _ _ _ h => h) (by rfl) hS0 ?hy27_5 ?rest27_5
      case hy27_5 => (intro u hu; (try dsimp only at hu); go_simp; first | done | with_reducible rfl)
      (try simp only [Act.put, List.setIfInBounds_toArray, List.set_cons_zero, List.set_cons_succ, List.getElem_toArray, List.getElem_cons_succ, List.getElem_cons_zero])
      clear hS0 k0 k1 k2 k3 k4 k5 a0 a1 a2 a3 a4 a5 a6 a7
      refine upTo_one (i := 6) (by kernel_rfl) rfl (fun K hK => ?_)
      go_simp
      refine (hdo _ (HK.out.below ((Below.refl _ wr).drew))).mono ?_
      rintro e w5 ⟨z, X5, rfl, hDw5, hkw5⟩
      have HK5 : Hid (Two w w5 b b' bs X5 Y) := hkw5
      have HDw5 : Hid (DoneX X (srcI c a) a z X5) := hDw5
      clear hkw5 hDw5 hdo
      have k0 := (HK5.out.bx (cb, 26, c.vals) (HBs.out ▸ by simp)).cell 0
      have k1 := (HK5.out.bx (cb, 26, c.vals) (HBs.out ▸ by simp)).cell 1
      have k2 := (HK5.out.bx (cb, 26, c.vals) (HBs.out ▸ by simp)).cell 2
      have k3 := (HK5.out.bx (cb, 26, c.vals) (HBs.out ▸ by simp)).cell 3
      have k4 := (HK5.out.bx (cb, 26, c.vals) (HBs.out ▸ by simp)).cell 4
      have k5 := (HK5.out.bx (cb, 26, c.vals) (HBs.out ▸ by simp)).cell 5
      simp only [Cfg.vals, List.getElem?_cons_zero, List.getElem?_cons_succ] at k0 k1 k2 k3 k4 k5
      have bb : ∀ o, o < 8 → w5.cell? ⟨ab, ao + i * 8 + o, none⟩ = a.cells[o]? := fun o ho => (HK5.out.bel.cell (p := ⟨ab, ao + i * 8 + o, none⟩) HAL.out.1).trans (HAL.out.2 o ho)
      have a0 := bb 0 (by omega)
      have a1 := bb 1 (by omega)
      have a2 := bb 2 (by omega)
      have a3 := bb 3 (by omega)
      have a4 := bb 4 (by omega)
      have a5 := bb 5 (by omega)
      have a6 := bb 6 (by omega)
      have a7 := bb 7 (by omega)
      simp only [ActR.cells, List.getElem?_cons_zero, List.getElem?_cons_succ, Nat.add_zero] at a0 a1 a2 a3 a4 a5 a6 a7
      clear bb
      refine hK.out _ _ (fun _ => ⟨k0, k1, k2, k3, k4, k5, a0, a1, a2, a3, a4, a5, a6, a7⟩) ?_
      clear hK K
      (try simp only [Act.put, List.setIfInBounds_toArray, List.set_cons_zero, List.set_cons_succ, List.getElem_toArray, List.getElem_cons_succ, List.getElem_cons_zero])
      refine upTo_one (i := 7) (by kernel_rfl) rfl (fun K hK => ?_)
      go_simp
      refine hK.out _ _ (fun _ => ⟨k0, k1, k2, k3, k4, k5, a0, a1, a2, a3, a4, a5, a6, a7⟩) ?_
      clear hK K
      (try simp only [Act.put, List.setIfInBounds_toArray, List.set_cons_zero, List.set_cons_succ, List.getElem_toArray, List.getElem_cons_succ, List.getElem_cons_zero])
      refine upTo_done (by kernel_rfl) ?_
      have hdo : ∀ u, Two w u b b' bs X5 Y → Calls Tryd.prog 14 #[.pointer (some ⟨b', 0, none⟩), .agg #[.int .i64 c.sources, .int .i64 c.slack, .int .i64 c.policy, .int .i64 c.room, .int .i64 c.idle, .string c.pat], .agg #[.int .i64 a.d, .int .i64 a.s, .int .i64 a.n, .int .i64 a.E.src, .int .i64 a.E.seq, .int .i64 a.E.ts, .int .i64 a.E.kind, .int .i64 a.E.val]] u fun e w' => ∃ z X', e = .returned (.int .i64 z) ∧ DoneX Y (srcI c a) a z X' ∧ Two w w' b b' bs X5 X' := fun u hu => by
        obtain ⟨N, R, hl1, hl2⟩ := HT.out.lk
        refine (done_rel b' c Y R a u hu.my hl2 HAo.out (by rw [HNn.out]; omega)).mono ?_
        rintro e w' ⟨z, X', he, hD, hev⟩
        exact ⟨z, X', he, hD, hu.evoY hev⟩
      go_upto_region 14 with fail
      refine upTo_region (fun u : World => u.cell? ⟨cb, 0, none⟩ = some (.int .i64 c.sources) ∧ u.cell? ⟨cb, 1, none⟩ = some (.int .i64 c.slack) ∧ u.cell? ⟨cb, 2, none⟩ = some (.int .i64 c.policy) ∧ u.cell? ⟨cb, 3, none⟩ = some (.int .i64 c.room) ∧ u.cell? ⟨cb, 4, none⟩ = some (.int .i64 c.idle) ∧ u.cell? ⟨cb, 5, none⟩ = some (.string c.pat) ∧ u.cell? ⟨ab, ao + i * 8, none⟩ = some (.int .i64 a.d) ∧ u.cell? ⟨ab, ao + i * 8 + 1, none⟩ = some (.int .i64 a.s) ∧ u.cell? ⟨ab, ao + i * 8 + 2, none⟩ = some (.int .i64 a.n) ∧ u.cell? ⟨ab, ao + i * 8 + 3, none⟩ = some (.int .i64 a.E.src) ∧ u.cell? ⟨ab, ao + i * 8 + 4, none⟩ = some (.int .i64 a.E.seq) ∧ u.cell? ⟨ab, ao + i * 8 + 5, none⟩ = some (.int .i64 a.E.ts) ∧ u.cell? ⟨ab, ao + i * 8 + 6, none⟩ = some (.int .i64 a.E.kind) ∧ u.cell? ⟨ab, ao + i * 8 + 7, none⟩ = some (.int .i64 a.E.val)) 8 8 rfl (by kernel_rfl) ?_
      have hS0 : (fun u : World => u.cell? ⟨cb, 0, none⟩ = some (.int .i64 c.sources) ∧ u.cell? ⟨cb, 1, none⟩ = some (.int .i64 c.slack) ∧ u.cell? ⟨cb, 2, none⟩ = some (.int .i64 c.policy) ∧ u.cell? ⟨cb, 3, none⟩ = some (.int .i64 c.room) ∧ u.cell? ⟨cb, 4, none⟩ = some (.int .i64 c.idle) ∧ u.cell? ⟨cb, 5, none⟩ = some (.string c.pat) ∧ u.cell? ⟨ab, ao + i * 8, none⟩ = some (.int .i64 a.d) ∧ u.cell? ⟨ab, ao + i * 8 + 1, none⟩ = some (.int .i64 a.s) ∧ u.cell? ⟨ab, ao + i * 8 + 2, none⟩ = some (.int .i64 a.n) ∧ u.cell? ⟨ab, ao + i * 8 + 3, none⟩ = some (.int .i64 a.E.src) ∧ u.cell? ⟨ab, ao + i * 8 + 4, none⟩ = some (.int .i64 a.E.seq) ∧ u.cell? ⟨ab, ao + i * 8 + 5, none⟩ = some (.int .i64 a.E.ts) ∧ u.cell? ⟨ab, ao + i * 8 + 6, none⟩ = some (.int .i64 a.E.kind) ∧ u.cell? ⟨ab, ao + i * 8 + 7, none⟩ = some (.int .i64 a.E.val)) w5.drew := ⟨k0, k1, k2, k3, k4, k5, a0, a1, a2, a3, a4, a5, a6, a7⟩
      refine upTo_take2 (i := 0) (v := ?v28_0) rfl (by kernel_rfl) (by kernel_rfl) (by kernel_rfl) rfl (fun _ _ _ h => h) (by rfl) hS0 ?hy28_0 ?rest28_0
      case hy28_0 => (intro u hu; (try dsimp only at hu); go_simp; first | done | with_reducible rfl)
      (try simp only [Act.put, List.setIfInBounds_toArray, List.set_cons_zero, List.set_cons_succ, List.getElem_toArray, List.getElem_cons_succ, List.getElem_cons_zero])
      refine upTo_take2 (i := 1) (v := ?v28_1) rfl (by kernel_rfl) (by kernel_rfl) (by kernel_rfl) rfl (fun _ _ _ h => h) (by rfl) hS0 ?hy28_1 ?rest28_1
      case hy28_1 => (intro u hu; (try dsimp only at hu); go_simp; first | done | with_reducible rfl)
      (try simp only [Act.put, List.setIfInBounds_toArray, List.set_cons_zero, List.set_cons_succ, List.getElem_toArray, List.getElem_cons_succ, List.getElem_cons_zero])
      refine upTo_take2 (i := 2) (v := ?v28_2) rfl (by kernel_rfl) (by kernel_rfl) (by kernel_rfl) rfl (fun _ _ _ h => h) (by rfl) hS0 ?hy28_2 ?rest28_2
      case hy28_2 => (intro u hu; (try dsimp only at hu); go_simp; first | done | with_reducible rfl)
      (try simp only [Act.put, List.setIfInBounds_toArray, List.set_cons_zero, List.set_cons_succ, List.getElem_toArray, List.getElem_cons_succ, List.getElem_cons_zero])
      refine upTo_take2 (i := 3) (v := ?v28_3) rfl (by kernel_rfl) (by kernel_rfl) (by kernel_rfl) rfl (fun _ _ _ h => h) (by rfl) hS0 ?hy28_3 ?rest28_3
      case hy28_3 => (intro u hu; (try dsimp only at hu); go_simp; first | done | with_reducible rfl)
      (try simp only [Act.put, List.setIfInBounds_toArray, List.set_cons_zero, List.set_cons_succ, List.getElem_toArray, List.getElem_cons_succ, List.getElem_cons_zero])
      refine upTo_take2 (i := 4) (v := ?v28_4) rfl (by kernel_rfl) (by kernel_rfl) (by kernel_rfl) rfl (fun _ _ _ h => h) (by rfl) hS0 ?hy28_4 ?rest28_4
      case hy28_4 => (intro u hu; (try dsimp only at hu); go_simp; first | done | with_reducible rfl)
      (try simp only [Act.put, List.setIfInBounds_toArray, List.set_cons_zero, List.set_cons_succ, List.getElem_toArray, List.getElem_cons_succ, List.getElem_cons_zero])
      refine upTo_take2 (i := 5) (v := ?v28_5) rfl (by kernel_rfl) (by kernel_rfl) (by kernel_rfl) rfl (fun _ _ _ h => h) (by rfl) hS0 ?hy28_5 ?rest28_5
      case hy28_5 => (intro u hu; (try dsimp only at hu); go_simp; first | done | with_reducible rfl)
      (try simp only [Act.put, List.setIfInBounds_toArray, List.set_cons_zero, List.set_cons_succ, List.getElem_toArray, List.getElem_cons_succ, List.getElem_cons_zero])
      clear hS0 k0 k1 k2 k3 k4 k5 a0 a1 a2 a3 a4 a5 a6 a7
      refine upTo_one (i := 6) (by kernel_rfl) rfl (fun K hK => ?_)
      go_simp
      refine (hdo _ (HK5.out.below ((Below.refl _ w5).drew))).mono ?_
      rintro e w6 ⟨z', Y6, rfl, hDw6, hkw6⟩
      have HK6 : Hid (Two w w6 b b' bs X5 Y6) := hkw6
      have HDw6 : Hid (DoneX Y (srcI c a) a z' Y6) := hDw6
      clear hkw6 hDw6 hdo
      have k0 := (HK6.out.bx (cb, 26, c.vals) (HBs.out ▸ by simp)).cell 0
      have k1 := (HK6.out.bx (cb, 26, c.vals) (HBs.out ▸ by simp)).cell 1
      have k2 := (HK6.out.bx (cb, 26, c.vals) (HBs.out ▸ by simp)).cell 2
      have k3 := (HK6.out.bx (cb, 26, c.vals) (HBs.out ▸ by simp)).cell 3
      have k4 := (HK6.out.bx (cb, 26, c.vals) (HBs.out ▸ by simp)).cell 4
      have k5 := (HK6.out.bx (cb, 26, c.vals) (HBs.out ▸ by simp)).cell 5
      simp only [Cfg.vals, List.getElem?_cons_zero, List.getElem?_cons_succ] at k0 k1 k2 k3 k4 k5
      have bb : ∀ o, o < 8 → w6.cell? ⟨ab, ao + i * 8 + o, none⟩ = a.cells[o]? := fun o ho => (HK6.out.bel.cell (p := ⟨ab, ao + i * 8 + o, none⟩) HAL.out.1).trans (HAL.out.2 o ho)
      have a0 := bb 0 (by omega)
      have a1 := bb 1 (by omega)
      have a2 := bb 2 (by omega)
      have a3 := bb 3 (by omega)
      have a4 := bb 4 (by omega)
      have a5 := bb 5 (by omega)
      have a6 := bb 6 (by omega)
      have a7 := bb 7 (by omega)
      simp only [ActR.cells, List.getElem?_cons_zero, List.getElem?_cons_succ, Nat.add_zero] at a0 a1 a2 a3 a4 a5 a6 a7
      clear bb
      refine hK.out _ _ (fun _ => ⟨k0, k1, k2, k3, k4, k5, a0, a1, a2, a3, a4, a5, a6, a7⟩) ?_
      clear hK K
      (try simp only [Act.put, List.setIfInBounds_toArray, List.set_cons_zero, List.set_cons_succ, List.getElem_toArray, List.getElem_cons_succ, List.getElem_cons_zero])
      refine upTo_one (i := 7) (by kernel_rfl) rfl (fun K hK => ?_)
      go_simp
      refine hK.out _ _ (fun _ => ⟨k0, k1, k2, k3, k4, k5, a0, a1, a2, a3, a4, a5, a6, a7⟩) ?_
      clear hK K
      (try simp only [Act.put, List.setIfInBounds_toArray, List.set_cons_zero, List.set_cons_succ, List.getElem_toArray, List.getElem_cons_succ, List.getElem_cons_zero])
      refine upTo_done (by kernel_rfl) ?_
      obtain ⟨hze, htw⟩ := twin_done HT.out HDw5.out HDw6.out
      have HT6 : Hid (Twin (fun _ => True) X5 Y6) := htw
      have HL6 : Hid (X5.srcs.length = n) := (doneX_grow HDw5.out).n.trans HLX.out
      clear htw HDw5 HDw6 k0 k1 k2 k3 k4 k5 a0 a1 a2 a3 a4 a5 a6 a7
      subst hze
      go_wp2
      go_roundw
      case rel => exact ⟨i + 1, X5, Y6, by omega, by go_num, HL6.out, HT6.out, HK6.out⟩
      case measure => simp [intOf]; omega
    · have hnl : ¬ (i : Int) < (acts.length : Int) := by omega
      have k0 := (HK.out.bx (cb, 26, c.vals) (HBs.out ▸ by simp)).cell 0
      have k1 := (HK.out.bx (cb, 26, c.vals) (HBs.out ▸ by simp)).cell 1
      have k2 := (HK.out.bx (cb, 26, c.vals) (HBs.out ▸ by simp)).cell 2
      have k3 := (HK.out.bx (cb, 26, c.vals) (HBs.out ▸ by simp)).cell 3
      have k4 := (HK.out.bx (cb, 26, c.vals) (HBs.out ▸ by simp)).cell 4
      have k5 := (HK.out.bx (cb, 26, c.vals) (HBs.out ▸ by simp)).cell 5
      simp only [Cfg.vals, List.getElem?_cons_zero, List.getElem?_cons_succ] at k0 k1 k2 k3 k4 k5
      have q0 := (HK.out.bx (qb, 39, q.cells) (HBs.out ▸ by simp)).cell 0
      have q1 := (HK.out.bx (qb, 39, q.cells) (HBs.out ▸ by simp)).cell 1
      have q2 := (HK.out.bx (qb, 39, q.cells) (HBs.out ▸ by simp)).cell 2
      have q3 := (HK.out.bx (qb, 39, q.cells) (HBs.out ▸ by simp)).cell 3
      have q4 := (HK.out.bx (qb, 39, q.cells) (HBs.out ▸ by simp)).cell 4
      have q5 := (HK.out.bx (qb, 39, q.cells) (HBs.out ▸ by simp)).cell 5
      have q6 := (HK.out.bx (qb, 39, q.cells) (HBs.out ▸ by simp)).cell 6
      have q7 := (HK.out.bx (qb, 39, q.cells) (HBs.out ▸ by simp)).cell 7
      simp only [ActR.cells, List.getElem?_cons_zero, List.getElem?_cons_succ] at q0 q1 q2 q3 q4 q5 q6 q7
      have hdx : ∀ u, Two w u b b' bs X Y → Calls Tryd.prog 14 #[.pointer (some ⟨b, 0, none⟩), .agg #[.int .i64 c.sources, .int .i64 c.slack, .int .i64 c.policy, .int .i64 c.room, .int .i64 c.idle, .string c.pat], .agg #[.int .i64 q.d, .int .i64 q.s, .int .i64 q.n, .int .i64 q.E.src, .int .i64 q.E.seq, .int .i64 q.E.ts, .int .i64 q.E.kind, .int .i64 q.E.val]] u fun e w' => ∃ z X', e = .returned (.int .i64 z) ∧ DoneX X (srcI c q) q z X' ∧ Two w w' b b' bs X' Y := fun u hu => by
        obtain ⟨N, R, hl1, hl2⟩ := HT.out.lk
        refine (done_rel b c X R q u hu.mx hl1 HQo.out (by rw [HNn.out]; omega)).mono ?_
        rintro e w' ⟨z, X', he, hD, hev⟩
        exact ⟨z, X', he, hD, hu.evoX hev⟩
      go_upto_region 18 with (go_at_call 14; refine (hdx _ HK.out).mono ?_; rintro e w7 ⟨z, X7, rfl, hD7, hk7⟩)
      have HK7 : Hid (Two w w7 b b' bs X7 Y) := hk7
      have HD7 : Hid (DoneX X (srcI c q) q z X7) := hD7
      clear hk7 hD7 hdx k0 k1 k2 k3 k4 k5 q0 q1 q2 q3 q4 q5 q6 q7
      by_cases hz : z = 0
      · subst hz
        have k0 := (HK7.out.bx (cb, 26, c.vals) (HBs.out ▸ by simp)).cell 0
        have k1 := (HK7.out.bx (cb, 26, c.vals) (HBs.out ▸ by simp)).cell 1
        have k2 := (HK7.out.bx (cb, 26, c.vals) (HBs.out ▸ by simp)).cell 2
        have k3 := (HK7.out.bx (cb, 26, c.vals) (HBs.out ▸ by simp)).cell 3
        have k4 := (HK7.out.bx (cb, 26, c.vals) (HBs.out ▸ by simp)).cell 4
        have k5 := (HK7.out.bx (cb, 26, c.vals) (HBs.out ▸ by simp)).cell 5
        simp only [Cfg.vals, List.getElem?_cons_zero, List.getElem?_cons_succ] at k0 k1 k2 k3 k4 k5
        have q0 := (HK7.out.bx (qb, 39, q.cells) (HBs.out ▸ by simp)).cell 0
        have q1 := (HK7.out.bx (qb, 39, q.cells) (HBs.out ▸ by simp)).cell 1
        have q2 := (HK7.out.bx (qb, 39, q.cells) (HBs.out ▸ by simp)).cell 2
        have q3 := (HK7.out.bx (qb, 39, q.cells) (HBs.out ▸ by simp)).cell 3
        have q4 := (HK7.out.bx (qb, 39, q.cells) (HBs.out ▸ by simp)).cell 4
        have q5 := (HK7.out.bx (qb, 39, q.cells) (HBs.out ▸ by simp)).cell 5
        have q6 := (HK7.out.bx (qb, 39, q.cells) (HBs.out ▸ by simp)).cell 6
        have q7 := (HK7.out.bx (qb, 39, q.cells) (HBs.out ▸ by simp)).cell 7
        simp only [ActR.cells, List.getElem?_cons_zero, List.getElem?_cons_succ] at q0 q1 q2 q3 q4 q5 q6 q7
        have hdy : ∀ u, Two w u b b' bs X7 Y → Calls Tryd.prog 14 #[.pointer (some ⟨b', 0, none⟩), .agg #[.int .i64 c.sources, .int .i64 c.slack, .int .i64 c.policy, .int .i64 c.room, .int .i64 c.idle, .string c.pat], .agg #[.int .i64 q.d, .int .i64 q.s, .int .i64 q.n, .int .i64 q.E.src, .int .i64 q.E.seq, .int .i64 q.E.ts, .int .i64 q.E.kind, .int .i64 q.E.val]] u fun e w' => ∃ Y', e = .returned (.int .i64 0) ∧ Twin (fun _ => True) X7 Y' ∧ Two w w' b b' bs X7 Y' := fun u hu => by
          obtain ⟨N, R, hl1, hl2⟩ := HT.out.lk
          refine (done_rel b' c Y R q u hu.my hl2 HQo.out (by rw [HNn.out]; omega)).mono ?_
          rintro e w' ⟨z, Y', he, hD, hev⟩
          obtain ⟨hz, ht⟩ := twin_done HT.out HD7.out hD
          subst hz
          exact ⟨Y', he, ht, hu.evoY hev⟩
        go_upto_region 22 with (go_at_call 14; refine (hdy _ HK7.out).mono ?_; rintro e w8 ⟨Y8, rfl, ht8, hk8⟩)
        have HK8 : Hid (Two w w8 b b' bs X7 Y8) := hk8
        have HT8 : Hid (Twin (fun _ => True) X7 Y8) := ht8
        have HLX7 : Hid (X7.srcs.length = n) := (doneX_grow HD7.out).n.trans HLX.out
        clear hk8 ht8 hdy k0 k1 k2 k3 k4 k5 q0 q1 q2 q3 q4 q5 q6 q7
        have hpu : ∀ u, Two w u b b' bs X7 Y8 → Calls Tryd.prog 31 #[.pointer (some ⟨b, 0, none⟩), .int .i64 0, .agg #[.int .i64 0, .int .i64 (-1), .int .i64 0, .int .i64 65, .int .i64 0]] u fun e w' => ∃ z, e = .returned (.int .i64 z) ∧ (z = 4 ∨ z = 5) ∧ Two w w' b b' bs X7 Y8 := fun u hu => by
          obtain ⟨N, R, hl1, hl2⟩ := HT8.out.lk
          refine (xpushes_rel 0 ⟨0, -1, 0, 65, 0⟩ hl1 u hu.mx).mono ?_
          rintro e w' ⟨z, X', he, hP, hev⟩
          have hz := push_neg hP (by rw [(HLX7.out : _ = n)]; omega)
          have hx : X' = X7 := pushesX_err hP (by omega)
          subst hx
          exact ⟨z, he, hz, hu.evoX hev⟩
        have hpv : ∀ u, Two w u b b' bs X7 Y8 → Calls Tryd.prog 31 #[.pointer (some ⟨b, 0, none⟩), .int .i64 6, .agg #[.int .i64 0, .int .i64 0, .int .i64 0, .int .i64 65, .int .i64 0]] u fun e w' => e = .returned (.int .i64 3) ∧ Two w w' b b' bs X7 Y8 := fun u hu => by
          refine (xpush_none b X7 6 ⟨0, 0, 0, 65, 0⟩ u hu.mx (by rw [(HLX7.out : _ = n)]; omega)).mono ?_
          rintro e w' ⟨he, hb⟩
          exact ⟨he, hu.below hb⟩
        have hti : ∀ u, Two w u b b' bs X7 Y8 → Calls Tryd.prog 27 #[.pointer (some ⟨b, 0, none⟩), .int .i64 0] u fun e w' => e = .returned (.int .i64 9) ∧ Two w w' b b' bs X7 Y8 := fun u hu => (xtick_bad b 0 u (by omega)).mono fun e w' ⟨he, hw⟩ => ⟨he, hw ▸ hu⟩
        have hpn : ∀ u, Two w u b b' bs X7 Y8 → Calls Tryd.prog 30 #[.pointer (some ⟨b, 0, none⟩), .int .i64 (-1), .int .i64 0] u fun e w' => e = .returned (.int .i64 3) ∧ Two w w' b b' bs X7 Y8 := fun u hu => (xpunct_none b X7 (-1) 0 u hu.mx (by omega)).mono fun e w' ⟨he, hw⟩ => ⟨he, hw ▸ hu⟩
        have hlv : ∀ u, Two w u b b' bs X7 Y8 → Calls Tryd.prog 29 #[.pointer (some ⟨b, 0, none⟩), .int .i64 c.sources] u fun e w' => e = .returned (.int .i64 3) ∧ Two w w' b b' bs X7 Y8 := fun u hu => (xleave_none b X7 c.sources u hu.mx (by rw [(HLX7.out : _ = n), HNn.out]; omega)).mono fun e w' ⟨he, hw⟩ => ⟨he, hw ▸ hu⟩
        have hal : ∀ u, Two w u b b' bs X7 Y8 → Calls Tryd.prog 32 #[.pointer (some ⟨b, 0, none⟩), .pointer (some ⟨b', 0, none⟩), .int .i64 c.sources] u fun e w' => e = .returned (.bool true) ∧ Two w w' b b' bs X7 Y8 := fun u hu => by
          rw [HNn.out]
          exact (alike_true b b' n X7 Y8 u hu.mx hu.my HT8.out hn6.2).mono fun e w' ⟨he, hb⟩ => ⟨he, hu.below hb⟩
        go_upto_region 23 with (go_at_call 31; refine (hpu _ HK8.out).mono ?_; rintro e v1 ⟨z1, rfl, hz1, hv1⟩)
        have HV1 : Hid (Two w v1 b b' bs X7 Y8) := hv1
        clear hpu hv1
        go_upto_region 24 with (go_at_call 31; refine (hpv _ HV1.out).mono ?_; rintro e v2 ⟨rfl, hv2⟩)
        have HV2 : Hid (Two w v2 b b' bs X7 Y8) := hv2
        clear hpv hv2
        go_upto_region 25 with (go_at_call 27; refine (hti _ HV2.out).mono ?_; rintro e v3 ⟨rfl, hv3⟩)
        have HV3 : Hid (Two w v3 b b' bs X7 Y8) := hv3
        clear hti hv3
        go_upto_region 26 with (go_at_call 30; refine (hpn _ HV3.out).mono ?_; rintro e v4 ⟨rfl, hv4⟩)
        have HV4 : Hid (Two w v4 b b' bs X7 Y8) := hv4
        clear hpn hv4
        have k0 := (HV4.out.bx (cb, 26, c.vals) (HBs.out ▸ by simp)).cell 0
        have k1 := (HV4.out.bx (cb, 26, c.vals) (HBs.out ▸ by simp)).cell 1
        have k2 := (HV4.out.bx (cb, 26, c.vals) (HBs.out ▸ by simp)).cell 2
        have k3 := (HV4.out.bx (cb, 26, c.vals) (HBs.out ▸ by simp)).cell 3
        have k4 := (HV4.out.bx (cb, 26, c.vals) (HBs.out ▸ by simp)).cell 4
        have k5 := (HV4.out.bx (cb, 26, c.vals) (HBs.out ▸ by simp)).cell 5
        simp only [Cfg.vals, List.getElem?_cons_zero, List.getElem?_cons_succ] at k0 k1 k2 k3 k4 k5
        go_upto_region 27 with (go_at_call 29; refine (hlv _ HV4.out).mono ?_; rintro e v5 ⟨rfl, hv5⟩)
        have HV5 : Hid (Two w v5 b b' bs X7 Y8) := hv5
        clear hlv hv5 k0 k1 k2 k3 k4 k5
        have k0 := (HV5.out.bx (cb, 26, c.vals) (HBs.out ▸ by simp)).cell 0
        simp only [Cfg.vals, List.getElem?_cons_zero] at k0
        rcases hz1 with rfl | rfl
        · go_wp2_with (first
            | (go_at_call 32; refine (hal _ HV5.out).mono ?_; rintro e v6 ⟨rfl, hv6⟩; have k0 := (hv6.bx (cb, 26, c.vals) (HBs.out ▸ by simp)).cell 0; have k1 := (hv6.bx (cb, 26, c.vals) (HBs.out ▸ by simp)).cell 1; have k2 := (hv6.bx (cb, 26, c.vals) (HBs.out ▸ by simp)).cell 2; have k3 := (hv6.bx (cb, 26, c.vals) (HBs.out ▸ by simp)).cell 3; have k4 := (hv6.bx (cb, 26, c.vals) (HBs.out ▸ by simp)).cell 4; have k5 := (hv6.bx (cb, 26, c.vals) (HBs.out ▸ by simp)).cell 5; simp only [Cfg.vals, List.getElem?_cons_zero, List.getElem?_cons_succ] at k0 k1 k2 k3 k4 k5)
            | (go_at_call 18; refine (HFl.out _).mono ?_; rintro e v7 ⟨rfl, hb7⟩))
          go_ret
          exact ⟨rfl, hv6.bel.trans (hb7.mono hv6.bel.size)⟩
        · go_wp2_with (first
            | (go_at_call 32; refine (hal _ HV5.out).mono ?_; rintro e v6 ⟨rfl, hv6⟩; have k0 := (hv6.bx (cb, 26, c.vals) (HBs.out ▸ by simp)).cell 0; have k1 := (hv6.bx (cb, 26, c.vals) (HBs.out ▸ by simp)).cell 1; have k2 := (hv6.bx (cb, 26, c.vals) (HBs.out ▸ by simp)).cell 2; have k3 := (hv6.bx (cb, 26, c.vals) (HBs.out ▸ by simp)).cell 3; have k4 := (hv6.bx (cb, 26, c.vals) (HBs.out ▸ by simp)).cell 4; have k5 := (hv6.bx (cb, 26, c.vals) (HBs.out ▸ by simp)).cell 5; simp only [Cfg.vals, List.getElem?_cons_zero, List.getElem?_cons_succ] at k0 k1 k2 k3 k4 k5)
            | (go_at_call 18; refine (HFl.out _).mono ?_; rintro e v7 ⟨rfl, hb7⟩))
          go_ret
          exact ⟨rfl, hv6.bel.trans (hb7.mono hv6.bel.size)⟩
      · have hX : X7 = X := doneX_err HD7.out hz
        subst hX
        have hz1 : (z == 0) = false := by simpa using hz
        have HLX7 : Hid (X7.srcs.length = n) := HLX.out
        go_upto_region 22 with fail
        have hpu : ∀ u, Two w u b b' bs X7 Y → Calls Tryd.prog 31 #[.pointer (some ⟨b, 0, none⟩), .int .i64 0, .agg #[.int .i64 0, .int .i64 (-1), .int .i64 0, .int .i64 65, .int .i64 0]] u fun e w' => ∃ z, e = .returned (.int .i64 z) ∧ (z = 4 ∨ z = 5) ∧ Two w w' b b' bs X7 Y := fun u hu => by
          obtain ⟨N, R, hl1, hl2⟩ := HT.out.lk
          refine (xpushes_rel 0 ⟨0, -1, 0, 65, 0⟩ hl1 u hu.mx).mono ?_
          rintro e w' ⟨z, X', he, hP, hev⟩
          have hz := push_neg hP (by rw [(HLX7.out : _ = n)]; omega)
          have hx : X' = X7 := pushesX_err hP (by omega)
          subst hx
          exact ⟨z, he, hz, hu.evoX hev⟩
        have hpv : ∀ u, Two w u b b' bs X7 Y → Calls Tryd.prog 31 #[.pointer (some ⟨b, 0, none⟩), .int .i64 6, .agg #[.int .i64 0, .int .i64 0, .int .i64 0, .int .i64 65, .int .i64 0]] u fun e w' => e = .returned (.int .i64 3) ∧ Two w w' b b' bs X7 Y := fun u hu => by
          refine (xpush_none b X7 6 ⟨0, 0, 0, 65, 0⟩ u hu.mx (by rw [(HLX7.out : _ = n)]; omega)).mono ?_
          rintro e w' ⟨he, hb⟩
          exact ⟨he, hu.below hb⟩
        have hti : ∀ u, Two w u b b' bs X7 Y → Calls Tryd.prog 27 #[.pointer (some ⟨b, 0, none⟩), .int .i64 0] u fun e w' => e = .returned (.int .i64 9) ∧ Two w w' b b' bs X7 Y := fun u hu => (xtick_bad b 0 u (by omega)).mono fun e w' ⟨he, hw⟩ => ⟨he, hw ▸ hu⟩
        have hpn : ∀ u, Two w u b b' bs X7 Y → Calls Tryd.prog 30 #[.pointer (some ⟨b, 0, none⟩), .int .i64 (-1), .int .i64 0] u fun e w' => e = .returned (.int .i64 3) ∧ Two w w' b b' bs X7 Y := fun u hu => (xpunct_none b X7 (-1) 0 u hu.mx (by omega)).mono fun e w' ⟨he, hw⟩ => ⟨he, hw ▸ hu⟩
        have hlv : ∀ u, Two w u b b' bs X7 Y → Calls Tryd.prog 29 #[.pointer (some ⟨b, 0, none⟩), .int .i64 c.sources] u fun e w' => e = .returned (.int .i64 3) ∧ Two w w' b b' bs X7 Y := fun u hu => (xleave_none b X7 c.sources u hu.mx (by rw [(HLX7.out : _ = n), HNn.out]; omega)).mono fun e w' ⟨he, hw⟩ => ⟨he, hw ▸ hu⟩
        have hal : ∀ u, Two w u b b' bs X7 Y → Calls Tryd.prog 32 #[.pointer (some ⟨b, 0, none⟩), .pointer (some ⟨b', 0, none⟩), .int .i64 c.sources] u fun e w' => e = .returned (.bool true) ∧ Two w w' b b' bs X7 Y := fun u hu => by
          rw [HNn.out]
          exact (alike_true b b' n X7 Y u hu.mx hu.my HT.out hn6.2).mono fun e w' ⟨he, hb⟩ => ⟨he, hu.below hb⟩
        go_upto_region 23 with (go_at_call 31; refine (hpu _ HK7.out).mono ?_; rintro e v1 ⟨z1, rfl, hz1, hv1⟩)
        have HV1 : Hid (Two w v1 b b' bs X7 Y) := hv1
        clear hpu hv1
        go_upto_region 24 with (go_at_call 31; refine (hpv _ HV1.out).mono ?_; rintro e v2 ⟨rfl, hv2⟩)
        have HV2 : Hid (Two w v2 b b' bs X7 Y) := hv2
        clear hpv hv2
        go_upto_region 25 with (go_at_call 27; refine (hti _ HV2.out).mono ?_; rintro e v3 ⟨rfl, hv3⟩)
        have HV3 : Hid (Two w v3 b b' bs X7 Y) := hv3
        clear hti hv3
        go_upto_region 26 with (go_at_call 30; refine (hpn _ HV3.out).mono ?_; rintro e v4 ⟨rfl, hv4⟩)
        have HV4 : Hid (Two w v4 b b' bs X7 Y) := hv4
        clear hpn hv4
        have k0 := (HV4.out.bx (cb, 26, c.vals) (HBs.out ▸ by simp)).cell 0
        have k1 := (HV4.out.bx (cb, 26, c.vals) (HBs.out ▸ by simp)).cell 1
        have k2 := (HV4.out.bx (cb, 26, c.vals) (HBs.out ▸ by simp)).cell 2
        have k3 := (HV4.out.bx (cb, 26, c.vals) (HBs.out ▸ by simp)).cell 3
        have k4 := (HV4.out.bx (cb, 26, c.vals) (HBs.out ▸ by simp)).cell 4
        have k5 := (HV4.out.bx (cb, 26, c.vals) (HBs.out ▸ by simp)).cell 5
        simp only [Cfg.vals, List.getElem?_cons_zero, List.getElem?_cons_succ] at k0 k1 k2 k3 k4 k5
        go_upto_region 27 with (go_at_call 29; refine (hlv _ HV4.out).mono ?_; rintro e v5 ⟨rfl, hv5⟩)
        have HV5 : Hid (Two w v5 b b' bs X7 Y) := hv5
        clear hlv hv5 k0 k1 k2 k3 k4 k5
        have k0 := (HV5.out.bx (cb, 26, c.vals) (HBs.out ▸ by simp)).cell 0
        simp only [Cfg.vals, List.getElem?_cons_zero] at k0
        rcases hz1 with rfl | rfl
        · go_wp2_with (first
            | (go_at_call 32; refine (hal _ HV5.out).mono ?_; rintro e v6 ⟨rfl, hv6⟩; have k0 := (hv6.bx (cb, 26, c.vals) (HBs.out ▸ by simp)).cell 0; have k1 := (hv6.bx (cb, 26, c.vals) (HBs.out ▸ by simp)).cell 1; have k2 := (hv6.bx (cb, 26, c.vals) (HBs.out ▸ by simp)).cell 2; have k3 := (hv6.bx (cb, 26, c.vals) (HBs.out ▸ by simp)).cell 3; have k4 := (hv6.bx (cb, 26, c.vals) (HBs.out ▸ by simp)).cell 4; have k5 := (hv6.bx (cb, 26, c.vals) (HBs.out ▸ by simp)).cell 5; simp only [Cfg.vals, List.getElem?_cons_zero, List.getElem?_cons_succ] at k0 k1 k2 k3 k4 k5)
            | (go_at_call 18; refine (HFl.out _).mono ?_; rintro e v7 ⟨rfl, hb7⟩))
          go_ret
          exact ⟨rfl, hv6.bel.trans (hb7.mono hv6.bel.size)⟩
        · go_wp2_with (first
            | (go_at_call 32; refine (hal _ HV5.out).mono ?_; rintro e v6 ⟨rfl, hv6⟩; have k0 := (hv6.bx (cb, 26, c.vals) (HBs.out ▸ by simp)).cell 0; have k1 := (hv6.bx (cb, 26, c.vals) (HBs.out ▸ by simp)).cell 1; have k2 := (hv6.bx (cb, 26, c.vals) (HBs.out ▸ by simp)).cell 2; have k3 := (hv6.bx (cb, 26, c.vals) (HBs.out ▸ by simp)).cell 3; have k4 := (hv6.bx (cb, 26, c.vals) (HBs.out ▸ by simp)).cell 4; have k5 := (hv6.bx (cb, 26, c.vals) (HBs.out ▸ by simp)).cell 5; simp only [Cfg.vals, List.getElem?_cons_zero, List.getElem?_cons_succ] at k0 k1 k2 k3 k4 k5)
            | (go_at_call 18; refine (HFl.out _).mono ?_; rintro e v7 ⟨rfl, hb7⟩))
          go_ret
          exact ⟨rfl, hv6.bel.trans (hb7.mono hv6.bel.size)⟩
end Go.Proofs.YtghcololkgeoeaaDoor
