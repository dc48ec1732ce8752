import Derived.Test.YtghcololkgeoeabDoorPartN2
import Derived.Deep.RegionWith
namespace Go.Proofs.YtghcololkgeoeabDoor
open Go.RowKit
set_option linter.unusedVariables false
set_option linter.unusedSimpArgs false
attribute [local go_sem ↓] Go.wp_at_zero Go.wp_at_succ

theorem twin_log {P : Nat → Prop} {X Y : Eng} (h : Twin P X Y) : X.log = Y.log := by
  obtain ⟨⟨N, R, h1, h2⟩, _⟩ := h
  exact like_log_eq h1 h2
theorem cfg_ps3 (r : RawC) : r.cfg.ps.length ≤ 3 := by
  unfold Cfg.ps
  show (patSteps (patText r.pattern)).length ≤ 3
  rw [(patText_steps r.pattern).2.1]
  rw [patPairs_len]
  unfold patN
  omega
set_option maxRecDepth 100000 in
set_option maxHeartbeats 16000000 in
theorem apart_walk (r q : RawC) (sa : Option Addr) (sc : Nat) (acts : List ActR) (so : Option Addr) (sd : Nat) (others : List ActR) (w : World) (hr : r.ok) (hq : q.ok) (hsa : ActsAt w sa acts) (hlen : acts.length ≤ 4000000000000000) (hso : ActsAt w so others) (hlen2 : others.length ≤ 4000000000000000) (htab : ∀ u, Below w.heap.size w u → tab10 u) :
    Calls Tryd.prog 5 #[.agg #[.int .i64 r.sources, .int .i64 r.slack, .int .i64 r.policy, .int .i64 r.room, .int .i64 r.idle, .int .i64 r.pattern], .agg #[.int .i64 q.sources, .int .i64 q.slack, .int .i64 q.policy, .int .i64 q.room, .int .i64 q.idle, .int .i64 q.pattern], .slice sa acts.length sc, .slice so others.length sd] w fun e w' => e = .returned (.bool true) ∧ Below w.heap.size w w' := by
  have HSA : Hid (ActsAt w sa acts) := hsa
  have HSB : Hid (ActsAt w so others) := hso
  obtain ⟨c, HCc⟩ := hex r.cfg
  have HOK : Hid c.ok := by show c.ok; rw [HCc.out]; exact r.cfg_ok
  obtain ⟨n, hn⟩ : ∃ m : Nat, c.sources = m := ⟨c.sources.toNat, by have := HOK.out.1.1; omega⟩
  have HNn : Hid (c.sources = n) := hn
  have hn6 : 1 ≤ n ∧ n ≤ 6 := by have := HOK.out.1.1; have := HOK.out.1.2.1; omega
  have hcfc : ∀ u, Below w.heap.size w u → Calls Tryd.prog 6 #[.agg #[.int .i64 r.sources, .int .i64 r.slack, .int .i64 r.policy, .int .i64 r.room, .int .i64 r.idle, .int .i64 r.pattern]] u fun e w' => e = .returned (.agg #[.int .i64 c.sources, .int .i64 c.slack, .int .i64 c.policy, .int .i64 c.room, .int .i64 c.idle, .string c.pat]) ∧ Below u.heap.size u w' := fun u hu => by rw [HCc.out]; exact config_any r u hr (fun v hv => htab v (hu.trans (hv.mono hu.size)))
  have HMdc : Hid (∀ u, Calls Tryd.prog 8 #[.agg #[.int .i64 c.sources, .int .i64 c.slack, .int .i64 c.policy, .int .i64 c.room, .int .i64 c.idle, .string c.pat]] u fun e w' => ∃ b sg sc p, e = .returned (.tuple #[.pointer (some ⟨b, 0, none⟩), .bool true]) ∧ MemX w' b (newEng c n sg sc p) ∧ (∀ k, some k ∈ (newEng c n sg sc p).fp b → u.heap.size ≤ k) ∧ Below u.heap.size u w') := fun u => made_any n c u hn HOK.out
  have HFl : Hid (∀ u, Calls Tryd.prog 23 #[.agg #[.int .i64 c.sources, .int .i64 c.slack, .int .i64 c.policy, .int .i64 c.room, .int .i64 c.idle, .string c.pat]] u fun e w' => e = .returned (.bool true) ∧ Below u.heap.size u w') := fun u => flows_true n c u hn HOK.out
  obtain ⟨cz, HCcz⟩ := hex q.cfg
  have HOZ : Hid cz.ok := by show cz.ok; rw [HCcz.out]; exact q.cfg_ok
  obtain ⟨nz, hnz⟩ : ∃ m : Nat, cz.sources = m := ⟨cz.sources.toNat, by have := HOZ.out.1.1; omega⟩
  have HNz : Hid (cz.sources = nz) := hnz
  have hnz6 : 1 ≤ nz ∧ nz ≤ 6 := by have := HOZ.out.1.1; have := HOZ.out.1.2.1; omega
  have hcfcz : ∀ u, Below w.heap.size w u → Calls Tryd.prog 6 #[.agg #[.int .i64 q.sources, .int .i64 q.slack, .int .i64 q.policy, .int .i64 q.room, .int .i64 q.idle, .int .i64 q.pattern]] u fun e w' => e = .returned (.agg #[.int .i64 cz.sources, .int .i64 cz.slack, .int .i64 cz.policy, .int .i64 cz.room, .int .i64 cz.idle, .string cz.pat]) ∧ Below u.heap.size u w' := fun u hu => by rw [HCcz.out]; exact config_any q u hq (fun v hv => htab v (hu.trans (hv.mono hu.size)))
  have HMdcz : Hid (∀ u, Calls Tryd.prog 8 #[.agg #[.int .i64 cz.sources, .int .i64 cz.slack, .int .i64 cz.policy, .int .i64 cz.room, .int .i64 cz.idle, .string cz.pat]] u fun e w' => ∃ b sg sc p, e = .returned (.tuple #[.pointer (some ⟨b, 0, none⟩), .bool true]) ∧ MemX w' b (newEng cz nz sg sc p) ∧ (∀ k, some k ∈ (newEng cz nz sg sc p).fp b → u.heap.size ≤ k) ∧ Below u.heap.size u w') := fun u => made_any nz cz u hnz HOZ.out
  have HFz : Hid (∀ u, Calls Tryd.prog 23 #[.agg #[.int .i64 cz.sources, .int .i64 cz.slack, .int .i64 cz.policy, .int .i64 cz.room, .int .i64 cz.idle, .string cz.pat]] u fun e w' => e = .returned (.bool true) ∧ Below u.heap.size u w') := fun u => flows_true nz cz u hnz HOZ.out
  have HP3 : Hid (c.ps.length ≤ 3) := by show _ ≤ _; rw [HCc.out]; exact cfg_ps3 r
  clear hn hnz htab hr hq HCc HCcz hsa hso
  obtain ⟨w0, HW0⟩ := hex ((w.alloc (.cells r.vals.toArray 23)).alloc (.cells q.vals.toArray 23))
  obtain ⟨rb, HRb⟩ := hex w.heap.size
  obtain ⟨qb, HQb⟩ := hex (w.heap.size + 1)
  have HQ0 : Hid (Blk w0 qb 23 q.vals) := by show Blk _ _ _ _; rw [HW0.out, HQb.out]; have := blk_alloc (w.alloc (.cells r.vals.toArray 23)) q.vals 23; simpa using this
  have HR0 : Hid (Blk w0 rb 23 r.vals) := by show Blk _ _ _ _; rw [HW0.out, HRb.out]; exact (blk_alloc _ _ _).alloc _
  have H0 : Hid (Below w.heap.size w w0) := by show Below _ _ _; rw [HW0.out]; exact ((Below.refl _ _).alloc (Nat.le_refl _) _).alloc (by simp) _
  have hw0 : (w.alloc (.cells #[.int .i64 r.sources, .int .i64 r.slack, .int .i64 r.policy, .int .i64 r.room, .int .i64 r.idle, .int .i64 r.pattern] 23)).alloc (.cells #[.int .i64 q.sources, .int .i64 q.slack, .int .i64 q.policy, .int .i64 q.room, .int .i64 q.idle, .int .i64 q.pattern] 23) = w0 := HW0.out.symm
  go_enter Tryd.func5, Tryd.ntmps5
  go_upto_region 1 with fail
  rw [← HQb.out, ← HRb.out]
  clear hw0 HW0 HRb HQb
  have r0 := HR0.out.cell 0
  have r1 := HR0.out.cell 1
  have r2 := HR0.out.cell 2
  have r3 := HR0.out.cell 3
  have r4 := HR0.out.cell 4
  have r5 := HR0.out.cell 5
  simp only [RawC.vals, List.getElem?_cons_zero, List.getElem?_cons_succ] at r0 r1 r2 r3 r4 r5
  go_upto_region 2 with (go_at_call 6; refine (hcfc _ H0.out).mono ?_; rintro e w1 ⟨rfl, hb1⟩)
  have HB1 : Hid (Below w.heap.size w w1) := H0.out.trans (hb1.mono H0.out.size)
  have HQ1 : Hid (Blk w1 qb 23 q.vals) := HQ0.out.below hb1 HQ0.out.lt
  clear hcfc hb1 H0 r0 r1 r2 r3 r4 r5 HR0 HQ0
  obtain ⟨w2, HW2⟩ := hex (w1.alloc (.cells c.vals.toArray 26))
  have hw2 : w1.alloc (.cells #[.int .i64 c.sources, .int .i64 c.slack, .int .i64 c.policy, .int .i64 c.room, .int .i64 c.idle, .string c.pat] 26) = w2 := HW2.out.symm
  rw [hw2]
  obtain ⟨cb, HCb⟩ := hex w1.heap.size
  have HC2 : Hid (Blk w2 cb 26 c.vals) := by show Blk _ _ _ _; rw [HW2.out, HCb.out]; exact blk_alloc _ _ _
  have HQ2 : Hid (Blk w2 qb 23 q.vals) := by show Blk _ _ _ _; rw [HW2.out]; exact HQ1.out.alloc _
  have HB2 : Hid (Below w.heap.size w w2) := by show Below _ _ _; rw [HW2.out]; exact HB1.out.alloc HB1.out.size _
  rw [← HCb.out]
  clear hw2 HW2 HCb HB1 HQ1
  have r0 := HQ2.out.cell 0
  have r1 := HQ2.out.cell 1
  have r2 := HQ2.out.cell 2
  have r3 := HQ2.out.cell 3
  have r4 := HQ2.out.cell 4
  have r5 := HQ2.out.cell 5
  simp only [RawC.vals, List.getElem?_cons_zero, List.getElem?_cons_succ] at r0 r1 r2 r3 r4 r5
  go_upto_region 3 with (go_at_call 6; refine (hcfcz _ HB2.out).mono ?_; rintro e w3 ⟨rfl, hb3⟩)
  have HB3 : Hid (Below w.heap.size w w3) := HB2.out.trans (hb3.mono HB2.out.size)
  have HC3 : Hid (Blk w3 cb 26 c.vals) := HC2.out.below hb3 HC2.out.lt
  clear hcfcz hb3 r0 r1 r2 r3 r4 r5 HC2 HQ2 HB2
  obtain ⟨w4, HW4⟩ := hex (w3.alloc (.cells cz.vals.toArray 26))
  have hw4 : w3.alloc (.cells #[.int .i64 cz.sources, .int .i64 cz.slack, .int .i64 cz.policy, .int .i64 cz.room, .int .i64 cz.idle, .string cz.pat] 26) = w4 := HW4.out.symm
  rw [hw4]
  obtain ⟨zb, HZb⟩ := hex w3.heap.size
  have HZ4 : Hid (Blk w4 zb 26 cz.vals) := by show Blk _ _ _ _; rw [HW4.out, HZb.out]; exact blk_alloc _ _ _
  have HC4 : Hid (Blk w4 cb 26 c.vals) := by show Blk _ _ _ _; rw [HW4.out]; exact HC3.out.alloc _
  have HB4 : Hid (Below w.heap.size w w4) := by show Below _ _ _; rw [HW4.out]; exact HB3.out.alloc HB3.out.size _
  rw [← HZb.out]
  clear hw4 HW4 HZb HB3 HC3
  have k0 := (HC4.out).cell 0
  have k1 := (HC4.out).cell 1
  have k2 := (HC4.out).cell 2
  have k3 := (HC4.out).cell 3
  have k4 := (HC4.out).cell 4
  have k5 := (HC4.out).cell 5
  simp only [Cfg.vals, List.getElem?_cons_zero, List.getElem?_cons_succ] at k0 k1 k2 k3 k4 k5
  go_upto_region 4 with (go_at_call 8; refine (HMdc.out _).mono ?_; rintro e w5 ⟨b, sg, scc, pv, rfl, hM, hf, hb⟩)
  have HM5 : Hid (MemX w5 b (newEng c n sg scc pv) ∧ (∀ k, some k ∈ (newEng c n sg scc pv).fp b → w4.heap.size ≤ k) ∧ Below w4.heap.size w4 w5) := ⟨hM, hf, hb⟩
  have HC5 : Hid (Blk w5 cb 26 c.vals) := HC4.out.below hb HC4.out.lt
  clear hM hf hb k0 k1 k2 k3 k4 k5
  have k0 := (HC5.out).cell 0
  have k1 := (HC5.out).cell 1
  have k2 := (HC5.out).cell 2
  have k3 := (HC5.out).cell 3
  have k4 := (HC5.out).cell 4
  have k5 := (HC5.out).cell 5
  simp only [Cfg.vals, List.getElem?_cons_zero, List.getElem?_cons_succ] at k0 k1 k2 k3 k4 k5
  go_upto_region 5 with (go_at_call 8; refine (HMdc.out _).mono ?_; rintro e w6 ⟨b', sg', scc', pv', rfl, hM, hf, hb⟩)
  obtain ⟨bs, HBs⟩ := hex [(cb, 26, c.vals), (zb, 26, cz.vals)]
  have HK6 : Hid (Two w w6 b b' bs (newEng c n sg scc pv) (newEng c n sg' scc' pv')) := by
    refine Two.start HB4.out ?_ HM5.out.1 HM5.out.2.1 HM5.out.2.2 hM hf hb
    rw [HBs.out]
    intro x hx
    simp only [List.mem_cons, List.not_mem_nil, or_false] at hx
    rcases hx with rfl | rfl
    · exact HC4.out
    · exact HZ4.out
  clear hM hf hb k0 k1 k2 k3 k4 k5 HC4 HC5 HZ4 HB4 HMdc HM5
  have m0 := (HK6.out.bx (zb, 26, cz.vals) (HBs.out ▸ by simp)).cell 0
  have m1 := (HK6.out.bx (zb, 26, cz.vals) (HBs.out ▸ by simp)).cell 1
  have m2 := (HK6.out.bx (zb, 26, cz.vals) (HBs.out ▸ by simp)).cell 2
  have m3 := (HK6.out.bx (zb, 26, cz.vals) (HBs.out ▸ by simp)).cell 3
  have m4 := (HK6.out.bx (zb, 26, cz.vals) (HBs.out ▸ by simp)).cell 4
  have m5 := (HK6.out.bx (zb, 26, cz.vals) (HBs.out ▸ by simp)).cell 5
  simp only [Cfg.vals, List.getElem?_cons_zero, List.getElem?_cons_succ] at m0 m1 m2 m3 m4 m5
  go_upto_region 6 with (go_at_call 8; refine (HMdcz.out _).mono ?_; rintro e w7 ⟨bz, sgz, scz, pz, rfl, hM, hf, hb⟩)
  have HK7 : Hid (Thr w w7 b b' bz bs (newEng c n sg scc pv) (newEng c n sg' scc' pv') (newEng cz nz sgz scz pz)) := Thr.start HK6.out hM hf hb
  clear hM hf hb m0 m1 m2 m3 m4 m5 HK6 HMdcz
  have k0 := (HK7.out.two.bx (cb, 26, c.vals) (HBs.out ▸ by simp)).cell 0
  have k1 := (HK7.out.two.bx (cb, 26, c.vals) (HBs.out ▸ by simp)).cell 1
  have k2 := (HK7.out.two.bx (cb, 26, c.vals) (HBs.out ▸ by simp)).cell 2
  have k3 := (HK7.out.two.bx (cb, 26, c.vals) (HBs.out ▸ by simp)).cell 3
  have k4 := (HK7.out.two.bx (cb, 26, c.vals) (HBs.out ▸ by simp)).cell 4
  have k5 := (HK7.out.two.bx (cb, 26, c.vals) (HBs.out ▸ by simp)).cell 5
  simp only [Cfg.vals, List.getElem?_cons_zero, List.getElem?_cons_succ] at k0 k1 k2 k3 k4 k5
  have hjx : ∀ u, Thr w u b b' bz bs (newEng c n sg scc pv) (newEng c n sg' scc' pv') (newEng cz nz sgz scz pz) → Calls Tryd.prog 9 #[.pointer (some ⟨b, 0, none⟩), .agg #[.int .i64 c.sources, .int .i64 c.slack, .int .i64 c.policy, .int .i64 c.room, .int .i64 c.idle, .string c.pat]] u fun e w' => e = .returned (.bool true) ∧ ∃ M X, Like M X (joinSeq (newRef c n none 0 0) n) ∧ lineOf X = lineOf (newEng c n sg scc pv) ∧ X.srcs.length = n ∧ Thr w w' b b' bz bs X (newEng c n sg' scc' pv') (newEng cz nz sgz scz pz) := fun u hu => by
    refine (joined_seq b n c (newEng c n sg scc pv) (newRef c n none 0 0) u hu.two.mx (new_like HNn.out HOK.out) HNn.out hn6.2 (by show (List.replicate n zP).length = n; simp)).mono ?_
    rintro e w' ⟨he, M, Y, h1, h2, h3, hev⟩
    exact ⟨he, M, Y, h1, h2, h3, hu.evoX hev⟩
  go_upto_region 9 with (go_at_call 9; refine (hjx _ HK7.out).mono ?_; rintro e w8 ⟨rfl, M8, X0, hl8, hi8, hn8, hk8⟩)
  have HK8 : Hid (Thr w w8 b b' bz bs X0 (newEng c n sg' scc' pv') (newEng cz nz sgz scz pz)) := hk8
  have HL8 : Hid (Like M8 X0 (joinSeq (newRef c n none 0 0) n) ∧ lineOf X0 = lineOf (newEng c n sg scc pv) ∧ X0.srcs.length = n) := ⟨hl8, hi8, hn8⟩
  clear hjx hk8 hl8 hi8 hn8 k0 k1 k2 k3 k4 k5 HK7
  have k0 := (HK8.out.two.bx (cb, 26, c.vals) (HBs.out ▸ by simp)).cell 0
  have k1 := (HK8.out.two.bx (cb, 26, c.vals) (HBs.out ▸ by simp)).cell 1
  have k2 := (HK8.out.two.bx (cb, 26, c.vals) (HBs.out ▸ by simp)).cell 2
  have k3 := (HK8.out.two.bx (cb, 26, c.vals) (HBs.out ▸ by simp)).cell 3
  have k4 := (HK8.out.two.bx (cb, 26, c.vals) (HBs.out ▸ by simp)).cell 4
  have k5 := (HK8.out.two.bx (cb, 26, c.vals) (HBs.out ▸ by simp)).cell 5
  simp only [Cfg.vals, List.getElem?_cons_zero, List.getElem?_cons_succ] at k0 k1 k2 k3 k4 k5
  have hjx : ∀ u, Thr w u b b' bz bs X0 (newEng c n sg' scc' pv') (newEng cz nz sgz scz pz) → Calls Tryd.prog 9 #[.pointer (some ⟨b', 0, none⟩), .agg #[.int .i64 c.sources, .int .i64 c.slack, .int .i64 c.policy, .int .i64 c.room, .int .i64 c.idle, .string c.pat]] u fun e w' => e = .returned (.bool true) ∧ ∃ M X, Like M X (joinSeq (newRef c n none 0 0) n) ∧ lineOf X = lineOf (newEng c n sg' scc' pv') ∧ X.srcs.length = n ∧ Thr w w' b b' bz bs X0 X (newEng cz nz sgz scz pz) := fun u hu => by
    refine (joined_seq b' n c (newEng c n sg' scc' pv') (newRef c n none 0 0) u hu.two.my (new_like HNn.out HOK.out) HNn.out hn6.2 (by show (List.replicate n zP).length = n; simp)).mono ?_
    rintro e w' ⟨he, M, Y, h1, h2, h3, hev⟩
    exact ⟨he, M, Y, h1, h2, h3, hu.evoY hev⟩
  go_upto_region 10 with (go_at_call 9; refine (hjx _ HK8.out).mono ?_; rintro e w9 ⟨rfl, M9, Y0, hl9, hi9, hn9, hk9⟩)
  have HK9 : Hid (Thr w w9 b b' bz bs X0 Y0 (newEng cz nz sgz scz pz)) := hk9
  have HL9 : Hid (Like M9 Y0 (joinSeq (newRef c n none 0 0) n) ∧ lineOf Y0 = lineOf (newEng c n sg' scc' pv') ∧ Y0.srcs.length = n) := ⟨hl9, hi9, hn9⟩
  clear hjx hk9 hl9 hi9 hn9 k0 k1 k2 k3 k4 k5 HK8
  have m0 := (HK9.out.two.bx (zb, 26, cz.vals) (HBs.out ▸ by simp)).cell 0
  have m1 := (HK9.out.two.bx (zb, 26, cz.vals) (HBs.out ▸ by simp)).cell 1
  have m2 := (HK9.out.two.bx (zb, 26, cz.vals) (HBs.out ▸ by simp)).cell 2
  have m3 := (HK9.out.two.bx (zb, 26, cz.vals) (HBs.out ▸ by simp)).cell 3
  have m4 := (HK9.out.two.bx (zb, 26, cz.vals) (HBs.out ▸ by simp)).cell 4
  have m5 := (HK9.out.two.bx (zb, 26, cz.vals) (HBs.out ▸ by simp)).cell 5
  simp only [Cfg.vals, List.getElem?_cons_zero, List.getElem?_cons_succ] at m0 m1 m2 m3 m4 m5
  have hjx : ∀ u, Thr w u b b' bz bs X0 Y0 (newEng cz nz sgz scz pz) → Calls Tryd.prog 9 #[.pointer (some ⟨bz, 0, none⟩), .agg #[.int .i64 cz.sources, .int .i64 cz.slack, .int .i64 cz.policy, .int .i64 cz.room, .int .i64 cz.idle, .string cz.pat]] u fun e w' => e = .returned (.bool true) ∧ ∃ M X, Like M X (joinSeq (newRef cz nz none 0 0) nz) ∧ lineOf X = lineOf (newEng cz nz sgz scz pz) ∧ X.srcs.length = nz ∧ Thr w w' b b' bz bs X0 Y0 X := fun u hu => by
    refine (joined_seq bz nz cz (newEng cz nz sgz scz pz) (newRef cz nz none 0 0) u hu.mz (new_like HNz.out HOZ.out) HNz.out hnz6.2 (by show (List.replicate nz zP).length = nz; simp)).mono ?_
    rintro e w' ⟨he, M, Y, h1, h2, h3, hev⟩
    exact ⟨he, M, Y, h1, h2, h3, hu.evoZ hev⟩
  go_upto_region 11 with (go_at_call 9; refine (hjx _ HK9.out).mono ?_; rintro e w10 ⟨rfl, M10, Z0, hl10, hi10, hn10, hk10⟩)
  have HKj : Hid (Thr w w10 b b' bz bs X0 Y0 Z0) := hk10
  have HLZ0 : Hid (∃ N R, Like N Z0 R) := ⟨_, _, hl10⟩
  have HLX0 : Hid (∃ N R, Like N X0 R) := ⟨_, _, HL8.out.1⟩
  have HLY0 : Hid (∃ N R, Like N Y0 R) := ⟨_, _, HL9.out.1⟩
  have HLen : Hid (X0.srcs.length = n ∧ Y0.srcs.length = n) := ⟨HL8.out.2.2, HL9.out.2.2⟩
  have HT0 : Hid (Twin (fun _ => True) X0 Y0) := twin_of HL8.out.1 HL9.out.1 (HL8.out.2.1.trans ((new_lines _ _ _ _ _ _ _ _ _).trans HL9.out.2.1.symm))
  have HX0c : Hid (X0.c = c) := joinedX_c HL8.out.1
  clear hjx hk10 hl10 hi10 hn10 m0 m1 m2 m3 m4 m5 HK9 HL8 HL9
  go_upto_region 13 with fail
  go_wp2
  go_loopw [17] (fun iv wr => ∃ (i : Nat) (X : Eng), i ≤ acts.length ∧ iv = .int .i64 i ∧ Thr w wr b b' bz bs X Y0 Z0 ∧ RunA c (acts.take i) X0 X ∧ (∃ N R, Like N X R)) (fun iv _ => acts.length - (intOf iv).toNat)
  case atStart => exact ⟨0, X0, Nat.zero_le _, rfl, HKj.out, rfl, HLX0.out⟩
  case round =>
    clear HKj
    obtain ⟨i, X, hi, rfl, hk, hra, hlk⟩ := hrel
    have HK : Hid (Thr w wr b b' bz bs X Y0 Z0) := hk
    have HRa : Hid (RunA c (acts.take i) X0 X) := hra
    have HLk : Hid (∃ N R, Like N X R) := hlk
    clear hk hra hlk
    by_cases hle : i < acts.length
    · have hle' : (i : Int) < (acts.length : Int) := by omega
      have hi00 : (0 : Int) ≤ (i : Int) := by omega
      obtain ⟨hao, ab, ao, hsab, hal, hac⟩ := HSA.out i hle
      obtain ⟨a, HAa⟩ := hex acts[i]
      rw [← HAa.out] at hao hac
      have HAo : Hid a.ok := hao
      have HAL : Hid (ab < w.heap.size ∧ ∀ o, o < 8 → w.cell? ⟨ab, ao + i * 8 + o, none⟩ = a.cells[o]?) := ⟨hal, hac⟩
      clear hac hao hal
      have HTk : Hid (acts.take (i + 1) = acts.take i ++ [a]) := by show _ = _; rw [HAa.out]; exact List.take_succ_eq_append_getElem hle
      subst hsab
      have k0 := (HK.out.two.bx (cb, 26, c.vals) (HBs.out ▸ by simp)).cell 0
      have k1 := (HK.out.two.bx (cb, 26, c.vals) (HBs.out ▸ by simp)).cell 1
      have k2 := (HK.out.two.bx (cb, 26, c.vals) (HBs.out ▸ by simp)).cell 2
      have k3 := (HK.out.two.bx (cb, 26, c.vals) (HBs.out ▸ by simp)).cell 3
      have k4 := (HK.out.two.bx (cb, 26, c.vals) (HBs.out ▸ by simp)).cell 4
      have k5 := (HK.out.two.bx (cb, 26, c.vals) (HBs.out ▸ by simp)).cell 5
      simp only [Cfg.vals, List.getElem?_cons_zero, List.getElem?_cons_succ] at k0 k1 k2 k3 k4 k5
      have bb : ∀ o, o < 8 → wr.cell? ⟨ab, ao + i * 8 + o, none⟩ = a.cells[o]? := fun o ho => (HK.out.two.bel.cell (p := ⟨ab, ao + i * 8 + o, none⟩) HAL.out.1).trans (HAL.out.2 o ho)
      have a0 := bb 0 (by omega)
      have a1 := bb 1 (by omega)
      have a2 := bb 2 (by omega)
      have a3 := bb 3 (by omega)
      have a4 := bb 4 (by omega)
      have a5 := bb 5 (by omega)
      have a6 := bb 6 (by omega)
      have a7 := bb 7 (by omega)
      simp only [ActR.cells, List.getElem?_cons_zero, List.getElem?_cons_succ, Nat.add_zero] at a0 a1 a2 a3 a4 a5 a6 a7
      clear bb
      have hdo : ∀ u, Thr w u b b' bz bs X Y0 Z0 → Calls Tryd.prog 11 #[.pointer (some ⟨b, 0, none⟩), .agg #[.int .i64 c.sources, .int .i64 c.slack, .int .i64 c.policy, .int .i64 c.room, .int .i64 c.idle, .string c.pat], .agg #[.int .i64 a.d, .int .i64 a.s, .int .i64 a.n, .int .i64 a.E.src, .int .i64 a.E.seq, .int .i64 a.E.ts, .int .i64 a.E.kind, .int .i64 a.E.val]] u fun e w' => ∃ z X', e = .returned (.int .i64 z) ∧ DoneX X (srcI c a) a z X' ∧ Thr w w' b b' bz bs X' Y0 Z0 := fun u hu => by
        obtain ⟨N, R, hl⟩ := HLk.out
        refine (done_rel b c X R a u hu.two.mx hl HAo.out (by rw [HNn.out]; omega)).mono ?_
        rintro e w' ⟨z, X', he, hD, hev⟩
        exact ⟨z, X', he, hD, hu.evoX hev⟩
      go_upto_region 16 with fail
      refine upTo_region (fun u : World => u.cell? ⟨cb, 0, none⟩ = some (.int .i64 c.sources) ∧ u.cell? ⟨cb, 1, none⟩ = some (.int .i64 c.slack) ∧ u.cell? ⟨cb, 2, none⟩ = some (.int .i64 c.policy) ∧ u.cell? ⟨cb, 3, none⟩ = some (.int .i64 c.room) ∧ u.cell? ⟨cb, 4, none⟩ = some (.int .i64 c.idle) ∧ u.cell? ⟨cb, 5, none⟩ = some (.string c.pat) ∧ u.cell? ⟨ab, ao + i * 8, none⟩ = some (.int .i64 a.d) ∧ u.cell? ⟨ab, ao + i * 8 + 1, none⟩ = some (.int .i64 a.s) ∧ u.cell? ⟨ab, ao + i * 8 + 2, none⟩ = some (.int .i64 a.n) ∧ u.cell? ⟨ab, ao + i * 8 + 3, none⟩ = some (.int .i64 a.E.src) ∧ u.cell? ⟨ab, ao + i * 8 + 4, none⟩ = some (.int .i64 a.E.seq) ∧ u.cell? ⟨ab, ao + i * 8 + 5, none⟩ = some (.int .i64 a.E.ts) ∧ u.cell? ⟨ab, ao + i * 8 + 6, none⟩ = some (.int .i64 a.E.kind) ∧ u.cell? ⟨ab, ao + i * 8 + 7, none⟩ = some (.int .i64 a.E.val)) 7 7 rfl (by kernel_rfl) ?_
      have hS0 : (fun u : World => u.cell? ⟨cb, 0, none⟩ = some (.int .i64 c.sources) ∧ u.cell? ⟨cb, 1, none⟩ = some (.int .i64 c.slack) ∧ u.cell? ⟨cb, 2, none⟩ = some (.int .i64 c.policy) ∧ u.cell? ⟨cb, 3, none⟩ = some (.int .i64 c.room) ∧ u.cell? ⟨cb, 4, none⟩ = some (.int .i64 c.idle) ∧ u.cell? ⟨cb, 5, none⟩ = some (.string c.pat) ∧ u.cell? ⟨ab, ao + i * 8, none⟩ = some (.int .i64 a.d) ∧ u.cell? ⟨ab, ao + i * 8 + 1, none⟩ = some (.int .i64 a.s) ∧ u.cell? ⟨ab, ao + i * 8 + 2, none⟩ = some (.int .i64 a.n) ∧ u.cell? ⟨ab, ao + i * 8 + 3, none⟩ = some (.int .i64 a.E.src) ∧ u.cell? ⟨ab, ao + i * 8 + 4, none⟩ = some (.int .i64 a.E.seq) ∧ u.cell? ⟨ab, ao + i * 8 + 5, none⟩ = some (.int .i64 a.E.ts) ∧ u.cell? ⟨ab, ao + i * 8 + 6, none⟩ = some (.int .i64 a.E.kind) ∧ u.cell? ⟨ab, ao + i * 8 + 7, none⟩ = some (.int .i64 a.E.val)) wr.drew := ⟨k0, k1, k2, k3, k4, k5, a0, a1, a2, a3, a4, a5, a6, a7⟩
      refine upTo_take2 (i := 0) (v := ?v26_0) rfl (by kernel_rfl) (by kernel_rfl) (by kernel_rfl) rfl (fun _ _ _ h => h) (by rfl) hS0 ?hy26_0 ?rest26_0
      case hy26_0 => (intro u hu; (try dsimp only at hu); go_simp; first | done | with_reducible rfl)
      (try simp only [Act.put, List.setIfInBounds_toArray, List.set_cons_zero, List.set_cons_succ, List.getElem_toArray, List.getElem_cons_succ, List.getElem_cons_zero])
      refine upTo_take2 (i := 1) (v := ?v26_1) rfl (by kernel_rfl) (by kernel_rfl) (by kernel_rfl) rfl (fun _ _ _ h => h) (by rfl) hS0 ?hy26_1 ?rest26_1
      case hy26_1 => (intro u hu; (try dsimp only at hu); go_simp; first | done | with_reducible rfl)
      (try simp only [Act.put, List.setIfInBounds_toArray, List.set_cons_zero, List.set_cons_succ, List.getElem_toArray, List.getElem_cons_succ, List.getElem_cons_zero])
      refine upTo_take2 (i := 2) (v := ?v26_2) rfl (by kernel_rfl) (by kernel_rfl) (by kernel_rfl) rfl (fun _ _ _ h => h) (by rfl) hS0 ?hy26_2 ?rest26_2
      case hy26_2 => (intro u hu; (try dsimp only at hu); go_simp; first | done | with_reducible rfl)
      (try simp only [Act.put, List.setIfInBounds_toArray, List.set_cons_zero, List.set_cons_succ, List.getElem_toArray, List.getElem_cons_succ, List.getElem_cons_zero])
      refine upTo_take2 (i := 3) (v := ?v26_3) rfl (by kernel_rfl) (by kernel_rfl) (by kernel_rfl) rfl (fun _ _ _ h => h) (by rfl) hS0 ?hy26_3 ?rest26_3
      case hy26_3 => (intro u hu; (try dsimp only at hu); go_simp; first | done | with_reducible rfl)
      (try simp only [Act.put, List.setIfInBounds_toArray, List.set_cons_zero, List.set_cons_succ, List.getElem_toArray, List.getElem_cons_succ, List.getElem_cons_zero])
      refine upTo_take2 (i := 4) (v := ?v26_4) rfl (by kernel_rfl) (by kernel_rfl) (by kernel_rfl) rfl (fun _ _ _ h => h) (by rfl) hS0 ?hy26_4 ?rest26_4
      case hy26_4 => (intro u hu; (try dsimp only at hu); go_simp; first | done | with_reducible rfl)
      (try simp only [Act.put, List.setIfInBounds_toArray, List.set_cons_zero, List.set_cons_succ, List.getElem_toArray, List.getElem_cons_succ, List.getElem_cons_zero])
      refine upTo_take2 (i := 5) (v := ?v26_5) rfl (by kernel_rfl) (by kernel_rfl) (by kernel_rfl) rfl (fun _ _ _ h => h) (by rfl) hS0 ?hy26_5 ?rest26_5
      case hy26_5 => (intro u hu; (try dsimp only at hu); go_simp; first | done | with_reducible rfl)
      (try simp only [Act.put, List.setIfInBounds_toArray, List.set_cons_zero, List.set_cons_succ, List.getElem_toArray, List.getElem_cons_succ, List.getElem_cons_zero])
      clear hS0 k0 k1 k2 k3 k4 k5 a0 a1 a2 a3 a4 a5 a6 a7
      refine upTo_one (i := 6) (by kernel_rfl) rfl (fun K hK => ?_)
      go_simp
      refine (hdo _ (HK.out.below ((Below.refl _ wr).drew))).mono ?_
      rintro e v1 ⟨zv1, X1, rfl, hDv1, hkv1⟩
      have HKv1 : Hid (Thr w v1 b b' bz bs X1 Y0 Z0) := hkv1
      have HDv1 : Hid (DoneX X (srcI c a) a zv1 X1) := hDv1
      clear hkv1 hDv1 hdo
      have k0 := (HKv1.out.two.bx (cb, 26, c.vals) (HBs.out ▸ by simp)).cell 0
      have k1 := (HKv1.out.two.bx (cb, 26, c.vals) (HBs.out ▸ by simp)).cell 1
      have k2 := (HKv1.out.two.bx (cb, 26, c.vals) (HBs.out ▸ by simp)).cell 2
      have k3 := (HKv1.out.two.bx (cb, 26, c.vals) (HBs.out ▸ by simp)).cell 3
      have k4 := (HKv1.out.two.bx (cb, 26, c.vals) (HBs.out ▸ by simp)).cell 4
      have k5 := (HKv1.out.two.bx (cb, 26, c.vals) (HBs.out ▸ by simp)).cell 5
      simp only [Cfg.vals, List.getElem?_cons_zero, List.getElem?_cons_succ] at k0 k1 k2 k3 k4 k5
      have bb : ∀ o, o < 8 → v1.cell? ⟨ab, ao + i * 8 + o, none⟩ = a.cells[o]? := fun o ho => (HKv1.out.two.bel.cell (p := ⟨ab, ao + i * 8 + o, none⟩) HAL.out.1).trans (HAL.out.2 o ho)
      have a0 := bb 0 (by omega)
      have a1 := bb 1 (by omega)
      have a2 := bb 2 (by omega)
      have a3 := bb 3 (by omega)
      have a4 := bb 4 (by omega)
      have a5 := bb 5 (by omega)
      have a6 := bb 6 (by omega)
      have a7 := bb 7 (by omega)
      simp only [ActR.cells, List.getElem?_cons_zero, List.getElem?_cons_succ, Nat.add_zero] at a0 a1 a2 a3 a4 a5 a6 a7
      clear bb
      refine hK.out _ _ (fun _ => ⟨k0, k1, k2, k3, k4, k5, a0, a1, a2, a3, a4, a5, a6, a7⟩) ?_
      clear hK K
      (try simp only [Act.put, List.setIfInBounds_toArray, List.set_cons_zero, List.set_cons_succ, List.getElem_toArray, List.getElem_cons_succ, List.getElem_cons_zero])
      refine upTo_done (by kernel_rfl) ?_
      clear k0 k1 k2 k3 k4 k5 a0 a1 a2 a3 a4 a5 a6 a7
      have HRn : Hid (RunA c (acts.take (i + 1)) X0 X1) := by show RunA _ _ _ _; rw [HTk.out]; exact runA_snoc HRa.out HDv1.out
      have HLn : Hid (∃ N R, Like N X1 R) := by
        obtain ⟨N, R, hl⟩ := HLk.out
        obtain ⟨M, R', hl'⟩ := doneX_like hl HDv1.out
        exact ⟨M, R', hl'⟩
      go_wp2
      go_roundw
      case rel => first | exact ⟨i + 1, X1, by omega, by go_num, HKv1.out, HRn.out, HLn.out⟩ | ((repeat apply Exists.intro); exact ⟨⟨i + 1, X1, by omega, by go_num, HKv1.out, HRn.out, HLn.out⟩, rfl⟩)
      case measure => simp [intOf]; omega
    · have hle' : ¬ (i : Int) < (acts.length : Int) := by omega
      have HRx : Hid (RunA c acts X0 X) := by have := HRa.out; rw [List.take_of_length_le (by omega)] at this; exact this
      clear HRa
      go_upto_region 17 with fail
      go_wp2
      go_loopw [18] (fun iv wq => ∃ (i : Nat) (Y Z : Eng), (i ≤ acts.length ∨ i ≤ others.length) ∧ iv = .int .i64 i ∧ Thr w wq b b' bz bs X Y Z ∧ RunA c (acts.take i) Y0 Y ∧ (∃ N R, Like N Y R) ∧ (∃ N R, Like N Z R)) (fun iv _ => acts.length + others.length - (intOf iv).toNat)
      case atStart => exact ⟨0, Y0, Z0, Or.inl (Nat.zero_le _), rfl, HK.out, rfl, HLY0.out, HLZ0.out⟩
      case round =>
        clear HK hi hle hle'
        obtain ⟨i, Y, Z, hi, rfl, hk, hra, hlk, hlz⟩ := hrel
        have HK : Hid (Thr w wr b b' bz bs X Y Z) := hk
        have HRa : Hid (RunA c (acts.take i) Y0 Y) := hra
        have HLy : Hid (∃ N R, Like N Y R) := hlk
        have HLz : Hid (∃ N R, Like N Z R) := hlz
        clear hk hra hlk hlz
        have hin : (i : Int) ≤ 9000000000000000 := by omega
        by_cases hlo : i < others.length
        · have hlo' : (i : Int) < (others.length : Int) := by omega
          obtain ⟨sa', HSa'⟩ := hex sa
          have hle := hlo
          have hi00 : (0 : Int) ≤ (i : Int) := by omega
          obtain ⟨hao, ab, ao, hsab, hal, hac⟩ := HSB.out i hle
          obtain ⟨a, HAa⟩ := hex others[i]
          rw [← HAa.out] at hao hac
          have HAo : Hid a.ok := hao
          have HAL : Hid (ab < w.heap.size ∧ ∀ o, o < 8 → w.cell? ⟨ab, ao + i * 8 + o, none⟩ = a.cells[o]?) := ⟨hal, hac⟩
          clear hac hao hal
          subst hsab
          clear HAa hle HSa'
          have m0 := (HK.out.two.bx (zb, 26, cz.vals) (HBs.out ▸ by simp)).cell 0
          have m1 := (HK.out.two.bx (zb, 26, cz.vals) (HBs.out ▸ by simp)).cell 1
          have m2 := (HK.out.two.bx (zb, 26, cz.vals) (HBs.out ▸ by simp)).cell 2
          have m3 := (HK.out.two.bx (zb, 26, cz.vals) (HBs.out ▸ by simp)).cell 3
          have m4 := (HK.out.two.bx (zb, 26, cz.vals) (HBs.out ▸ by simp)).cell 4
          have m5 := (HK.out.two.bx (zb, 26, cz.vals) (HBs.out ▸ by simp)).cell 5
          simp only [Cfg.vals, List.getElem?_cons_zero, List.getElem?_cons_succ] at m0 m1 m2 m3 m4 m5
          have bb : ∀ o, o < 8 → wr.cell? ⟨ab, ao + i * 8 + o, none⟩ = a.cells[o]? := fun o ho => (HK.out.two.bel.cell (p := ⟨ab, ao + i * 8 + o, none⟩) HAL.out.1).trans (HAL.out.2 o ho)
          have a0 := bb 0 (by omega)
          have a1 := bb 1 (by omega)
          have a2 := bb 2 (by omega)
          have a3 := bb 3 (by omega)
          have a4 := bb 4 (by omega)
          have a5 := bb 5 (by omega)
          have a6 := bb 6 (by omega)
          have a7 := bb 7 (by omega)
          simp only [ActR.cells, List.getElem?_cons_zero, List.getElem?_cons_succ, Nat.add_zero] at a0 a1 a2 a3 a4 a5 a6 a7
          clear bb
          by_cases hla : i < acts.length
          · have hla' : (i : Int) < (acts.length : Int) := by omega
            have hdo : ∀ u, Thr w u b b' bz bs X Y Z → Calls Tryd.prog 11 #[.pointer (some ⟨bz, 0, none⟩), .agg #[.int .i64 cz.sources, .int .i64 cz.slack, .int .i64 cz.policy, .int .i64 cz.room, .int .i64 cz.idle, .string cz.pat], .agg #[.int .i64 a.d, .int .i64 a.s, .int .i64 a.n, .int .i64 a.E.src, .int .i64 a.E.seq, .int .i64 a.E.ts, .int .i64 a.E.kind, .int .i64 a.E.val]] u fun e w' => ∃ z X', e = .returned (.int .i64 z) ∧ DoneX Z (srcI cz a) a z X' ∧ Thr w w' b b' bz bs X Y X' := fun u hu => by
              obtain ⟨N, R, hl⟩ := HLz.out
              refine (done_rel bz cz Z R a u hu.mz hl HAo.out (by rw [HNz.out]; omega)).mono ?_
              rintro e w' ⟨z, X', he, hD, hev⟩
              exact ⟨z, X', he, hD, hu.evoZ hev⟩
            go_upto_region 21 with fail
            refine upTo_region (fun u : World => u.cell? ⟨zb, 0, none⟩ = some (.int .i64 cz.sources) ∧ u.cell? ⟨zb, 1, none⟩ = some (.int .i64 cz.slack) ∧ u.cell? ⟨zb, 2, none⟩ = some (.int .i64 cz.policy) ∧ u.cell? ⟨zb, 3, none⟩ = some (.int .i64 cz.room) ∧ u.cell? ⟨zb, 4, none⟩ = some (.int .i64 cz.idle) ∧ u.cell? ⟨zb, 5, none⟩ = some (.string cz.pat) ∧ u.cell? ⟨ab, ao + i * 8, none⟩ = some (.int .i64 a.d) ∧ u.cell? ⟨ab, ao + i * 8 + 1, none⟩ = some (.int .i64 a.s) ∧ u.cell? ⟨ab, ao + i * 8 + 2, none⟩ = some (.int .i64 a.n) ∧ u.cell? ⟨ab, ao + i * 8 + 3, none⟩ = some (.int .i64 a.E.src) ∧ u.cell? ⟨ab, ao + i * 8 + 4, none⟩ = some (.int .i64 a.E.seq) ∧ u.cell? ⟨ab, ao + i * 8 + 5, none⟩ = some (.int .i64 a.E.ts) ∧ u.cell? ⟨ab, ao + i * 8 + 6, none⟩ = some (.int .i64 a.E.kind) ∧ u.cell? ⟨ab, ao + i * 8 + 7, none⟩ = some (.int .i64 a.E.val)) 7 7 rfl (by kernel_rfl) ?_
            have hS0 : (fun u : World => u.cell? ⟨zb, 0, none⟩ = some (.int .i64 cz.sources) ∧ u.cell? ⟨zb, 1, none⟩ = some (.int .i64 cz.slack) ∧ u.cell? ⟨zb, 2, none⟩ = some (.int .i64 cz.policy) ∧ u.cell? ⟨zb, 3, none⟩ = some (.int .i64 cz.room) ∧ u.cell? ⟨zb, 4, none⟩ = some (.int .i64 cz.idle) ∧ u.cell? ⟨zb, 5, none⟩ = some (.string cz.pat) ∧ u.cell? ⟨ab, ao + i * 8, none⟩ = some (.int .i64 a.d) ∧ u.cell? ⟨ab, ao + i * 8 + 1, none⟩ = some (.int .i64 a.s) ∧ u.cell? ⟨ab, ao + i * 8 + 2, none⟩ = some (.int .i64 a.n) ∧ u.cell? ⟨ab, ao + i * 8 + 3, none⟩ = some (.int .i64 a.E.src) ∧ u.cell? ⟨ab, ao + i * 8 + 4, none⟩ = some (.int .i64 a.E.seq) ∧ u.cell? ⟨ab, ao + i * 8 + 5, none⟩ = some (.int .i64 a.E.ts) ∧ u.cell? ⟨ab, ao + i * 8 + 6, none⟩ = some (.int .i64 a.E.kind) ∧ u.cell? ⟨ab, ao + i * 8 + 7, none⟩ = some (.int .i64 a.E.val)) wr.drew := ⟨m0, m1, m2, m3, m4, m5, a0, a1, a2, a3, a4, a5, a6, a7⟩
            refine upTo_take2 (i := 0) (v := ?v27_0) rfl (by kernel_rfl) (by kernel_rfl) (by kernel_rfl) rfl (fun _ _ _ h => h) (by rfl) hS0 ?hy27_0 ?rest27_0
            case hy27_0 => (intro u hu; (try dsimp only at hu); go_simp; first | done | with_reducible rfl)
            (try simp only [Act.put, List.setIfInBounds_toArray, List.set_cons_zero, List.set_cons_succ, List.getElem_toArray, List.getElem_cons_succ, List.getElem_cons_zero])
            refine upTo_take2 (i := 1) (v := ?v27_1) rfl (by kernel_rfl) (by kernel_rfl) (by kernel_rfl) rfl (fun _ _ _ h => h) (by rfl) hS0 ?hy27_1 ?rest27_1
            case hy27_1 => (intro u hu; (try dsimp only at hu); go_simp; first | done | with_reducible rfl)
            (try simp only [Act.put, List.setIfInBounds_toArray, List.set_cons_zero, List.set_cons_succ, List.getElem_toArray, List.getElem_cons_succ, List.getElem_cons_zero])
            refine upTo_take2 (i := 2) (v := ?v27_2) rfl (by kernel_rfl) (by kernel_rfl) (by kernel_rfl) rfl (fun _ _ _ h => h) (by rfl) hS0 ?hy27_2 ?rest27_2
            case hy27_2 => (intro u hu; (try dsimp only at hu); go_simp; first | done | with_reducible rfl)
            (try simp only [Act.put, List.setIfInBounds_toArray, List.set_cons_zero, List.set_cons_succ, List.getElem_toArray, List.getElem_cons_succ, List.getElem_cons_zero])
            refine upTo_take2 (i := 3) (v := ?v27_3) rfl (by kernel_rfl) (by kernel_rfl) (by kernel_rfl) rfl (fun _ _ _ h => h) (by rfl) hS0 ?hy27_3 ?rest27_3
            case hy27_3 => (intro u hu; (try dsimp only at hu); go_simp; first | done | with_reducible rfl)
            (try simp only [Act.put, List.setIfInBounds_toArray, List.set_cons_zero, List.set_cons_succ, List.getElem_toArray, List.getElem_cons_succ, List.getElem_cons_zero])
            refine upTo_take2 (i := 4) (v := ?v27_4) rfl (by kernel_rfl) (by kernel_rfl) (by kernel_rfl) rfl (fun _ _ _ h => h) (by rfl) hS0 ?hy27_4 ?rest27_4
            case hy27_4 => (intro u hu; (try dsimp only at hu); go_simp; first | done | with_reducible rfl)
            (try simp only [Act.put, List.setIfInBounds_toArray, List.set_cons_zero, List.set_cons_succ, List.getElem_toArray, List.getElem_cons_succ, List.getElem_cons_zero])
            refine upTo_take2 (i := 5) (v := ?v27_5) rfl (by kernel_rfl) (by kernel_rfl) (by kernel_rfl) rfl (fun _ _ _ h => h) (by rfl) hS0 ?hy27_5 ?rest27_5
            case hy27_5 => (intro u hu; (try dsimp only at hu); go_simp; first | done | with_reducible rfl)
            (try simp only [Act.put, List.setIfInBounds_toArray, List.set_cons_zero, List.set_cons_succ, List.getElem_toArray, List.getElem_cons_succ, List.getElem_cons_zero])
            clear hS0 m0 m1 m2 m3 m4 m5 a0 a1 a2 a3 a4 a5 a6 a7
            refine upTo_one (i := 6) (by kernel_rfl) rfl (fun K hK => ?_)
            go_simp
            refine (hdo _ (HK.out.below ((Below.refl _ wr).drew))).mono ?_
            rintro e v1 ⟨zv1, Z1, rfl, hDv1, hkv1⟩
            have HKv1 : Hid (Thr w v1 b b' bz bs X Y Z1) := hkv1
            have HDv1 : Hid (DoneX Z (srcI cz a) a zv1 Z1) := hDv1
            clear hkv1 hDv1 hdo
            have m0 := (HKv1.out.two.bx (zb, 26, cz.vals) (HBs.out ▸ by simp)).cell 0
            have m1 := (HKv1.out.two.bx (zb, 26, cz.vals) (HBs.out ▸ by simp)).cell 1
            have m2 := (HKv1.out.two.bx (zb, 26, cz.vals) (HBs.out ▸ by simp)).cell 2
            have m3 := (HKv1.out.two.bx (zb, 26, cz.vals) (HBs.out ▸ by simp)).cell 3
            have m4 := (HKv1.out.two.bx (zb, 26, cz.vals) (HBs.out ▸ by simp)).cell 4
            have m5 := (HKv1.out.two.bx (zb, 26, cz.vals) (HBs.out ▸ by simp)).cell 5
            simp only [Cfg.vals, List.getElem?_cons_zero, List.getElem?_cons_succ] at m0 m1 m2 m3 m4 m5
            have bb : ∀ o, o < 8 → v1.cell? ⟨ab, ao + i * 8 + o, none⟩ = a.cells[o]? := fun o ho => (HKv1.out.two.bel.cell (p := ⟨ab, ao + i * 8 + o, none⟩) HAL.out.1).trans (HAL.out.2 o ho)
            have a0 := bb 0 (by omega)
            have a1 := bb 1 (by omega)
            have a2 := bb 2 (by omega)
            have a3 := bb 3 (by omega)
            have a4 := bb 4 (by omega)
            have a5 := bb 5 (by omega)
            have a6 := bb 6 (by omega)
            have a7 := bb 7 (by omega)
            simp only [ActR.cells, List.getElem?_cons_zero, List.getElem?_cons_succ, Nat.add_zero] at a0 a1 a2 a3 a4 a5 a6 a7
            clear bb
            refine hK.out _ _ (fun _ => ⟨m0, m1, m2, m3, m4, m5, a0, a1, a2, a3, a4, a5, a6, a7⟩) ?_
            clear hK K
            (try simp only [Act.put, List.setIfInBounds_toArray, List.set_cons_zero, List.set_cons_succ, List.getElem_toArray, List.getElem_cons_succ, List.getElem_cons_zero])
            refine upTo_done (by kernel_rfl) ?_
            clear m0 m1 m2 m3 m4 m5 a0 a1 a2 a3 a4 a5 a6 a7
            have HLz1 : Hid (∃ N R, Like N Z1 R) := by
              obtain ⟨N, R, hl⟩ := HLz.out
              obtain ⟨M, R', hl'⟩ := doneX_like hl HDv1.out
              exact ⟨M, R', hl'⟩
            clear HAo HAL HK HDv1
            have hle := hla
            have hi00 : (0 : Int) ≤ (i : Int) := by omega
            obtain ⟨hao, ab, ao, hsab, hal, hac⟩ := HSA.out i hle
            obtain ⟨a, HAa⟩ := hex acts[i]
            rw [← HAa.out] at hao hac
            have HAo : Hid a.ok := hao
            have HAL : Hid (ab < w.heap.size ∧ ∀ o, o < 8 → w.cell? ⟨ab, ao + i * 8 + o, none⟩ = a.cells[o]?) := ⟨hal, hac⟩
            clear hac hao hal
            have HTk : Hid (acts.take (i + 1) = acts.take i ++ [a]) := by show _ = _; rw [HAa.out]; exact List.take_succ_eq_append_getElem hle
            subst hsab
            clear HAa hle
            have k0 := (HKv1.out.two.bx (cb, 26, c.vals) (HBs.out ▸ by simp)).cell 0
            have k1 := (HKv1.out.two.bx (cb, 26, c.vals) (HBs.out ▸ by simp)).cell 1
            have k2 := (HKv1.out.two.bx (cb, 26, c.vals) (HBs.out ▸ by simp)).cell 2
            have k3 := (HKv1.out.two.bx (cb, 26, c.vals) (HBs.out ▸ by simp)).cell 3
            have k4 := (HKv1.out.two.bx (cb, 26, c.vals) (HBs.out ▸ by simp)).cell 4
            have k5 := (HKv1.out.two.bx (cb, 26, c.vals) (HBs.out ▸ by simp)).cell 5
            simp only [Cfg.vals, List.getElem?_cons_zero, List.getElem?_cons_succ] at k0 k1 k2 k3 k4 k5
            have bb : ∀ o, o < 8 → v1.cell? ⟨ab, ao + i * 8 + o, none⟩ = a.cells[o]? := fun o ho => (HKv1.out.two.bel.cell (p := ⟨ab, ao + i * 8 + o, none⟩) HAL.out.1).trans (HAL.out.2 o ho)
            have a0 := bb 0 (by omega)
            have a1 := bb 1 (by omega)
            have a2 := bb 2 (by omega)
            have a3 := bb 3 (by omega)
            have a4 := bb 4 (by omega)
            have a5 := bb 5 (by omega)
            have a6 := bb 6 (by omega)
            have a7 := bb 7 (by omega)
            simp only [ActR.cells, List.getElem?_cons_zero, List.getElem?_cons_succ, Nat.add_zero] at a0 a1 a2 a3 a4 a5 a6 a7
            clear bb
            have hdo : ∀ u, Thr w u b b' bz bs X Y Z1 → Calls Tryd.prog 11 #[.pointer (some ⟨b', 0, none⟩), .agg #[.int .i64 c.sources, .int .i64 c.slack, .int .i64 c.policy, .int .i64 c.room, .int .i64 c.idle, .string c.pat], .agg #[.int .i64 a.d, .int .i64 a.s, .int .i64 a.n, .int .i64 a.E.src, .int .i64 a.E.seq, .int .i64 a.E.ts, .int .i64 a.E.kind, .int .i64 a.E.val]] u fun e w' => ∃ z X', e = .returned (.int .i64 z) ∧ DoneX Y (srcI c a) a z X' ∧ Thr w w' b b' bz bs X X' Z1 := fun u hu => by
              obtain ⟨N, R, hl⟩ := HLy.out
              refine (done_rel b' c Y R a u hu.two.my hl HAo.out (by rw [HNn.out]; omega)).mono ?_
              rintro e w' ⟨z, X', he, hD, hev⟩
              exact ⟨z, X', he, hD, hu.evoY hev⟩
            go_upto_region 23 with fail
            refine upTo_region (fun u : World => u.cell? ⟨cb, 0, none⟩ = some (.int .i64 c.sources) ∧ u.cell? ⟨cb, 1, none⟩ = some (.int .i64 c.slack) ∧ u.cell? ⟨cb, 2, none⟩ = some (.int .i64 c.policy) ∧ u.cell? ⟨cb, 3, none⟩ = some (.int .i64 c.room) ∧ u.cell? ⟨cb, 4, none⟩ = some (.int .i64 c.idle) ∧ u.cell? ⟨cb, 5, none⟩ = some (.string c.pat) ∧ u.cell? ⟨ab, ao + i * 8, none⟩ = some (.int .i64 a.d) ∧ u.cell? ⟨ab, ao + i * 8 + 1, none⟩ = some (.int .i64 a.s) ∧ u.cell? ⟨ab, ao + i * 8 + 2, none⟩ = some (.int .i64 a.n) ∧ u.cell? ⟨ab, ao + i * 8 + 3, none⟩ = some (.int .i64 a.E.src) ∧ u.cell? ⟨ab, ao + i * 8 + 4, none⟩ = some (.int .i64 a.E.seq) ∧ u.cell? ⟨ab, ao + i * 8 + 5, none⟩ = some (.int .i64 a.E.ts) ∧ u.cell? ⟨ab, ao + i * 8 + 6, none⟩ = some (.int .i64 a.E.kind) ∧ u.cell? ⟨ab, ao + i * 8 + 7, none⟩ = some (.int .i64 a.E.val)) 7 7 rfl (by kernel_rfl) ?_
            have hS0 : (fun u : World => u.cell? ⟨cb, 0, none⟩ = some (.int .i64 c.sources) ∧ u.cell? ⟨cb, 1, none⟩ = some (.int .i64 c.slack) ∧ u.cell? ⟨cb, 2, none⟩ = some (.int .i64 c.policy) ∧ u.cell? ⟨cb, 3, none⟩ = some (.int .i64 c.room) ∧ u.cell? ⟨cb, 4, none⟩ = some (.int .i64 c.idle) ∧ u.cell? ⟨cb, 5, none⟩ = some (.string c.pat) ∧ u.cell? ⟨ab, ao + i * 8, none⟩ = some (.int .i64 a.d) ∧ u.cell? ⟨ab, ao + i * 8 + 1, none⟩ = some (.int .i64 a.s) ∧ u.cell? ⟨ab, ao + i * 8 + 2, none⟩ = some (.int .i64 a.n) ∧ u.cell? ⟨ab, ao + i * 8 + 3, none⟩ = some (.int .i64 a.E.src) ∧ u.cell? ⟨ab, ao + i * 8 + 4, none⟩ = some (.int .i64 a.E.seq) ∧ u.cell? ⟨ab, ao + i * 8 + 5, none⟩ = some (.int .i64 a.E.ts) ∧ u.cell? ⟨ab, ao + i * 8 + 6, none⟩ = some (.int .i64 a.E.kind) ∧ u.cell? ⟨ab, ao + i * 8 + 7, none⟩ = some (.int .i64 a.E.val)) v1.drew := ⟨k0, k1, k2, k3, k4, k5, a0, a1, a2, a3, a4, a5, a6, a7⟩
            refine upTo_take2 (i := 0) (v := ?v28_0) rfl (by kernel_rfl) (by kernel_rfl) (by kernel_rfl) rfl (fun _ _ _ h => h) (by rfl) hS0 ?hy28_0 ?rest28_0
            case hy28_0 => (intro u hu; (try dsimp only at hu); go_simp; first | done | with_reducible rfl)
            (try simp only [Act.put, List.setIfInBounds_toArray, List.set_cons_zero, List.set_cons_succ, List.getElem_toArray, List.getElem_cons_succ, List.getElem_cons_zero])
            refine upTo_take2 (i := 1) (v := ?v28_1) rfl (by kernel_rfl) (by kernel_rfl) (by kernel_rfl) rfl (fun _ _ _ h => h) (by rfl) hS0 ?hy28_1 ?rest28_1
            case hy28_1 => (intro u hu; (try dsimp only at hu); go_simp; first | done | with_reducible rfl)
            (try simp only [Act.put, List.setIfInBounds_toArray, List.set_cons_zero, List.set_cons_succ, List.getElem_toArray, List.getElem_cons_succ, List.getElem_cons_zero])
            refine upTo_take2 (i := 2) (v := ?v28_2) rfl (by kernel_rfl) (by kernel_rfl) (by kernel_rfl) rfl (fun _ _ _ h => h) (by rfl) hS0 ?hy28_2 ?rest28_2
            case hy28_2 => (intro u hu; (try dsimp only at hu); go_simp; first | done | with_reducible rfl)
            (try simp only [Act.put, List.setIfInBounds_toArray, List.set_cons_zero, List.set_cons_succ, List.getElem_toArray, List.getElem_cons_succ, List.getElem_cons_zero])
            refine upTo_take2 (i := 3) (v := ?v28_3) rfl (by kernel_rfl) (by kernel_rfl) (by kernel_rfl) rfl (fun _ _ _ h => h) (by rfl) hS0 ?hy28_3 ?rest28_3
            case hy28_3 => (intro u hu; (try dsimp only at hu); go_simp; first | done | with_reducible rfl)
            (try simp only [Act.put, List.setIfInBounds_toArray, List.set_cons_zero, List.set_cons_succ, List.getElem_toArray, List.getElem_cons_succ, List.getElem_cons_zero])
            refine upTo_take2 (i := 4) (v := ?v28_4) rfl (by kernel_rfl) (by kernel_rfl) (by kernel_rfl) rfl (fun _ _ _ h => h) (by rfl) hS0 ?hy28_4 ?rest28_4
            case hy28_4 => (intro u hu; (try dsimp only at hu); go_simp; first | done | with_reducible rfl)
            (try simp only [Act.put, List.setIfInBounds_toArray, List.set_cons_zero, List.set_cons_succ, List.getElem_toArray, List.getElem_cons_succ, List.getElem_cons_zero])
            refine upTo_take2 (i := 5) (v := ?v28_5) rfl (by kernel_rfl) (by kernel_rfl) (by kernel_rfl) rfl (fun _ _ _ h => h) (by rfl) hS0 ?hy28_5 ?rest28_5
            case hy28_5 => (intro u hu; (try dsimp only at hu); go_simp; first | done | with_reducible rfl)
            (try simp only [Act.put, List.setIfInBounds_toArray, List.set_cons_zero, List.set_cons_succ, List.getElem_toArray, List.getElem_cons_succ, List.getElem_cons_zero])
            clear hS0 k0 k1 k2 k3 k4 k5 a0 a1 a2 a3 a4 a5 a6 a7
            refine upTo_one (i := 6) (by kernel_rfl) rfl (fun K hK => ?_)
            go_simp
            refine (hdo _ (HKv1.out.below ((Below.refl _ v1).drew))).mono ?_
            rintro e v2 ⟨zv2, Y1, rfl, hDv2, hkv2⟩
            have HKv2 : Hid (Thr w v2 b b' bz bs X Y1 Z1) := hkv2
            have HDv2 : Hid (DoneX Y (srcI c a) a zv2 Y1) := hDv2
            clear hkv2 hDv2 hdo
            have k0 := (HKv2.out.two.bx (cb, 26, c.vals) (HBs.out ▸ by simp)).cell 0
            have k1 := (HKv2.out.two.bx (cb, 26, c.vals) (HBs.out ▸ by simp)).cell 1
            have k2 := (HKv2.out.two.bx (cb, 26, c.vals) (HBs.out ▸ by simp)).cell 2
            have k3 := (HKv2.out.two.bx (cb, 26, c.vals) (HBs.out ▸ by simp)).cell 3
            have k4 := (HKv2.out.two.bx (cb, 26, c.vals) (HBs.out ▸ by simp)).cell 4
            have k5 := (HKv2.out.two.bx (cb, 26, c.vals) (HBs.out ▸ by simp)).cell 5
            simp only [Cfg.vals, List.getElem?_cons_zero, List.getElem?_cons_succ] at k0 k1 k2 k3 k4 k5
            have bb : ∀ o, o < 8 → v2.cell? ⟨ab, ao + i * 8 + o, none⟩ = a.cells[o]? := fun o ho => (HKv2.out.two.bel.cell (p := ⟨ab, ao + i * 8 + o, none⟩) HAL.out.1).trans (HAL.out.2 o ho)
            have a0 := bb 0 (by omega)
            have a1 := bb 1 (by omega)
            have a2 := bb 2 (by omega)
            have a3 := bb 3 (by omega)
            have a4 := bb 4 (by omega)
            have a5 := bb 5 (by omega)
            have a6 := bb 6 (by omega)
            have a7 := bb 7 (by omega)
            simp only [ActR.cells, List.getElem?_cons_zero, List.getElem?_cons_succ, Nat.add_zero] at a0 a1 a2 a3 a4 a5 a6 a7
            clear bb
            refine hK.out _ _ (fun _ => ⟨k0, k1, k2, k3, k4, k5, a0, a1, a2, a3, a4, a5, a6, a7⟩) ?_
            clear hK K
            (try simp only [Act.put, List.setIfInBounds_toArray, List.set_cons_zero, List.set_cons_succ, List.getElem_toArray, List.getElem_cons_succ, List.getElem_cons_zero])
            refine upTo_done (by kernel_rfl) ?_
            clear k0 k1 k2 k3 k4 k5 a0 a1 a2 a3 a4 a5 a6 a7
            have HRn : Hid (RunA c (acts.take (i + 1)) Y0 Y1) := by show RunA _ _ _ _; rw [HTk.out]; exact runA_snoc HRa.out HDv2.out
            have HLy1 : Hid (∃ N R, Like N Y1 R) := by
              obtain ⟨N, R, hl⟩ := HLy.out
              obtain ⟨M, R', hl'⟩ := doneX_like hl HDv2.out
              exact ⟨M, R', hl'⟩
            go_wp2
            go_roundw
            case rel => first | exact ⟨i + 1, Y1, Z1, Or.inl (by omega), by go_num, HKv2.out, HRn.out, HLy1.out, HLz1.out⟩ | ((repeat apply Exists.intro); exact ⟨⟨i + 1, Y1, Z1, Or.inl (by omega), by go_num, HKv2.out, HRn.out, HLy1.out, HLz1.out⟩, rfl⟩)
            case measure => simp [intOf]; omega
          · have hla' : ¬ (i : Int) < (acts.length : Int) := by omega
            have hdo : ∀ u, Thr w u b b' bz bs X Y Z → Calls Tryd.prog 11 #[.pointer (some ⟨bz, 0, none⟩), .agg #[.int .i64 cz.sources, .int .i64 cz.slack, .int .i64 cz.policy, .int .i64 cz.room, .int .i64 cz.idle, .string cz.pat], .agg #[.int .i64 a.d, .int .i64 a.s, .int .i64 a.n, .int .i64 a.E.src, .int .i64 a.E.seq, .int .i64 a.E.ts, .int .i64 a.E.kind, .int .i64 a.E.val]] u fun e w' => ∃ z X', e = .returned (.int .i64 z) ∧ DoneX Z (srcI cz a) a z X' ∧ Thr w w' b b' bz bs X Y X' := fun u hu => by
              obtain ⟨N, R, hl⟩ := HLz.out
              refine (done_rel bz cz Z R a u hu.mz hl HAo.out (by rw [HNz.out]; omega)).mono ?_
              rintro e w' ⟨z, X', he, hD, hev⟩
              exact ⟨z, X', he, hD, hu.evoZ hev⟩
            go_upto_region 21 with fail
            refine upTo_region (fun u : World => u.cell? ⟨zb, 0, none⟩ = some (.int .i64 cz.sources) ∧ u.cell? ⟨zb, 1, none⟩ = some (.int .i64 cz.slack) ∧ u.cell? ⟨zb, 2, none⟩ = some (.int .i64 cz.policy) ∧ u.cell? ⟨zb, 3, none⟩ = some (.int .i64 cz.room) ∧ u.cell? ⟨zb, 4, none⟩ = some (.int .i64 cz.idle) ∧ u.cell? ⟨zb, 5, none⟩ = some (.string cz.pat) ∧ u.cell? ⟨ab, ao + i * 8, none⟩ = some (.int .i64 a.d) ∧ u.cell? ⟨ab, ao + i * 8 + 1, none⟩ = some (.int .i64 a.s) ∧ u.cell? ⟨ab, ao + i * 8 + 2, none⟩ = some (.int .i64 a.n) ∧ u.cell? ⟨ab, ao + i * 8 + 3, none⟩ = some (.int .i64 a.E.src) ∧ u.cell? ⟨ab, ao + i * 8 + 4, none⟩ = some (.int .i64 a.E.seq) ∧ u.cell? ⟨ab, ao + i * 8 + 5, none⟩ = some (.int .i64 a.E.ts) ∧ u.cell? ⟨ab, ao + i * 8 + 6, none⟩ = some (.int .i64 a.E.kind) ∧ u.cell? ⟨ab, ao + i * 8 + 7, none⟩ = some (.int .i64 a.E.val)) 7 7 rfl (by kernel_rfl) ?_
            have hS0 : (fun u : World => u.cell? ⟨zb, 0, none⟩ = some (.int .i64 cz.sources) ∧ u.cell? ⟨zb, 1, none⟩ = some (.int .i64 cz.slack) ∧ u.cell? ⟨zb, 2, none⟩ = some (.int .i64 cz.policy) ∧ u.cell? ⟨zb, 3, none⟩ = some (.int .i64 cz.room) ∧ u.cell? ⟨zb, 4, none⟩ = some (.int .i64 cz.idle) ∧ u.cell? ⟨zb, 5, none⟩ = some (.string cz.pat) ∧ u.cell? ⟨ab, ao + i * 8, none⟩ = some (.int .i64 a.d) ∧ u.cell? ⟨ab, ao + i * 8 + 1, none⟩ = some (.int .i64 a.s) ∧ u.cell? ⟨ab, ao + i * 8 + 2, none⟩ = some (.int .i64 a.n) ∧ u.cell? ⟨ab, ao + i * 8 + 3, none⟩ = some (.int .i64 a.E.src) ∧ u.cell? ⟨ab, ao + i * 8 + 4, none⟩ = some (.int .i64 a.E.seq) ∧ u.cell? ⟨ab, ao + i * 8 + 5, none⟩ = some (.int .i64 a.E.ts) ∧ u.cell? ⟨ab, ao + i * 8 + 6, none⟩ = some (.int .i64 a.E.kind) ∧ u.cell? ⟨ab, ao + i * 8 + 7, none⟩ = some (.int .i64 a.E.val)) wr.drew := ⟨m0, m1, m2, m3, m4, m5, a0, a1, a2, a3, a4, a5, a6, a7⟩
            refine upTo_take2 (i := 0) (v := ?v29_0) rfl (by kernel_rfl) (by kernel_rfl) (by kernel_rfl) rfl (fun _ _ _ h => h) (by rfl) hS0 ?hy29_0 ?rest29_0
            case hy29_0 => (intro u hu; (try dsimp only at hu); go_simp; first | done | with_reducible rfl)
            (try simp only [Act.put, List.setIfInBounds_toArray, List.set_cons_zero, List.set_cons_succ, List.getElem_toArray, List.getElem_cons_succ, List.getElem_cons_zero])
            refine upTo_take2 (i := 1) (v := ?v29_1) rfl (by kernel_rfl) (by kernel_rfl) (by kernel_rfl) rfl (fun _ _ _ h => h) (by rfl) hS0 ?hy29_1 ?rest29_1
            case hy29_1 => (intro u hu; (try dsimp only at hu); go_simp; first | done | with_reducible rfl)
            (try simp only [Act.put, List.setIfInBounds_toArray, List.set_cons_zero, List.set_cons_succ, List.getElem_toArray, List.getElem_cons_succ, List.getElem_cons_zero])
            refine upTo_take2 (i := 2) (v := ?v29_2) rfl (by kernel_rfl) (by kernel_rfl) (by kernel_rfl) rfl (fun _ _ _ h => h) (by rfl) hS0 ?hy29_2 ?rest29_2
            case hy29_2 => (intro u hu; (try dsimp only at hu); go_simp; first | done | with_reducible rfl)
            (try simp only [Act.put, List.setIfInBounds_toArray, List.set_cons_zero, List.set_cons_succ, List.getElem_toArray, List.getElem_cons_succ, List.getElem_cons_zero])
            refine upTo_take2 (i := 3) (v := ?v29_3) rfl (by kernel_rfl) (by kernel_rfl) (by kernel_rfl) rfl (fun _ _ _ h => h) (by rfl) hS0 ?hy29_3 ?rest29_3
            case hy29_3 => (intro u hu; (try dsimp only at hu); go_simp; first | done | with_reducible rfl)
            (try simp only [Act.put, List.setIfInBounds_toArray, List.set_cons_zero, List.set_cons_succ, List.getElem_toArray, List.getElem_cons_succ, List.getElem_cons_zero])
            refine upTo_take2 (i := 4) (v := ?v29_4) rfl (by kernel_rfl) (by kernel_rfl) (by kernel_rfl) rfl (fun _ _ _ h => h) (by rfl) hS0 ?hy29_4 ?rest29_4
            case hy29_4 => (intro u hu; (try dsimp only at hu); go_simp; first | done | with_reducible rfl)
            (try simp only [Act.put, List.setIfInBounds_toArray, List.set_cons_zero, List.set_cons_succ, List.getElem_toArray, List.getElem_cons_succ, List.getElem_cons_zero])
            refine upTo_take2 (i := 5) (v := ?v29_5) rfl (by kernel_rfl) (by kernel_rfl) (by kernel_rfl) rfl (fun _ _ _ h => h) (by rfl) hS0 ?hy29_5 ?rest29_5
            case hy29_5 => (intro u hu; (try dsimp only at hu); go_simp; first | done | with_reducible rfl)
            (try simp only [Act.put, List.setIfInBounds_toArray, List.set_cons_zero, List.set_cons_succ, List.getElem_toArray, List.getElem_cons_succ, List.getElem_cons_zero])
            clear hS0 m0 m1 m2 m3 m4 m5 a0 a1 a2 a3 a4 a5 a6 a7
            refine upTo_one (i := 6) (by kernel_rfl) rfl (fun K hK => ?_)
            go_simp
            refine (hdo _ (HK.out.below ((Below.refl _ wr).drew))).mono ?_
            rintro e v1 ⟨zv1, Z1, rfl, hDv1, hkv1⟩
            have HKv1 : Hid (Thr w v1 b b' bz bs X Y Z1) := hkv1
            have HDv1 : Hid (DoneX Z (srcI cz a) a zv1 Z1) := hDv1
            clear hkv1 hDv1 hdo
            have m0 := (HKv1.out.two.bx (zb, 26, cz.vals) (HBs.out ▸ by simp)).cell 0
            have m1 := (HKv1.out.two.bx (zb, 26, cz.vals) (HBs.out ▸ by simp)).cell 1
            have m2 := (HKv1.out.two.bx (zb, 26, cz.vals) (HBs.out ▸ by simp)).cell 2
            have m3 := (HKv1.out.two.bx (zb, 26, cz.vals) (HBs.out ▸ by simp)).cell 3
            have m4 := (HKv1.out.two.bx (zb, 26, cz.vals) (HBs.out ▸ by simp)).cell 4
            have m5 := (HKv1.out.two.bx (zb, 26, cz.vals) (HBs.out ▸ by simp)).cell 5
            simp only [Cfg.vals, List.getElem?_cons_zero, List.getElem?_cons_succ] at m0 m1 m2 m3 m4 m5
            have bb : ∀ o, o < 8 → v1.cell? ⟨ab, ao + i * 8 + o, none⟩ = a.cells[o]? := fun o ho => (HKv1.out.two.bel.cell (p := ⟨ab, ao + i * 8 + o, none⟩) HAL.out.1).trans (HAL.out.2 o ho)
            have a0 := bb 0 (by omega)
            have a1 := bb 1 (by omega)
            have a2 := bb 2 (by omega)
            have a3 := bb 3 (by omega)
            have a4 := bb 4 (by omega)
            have a5 := bb 5 (by omega)
            have a6 := bb 6 (by omega)
            have a7 := bb 7 (by omega)
            simp only [ActR.cells, List.getElem?_cons_zero, List.getElem?_cons_succ, Nat.add_zero] at a0 a1 a2 a3 a4 a5 a6 a7
            clear bb
            refine hK.out _ _ (fun _ => ⟨m0, m1, m2, m3, m4, m5, a0, a1, a2, a3, a4, a5, a6, a7⟩) ?_
            clear hK K
            (try simp only [Act.put, List.setIfInBounds_toArray, List.set_cons_zero, List.set_cons_succ, List.getElem_toArray, List.getElem_cons_succ, List.getElem_cons_zero])
            refine upTo_done (by kernel_rfl) ?_
            clear m0 m1 m2 m3 m4 m5 a0 a1 a2 a3 a4 a5 a6 a7
            have HLz1 : Hid (∃ N R, Like N Z1 R) := by
              obtain ⟨N, R, hl⟩ := HLz.out
              obtain ⟨M, R', hl'⟩ := doneX_like hl HDv1.out
              exact ⟨M, R', hl'⟩
            have HRn : Hid (RunA c (acts.take (i + 1)) Y0 Y) := by have h := HRa.out; rw [List.take_of_length_le (by omega)] at h; show RunA _ _ _ _; rw [List.take_of_length_le (by omega)]; exact h
            go_wp2
            go_roundw
            case rel => first | exact ⟨i + 1, Y, Z1, Or.inr (by omega), by go_num, HKv1.out, HRn.out, HLy.out, HLz1.out⟩ | ((repeat apply Exists.intro); exact ⟨⟨i + 1, Y, Z1, Or.inr (by omega), by go_num, HKv1.out, HRn.out, HLy.out, HLz1.out⟩, rfl⟩)
            case measure => simp [intOf]; omega
        · have hlo' : ¬ (i : Int) < (others.length : Int) := by omega
          by_cases hla : i < acts.length
          · have hla' : (i : Int) < (acts.length : Int) := by omega
            have hle := hla
            have hi00 : (0 : Int) ≤ (i : Int) := by omega
            obtain ⟨hao, ab, ao, hsab, hal, hac⟩ := HSA.out i hle
            obtain ⟨a, HAa⟩ := hex acts[i]
            rw [← HAa.out] at hao hac
            have HAo : Hid a.ok := hao
            have HAL : Hid (ab < w.heap.size ∧ ∀ o, o < 8 → w.cell? ⟨ab, ao + i * 8 + o, none⟩ = a.cells[o]?) := ⟨hal, hac⟩
            clear hac hao hal
            have HTk : Hid (acts.take (i + 1) = acts.take i ++ [a]) := by show _ = _; rw [HAa.out]; exact List.take_succ_eq_append_getElem hle
            subst hsab
            clear HAa hle
            have k0 := (HK.out.two.bx (cb, 26, c.vals) (HBs.out ▸ by simp)).cell 0
            have k1 := (HK.out.two.bx (cb, 26, c.vals) (HBs.out ▸ by simp)).cell 1
            have k2 := (HK.out.two.bx (cb, 26, c.vals) (HBs.out ▸ by simp)).cell 2
            have k3 := (HK.out.two.bx (cb, 26, c.vals) (HBs.out ▸ by simp)).cell 3
            have k4 := (HK.out.two.bx (cb, 26, c.vals) (HBs.out ▸ by simp)).cell 4
            have k5 := (HK.out.two.bx (cb, 26, c.vals) (HBs.out ▸ by simp)).cell 5
            simp only [Cfg.vals, List.getElem?_cons_zero, List.getElem?_cons_succ] at k0 k1 k2 k3 k4 k5
            have bb : ∀ o, o < 8 → wr.cell? ⟨ab, ao + i * 8 + o, none⟩ = a.cells[o]? := fun o ho => (HK.out.two.bel.cell (p := ⟨ab, ao + i * 8 + o, none⟩) HAL.out.1).trans (HAL.out.2 o ho)
            have a0 := bb 0 (by omega)
            have a1 := bb 1 (by omega)
            have a2 := bb 2 (by omega)
            have a3 := bb 3 (by omega)
            have a4 := bb 4 (by omega)
            have a5 := bb 5 (by omega)
            have a6 := bb 6 (by omega)
            have a7 := bb 7 (by omega)
            simp only [ActR.cells, List.getElem?_cons_zero, List.getElem?_cons_succ, Nat.add_zero] at a0 a1 a2 a3 a4 a5 a6 a7
            clear bb
            have hdo : ∀ u, Thr w u b b' bz bs X Y Z → Calls Tryd.prog 11 #[.pointer (some ⟨b', 0, none⟩), .agg #[.int .i64 c.sources, .int .i64 c.slack, .int .i64 c.policy, .int .i64 c.room, .int .i64 c.idle, .string c.pat], .agg #[.int .i64 a.d, .int .i64 a.s, .int .i64 a.n, .int .i64 a.E.src, .int .i64 a.E.seq, .int .i64 a.E.ts, .int .i64 a.E.kind, .int .i64 a.E.val]] u fun e w' => ∃ z X', e = .returned (.int .i64 z) ∧ DoneX Y (srcI c a) a z X' ∧ Thr w w' b b' bz bs X X' Z := fun u hu => by
              obtain ⟨N, R, hl⟩ := HLy.out
              refine (done_rel b' c Y R a u hu.two.my hl HAo.out (by rw [HNn.out]; omega)).mono ?_
              rintro e w' ⟨z, X', he, hD, hev⟩
              exact ⟨z, X', he, hD, hu.evoY hev⟩
            go_upto_region 23 with fail
            refine upTo_region (fun u : World => u.cell? ⟨cb, 0, none⟩ = some (.int .i64 c.sources) ∧ u.cell? ⟨cb, 1, none⟩ = some (.int .i64 c.slack) ∧ u.cell? ⟨cb, 2, none⟩ = some (.int .i64 c.policy) ∧ u.cell? ⟨cb, 3, none⟩ = some (.int .i64 c.room) ∧ u.cell? ⟨cb, 4, none⟩ = some (.int .i64 c.idle) ∧ u.cell? ⟨cb, 5, none⟩ = some (.string c.pat) ∧ u.cell? ⟨ab, ao + i * 8, none⟩ = some (.int .i64 a.d) ∧ u.cell? ⟨ab, ao + i * 8 + 1, none⟩ = some (.int .i64 a.s) ∧ u.cell? ⟨ab, ao + i * 8 + 2, none⟩ = some (.int .i64 a.n) ∧ u.cell? ⟨ab, ao + i * 8 + 3, none⟩ = some (.int .i64 a.E.src) ∧ u.cell? ⟨ab, ao + i * 8 + 4, none⟩ = some (.int .i64 a.E.seq) ∧ u.cell? ⟨ab, ao + i * 8 + 5, none⟩ = some (.int .i64 a.E.ts) ∧ u.cell? ⟨ab, ao + i * 8 + 6, none⟩ = some (.int .i64 a.E.kind) ∧ u.cell? ⟨ab, ao + i * 8 + 7, none⟩ = some (.int .i64 a.E.val)) 7 7 rfl (by kernel_rfl) ?_
            have hS0 : (fun u : World => u.cell? ⟨cb, 0, none⟩ = some (.int .i64 c.sources) ∧ u.cell? ⟨cb, 1, none⟩ = some (.int .i64 c.slack) ∧ u.cell? ⟨cb, 2, none⟩ = some (.int .i64 c.policy) ∧ u.cell? ⟨cb, 3, none⟩ = some (.int .i64 c.room) ∧ u.cell? ⟨cb, 4, none⟩ = some (.int .i64 c.idle) ∧ u.cell? ⟨cb, 5, none⟩ = some (.string c.pat) ∧ u.cell? ⟨ab, ao + i * 8, none⟩ = some (.int .i64 a.d) ∧ u.cell? ⟨ab, ao + i * 8 + 1, none⟩ = some (.int .i64 a.s) ∧ u.cell? ⟨ab, ao + i * 8 + 2, none⟩ = some (.int .i64 a.n) ∧ u.cell? ⟨ab, ao + i * 8 + 3, none⟩ = some (.int .i64 a.E.src) ∧ u.cell? ⟨ab, ao + i * 8 + 4, none⟩ = some (.int .i64 a.E.seq) ∧ u.cell? ⟨ab, ao + i * 8 + 5, none⟩ = some (.int .i64 a.E.ts) ∧ u.cell? ⟨ab, ao + i * 8 + 6, none⟩ = some (.int .i64 a.E.kind) ∧ u.cell? ⟨ab, ao + i * 8 + 7, none⟩ = some (.int .i64 a.E.val)) wr.drew := ⟨k0, k1, k2, k3, k4, k5, a0, a1, a2, a3, a4, a5, a6, a7⟩
            refine upTo_take2 (i := 0) (v := ?v30_0) rfl (by kernel_rfl) (by kernel_rfl) (by kernel_rfl) rfl (fun _ _ _ h => h) (by rfl) hS0 ?hy30_0 ?rest30_0
            case hy30_0 => (intro u hu; (try dsimp only at hu); go_simp; first | done | with_reducible rfl)
            (try simp only [Act.put, List.setIfInBounds_toArray, List.set_cons_zero, List.set_cons_succ, List.getElem_toArray, List.getElem_cons_succ, List.getElem_cons_zero])
            refine upTo_take2 (i := 1) (v := ?v30_1) rfl (by kernel_rfl) (by kernel_rfl) (by kernel_rfl) rfl (fun _ _ _ h => h) (by rfl) hS0 ?hy30_1 ?rest30_1
            case hy30_1 => (intro u hu; (try dsimp only at hu); go_simp; first | done | with_reducible rfl)
            (try simp only [Act.put, List.setIfInBounds_toArray, List.set_cons_zero, List.set_cons_succ, List.getElem_toArray, List.getElem_cons_succ, List.getElem_cons_zero])
            refine upTo_take2 (i := 2) (v := ?v30_2) rfl (by kernel_rfl) (by kernel_rfl) (by kernel_rfl) rfl (fun _ _ _ h => h) (by rfl) hS0 ?hy30_2 ?rest30_2
            case hy30_2 => (intro u hu; (try dsimp only at hu); go_simp; first | done | with_reducible rfl)
            (try simp only [Act.put, List.setIfInBounds_toArray, List.set_cons_zero, List.set_cons_succ, List.getElem_toArray, List.getElem_cons_succ, List.getElem_cons_zero])
            refine upTo_take2 (i := 3) (v := ?v30_3) rfl (by kernel_rfl) (by kernel_rfl) (by kernel_rfl) rfl (fun _ _ _ h => h) (by rfl) hS0 ?hy30_3 ?rest30_3
            case hy30_3 => (intro u hu; (try dsimp only at hu); go_simp; first | done | with_reducible rfl)
            (try simp only [Act.put, List.setIfInBounds_toArray, List.set_cons_zero, List.set_cons_succ, List.getElem_toArray, List.getElem_cons_succ, List.getElem_cons_zero])
            refine upTo_take2 (i := 4) (v := ?v30_4) rfl (by kernel_rfl) (by kernel_rfl) (by kernel_rfl) rfl (fun _ _ _ h => h) (by rfl) hS0 ?hy30_4 ?rest30_4
            case hy30_4 => (intro u hu; (try dsimp only at hu); go_simp; first | done | with_reducible rfl)
            (try simp only [Act.put, List.setIfInBounds_toArray, List.set_cons_zero, List.set_cons_succ, List.getElem_toArray, List.getElem_cons_succ, List.getElem_cons_zero])
            refine upTo_take2 (i := 5) (v := ?v30_5) rfl (by kernel_rfl) (by kernel_rfl) (by kernel_rfl) rfl (fun _ _ _ h => h) (by rfl) hS0 ?hy30_5 ?rest30_5
            case hy30_5 => (intro u hu; (try dsimp only at hu); go_simp; first | done | with_reducible rfl)
            (try simp only [Act.put, List.setIfInBounds_toArray, List.set_cons_zero, List.set_cons_succ, List.getElem_toArray, List.getElem_cons_succ, List.getElem_cons_zero])
            clear hS0 k0 k1 k2 k3 k4 k5 a0 a1 a2 a3 a4 a5 a6 a7
            refine upTo_one (i := 6) (by kernel_rfl) rfl (fun K hK => ?_)
            go_simp
            refine (hdo _ (HK.out.below ((Below.refl _ wr).drew))).mono ?_
            rintro e v2 ⟨zv2, Y1, rfl, hDv2, hkv2⟩
            have HKv2 : Hid (Thr w v2 b b' bz bs X Y1 Z) := hkv2
            have HDv2 : Hid (DoneX Y (srcI c a) a zv2 Y1) := hDv2
            clear hkv2 hDv2 hdo
            have k0 := (HKv2.out.two.bx (cb, 26, c.vals) (HBs.out ▸ by simp)).cell 0
            have k1 := (HKv2.out.two.bx (cb, 26, c.vals) (HBs.out ▸ by simp)).cell 1
            have k2 := (HKv2.out.two.bx (cb, 26, c.vals) (HBs.out ▸ by simp)).cell 2
            have k3 := (HKv2.out.two.bx (cb, 26, c.vals) (HBs.out ▸ by simp)).cell 3
            have k4 := (HKv2.out.two.bx (cb, 26, c.vals) (HBs.out ▸ by simp)).cell 4
            have k5 := (HKv2.out.two.bx (cb, 26, c.vals) (HBs.out ▸ by simp)).cell 5
            simp only [Cfg.vals, List.getElem?_cons_zero, List.getElem?_cons_succ] at k0 k1 k2 k3 k4 k5
            have bb : ∀ o, o < 8 → v2.cell? ⟨ab, ao + i * 8 + o, none⟩ = a.cells[o]? := fun o ho => (HKv2.out.two.bel.cell (p := ⟨ab, ao + i * 8 + o, none⟩) HAL.out.1).trans (HAL.out.2 o ho)
            have a0 := bb 0 (by omega)
            have a1 := bb 1 (by omega)
            have a2 := bb 2 (by omega)
            have a3 := bb 3 (by omega)
            have a4 := bb 4 (by omega)
            have a5 := bb 5 (by omega)
            have a6 := bb 6 (by omega)
            have a7 := bb 7 (by omega)
            simp only [ActR.cells, List.getElem?_cons_zero, List.getElem?_cons_succ, Nat.add_zero] at a0 a1 a2 a3 a4 a5 a6 a7
            clear bb
            refine hK.out _ _ (fun _ => ⟨k0, k1, k2, k3, k4, k5, a0, a1, a2, a3, a4, a5, a6, a7⟩) ?_
            clear hK K
            (try simp only [Act.put, List.setIfInBounds_toArray, List.set_cons_zero, List.set_cons_succ, List.getElem_toArray, List.getElem_cons_succ, List.getElem_cons_zero])
            refine upTo_done (by kernel_rfl) ?_
            clear k0 k1 k2 k3 k4 k5 a0 a1 a2 a3 a4 a5 a6 a7
            have HRn : Hid (RunA c (acts.take (i + 1)) Y0 Y1) := by show RunA _ _ _ _; rw [HTk.out]; exact runA_snoc HRa.out HDv2.out
            have HLy1 : Hid (∃ N R, Like N Y1 R) := by
              obtain ⟨N, R, hl⟩ := HLy.out
              obtain ⟨M, R', hl'⟩ := doneX_like hl HDv2.out
              exact ⟨M, R', hl'⟩
            go_wp2
            go_roundw
            case rel => first | exact ⟨i + 1, Y1, Z, Or.inl (by omega), by go_num, HKv2.out, HRn.out, HLy1.out, HLz.out⟩ | ((repeat apply Exists.intro); exact ⟨⟨i + 1, Y1, Z, Or.inl (by omega), by go_num, HKv2.out, HRn.out, HLy1.out, HLz.out⟩, rfl⟩)
            case measure => simp [intOf]; omega
          · have hla' : ¬ (i : Int) < (acts.length : Int) := by omega
            have HRy : Hid (RunA c acts Y0 Y) := by have := HRa.out; rw [List.take_of_length_le (by omega)] at this; exact this
            clear HRa hi
            have HT7 : Hid (Twin (fun _ => True) X Y) := twin_runA HT0.out HRx.out HRy.out
            have hlX : X.srcs.length = n := by obtain ⟨h, _⟩ := HLen.out; exact (runA_grow HRx.out).n.trans h
            have hlY : Y.srcs.length = n := by obtain ⟨_, h⟩ := HLen.out; exact (runA_grow HRy.out).n.trans h
            have HXY : Hid (X.srcs.length = n ∧ Y.srcs.length = n) := ⟨hlX, hlY⟩
            clear hlX hlY
            have hal : ∀ u X Y, Thr w u b b' bz bs X Y Z → Twin (fun _ => True) X Y → Calls Tryd.prog 21 #[.pointer (some ⟨b, 0, none⟩), .pointer (some ⟨b', 0, none⟩), .int .i64 c.sources] u fun e w' => e = .returned (.bool true) ∧ Thr w w' b b' bz bs X Y Z := fun u X Y hu ht => by
              rw [HNn.out]
              exact (alike_true b b' n X Y u hu.two.mx hu.two.my ht hn6.2).mono fun e w' ⟨he, hb⟩ => ⟨he, hu.below hb⟩
            have k0 := (HK.out.two.bx (cb, 26, c.vals) (HBs.out ▸ by simp)).cell 0
            simp only [Cfg.vals, List.getElem?_cons_zero] at k0
            go_upto_region 25 with (go_at_call 21; refine (hal _ X Y HK.out HT7.out).mono ?_; rintro e u1 ⟨rfl, hu1⟩)
            have HU1 : Hid (Thr w u1 b b' bz bs X Y Z) := hu1
            clear hu1 k0 HK
            have k0 := (HU1.out.two.bx (cb, 26, c.vals) (HBs.out ▸ by simp)).cell 0
            have k1 := (HU1.out.two.bx (cb, 26, c.vals) (HBs.out ▸ by simp)).cell 1
            have k2 := (HU1.out.two.bx (cb, 26, c.vals) (HBs.out ▸ by simp)).cell 2
            have k3 := (HU1.out.two.bx (cb, 26, c.vals) (HBs.out ▸ by simp)).cell 3
            have k4 := (HU1.out.two.bx (cb, 26, c.vals) (HBs.out ▸ by simp)).cell 4
            have k5 := (HU1.out.two.bx (cb, 26, c.vals) (HBs.out ▸ by simp)).cell 5
            simp only [Cfg.vals, List.getElem?_cons_zero, List.getElem?_cons_succ] at k0 k1 k2 k3 k4 k5
            have hlx : Calls Tryd.prog 13 #[.pointer (some ⟨b, 0, none⟩), .agg #[.int .i64 c.sources, .int .i64 c.slack, .int .i64 c.policy, .int .i64 c.room, .int .i64 c.idle, .string c.pat]] u1 fun e w' => e = .returned (.bool true) ∧ ∃ X', RunL n X X' ∧ (∃ N R, Like N X' R) ∧ Thr w w' b b' bz bs X' Y Z := by
              refine (left_run b n c X u1 HU1.out.two.mx HLk.out HXY.out.1 HNn.out hn6.2).mono ?_
              rintro e w' ⟨he, X', h1, h2, h3, hev⟩
              exact ⟨he, X', h1, h2, HU1.out.evoX hev⟩
            go_upto_region 26 with (go_at_call 13; refine hlx.mono ?_; rintro e u2 ⟨rfl, X2, hr2, hl2, hu2⟩)
            have HU2 : Hid (Thr w u2 b b' bz bs X2 Y Z) := hu2
            have HL2 : Hid (RunL n X X2 ∧ (∃ N R, Like N X2 R)) := ⟨hr2, hl2⟩
            clear hu2 hr2 hl2 hlx k0 k1 k2 k3 k4 k5
            have k0 := (HU2.out.two.bx (cb, 26, c.vals) (HBs.out ▸ by simp)).cell 0
            have k1 := (HU2.out.two.bx (cb, 26, c.vals) (HBs.out ▸ by simp)).cell 1
            have k2 := (HU2.out.two.bx (cb, 26, c.vals) (HBs.out ▸ by simp)).cell 2
            have k3 := (HU2.out.two.bx (cb, 26, c.vals) (HBs.out ▸ by simp)).cell 3
            have k4 := (HU2.out.two.bx (cb, 26, c.vals) (HBs.out ▸ by simp)).cell 4
            have k5 := (HU2.out.two.bx (cb, 26, c.vals) (HBs.out ▸ by simp)).cell 5
            simp only [Cfg.vals, List.getElem?_cons_zero, List.getElem?_cons_succ] at k0 k1 k2 k3 k4 k5
            have hly : Calls Tryd.prog 13 #[.pointer (some ⟨b', 0, none⟩), .agg #[.int .i64 c.sources, .int .i64 c.slack, .int .i64 c.policy, .int .i64 c.room, .int .i64 c.idle, .string c.pat]] u2 fun e w' => e = .returned (.bool true) ∧ ∃ Y', RunL n Y Y' ∧ Thr w w' b b' bz bs X2 Y' Z := by
              refine (left_run b' n c Y u2 HU2.out.two.my HLy.out HXY.out.2 HNn.out hn6.2).mono ?_
              rintro e w' ⟨he, X', h1, h2, h3, hev⟩
              exact ⟨he, X', h1, HU2.out.evoY hev⟩
            go_upto_region 27 with (go_at_call 13; refine hly.mono ?_; rintro e u3 ⟨rfl, Y2, hr3, hu3⟩)
            have HU3 : Hid (Thr w u3 b b' bz bs X2 Y2 Z) := hu3
            have HT8 : Hid (Twin (fun _ => True) X2 Y2) := twin_runL HT7.out HL2.out.1 hr3
            clear hu3 hr3 hly k0 k1 k2 k3 k4 k5
            have k0 := (HU3.out.two.bx (cb, 26, c.vals) (HBs.out ▸ by simp)).cell 0
            simp only [Cfg.vals, List.getElem?_cons_zero] at k0
            go_upto_region 28 with (go_at_call 21; refine (hal _ X2 Y2 HU3.out HT8.out).mono ?_; rintro e u4 ⟨rfl, hu4⟩)
            have HU4 : Hid (Thr w u4 b b' bz bs X2 Y2 Z) := hu4
            clear hu4 k0 hal
            have hma : Calls Tryd.prog 22 #[.pointer (some ⟨b, 0, none⟩), .pointer (some ⟨b', 0, none⟩)] u4 fun e w' => e = .returned (.bool true) ∧ Below u4.heap.size u4 w' := by
              obtain ⟨⟨N, R, h1, h2⟩, _⟩ := HT8.out
              have hc : Y2.c = X2.c := h2.sim.c.trans h1.sim.c.symm
              refine matches_true b b' X2 Y2 u4 HU4.out.two.mx HU4.out.two.my ?_ h1.sane.log (like_ts h1) (by rw [hc]) (twin_log HT8.out).symm
              rw [(runL_grow HL2.out.1).c, (runA_grow HRx.out).c, HX0c.out]
              exact HP3.out
            go_upto_region 29 with (go_at_call 22; refine hma.mono ?_; rintro e u5 ⟨rfl, hb5⟩)
            have HU5 : Hid (Thr w u5 b b' bz bs X2 Y2 Z) := HU4.out.below hb5
            clear hma hb5
            have k0 := (HU5.out.two.bx (cb, 26, c.vals) (HBs.out ▸ by simp)).cell 0
            have k1 := (HU5.out.two.bx (cb, 26, c.vals) (HBs.out ▸ by simp)).cell 1
            have k2 := (HU5.out.two.bx (cb, 26, c.vals) (HBs.out ▸ by simp)).cell 2
            have k3 := (HU5.out.two.bx (cb, 26, c.vals) (HBs.out ▸ by simp)).cell 3
            have k4 := (HU5.out.two.bx (cb, 26, c.vals) (HBs.out ▸ by simp)).cell 4
            have k5 := (HU5.out.two.bx (cb, 26, c.vals) (HBs.out ▸ by simp)).cell 5
            simp only [Cfg.vals, List.getElem?_cons_zero, List.getElem?_cons_succ] at k0 k1 k2 k3 k4 k5
            have m0 := (HU5.out.two.bx (zb, 26, cz.vals) (HBs.out ▸ by simp)).cell 0
            have m1 := (HU5.out.two.bx (zb, 26, cz.vals) (HBs.out ▸ by simp)).cell 1
            have m2 := (HU5.out.two.bx (zb, 26, cz.vals) (HBs.out ▸ by simp)).cell 2
            have m3 := (HU5.out.two.bx (zb, 26, cz.vals) (HBs.out ▸ by simp)).cell 3
            have m4 := (HU5.out.two.bx (zb, 26, cz.vals) (HBs.out ▸ by simp)).cell 4
            have m5 := (HU5.out.two.bx (zb, 26, cz.vals) (HBs.out ▸ by simp)).cell 5
            simp only [Cfg.vals, List.getElem?_cons_zero, List.getElem?_cons_succ] at m0 m1 m2 m3 m4 m5
            have hfl : Calls Tryd.prog 23 #[.agg #[.int .i64 c.sources, .int .i64 c.slack, .int .i64 c.policy, .int .i64 c.room, .int .i64 c.idle, .string c.pat]] u5 fun e w' => e = .returned (.bool true) ∧ Thr w w' b b' bz bs X2 Y2 Z := (HFl.out u5).mono fun e w' ⟨he, hb⟩ => ⟨he, HU5.out.below hb⟩
            go_wp2_with (first
              | (go_at_call_of 23 (Value.agg #[.int .i64 c.sources, .int .i64 c.slack, .int .i64 c.policy, .int .i64 c.room, .int .i64 c.idle, .string c.pat]); refine hfl.mono ?_; rintro e u6 ⟨rfl, hu6⟩; have n0 := (hu6.two.bx (zb, 26, cz.vals) (HBs.out ▸ by simp)).cell 0; have n1 := (hu6.two.bx (zb, 26, cz.vals) (HBs.out ▸ by simp)).cell 1; have n2 := (hu6.two.bx (zb, 26, cz.vals) (HBs.out ▸ by simp)).cell 2; have n3 := (hu6.two.bx (zb, 26, cz.vals) (HBs.out ▸ by simp)).cell 3; have n4 := (hu6.two.bx (zb, 26, cz.vals) (HBs.out ▸ by simp)).cell 4; have n5 := (hu6.two.bx (zb, 26, cz.vals) (HBs.out ▸ by simp)).cell 5; simp only [Cfg.vals, List.getElem?_cons_zero, List.getElem?_cons_succ] at n0 n1 n2 n3 n4 n5)
              | (go_at_call_of 23 (Value.agg #[.int .i64 cz.sources, .int .i64 cz.slack, .int .i64 cz.policy, .int .i64 cz.room, .int .i64 cz.idle, .string cz.pat]); refine (HFz.out _).mono ?_; rintro e u7 ⟨rfl, hb7⟩))
            go_ret
            exact ⟨rfl, hu6.two.bel.trans (hb7.mono hu6.two.bel.size)⟩
end Go.Proofs.YtghcololkgeoeabDoor
