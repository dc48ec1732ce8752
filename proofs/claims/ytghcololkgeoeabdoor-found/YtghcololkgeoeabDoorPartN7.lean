import Derived.Test.YtghcololkgeoeabDoorPartN6
import Derived.Test.YtghcololkgeoeabDoorPartM3
namespace Go.Proofs.YtghcololkgeoeabDoor
open Go.RowKit
set_option linter.unusedVariables false
set_option linter.unusedSimpArgs false
attribute [local go_sem ↓] Go.wp_at_zero Go.wp_at_succ

/-- one engine, and blocks of the law's own -/
structure OneB (w wr : World) (b : Nat) (bs : List (Nat × TypeId × List Value)) (X : Eng) : Prop where
  mx : MemX wr b X
  bel : Below w.heap.size w wr
  fx : ∀ k, some k ∈ X.fp b → w.heap.size ≤ k
  bx : ∀ x ∈ bs, Blk wr x.1 x.2.1 x.2.2
  nx : ∀ x ∈ bs, some x.1 ∉ X.fp b
theorem OneB.evo {w wr w' : World} {b : Nat} {bs : List (Nat × TypeId × List Value)} {X X' : Eng} (h : OneB w wr b bs X) (e : EvoX wr b X w' X') : OneB w w' b bs X' := by
  refine ⟨e.mem, kept_toBelow h.bel e.kept h.fx, ?_, fun x hx => (h.bx x hx).kept e.kept (h.nx x hx), ?_⟩
  · intro k hk
    rcases e.grow k hk with f | f
    · exact h.fx k f
    · exact Nat.le_trans h.bel.size f
  · intro x hx hk
    rcases e.grow x.1 hk with f | f
    · exact h.nx x hx f
    · have := (h.bx x hx).lt; omega
theorem OneB.below {w wr w' : World} {b : Nat} {bs : List (Nat × TypeId × List Value)} {X : Eng} (h : OneB w wr b bs X) (hb : Below wr.heap.size wr w') : OneB w w' b bs X := h.evo (EvoX.below h.mx hb)
theorem OneB.more {w wr : World} {b : Nat} {bs : List (Nat × TypeId × List Value)} {X : Eng} (h : OneB w wr b bs X) (t : TypeId) (l : List Value) : OneB w (wr.alloc (.cells l.toArray t)) b ((wr.heap.size, t, l) :: bs) X := by
  have h' := h.below ((Below.refl _ wr).alloc (Nat.le_refl _) (.cells l.toArray t))
  refine ⟨h'.mx, h'.bel, h'.fx, ?_, ?_⟩
  · intro x hx
    rcases List.mem_cons.1 hx with rfl | hx
    · exact blk_alloc _ _ _
    · exact h'.bx x hx
  · intro x hx
    rcases List.mem_cons.1 hx with rfl | hx
    · intro e; have := h.mx.fp_lt _ e; exact Nat.lt_irrefl _ this
    · exact h'.nx x hx
theorem OneB.set {w wr : World} {b eb : Nat} {t : TypeId} {l : List Value} {bs : List (Nat × TypeId × List Value)} {X : Eng} (h : OneB w wr b ((eb, t, l) :: bs) X) (o : Nat) (v : Value) (hw : w.heap.size ≤ eb) (hn : ∀ x ∈ bs, x.1 ≠ eb) : OneB w (wr.setCell ⟨eb, o, none⟩ v) b ((eb, t, l.set o v) :: bs) X := by
  have K : Kept (fun k => k = eb) wr (wr.setCell ⟨eb, o, none⟩ v) := (Kept.refl (fun k => k = eb) wr).setCell (fun _ => rfl) v
  have nX := h.nx (eb, t, l) (by simp)
  refine ⟨h.mx.kept K (fun k hk e => nX (e ▸ hk)), kept_toBelow h.bel K (fun i e => by rw [e]; exact hw), h.fx, ?_, ?_⟩
  · intro x hx
    rcases List.mem_cons.1 hx with rfl | hx
    · exact (h.bx (eb, t, l) (by simp)).set o v
    · exact (h.bx x (by simp [hx])).kept K (hn x hx)
  · intro x hx
    rcases List.mem_cons.1 hx with rfl | hx
    · exact nX
    · exact h.nx x (by simp [hx])
theorem OneB.less {w wr : World} {b : Nat} {bs bs' : List (Nat × TypeId × List Value)} {X : Eng} (h : OneB w wr b bs X) (hs : ∀ x ∈ bs', x ∈ bs) : OneB w wr b bs' X := ⟨h.mx, h.bel, h.fx, fun x hx => h.bx x (hs x hx), fun x hx => h.nx x (hs x hx)⟩
set_option maxRecDepth 100000 in
set_option maxHeartbeats 16000000 in
theorem found_walk (r : RawC) (sa : Option Addr) (sc : Nat) (acts : List ActR) (m : Int) (w : World) (hr : r.ok) (hsa : ActsAt w sa acts) (hei : ∀ a ∈ acts, EvI a.E) (hlen : acts.length ≤ 9000000000000000) (hm : I64 m) (htab : ∀ u, Below w.heap.size w u → tab10 u) :
    Calls Tryd.prog 3 #[.agg #[.int .i64 r.sources, .int .i64 r.slack, .int .i64 r.policy, .int .i64 r.room, .int .i64 r.idle, .int .i64 r.pattern], .slice sa acts.length sc, .int .i64 m] w fun e w' => e = .returned (.bool true) ∧ Below w.heap.size w w' := by
  have HSA : Hid (ActsAt w sa acts) := hsa
  have HEI : Hid (∀ a ∈ acts, I64 a.E.kind) := fun a ha => (hei a ha).kind
  clear hei
  obtain ⟨raw, HRaw⟩ := hex r.pattern
  have HRi : Hid (I64 raw) := by show I64 raw; rw [HRaw.out]; exact hr.2.2.2.2.2
  obtain ⟨c, HC⟩ := hex r.cfg
  have HOK : Hid c.ok := by show c.ok; rw [HC.out]; exact r.cfg_ok
  obtain ⟨n, hn⟩ : ∃ n : Nat, c.sources = n := ⟨c.sources.toNat, by have := HOK.out.1.1; omega⟩
  have HNn : Hid (c.sources = n) := hn
  have hn6 : 1 ≤ n ∧ n ≤ 6 := by have := HOK.out.1.1; have := HOK.out.1.2.1; omega
  have hcf : ∀ u, Below w.heap.size w u → Calls Tryd.prog 6 #[.agg #[.int .i64 r.sources, .int .i64 r.slack, .int .i64 r.policy, .int .i64 r.room, .int .i64 r.idle, .int .i64 raw]] u fun e w' => e = .returned (.agg #[.int .i64 c.sources, .int .i64 c.slack, .int .i64 c.policy, .int .i64 c.room, .int .i64 c.idle, .string c.pat]) ∧ Below u.heap.size u w' := fun u hu => by rw [HC.out, HRaw.out]; exact config_any r u hr (fun v hv => htab v (hu.trans (hv.mono hu.size)))
  have HMd : Hid (∀ u, Calls Tryd.prog 8 #[.agg #[.int .i64 c.sources, .int .i64 c.slack, .int .i64 c.policy, .int .i64 c.room, .int .i64 c.idle, .string c.pat]] u fun e w' => ∃ b sg sc p, e = .returned (.tuple #[.pointer (some ⟨b, 0, none⟩), .bool true]) ∧ MemX w' b (newEng c n sg sc p) ∧ (∀ k, some k ∈ (newEng c n sg sc p).fp b → u.heap.size ≤ k) ∧ Below u.heap.size u w') := fun u => made_any n c u hn HOK.out
  obtain ⟨w0, HW0⟩ := hex (w.alloc (.cells r.vals.toArray 23))
  obtain ⟨rb, HRb⟩ := hex w.heap.size
  have HR0 : Hid (Blk w0 rb 23 r.vals ∧ Below w.heap.size w w0) := by show _ ∧ _; rw [HW0.out, HRb.out]; exact ⟨blk_alloc _ _ _, (Below.refl _ _).alloc (Nat.le_refl _) _⟩
  have hw0 : w.alloc (.cells #[.int .i64 r.sources, .int .i64 r.slack, .int .i64 r.policy, .int .i64 r.room, .int .i64 r.idle, .int .i64 r.pattern] 23) = w0 := HW0.out.symm
  clear hn htab hr hsa
  go_enter Tryd.func3, Tryd.ntmps3
  go_upto_region 1 with fail
  rw [← HRb.out]
  clear hw0 HW0 HRb
  have r0 := HR0.out.1.cell 0
  have r1 := HR0.out.1.cell 1
  have r2 := HR0.out.1.cell 2
  have r3 := HR0.out.1.cell 3
  have r4 := HR0.out.1.cell 4
  have r5 := HR0.out.1.cell 5
  simp only [RawC.vals, List.getElem?_cons_zero, List.getElem?_cons_succ] at r0 r1 r2 r3 r4 r5
  rw [← HRaw.out] at r5
  go_upto_region 2 with (go_at_call 6; refine (hcf _ HR0.out.2).mono ?_; rintro e w1 ⟨rfl, hb1⟩)
  have HB1 : Hid (Below w.heap.size w w1 ∧ Blk w1 rb 23 r.vals) := ⟨HR0.out.2.trans (hb1.mono HR0.out.2.size), HR0.out.1.below hb1 HR0.out.1.lt⟩
  clear hcf hb1 r0 r1 r2 r3 r4 r5 HR0
  obtain ⟨w2, HW2⟩ := hex (w1.alloc (.cells c.vals.toArray 26))
  have hw2 : w1.alloc (.cells #[.int .i64 c.sources, .int .i64 c.slack, .int .i64 c.policy, .int .i64 c.room, .int .i64 c.idle, .string c.pat] 26) = w2 := HW2.out.symm
  rw [hw2]
  obtain ⟨cb, HCb⟩ := hex w1.heap.size
  have HC2 : Hid (Blk w2 cb 26 c.vals ∧ Blk w2 rb 23 r.vals ∧ Below w.heap.size w w2) := by show _ ∧ _ ∧ _; rw [HW2.out, HCb.out]; exact ⟨blk_alloc _ _ _, HB1.out.2.alloc _, HB1.out.1.alloc HB1.out.1.size _⟩
  rw [← HCb.out]
  clear hw2 HW2 HCb HB1
  have r5 := HC2.out.2.1.cell 5
  simp only [RawC.vals, List.getElem?_cons_zero, List.getElem?_cons_succ] at r5
  rw [← HRaw.out] at r5
  go_upto_region 3 with (go_at_call 7; refine (pattern_any raw _ HRi.out).mono ?_; rintro e w3 ⟨ka, kc, na, nc, rfl, hpo⟩)
  have HPo : Hid (PatOut raw w2 w3 ka kc na nc) := hpo
  have HC3 : Hid (Blk w3 cb 26 c.vals ∧ Below w.heap.size w w3) := ⟨HC2.out.1.below hpo.bel HC2.out.1.lt, HC2.out.2.2.trans (hpo.bel.mono HC2.out.2.2.size)⟩
  clear hpo r5 HC2
  obtain ⟨w4, HW4⟩ := hex (w3.alloc (.cells #[.slice ka (patN raw) kc, .slice na (patN raw) nc, .bool (patIsOne raw), .int .i64 (patWindow raw)] 30))
  have hw4 : w3.alloc (.cells #[.slice ka (patN raw) kc, .slice na (patN raw) nc, .bool (patIsOne raw), .int .i64 (patWindow raw)] 30) = w4 := HW4.out.symm
  rw [hw4]
  obtain ⟨pb, HPb⟩ := hex w3.heap.size
  have HC4 : Hid (Blk w4 pb 30 [.slice ka (patN raw) kc, .slice na (patN raw) nc, .bool (patIsOne raw), .int .i64 (patWindow raw)] ∧ Blk w4 cb 26 c.vals ∧ Below w.heap.size w w4 ∧ Below w3.heap.size w3 w4) := by
    show _ ∧ _ ∧ _ ∧ _
    rw [HW4.out, HPb.out]; exact ⟨blk_alloc _ _ _, HC3.out.1.alloc _, HC3.out.2.alloc HC3.out.2.size _, (Below.refl _ _).alloc (Nat.le_refl _) _⟩
  have HNu : Hid (NumR w4 ka (patN raw) (⟨patPairs raw, patIsOne raw, patWindow raw⟩ : Pq).kd ∧ NumR w4 na (patN raw) (⟨patPairs raw, patIsOne raw, patWindow raw⟩ : Pq).nt) := ⟨HPo.out.nums.1.below HC4.out.2.2.2, HPo.out.nums.2.below HC4.out.2.2.2⟩
  rw [← HPb.out]
  clear hw4 HW4 HPb HC3 HPo
  have k0 := HC4.out.2.1.cell 0
  have k1 := HC4.out.2.1.cell 1
  have k2 := HC4.out.2.1.cell 2
  have k3 := HC4.out.2.1.cell 3
  have k4 := HC4.out.2.1.cell 4
  have k5 := HC4.out.2.1.cell 5
  simp only [Cfg.vals, List.getElem?_cons_zero, List.getElem?_cons_succ] at k0 k1 k2 k3 k4 k5
  go_upto_region 4 with (go_at_call 8; refine (HMd.out _).mono ?_; rintro e w5 ⟨b, sg, scc, pv, rfl, hM, hf, hb⟩)
  obtain ⟨bs, HBs⟩ := hex [(cb, 26, c.vals), (pb, 30, [.slice ka (patN raw) kc, .slice na (patN raw) nc, .bool (patIsOne raw), .int .i64 (patWindow raw)])]
  have HK5 : Hid (OneB w4 w5 b bs (newEng c n sg scc pv)) := by
    refine ⟨hM, hb, hf, ?_, ?_⟩
    · rw [HBs.out]
      intro x hx
      simp only [List.mem_cons, List.not_mem_nil, or_false] at hx
      rcases hx with rfl | rfl
      · exact HC4.out.2.1.below hb HC4.out.2.1.lt
      · exact HC4.out.1.below hb HC4.out.1.lt
    · rw [HBs.out]
      intro x hx hk
      simp only [List.mem_cons, List.not_mem_nil, or_false] at hx
      have := hf _ hk
      rcases hx with rfl | rfl
      · have := HC4.out.2.1.lt; simp only at *; omega
      · have := HC4.out.1.lt; simp only at *; omega
  have HB4 : Hid (Below w.heap.size w w4) := HC4.out.2.2.1
  clear hM hf hb k0 k1 k2 k3 k4 k5 HC4 HMd
  have k0 := (HK5.out.bx (cb, 26, c.vals) (HBs.out ▸ by simp)).cell 0
  have k1 := (HK5.out.bx (cb, 26, c.vals) (HBs.out ▸ by simp)).cell 1
  have k2 := (HK5.out.bx (cb, 26, c.vals) (HBs.out ▸ by simp)).cell 2
  have k3 := (HK5.out.bx (cb, 26, c.vals) (HBs.out ▸ by simp)).cell 3
  have k4 := (HK5.out.bx (cb, 26, c.vals) (HBs.out ▸ by simp)).cell 4
  have k5 := (HK5.out.bx (cb, 26, c.vals) (HBs.out ▸ by simp)).cell 5
  simp only [Cfg.vals, List.getElem?_cons_zero, List.getElem?_cons_succ] at k0 k1 k2 k3 k4 k5
  have hjx : ∀ u, OneB w4 u b bs (newEng c n sg scc pv) → Calls Tryd.prog 9 #[.pointer (some ⟨b, 0, none⟩), .agg #[.int .i64 c.sources, .int .i64 c.slack, .int .i64 c.policy, .int .i64 c.room, .int .i64 c.idle, .string c.pat]] u fun e w' => e = .returned (.bool true) ∧ ∃ X, KInv X ∧ X.srcs.length = n ∧ X.c = c ∧ OneB w4 w' b bs X := fun u hu => by
    refine (joined_seq b n c (newEng c n sg scc pv) (newRef c n none 0 0) u hu.mx (new_like HNn.out HOK.out) HNn.out hn6.2 (by show (List.replicate n zP).length = n; simp)).mono ?_
    rintro e w' ⟨he, M, Y, h1, h2, h3, hev⟩
    exact ⟨he, Y, kinv_joined h1, h3, joinedX_c h1, hu.evo hev⟩
  go_upto_region 7 with (go_at_call 9; refine (hjx _ HK5.out).mono ?_; rintro e w6 ⟨rfl, X6, hk6, hn6', hc6, ho6⟩)
  have HO6 : Hid (OneB w4 w6 b bs X6) := ho6
  have HI6 : Hid (KInv X6 ∧ X6.srcs.length = n ∧ X6.c = c) := ⟨hk6, hn6', hc6⟩
  clear hjx hk6 hn6' hc6 ho6 k0 k1 k2 k3 k4 k5 HK5
  have HFd : Hid (∀ u X, OneB w4 u b bs X → KInv X → X.c = c → Calls Tryd.prog 12 #[.pointer (some ⟨b, 0, none⟩), .agg #[.slice ka (patN raw) kc, .slice na (patN raw) nc, .bool (patIsOne raw), .int .i64 (patWindow raw)]] u fun e w' => e = .returned (.bool true) ∧ OneB w4 w' b bs X) := by
    intro u X hu hk hcx
    obtain ⟨N, R, hl, hkk⟩ := hk
    refine (found_true b r raw X ka kc na nc u hu.mx HRaw.out.symm (hcx.trans HC.out) hl.sane.log (like_ts hl) (KInv.log ⟨N, R, hl, hkk⟩) (HNu.out.1.below hu.bel) (HNu.out.2.below hu.bel)).mono ?_
    rintro e w' ⟨he, hb⟩
    exact ⟨he, hu.below hb⟩
  go_upto_region 9 with fail
  go_wp2
  go_loopw [10, 11] (fun kv iv wr => ∃ (i : Nat) (X : Eng), kv = .bool true ∧ i ≤ acts.length ∧ iv = .int .i64 i ∧ OneB w4 wr b bs X ∧ KInv X ∧ X.srcs.length = n ∧ X.c = c) (fun _ iv _ => acts.length - (intOf iv).toNat)
  case atStart => exact ⟨0, X6, rfl, Nat.zero_le _, rfl, HO6.out, HI6.out⟩
  case round =>
    clear HO6 HI6
    obtain ⟨i, X, rfl, hi, rfl, ho, hki, hns, hcx⟩ := hrel
    have HO : Hid (OneB w4 wr b bs X) := ho
    have HI : Hid (KInv X ∧ X.srcs.length = n ∧ X.c = c) := ⟨hki, hns, hcx⟩
    clear ho hki hns hcx
    by_cases hle : i < acts.length
    · have hle' : (i : Int) < (acts.length : Int) := by omega
      have hi00 : (0 : Int) ≤ (i : Int) := by omega
      obtain ⟨hao, ab, ao, hsab, hal, hac⟩ := HSA.out i hle
      obtain ⟨a, HAa⟩ := hex acts[i]
      rw [← HAa.out] at hao hac
      have HAo : Hid a.ok := hao
      have HAL : Hid (ab < w.heap.size ∧ ∀ o, o < 8 → w.cell? ⟨ab, ao + i * 8 + o, none⟩ = a.cells[o]?) := ⟨hal, hac⟩
      have HAk : Hid (I64 a.E.kind) := HEI.out a (by rw [HAa.out]; exact List.getElem_mem hle)
      clear hac hao hal HAa
      subst hsab
      have bb : ∀ o, o < 8 → wr.cell? ⟨ab, ao + i * 8 + o, none⟩ = a.cells[o]? := fun o ho => ((HB4.out.trans (HO.out.bel.mono HB4.out.size)).cell (p := ⟨ab, ao + i * 8 + o, none⟩) HAL.out.1).trans (HAL.out.2 o ho)
      have a0 := bb 0 (by omega)
      have a1 := bb 1 (by omega)
      have a2 := bb 2 (by omega)
      have a3 := bb 3 (by omega)
      have a4 := bb 4 (by omega)
      have a5 := bb 5 (by omega)
      have a6 := bb 6 (by omega)
      have a7 := bb 7 (by omega)
      simp only [ActR.cells, List.getElem?_cons_zero, List.getElem?_cons_succ, Nat.add_zero] at a0 a1 a2 a3 a4 a5 a6 a7
      clear bb
      go_upto_region 13 with fail
      obtain ⟨v1, HV1⟩ := hex (wr.alloc (.cells ([.int .i64 a.d, .int .i64 a.s, .int .i64 a.n, .int .i64 a.E.src, .int .i64 a.E.seq, .int .i64 a.E.ts, .int .i64 a.E.kind, .int .i64 a.E.val] : List Value).toArray 39))
      obtain ⟨vb, HVb⟩ := hex wr.heap.size
      have hv1 : wr.alloc (.cells #[.int .i64 a.d, .int .i64 a.s, .int .i64 a.n, .int .i64 a.E.src, .int .i64 a.E.seq, .int .i64 a.E.ts, .int .i64 a.E.kind, .int .i64 a.E.val] 39) = v1 := HV1.out.symm
      have HO1 : Hid (OneB w4 v1 b ((vb, 39, [.int .i64 a.d, .int .i64 a.s, .int .i64 a.n, .int .i64 a.E.src, .int .i64 a.E.seq, .int .i64 a.E.ts, .int .i64 a.E.kind, .int .i64 a.E.val]) :: bs) X) := by show OneB _ _ _ _ _; rw [HV1.out, HVb.out]; exact HO.out.more 39 [.int .i64 a.d, .int .i64 a.s, .int .i64 a.n, .int .i64 a.E.src, .int .i64 a.E.seq, .int .i64 a.E.ts, .int .i64 a.E.kind, .int .i64 a.E.val]
      have HVn : Hid (w4.heap.size ≤ vb ∧ ∀ x ∈ bs, x.1 ≠ vb) := ⟨by rw [HVb.out]; exact HO.out.bel.size, fun x hx e => by have h1 := (HO.out.bx x hx).lt; have h2 := HVb.out; omega⟩
      rw [hv1, ← HVb.out]
      clear hv1 HV1 HVb HO a0 a1 a2 a3 a4 a5 a6 a7
      have hpi : ∀ u, Calls Tryd.prog 10 #[.int .i64 a.E.kind, .int .i64 3] u fun e w' => e = .returned (.int .i64 (pk a.E.kind 3)) ∧ u = w' := fun u => pick_any _ _ u HAk.out (by omega) (by omega)
      have hpr := pk_range (c := a.E.kind) (n := 3) (by omega)
      obtain ⟨kk, HKk⟩ := hex (65 + pk a.E.kind 3)
      have hwk : IntKind.i64.wrap (65 + pk a.E.kind 3) = kk := by rw [HKk.out, IntKind.wrap_i64]; omega
      have q6 := (HO1.out.bx (vb, 39, [.int .i64 a.d, .int .i64 a.s, .int .i64 a.n, .int .i64 a.E.src, .int .i64 a.E.seq, .int .i64 a.E.ts, .int .i64 a.E.kind, .int .i64 a.E.val]) (by simp)).cell 6
      have f6 := (HO1.out.bx (vb, 39, [.int .i64 a.d, .int .i64 a.s, .int .i64 a.n, .int .i64 a.E.src, .int .i64 a.E.seq, .int .i64 a.E.ts, .int .i64 a.E.kind, .int .i64 a.E.val]) (by simp)).frozen 6
      simp only [List.getElem?_cons_zero, List.getElem?_cons_succ] at q6
      go_upto_region 14 with (go_at_call 10; refine (hpi _).mono ?_; rintro e w' ⟨rfl, rfl⟩)
      obtain ⟨v2, HV2⟩ := hex (v1.setCell ⟨vb, 6, none⟩ (.int .i64 kk))
      have hv2 : v1.setCell ⟨vb, 6, none⟩ (.int .i64 kk) = v2 := HV2.out.symm
      have HO2 : Hid (OneB w4 v2 b ((vb, 39, [.int .i64 a.d, .int .i64 a.s, .int .i64 a.n, .int .i64 a.E.src, .int .i64 a.E.seq, .int .i64 a.E.ts, .int .i64 kk, .int .i64 a.E.val]) :: bs) X) := by show OneB _ _ _ _ _; rw [HV2.out]; exact HO1.out.set 6 (.int .i64 kk) HVn.out.1 HVn.out.2
      rw [hv2]
      clear hv2 HV2 HO1 q6 f6 hpi hpr hwk
      have q0 := (HO2.out.bx (vb, 39, [.int .i64 a.d, .int .i64 a.s, .int .i64 a.n, .int .i64 a.E.src, .int .i64 a.E.seq, .int .i64 a.E.ts, .int .i64 kk, .int .i64 a.E.val]) (by simp)).cell 0
      have q1 := (HO2.out.bx (vb, 39, [.int .i64 a.d, .int .i64 a.s, .int .i64 a.n, .int .i64 a.E.src, .int .i64 a.E.seq, .int .i64 a.E.ts, .int .i64 kk, .int .i64 a.E.val]) (by simp)).cell 1
      have q2 := (HO2.out.bx (vb, 39, [.int .i64 a.d, .int .i64 a.s, .int .i64 a.n, .int .i64 a.E.src, .int .i64 a.E.seq, .int .i64 a.E.ts, .int .i64 kk, .int .i64 a.E.val]) (by simp)).cell 2
      have q3 := (HO2.out.bx (vb, 39, [.int .i64 a.d, .int .i64 a.s, .int .i64 a.n, .int .i64 a.E.src, .int .i64 a.E.seq, .int .i64 a.E.ts, .int .i64 kk, .int .i64 a.E.val]) (by simp)).cell 3
      have q4 := (HO2.out.bx (vb, 39, [.int .i64 a.d, .int .i64 a.s, .int .i64 a.n, .int .i64 a.E.src, .int .i64 a.E.seq, .int .i64 a.E.ts, .int .i64 kk, .int .i64 a.E.val]) (by simp)).cell 4
      have q5 := (HO2.out.bx (vb, 39, [.int .i64 a.d, .int .i64 a.s, .int .i64 a.n, .int .i64 a.E.src, .int .i64 a.E.seq, .int .i64 a.E.ts, .int .i64 kk, .int .i64 a.E.val]) (by simp)).cell 5
      have q6 := (HO2.out.bx (vb, 39, [.int .i64 a.d, .int .i64 a.s, .int .i64 a.n, .int .i64 a.E.src, .int .i64 a.E.seq, .int .i64 a.E.ts, .int .i64 kk, .int .i64 a.E.val]) (by simp)).cell 6
      have q7 := (HO2.out.bx (vb, 39, [.int .i64 a.d, .int .i64 a.s, .int .i64 a.n, .int .i64 a.E.src, .int .i64 a.E.seq, .int .i64 a.E.ts, .int .i64 kk, .int .i64 a.E.val]) (by simp)).cell 7
      simp only [List.getElem?_cons_zero, List.getElem?_cons_succ] at q0 q1 q2 q3 q4 q5 q6 q7
      have k0 := (HO2.out.bx (cb, 26, c.vals) (List.mem_cons_of_mem _ (HBs.out ▸ by simp))).cell 0
      have k1 := (HO2.out.bx (cb, 26, c.vals) (List.mem_cons_of_mem _ (HBs.out ▸ by simp))).cell 1
      have k2 := (HO2.out.bx (cb, 26, c.vals) (List.mem_cons_of_mem _ (HBs.out ▸ by simp))).cell 2
      have k3 := (HO2.out.bx (cb, 26, c.vals) (List.mem_cons_of_mem _ (HBs.out ▸ by simp))).cell 3
      have k4 := (HO2.out.bx (cb, 26, c.vals) (List.mem_cons_of_mem _ (HBs.out ▸ by simp))).cell 4
      have k5 := (HO2.out.bx (cb, 26, c.vals) (List.mem_cons_of_mem _ (HBs.out ▸ by simp))).cell 5
      simp only [Cfg.vals, List.getElem?_cons_zero, List.getElem?_cons_succ] at k0 k1 k2 k3 k4 k5
      have hdo : Calls Tryd.prog 11 #[.pointer (some ⟨b, 0, none⟩), .agg #[.int .i64 c.sources, .int .i64 c.slack, .int .i64 c.policy, .int .i64 c.room, .int .i64 c.idle, .string c.pat], .agg #[.int .i64 a.d, .int .i64 a.s, .int .i64 a.n, .int .i64 a.E.src, .int .i64 a.E.seq, .int .i64 a.E.ts, .int .i64 kk, .int .i64 a.E.val]] v2 fun e w' => ∃ z, e = .returned (.int .i64 z) ∧ ∃ X', OneB w4 w' b bs X' ∧ KInv X' ∧ X'.srcs.length = n ∧ X'.c = c := by
        obtain ⟨⟨N, R, hl, hkk⟩, hns, hcx⟩ := HI.out
        refine (done_rel b c X R ⟨a.d, a.s, a.n, { a.E with kind := kk }⟩ v2 HO2.out.mx hl HAo.out (by rw [HNn.out]; omega)).mono ?_
        rintro e w' ⟨z, X', he, hD, hev⟩
        exact ⟨z, he, X', (HO2.out.evo hev).less (fun x hx => List.mem_cons_of_mem _ hx), kinv_done ⟨N, R, hl, hkk⟩ hD, (doneX_grow hD).n.trans hns, (doneX_grow hD).c.trans hcx⟩
      go_upto_region 15 with (go_at_call 11; refine hdo.mono ?_; rintro e v3 ⟨z, rfl, X3, ho3, hk3, hn3, hc3⟩)
      have HO3 : Hid (OneB w4 v3 b bs X3) := ho3
      have HI3 : Hid (KInv X3 ∧ X3.srcs.length = n ∧ X3.c = c) := ⟨hk3, hn3, hc3⟩
      clear hdo ho3 hk3 hn3 hc3 k0 k1 k2 k3 k4 k5 HO2 HI
      clear q0 q1 q2 q3 q4 q5 q6 q7
      by_cases him : (i : Int) = m
      · have hbm : ((i : Int) == m) = true := by rw [beq_iff_eq]; exact him
        have p0 := (HO3.out.bx (pb, 30, [.slice ka (patN raw) kc, .slice na (patN raw) nc, .bool (patIsOne raw), .int .i64 (patWindow raw)]) (HBs.out ▸ by simp)).cell 0
        have p1 := (HO3.out.bx (pb, 30, [.slice ka (patN raw) kc, .slice na (patN raw) nc, .bool (patIsOne raw), .int .i64 (patWindow raw)]) (HBs.out ▸ by simp)).cell 1
        have p2 := (HO3.out.bx (pb, 30, [.slice ka (patN raw) kc, .slice na (patN raw) nc, .bool (patIsOne raw), .int .i64 (patWindow raw)]) (HBs.out ▸ by simp)).cell 2
        have p3 := (HO3.out.bx (pb, 30, [.slice ka (patN raw) kc, .slice na (patN raw) nc, .bool (patIsOne raw), .int .i64 (patWindow raw)]) (HBs.out ▸ by simp)).cell 3
        simp only [List.getElem?_cons_zero, List.getElem?_cons_succ] at p0 p1 p2 p3
        have hfd := HFd.out v3 X3 HO3.out HI3.out.1 HI3.out.2.2
        clear him
        go_wp2_with (go_at_call 12; refine hfd.mono ?_; rintro e v4 ⟨rfl, ho4⟩)
        go_roundw
        case rel => first | exact ⟨i + 1, X3, rfl, by omega, by go_num, ho4, HI3.out⟩ | ((repeat apply Exists.intro); exact ⟨⟨i + 1, X3, rfl, by omega, by go_num, ho4, HI3.out⟩, rfl⟩)
        case measure => simp [intOf]; omega
      · have hbm : ((i : Int) == m) = false := by rw [beq_eq_false_iff_ne]; exact him
        clear him
        go_wp2
        go_roundw
        case rel => first | exact ⟨i + 1, X3, rfl, by omega, by go_num, HO3.out, HI3.out⟩ | ((repeat apply Exists.intro); exact ⟨⟨i + 1, X3, rfl, by omega, by go_num, HO3.out, HI3.out⟩, rfl⟩)
        case measure => simp [intOf]; omega
    · have hle' : ¬ (i : Int) < (acts.length : Int) := by omega
      have k0 := (HO.out.bx (cb, 26, c.vals) (HBs.out ▸ by simp)).cell 0
      have k1 := (HO.out.bx (cb, 26, c.vals) (HBs.out ▸ by simp)).cell 1
      have k2 := (HO.out.bx (cb, 26, c.vals) (HBs.out ▸ by simp)).cell 2
      have k3 := (HO.out.bx (cb, 26, c.vals) (HBs.out ▸ by simp)).cell 3
      have k4 := (HO.out.bx (cb, 26, c.vals) (HBs.out ▸ by simp)).cell 4
      have k5 := (HO.out.bx (cb, 26, c.vals) (HBs.out ▸ by simp)).cell 5
      simp only [Cfg.vals, List.getElem?_cons_zero, List.getElem?_cons_succ] at k0 k1 k2 k3 k4 k5
      have hlf : Calls Tryd.prog 13 #[.pointer (some ⟨b, 0, none⟩), .agg #[.int .i64 c.sources, .int .i64 c.slack, .int .i64 c.policy, .int .i64 c.room, .int .i64 c.idle, .string c.pat]] wr fun e w' => e = .returned (.bool true) ∧ ∃ X', OneB w4 w' b bs X' ∧ KInv X' ∧ X'.c = c := by
        obtain ⟨⟨N, R, hl, hkk⟩, hns, hcx⟩ := HI.out
        refine (left_run b n c X wr HO.out.mx ⟨N, R, hl⟩ hns HNn.out hn6.2).mono ?_
        rintro e w' ⟨he, Y, h1, _, _, hev⟩
        exact ⟨he, Y, HO.out.evo hev, kinv_runL ⟨N, R, hl, hkk⟩ h1, (runL_grow h1).c.trans hcx⟩
      go_upto_region 20 with (go_at_call 13; refine hlf.mono ?_; rintro e u1 ⟨rfl, X1, ho1, hk1, hc1⟩)
      have HO1 : Hid (OneB w4 u1 b bs X1) := ho1
      have hfd := HFd.out u1 X1 ho1 hk1 hc1
      clear hlf ho1 hk1 hc1 k0 k1 k2 k3 k4 k5 HO
      have p0 := (HO1.out.bx (pb, 30, [.slice ka (patN raw) kc, .slice na (patN raw) nc, .bool (patIsOne raw), .int .i64 (patWindow raw)]) (HBs.out ▸ by simp)).cell 0
      have p1 := (HO1.out.bx (pb, 30, [.slice ka (patN raw) kc, .slice na (patN raw) nc, .bool (patIsOne raw), .int .i64 (patWindow raw)]) (HBs.out ▸ by simp)).cell 1
      have p2 := (HO1.out.bx (pb, 30, [.slice ka (patN raw) kc, .slice na (patN raw) nc, .bool (patIsOne raw), .int .i64 (patWindow raw)]) (HBs.out ▸ by simp)).cell 2
      have p3 := (HO1.out.bx (pb, 30, [.slice ka (patN raw) kc, .slice na (patN raw) nc, .bool (patIsOne raw), .int .i64 (patWindow raw)]) (HBs.out ▸ by simp)).cell 3
      simp only [List.getElem?_cons_zero, List.getElem?_cons_succ] at p0 p1 p2 p3
      go_upto_region 23 with (go_at_call 12; refine hfd.mono ?_; rintro e u2 ⟨rfl, ho2⟩)
      have HO2 : Hid (OneB w4 u2 b bs X1) := ho2
      clear hfd ho2 p0 p1 p2 p3 HO1
      go_wp2_with (go_at_call 14; refine (hits_true _).mono ?_; rintro e u3 ⟨rfl, hb3⟩)
      go_ret
      have hb := HB4.out.trans (HO2.out.bel.mono HB4.out.size)
      exact ⟨rfl, hb.trans (hb3.mono hb.size)⟩
end Go.Proofs.YtghcololkgeoeabDoor
