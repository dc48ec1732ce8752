import Derived.Test.YtghcololkgeoeabDoorPartP2
import Derived.Deep.RegionWith
import Derived.Test.YtghcololkgeoeabDoorPartK6
namespace Go.Proofs.YtghcololkgeoeabDoor
open Go.RowKit
set_option linter.unusedVariables false
set_option linter.unusedSimpArgs false
attribute [local go_sem ↓] Go.wp_at_zero Go.wp_at_succ

theorem twin_log1 {P : Nat → Prop} {X Y : Eng} (h : Twin P X Y) : X.log = Y.log := by
  obtain ⟨⟨N, R, h1, h2⟩, _⟩ := h
  exact like_log_eq h1 h2
theorem cfg_ps31 (r : RawC) : r.cfg.ps.length ≤ 3 := by
  unfold Cfg.ps
  show (patSteps (patText r.pattern)).length ≤ 3
  rw [(patText_steps r.pattern).2.1]
  rw [patPairs_len]
  unfold patN
  omega
/-- the lists of numbers, behind k of them -/
structure IL (w wr : World) (b b' : Nat) (bs : List (Nat × TypeId × List Value)) (X Y : Eng) (hb : Nat) (ea : Option Addr) (ec : Nat) (el : List E1) (m0 : Nat) (la : Option Addr) (lc : Nat) (ms : List (Nat × Nat)) (n : Nat) (F : List (List Nat)) (k : Nat) (ia : Option Addr) (ic : Nat) (il : List E1) : Prop where
  hld : Hld w wr b b' bs X Y hb ea ec el ia ic il
  len : il.length = m0 + k
  row : Row wr 28 1 la ms.length lc (List.replicate k (.slice none 0 0) ++ (ms.drop k).map (fun m => .slice (some ⟨m.1, 0, none⟩) n m.2))
  rest : ∀ j m f, k ≤ j → ms[j]? = some m → F[j]? = some f → Row wr 3 1 (some ⟨m.1, 0, none⟩) n m.2 (natV f)
  fl : ∀ x, bk la = some x → Fr w b b' bs X Y hb ea el ia il x
  fm : ∀ (j : Nat) (m : Nat × Nat), k ≤ j → ms[j]? = some m → Fr w b b' bs X Y hb ea el ia il m.1
theorem IL.next {w wr w1 : World} {b b' : Nat} {bs : List (Nat × TypeId × List Value)} {X Y : Eng} {hb : Nat} {ea : Option Addr} {ec : Nat} {el : List E1} {m0 : Nat} {la : Option Addr} {lc : Nat} {ms : List (Nat × Nat)} {n : Nat} {F : List (List Nat)} {k : Nat} {ia : Option Addr} {ic : Nat} {il : List E1} {m : Nat × Nat} {g0 : Nat}
    (h : IL w wr b b' bs X Y hb ea ec el m0 la lc ms n F k ia ic il) (hFl : ms.length = F.length) (hp : PD (bk la :: ms.map fun m => some m.1)) (hk : k < ms.length) (hm : ms[k]? = some m) (hla : la = some ⟨g0, 0, none⟩)
    (ho : Owned1 kdT wr w1 hb 50 [.slice ea el.length ec, .slice ia il.length ic] 1 ia (some ⟨m.1, 0, none⟩) [] il) : ∃ ia' ic' il', IL w (w1.setCell ⟨g0, k, none⟩ (.slice none 0 0)) b b' bs X Y hb ea ec el m0 la lc ms n F (k + 1) ia' ic' il' := by
  have hkk : ∀ (j : Nat) (m' : Nat × Nat), ms[j]? = some m' → (bk la :: ms.map fun m => some m.1)[j + 1]? = some (some m'.1) := fun j m' hj => by simp [hj]
  have hg0m : ∀ (j : Nat) (m' : Nat × Nat), ms[j]? = some m' → m'.1 ≠ g0 := fun j m' hj e => by
    have := hp 0 (j + 1) g0 (by simp [hla, bk]) (by rw [hkk j m' hj, e]); omega
  have hlg : bk la = some g0 := by simp [hla, bk]
  obtain ⟨ia', ic', E, hH, hK, hF⟩ := h.hld.int_ (sa := some ⟨m.1, 0, none⟩) (fun x e => by simp only [bk, Option.map_some, Option.some.injEq] at e; rw [← e]; exact h.fm k m (Nat.le_refl _) hm) ho
  have hlal : g0 < wr.heap.size := h.row.lt hlg
  have hf0 : Fr w b b' bs X Y hb ea el ia' (il ++ [E]) g0 := hF g0 (h.fl g0 hlg) (fun e => by simp only [bk, Option.map_some, Option.some.injEq] at e; exact hg0m k m hm e) hlal
  have h1 : Kept (fun x => x = g0) w1 (w1.setCell ⟨g0, k, none⟩ (.slice none 0 0)) := (Kept.refl (fun x => x = g0) w1).setCell (fun _ => rfl) _
  have hno : ∀ x, Fr w b b' bs X Y hb ea el ia il x → x ≠ m.1 → ¬ (x = hb ∨ bk ia = some x ∨ bk (some (⟨m.1, 0, none⟩ : Addr)) = some x) := by
    rintro x fx hne (e | e | e)
    · exact fx.nh (mem_hfp.2 (Or.inl e))
    · exact fx.nh (mem_hfp.2 (Or.inr (Or.inr (Or.inl e))))
    · simp only [bk, Option.map_some, Option.some.injEq] at e; exact hne e.symm
  refine ⟨ia', ic', il ++ [E], ⟨hH.side hf0 h1, by simp [h.len]; omega, ?_, ?_, ?_, ?_⟩⟩
  · have hr : Row w1 28 1 la ms.length lc (List.replicate k (.slice none 0 0) ++ (ms.drop k).map (fun m => .slice (some ⟨m.1, 0, none⟩) n m.2)) := h.row.kept hK (fun x e => hno x (h.fl x e) (fun f => hg0m k m hm (by rw [← f]; rw [hlg] at e; simpa using e.symm)))
    rw [hla] at hr ⊢
    have hr3 := hr.set k (.slice none 0 0)
    have e : (List.replicate k (Value.slice none 0 0) ++ (ms.drop k).map (fun m => Value.slice (some ⟨m.1, 0, none⟩) n m.2)).set k (.slice none 0 0) = List.replicate (k + 1) (.slice none 0 0) ++ (ms.drop (k + 1)).map (fun m => .slice (some ⟨m.1, 0, none⟩) n m.2) := by
      rw [List.set_append_right _ _ (by simp), List.length_replicate, Nat.sub_self, List.drop_eq_getElem_cons hk, List.map_cons, List.set_cons_zero, List.replicate_succ', List.append_assoc]
      rfl
    rw [e] at hr3
    exact hr3
  · intro j m' f hj hm' hf
    have hne : m'.1 ≠ m.1 := fun e => by have := hp (j + 1) (k + 1) m.1 (by rw [hkk j m' hm', e]) (hkk k m hm); omega
    have hr := (h.rest j m' f (by omega) hm' hf).kept hK (fun x e => by simp only [bk, Option.map_some, Option.some.injEq] at e; subst e; exact hno _ (h.fm j m' (by omega) hm') hne)
    exact hr.kept h1 (fun x e => by simp only [bk, Option.map_some, Option.some.injEq] at e; subst e; exact hg0m j m' hm')
  · intro x e
    rw [hlg] at e
    simp only [Option.some.injEq] at e
    subst e
    exact hf0
  · intro j m' hj hm'
    have hne : m'.1 ≠ m.1 := fun e => by have := hp (j + 1) (k + 1) m.1 (by rw [hkk j m' hm', e]) (hkk k m hm); omega
    obtain ⟨f, hf⟩ : ∃ f, F[j]? = some f := ⟨_, List.getElem?_eq_getElem (by rw [← hFl]; exact (List.getElem?_eq_some_iff.1 hm').1)⟩
    exact hF m'.1 (h.fm j m' (by omega) hm') (fun e => by simp only [bk, Option.map_some, Option.some.injEq] at e; exact hne e.symm) ((h.rest j m' f (by omega) hm' hf).lt rfl)
set_option maxRecDepth 100000 in
set_option maxHeartbeats 16000000 in
theorem owned_walk (r : RawC) (sa : Option Addr) (sc : Nat) (acts : List ActR) (w : World) (hr : r.ok) (hsa : ActsAt w sa acts) (hlen : acts.length ≤ 20000000) (htab : ∀ u, Below w.heap.size w u → tab10 u) :
    Calls Tryd.prog 4 #[.agg #[.int .i64 r.sources, .int .i64 r.slack, .int .i64 r.policy, .int .i64 r.room, .int .i64 r.idle, .int .i64 r.pattern], .slice sa acts.length sc] w fun e w' => e = .returned (.bool true) ∧ Below w.heap.size w w' := by
  obtain ⟨c, HC⟩ := hex r.cfg
  have HOK : Hid c.ok := by show c.ok; rw [HC.out]; exact r.cfg_ok
  obtain ⟨n, hn⟩ : ∃ n : Nat, c.sources = n := ⟨c.sources.toNat, by have := HOK.out.1.1; omega⟩
  have HNn : Hid (c.sources = n) := hn
  have hn6 : 1 ≤ n ∧ n ≤ 6 := by have := HOK.out.1.1; have := HOK.out.1.2.1; omega
  have HP3 : Hid (c.ps.length ≤ 3) := by show _ ≤ _; rw [HC.out]; exact cfg_ps31 r
  have hcf : ∀ u, Below w.heap.size w u → Calls Tryd.prog 6 #[.agg #[.int .i64 r.sources, .int .i64 r.slack, .int .i64 r.policy, .int .i64 r.room, .int .i64 r.idle, .int .i64 r.pattern]] u fun e w' => e = .returned (.agg #[.int .i64 c.sources, .int .i64 c.slack, .int .i64 c.policy, .int .i64 c.room, .int .i64 c.idle, .string c.pat]) ∧ Below u.heap.size u w' := fun u hu => by rw [HC.out]; exact config_any r u hr (fun v hv => htab v (hu.trans (hv.mono hu.size)))
  have HMd : Hid (∀ u, Calls Tryd.prog 8 #[.agg #[.int .i64 c.sources, .int .i64 c.slack, .int .i64 c.policy, .int .i64 c.room, .int .i64 c.idle, .string c.pat]] u fun e w' => ∃ b sg sc p, e = .returned (.tuple #[.pointer (some ⟨b, 0, none⟩), .bool true]) ∧ MemX w' b (newEng c n sg sc p) ∧ (∀ k, some k ∈ (newEng c n sg sc p).fp b → u.heap.size ≤ k) ∧ Below u.heap.size u w') := fun u => made_any n c u hn HOK.out
  have HFl : Hid (∀ u, Calls Tryd.prog 23 #[.agg #[.int .i64 c.sources, .int .i64 c.slack, .int .i64 c.policy, .int .i64 c.room, .int .i64 c.idle, .string c.pat]] u fun e w' => e = .returned (.bool true) ∧ Below u.heap.size u w') := fun u => flows_true n c u hn HOK.out
  have HSA : Hid (ActsAt w sa acts) := hsa
  clear hn hsa htab hr HC
  obtain ⟨w0, HW0⟩ := hex (w.alloc (.cells r.vals.toArray 23))
  obtain ⟨rb, HRb⟩ := hex w.heap.size
  have HR0 : Hid (Blk w0 rb 23 r.vals) := by show Blk _ _ _ _; rw [HW0.out, HRb.out]; exact blk_alloc _ _ _
  have H0 : Hid (Below w.heap.size w w0) := by show Below _ _ _; rw [HW0.out]; exact (Below.refl _ _).alloc (Nat.le_refl _) _
  have hw0 : w.alloc (.cells #[.int .i64 r.sources, .int .i64 r.slack, .int .i64 r.policy, .int .i64 r.room, .int .i64 r.idle, .int .i64 r.pattern] 23) = w0 := HW0.out.symm
  go_enter Tryd.func4, Tryd.ntmps4
  go_upto_region 1 with fail
  rw [← HRb.out]
  clear hw0 HW0 HRb
  have r0 := HR0.out.cell 0
  have r1 := HR0.out.cell 1
  have r2 := HR0.out.cell 2
  have r3 := HR0.out.cell 3
  have r4 := HR0.out.cell 4
  have r5 := HR0.out.cell 5
  simp only [RawC.vals, List.getElem?_cons_zero, List.getElem?_cons_succ] at r0 r1 r2 r3 r4 r5
  go_upto_region 2 with (go_at_call 6; refine (hcf _ H0.out).mono ?_; rintro e w1 ⟨rfl, hb1⟩)
  have HB1 : Hid (Below w.heap.size w w1) := H0.out.trans (hb1.mono H0.out.size)
  clear hcf hb1 H0 r0 r1 r2 r3 r4 r5 HR0
  obtain ⟨w2, HW2⟩ := hex (w1.alloc (.cells c.vals.toArray 26))
  have hw2 : w1.alloc (.cells #[.int .i64 c.sources, .int .i64 c.slack, .int .i64 c.policy, .int .i64 c.room, .int .i64 c.idle, .string c.pat] 26) = w2 := HW2.out.symm
  rw [hw2]
  obtain ⟨cb, HCb⟩ := hex w1.heap.size
  have HC2 : Hid (Blk w2 cb 26 c.vals) := by show Blk _ _ _ _; rw [HW2.out, HCb.out]; exact blk_alloc _ _ _
  have HB2 : Hid (Below w.heap.size w w2) := by show Below _ _ _; rw [HW2.out]; exact HB1.out.alloc HB1.out.size _
  rw [← HCb.out]
  clear hw2 HW2 HCb HB1
  have k0 := HC2.out.cell 0
  have k1 := HC2.out.cell 1
  have k2 := HC2.out.cell 2
  have k3 := HC2.out.cell 3
  have k4 := HC2.out.cell 4
  have k5 := HC2.out.cell 5
  simp only [Cfg.vals, List.getElem?_cons_zero, List.getElem?_cons_succ] at k0 k1 k2 k3 k4 k5
  go_upto_region 3 with (go_at_call 8; refine (HMd.out _).mono ?_; rintro e w3 ⟨b, sg, scc, pv, rfl, hM, hf, hb⟩)
  have HM3 : Hid (MemX w3 b (newEng c n sg scc pv) ∧ (∀ k, some k ∈ (newEng c n sg scc pv).fp b → w2.heap.size ≤ k) ∧ Below w2.heap.size w2 w3) := ⟨hM, hf, hb⟩
  have HC3 : Hid (Blk w3 cb 26 c.vals) := HC2.out.below hb HC2.out.lt
  clear hM hf hb k0 k1 k2 k3 k4 k5
  have k0 := HC3.out.cell 0
  have k1 := HC3.out.cell 1
  have k2 := HC3.out.cell 2
  have k3 := HC3.out.cell 3
  have k4 := HC3.out.cell 4
  have k5 := HC3.out.cell 5
  simp only [Cfg.vals, List.getElem?_cons_zero, List.getElem?_cons_succ] at k0 k1 k2 k3 k4 k5
  go_upto_region 4 with (go_at_call 8; refine (HMd.out _).mono ?_; rintro e w4 ⟨b', sg', scc', pv', rfl, hM, hf, hb⟩)
  obtain ⟨bs, HBs⟩ := hex [(cb, 26, c.vals)]
  have HK4 : Hid (Two w w4 b b' bs (newEng c n sg scc pv) (newEng c n sg' scc' pv')) := by
    refine Two.start HB2.out ?_ HM3.out.1 HM3.out.2.1 HM3.out.2.2 hM hf hb
    rw [HBs.out]
    intro x hx
    simp only [List.mem_cons, List.not_mem_nil, or_false] at hx
    subst hx
    exact HC2.out
  clear hM hf hb k0 k1 k2 k3 k4 k5 HC2 HC3 HB2 HMd HM3
  have k0 := (HK4.out.bx (cb, 26, c.vals) (HBs.out ▸ by simp)).cell 0
  have k1 := (HK4.out.bx (cb, 26, c.vals) (HBs.out ▸ by simp)).cell 1
  have k2 := (HK4.out.bx (cb, 26, c.vals) (HBs.out ▸ by simp)).cell 2
  have k3 := (HK4.out.bx (cb, 26, c.vals) (HBs.out ▸ by simp)).cell 3
  have k4 := (HK4.out.bx (cb, 26, c.vals) (HBs.out ▸ by simp)).cell 4
  have k5 := (HK4.out.bx (cb, 26, c.vals) (HBs.out ▸ by simp)).cell 5
  simp only [Cfg.vals, List.getElem?_cons_zero, List.getElem?_cons_succ] at k0 k1 k2 k3 k4 k5
  have hjx : ∀ u, Two w u b b' bs (newEng c n sg scc pv) (newEng c n sg' scc' pv') → Calls Tryd.prog 9 #[.pointer (some ⟨b, 0, none⟩), .agg #[.int .i64 c.sources, .int .i64 c.slack, .int .i64 c.policy, .int .i64 c.room, .int .i64 c.idle, .string c.pat]] u fun e w' => e = .returned (.bool true) ∧ ∃ M X, Like M X (joinSeq (newRef c n none 0 0) n) ∧ lineOf X = lineOf (newEng c n sg scc pv) ∧ X.srcs.length = n ∧ Two w w' b b' bs X (newEng c n sg' scc' pv') := fun u hu => by
    refine (joined_seq b n c (newEng c n sg scc pv) (newRef c n none 0 0) u hu.mx (new_like HNn.out HOK.out) HNn.out hn6.2 (by show (List.replicate n zP).length = n; simp)).mono ?_
    rintro e w' ⟨he, M, Y, h1, h2, h3, hev⟩
    exact ⟨he, M, Y, h1, h2, h3, hu.evoX hev⟩
  go_upto_region 7 with (go_at_call 9; refine (hjx _ HK4.out).mono ?_; rintro e w5 ⟨rfl, M5, X5, hl5, hi5, hn5, hk5⟩)
  have HK5 : Hid (Two w w5 b b' bs X5 (newEng c n sg' scc' pv')) := hk5
  have HL5 : Hid (Like M5 X5 (joinSeq (newRef c n none 0 0) n) ∧ lineOf X5 = lineOf (newEng c n sg scc pv) ∧ X5.srcs.length = n) := ⟨hl5, hi5, hn5⟩
  clear hjx hk5 hl5 hi5 hn5 k0 k1 k2 k3 k4 k5 HK4
  have k0 := (HK5.out.bx (cb, 26, c.vals) (HBs.out ▸ by simp)).cell 0
  have k1 := (HK5.out.bx (cb, 26, c.vals) (HBs.out ▸ by simp)).cell 1
  have k2 := (HK5.out.bx (cb, 26, c.vals) (HBs.out ▸ by simp)).cell 2
  have k3 := (HK5.out.bx (cb, 26, c.vals) (HBs.out ▸ by simp)).cell 3
  have k4 := (HK5.out.bx (cb, 26, c.vals) (HBs.out ▸ by simp)).cell 4
  have k5 := (HK5.out.bx (cb, 26, c.vals) (HBs.out ▸ by simp)).cell 5
  simp only [Cfg.vals, List.getElem?_cons_zero, List.getElem?_cons_succ] at k0 k1 k2 k3 k4 k5
  have hjy : ∀ u, Two w u b b' bs X5 (newEng c n sg' scc' pv') → Calls Tryd.prog 9 #[.pointer (some ⟨b', 0, none⟩), .agg #[.int .i64 c.sources, .int .i64 c.slack, .int .i64 c.policy, .int .i64 c.room, .int .i64 c.idle, .string c.pat]] u fun e w' => e = .returned (.bool true) ∧ ∃ M X, Like M X (joinSeq (newRef c n none 0 0) n) ∧ lineOf X = lineOf (newEng c n sg' scc' pv') ∧ X.srcs.length = n ∧ Two w w' b b' bs X5 X := fun u hu => by
    refine (joined_seq b' n c (newEng c n sg' scc' pv') (newRef c n none 0 0) u hu.my (new_like HNn.out HOK.out) HNn.out hn6.2 (by show (List.replicate n zP).length = n; simp)).mono ?_
    rintro e w' ⟨he, M, Y, h1, h2, h3, hev⟩
    exact ⟨he, M, Y, h1, h2, h3, hu.evoY hev⟩
  go_upto_region 8 with (go_at_call 9; refine (hjy _ HK5.out).mono ?_; rintro e w6 ⟨rfl, M6, Y6, hl6, hi6, hn6', hk6⟩)
  have HK6 : Hid (Two w w6 b b' bs X5 Y6) := hk6
  have HT6 : Hid (Twin (fun _ => True) X5 Y6) := twin_of HL5.out.1 hl6 (HL5.out.2.1.trans ((new_lines _ _ _ _ _ _ _ _ _).trans hi6.symm))
  have HLX : Hid (X5.srcs.length = n ∧ Y6.srcs.length = n ∧ X5.c = c) := ⟨HL5.out.2.2, hn6', joinedX_c HL5.out.1⟩
  clear hjy hk6 hl6 hi6 hn6' k0 k1 k2 k3 k4 k5 HK5 HL5
  go_upto_region 11 with fail
  obtain ⟨w7, HW7⟩ := hex (w6.alloc (.cells #[.slice none 0 0, .slice none 0 0] 50))
  rw [← HW7.out]
  obtain ⟨hb, HHb⟩ := hex w6.heap.size
  rw [← HHb.out]
  have HH0 : Hid (Hld w w7 b b' bs X5 Y6 hb none 0 [] none 0 []) := by
    have hbl : Below w6.heap.size w6 w7 := by rw [HW7.out]; exact (Below.refl _ _).alloc (Nat.le_refl _) _
    have sx := HK6.out.mx.fp_lt
    have sy := HK6.out.my.fp_lt
    have s0 := HK6.out.bel.size
    have hm : ∀ k, some k ∈ hfp hb none [] none [] → k = w6.heap.size := fun k hk => by
      rw [HHb.out] at hk
      rcases mem_hfp.1 hk with e | e | e | e | e
      · exact e
      · cases e
      · cases e
      · simp [fp1] at e
      · simp [fp1] at e
    refine ⟨HK6.out.below hbl, by rw [HW7.out, HHb.out]; exact blk_alloc w6 [.slice none 0 0, .slice none 0 0] _, Lists1.nil _ _, Lists1.nil _ _, by simp [bk], by simp [bk], by simp [fp1], fun k e => (by cases e), fun k e => (by cases e), fun k e => ?_, fun k e f => ?_, fun k e f => ?_, fun x hx => ?_⟩
    · rcases e with e | e | e
      · rw [e, HHb.out]; exact s0
      · cases e
      · cases e
    · have := hm k e; have := sx k f; omega
    · have := hm k e; have := sy k f; omega
    · refine ⟨fun e => ?_, by simp [bk], by simp [bk]⟩
      have := (HK6.out.bx x hx).lt
      rw [e, HHb.out] at this
      omega
  clear HW7 HHb HK6
  go_wp2
  go_loopw [11] (fun iv wr => ∃ (i : Nat) (X Y : Eng) (ea : Option Addr) (ec : Nat) (el : List E1) (ia : Option Addr) (ic : Nat) (il : List E1), i ≤ acts.length ∧ iv = .int .i64 i ∧ (X.srcs.length = n ∧ Y.srcs.length = n ∧ X.c = c) ∧ Twin (fun _ => True) X Y ∧ Hld w wr b b' bs X Y hb ea ec el ia ic il ∧ el.length ≤ 2 * i ∧ il.length ≤ 100 * i) (fun iv _ => acts.length - (intOf iv).toNat)
  case atStart => exact ⟨0, X5, Y6, none, 0, [], none, 0, [], Nat.zero_le _, rfl, HLX.out, HT6.out, HH0.out, by simp, by simp⟩
  case round =>
    clear HLX HT6 HH0
    obtain ⟨i, X, Y, ea, ec, el, ia, ic, il, hi, rfl, hlx, ht, hk, hel, hil⟩ := hrel
    have HK : Hid (Hld w wr b b' bs X Y hb ea ec el ia ic il) := hk
    have HT : Hid (Twin (fun _ => True) X Y) := ht
    have HLX : Hid (X.srcs.length = n ∧ Y.srcs.length = n ∧ X.c = c) := hlx
    have HEL : Hid (el.length ≤ 2 * i ∧ il.length ≤ 100 * i) := ⟨hel, hil⟩
    clear hk ht hlx hel hil
    by_cases hle : i < acts.length
    · have hle' : (i : Int) < (acts.length : Int) := by omega
      have hi00 : (0 : Int) ≤ (i : Int) := by omega
      obtain ⟨hao, ab, ao, hsab, hal, hac⟩ := HSA.out i hle
      obtain ⟨a, HAa⟩ := hex acts[i]
      rw [← HAa.out] at hao hac
      have HAo : Hid a.ok := hao
      have HAL : Hid (ab < w.heap.size ∧ ∀ o, o < 8 → w.cell? ⟨ab, ao + i * 8 + o, none⟩ = a.cells[o]?) := ⟨hal, hac⟩
      clear hac hao hal HAa
      subst hsab
      have k0 := (HK.out.two.bx (cb, 26, c.vals) (HBs.out ▸ by simp)).cell 0
      have k1 := (HK.out.two.bx (cb, 26, c.vals) (HBs.out ▸ by simp)).cell 1
      have k2 := (HK.out.two.bx (cb, 26, c.vals) (HBs.out ▸ by simp)).cell 2
      have k3 := (HK.out.two.bx (cb, 26, c.vals) (HBs.out ▸ by simp)).cell 3
      have k4 := (HK.out.two.bx (cb, 26, c.vals) (HBs.out ▸ by simp)).cell 4
      have k5 := (HK.out.two.bx (cb, 26, c.vals) (HBs.out ▸ by simp)).cell 5
      simp only [Cfg.vals, List.getElem?_cons_zero, List.getElem?_cons_succ] at k0 k1 k2 k3 k4 k5
      have bb : ∀ o, o < 8 → wr.cell? ⟨ab, ao + i * 8 + o, none⟩ = a.cells[o]? := fun o ho => (HK.out.two.bel.cell (p := ⟨ab, ao + i * 8 + o, none⟩) HAL.out.1).trans (HAL.out.2 o ho)
      have a0 := bb 0 (by omega)
      have a1 := bb 1 (by omega)
      have a2 := bb 2 (by omega)
      have a3 := bb 3 (by omega)
      have a4 := bb 4 (by omega)
      have a5 := bb 5 (by omega)
      have a6 := bb 6 (by omega)
      have a7 := bb 7 (by omega)
      simp only [ActR.cells, List.getElem?_cons_zero, List.getElem?_cons_succ, Nat.add_zero] at a0 a1 a2 a3 a4 a5 a6 a7
      clear bb
      have hdo : ∀ u, Hld w u b b' bs X Y hb ea ec el ia ic il → Calls Tryd.prog 11 #[.pointer (some ⟨b, 0, none⟩), .agg #[.int .i64 c.sources, .int .i64 c.slack, .int .i64 c.policy, .int .i64 c.room, .int .i64 c.idle, .string c.pat], .agg #[.int .i64 a.d, .int .i64 a.s, .int .i64 a.n, .int .i64 a.E.src, .int .i64 a.E.seq, .int .i64 a.E.ts, .int .i64 a.E.kind, .int .i64 a.E.val]] u fun e w' => ∃ z X', e = .returned (.int .i64 z) ∧ DoneX X (srcI c a) a z X' ∧ Hld w w' b b' bs X' Y hb ea ec el ia ic il := fun u hu => by
        obtain ⟨N, R, hl1, hl2⟩ := HT.out.lk
        refine (done_rel b c X R a u hu.two.mx hl1 HAo.out (by rw [HNn.out]; omega)).mono ?_
        rintro e w' ⟨z, X', he, hD, hev⟩
        exact ⟨z, X', he, hD, hu.evoX hev⟩
      go_upto_region 14 with fail
      refine upTo_region (fun u : World => u.cell? ⟨cb, 0, none⟩ = some (.int .i64 c.sources) ∧ u.cell? ⟨cb, 1, none⟩ = some (.int .i64 c.slack) ∧ u.cell? ⟨cb, 2, none⟩ = some (.int .i64 c.policy) ∧ u.cell? ⟨cb, 3, none⟩ = some (.int .i64 c.room) ∧ u.cell? ⟨cb, 4, none⟩ = some (.int .i64 c.idle) ∧ u.cell? ⟨cb, 5, none⟩ = some (.string c.pat) ∧ u.cell? ⟨ab, ao + i * 8, none⟩ = some (.int .i64 a.d) ∧ u.cell? ⟨ab, ao + i * 8 + 1, none⟩ = some (.int .i64 a.s) ∧ u.cell? ⟨ab, ao + i * 8 + 2, none⟩ = some (.int .i64 a.n) ∧ u.cell? ⟨ab, ao + i * 8 + 3, none⟩ = some (.int .i64 a.E.src) ∧ u.cell? ⟨ab, ao + i * 8 + 4, none⟩ = some (.int .i64 a.E.seq) ∧ u.cell? ⟨ab, ao + i * 8 + 5, none⟩ = some (.int .i64 a.E.ts) ∧ u.cell? ⟨ab, ao + i * 8 + 6, none⟩ = some (.int .i64 a.E.kind) ∧ u.cell? ⟨ab, ao + i * 8 + 7, none⟩ = some (.int .i64 a.E.val)) 8 8 rfl (by kernel_rfl) ?_
      have hS0 : (fun u : World => u.cell? ⟨cb, 0, none⟩ = some (.int .i64 c.sources) ∧ u.cell? ⟨cb, 1, none⟩ = some (.int .i64 c.slack) ∧ u.cell? ⟨cb, 2, none⟩ = some (.int .i64 c.policy) ∧ u.cell? ⟨cb, 3, none⟩ = some (.int .i64 c.room) ∧ u.cell? ⟨cb, 4, none⟩ = some (.int .i64 c.idle) ∧ u.cell? ⟨cb, 5, none⟩ = some (.string c.pat) ∧ u.cell? ⟨ab, ao + i * 8, none⟩ = some (.int .i64 a.d) ∧ u.cell? ⟨ab, ao + i * 8 + 1, none⟩ = some (.int .i64 a.s) ∧ u.cell? ⟨ab, ao + i * 8 + 2, none⟩ = some (.int .i64 a.n) ∧ u.cell? ⟨ab, ao + i * 8 + 3, none⟩ = some (.int .i64 a.E.src) ∧ u.cell? ⟨ab, ao + i * 8 + 4, none⟩ = some (.int .i64 a.E.seq) ∧ u.cell? ⟨ab, ao + i * 8 + 5, none⟩ = some (.int .i64 a.E.ts) ∧ u.cell? ⟨ab, ao + i * 8 + 6, none⟩ = some (.int .i64 a.E.kind) ∧ u.cell? ⟨ab, ao + i * 8 + 7, none⟩ = some (.int .i64 a.E.val)) wr.drew := ⟨k0, k1, k2, k3, k4, k5, a0, a1, a2, a3, a4, a5, a6, a7⟩
      refine upTo_take2 (i := 0) (v := ?v36_0) rfl (by kernel_rfl) (by kernel_rfl) (by kernel_rfl) rfl (fun _ _ _ h => h) (by rfl) hS0 ?hy36_0 ?rest36_0
      case hy36_0 => (intro u hu; (try dsimp only at hu); go_simp; first | done | with_reducible rfl)
      (try simp only [Act.put, List.setIfInBounds_toArray, List.set_cons_zero, List.set_cons_succ, List.getElem_toArray, List.getElem_cons_succ, List.getElem_cons_zero])
      refine upTo_take2 (i := 1) (v := ?v36_1) rfl (by kernel_rfl) (by kernel_rfl) (by kernel_rfl) rfl (fun _ _ _ h => h) (by rfl) hS0 ?hy36_1 ?rest36_1
      case hy36_1 => (intro u hu; (try dsimp only at hu); go_simp; first | done | with_reducible rfl)
      (try simp only [Act.put, List.setIfInBounds_toArray, List.set_cons_zero, List.set_cons_succ, List.getElem_toArray, List.getElem_cons_succ, List.getElem_cons_zero])
      refine upTo_take2 (i := 2) (v := ?v36_2) rfl (by kernel_rfl) (by kernel_rfl) (by kernel_rfl) rfl (fun _ _ _ h => h) (by rfl) hS0 ?hy36_2 ?rest36_2
      case hy36_2 => (intro u hu; (try dsimp only at hu); go_simp; first | done | with_reducible rfl)
      (try simp only [Act.put, List.setIfInBounds_toArray, List.set_cons_zero, List.set_cons_succ, List.getElem_toArray, List.getElem_cons_succ, List.getElem_cons_zero])
      refine upTo_take2 (i := 3) (v := ?v36_3) rfl (by kernel_rfl) (by kernel_rfl) (by kernel_rfl) rfl (fun _ _ _ h => h) (by rfl) hS0 ?hy36_3 ?rest36_3
      case hy36_3 => (intro u hu; (try dsimp only at hu); go_simp; first | done | with_reducible rfl)
      (try simp only [Act.put, List.setIfInBounds_toArray, List.set_cons_zero, List.set_cons_succ, List.getElem_toArray, List.getElem_cons_succ, List.getElem_cons_zero])
      refine upTo_take2 (i := 4) (v := ?v36_4) rfl (by kernel_rfl) (by kernel_rfl) (by kernel_rfl) rfl (fun _ _ _ h => h) (by rfl) hS0 ?hy36_4 ?rest36_4
      case hy36_4 => (intro u hu; (try dsimp only at hu); go_simp; first | done | with_reducible rfl)
      (try simp only [Act.put, List.setIfInBounds_toArray, List.set_cons_zero, List.set_cons_succ, List.getElem_toArray, List.getElem_cons_succ, List.getElem_cons_zero])
      refine upTo_take2 (i := 5) (v := ?v36_5) rfl (by kernel_rfl) (by kernel_rfl) (by kernel_rfl) rfl (fun _ _ _ h => h) (by rfl) hS0 ?hy36_5 ?rest36_5
      case hy36_5 => (intro u hu; (try dsimp only at hu); go_simp; first | done | with_reducible rfl)
      (try simp only [Act.put, List.setIfInBounds_toArray, List.set_cons_zero, List.set_cons_succ, List.getElem_toArray, List.getElem_cons_succ, List.getElem_cons_zero])
      clear hS0 k0 k1 k2 k3 k4 k5 a0 a1 a2 a3 a4 a5 a6 a7
      refine upTo_one (i := 6) (by kernel_rfl) rfl (fun K hK => ?_)
      go_simp
      refine (hdo _ (HK.out.below ((Below.refl _ wr).drew))).mono ?_
      rintro e v1 ⟨z, X1, rfl, hDw, hkw⟩
      have HKv1 : Hid (Hld w v1 b b' bs X1 Y hb ea ec el ia ic il) := hkw
      have HDv1 : Hid (DoneX X (srcI c a) a z X1) := hDw
      clear hkw hDw hdo
      have k0 := (HKv1.out.two.bx (cb, 26, c.vals) (HBs.out ▸ by simp)).cell 0
      have k1 := (HKv1.out.two.bx (cb, 26, c.vals) (HBs.out ▸ by simp)).cell 1
      have k2 := (HKv1.out.two.bx (cb, 26, c.vals) (HBs.out ▸ by simp)).cell 2
      have k3 := (HKv1.out.two.bx (cb, 26, c.vals) (HBs.out ▸ by simp)).cell 3
      have k4 := (HKv1.out.two.bx (cb, 26, c.vals) (HBs.out ▸ by simp)).cell 4
      have k5 := (HKv1.out.two.bx (cb, 26, c.vals) (HBs.out ▸ by simp)).cell 5
      simp only [Cfg.vals, List.getElem?_cons_zero, List.getElem?_cons_succ] at k0 k1 k2 k3 k4 k5
      have bb : ∀ o, o < 8 → v1.cell? ⟨ab, ao + i * 8 + o, none⟩ = a.cells[o]? := fun o ho => (HKv1.out.two.bel.cell (p := ⟨ab, ao + i * 8 + o, none⟩) HAL.out.1).trans (HAL.out.2 o ho)
      have a0 := bb 0 (by omega)
      have a1 := bb 1 (by omega)
      have a2 := bb 2 (by omega)
      have a3 := bb 3 (by omega)
      have a4 := bb 4 (by omega)
      have a5 := bb 5 (by omega)
      have a6 := bb 6 (by omega)
      have a7 := bb 7 (by omega)
      simp only [ActR.cells, List.getElem?_cons_zero, List.getElem?_cons_succ, Nat.add_zero] at a0 a1 a2 a3 a4 a5 a6 a7
      clear bb
      refine hK.out _ _ (fun _ => ⟨k0, k1, k2, k3, k4, k5, a0, a1, a2, a3, a4, a5, a6, a7⟩) ?_
      clear hK K
      (try simp only [Act.put, List.setIfInBounds_toArray, List.set_cons_zero, List.set_cons_succ, List.getElem_toArray, List.getElem_cons_succ, List.getElem_cons_zero])
      refine upTo_one (i := 7) (by kernel_rfl) rfl (fun K hK => ?_)
      go_simp
      refine hK.out _ _ (fun _ => ⟨k0, k1, k2, k3, k4, k5, a0, a1, a2, a3, a4, a5, a6, a7⟩) ?_
      clear hK K
      (try simp only [Act.put, List.setIfInBounds_toArray, List.set_cons_zero, List.set_cons_succ, List.getElem_toArray, List.getElem_cons_succ, List.getElem_cons_zero])
      refine upTo_done (by kernel_rfl) ?_
      have hdo : ∀ u, Hld w u b b' bs X1 Y hb ea ec el ia ic il → Calls Tryd.prog 11 #[.pointer (some ⟨b', 0, none⟩), .agg #[.int .i64 c.sources, .int .i64 c.slack, .int .i64 c.policy, .int .i64 c.room, .int .i64 c.idle, .string c.pat], .agg #[.int .i64 a.d, .int .i64 a.s, .int .i64 a.n, .int .i64 a.E.src, .int .i64 a.E.seq, .int .i64 a.E.ts, .int .i64 a.E.kind, .int .i64 a.E.val]] u fun e w' => ∃ z X', e = .returned (.int .i64 z) ∧ DoneX Y (srcI c a) a z X' ∧ Hld w w' b b' bs X1 X' hb ea ec el ia ic il := fun u hu => by
        obtain ⟨N, R, hl1, hl2⟩ := HT.out.lk
        refine (done_rel b' c Y R a u hu.two.my hl2 HAo.out (by rw [HNn.out]; omega)).mono ?_
        rintro e w' ⟨z, X', he, hD, hev⟩
        exact ⟨z, X', he, hD, hu.evoY hev⟩
      go_upto_region 15 with fail
      refine upTo_region (fun u : World => u.cell? ⟨cb, 0, none⟩ = some (.int .i64 c.sources) ∧ u.cell? ⟨cb, 1, none⟩ = some (.int .i64 c.slack) ∧ u.cell? ⟨cb, 2, none⟩ = some (.int .i64 c.policy) ∧ u.cell? ⟨cb, 3, none⟩ = some (.int .i64 c.room) ∧ u.cell? ⟨cb, 4, none⟩ = some (.int .i64 c.idle) ∧ u.cell? ⟨cb, 5, none⟩ = some (.string c.pat) ∧ u.cell? ⟨ab, ao + i * 8, none⟩ = some (.int .i64 a.d) ∧ u.cell? ⟨ab, ao + i * 8 + 1, none⟩ = some (.int .i64 a.s) ∧ u.cell? ⟨ab, ao + i * 8 + 2, none⟩ = some (.int .i64 a.n) ∧ u.cell? ⟨ab, ao + i * 8 + 3, none⟩ = some (.int .i64 a.E.src) ∧ u.cell? ⟨ab, ao + i * 8 + 4, none⟩ = some (.int .i64 a.E.seq) ∧ u.cell? ⟨ab, ao + i * 8 + 5, none⟩ = some (.int .i64 a.E.ts) ∧ u.cell? ⟨ab, ao + i * 8 + 6, none⟩ = some (.int .i64 a.E.kind) ∧ u.cell? ⟨ab, ao + i * 8 + 7, none⟩ = some (.int .i64 a.E.val)) 8 8 rfl (by kernel_rfl) ?_
      have hS0 : (fun u : World => u.cell? ⟨cb, 0, none⟩ = some (.int .i64 c.sources) ∧ u.cell? ⟨cb, 1, none⟩ = some (.int .i64 c.slack) ∧ u.cell? ⟨cb, 2, none⟩ = some (.int .i64 c.policy) ∧ u.cell? ⟨cb, 3, none⟩ = some (.int .i64 c.room) ∧ u.cell? ⟨cb, 4, none⟩ = some (.int .i64 c.idle) ∧ u.cell? ⟨cb, 5, none⟩ = some (.string c.pat) ∧ u.cell? ⟨ab, ao + i * 8, none⟩ = some (.int .i64 a.d) ∧ u.cell? ⟨ab, ao + i * 8 + 1, none⟩ = some (.int .i64 a.s) ∧ u.cell? ⟨ab, ao + i * 8 + 2, none⟩ = some (.int .i64 a.n) ∧ u.cell? ⟨ab, ao + i * 8 + 3, none⟩ = some (.int .i64 a.E.src) ∧ u.cell? ⟨ab, ao + i * 8 + 4, none⟩ = some (.int .i64 a.E.seq) ∧ u.cell? ⟨ab, ao + i * 8 + 5, none⟩ = some (.int .i64 a.E.ts) ∧ u.cell? ⟨ab, ao + i * 8 + 6, none⟩ = some (.int .i64 a.E.kind) ∧ u.cell? ⟨ab, ao + i * 8 + 7, none⟩ = some (.int .i64 a.E.val)) v1.drew := ⟨k0, k1, k2, k3, k4, k5, a0, a1, a2, a3, a4, a5, a6, a7⟩
      refine upTo_take2 (i := 0) (v := ?v37_0) rfl (by kernel_rfl) (by kernel_rfl) (by kernel_rfl) rfl (fun _ _ _ h => h) (by rfl) hS0 ?hy37_0 ?rest37_0
      case hy37_0 => (intro u hu; (try dsimp only at hu); go_simp; first | done | with_reducible rfl)
      (try simp only [Act.put, List.setIfInBounds_toArray, List.set_cons_zero, List.set_cons_succ, List.getElem_toArray, List.getElem_cons_succ, List.getElem_cons_zero])
      refine upTo_take2 (i := 1) (v := ?v37_1) rfl (by kernel_rfl) (by kernel_rfl) (by kernel_rfl) rfl (fun _ _ _ h => h) (by rfl) hS0 ?hy37_1 ?rest37_1
      case hy37_1 => (intro u hu; (try dsimp only at hu); go_simp; first | done | with_reducible rfl)
      (try simp only [Act.put, List.setIfInBounds_toArray, List.set_cons_zero, List.set_cons_succ, List.getElem_toArray, List.getElem_cons_succ, List.getElem_cons_zero])
      refine upTo_take2 (i := 2) (v := ?v37_2) rfl (by kernel_rfl) (by kernel_rfl) (by kernel_rfl) rfl (fun _ _ _ h => h) (by rfl) hS0 ?hy37_2 ?rest37_2
      case hy37_2 => (intro u hu; (try dsimp only at hu); go_simp; first | done | with_reducible rfl)
      (try simp only [Act.put, List.setIfInBounds_toArray, List.set_cons_zero, List.set_cons_succ, List.getElem_toArray, List.getElem_cons_succ, List.getElem_cons_zero])
      refine upTo_take2 (i := 3) (v := ?v37_3) rfl (by kernel_rfl) (by kernel_rfl) (by kernel_rfl) rfl (fun _ _ _ h => h) (by rfl) hS0 ?hy37_3 ?rest37_3
      case hy37_3 => (intro u hu; (try dsimp only at hu); go_simp; first | done | with_reducible rfl)
      (try simp only [Act.put, List.setIfInBounds_toArray, List.set_cons_zero, List.set_cons_succ, List.getElem_toArray, List.getElem_cons_succ, List.getElem_cons_zero])
      refine upTo_take2 (i := 4) (v := ?v37_4) rfl (by kernel_rfl) (by kernel_rfl) (by kernel_rfl) rfl (fun _ _ _ h => h) (by rfl) hS0 ?hy37_4 ?rest37_4
      case hy37_4 => (intro u hu; (try dsimp only at hu); go_simp; first | done | with_reducible rfl)
      (try simp only [Act.put, List.setIfInBounds_toArray, List.set_cons_zero, List.set_cons_succ, List.getElem_toArray, List.getElem_cons_succ, List.getElem_cons_zero])
      refine upTo_take2 (i := 5) (v := ?v37_5) rfl (by kernel_rfl) (by kernel_rfl) (by kernel_rfl) rfl (fun _ _ _ h => h) (by rfl) hS0 ?hy37_5 ?rest37_5
      case hy37_5 => (intro u hu; (try dsimp only at hu); go_simp; first | done | with_reducible rfl)
      (try simp only [Act.put, List.setIfInBounds_toArray, List.set_cons_zero, List.set_cons_succ, List.getElem_toArray, List.getElem_cons_succ, List.getElem_cons_zero])
      clear hS0 k0 k1 k2 k3 k4 k5 a0 a1 a2 a3 a4 a5 a6 a7
      refine upTo_one (i := 6) (by kernel_rfl) rfl (fun K hK => ?_)
      go_simp
      refine (hdo _ (HKv1.out.below ((Below.refl _ v1).drew))).mono ?_
      rintro e v2 ⟨z', Y1, rfl, hDw, hkw⟩
      have HKv2 : Hid (Hld w v2 b b' bs X1 Y1 hb ea ec el ia ic il) := hkw
      have HDv2 : Hid (DoneX Y (srcI c a) a z' Y1) := hDw
      clear hkw hDw hdo
      have k0 := (HKv2.out.two.bx (cb, 26, c.vals) (HBs.out ▸ by simp)).cell 0
      have k1 := (HKv2.out.two.bx (cb, 26, c.vals) (HBs.out ▸ by simp)).cell 1
      have k2 := (HKv2.out.two.bx (cb, 26, c.vals) (HBs.out ▸ by simp)).cell 2
      have k3 := (HKv2.out.two.bx (cb, 26, c.vals) (HBs.out ▸ by simp)).cell 3
      have k4 := (HKv2.out.two.bx (cb, 26, c.vals) (HBs.out ▸ by simp)).cell 4
      have k5 := (HKv2.out.two.bx (cb, 26, c.vals) (HBs.out ▸ by simp)).cell 5
      simp only [Cfg.vals, List.getElem?_cons_zero, List.getElem?_cons_succ] at k0 k1 k2 k3 k4 k5
      have bb : ∀ o, o < 8 → v2.cell? ⟨ab, ao + i * 8 + o, none⟩ = a.cells[o]? := fun o ho => (HKv2.out.two.bel.cell (p := ⟨ab, ao + i * 8 + o, none⟩) HAL.out.1).trans (HAL.out.2 o ho)
      have a0 := bb 0 (by omega)
      have a1 := bb 1 (by omega)
      have a2 := bb 2 (by omega)
      have a3 := bb 3 (by omega)
      have a4 := bb 4 (by omega)
      have a5 := bb 5 (by omega)
      have a6 := bb 6 (by omega)
      have a7 := bb 7 (by omega)
      simp only [ActR.cells, List.getElem?_cons_zero, List.getElem?_cons_succ, Nat.add_zero] at a0 a1 a2 a3 a4 a5 a6 a7
      clear bb
      refine hK.out _ _ (fun _ => ⟨k0, k1, k2, k3, k4, k5, a0, a1, a2, a3, a4, a5, a6, a7⟩) ?_
      clear hK K
      (try simp only [Act.put, List.setIfInBounds_toArray, List.set_cons_zero, List.set_cons_succ, List.getElem_toArray, List.getElem_cons_succ, List.getElem_cons_zero])
      refine upTo_one (i := 7) (by kernel_rfl) rfl (fun K hK => ?_)
      go_simp
      refine hK.out _ _ (fun _ => ⟨k0, k1, k2, k3, k4, k5, a0, a1, a2, a3, a4, a5, a6, a7⟩) ?_
      clear hK K
      (try simp only [Act.put, List.setIfInBounds_toArray, List.set_cons_zero, List.set_cons_succ, List.getElem_toArray, List.getElem_cons_succ, List.getElem_cons_zero])
      refine upTo_done (by kernel_rfl) ?_
      obtain ⟨hze, htw⟩ := twin_done HT.out HDv1.out HDv2.out
      have HT6 : Hid (Twin (fun _ => True) X1 Y1) := htw
      have HL6 : Hid (X1.srcs.length = n ∧ Y1.srcs.length = n ∧ X1.c = c) := ⟨(doneX_grow HDv1.out).n.trans HLX.out.1, (doneX_grow HDv2.out).n.trans HLX.out.2.1, (doneX_grow HDv1.out).c.trans HLX.out.2.2⟩
      clear htw HDv1 HDv2 HT HLX k0 k1 k2 k3 k4 k5 a0 a1 a3 a4 a5 a6 a7 HK HKv1
      subst hze
      have hwt : IntKind.i64.wrap (a.n.tmod 2) = a.n.tmod 2 := by
        have h1 := Int.tmod_lt_of_pos a.n (show (0 : Int) < 2 by omega)
        have h2 : -2 < a.n.tmod 2 := Int.neg_lt_of_neg_lt (by have := Int.tmod_lt_of_pos (-a.n) (show (0 : Int) < 2 by omega); rw [Int.neg_tmod] at this; omega)
        rw [IntKind.wrap_i64]; omega
      by_cases hodd : a.n.tmod 2 = 0
      · have hev : (a.n.tmod 2 != 0) = false := by simpa using hodd
        clear hodd
        have HSn : Hid (SaneX X1 ∧ TsOk X1.log ∧ X1.c.ps.length ≤ 3) := by
          obtain ⟨N, R, hl1, _⟩ := HT6.out.lk
          exact ⟨hl1.sane, like_ts hl1, by rw [HL6.out.2.2]; exact HP3.out⟩
        have hlo : Calls Tryd.prog 16 #[.pointer (some ⟨b, 0, none⟩)] v2 fun e w' => ∃ (a : Option Addr) (c : Nat), e = .returned (.slice a X1.log.length c) ∧ w'.ownsRow v2.heap.size 37 5 (.slice a X1.log.length c) X1.log.length (evs X1.log) ∧ Below v2.heap.size v2 w' := xlog_any b X1 v2 HKv2.out.two.mx HSn.out.1.log
        have hle2 : el.length ≤ 5000000000000 ∧ il.length ≤ 4000000000000 := by have := HEL.out; omega
        go_upto_region 20 with (first
          | (go_at_call 16; refine hlo.mono ?_; rintro e v3 ⟨ga, gc, rfl, hown3, hb3⟩; have HR3 : Hid (Row v3 37 5 ga X1.log.length gc (evs X1.log)) := toRow hown3; have HF3 : Hid (∀ k, bk ga = some k → Fr w b b' bs X1 Y1 hb ea el ia il k) := fun k e => HKv2.out.fresh (hown3.lt k (by rw [bk_own]; exact e)).1; have HKv3 : Hid (Hld w v3 b b' bs X1 Y1 hb ea ec el ia ic il) := HKv2.out.below hb3; clear hown3 hb3)
          | (go_at_call 15; refine (hev_any hb _ ea ec el ga gc X1.log _ HKv3.out.blk HKv3.out.le hle2.1 HR3.out HSn.out.1.log (fun e => (HF3.out _ e).nh (mem_hfp.2 (Or.inl rfl))) (fun k e => ⟨fun f => (HF3.out k e).nh (mem_hfp.2 (Or.inr (Or.inl f))), fun f => (HF3.out k e).nh (mem_hfp.2 (Or.inr (Or.inr (Or.inr (Or.inl f)))))⟩) HKv3.out.eh HKv3.out.hn.1 (fun k e => (HKv3.out.ee k e).2.1)).mono ?_; rintro e v4 ⟨rfl, hown4⟩))
        obtain ⟨ea4, ec4, E4, hk4⟩ := HKv3.out.event HF3.out hown4
        have HKv4 : Hid (Hld w v4 b b' bs X1 Y1 hb ea4 ec4 (el ++ [E4]) ia ic il) := hk4
        obtain ⟨el4, HEl4⟩ := hex (el ++ [E4])
        rw [← HEl4.out] at HKv4
        have hel4 : el4.length = el.length + 1 := by rw [HEl4.out]; simp
        have HEl : Hid (el4.length = el.length + 1) := hel4
        have hle4 : el4.length ≤ 5000000000000 := by have := HEL.out; omega
        clear hown4 hk4 HR3 HF3 HKv3 HKv2 hlo HEl4 hel4
        have hlo : Calls Tryd.prog 17 #[.pointer (some ⟨b, 0, none⟩)] v4 fun e w' => ∃ (a : Option Addr) (c : Nat), e = .returned (.slice a X1.late.length c) ∧ w'.ownsRow v4.heap.size 37 5 (.slice a X1.late.length c) X1.late.length (evs X1.late) ∧ Below v4.heap.size v4 w' := xlate_any b X1 v4 HKv4.out.two.mx HSn.out.1.late
        go_upto_region 21 with (first
          | (go_at_call 17; refine hlo.mono ?_; rintro e v5 ⟨la, lc, rfl, hown5, hb5⟩; have HR5 : Hid (Row v5 37 5 la X1.late.length lc (evs X1.late)) := toRow hown5; have HF5 : Hid (∀ k, bk la = some k → Fr w b b' bs X1 Y1 hb ea4 el4 ia il k) := fun k e => HKv4.out.fresh (hown5.lt k (by rw [bk_own]; exact e)).1; have HKv5 : Hid (Hld w v5 b b' bs X1 Y1 hb ea4 ec4 el4 ia ic il) := HKv4.out.below hb5; clear hown5 hb5)
          | (go_at_call 15; refine (hev_any hb _ ea4 ec4 el4 la lc X1.late _ HKv5.out.blk HKv5.out.le hle4 HR5.out HSn.out.1.late (fun e => (HF5.out _ e).nh (mem_hfp.2 (Or.inl rfl))) (fun k e => ⟨fun f => (HF5.out k e).nh (mem_hfp.2 (Or.inr (Or.inl f))), fun f => (HF5.out k e).nh (mem_hfp.2 (Or.inr (Or.inr (Or.inr (Or.inl f)))))⟩) HKv5.out.eh HKv5.out.hn.1 (fun k e => (HKv5.out.ee k e).2.1)).mono ?_; rintro e v6 ⟨rfl, hown6⟩))
        obtain ⟨ea6, ec6, E6, hk6⟩ := HKv5.out.event HF5.out hown6
        have HKv6 : Hid (Hld w v6 b b' bs X1 Y1 hb ea6 ec6 (el4 ++ [E6]) ia ic il) := hk6
        obtain ⟨el6, HEl6⟩ := hex (el4 ++ [E6])
        rw [← HEl6.out] at HKv6
        have hel6 : el6.length = el4.length + 1 := by rw [HEl6.out]; simp
        have HE6 : Hid (el6.length = el4.length + 1) := hel6
        clear hown6 hk6 HR5 HF5 HKv5 HKv4 hlo HEl6 hel6 hle4
        have hma : Calls Tryd.prog 18 #[.pointer (some ⟨b, 0, none⟩)] v6 fun e w' => ∃ a c ms, e = .returned (.tuple #[.slice a (List.length ms) c, .bool (decide (100 < (X1.c.pq.findL X1.log).length))]) ∧ LsAt w' v6.heap.size a c ms X1.c.ps.length ((X1.c.pq.findL X1.log).take 100) ∧ Below v6.heap.size v6 w' := xmatches_any b X1 v6 HKv6.out.two.mx HSn.out.2.2 HSn.out.1.log HSn.out.2.1
        go_upto_region 22 with (go_at_call 18; refine hma.mono ?_; rintro e v7 ⟨ma, mc, ms, rfl, hls, hb7⟩)
        obtain ⟨F, HF⟩ := hex ((X1.c.pq.findL X1.log).take 100)
        obtain ⟨np, HNp⟩ := hex X1.c.ps.length
        rw [← HF.out, ← HNp.out] at hls
        have hms : ms.length ≤ 100 := by rw [hls.len, HF.out]; simp; omega
        have HNp3 : Hid (np ≤ 3) := by show _ ≤ _; rw [HNp.out]; exact HSn.out.2.2
        have HLs : Hid (LsAt v7 v6.heap.size ma mc ms np F) := hls
        have HI0 : Hid (IL w v7 b b' bs X1 Y1 hb ea6 ec6 el6 il.length ma mc ms np F 0 ia ic il) :=
          ⟨HKv6.out.below hb7, rfl, hls.row, fun j m f _ hm hf => (hls.each j m f hm hf).2, fun x e => HKv6.out.fresh (hls.up x (by simp [e])), fun j m _ hm => HKv6.out.fresh (hls.up m.1 (by simp only [List.mem_cons, List.mem_map]; exact Or.inr ⟨m, List.mem_of_getElem? hm, rfl⟩))⟩
        clear hls hb7 hma HKv6 HF HNp a2
        go_wp2
        go_loopw [16] (fun kv wr => ∃ (k : Nat) (ia' : Option Addr) (ic' : Nat) (il' : List E1), k ≤ ms.length ∧ kv = .int .i64 k ∧ IL w wr b b' bs X1 Y1 hb ea6 ec6 el6 il.length ma mc ms np F k ia' ic' il') (fun kv _ => ms.length - (intOf kv).toNat)
        case atStart => exact ⟨0, ia, ic, il, Nat.zero_le _, rfl, HI0.out⟩
        case round =>
          clear HI0
          obtain ⟨k, ia', ic', il', hk, rfl, hIL⟩ := hrel
          have HI : Hid (IL w wr b b' bs X1 Y1 hb ea6 ec6 el6 il.length ma mc ms np F k ia' ic' il') := hIL
          clear hIL
          by_cases hkt : k < ms.length
          · have hkt' : (k : Int) < (ms.length : Int) := by omega
            have hk0 : (0 : Int) ≤ (k : Int) := by omega
            obtain ⟨m, HM⟩ := hex ms[k]
            have HMk : Hid (ms[k]? = some m) := by show _ = _; rw [HM.out]; exact List.getElem?_eq_getElem hkt
            obtain ⟨g0, hg0, _, _, hcl, _⟩ := HI.out.row.form (by omega)
            have x0 := hcl k (by omega)
            have hx : (List.replicate k (Value.slice none 0 0) ++ (ms.drop k).map (fun m => Value.slice (some ⟨m.1, 0, none⟩) np m.2))[k]? = some (.slice (some ⟨m.1, 0, none⟩) np m.2) := by
              rw [List.getElem?_append_right (by simp)]
              simp [HMk.out]
            rw [hx] at x0
            have HG : Hid (ma = some ⟨g0, 0, none⟩) := hg0
            rw [hg0]
            clear hg0 hcl hx HM
            have hoi : Calls Tryd.prog 19 #[.pointer (some ⟨hb, 0, none⟩), .slice (some ⟨m.1, 0, none⟩) np m.2] wr fun e w' => e = .returned (.tuple #[]) ∧ Owned1 kdT wr w' hb 50 [.slice ea6 el6.length ec6, .slice ia' il'.length ic'] 1 ia' (some ⟨m.1, 0, none⟩) [] il' := by
              obtain ⟨f, hf⟩ : ∃ f, F[k]? = some f := ⟨_, List.getElem?_eq_getElem (by rw [← HLs.out.len]; exact hkt)⟩
              have hrow := HI.out.rest k m f (Nat.le_refl _) HMk.out hf
              have hfl := (HLs.out.each k m f HMk.out hf).1
              have hfr := HI.out.fm k m (Nat.le_refl _) HMk.out
              have e : (natV f).length = np := by simp [natV, hfl]
              have hr2 : Row wr 3 1 (some ⟨m.1, 0, none⟩) (natV f).length m.2 (natV f) := by rw [e]; exact hrow
              have hlk := HI.out.len
              have := HNp3.out
              have hh := HI.out.hld
              have := hin_any hb (.slice ea6 el6.length ec6) ia' ic' il' (some ⟨m.1, 0, none⟩) m.2 (natV f) wr hh.blk hh.li (by omega) hr2 (by omega) ?_ ?_ hh.ih hh.hn.2 (fun x e' => (hh.ii x e').2)
              · rw [e] at this; exact this
              · intro e'; simp only [bk, Option.map_some, Option.some.injEq] at e'; exact hfr.nh (mem_hfp.2 (Or.inl e'))
              · intro x e'
                simp only [bk, Option.map_some, Option.some.injEq] at e'
                subst e'
                exact ⟨fun g => hfr.nh (mem_hfp.2 (Or.inr (Or.inr (Or.inl g)))), fun g => hfr.nh (mem_hfp.2 (Or.inr (Or.inr (Or.inr (Or.inr g)))))⟩
            have HCl : Hid (∀ w1, Owned1 kdT wr w1 hb 50 [.slice ea6 el6.length ec6, .slice ia' il'.length ic'] 1 ia' (some ⟨m.1, 0, none⟩) [] il' → ∃ v, w1.cell? ⟨g0, k, none⟩ = some v ∧ w1.frozen? ⟨g0, k, none⟩ = false) := by
              rintro w1 ⟨ja', jc', E, hB, hL, hK, hE, hja, hja2⟩
              have hlg : bk ma = some g0 := by simp [HG.out, bk]
              have hfr := HI.out.fl g0 hlg
              have hr : Row w1 28 1 ma ms.length mc (List.replicate k (Value.slice none 0 0) ++ (ms.drop k).map (fun m => Value.slice (some ⟨m.1, 0, none⟩) np m.2)) := by
                refine HI.out.row.kept hK (fun x e f => ?_)
                rw [hlg] at e
                simp only [Option.some.injEq] at e
                subst e
                rcases f with f | f | f
                · exact hfr.nh (mem_hfp.2 (Or.inl f))
                · exact hfr.nh (mem_hfp.2 (Or.inr (Or.inr (Or.inl f))))
                · simp only [bk, Option.map_some, Option.some.injEq] at f
                  have := HLs.out.dis 0 (k + 1) g0 (by simp [hlg]) (by simp [HMk.out, f]); omega
              obtain ⟨g', hg', _, _, hcl, hfz⟩ := hr.form (by omega)
              rw [HG.out] at hg'
              simp only [Option.some.injEq, Addr.mk.injEq, and_true] at hg'
              subst hg'
              have hlv : k < (List.replicate k (Value.slice none 0 0) ++ (ms.drop k).map (fun m => Value.slice (some ⟨m.1, 0, none⟩) np m.2)).length := by simp; omega
              exact ⟨_, (hcl k (by omega)).trans (List.getElem?_eq_getElem hlv), hfz k⟩
            go_upto_region 26 with (go_at_call 19; refine hoi.mono ?_; rintro e w1 ⟨rfl, hown⟩)
            obtain ⟨cv, x1, f1⟩ := HCl.out w1 hown
            have HNx : Hid (∃ ia2 ic2 il2, IL w (w1.setCell ⟨g0, k, none⟩ (.slice none 0 0)) b b' bs X1 Y1 hb ea6 ec6 el6 il.length ma mc ms np F (k + 1) ia2 ic2 il2) := HI.out.next HLs.out.len HLs.out.dis hkt HMk.out HG.out hown
            clear hown hoi x0 HI HCl
            go_wp2
            go_roundw
            case rel =>
              obtain ⟨ia2, ic2, il2, hN⟩ := HNx.out
              rw [HG.out] at hN
              exact ⟨k + 1, ia2, ic2, il2, by omega, by go_num, hN⟩
            case measure => simp [intOf]; omega
          · have hkt' : ¬ (k : Int) < (ms.length : Int) := by omega
            have HEn : Hid (el6.length ≤ 2 * (i + 1) ∧ il'.length ≤ 100 * (i + 1)) := by
              have h1 := HE6.out
              have h2 := HEl.out
              have h3 := HEL.out
              have h4 := HI.out.len
              exact ⟨by omega, by omega⟩
            go_wp2
            go_roundw
            case rel => exact ⟨i + 1, X1, Y1, ea6, ec6, el6, ia', ic', il', by omega, by go_num, HL6.out, HT6.out, HI.out.hld, HEn.out.1, HEn.out.2⟩
            case measure => simp [intOf]; omega
      · have hod : (a.n.tmod 2 != 0) = true := by simpa using hodd
        have HEn : Hid (el.length ≤ 2 * (i + 1) ∧ il.length ≤ 100 * (i + 1)) := by have h3 := HEL.out; exact ⟨by omega, by omega⟩
        clear hodd
        go_wp2
        go_roundw
        case rel => exact ⟨i + 1, X1, Y1, ea, ec, el, ia, ic, il, by omega, by go_num, HL6.out, HT6.out, HKv2.out, HEn.out.1, HEn.out.2⟩
        case measure => simp [intOf]; omega
    · have hnl : ¬ (i : Int) < (acts.length : Int) := by omega
      have hli : el.length ≤ 9000000000000 ∧ il.length ≤ 9000000000000 := by have := HEL.out; omega
      have HLk : Hid ((∃ N R, Like N X R) ∧ (∃ N R, Like N Y R)) := by obtain ⟨N, R, hl1, hl2⟩ := HT.out.lk; exact ⟨⟨N, R, hl1⟩, ⟨N, R, hl2⟩⟩
      go_upto_region 27 with fail
      have k0 := (HK.out.two.bx (cb, 26, c.vals) (HBs.out ▸ by simp)).cell 0
      have k1 := (HK.out.two.bx (cb, 26, c.vals) (HBs.out ▸ by simp)).cell 1
      have k2 := (HK.out.two.bx (cb, 26, c.vals) (HBs.out ▸ by simp)).cell 2
      have k3 := (HK.out.two.bx (cb, 26, c.vals) (HBs.out ▸ by simp)).cell 3
      have k4 := (HK.out.two.bx (cb, 26, c.vals) (HBs.out ▸ by simp)).cell 4
      have k5 := (HK.out.two.bx (cb, 26, c.vals) (HBs.out ▸ by simp)).cell 5
      simp only [Cfg.vals, List.getElem?_cons_zero, List.getElem?_cons_succ] at k0 k1 k2 k3 k4 k5
      have hlx : Calls Tryd.prog 13 #[.pointer (some ⟨b, 0, none⟩), .agg #[.int .i64 c.sources, .int .i64 c.slack, .int .i64 c.policy, .int .i64 c.room, .int .i64 c.idle, .string c.pat]] wr fun e w' => e = .returned (.bool true) ∧ ∃ X', RunL n X X' ∧ Hld w w' b b' bs X' Y hb ea ec el ia ic il := by
        refine (left_run b n c X wr HK.out.two.mx HLk.out.1 HLX.out.1 HNn.out hn6.2).mono ?_
        rintro e w' ⟨he, X', h1, h2, h3, hev⟩
        exact ⟨he, X', h1, HK.out.evoX hev⟩
      go_upto_region 28 with (go_at_call 13; refine hlx.mono ?_; rintro e u2 ⟨rfl, X2, hr2, hu2⟩)
      have HU2 : Hid (Hld w u2 b b' bs X2 Y hb ea ec el ia ic il) := hu2
      have HR2 : Hid (RunL n X X2) := hr2
      clear hu2 hr2 hlx k0 k1 k2 k3 k4 k5 HK
      have k0 := (HU2.out.two.bx (cb, 26, c.vals) (HBs.out ▸ by simp)).cell 0
      have k1 := (HU2.out.two.bx (cb, 26, c.vals) (HBs.out ▸ by simp)).cell 1
      have k2 := (HU2.out.two.bx (cb, 26, c.vals) (HBs.out ▸ by simp)).cell 2
      have k3 := (HU2.out.two.bx (cb, 26, c.vals) (HBs.out ▸ by simp)).cell 3
      have k4 := (HU2.out.two.bx (cb, 26, c.vals) (HBs.out ▸ by simp)).cell 4
      have k5 := (HU2.out.two.bx (cb, 26, c.vals) (HBs.out ▸ by simp)).cell 5
      simp only [Cfg.vals, List.getElem?_cons_zero, List.getElem?_cons_succ] at k0 k1 k2 k3 k4 k5
      have hly : Calls Tryd.prog 13 #[.pointer (some ⟨b', 0, none⟩), .agg #[.int .i64 c.sources, .int .i64 c.slack, .int .i64 c.policy, .int .i64 c.room, .int .i64 c.idle, .string c.pat]] u2 fun e w' => e = .returned (.bool true) ∧ ∃ Y', RunL n Y Y' ∧ Hld w w' b b' bs X2 Y' hb ea ec el ia ic il := by
        refine (left_run b' n c Y u2 HU2.out.two.my HLk.out.2 HLX.out.2.1 HNn.out hn6.2).mono ?_
        rintro e w' ⟨he, X', h1, h2, h3, hev⟩
        exact ⟨he, X', h1, HU2.out.evoY hev⟩
      go_upto_region 29 with (go_at_call 13; refine hly.mono ?_; rintro e u3 ⟨rfl, Y2, hr3, hu3⟩)
      have HU3 : Hid (Hld w u3 b b' bs X2 Y2 hb ea ec el ia ic il) := hu3
      have HT8 : Hid (Twin (fun _ => True) X2 Y2) := twin_runL HT.out HR2.out hr3
      have HX2c : Hid (X2.c = c) := (runL_grow HR2.out).c.trans HLX.out.2.2
      clear hu3 hr3 hly k0 k1 k2 k3 k4 k5 HU2 HT HLk
      have hst : ∀ u, Hld w u b b' bs X2 Y2 hb ea ec el ia ic il → Calls Tryd.prog 20 #[.pointer (some ⟨hb, 0, none⟩)] u fun e w' => e = .returned (.bool true) ∧ Hld w w' b b' bs X2 Y2 hb ea ec el ia ic il := fun u hu => (still_true hb ea ec el ia ic il u hu.blk hu.le hu.li hli.1 hli.2).mono fun e w' ⟨he, hb⟩ => ⟨he, hu.below hb⟩
      go_upto_region 30 with (go_at_call 20; refine (hst _ HU3.out).mono ?_; rintro e u4 ⟨rfl, hu4⟩)
      have HU4 : Hid (Hld w u4 b b' bs X2 Y2 hb ea ec el ia ic il) := hu4
      clear hu4 HU3
      have hal : Calls Tryd.prog 21 #[.pointer (some ⟨b, 0, none⟩), .pointer (some ⟨b', 0, none⟩), .int .i64 c.sources] u4 fun e w' => e = .returned (.bool true) ∧ Hld w w' b b' bs X2 Y2 hb ea ec el ia ic il := by
        rw [HNn.out]
        exact (alike_true b b' n X2 Y2 u4 HU4.out.two.mx HU4.out.two.my HT8.out hn6.2).mono fun e w' ⟨he, hb⟩ => ⟨he, HU4.out.below hb⟩
      have k0 := (HU4.out.two.bx (cb, 26, c.vals) (HBs.out ▸ by simp)).cell 0
      simp only [Cfg.vals, List.getElem?_cons_zero] at k0
      go_upto_region 31 with (go_at_call 21; refine hal.mono ?_; rintro e u5 ⟨rfl, hu5⟩)
      have HU5 : Hid (Hld w u5 b b' bs X2 Y2 hb ea ec el ia ic il) := hu5
      clear hu5 HU4 hal k0
      have hma : Calls Tryd.prog 22 #[.pointer (some ⟨b, 0, none⟩), .pointer (some ⟨b', 0, none⟩)] u5 fun e w' => e = .returned (.bool true) ∧ Hld w w' b b' bs X2 Y2 hb ea ec el ia ic il := by
        obtain ⟨⟨N, R, h1, h2⟩, _⟩ := HT8.out
        have hc : Y2.c = X2.c := h2.sim.c.trans h1.sim.c.symm
        refine (matches_true b b' X2 Y2 u5 HU5.out.two.mx HU5.out.two.my ?_ h1.sane.log (like_ts h1) (by rw [hc]) (twin_log1 HT8.out).symm).mono fun e w' ⟨he, hb⟩ => ⟨he, HU5.out.below hb⟩
        rw [HX2c.out]
        exact HP3.out
      go_upto_region 32 with (go_at_call 22; refine hma.mono ?_; rintro e u6 ⟨rfl, hu6⟩)
      have HU6 : Hid (Hld w u6 b b' bs X2 Y2 hb ea ec el ia ic il) := hu6
      clear hu6 HU5 hma
      go_upto_region 33 with (go_at_call 20; refine (hst _ HU6.out).mono ?_; rintro e u7 ⟨rfl, hu7⟩)
      have HU7 : Hid (Hld w u7 b b' bs X2 Y2 hb ea ec el ia ic il) := hu7
      clear hu7 HU6 hst
      have k0 := (HU7.out.two.bx (cb, 26, c.vals) (HBs.out ▸ by simp)).cell 0
      have k1 := (HU7.out.two.bx (cb, 26, c.vals) (HBs.out ▸ by simp)).cell 1
      have k2 := (HU7.out.two.bx (cb, 26, c.vals) (HBs.out ▸ by simp)).cell 2
      have k3 := (HU7.out.two.bx (cb, 26, c.vals) (HBs.out ▸ by simp)).cell 3
      have k4 := (HU7.out.two.bx (cb, 26, c.vals) (HBs.out ▸ by simp)).cell 4
      have k5 := (HU7.out.two.bx (cb, 26, c.vals) (HBs.out ▸ by simp)).cell 5
      simp only [Cfg.vals, List.getElem?_cons_zero, List.getElem?_cons_succ] at k0 k1 k2 k3 k4 k5
      go_wp2_with (go_at_call 23; refine (HFl.out _).mono ?_; rintro e u8 ⟨rfl, hb8⟩)
      go_ret
      exact ⟨rfl, HU7.out.two.bel.trans (hb8.mono HU7.out.two.bel.size)⟩
end Go.Proofs.YtghcololkgeoeabDoor
namespace Go.Proofs.YtghcololkgeoeabDoor
open Go.ChangeShapes Go.WideShapes Go.ChangeAt Go.RowKit
set_option linter.unusedVariables false
set_option linter.unusedSimpArgs false
/-! ### what the bound gives -/
theorem bulk_oneO {H : Type} (d : DataW H) : 1 ≤ Rows.uptoBulk d := by
  cases d with
  | lit l => cases l <;> simp [Rows.uptoBulk]
  | nil => simp [Rows.uptoBulk]
  | ptr d => simp [Rows.uptoBulk]
  | slice elems spare => simp [Rows.uptoBulk]
  | agg parts => simp [Rows.uptoBulk]
  | iface t d => simp [Rows.uptoBulk]
  | map entries => simp [Rows.uptoBulk]
  | held h => simp [Rows.uptoBulk]
theorem bulk_lenO {H : Type} (l : List (DataW H)) : l.length ≤ Rows.uptoBulkAll l := by
  induction l with
  | nil => simp [Rows.uptoBulkAll]
  | cons x r ih => have := bulk_oneO x; simp only [Rows.uptoBulkAll, List.length_cons]; omega
theorem bulk_memO {H : Type} {l : List (DataW H)} {x : DataW H} (h : x ∈ l) : Rows.uptoBulk x ≤ Rows.uptoBulkAll l := by
  induction l with
  | nil => simp at h
  | cons y r ih =>
    simp only [Rows.uptoBulkAll]
    rcases List.mem_cons.1 h with rfl | h
    · omega
    · have := ih h; omega
theorem bulk_sliceO {H : Type} {ds elems spare : List (DataW H)} (hk : Rows.uptoSmall H ds = true) (hm : DataW.slice elems spare ∈ ds) : elems.length + spare.length ≤ 1048576 := by
  have h : Rows.uptoBulkAll ds ≤ 1048576 := of_decide_eq_true hk
  have h0 := bulk_memO hm
  simp only [Rows.uptoBulk] at h0
  have h1 := bulk_lenO elems
  have h2 := bulk_lenO spare
  omega
end Go.Proofs.YtghcololkgeoeabDoor
