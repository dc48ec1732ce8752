import Derived.Test.YtghcololkgeoeabDoorPartK3
namespace Go.Proofs.YtghcololkgeoeabDoor
open Go.RowKit
set_option linter.unusedVariables false
set_option linter.unusedSimpArgs false
attribute [local go_sem ↓] Go.wp_at_zero Go.wp_at_succ

def T0 : ByteArray := ⟨#[80, 32, 49, 10, 69, 32, 48, 32, 48, 32, 65]⟩
/-- Feed with the text of done -/
def FeedsX (X : Eng) (A : Int) (z : Int) (X' : Eng) : Prop := (Off A X.srcs.length ∧ z = 3 ∧ X' = X) ∨ ∃ (i N : Nat) (f : FedN) (tr : Nat → FedN × Eng), A = i ∧ i < X.srcs.length ∧ z = 0 ∧ RunX X i N T0 T0.size f X' tr
def DoneX (X : Eng) (A : Int) (a : ActR) (z : Int) (X' : Eng) : Prop :=
  (pk a.d 7 = 0 ∧ JoinsX X A z X') ∨ (pk a.d 7 = 1 ∧ LeavesX X A z X') ∨ ((pk a.d 7 = 2 ∨ pk a.d 7 = 3) ∧ PushesX X A a.E z X') ∨ (pk a.d 7 = 4 ∧ PunctsX X A a.E.ts z X') ∨ (pk a.d 7 = 5 ∧ TicksX X a.n z X') ∨ (pk a.d 7 = 6 ∧ FeedsX X A z X')
theorem feedsX_grow {X X' : Eng} {A z : Int} (h : FeedsX X A z X') : Grow X X' := by
  rcases h with ⟨_, _, rfl⟩ | ⟨i, N, f, tr, _, _, _, hr⟩
  · exact Grow.refl _
  · exact runX_grow hr (Nat.le_refl _)
theorem doneX_grow {X X' : Eng} {A z : Int} {a : ActR} (h : DoneX X A a z X') : Grow X X' := by
  rcases h with ⟨_, h⟩ | ⟨_, h⟩ | ⟨_, h⟩ | ⟨_, h⟩ | ⟨_, h⟩ | ⟨_, h⟩
  · exact joinX_grow h
  · exact leaveX_grow h
  · exact pushesX_grow h
  · exact punctsX_grow h
  · exact tickX_grow h
  · exact feedsX_grow h
/-- behind an act there is a document's engine that is like the program's -/
theorem doneX_like {N : Nat} {X X' : Eng} {R : Ref} {A z : Int} {a : ActR} (hl : Like N X R) (h : DoneX X A a z X') : ∃ M R', Like M X' R' := by
  rcases h with ⟨_, h⟩ | ⟨_, h⟩ | ⟨_, h⟩ | ⟨_, h⟩ | ⟨_, h⟩ | ⟨_, h⟩
  · obtain ⟨z', R', hr⟩ := joinR_some R A; exact ⟨_, R', (join_agree hl h hr).2⟩
  · obtain ⟨z', R', hr⟩ := leaveR_some R A; exact ⟨_, R', (leave_agree hl h hr).2⟩
  · obtain ⟨z', R', hr⟩ := pushesR_some R A a.E; exact ⟨_, R', (pushes_agree hl h hr).2⟩
  · obtain ⟨z', R', hr⟩ := punctsR_some R A a.E.ts; exact ⟨_, R', (puncts_agree hl h hr).2⟩
  · obtain ⟨z', R', hr⟩ := tickR_some R a.n; exact ⟨_, R', (tick_agree hl h hr).2⟩
  · rcases h with ⟨_, _, rfl⟩ | ⟨i, M, f, tr, _, _, _, hr⟩
    · exact ⟨N, R, hl⟩
    · obtain ⟨Z, hZ⟩ := hr.ex; exact ⟨_, Z, hZ⟩
theorem xfeeds_rel {N b : Nat} {X : Eng} {R : Ref} (A : Int) (h : Like N X R) (u : World) (hu : MemX u b X) :
    Calls Tryd.prog 33 #[.pointer (some ⟨b, 0, none⟩), .int .i64 A, .string T0] u fun e w' => ∃ f z X', e = .returned (.tuple #[.agg #[.int .i64 (FedN.good f), .int .i64 (FedN.refused f), .int .i64 (FedN.bad f)], .int .i64 z]) ∧ FeedsX X A z X' ∧ EvoX u b X w' X' := by
  have hs : T0.size ≤ 2000 := by decide
  rcases index_cases A X.srcs.length with hA | ⟨i, rfl, hi⟩
  · exact (xfeed_none b X A T0 u hu hs hA).mono fun e w' ⟨he, hw⟩ => ⟨⟨0, 0, 0⟩, 3, X, he, Or.inl ⟨hA, rfl, rfl⟩, EvoX.below hu hw⟩
  · exact (xfeed_run N b X R i T0 u hu h hs hi).mono fun e w' ⟨f, Y, tr, he, hr, hev⟩ => ⟨f, 0, Y, he, Or.inr ⟨i, N, f, tr, rfl, hi, rfl, hr⟩, hev⟩
set_option maxRecDepth 100000 in
set_option maxHeartbeats 8000000 in
theorem done_rel {N : Nat} (b : Nat) (c : Cfg) (X : Eng) (R : Ref) (a : ActR) (w : World) (h : MemX w b X) (hl : Like N X R) (ha : a.ok) (hc : 1 ≤ c.sources ∧ c.sources ≤ 6) :
    Calls Tryd.prog 11 #[.pointer (some ⟨b, 0, none⟩), .agg #[.int .i64 c.sources, .int .i64 c.slack, .int .i64 c.policy, .int .i64 c.room, .int .i64 c.idle, .string c.pat], .agg #[.int .i64 a.d, .int .i64 a.s, .int .i64 a.n, .int .i64 a.E.src, .int .i64 a.E.seq, .int .i64 a.E.ts, .int .i64 a.E.kind, .int .i64 a.E.val]] w fun e w' => ∃ z X', e = .returned (.int .i64 z) ∧ DoneX X (srcI c a) a z X' ∧ EvoX w b X w' X' := by
  have hsr : ∀ u, Calls Tryd.prog 28 #[.agg #[.int .i64 c.sources, .int .i64 c.slack, .int .i64 c.policy, .int .i64 c.room, .int .i64 c.idle, .string c.pat], .agg #[.int .i64 a.d, .int .i64 a.s, .int .i64 a.n, .int .i64 a.E.src, .int .i64 a.E.seq, .int .i64 a.E.ts, .int .i64 a.E.kind, .int .i64 a.E.val]] u fun e w' => e = .returned (.int .i64 (srcI c a)) ∧ Below u.heap.size u w' := fun u => source_any c a u ha hc
  obtain ⟨A, HA⟩ := hex (srcI c a)
  rw [← HA.out] at hsr ⊢
  have hpk : ∀ u, Calls Tryd.prog 10 #[.int .i64 a.d, .int .i64 7] u fun e w' => e = .returned (.int .i64 (pk a.d 7)) ∧ u = w' := fun u => pick_any _ _ u ha.1 (by omega) (by omega)
  have hdr := pk_range (c := a.d) (n := 7) (by omega)
  obtain ⟨d, HD⟩ := hex (pk a.d 7)
  rw [← HD.out] at hpk hdr
  have hj : ∀ u, MemX u b X → Calls Tryd.prog 27 #[.pointer (some ⟨b, 0, none⟩), .int .i64 A] u fun e w' => ∃ z X', e = .returned (.int .i64 z) ∧ JoinsX X A z X' ∧ EvoX u b X w' X' := fun u hu => xjoin_rel A hl u hu
  have hv : ∀ u, MemX u b X → Calls Tryd.prog 29 #[.pointer (some ⟨b, 0, none⟩), .int .i64 A] u fun e w' => ∃ z X', e = .returned (.int .i64 z) ∧ LeavesX X A z X' ∧ EvoX u b X w' X' := fun u hu => xleave_rel A hl u hu
  have hp : ∀ u, MemX u b X → Calls Tryd.prog 30 #[.pointer (some ⟨b, 0, none⟩), .int .i64 A, .agg #[.int .i64 a.E.src, .int .i64 a.E.seq, .int .i64 a.E.ts, .int .i64 a.E.kind, .int .i64 a.E.val]] u fun e w' => ∃ z X', e = .returned (.int .i64 z) ∧ PushesX X A a.E z X' ∧ EvoX u b X w' X' := fun u hu => xpushes_rel A a.E hl u hu
  have hq : ∀ u, MemX u b X → Calls Tryd.prog 31 #[.pointer (some ⟨b, 0, none⟩), .int .i64 A, .int .i64 a.E.ts] u fun e w' => ∃ z X', e = .returned (.int .i64 z) ∧ PunctsX X A a.E.ts z X' ∧ EvoX u b X w' X' := fun u hu => xpuncts_rel A a.E.ts hl u hu
  have ht : ∀ u, MemX u b X → Calls Tryd.prog 32 #[.pointer (some ⟨b, 0, none⟩), .int .i64 a.n] u fun e w' => ∃ z X', e = .returned (.int .i64 z) ∧ TicksX X a.n z X' ∧ EvoX u b X w' X' := fun u hu => xtick_rel a.n hl u hu
  have hf : ∀ u, MemX u b X → Calls Tryd.prog 33 #[.pointer (some ⟨b, 0, none⟩), .int .i64 A, .string { data := #[80, 32, 49, 10, 69, 32, 48, 32, 48, 32, 65] }] u fun e w' => ∃ f z X', e = .returned (.tuple #[.agg #[.int .i64 (FedN.good f), .int .i64 (FedN.refused f), .int .i64 (FedN.bad f)], .int .i64 z]) ∧ FeedsX X A z X' ∧ EvoX u b X w' X' := fun u hu => xfeeds_rel A hl u hu
  clear hl ha hc
  obtain ⟨w2, HW2⟩ := hex ((w.alloc (.cells c.vals.toArray 26)).alloc (.cells a.cells.toArray 39))
  obtain ⟨ab, HAb⟩ := hex (w.heap.size + 1)
  have HA2 : Hid (Blk w2 ab 39 a.cells) := by show Blk _ _ _ _; rw [HW2.out, HAb.out]; have := blk_alloc (w.alloc (.cells c.vals.toArray 26)) a.cells 39; simpa using this
  have HE2 : Hid (EvoX w b X w2 X) := by show EvoX _ _ _ _ _; rw [HW2.out]; exact EvoX.below h (((Below.refl _ _).alloc (Nat.le_refl _) _).alloc (by simp) _)
  have hw2 : (w.alloc (.cells #[.int .i64 c.sources, .int .i64 c.slack, .int .i64 c.policy, .int .i64 c.room, .int .i64 c.idle, .string c.pat] 26)).alloc (.cells #[.int .i64 a.d, .int .i64 a.s, .int .i64 a.n, .int .i64 a.E.src, .int .i64 a.E.seq, .int .i64 a.E.ts, .int .i64 a.E.kind, .int .i64 a.E.val] 39) = w2 := HW2.out.symm
  clear h
  obtain ⟨cb, HCb⟩ := hex w.heap.size
  have HC2 : Hid (Blk w2 cb 26 c.vals) := by show Blk _ _ _ _; rw [HW2.out, HCb.out]; exact (blk_alloc _ _ _).alloc _
  go_enter Tryd.func11, Tryd.ntmps11
  go_upto_region 1 with fail
  rw [← HAb.out, ← HCb.out]
  clear hw2 HW2 HAb HCb
  have k0 := HC2.out.cell 0
  have k1 := HC2.out.cell 1
  have k2 := HC2.out.cell 2
  have k3 := HC2.out.cell 3
  have k4 := HC2.out.cell 4
  have k5 := HC2.out.cell 5
  simp only [Cfg.vals, List.getElem?_cons_zero, List.getElem?_cons_succ] at k0 k1 k2 k3 k4 k5
  have n0 := HA2.out.cell 0
  have n1 := HA2.out.cell 1
  have n2 := HA2.out.cell 2
  have n3 := HA2.out.cell 3
  have n4 := HA2.out.cell 4
  have n5 := HA2.out.cell 5
  have n6 := HA2.out.cell 6
  have n7 := HA2.out.cell 7
  simp only [ActR.cells, List.getElem?_cons_zero, List.getElem?_cons_succ] at n0 n1 n2 n3 n4 n5 n6 n7
  go_upto_region 2 with (go_at_call 28; refine (hsr _).mono ?_; rintro e w3 ⟨rfl, hb3⟩)
  have HB3 : Hid (Below w2.heap.size w2 w3) := hb3
  clear hb3 hsr k0 k1 k2 k3 k4 k5 n0 n1 n2 n3 n4 n5 n6 n7
  have HA3 : Hid (Blk w3 ab 39 a.cells) := HA2.out.below HB3.out HA2.out.lt
  have HE3 : Hid (EvoX w b X w3 X) := HE2.out.belowE HB3.out
  have m0 := HA3.out.cell 0
  have m2 := HA3.out.cell 2
  have m3 := HA3.out.cell 3
  have m4 := HA3.out.cell 4
  have m5 := HA3.out.cell 5
  have m6 := HA3.out.cell 6
  have m7 := HA3.out.cell 7
  simp only [ActR.cells, List.getElem?_cons_zero, List.getElem?_cons_succ] at m0 m2 m3 m4 m5 m6 m7
  go_upto_region 3 with (go_at_call 10; refine (hpk _).mono ?_; rintro e w' ⟨rfl, rfl⟩)
  clear hpk
  have hd : d = 0 ∨ d = 1 ∨ d = 2 ∨ d = 3 ∨ d = 4 ∨ d = 5 ∨ d = 6 := by omega
  clear hdr
  rcases hd with rfl | rfl | rfl | rfl | rfl | rfl | rfl
  · go_wp2_with (go_at_call 27; refine (hj _ HE3.out.mem).mono ?_; rintro e w4 ⟨z, X', rfl, hP, hev⟩)
    go_ret
    exact ⟨z, X', rfl, Or.inl ⟨HD.out.symm, hP⟩, HE3.out.trans hev⟩
  · go_wp2_with (go_at_call 29; refine (hv _ HE3.out.mem).mono ?_; rintro e w4 ⟨z, X', rfl, hP, hev⟩)
    go_ret
    exact ⟨z, X', rfl, Or.inr (Or.inl ⟨HD.out.symm, hP⟩), HE3.out.trans hev⟩
  · go_wp2_with (go_at_call 30; refine (hp _ HE3.out.mem).mono ?_; rintro e w4 ⟨z, X', rfl, hP, hev⟩)
    go_ret
    exact ⟨z, X', rfl, Or.inr (Or.inr (Or.inl ⟨Or.inl HD.out.symm, hP⟩)), HE3.out.trans hev⟩
  · go_wp2_with (go_at_call 30; refine (hp _ HE3.out.mem).mono ?_; rintro e w4 ⟨z, X', rfl, hP, hev⟩)
    go_ret
    exact ⟨z, X', rfl, Or.inr (Or.inr (Or.inl ⟨Or.inr HD.out.symm, hP⟩)), HE3.out.trans hev⟩
  · go_wp2_with (go_at_call 31; refine (hq _ HE3.out.mem).mono ?_; rintro e w4 ⟨z, X', rfl, hP, hev⟩)
    go_ret
    exact ⟨z, X', rfl, Or.inr (Or.inr (Or.inr (Or.inl ⟨HD.out.symm, hP⟩))), HE3.out.trans hev⟩
  · go_wp2_with (go_at_call 32; refine (ht _ HE3.out.mem).mono ?_; rintro e w4 ⟨z, X', rfl, hP, hev⟩)
    go_ret
    exact ⟨z, X', rfl, Or.inr (Or.inr (Or.inr (Or.inr (Or.inl ⟨HD.out.symm, hP⟩)))), HE3.out.trans hev⟩
  · go_wp2_with (go_at_call 33; refine (hf _ HE3.out.mem).mono ?_; rintro e w4 ⟨f, z, X', rfl, hP, hev⟩)
    go_ret
    exact ⟨z, X', rfl, Or.inr (Or.inr (Or.inr (Or.inr (Or.inr ⟨HD.out.symm, hP⟩)))), (HE3.out.trans hev).belowE ((Below.refl _ _).alloc (Nat.le_refl _) _)⟩
end Go.Proofs.YtghcololkgeoeabDoor
namespace Go.Proofs.YtghcololkgeoeabDoor
open Go.RowKit
set_option linter.unusedVariables false
set_option linter.unusedSimpArgs false
attribute [local go_sem ↓] Go.wp_at_zero Go.wp_at_succ

theorem least_none {X : Eng} (h : ∀ (i : Nat) p, X.srcs[i]? = some p → p.inn = false) : ∀ k, X.leastTo k = (-2199023255552, false) := by
  intro k
  induction k with
  | zero => rfl
  | succ k ih =>
    rw [Eng.leastTo]
    split
    · rename_i p hp
      rw [h k p hp, if_neg (by simp)]; exact ih
    · exact ih
theorem least_one {X : Eng} {p : PSrc} (h0 : X.srcs[0]? = some p) (hi : p.inn = true) (hd : p.idle = false) (h : ∀ (i : Nat) q, 0 < i → X.srcs[i]? = some q → q.inn = false) : ∀ k, X.leastTo (k + 1) = (p.mark, true) := by
  intro k
  induction k with
  | zero =>
    rw [Eng.leastTo, h0]
    simp [hi, hd, Eng.leastTo]
  | succ k ih =>
    rw [Eng.leastTo]
    split
    · rename_i q hq
      rw [h (k + 1) q (by omega) hq, if_neg (by simp)]; exact ih
    · exact ih
/-- source 0 alone is in, and not idle -/
structure Fl (X : Eng) (c : Cfg) (p : PSrc) (wt lg : List Ev) (m : Int) : Prop where
  c : X.c = c
  src : X.srcs[0]? = some p
  out : ∀ (i : Nat) q, 0 < i → X.srcs[i]? = some q → q.inn = false
  wait : X.wait = wt
  log : X.log = lg
  late : X.late = []
  mg : X.merged = m
theorem Fl.settled {X : Eng} {c : Cfg} {p : PSrc} {wt lg : List Ev} {m : Int} (h : Fl X c p wt lg m) (hi : p.inn = true) (hd : p.idle = false) (r : Int) (hr : r = if m < p.mark then p.mark else m) (hw : ∀ e ∈ wt, ¬ e.ts < r) : Fl X.settled c p wt lg r := by
  have hl : X.leastTo X.srcs.length = (p.mark, true) := by
    have : 0 < X.srcs.length := get_lt h.src
    obtain ⟨k, hk⟩ : ∃ k, X.srcs.length = k + 1 := ⟨X.srcs.length - 1, by omega⟩
    rw [hk]; exact least_one h.src hi hd h.out k
  have ha : X.rise = r := by unfold Eng.rise Eng.aim; rw [hl, h.mg, hr]; simp
  refine ⟨h.c, h.src, h.out, ?_, ?_, h.late, ha⟩
  · show X.wait.filter (fun e => !decide (e.ts < X.rise)) = wt
    rw [ha, h.wait]
    exact List.filter_eq_self.2 (fun e he => by simpa using hw e he)
  · show X.log ++ X.wait.filter (fun e => decide (e.ts < X.rise)) = lg
    rw [ha, h.wait, h.log, List.filter_eq_nil_iff.2 (fun e he => by simpa using hw e he)]; simp
theorem Fl.pl {X X' : Eng} {c : Cfg} {p : PSrc} {wt lg : List Ev} {m : Int} (h : Fl X c p wt lg m) (hp : PlX X X') : Fl X' c p wt lg m := by
  obtain ⟨ga, gc, wa, wc, rfl⟩ := hp
  exact ⟨h.c, h.src, h.out, h.wait, h.log, h.late, h.mg⟩
def E0 : Ev := ⟨0, 3, 5, 65, 7⟩
theorem flow1 {c : Cfg} {n sg sc : Nat} {pv : PatV} {z : Int} {X1 : Eng} (hn : 1 ≤ n) (h : JoinsX (newEng c n sg sc pv) 0 z X1) : z = 0 ∧ ∃ p, p.inn = true ∧ p.idle = false ∧ p.mark = -2199023255552 ∧ p.last = -1 ∧ Fl X1 c p [] [] (-2199023255552) := by
  have hs : (newEng c n sg sc pv).srcs = List.replicate n zP := rfl
  rcases h with ⟨o, _, _⟩ | ⟨i, p, hi, hp, h⟩
  · unfold Off at o; rw [hs] at o; simp at o; omega
  · obtain rfl : i = 0 := by omega
    rw [hs, List.getElem?_replicate, if_pos (by omega)] at hp
    simp only [Option.some.injEq] at hp
    subst hp
    rcases h with ⟨h, _⟩ | ⟨_, rfl, hpl⟩
    · cases h
    · refine ⟨rfl, { zP with inn := true, idle := false, sil := 0 }, rfl, rfl, rfl, rfl, ?_⟩
      refine Fl.pl ?_ hpl
      refine Fl.settled (m := -2199023255552) ⟨rfl, ?_, ?_, rfl, rfl, rfl, rfl⟩ rfl rfl _ (by simp [zP]) (fun e he => absurd (show e ∈ ([] : List Ev) from he) (by simp))
      · show ((List.replicate n zP).set 0 _)[0]? = _
        rw [List.getElem?_set]
        simp only [List.length_replicate, if_pos (show 0 < n by omega), if_true]
        simp [PSrc.activated, PSrc.raised, zP, newEng]
      · intro i q hi hq
        have hq : ((List.replicate n zP).set 0 _)[i]? = some q := hq
        rw [List.getElem?_set, if_neg (by omega), List.getElem?_replicate] at hq
        split at hq
        · simp only [Option.some.injEq] at hq; rw [← hq]; rfl
        · simp at hq
theorem flow2 {c : Cfg} {X1 X2 : Eng} {p : PSrc} {z : Int} (hc : c.fits) (hi : p.inn = true) (hd : p.idle = false) (hm : p.mark = -2199023255552) (hl : p.last = -1) (h : Fl X1 c p [] [] (-2199023255552)) (hP : PushesX X1 0 E0 z X2) : z = 0 ∧ ∃ q m, q.inn = true ∧ q.idle = false ∧ m ≤ 5 ∧ Fl X2 c q [E0] [] m := by
  unfold Cfg.fits at hc
  rcases hP with ⟨o, _, _⟩ | ⟨i, p', hi', hp, hP⟩
  · unfold Off at o; have := get_lt h.src; omega
  · obtain rfl : i = 0 := by omega
    rw [h.src] at hp
    cases hp
    have hw : pWrong p E0 = 0 := by unfold pWrong; rw [hi, hl]; decide
    have hlate : X1.isLate p E0.ts = false := by unfold Eng.isLate; rw [hd, hm, Bool.false_and, Bool.false_or]; decide
    have hfull : X1.full 0 (X1.fate (X1.isLate p E0.ts)) = false := by
      rw [hlate]; unfold Eng.full Eng.fate Eng.waitOf
      rw [h.wait, h.log, h.c]
      have hr : ¬ c.room ≤ 0 := by omega
      have e0 : (X1.wait.filter (fun e => decide (e.src = ((0 : Nat) : Int)))).length = 0 := by rw [h.wait]; rfl
      simp [hr]
    rcases hP with ⟨hw', _⟩ | ⟨_, hf, _⟩ | ⟨_, _, rfl, Y, hY, hpl⟩
    · exact absurd hw hw'
    · rw [hfull] at hf; cases hf
    · refine ⟨rfl, ?_⟩
      obtain ⟨Z, rfl, zc, zs, zm, zl, zz⟩ := hY
      rw [hlate] at zz
      have hfate : X1.fate false = 2 := rfl
      rw [hfate] at zz
      rcases zz with ⟨zz, _⟩ | ⟨zz, _⟩ | ⟨_, hins, zlt⟩
      · omega
      · omega
      · have hE : X1.taken 0 2 E0 = E0 := by unfold Eng.taken; simp [E0]
        rw [hE] at hins
        obtain ⟨a, b, e1, e2, _, _⟩ := hins.ex
        rw [h.wait] at e1
        obtain ⟨rfl, rfl⟩ : a = [] ∧ b = [] := by
          have := e1.symm
          simpa using this
        rw [List.nil_append] at e2
        have hps : X1.pushSrc p E0 = { p with last := 3, sil := 0, mark := 5 - c.slack } := by
          unfold Eng.pushSrc
          rw [hlate]
          simp only [Bool.false_eq_true, if_false]
          unfold PSrc.touched
          simp only [hd, Bool.false_eq_true, if_false]
          unfold PSrc.raised
          rw [h.c]
          simp only [hm]
          rw [if_pos (by show _ < E0.ts - c.slack; simp [E0]; omega)]
          rfl
        refine ⟨{ p with last := 3, sil := 0, mark := 5 - c.slack }, 5 - c.slack, hi, hd, by omega, Fl.pl ?_ hpl⟩
        refine Fl.settled (p := { p with last := 3, sil := 0, mark := 5 - c.slack }) (m := -2199023255552) ⟨zc.trans h.c, ?_, ?_, e2, by rw [zl, h.log], by rw [zlt, h.late], by rw [zm, h.mg]⟩ hi hd _ ?_ ?_
        · rw [zs, hps, List.getElem?_set, if_pos rfl, if_pos (get_lt h.src)]
        · intro i q hi0 hq
          rw [zs, List.getElem?_set, if_neg (by omega)] at hq
          exact h.out i q hi0 hq
        · rw [if_pos (by show (-2199023255552 : Int) < 5 - c.slack; omega)]
        · intro e he
          simp only [List.mem_singleton] at he
          subst he
          show ¬ (5 : Int) < 5 - c.slack
          omega
theorem flow3 {c : Cfg} {X2 X3 : Eng} {q : PSrc} {m z : Int} (hi : q.inn = true) (hm : m ≤ 5) (h : Fl X2 c q [E0] [] m) (hL : LeavesX X2 0 z X3) : z = 0 ∧ X3.log = [E0] := by
  rcases hL with ⟨o, _, _⟩ | ⟨i, p', hi', hp, hL⟩
  · unfold Off at o; have := get_lt h.src; omega
  · obtain rfl : i = 0 := by omega
    rw [h.src] at hp
    cases hp
    rcases hL with ⟨h', _⟩ | ⟨_, rfl, hpl⟩
    · rw [hi] at h'; cases h'
    · refine ⟨rfl, ?_⟩
      obtain ⟨ga, gc, wa, wc, rfl⟩ := hpl
      show (X2.gone 0 q).log = [E0]
      have hl := least_none (X := { X2 with srcs := X2.srcs.set 0 { q with inn := false, idle := false } }) (fun i p hp => by
        have hp : (X2.srcs.set 0 { q with inn := false, idle := false })[i]? = some p := hp
        rw [List.getElem?_set] at hp
        split at hp
        · split at hp
          · simp only [Option.some.injEq] at hp; rw [← hp]
          · simp at hp
        · rename_i hne; exact h.out i p (by omega) hp)
      unfold Eng.gone Eng.settled
      show X2.log ++ X2.wait.filter _ = [E0]
      have hr : Eng.rise { X2 with srcs := X2.srcs.set 0 { q with inn := false, idle := false } } = 6 := by
        unfold Eng.rise Eng.aim
        rw [hl]
        simp only [h.wait, h.mg]
        simp [lastTs, E0]; omega
      rw [hr, h.log, h.wait]
      rfl
set_option maxRecDepth 100000 in
set_option maxHeartbeats 4000000 in
theorem flows_true (n : Nat) (c : Cfg) (w : World) (hn : c.sources = n) (hok : c.ok) :
    Calls Tryd.prog 23 #[.agg #[.int .i64 c.sources, .int .i64 c.slack, .int .i64 c.policy, .int .i64 c.room, .int .i64 c.idle, .string c.pat]] w fun e w' => e = .returned (.bool true) ∧ Below w.heap.size w w' := by
  have HO : Hid c.ok := hok
  have HNn : Hid (c.sources = n) := hn
  have hn1 : 1 ≤ n := by have := hok.1.1; omega
  have HMd : Hid (∀ u, Calls Tryd.prog 8 #[.agg #[.int .i64 c.sources, .int .i64 c.slack, .int .i64 c.policy, .int .i64 c.room, .int .i64 c.idle, .string c.pat]] u fun e w' => ∃ b sg sc p, e = .returned (.tuple #[.pointer (some ⟨b, 0, none⟩), .bool true]) ∧ MemX w' b (newEng c n sg sc p) ∧ (∀ k, some k ∈ (newEng c n sg sc p).fp b → u.heap.size ≤ k) ∧ Below u.heap.size u w') := fun u => made_any n c u hn hok
  clear hn hok
  have H0 : Hid (Below w.heap.size w (w.alloc (.cells #[.int .i64 c.sources, .int .i64 c.slack, .int .i64 c.policy, .int .i64 c.room, .int .i64 c.idle, .string c.pat] 26))) := (Below.refl _ _).alloc (Nat.le_refl _) _
  go_enter Tryd.func23, Tryd.ntmps23
  go_upto_region 4 with (go_at_call 8; refine (HMd.out _).mono ?_; rintro e w1 ⟨b, sg, sc, pv, rfl, hM, hf, hb⟩)
  have HM1 : Hid (MemX w1 b (newEng c n sg sc pv)) := hM
  have HF1 : Hid (∀ k, some k ∈ (newEng c n sg sc pv).fp b → w.heap.size ≤ k) := fun k hk => Nat.le_trans (by simp) (hf k hk)
  have HB1 : Hid (Below w.heap.size w w1) := H0.out.trans (hb.mono (by simp))
  have HL0 : Hid (Like 0 (newEng c n sg sc pv) (newRef c n none 0 0)) := new_like HNn.out HO.out
  clear hM hf hb HMd H0
  have hj : ∀ u, MemX u b (newEng c n sg sc pv) → Calls Tryd.prog 27 #[.pointer (some ⟨b, 0, none⟩), .int .i64 0] u fun e w' => ∃ X1, e = .returned (.int .i64 0) ∧ JoinsX (newEng c n sg sc pv) 0 0 X1 ∧ EvoX u b (newEng c n sg sc pv) w' X1 := fun u hu => (xjoin_rel 0 HL0.out u hu).mono fun e w' ⟨z, X1, he, hP, hev⟩ => by
    obtain ⟨rfl, _⟩ := flow1 hn1 hP
    exact ⟨X1, he, hP, hev⟩
  go_upto_region 5 with (go_at_call 27; refine (hj _ HM1.out).mono ?_; rintro e w2 ⟨X1, rfl, hP1, hE1⟩)
  obtain ⟨p1, i1, d1, m1, l1, hFl1⟩ := (flow1 hn1 hP1).2
  obtain ⟨z1, R1, hR1⟩ := joinR_some (newRef c n none 0 0) 0
  have HL1 : Hid (Like (0 + 2) X1 R1) := (join_agree HL0.out hP1 hR1).2
  have HE1 : Hid (EvoX w1 b (newEng c n sg sc pv) w2 X1) := hE1
  have HFl1 : Hid (Fl X1 c p1 [] [] (-2199023255552) ∧ p1.inn = true ∧ p1.idle = false ∧ p1.mark = -2199023255552 ∧ p1.last = -1) := ⟨hFl1, i1, d1, m1, l1⟩
  clear hj hP1 hE1 i1 d1 m1 l1 hFl1 hR1
  have hp : ∀ u, MemX u b X1 → Calls Tryd.prog 30 #[.pointer (some ⟨b, 0, none⟩), .int .i64 0, .agg #[.int .i64 0, .int .i64 3, .int .i64 5, .int .i64 65, .int .i64 7]] u fun e w' => ∃ X2, e = .returned (.int .i64 0) ∧ PushesX X1 0 E0 0 X2 ∧ EvoX u b X1 w' X2 := fun u hu => (xpushes_rel 0 E0 HL1.out u hu).mono fun e w' ⟨z, X2, he, hP, hev⟩ => by
    obtain ⟨rfl, _⟩ := flow2 HO.out.1 HFl1.out.2.1 HFl1.out.2.2.1 HFl1.out.2.2.2.1 HFl1.out.2.2.2.2 HFl1.out.1 hP
    exact ⟨X2, he, hP, hev⟩
  go_upto_region 6 with (go_at_call 30; refine (hp _ HE1.out.mem).mono ?_; rintro e w3 ⟨X2, rfl, hP2, hE2⟩)
  obtain ⟨q, m, i2, d2, m2, hFl2⟩ := (flow2 HO.out.1 HFl1.out.2.1 HFl1.out.2.2.1 HFl1.out.2.2.2.1 HFl1.out.2.2.2.2 HFl1.out.1 hP2).2
  obtain ⟨z2, R2, hR2⟩ := pushesR_some R1 0 E0
  have HL2 : Hid (Like (0 + 2 + 2) X2 R2) := (pushes_agree HL1.out hP2 hR2).2
  have HE2 : Hid (EvoX w2 b X1 w3 X2) := hE2
  have HFl2 : Hid (Fl X2 c q [E0] [] m ∧ q.inn = true ∧ m ≤ 5) := ⟨hFl2, i2, m2⟩
  clear hp hP2 hE2 i2 d2 m2 hFl2 hR2
  have hv : ∀ u, MemX u b X2 → Calls Tryd.prog 29 #[.pointer (some ⟨b, 0, none⟩), .int .i64 0] u fun e w' => ∃ X3, e = .returned (.int .i64 0) ∧ LeavesX X2 0 0 X3 ∧ EvoX u b X2 w' X3 := fun u hu => (xleave_rel 0 HL2.out u hu).mono fun e w' ⟨z, X3, he, hP, hev⟩ => by
    obtain ⟨rfl, _⟩ := flow3 HFl2.out.2.1 HFl2.out.2.2 HFl2.out.1 hP
    exact ⟨X3, he, hP, hev⟩
  go_upto_region 7 with (go_at_call 29; refine (hv _ HE2.out.mem).mono ?_; rintro e w4 ⟨X3, rfl, hP3, hE3⟩)
  have HLg : Hid (X3.log = [E0]) := (flow3 HFl2.out.2.1 HFl2.out.2.2 HFl2.out.1 hP3).2
  have HE3 : Hid (EvoX w3 b X2 w4 X3) := hE3
  clear hv hP3 hE3
  have hg : ∀ u, MemX u b X3 → Calls Tryd.prog 16 #[.pointer (some ⟨b, 0, none⟩)] u fun e w' => ∃ (g cc : Nat), e = .returned (.slice (some ⟨g, 0, none⟩) 1 cc) ∧ (w'.cell? ⟨g, 0, none⟩ = some (.int .i64 0) ∧ w'.cell? ⟨g, 1, none⟩ = some (.int .i64 3) ∧ w'.cell? ⟨g, 2, none⟩ = some (.int .i64 5) ∧ w'.cell? ⟨g, 3, none⟩ = some (.int .i64 65) ∧ w'.cell? ⟨g, 4, none⟩ = some (.int .i64 7)) ∧ Below u.heap.size u w' := fun u hu => (xlog_any b X3 u hu (by rw [HLg.out]; simp)).mono fun e w' ⟨a, cc, he, hro, hbe⟩ => by
    rw [HLg.out] at he hro
    have hro' : Row w' 37 5 a [E0].length cc (evs [E0]) := ⟨hro.1, hro.2.imp id (fun ⟨g, cap, cur, h1, h2, h3⟩ => ⟨g, cap, cur, h1, Nat.zero_le _, h3⟩)⟩
    obtain ⟨g, ha, _, x0, x1, x2, x3, x4⟩ := evRow_cells hro' 0 (by simp)
    exact ⟨g, cc, by rw [he, ha]; rfl, ⟨x0, x1, x2, x3, x4⟩, hbe⟩
  go_wp2_with (go_at_call 16; refine (hg _ HE3.out.mem).mono ?_; rintro e w5 ⟨g, cc, rfl, ⟨x0, x1, x2, x3, x4⟩, hb5⟩)
  go_ret
  refine ⟨rfl, ?_⟩
  have hE := (HE1.out.trans HE2.out).trans HE3.out
  exact (kept_toBelow HB1.out hE.kept HF1.out).trans (hb5.mono (kept_toBelow HB1.out hE.kept HF1.out).size)
end Go.Proofs.YtghcololkgeoeabDoor
