import Derived.Test.YtghcololkgeoeabGreatPartC0
namespace Go.Proofs.YtghcololkgeoeabGreat
open Go.RowKit
set_option linter.unusedVariables false
set_option linter.unusedSimpArgs false
attribute [local go_sem ↓] Go.wp_at_zero Go.wp_at_succ

theorem own_kept {S : Nat → Prop} {w w' : World} {base : Nat} {t : TypeId} {sz : Nat} {a : Option Addr} {n c m : Nat} {xs : List Value} (h : w.ownsRow base t sz (.slice a n c) m xs) (hk : Kept S w w') (hn : ∀ k, bk a = some k → ¬ S k) : w'.ownsRow base t sz (.slice a n c) m xs := by
  obtain ⟨h1, h2⟩ := h
  refine ⟨h1, ?_⟩
  rcases h2 with h2 | ⟨g, cap, cur, hv, hg, hh, r⟩
  · exact Or.inl h2
  · have e : bk a = some g := by simp only [Value.slice.injEq] at hv; rw [hv.1]; rfl
    have hlt : g < w.heap.size := by
      rcases Nat.lt_or_ge g w.heap.size with hlt | hge
      · exact hlt
      · rw [Array.getElem?_eq_none hge] at hh; cases hh
    exact Or.inr ⟨g, cap, cur, hv, hg, by rw [hk.block g hlt (hn g e)]; exact hh, r⟩
theorem EvoX.side {w wr w1 : World} {b : Nat} {X XK : Eng} {S : Nat → Prop} (h : EvoX w b X wr XK) (K : Kept S wr w1) (hS : ∀ k, S k → some k ∉ XK.fp b ∧ w.heap.size ≤ k) : EvoX w b X w1 XK :=
  ⟨h.mem.kept K (fun k hk hs => (hS k hs).1 hk), h.kept.trans' K (fun i hi e => absurd (hS i e).2 (by omega)), h.grow⟩
structure RelK (w wr : World) (b : Nat) (X XK : Eng) (k : Nat) (ra : Option Addr) (rc : Nat) : Prop where
  eq : XK = { X with log := X.log ++ (X.wait.take k).filter (fun e => decide (e.ts < X.merged)), ga := XK.ga, gc := XK.gc }
  evo : EvoX w b X wr XK
  row : wr.ownsRow w.heap.size 30 5 (.slice ra ((X.wait.take k).filter (fun e => !decide (e.ts < X.merged))).length rc) ((X.wait.take k).filter (fun e => !decide (e.ts < X.merged))).length (evs ((X.wait.take k).filter (fun e => !decide (e.ts < X.merged))))
  off : ∀ g, bk ra = some g → some g ∉ XK.fp b
def Eng.released (X : Eng) : Eng := { X with log := X.log ++ X.wait.filter (fun e => decide (e.ts < X.merged)), wait := X.wait.filter (fun e => !decide (e.ts < X.merged)) }
set_option maxRecDepth 100000 in
set_option maxHeartbeats 4000000 in
theorem xrelease_any (b : Nat) (X : Eng) (w : World) (h : MemX w b X) (hall : X.wait.length ≤ 1000) (hlog : X.log.length ≤ 1000) :
    Calls Tryz.prog 83 #[.pointer (some ⟨b, 0, none⟩)] w fun e w' => e = .returned (.tuple #[]) ∧ ∃ ga gc wa wc, EvoX w b X w' { X.released with ga := ga, gc := gc, wa := wa, wc := wc } := by
  obtain ⟨j0, hj0, hy0, hy1, hy2⟩ := info_parts Tryz.infoEv
  have H : Hid (MemX w b X) := h
  obtain ⟨_, _, _, _, _, _, c8, _⟩ := h.cells
  have hlt0 := h.eng.lt
  clear h
  go_enter Tryz.func83, Tryz.ntmps83
  go_wp2
  go_loopw [2, 10] (fun v i wr => ∃ (k : Nat) (ra : Option Addr) (rc : Nat) (XK : Eng), k ≤ X.wait.length ∧ i = .int .i64 k ∧ v = .slice ra ((X.wait.take k).filter (fun e => !decide (e.ts < X.merged))).length rc ∧ RelK w wr b X XK k ra rc) (fun _ i _ => X.wait.length - (intOf i).toNat)
  case atStart => exact ⟨0, none, 0, X, Nat.zero_le _, rfl, by simp, ⟨by simp, EvoX.refl H.out, by simpa using World.ownsRow_nil _ _ _ _, fun g e => by cases e⟩⟩
  case round =>
    obtain ⟨k, ra, rc, XK, hk, rfl, rfl, hrk⟩ := hrel
    have HK : Hid (RelK w wr b X XK k ra rc) := hrk
    clear hrk
    have hfl : ((X.wait.take k).filter (fun e => !decide (e.ts < X.merged))).length ≤ 1000 := by
      have := List.length_filter_le (fun e : Ev => !decide (e.ts < X.merged)) (X.wait.take k)
      simp at this; omega
    have hmg : XK.merged = X.merged ∧ XK.wait = X.wait ∧ XK.wa = X.wa ∧ XK.wc = X.wc := by rw [HK.out.eq]; exact ⟨rfl, rfl, rfl, rfl⟩
    obtain ⟨_, _, _, _, _, c7, _⟩ := HK.out.evo.mem.cells
    rw [hmg.1] at c7
    have hsz := HK.out.evo.kept.size
    by_cases hlt : k < X.wait.length
    · have hlt' : (k : Int) < (X.wait.length : Int) := by omega
      have hk0 : (0 : Int) ≤ (k : Int) := by omega
      have HWr : Hid (Row wr 30 5 X.wa X.wait.length X.wc (evs X.wait)) := by show Row _ _ _ _ _ _ _; have := HK.out.evo.mem.wt; rw [hmg.2.1, hmg.2.2.1, hmg.2.2.2] at this; exact this
      obtain ⟨g, hg, hnc, e0, e1, e2, e3, e4⟩ := evRow_cells HWr.out k hlt
      have HF1 : Hid ((X.wait.take (k + 1)).filter (fun e => decide (e.ts < X.merged)) = (X.wait.take k).filter (fun e => decide (e.ts < X.merged)) ++ if decide (X.wait[k].ts < X.merged) then [X.wait[k]] else []) := filter_snoc _ _ _ hlt
      have HF2 : Hid ((X.wait.take (k + 1)).filter (fun e => !decide (e.ts < X.merged)) = (X.wait.take k).filter (fun e => !decide (e.ts < X.merged)) ++ if !decide (X.wait[k].ts < X.merged) then [X.wait[k]] else []) := filter_snoc _ _ _ hlt
      have HXl : Hid (XK.log.length ≤ 2000) := by
        show _ ≤ _
        rw [HK.out.eq]
        have := List.length_filter_le (fun e : Ev => decide (e.ts < X.merged)) (X.wait.take k)
        simp at this ⊢; omega
      have c7a : ∀ o, (wr.alloc o).cell? ⟨b, 10, none⟩ = some (.int .i64 X.merged) := fun o => by have := (HK.out.evo.mem.alloc o).cells.2.2.2.2.2.1; rw [hmg.1] at this; exact this
      clear c8
      rw [hg]
      obtain ⟨EE, HEE⟩ := hex X.wait[k]
      rw [← HEE.out] at e0 e1 e2 e3 e4 HF1 HF2
      obtain ⟨L, HL⟩ := hex ((X.wait.take k).filter (fun e => !decide (e.ts < X.merged)))
      rw [← HL.out] at HF2 hfl ⊢
      have HRow0 : Hid (wr.ownsRow w.heap.size 30 5 (.slice ra L.length rc) L.length (evs L)) := by show World.ownsRow _ _ _ _ _ _ _; rw [HL.out]; exact HK.out.row
      by_cases t : EE.ts < X.merged
      · go_upto_region 4 with fail
        go_quiet (fail)
        go_upto_region 5 with fail
        obtain ⟨wq, HWq⟩ := hex ((wr.alloc (.cells EE.vals.toArray 30)).drewN nq)
        have hwq : (wr.alloc (.cells #[.int .i64 EE.src, .int .i64 EE.seq, .int .i64 EE.ts, .int .i64 EE.kind, .int .i64 EE.val] 30)).drewN nq = wq := HWq.out.symm
        rw [hwq]
        have HBq : Hid (Below wr.heap.size wr wq) := by show Below _ _ _; rw [HWq.out]; exact bdrewN ((Below.refl _ _).alloc (Nat.le_refl _) _) _
        obtain ⟨eb, HEb⟩ := hex wr.heap.size
        have HBx : Hid (Blk wq eb 30 EE.vals) := by show Blk _ _ _ _; rw [HWq.out, HEb.out]; exact blk_alloc _ _ _
        rw [← HEb.out]
        clear hwq HWq c7 c7a e0 e1 e2 e3 e4
        have HH : Hid (MemX wq b XK) := HK.out.evo.mem.below HBq.out
        have HNe : Hid (¬ some eb ∈ XK.fp b) := fun e => by have := HK.out.evo.mem.fp_lt _ e; have := HEb.out; omega
        have hxl := HXl.out
        have cx : wq.cell? ⟨b, 12, none⟩ = some (.slice XK.ga XK.log.length XK.gc) := HH.out.eng.cell 12
        have HRow : Hid (Row wq 30 5 XK.ga XK.log.length XK.gc (evs XK.log)) := HH.out.lg
        refine upTo_region (fun u => u.cell? ⟨b, 12, none⟩ = some (.slice XK.ga XK.log.length XK.gc) ∧ u.cell? ⟨eb, 0, none⟩ = some (.int .i64 EE.src) ∧ u.cell? ⟨eb, 1, none⟩ = some (.int .i64 EE.seq) ∧ u.cell? ⟨eb, 2, none⟩ = some (.int .i64 EE.ts) ∧ u.cell? ⟨eb, 3, none⟩ = some (.int .i64 EE.kind) ∧ u.cell? ⟨eb, 4, none⟩ = some (.int .i64 EE.val)) 10 11 rfl (by kernel_rfl) ?_
        have hS0 : (fun u : World => u.cell? ⟨b, 12, none⟩ = some (.slice XK.ga XK.log.length XK.gc) ∧ u.cell? ⟨eb, 0, none⟩ = some (.int .i64 EE.src) ∧ u.cell? ⟨eb, 1, none⟩ = some (.int .i64 EE.seq) ∧ u.cell? ⟨eb, 2, none⟩ = some (.int .i64 EE.ts) ∧ u.cell? ⟨eb, 3, none⟩ = some (.int .i64 EE.kind) ∧ u.cell? ⟨eb, 4, none⟩ = some (.int .i64 EE.val)) wq.drew := ⟨cx, HBx.out.cell 0, HBx.out.cell 1, HBx.out.cell 2, HBx.out.cell 3, HBx.out.cell 4⟩
        refine upTo_tk (i := 0) (v := ?v13_0) rfl (by kernel_rfl) (fun _ _ _ h => h) (by rfl) hS0 ?h13_0 ?r13_0
        case h13_0 => (intro u hu; (try dsimp only at hu); go_simp; first | done | with_reducible rfl)
        (try simp only [Act.put, tkS])
        refine upTo_tk (i := 1) (v := ?v13_1) rfl (by kernel_rfl) (fun _ _ _ h => h) (by rfl) hS0 ?h13_1 ?r13_1
        case h13_1 => (intro u hu; (try dsimp only at hu); go_simp; first | done | with_reducible rfl)
        (try simp only [Act.put, tkS])
        refine upTo_tk (i := 2) (v := ?v13_2) rfl (by kernel_rfl) (fun _ _ _ h => h) (by rfl) hS0 ?h13_2 ?r13_2
        case h13_2 => (intro u hu; (try dsimp only at hu); go_simp; first | done | with_reducible rfl)
        (try simp only [Act.put, tkS])
        refine upTo_tk (i := 3) (v := ?v13_3) rfl (by kernel_rfl) (fun _ _ _ h => h) (by rfl) hS0 ?h13_3 ?r13_3
        case h13_3 => (intro u hu; (try dsimp only at hu); go_simp; first | done | with_reducible rfl)
        (try simp only [Act.put, tkS])
        refine upTo_tk (i := 4) (v := ?v13_4) rfl (by kernel_rfl) (fun _ _ _ h => h) (by rfl) hS0 ?h13_4 ?r13_4
        case h13_4 => (intro u hu; (try dsimp only at hu); go_simp; first | done | with_reducible rfl)
        (try simp only [Act.put, tkS])
        refine upTo_tk (i := 5) (v := ?v13_5) rfl (by kernel_rfl) (fun _ _ _ h => h) (by rfl) hS0 ?h13_5 ?r13_5
        case h13_5 => (intro u hu; (try dsimp only at hu); go_simp; first | done | with_reducible rfl)
        (try simp only [Act.put, tkS])
        refine upTo_one (i := 6) (by kernel_rfl) rfl (fun K hK => ?_)
        go_simp
        refine hK.out _ _ (fun _ => ⟨(HH.out.alloc _).eng.cell 12, (HBx.out.alloc _).cell 0, (HBx.out.alloc _).cell 1, (HBx.out.alloc _).cell 2, (HBx.out.alloc _).cell 3, (HBx.out.alloc _).cell 4⟩) ?_
        clear hK K
        (try simp only [Act.put, tkS])
        refine upTo_one (i := 7) (by kernel_rfl) rfl (fun K hK => ?_)
        refine step_append_lies _ (by rfl) _ _ _ (by rfl) 0 30 j0 _ 5 40 Tryz.underlying22 hj0 hy0 hy1 hy2 rfl (by omega) (.slice XK.ga XK.log.length XK.gc) XK.log.length (evs XK.log) (by rfl) (ownsRow_of_heap HRow.out (fun k hk => Below.heap_alloc _ _ _ hk))
          ⟨wq.heap.size, 0, none⟩ 1 1 EE.vals (by rfl) (by rfl) (World.news_of_block (cs := EE.vals.toArray) (t := 30) (fr := (0, 0)) (heap_alloc_new wq _)) (Ev.one EE)
          (by omega) (by unfold maxLen; omega) (by omega) (by omega) (wq.heap.size + 1) (by simp) ?_
        intro gg cap w1 hown1 hgrow hat hlt1
        have hb0 : Below wq.heap.size wq (wq.alloc (.cells EE.vals.toArray 30)).drew := ((Below.refl _ wq).alloc (Nat.le_refl _) _).drew
        obtain ⟨_, qk, qb, _, _⟩ := xapp (j := 3) (cap := cap) HH.out hb0 rfl (by omega) hgrow hat
        have q0 := qb.eng (by omega) (by omega)
        have q4 := q0.frozen 12
        have HB1 : Hid (Blk w1 eb 30 EE.vals) := HBx.out.kept qk HNe.out
        refine hK.out _ _ (fun _ => ⟨q0.cell 12, HB1.out.cell 0, HB1.out.cell 1, HB1.out.cell 2, HB1.out.cell 3, HB1.out.cell 4⟩) ?_
        clear hK K hS0
        (try simp only [Act.put, tkS])
        refine upTo_one (i := 8) (by kernel_rfl) rfl (fun K hK => ?_)
        go_simp
        refine hK.out _ _ (fun _ => ⟨q0.cell 12, HB1.out.cell 0, HB1.out.cell 1, HB1.out.cell 2, HB1.out.cell 3, HB1.out.cell 4⟩) ?_
        clear hK K
        (try simp only [Act.put, tkS])
        refine upTo_one (i := 9) (by kernel_rfl) rfl (fun K hK => ?_)
        go_simp
        refine hK.out _ _ (fun _ => ⟨q0.cell 12, HB1.out.cell 0, HB1.out.cell 1, HB1.out.cell 2, HB1.out.cell 3, HB1.out.cell 4⟩) ?_
        clear hK K
        (try simp only [Act.put, tkS])
        have q5 := q0.cell 12
        simp only [Eng.vals, Cfg.valsE, List.cons_append, List.nil_append, List.getElem?_cons_succ, List.getElem?_cons_zero] at q5
        refine upTo_one (i := 10) (by kernel_rfl) rfl (fun K hK => ?_)
        go_simp
        refine hK.out _ _ (fun h => absurd rfl h) ?_
        clear hK K
        (try simp only [Act.put, tkS])
        refine upTo_done (by kernel_rfl) ?_
        obtain ⟨XZ, HXZ⟩ := hex ({ XK with log := XK.log ++ [EE], ga := some ⟨gg, 0, none⟩, gc := cap } : Eng)
        have HE3 : Hid (EvoX wq b XK (w1.setCell ⟨b, 12, none⟩ (.slice (some ⟨gg, 0, none⟩) (XK.log.length + 1) cap)) XZ) := by show EvoX _ _ _ _ _; rw [HXZ.out]; exact HH.out.appLogE hb0 hown1 hgrow hat
        have HKz : Hid (Kept (fun k => some k ∈ XK.fp b) wq (w1.setCell ⟨b, 12, none⟩ (.slice (some ⟨gg, 0, none⟩) (XK.log.length + 1) cap))) := HE3.out.kept
        clear q0 q4 q5 qk qb cx hown1 hgrow hat hlt1 hb0 HRow HB1
        generalize w1.setCell ⟨b, 12, none⟩ (.slice (some ⟨gg, 0, none⟩) (XK.log.length + 1) cap) = wz at *
        go_wp2
        go_roundw
        case rel =>
          have hz := HE3.out
          have hrl : ∀ g, bk ra = some g → g < wr.heap.size := fun g e => (HRow0.out.lt g (by rw [bk_own]; exact e)).2
          refine ⟨k + 1, ra, rc, XZ, by omega, by go_num, ?_, ⟨?_, ?_, ?_, ?_⟩⟩
          · rw [HF2.out]; simp [t]
          · rw [HXZ.out, HK.out.eq]
            rw [HF1.out]
            simp [t]
          · exact (HK.out.evo.trans (EvoX.below HK.out.evo.mem HBq.out)).trans hz
          · rw [HF2.out]
            simp only [t, decide_true, Bool.not_true, Bool.false_eq_true, if_false, List.append_nil]
            have r1 : wq.ownsRow w.heap.size 30 5 (.slice ra L.length rc) L.length (evs L) := ownsRow_of_heap HRow0.out (fun k hk => HBq.out.block k hk)
            exact own_kept r1 HKz.out (fun g e => HK.out.off g e)
          · intro g e f
            rcases hz.grow g f with h | h
            · exact HK.out.off g e h
            · have := hrl g e; have := HBq.out.size; omega
        case measure => simp [intOf]; omega
      · have hd : decide (EE.ts < X.merged) = false := by simpa using t
        go_upto_region 4 with fail
        go_quiet (fail)
        go_wp2_with (at_builtin; refine wpList_append_lies _ rfl _ _ _ rfl w.heap.size 30 j0 _ 5 40 Tryz.underlying22 hj0 hy0 hy1 hy2 rfl (by omega) (.slice ra L.length rc) L.length (evs L) rfl (ownsRow_of_heap HRow0.out (two_old _ _ _ _)) ⟨wr.heap.size + 1, 0, none⟩ 1 1 EE.vals rfl rfl (news_new _ _ (by simp) EE.vals 30) (Ev.one EE) (by omega) (by unfold maxLen; omega) (by omega) (by simp; omega) (wr.heap.size + 2) (by simp) ?_; intro g2 cap w1 hown1 hgrow hat hlt1)
        go_roundw
        case rel =>
          have hrl : ∀ g, bk ra = some g → g < wr.heap.size := fun g e => (HRow0.out.lt g (by rw [bk_own]; exact e)).2
          have hrb : ∀ g, bk ra = some g → w.heap.size ≤ g := fun g e => (HRow0.out.lt g (by rw [bk_own]; exact e)).1
          rw [bk_own] at hgrow hat
          have K2 : Kept (fun b => bk ra = some b) wr w1 := ((((Kept.refl (fun b => bk ra = some b) wr).alloc _).drewN _).alloc _).grown hgrow (fun k _ e => e)
          refine ⟨k + 1, some ⟨g2, 0, none⟩, cap, XK, by omega, by go_num, ?_, ⟨?_, ?_, ?_, ?_⟩⟩
          · rw [HF2.out]; simp [hd]
          · rw [HF1.out]
            simp only [hd, Bool.false_eq_true, if_false, List.append_nil]
            exact HK.out.eq
          · exact HK.out.evo.side K2 (fun k e => ⟨HK.out.off k e, hrb k e⟩)
          · rw [HF2.out]
            simp only [hd, Bool.not_false, if_true, List.length_append, List.length_cons, List.length_nil, evs_snoc]
            exact hown1
          · intro g e f
            simp only [bk, Option.map_some, Option.some.injEq] at e
            subst e
            rcases hat with h | h
            · exact HK.out.off _ h f
            · have := HK.out.evo.mem.fp_lt _ f; omega
        case measure => simp [intOf]; omega
    · obtain rfl : k = X.wait.length := by omega
      have f8 := HK.out.evo.mem.eng.frozen 11
      have c8' := HK.out.evo.mem.cells.2.2.2.2.2.2.1
      go_wp2
      go_end0
      refine ⟨rfl, XK.ga, XK.gc, ra, rc, ?_⟩
      have hrow := HK.out.row
      have heq := HK.out.eq
      rw [List.take_length] at hrow heq
      have := MemX.setWaitE HK.out.evo (toRow hrow) (fun g e => ⟨(hrow.lt g (by rw [bk_own]; exact e)).1, HK.out.off g e⟩)
      (try simp only [List.take_length])
      have e9 : ({ XK with wait := X.wait.filter (fun e => !decide (e.ts < X.merged)), wa := ra, wc := rc } : Eng) = { X.released with ga := XK.ga, gc := XK.gc, wa := ra, wc := rc } := by rw [heq]; rfl
      rw [← e9]
      exact this

set_option maxRecDepth 100000 in
set_option maxHeartbeats 4000000 in
theorem xsettle_any (b : Nat) (X : Eng) (w : World) (h : MemX w b X) (hn : X.srcs.length ≤ 6) (hall : X.wait.length ≤ 1000) (hlog : X.log.length ≤ 1000) (hts : ∀ e ∈ X.wait, -4398046511104 ≤ e.ts ∧ e.ts ≤ 4398046511104) :
    Calls Tryz.prog 53 #[.pointer (some ⟨b, 0, none⟩)] w fun e w' => e = .returned (.tuple #[]) ∧ ∃ ga gc wa wc, EvoX w b X w' { X.settled with ga := ga, gc := gc, wa := wa, wc := wc } := by
  have H : Hid (MemX w b X) := h
  clear h
  go_enter Tryz.func53, Tryz.ntmps53
  go_wp2_with (first
    | (go_at_call 82; refine (xmerge_any b X _ H.out hn hall hts).mono ?_; rintro e w2 ⟨rfl, hev2⟩)
    | (go_at_call 83; refine (xrelease_any b _ _ hev2.mem hall hlog).mono ?_; rintro e w3 ⟨rfl, ga, gc, wa, wc, hev3⟩))
  go_end0
  exact ⟨rfl, ga, gc, wa, wc, hev2.trans hev3⟩
end Go.Proofs.YtghcololkgeoeabGreat
namespace Go.Proofs.YtghcololkgeoeabGreat
open Go.RowKit
set_option linter.unusedVariables false
set_option linter.unusedSimpArgs false
attribute [local go_sem ↓] Go.wp_at_zero Go.wp_at_succ

structure SaneX (X : Eng) : Prop where
  n : X.srcs.length ≤ 6
  wait : X.wait.length ≤ 1000
  log : X.log.length ≤ 1000
  late : X.late.length ≤ 1000
  ts : ∀ e ∈ X.wait, -4398046511104 ≤ e.ts ∧ e.ts ≤ 4398046511104
def EvoP (w : World) (b : Nat) (X : Eng) (w' : World) (Y : Eng) : Prop := ∃ ga gc wa wc, EvoX w b X w' { Y with ga := ga, gc := gc, wa := wa, wc := wc }

set_option maxHeartbeats 400000 in
theorem xjoin_none (b : Nat) (X : Eng) (s : Int) (w : World) (h : MemX w b X) (hs : s < 0 ∨ (X.srcs.length : Int) ≤ s) :
    Calls Tryz.prog 22 #[.pointer (some ⟨b, 0, none⟩), .int .i64 s] w fun e w' => e = .returned (.int .i64 3) ∧ w = w' := by
  have HD : Hid (decide (0 ≤ s ∧ s < (X.srcs.length : Int)) = false) := by show _ = _; simp; omega
  clear hs
  go_enter Tryz.func22, Tryz.ntmps22
  go_wp2_with (go_at_call 39; refine (xhas_any b X s _ h).mono ?_; rintro e w' ⟨rfl, rfl⟩; rw [HD.out])
  go_ret
  exact ⟨rfl, rfl⟩
set_option maxHeartbeats 400000 in
theorem xjoin_in (b : Nat) (X : Eng) (i : Nat) (w : World) (h : MemX w b X) (hi : i < X.srcs.length) (hin : X.srcs[i].inn = true) :
    Calls Tryz.prog 22 #[.pointer (some ⟨b, 0, none⟩), .int .i64 i] w fun e w' => e = .returned (.int .i64 4) ∧ w = w' := by
  have HD : Hid (decide (0 ≤ (i : Int) ∧ (i : Int) < (X.srcs.length : Int)) = true) := by show _ = _; simp; omega
  obtain ⟨_, _, _, _, c6, _⟩ := h.cells
  have s0 := h.srcCell i 0 hi (by omega)
  simp only [PSrc.vals, List.getElem?_cons_zero, Nat.add_zero, hin] at s0
  have hi' : (i : Int) < (X.srcs.length : Int) := by omega
  have hi0 : (0 : Int) ≤ (i : Int) := by omega
  go_enter Tryz.func22, Tryz.ntmps22
  go_wp2_with (go_at_call 39; refine (xhas_any b X _ _ h).mono ?_; rintro e w' ⟨rfl, rfl⟩; rw [HD.out])
  go_ret
  exact ⟨rfl, rfl⟩
set_option maxRecDepth 100000 in
set_option maxHeartbeats 2000000 in
theorem xjoin_ok (b : Nat) (X : Eng) (i : Nat) (w : World) (h : MemX w b X) (hs : SaneX X) (hi : i < X.srcs.length) (hin : X.srcs[i].inn = false) :
    Calls Tryz.prog 22 #[.pointer (some ⟨b, 0, none⟩), .int .i64 i] w fun e w' => e = .returned (.int .i64 0) ∧ EvoP w b X w' (X.joined i X.srcs[i]) := by
  have HD : Hid (decide (0 ≤ (i : Int) ∧ (i : Int) < (X.srcs.length : Int)) = true) := by show _ = _; simp; omega
  have H : Hid (MemX w b X) := h
  have HSn : Hid (SaneX X) := hs
  obtain ⟨_, _, _, _, c6, _⟩ := h.cells
  have s0 := h.srcCell i 0 hi (by omega)
  simp only [PSrc.vals, List.getElem?_cons_zero, Nat.add_zero, hin] at s0
  have f0 := h.srcFrozen (i * 6) (by omega)
  have hi' : (i : Int) < (X.srcs.length : Int) := by omega
  have hi0 : (0 : Int) ≤ (i : Int) := by omega
  clear h hs
  go_enter Tryz.func22, Tryz.ntmps22
  go_upto_region 6 with (go_at_call 39; refine (xhas_any b X _ _ H.out).mono ?_; rintro e w' ⟨rfl, rfl⟩; rw [HD.out])
  obtain ⟨X1, HX1⟩ := hex ({ X with srcs := X.srcs.set i { X.srcs[i] with inn := true } } : Eng)
  have HE1 : Hid (EvoX w b X (w.setCell ⟨X.sg, i * 6, none⟩ (.bool true)) X1) := by
    show EvoX _ _ _ _ _
    rw [HX1.out]
    exact H.out.setSrcE { X.srcs[i] with inn := true } hi 0 (by omega) (.bool true) rfl ⟨rfl, rfl, rfl⟩
  clear c6 s0 f0
  generalize w.setCell ⟨X.sg, i * 6, none⟩ (.bool true) = wq at *
  have hl1 : i < X1.srcs.length := by rw [HX1.out]; simp; exact hi
  obtain ⟨X2, HX2⟩ := hex ({ X1 with srcs := X1.srcs.set i (X1.srcs[i].activated X1.merged) } : Eng)
  have HQ : Hid (X2.srcs.length = X.srcs.length ∧ X2.wait = X.wait ∧ X2.log = X.log ∧ X2.settled = X.joined i X.srcs[i]) := by
    show _ ∧ _
    have e1 := HX1.out
    subst e1
    have e2 := HX2.out
    subst e2
    refine ⟨by simp, rfl, rfl, ?_⟩
    unfold Eng.joined
    simp
  go_wp2_with (first
    | (go_at_call 52; refine (xactivate_any b X1 i _ HE1.out.mem hl1).mono ?_; rintro e w3 ⟨rfl, hev3⟩; have HE3 : Hid (EvoX wq b X1 w3 X2) := by (show EvoX _ _ _ _ _; rw [HX2.out]; exact hev3))
    | (go_at_call 53; refine (xsettle_any b X2 _ HE3.out.mem (by rw [HQ.out.1]; exact HSn.out.n) (by rw [HQ.out.2.1]; exact HSn.out.wait) (by rw [HQ.out.2.2.1]; exact HSn.out.log) (by rw [HQ.out.2.1]; exact HSn.out.ts)).mono ?_; rintro e w4 ⟨rfl, ga, gc, wa, wc, hev4⟩))
  go_ret
  rw [HQ.out.2.2.2] at hev4
  exact ⟨rfl, ga, gc, wa, wc, (HE1.out.trans HE3.out).trans hev4⟩

set_option maxHeartbeats 400000 in
theorem xleave_none (b : Nat) (X : Eng) (s : Int) (w : World) (h : MemX w b X) (hs : s < 0 ∨ (X.srcs.length : Int) ≤ s) :
    Calls Tryz.prog 24 #[.pointer (some ⟨b, 0, none⟩), .int .i64 s] w fun e w' => e = .returned (.int .i64 3) ∧ w = w' := by
  go_enter Tryz.func24, Tryz.ntmps24
  go_wp2_with (go_at_call 55; refine (xcheckIn_none b X s _ h hs).mono ?_; rintro e w' ⟨rfl, rfl⟩)
  go_ret
  exact ⟨rfl, rfl⟩
set_option maxHeartbeats 400000 in
theorem xleave_out (b : Nat) (X : Eng) (i : Nat) (w : World) (h : MemX w b X) (hi : i < X.srcs.length) (hin : X.srcs[i].inn = false) :
    Calls Tryz.prog 24 #[.pointer (some ⟨b, 0, none⟩), .int .i64 i] w fun e w' => e = .returned (.int .i64 4) ∧ w = w' := by
  have HI : Hid ((if X.srcs[i].inn then (0 : Int) else 4) = 4) := by show _ = _; rw [hin]; rfl
  go_enter Tryz.func24, Tryz.ntmps24
  go_wp2_with (go_at_call 55; refine (xcheckIn_some b X i _ h hi).mono ?_; rintro e w' ⟨rfl, rfl⟩; rw [HI.out])
  go_ret
  exact ⟨rfl, rfl⟩
set_option maxRecDepth 100000 in
set_option maxHeartbeats 2000000 in
theorem xleave_ok (b : Nat) (X : Eng) (i : Nat) (w : World) (h : MemX w b X) (hs : SaneX X) (hi : i < X.srcs.length) (hin : X.srcs[i].inn = true) :
    Calls Tryz.prog 24 #[.pointer (some ⟨b, 0, none⟩), .int .i64 i] w fun e w' => e = .returned (.int .i64 0) ∧ EvoP w b X w' (X.gone i X.srcs[i]) := by
  have HI : Hid ((if X.srcs[i].inn then (0 : Int) else 4) = 0) := by show _ = _; rw [hin]; rfl
  have H : Hid (MemX w b X) := h
  have HSn : Hid (SaneX X) := hs
  obtain ⟨_, _, _, _, c6, _⟩ := h.cells
  have s0 := h.srcCell i 0 hi (by omega)
  have s1 := h.srcCell i 1 hi (by omega)
  simp only [PSrc.vals, List.getElem?_cons_zero, List.getElem?_cons_succ, Nat.add_zero] at s0 s1
  have f0 := h.srcFrozen (i * 6) (by omega)
  have f1 := h.srcFrozen (i * 6 + 1) (by omega)
  have hi' : (i : Int) < (X.srcs.length : Int) := by omega
  have hi0 : (0 : Int) ≤ (i : Int) := by omega
  have hbs : b ≠ X.sg := fun e => by have := h.dis 0 1 b rfl (by rw [e]; rfl); omega
  clear h hs
  go_enter Tryz.func24, Tryz.ntmps24
  go_upto_region 6 with (go_at_call 55; refine (xcheckIn_some b X i _ H.out hi).mono ?_; rintro e w' ⟨rfl, rfl⟩; rw [HI.out])
  obtain ⟨X2, HX2⟩ := hex ({ X with srcs := X.srcs.set i { X.srcs[i] with inn := false, idle := false } } : Eng)
  have HE3 : Hid (EvoX w b X ((w.setCell ⟨X.sg, i * 6, none⟩ (.bool false)).setCell ⟨X.sg, i * 6 + 1, none⟩ (.bool false)) X2) := by
    show EvoX _ _ _ _ _
    rw [HX2.out]
    have e1 := H.out.setSrcE { X.srcs[i] with inn := false } hi 0 (by omega) (.bool false) rfl ⟨rfl, rfl, rfl⟩
    have e2 := e1.mem.setSrcE (i := i) { X.srcs[i] with inn := false, idle := false } (by simp; exact hi) 1 (by omega) (.bool false) (by simp [PSrc.vals]) (by simp)
    simp only [List.set_set] at e2
    exact e1.trans e2
  clear c6 s0 s1 f0 f1
  generalize (w.setCell ⟨X.sg, i * 6, none⟩ (.bool false)).setCell ⟨X.sg, i * 6 + 1, none⟩ (.bool false) = wq at *
  have HQ : Hid (X2.srcs.length = X.srcs.length ∧ X2.wait = X.wait ∧ X2.log = X.log ∧ X2.settled = X.gone i X.srcs[i]) := by
    show _ ∧ _
    have e2 := HX2.out
    subst e2
    exact ⟨by simp, rfl, rfl, rfl⟩
  go_wp2_with (go_at_call 53; refine (xsettle_any b X2 _ HE3.out.mem (by rw [HQ.out.1]; exact HSn.out.n) (by rw [HQ.out.2.1]; exact HSn.out.wait) (by rw [HQ.out.2.2.1]; exact HSn.out.log) (by rw [HQ.out.2.1]; exact HSn.out.ts)).mono ?_; rintro e w4 ⟨rfl, ga, gc, wa, wc, hev4⟩)
  go_ret
  rw [HQ.out.2.2.2] at hev4
  exact ⟨rfl, ga, gc, wa, wc, HE3.out.trans hev4⟩

set_option maxHeartbeats 400000 in
theorem within_any (n l m : Int) (w : World) : Calls Tryz.prog 67 #[.int .i64 n, .int .i64 l, .int .i64 m] w fun e w' => e = .returned (.bool (decide (l ≤ n ∧ n ≤ m))) ∧ w = w' := by
  by_cases h0 : l ≤ n
  · by_cases h1 : n ≤ m
    · have hd : decide (l ≤ n ∧ n ≤ m) = true := by simp [h0, h1]
      rw [hd]
      go_enter Tryz.func67, Tryz.ntmps67
      go_wp2
      go_ret
      exact ⟨rfl, rfl⟩
    · have hd : decide (l ≤ n ∧ n ≤ m) = false := by simp [h1]
      rw [hd]
      have hd1 : decide (n ≤ m) = false := by simpa using h1
      go_enter Tryz.func67, Tryz.ntmps67
      go_wp2
      go_ret
      exact ⟨rfl, rfl⟩
  · have hd : decide (l ≤ n ∧ n ≤ m) = false := by simp [h0]
    rw [hd]
    have hd0 : decide (l ≤ n) = false := by simpa using h0
    go_enter Tryz.func67, Tryz.ntmps67
    go_wp2
    go_ret
    exact ⟨rfl, rfl⟩
set_option maxRecDepth 100000 in
set_option maxHeartbeats 2000000 in
theorem xisConfig_any (c : Cfg) (t : Bool) (w : World) (ht : t = true ↔ c.fits) : Calls Tryz.prog 35 #[c.agg] w fun e w' => e = .returned (.bool t) ∧ Below w.heap.size w w' := by
  have HF : Hid (t = true ↔ c.fits) := ht
  clear ht
  have hB : Below w.heap.size w (w.alloc (.cells #[.int .i64 c.sources, .int .i64 c.slack, .int .i64 c.policy, .int .i64 c.room, .int .i64 c.idle, .string c.pat] 27)) := (Below.refl _ _).alloc (Nat.le_refl _) _
  unfold Cfg.agg
  cases h1 : decide (1 ≤ c.sources ∧ c.sources ≤ 6) with
  | false =>
    have hf : t = false := by
      cases t with
      | false => rfl
      | true => have := HF.out.1 rfl; unfold Cfg.fits at this; simp at h1; omega
    rw [hf]
    have H1 : Hid (decide (1 ≤ c.sources ∧ c.sources ≤ 6) = false) := h1
    clear h1
    go_enter Tryz.func35, Tryz.ntmps35
    go_wp2_with (go_at_call 67; refine (within_any _ _ _ _).mono ?_; rintro e w' ⟨rfl, rfl⟩; rw [H1.out])
    go_ret
    exact ⟨rfl, hB⟩
  | true =>
    have H1 : Hid (decide (1 ≤ c.sources ∧ c.sources ≤ 6) = true) := h1
    clear h1
    cases h2 : decide (0 ≤ c.slack ∧ c.slack ≤ 1000) with
    | false =>
      have hf : t = false := by
        cases t with
        | false => rfl
        | true => have := HF.out.1 rfl; unfold Cfg.fits at this; simp at h2; omega
      rw [hf]
      have H2 : Hid (decide (0 ≤ c.slack ∧ c.slack ≤ 1000) = false) := h2
      clear h2
      go_enter Tryz.func35, Tryz.ntmps35
      go_wp2_with (go_at_call 67; refine (within_any _ _ _ _).mono ?_; rintro e w' ⟨rfl, rfl⟩; first | rw [H1.out] | rw [H2.out])
      go_ret
      exact ⟨rfl, hB⟩
    | true =>
      have H2 : Hid (decide (0 ≤ c.slack ∧ c.slack ≤ 1000) = true) := h2
      clear h2
      cases h3 : decide (0 ≤ c.policy ∧ c.policy ≤ 2) with
      | false =>
        have hf : t = false := by
          cases t with
          | false => rfl
          | true => have := HF.out.1 rfl; unfold Cfg.fits at this; simp at h3; omega
        rw [hf]
        have H3 : Hid (decide (0 ≤ c.policy ∧ c.policy ≤ 2) = false) := h3
        clear h3
        go_enter Tryz.func35, Tryz.ntmps35
        go_wp2_with (go_at_call 67; refine (within_any _ _ _ _).mono ?_; rintro e w' ⟨rfl, rfl⟩; first | rw [H1.out] | rw [H2.out] | rw [H3.out])
        go_ret
        exact ⟨rfl, hB⟩
      | true =>
        have H3 : Hid (decide (0 ≤ c.policy ∧ c.policy ≤ 2) = true) := h3
        clear h3
        cases h4 : decide (1 ≤ c.room ∧ c.room ≤ 32) with
        | false =>
          have hf : t = false := by
            cases t with
            | false => rfl
            | true => have := HF.out.1 rfl; unfold Cfg.fits at this; simp at h4; omega
          rw [hf]
          have H4 : Hid (decide (1 ≤ c.room ∧ c.room ≤ 32) = false) := h4
          clear h4
          go_enter Tryz.func35, Tryz.ntmps35
          go_wp2_with (go_at_call 67; refine (within_any _ _ _ _).mono ?_; rintro e w' ⟨rfl, rfl⟩; first | rw [H1.out] | rw [H2.out] | rw [H3.out] | rw [H4.out])
          go_ret
          exact ⟨rfl, hB⟩
        | true =>
          have H4 : Hid (decide (1 ≤ c.room ∧ c.room ≤ 32) = true) := h4
          clear h4
          obtain ⟨t5, h5⟩ : ∃ t5, decide (0 ≤ c.idle ∧ c.idle ≤ 1000) = t5 := ⟨_, rfl⟩
          have H5 : Hid (decide (0 ≤ c.idle ∧ c.idle ≤ 1000) = t5) := h5
          clear h5
          have hf : t = t5 := by
            have a1 := of_decide_eq_true H1.out
            have a2 := of_decide_eq_true H2.out
            have a3 := of_decide_eq_true H3.out
            have a4 := of_decide_eq_true H4.out
            have hx : t = true ↔ t5 = true := by
              rw [HF.out, ← H5.out, decide_eq_true_iff]
              unfold Cfg.fits
              omega
            cases t <;> cases t5 <;> simp_all
          rw [hf]
          go_enter Tryz.func35, Tryz.ntmps35
          go_wp2_with (go_at_call 67; refine (within_any _ _ _ _).mono ?_; rintro e w' ⟨rfl, rfl⟩; first | rw [H1.out] | rw [H2.out] | rw [H3.out] | rw [H4.out] | rw [H5.out])
          go_ret
          exact ⟨rfl, hB⟩
end Go.Proofs.YtghcololkgeoeabGreat
