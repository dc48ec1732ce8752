import Derived.Test.YthiabdpgieppoaaGreatXG
namespace Go.Proofs.YthiabdpgieppoaaGreat
open Go.RowKit
set_option linter.unusedVariables false
set_option linter.unusedSimpArgs false
attribute [local go_sem ↓] Go.wp_at_zero Go.wp_at_succ

/-- place -/
def Eng.Placed (X Y : Eng) (E : Ev) (f : Int) : Prop := (f = 1 ∧ ∃ da dc, Y = { X with late := X.late ++ [E], da := da, dc := dc }) ∨ (f = 2 ∧ ∃ W wa wc, Ins E X.wait W ∧ Y = { X with wait := W, wa := wa, wc := wc }) ∨
  (f = 3 ∧ ∃ W wa wc, Ins { E with ts := if E.ts < X.merged then X.merged else E.ts } X.wait W ∧ Y = { X with wait := W, wa := wa, wc := wc }) ∨ (f = 0 ∧ Y = X)
set_option maxRecDepth 100000 in
set_option maxHeartbeats 8000000 in
theorem xplace_any (b : Nat) (X : Eng) (EE : Ev) (f : Int) (w : World) (h : MemX w b X) (hs : SaneX X) (hw : X.wait.length ≤ 900) (hf : 0 ≤ f ∧ f ≤ 3) :
    Calls Tryz.prog 47 #[.pointer (some ⟨b, 0, none⟩), EE.agg, .int .i64 f] w fun e w' => e = .returned (.tuple #[]) ∧ ∃ Y, X.Placed Y EE f ∧ EvoX w b X w' Y := by
  obtain ⟨j0, hj0, hy0, hy1, hy2⟩ := info_parts Tryz.infoEv
  have hla := hs.late
  obtain ⟨wq, HWq⟩ := hex (w.alloc (.cells EE.vals.toArray 32))
  have hwq : w.alloc (.cells #[.int .i64 EE.src, .int .i64 EE.seq, .int .i64 EE.ts, .int .i64 EE.kind, .int .i64 EE.val] 32) = wq := HWq.out.symm
  obtain ⟨eb, HEb⟩ := hex w.heap.size
  have HBq : Hid (Below w.heap.size w wq) := by show Below _ _ _; rw [HWq.out]; exact (Below.refl _ _).alloc (Nat.le_refl _) _
  have HBx : Hid (Blk wq eb 32 EE.vals) := by show Blk _ _ _ _; rw [HWq.out, HEb.out]; exact blk_alloc _ _ _
  have H : Hid (MemX w b X) := h
  have HH : Hid (MemX wq b X) := h.below HBq.out
  have HNe : Hid (¬ some eb ∈ X.fp b) := fun e => by have := H.out.fp_lt _ e; have := HEb.out; omega
  clear h hs
  have hwt : ∀ (E : Ev) (u : World), MemX u b X → Calls Tryz.prog 77 #[.pointer (some ⟨b, 0, none⟩), .agg #[.int .i64 E.src, .int .i64 E.seq, .int .i64 E.ts, .int .i64 E.kind, .int .i64 E.val]] u fun e w' => e = .returned (.tuple #[]) ∧ ∃ W wa wc, Ins E X.wait W ∧ EvoX u b X w' { X with wait := W, wa := wa, wc := wc } := fun E u hu => xwait_any b X E u hu hw
  have HWt : Hid (∀ (E : Ev) (u : World), MemX u b X → Calls Tryz.prog 77 #[.pointer (some ⟨b, 0, none⟩), .agg #[.int .i64 E.src, .int .i64 E.seq, .int .i64 E.ts, .int .i64 E.kind, .int .i64 E.val]] u fun e w' => e = .returned (.tuple #[]) ∧ ∃ W wa wc, Ins E X.wait W ∧ EvoX u b X w' { X with wait := W, wa := wa, wc := wc }) := hwt
  clear hwt
  have m0 := HBx.out.cell 0
  have m1 := HBx.out.cell 1
  have m2 := HBx.out.cell 2
  have m3 := HBx.out.cell 3
  have m4 := HBx.out.cell 4
  simp only [Ev.vals, List.getElem?_cons_zero, List.getElem?_cons_succ] at m0 m1 m2 m3 m4
  unfold Ev.agg
  have hff : f = 0 ∨ f = 1 ∨ f = 2 ∨ f = 3 := by omega
  rcases hff with rfl | rfl | rfl | rfl
  · go_enter Tryz.func47, Tryz.ntmps47
    go_wp2
    go_end0
    exact ⟨rfl, X, Or.inr (Or.inr (Or.inr ⟨rfl, rfl⟩)), EvoX.below H.out HBq.out⟩
  · go_enter Tryz.func47, Tryz.ntmps47
    go_upto_region 3 with fail
    rw [← HEb.out]
    clear hwq HWq m0 m1 m2 m3 m4
    have cx : wq.cell? ⟨b, 10, none⟩ = some (.slice X.da X.late.length X.dc) := HH.out.eng.cell 10
    have HRow : Hid (Row wq 32 5 X.da X.late.length X.dc (evs X.late)) := HH.out.lt
    refine upTo_region (fun u => u.cell? ⟨b, 10, none⟩ = some (.slice X.da X.late.length X.dc) ∧ u.cell? ⟨eb, 0, none⟩ = some (.int .i64 EE.src) ∧ u.cell? ⟨eb, 1, none⟩ = some (.int .i64 EE.seq) ∧ u.cell? ⟨eb, 2, none⟩ = some (.int .i64 EE.ts) ∧ u.cell? ⟨eb, 3, none⟩ = some (.int .i64 EE.kind) ∧ u.cell? ⟨eb, 4, none⟩ = some (.int .i64 EE.val)) 10 11 rfl (by kernel_rfl) ?_
    have hS0 : (fun u : World => u.cell? ⟨b, 10, none⟩ = some (.slice X.da X.late.length X.dc) ∧ u.cell? ⟨eb, 0, none⟩ = some (.int .i64 EE.src) ∧ u.cell? ⟨eb, 1, none⟩ = some (.int .i64 EE.seq) ∧ u.cell? ⟨eb, 2, none⟩ = some (.int .i64 EE.ts) ∧ u.cell? ⟨eb, 3, none⟩ = some (.int .i64 EE.kind) ∧ u.cell? ⟨eb, 4, none⟩ = some (.int .i64 EE.val)) wq.drew := ⟨cx, HBx.out.cell 0, HBx.out.cell 1, HBx.out.cell 2, HBx.out.cell 3, HBx.out.cell 4⟩
    refine upTo_take (i := 0) (v := ?v6_0) rfl (by kernel_rfl) (by kernel_rfl) (by kernel_rfl) (by kernel_rfl) (by rfl) (fun _ _ _ h => h) (by rfl) hS0 ?hy6_0 ?rest6_0
    case hy6_0 => (intro u hu; (try dsimp only at hu); go_simp; first | done | with_reducible rfl)
    (try simp only [Act.put, List.setIfInBounds_toArray, List.set_cons_zero, List.set_cons_succ, List.getElem_toArray, List.getElem_cons_succ, List.getElem_cons_zero])
    refine upTo_take (i := 1) (v := ?v6_1) rfl (by kernel_rfl) (by kernel_rfl) (by kernel_rfl) (by kernel_rfl) (by rfl) (fun _ _ _ h => h) (by rfl) hS0 ?hy6_1 ?rest6_1
    case hy6_1 => (intro u hu; (try dsimp only at hu); go_simp; first | done | with_reducible rfl)
    (try simp only [Act.put, List.setIfInBounds_toArray, List.set_cons_zero, List.set_cons_succ, List.getElem_toArray, List.getElem_cons_succ, List.getElem_cons_zero])
    refine upTo_take (i := 2) (v := ?v6_2) rfl (by kernel_rfl) (by kernel_rfl) (by kernel_rfl) (by kernel_rfl) (by rfl) (fun _ _ _ h => h) (by rfl) hS0 ?hy6_2 ?rest6_2
    case hy6_2 => (intro u hu; (try dsimp only at hu); go_simp; first | done | with_reducible rfl)
    (try simp only [Act.put, List.setIfInBounds_toArray, List.set_cons_zero, List.set_cons_succ, List.getElem_toArray, List.getElem_cons_succ, List.getElem_cons_zero])
    refine upTo_take (i := 3) (v := ?v6_3) rfl (by kernel_rfl) (by kernel_rfl) (by kernel_rfl) (by kernel_rfl) (by rfl) (fun _ _ _ h => h) (by rfl) hS0 ?hy6_3 ?rest6_3
    case hy6_3 => (intro u hu; (try dsimp only at hu); go_simp; first | done | with_reducible rfl)
    (try simp only [Act.put, List.setIfInBounds_toArray, List.set_cons_zero, List.set_cons_succ, List.getElem_toArray, List.getElem_cons_succ, List.getElem_cons_zero])
    refine upTo_take (i := 4) (v := ?v6_4) rfl (by kernel_rfl) (by kernel_rfl) (by kernel_rfl) (by kernel_rfl) (by rfl) (fun _ _ _ h => h) (by rfl) hS0 ?hy6_4 ?rest6_4
    case hy6_4 => (intro u hu; (try dsimp only at hu); go_simp; first | done | with_reducible rfl)
    (try simp only [Act.put, List.setIfInBounds_toArray, List.set_cons_zero, List.set_cons_succ, List.getElem_toArray, List.getElem_cons_succ, List.getElem_cons_zero])
    refine upTo_take (i := 5) (v := ?v6_5) rfl (by kernel_rfl) (by kernel_rfl) (by kernel_rfl) (by kernel_rfl) (by rfl) (fun _ _ _ h => h) (by rfl) hS0 ?hy6_5 ?rest6_5
    case hy6_5 => (intro u hu; (try dsimp only at hu); go_simp; first | done | with_reducible rfl)
    (try simp only [Act.put, List.setIfInBounds_toArray, List.set_cons_zero, List.set_cons_succ, List.getElem_toArray, List.getElem_cons_succ, List.getElem_cons_zero])
    refine upTo_one (i := 6) (by kernel_rfl) rfl (fun K hK => ?_)
    go_simp
    refine hK.out _ _ (fun _ => ⟨(HH.out.alloc _).eng.cell 10, (HBx.out.alloc _).cell 0, (HBx.out.alloc _).cell 1, (HBx.out.alloc _).cell 2, (HBx.out.alloc _).cell 3, (HBx.out.alloc _).cell 4⟩) ?_
    clear hK K
    (try simp only [Act.put, List.setIfInBounds_toArray, List.set_cons_zero, List.set_cons_succ, List.getElem_toArray, List.getElem_cons_succ, List.getElem_cons_zero])
    refine upTo_one (i := 7) (by kernel_rfl) rfl (fun K hK => ?_)
    refine step_append_lies _ (by rfl) _ _ _ (by rfl) 0 32 j0 _ 5 40 Tryz.underlying78 hj0 hy0 hy1 hy2 rfl (by omega) (.slice X.da X.late.length X.dc) X.late.length (evs X.late) (by rfl) (ownsRow_of_heap HRow.out (fun k hk => Below.heap_alloc _ _ _ hk))
      ⟨wq.heap.size, 0, none⟩ 1 1 EE.vals (by rfl) (by rfl) (World.news_of_block (cs := EE.vals.toArray) (t := 32) (fr := (0, 0)) (heap_alloc_new wq _)) (Ev.one EE)
      (by omega) (by unfold maxLen; omega) (by omega) (by omega) (wq.heap.size + 1) (by simp) ?_
    intro gg cap w1 hown1 hgrow hat hlt1
    have hb0 : Below wq.heap.size wq (wq.alloc (.cells EE.vals.toArray 32)).drew := ((Below.refl _ wq).alloc (Nat.le_refl _) _).drew
    obtain ⟨_, qk, qb, _, _⟩ := xapp (j := 4) (cap := cap) HH.out hb0 rfl (by omega) hgrow hat
    have q0 := qb.eng (by omega) (by omega)
    have q4 := q0.frozen 10
    have HB1 : Hid (Blk w1 eb 32 EE.vals) := HBx.out.kept qk HNe.out
    refine hK.out _ _ (fun _ => ⟨q0.cell 10, HB1.out.cell 0, HB1.out.cell 1, HB1.out.cell 2, HB1.out.cell 3, HB1.out.cell 4⟩) ?_
    clear hK K hS0
    (try simp only [Act.put, List.setIfInBounds_toArray, List.set_cons_zero, List.set_cons_succ, List.getElem_toArray, List.getElem_cons_succ, List.getElem_cons_zero])
    refine upTo_one (i := 8) (by kernel_rfl) rfl (fun K hK => ?_)
    go_simp
    refine hK.out _ _ (fun _ => ⟨q0.cell 10, HB1.out.cell 0, HB1.out.cell 1, HB1.out.cell 2, HB1.out.cell 3, HB1.out.cell 4⟩) ?_
    clear hK K
    (try simp only [Act.put, List.setIfInBounds_toArray, List.set_cons_zero, List.set_cons_succ, List.getElem_toArray, List.getElem_cons_succ, List.getElem_cons_zero])
    refine upTo_one (i := 9) (by kernel_rfl) rfl (fun K hK => ?_)
    go_simp
    refine hK.out _ _ (fun _ => ⟨q0.cell 10, HB1.out.cell 0, HB1.out.cell 1, HB1.out.cell 2, HB1.out.cell 3, HB1.out.cell 4⟩) ?_
    clear hK K
    (try simp only [Act.put, List.setIfInBounds_toArray, List.set_cons_zero, List.set_cons_succ, List.getElem_toArray, List.getElem_cons_succ, List.getElem_cons_zero])
    have q5 := q0.cell 10
    simp only [Eng.vals, Cfg.vals, List.cons_append, List.nil_append, List.getElem?_cons_succ, List.getElem?_cons_zero] at q5
    refine upTo_one (i := 10) (by kernel_rfl) rfl (fun K hK => ?_)
    go_simp
    refine hK.out _ _ (fun h => absurd rfl h) ?_
    clear hK K
    (try simp only [Act.put, List.setIfInBounds_toArray, List.set_cons_zero, List.set_cons_succ, List.getElem_toArray, List.getElem_cons_succ, List.getElem_cons_zero])
    refine upTo_done (by kernel_rfl) ?_
    obtain ⟨XZ, HXZ⟩ := hex ({ X with late := X.late ++ [EE], da := some ⟨gg, 0, none⟩, dc := cap } : Eng)
    have HE3 : Hid (EvoX wq b X (w1.setCell ⟨b, 10, none⟩ (.slice (some ⟨gg, 0, none⟩) (X.late.length + 1) cap)) XZ) := by show EvoX _ _ _ _ _; rw [HXZ.out]; exact HH.out.appLateE hb0 hown1 hgrow hat
    have HKz : Hid (Kept (fun k => some k ∈ X.fp b) wq (w1.setCell ⟨b, 10, none⟩ (.slice (some ⟨gg, 0, none⟩) (X.late.length + 1) cap))) := HE3.out.kept
    clear q0 q4 q5 qk qb cx hown1 hgrow hat hlt1 hb0 HRow HB1
    generalize w1.setCell ⟨b, 10, none⟩ (.slice (some ⟨gg, 0, none⟩) (X.late.length + 1) cap) = wz at *
    go_wp2
    go_end0
    refine ⟨rfl, XZ, Or.inl ⟨rfl, some ⟨gg, 0, none⟩, cap, HXZ.out⟩, (EvoX.below H.out HBq.out).trans HE3.out⟩
  · go_enter Tryz.func47, Tryz.ntmps47
    go_upto_region 5 with fail
    rw [← HEb.out]
    clear hwq HWq
    go_wp2_with (go_at_call 77; refine (HWt.out EE _ HH.out).mono ?_; rintro e w2 ⟨rfl, W, wa, wc, hins, hev⟩)
    go_end0
    exact ⟨rfl, _, Or.inr (Or.inl ⟨rfl, W, wa, wc, hins, rfl⟩), (EvoX.below H.out HBq.out).trans hev⟩
  · have c7 := HH.out.cells.2.2.2.2.2.1
    by_cases hm : EE.ts < X.merged
    · go_enter Tryz.func47, Tryz.ntmps47
      go_upto_region 7 with fail
      rw [← HEb.out]
      clear hwq HWq
      go_quiet (fail)
      go_upto_region 8 with fail
      obtain ⟨wv, HWv⟩ := hex (wq.drewN nq)
      rw [← HWv.out]
      have HLv : Hid (Below wq.heap.size wq wv) := by show Below _ _ _; rw [HWv.out]; exact bdrewN (Below.refl _ _) nq
      clear HWv m0 m1 m2 m3 m4 c7
      have HBv : Hid (Blk wv eb 32 EE.vals) := HBx.out.below HLv.out HBx.out.lt
      have m2 := HBv.out.cell 2
      have fm2 := HBv.out.frozen 2
      simp only [Ev.vals, List.getElem?_cons_zero, List.getElem?_cons_succ] at m2
      have c7 := (HH.out.below HLv.out).cells.2.2.2.2.2.1
      go_upto_region 9 with fail
      have HEv : Hid (EvoX w b X (wv.setCell ⟨eb, 2, none⟩ (.int .i64 X.merged)) X) := ((EvoX.below H.out HBq.out).trans (EvoX.below HH.out HLv.out)).side (S := fun k => k = eb) ((Kept.refl (fun k => k = eb) wv).setCell (fun _ => rfl) _) (fun k e => ⟨by rw [e]; exact HNe.out, by rw [e, HEb.out]; exact Nat.le_refl _⟩)
      have HB9 : Hid (Blk (wv.setCell ⟨eb, 2, none⟩ (.int .i64 X.merged)) eb 32 ({ EE with ts := X.merged } : Ev).vals) := by show Blk _ _ _ _; have := HBv.out.set 2 (.int .i64 X.merged); simpa [Ev.vals] using this
      clear m2 fm2 c7
      generalize wv.setCell ⟨eb, 2, none⟩ (.int .i64 X.merged) = w9 at *
      have m0 := HB9.out.cell 0
      have m1 := HB9.out.cell 1
      have m2 := HB9.out.cell 2
      have m3 := HB9.out.cell 3
      have m4 := HB9.out.cell 4
      simp only [Ev.vals, List.getElem?_cons_zero, List.getElem?_cons_succ] at m0 m1 m2 m3 m4
      go_wp2_with (go_at_call 77; refine (HWt.out ({ EE with ts := X.merged } : Ev) _ HEv.out.mem).mono ?_; rintro e w2 ⟨rfl, W, wa, wc, hins, hev⟩)
      go_end0
      exact ⟨rfl, _, Or.inr (Or.inr (Or.inl ⟨rfl, W, wa, wc, by rw [if_pos (by omega)]; exact hins, rfl⟩)), HEv.out.trans hev⟩
    · have hd : decide (EE.ts < X.merged) = false := by simpa using hm
      go_enter Tryz.func47, Tryz.ntmps47
      go_upto_region 7 with fail
      rw [← HEb.out]
      clear hwq HWq
      go_quiet (fail)
      go_upto_region 9 with fail
      obtain ⟨wv, HWv⟩ := hex (wq.drewN nq)
      rw [← HWv.out]
      have HLv : Hid (Below wq.heap.size wq wv) := by show Below _ _ _; rw [HWv.out]; exact bdrewN (Below.refl _ _) nq
      clear HWv m0 m1 m2 m3 m4 c7
      have HBv : Hid (Blk wv eb 32 EE.vals) := HBx.out.below HLv.out HBx.out.lt
      have m0 := HBv.out.cell 0
      have m1 := HBv.out.cell 1
      have m2 := HBv.out.cell 2
      have m3 := HBv.out.cell 3
      have m4 := HBv.out.cell 4
      simp only [Ev.vals, List.getElem?_cons_zero, List.getElem?_cons_succ] at m0 m1 m2 m3 m4
      go_wp2_with (go_at_call 77; refine (HWt.out EE _ (HH.out.below HLv.out)).mono ?_; rintro e w2 ⟨rfl, W, wa, wc, hins, hev⟩)
      go_end0
      exact ⟨rfl, _, Or.inr (Or.inr (Or.inl ⟨rfl, W, wa, wc, by rw [if_neg (by omega)]; exact hins, rfl⟩)), ((EvoX.below H.out HBq.out).trans (EvoX.below HH.out HLv.out)).trans hev⟩
end Go.Proofs.YthiabdpgieppoaaGreat
