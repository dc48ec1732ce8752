import Derived.Test.YtghcololkgeoeabGreatPartC3
import Derived.Test.YtghcololkgeoeabGreatPartC2
namespace Go.Proofs.YtghcololkgeoeabGreat
open Go.RowKit
set_option linter.unusedVariables false
set_option linter.unusedSimpArgs false
attribute [local go_sem ↓] Go.wp_at_zero Go.wp_at_succ

def Eng.Placed (X Y : Eng) (E : Ev) (f : Int) : Prop := (f = 1 ∧ ∃ da dc, Y = { X with late := X.late ++ [E], da := da, dc := dc }) ∨ (f = 2 ∧ ∃ W wa wc, Ins E X.wait W ∧ Y = { X with wait := W, wa := wa, wc := wc }) ∨
  (f = 3 ∧ ∃ W wa wc, Ins { E with ts := if E.ts < X.merged then X.merged else E.ts } X.wait W ∧ Y = { X with wait := W, wa := wa, wc := wc }) ∨ (f = 0 ∧ Y = X)
set_option maxRecDepth 100000 in
set_option maxHeartbeats 8000000 in
theorem xplace_any (b : Nat) (X : Eng) (EE : Ev) (f : Int) (w : World) (h : MemX w b X) (hs : SaneX X) (hw : X.wait.length ≤ 900) (hf : 0 ≤ f ∧ f ≤ 3) :
    Calls Tryz.prog 61 #[.pointer (some ⟨b, 0, none⟩), EE.agg, .int .i64 f] w fun e w' => e = .returned (.tuple #[]) ∧ ∃ Y, X.Placed Y EE f ∧ EvoX w b X w' Y := by
  obtain ⟨j0, hj0, hy0, hy1, hy2⟩ := info_parts Tryz.infoEv
  have hla := hs.late
  obtain ⟨wq, HWq⟩ := hex (w.alloc (.cells EE.vals.toArray 30))
  have hwq : w.alloc (.cells #[.int .i64 EE.src, .int .i64 EE.seq, .int .i64 EE.ts, .int .i64 EE.kind, .int .i64 EE.val] 30) = wq := HWq.out.symm
  obtain ⟨eb, HEb⟩ := hex w.heap.size
  have HBq : Hid (Below w.heap.size w wq) := by show Below _ _ _; rw [HWq.out]; exact (Below.refl _ _).alloc (Nat.le_refl _) _
  have HBx : Hid (Blk wq eb 30 EE.vals) := by show Blk _ _ _ _; rw [HWq.out, HEb.out]; exact blk_alloc _ _ _
  have H : Hid (MemX w b X) := h
  have HH : Hid (MemX wq b X) := h.below HBq.out
  have HNe : Hid (¬ some eb ∈ X.fp b) := fun e => by have := H.out.fp_lt _ e; have := HEb.out; omega
  clear h hs
  have hwt : ∀ (E : Ev) (u : World), MemX u b X → Calls Tryz.prog 85 #[.pointer (some ⟨b, 0, none⟩), .agg #[.int .i64 E.src, .int .i64 E.seq, .int .i64 E.ts, .int .i64 E.kind, .int .i64 E.val]] u fun e w' => e = .returned (.tuple #[]) ∧ ∃ W wa wc, Ins E X.wait W ∧ EvoX u b X w' { X with wait := W, wa := wa, wc := wc } := fun E u hu => xwait_any b X E u hu hw
  have HWt : Hid (∀ (E : Ev) (u : World), MemX u b X → Calls Tryz.prog 85 #[.pointer (some ⟨b, 0, none⟩), .agg #[.int .i64 E.src, .int .i64 E.seq, .int .i64 E.ts, .int .i64 E.kind, .int .i64 E.val]] u fun e w' => e = .returned (.tuple #[]) ∧ ∃ W wa wc, Ins E X.wait W ∧ EvoX u b X w' { X with wait := W, wa := wa, wc := wc }) := hwt
  clear hwt
  have m0 := HBx.out.cell 0
  have m1 := HBx.out.cell 1
  have m2 := HBx.out.cell 2
  have m3 := HBx.out.cell 3
  have m4 := HBx.out.cell 4
  simp only [Ev.vals, List.getElem?_cons_zero, List.getElem?_cons_succ] at m0 m1 m2 m3 m4
  unfold Ev.agg
  have hff : f = 0 ∨ f = 1 ∨ f = 2 ∨ f = 3 := by omega
  rcases hff with rfl | rfl | rfl | rfl
  · go_enter Tryz.func61, Tryz.ntmps61
    go_wp2
    go_end0
    exact ⟨rfl, X, Or.inr (Or.inr (Or.inr ⟨rfl, rfl⟩)), EvoX.below H.out HBq.out⟩
  · go_enter Tryz.func61, Tryz.ntmps61
    go_upto_region 3 with fail
    rw [← HEb.out]
    clear hwq HWq m0 m1 m2 m3 m4
    have cx : wq.cell? ⟨b, 13, none⟩ = some (.slice X.da X.late.length X.dc) := HH.out.eng.cell 13
    have HRow : Hid (Row wq 30 5 X.da X.late.length X.dc (evs X.late)) := HH.out.lt
    refine upTo_region (fun u => u.cell? ⟨b, 13, none⟩ = some (.slice X.da X.late.length X.dc) ∧ u.cell? ⟨eb, 0, none⟩ = some (.int .i64 EE.src) ∧ u.cell? ⟨eb, 1, none⟩ = some (.int .i64 EE.seq) ∧ u.cell? ⟨eb, 2, none⟩ = some (.int .i64 EE.ts) ∧ u.cell? ⟨eb, 3, none⟩ = some (.int .i64 EE.kind) ∧ u.cell? ⟨eb, 4, none⟩ = some (.int .i64 EE.val)) 10 11 rfl (by kernel_rfl) ?_
    have hS0 : (fun u : World => u.cell? ⟨b, 13, none⟩ = some (.slice X.da X.late.length X.dc) ∧ u.cell? ⟨eb, 0, none⟩ = some (.int .i64 EE.src) ∧ u.cell? ⟨eb, 1, none⟩ = some (.int .i64 EE.seq) ∧ u.cell? ⟨eb, 2, none⟩ = some (.int .i64 EE.ts) ∧ u.cell? ⟨eb, 3, none⟩ = some (.int .i64 EE.kind) ∧ u.cell? ⟨eb, 4, none⟩ = some (.int .i64 EE.val)) wq.drew := ⟨cx, HBx.out.cell 0, HBx.out.cell 1, HBx.out.cell 2, HBx.out.cell 3, HBx.out.cell 4⟩
    refine upTo_tk (i := 0) (v := ?v20_0) rfl (by kernel_rfl) (fun _ _ _ h => h) (by rfl) hS0 ?h20_0 ?r20_0
    case h20_0 => (intro u hu; (try dsimp only at hu); go_simp; first | done | with_reducible rfl)
    (try simp only [Act.put, tkS])
    refine upTo_tk (i := 1) (v := ?v20_1) rfl (by kernel_rfl) (fun _ _ _ h => h) (by rfl) hS0 ?h20_1 ?r20_1
    case h20_1 => (intro u hu; (try dsimp only at hu); go_simp; first | done | with_reducible rfl)
    (try simp only [Act.put, tkS])
    refine upTo_tk (i := 2) (v := ?v20_2) rfl (by kernel_rfl) (fun _ _ _ h => h) (by rfl) hS0 ?h20_2 ?r20_2
    case h20_2 => (intro u hu; (try dsimp only at hu); go_simp; first | done | with_reducible rfl)
    (try simp only [Act.put, tkS])
    refine upTo_tk (i := 3) (v := ?v20_3) rfl (by kernel_rfl) (fun _ _ _ h => h) (by rfl) hS0 ?h20_3 ?r20_3
    case h20_3 => (intro u hu; (try dsimp only at hu); go_simp; first | done | with_reducible rfl)
    (try simp only [Act.put, tkS])
    refine upTo_tk (i := 4) (v := ?v20_4) rfl (by kernel_rfl) (fun _ _ _ h => h) (by rfl) hS0 ?h20_4 ?r20_4
    case h20_4 => (intro u hu; (try dsimp only at hu); go_simp; first | done | with_reducible rfl)
    (try simp only [Act.put, tkS])
    refine upTo_tk (i := 5) (v := ?v20_5) rfl (by kernel_rfl) (fun _ _ _ h => h) (by rfl) hS0 ?h20_5 ?r20_5
    case h20_5 => (intro u hu; (try dsimp only at hu); go_simp; first | done | with_reducible rfl)
    (try simp only [Act.put, tkS])
    refine upTo_one (i := 6) (by kernel_rfl) rfl (fun K hK => ?_)
    go_simp
    refine hK.out _ _ (fun _ => ⟨(HH.out.alloc _).eng.cell 13, (HBx.out.alloc _).cell 0, (HBx.out.alloc _).cell 1, (HBx.out.alloc _).cell 2, (HBx.out.alloc _).cell 3, (HBx.out.alloc _).cell 4⟩) ?_
    clear hK K
    (try simp only [Act.put, tkS])
    refine upTo_one (i := 7) (by kernel_rfl) rfl (fun K hK => ?_)
    refine step_append_lies _ (by rfl) _ _ _ (by rfl) 0 30 j0 _ 5 40 Tryz.underlying22 hj0 hy0 hy1 hy2 rfl (by omega) (.slice X.da X.late.length X.dc) X.late.length (evs X.late) (by rfl) (ownsRow_of_heap HRow.out (fun k hk => Below.heap_alloc _ _ _ hk))
      ⟨wq.heap.size, 0, none⟩ 1 1 EE.vals (by rfl) (by rfl) (World.news_of_block (cs := EE.vals.toArray) (t := 30) (fr := (0, 0)) (heap_alloc_new wq _)) (Ev.one EE)
      (by omega) (by unfold maxLen; omega) (by omega) (by omega) (wq.heap.size + 1) (by simp) ?_
    intro gg cap w1 hown1 hgrow hat hlt1
    have hb0 : Below wq.heap.size wq (wq.alloc (.cells EE.vals.toArray 30)).drew := ((Below.refl _ wq).alloc (Nat.le_refl _) _).drew
    obtain ⟨_, qk, qb, _, _⟩ := xapp (j := 4) (cap := cap) HH.out hb0 rfl (by omega) hgrow hat
    have q0 := qb.eng (by omega) (by omega)
    have q4 := q0.frozen 13
    have HB1 : Hid (Blk w1 eb 30 EE.vals) := HBx.out.kept qk HNe.out
    refine hK.out _ _ (fun _ => ⟨q0.cell 13, HB1.out.cell 0, HB1.out.cell 1, HB1.out.cell 2, HB1.out.cell 3, HB1.out.cell 4⟩) ?_
    clear hK K hS0
    (try simp only [Act.put, tkS])
    refine upTo_one (i := 8) (by kernel_rfl) rfl (fun K hK => ?_)
    go_simp
    refine hK.out _ _ (fun _ => ⟨q0.cell 13, HB1.out.cell 0, HB1.out.cell 1, HB1.out.cell 2, HB1.out.cell 3, HB1.out.cell 4⟩) ?_
    clear hK K
    (try simp only [Act.put, tkS])
    refine upTo_one (i := 9) (by kernel_rfl) rfl (fun K hK => ?_)
    go_simp
    refine hK.out _ _ (fun _ => ⟨q0.cell 13, HB1.out.cell 0, HB1.out.cell 1, HB1.out.cell 2, HB1.out.cell 3, HB1.out.cell 4⟩) ?_
    clear hK K
    (try simp only [Act.put, tkS])
    have q5 := q0.cell 13
    simp only [Eng.vals, Cfg.valsE, List.cons_append, List.nil_append, List.getElem?_cons_succ, List.getElem?_cons_zero] at q5
    refine upTo_one (i := 10) (by kernel_rfl) rfl (fun K hK => ?_)
    go_simp
    refine hK.out _ _ (fun h => absurd rfl h) ?_
    clear hK K
    (try simp only [Act.put, tkS])
    refine upTo_done (by kernel_rfl) ?_
    obtain ⟨XZ, HXZ⟩ := hex ({ X with late := X.late ++ [EE], da := some ⟨gg, 0, none⟩, dc := cap } : Eng)
    have HE3 : Hid (EvoX wq b X (w1.setCell ⟨b, 13, none⟩ (.slice (some ⟨gg, 0, none⟩) (X.late.length + 1) cap)) XZ) := by show EvoX _ _ _ _ _; rw [HXZ.out]; exact HH.out.appLateE hb0 hown1 hgrow hat
    have HKz : Hid (Kept (fun k => some k ∈ X.fp b) wq (w1.setCell ⟨b, 13, none⟩ (.slice (some ⟨gg, 0, none⟩) (X.late.length + 1) cap))) := HE3.out.kept
    clear q0 q4 q5 qk qb cx hown1 hgrow hat hlt1 hb0 HRow HB1
    generalize w1.setCell ⟨b, 13, none⟩ (.slice (some ⟨gg, 0, none⟩) (X.late.length + 1) cap) = wz at *
    go_wp2
    go_end0
    refine ⟨rfl, XZ, Or.inl ⟨rfl, some ⟨gg, 0, none⟩, cap, HXZ.out⟩, (EvoX.below H.out HBq.out).trans HE3.out⟩
  · go_enter Tryz.func61, Tryz.ntmps61
    go_upto_region 5 with fail
    rw [← HEb.out]
    clear hwq HWq
    go_wp2_with (go_at_call 85; refine (HWt.out EE _ HH.out).mono ?_; rintro e w2 ⟨rfl, W, wa, wc, hins, hev⟩)
    go_end0
    exact ⟨rfl, _, Or.inr (Or.inl ⟨rfl, W, wa, wc, hins, rfl⟩), (EvoX.below H.out HBq.out).trans hev⟩
  · have c7 := HH.out.cells.2.2.2.2.2.1
    by_cases hm : EE.ts < X.merged
    · go_enter Tryz.func61, Tryz.ntmps61
      go_upto_region 7 with fail
      rw [← HEb.out]
      clear hwq HWq
      go_quiet (fail)
      go_upto_region 8 with fail
      obtain ⟨wv, HWv⟩ := hex (wq.drewN nq)
      rw [← HWv.out]
      have HLv : Hid (Below wq.heap.size wq wv) := by show Below _ _ _; rw [HWv.out]; exact bdrewN (Below.refl _ _) nq
      clear HWv m0 m1 m2 m3 m4 c7
      have HBv : Hid (Blk wv eb 30 EE.vals) := HBx.out.below HLv.out HBx.out.lt
      have m2 := HBv.out.cell 2
      have fm2 := HBv.out.frozen 2
      simp only [Ev.vals, List.getElem?_cons_zero, List.getElem?_cons_succ] at m2
      have c7 := (HH.out.below HLv.out).cells.2.2.2.2.2.1
      go_upto_region 9 with fail
      have HEv : Hid (EvoX w b X (wv.setCell ⟨eb, 2, none⟩ (.int .i64 X.merged)) X) := ((EvoX.below H.out HBq.out).trans (EvoX.below HH.out HLv.out)).side (S := fun k => k = eb) ((Kept.refl (fun k => k = eb) wv).setCell (fun _ => rfl) _) (fun k e => ⟨by rw [e]; exact HNe.out, by rw [e, HEb.out]; exact Nat.le_refl _⟩)
      have HB9 : Hid (Blk (wv.setCell ⟨eb, 2, none⟩ (.int .i64 X.merged)) eb 30 ({ EE with ts := X.merged } : Ev).vals) := by show Blk _ _ _ _; have := HBv.out.set 2 (.int .i64 X.merged); simpa [Ev.vals] using this
      clear m2 fm2 c7
      generalize wv.setCell ⟨eb, 2, none⟩ (.int .i64 X.merged) = w9 at *
      have m0 := HB9.out.cell 0
      have m1 := HB9.out.cell 1
      have m2 := HB9.out.cell 2
      have m3 := HB9.out.cell 3
      have m4 := HB9.out.cell 4
      simp only [Ev.vals, List.getElem?_cons_zero, List.getElem?_cons_succ] at m0 m1 m2 m3 m4
      go_wp2_with (go_at_call 85; refine (HWt.out ({ EE with ts := X.merged } : Ev) _ HEv.out.mem).mono ?_; rintro e w2 ⟨rfl, W, wa, wc, hins, hev⟩)
      go_end0
      exact ⟨rfl, _, Or.inr (Or.inr (Or.inl ⟨rfl, W, wa, wc, by rw [if_pos (by omega)]; exact hins, rfl⟩)), HEv.out.trans hev⟩
    · have hd : decide (EE.ts < X.merged) = false := by simpa using hm
      go_enter Tryz.func61, Tryz.ntmps61
      go_upto_region 7 with fail
      rw [← HEb.out]
      clear hwq HWq
      go_quiet (fail)
      go_upto_region 9 with fail
      obtain ⟨wv, HWv⟩ := hex (wq.drewN nq)
      rw [← HWv.out]
      have HLv : Hid (Below wq.heap.size wq wv) := by show Below _ _ _; rw [HWv.out]; exact bdrewN (Below.refl _ _) nq
      clear HWv m0 m1 m2 m3 m4 c7
      have HBv : Hid (Blk wv eb 30 EE.vals) := HBx.out.below HLv.out HBx.out.lt
      have m0 := HBv.out.cell 0
      have m1 := HBv.out.cell 1
      have m2 := HBv.out.cell 2
      have m3 := HBv.out.cell 3
      have m4 := HBv.out.cell 4
      simp only [Ev.vals, List.getElem?_cons_zero, List.getElem?_cons_succ] at m0 m1 m2 m3 m4
      go_wp2_with (go_at_call 85; refine (HWt.out EE _ (HH.out.below HLv.out)).mono ?_; rintro e w2 ⟨rfl, W, wa, wc, hins, hev⟩)
      go_end0
      exact ⟨rfl, _, Or.inr (Or.inr (Or.inl ⟨rfl, W, wa, wc, by rw [if_neg (by omega)]; exact hins, rfl⟩)), ((EvoX.below H.out HBq.out).trans (EvoX.below HH.out HLv.out)).trans hev⟩
end Go.Proofs.YtghcololkgeoeabGreat
namespace Go.Proofs.YtghcololkgeoeabGreat
open Go.RowKit
set_option linter.unusedVariables false
set_option linter.unusedSimpArgs false
attribute [local go_sem ↓] Go.wp_at_zero Go.wp_at_succ

set_option maxHeartbeats 400000 in
theorem xpunct_none (b : Nat) (X : Eng) (s ts : Int) (w : World) (h : MemX w b X) (hs : s < 0 ∨ (X.srcs.length : Int) ≤ s) :
    Calls Tryz.prog 28 #[.pointer (some ⟨b, 0, none⟩), .int .i64 s, .int .i64 ts] w fun e w' => e = .returned (.int .i64 3) ∧ w = w' := by
  go_enter Tryz.func28, Tryz.ntmps28
  go_wp2_with (go_at_call 55; refine (xcheckIn_none b X s _ h hs).mono ?_; rintro e w' ⟨rfl, rfl⟩)
  go_ret
  exact ⟨rfl, rfl⟩
set_option maxHeartbeats 400000 in
theorem xpunct_out (b : Nat) (X : Eng) (i : Nat) (ts : Int) (w : World) (h : MemX w b X) (hi : i < X.srcs.length) (hin : X.srcs[i].inn = false) :
    Calls Tryz.prog 28 #[.pointer (some ⟨b, 0, none⟩), .int .i64 i, .int .i64 ts] w fun e w' => e = .returned (.int .i64 4) ∧ w = w' := by
  have HI : Hid ((if X.srcs[i].inn then (0 : Int) else 4) = 4) := by show _ = _; rw [hin]; rfl
  go_enter Tryz.func28, Tryz.ntmps28
  go_wp2_with (go_at_call 55; refine (xcheckIn_some b X i _ h hi).mono ?_; rintro e w' ⟨rfl, rfl⟩; rw [HI.out])
  go_ret
  exact ⟨rfl, rfl⟩
set_option maxHeartbeats 400000 in
theorem xpunct_time (b : Nat) (X : Eng) (i : Nat) (ts : Int) (w : World) (h : MemX w b X) (hi : i < X.srcs.length) (hin : X.srcs[i].inn = true) (ht : beyondB ts = true) :
    Calls Tryz.prog 28 #[.pointer (some ⟨b, 0, none⟩), .int .i64 i, .int .i64 ts] w fun e w' => e = .returned (.int .i64 6) ∧ w = w' := by
  have HI : Hid ((if X.srcs[i].inn then (0 : Int) else 4) = 0) := by show _ = _; rw [hin]; rfl
  have HT : Hid (beyondB ts = true) := ht
  clear ht
  go_enter Tryz.func28, Tryz.ntmps28
  go_wp2_with (first
    | (go_at_call 55; refine (xcheckIn_some b X i _ h hi).mono ?_; rintro e w' ⟨rfl, rfl⟩; rw [HI.out])
    | (go_at_call 65; refine (isTime_any _ _).mono ?_; rintro e w3 ⟨rfl, rfl⟩; rw [HT.out]))
  go_ret
  exact ⟨rfl, rfl⟩
set_option maxRecDepth 100000 in
set_option maxHeartbeats 2000000 in
theorem xpunct_ok (b : Nat) (X : Eng) (i : Nat) (ts : Int) (w : World) (h : MemX w b X) (hs : SaneX X) (hi : i < X.srcs.length) (hin : X.srcs[i].inn = true) (ht : beyondB ts = false) :
    Calls Tryz.prog 28 #[.pointer (some ⟨b, 0, none⟩), .int .i64 i, .int .i64 ts] w fun e w' => e = .returned (.int .i64 0) ∧ EvoP w b X w' (X.puncted i X.srcs[i] ts) := by
  have HI : Hid ((if X.srcs[i].inn then (0 : Int) else 4) = 0) := by show _ = _; rw [hin]; rfl
  have HT : Hid (beyondB ts = false) := ht
  have H : Hid (MemX w b X) := h
  have HSn : Hid (SaneX X) := hs
  clear ht h hs
  obtain ⟨X1, HX1⟩ := hex ({ X with srcs := X.srcs.set i (X.srcs[i].touched X.merged) } : Eng)
  have hl1 : i < X1.srcs.length := by rw [HX1.out]; simp; exact hi
  obtain ⟨X2, HX2⟩ := hex ({ X1 with srcs := X1.srcs.set i (X1.srcs[i].raised ts) } : Eng)
  have HQ : Hid (X2.srcs.length = X.srcs.length ∧ X2.wait = X.wait ∧ X2.log = X.log ∧ X2.settled = X.puncted i X.srcs[i] ts) := by
    show _ ∧ _
    have e1 := HX1.out
    subst e1
    have e2 := HX2.out
    subst e2
    refine ⟨by simp, rfl, rfl, ?_⟩
    unfold Eng.puncted
    simp
  go_enter Tryz.func28, Tryz.ntmps28
  go_wp2_with (first
    | (go_at_call 55; refine (xcheckIn_some b X i _ H.out hi).mono ?_; rintro e w' ⟨rfl, rfl⟩; rw [HI.out])
    | (go_at_call 65; refine (isTime_any _ _).mono ?_; rintro e w3 ⟨rfl, rfl⟩; rw [HT.out])
    | (go_at_call 60; refine (xtouch_any b X i _ H.out hi).mono ?_; rintro e w1 ⟨rfl, hev1⟩; have HE1 : Hid (EvoX w b X w1 X1) := by (show EvoX _ _ _ _ _; rw [HX1.out]; exact hev1))
    | (go_at_call 62; refine (xraise_any b X1 i ts _ HE1.out.mem hl1).mono ?_; rintro e w2 ⟨rfl, hev2⟩; have HE2 : Hid (EvoX w1 b X1 w2 X2) := by (show EvoX _ _ _ _ _; rw [HX2.out]; exact hev2))
    | (go_at_call 53; refine (xsettle_any b X2 _ HE2.out.mem (by rw [HQ.out.1]; exact HSn.out.n) (by rw [HQ.out.2.1]; exact HSn.out.wait) (by rw [HQ.out.2.2.1]; exact HSn.out.log) (by rw [HQ.out.2.1]; exact HSn.out.ts)).mono ?_; rintro e w4 ⟨rfl, ga, gc, wa, wc, hev4⟩))
  go_ret
  rw [HQ.out.2.2.2] at hev4
  exact ⟨rfl, ga, gc, wa, wc, (HE1.out.trans HE2.out).trans hev4⟩

def PSrc.hush (c : Cfg) (n : Int) (p : PSrc) : PSrc := { p with sil := if 1000 < p.sil + n then 1000 else p.sil + n, idle := if 0 < c.idle ∧ c.idle ≤ (if 1000 < p.sil + n then 1000 else p.sil + n) then true else p.idle }
set_option maxRecDepth 100000 in
set_option maxHeartbeats 2000000 in
theorem xhush_any (b : Nat) (X : Eng) (i : Nat) (n : Int) (w : World) (h : MemX w b X) (hi : i < X.srcs.length) (hn : 1 ≤ n ∧ n ≤ 1000) (hsl : 0 ≤ X.srcs[i].sil ∧ X.srcs[i].sil ≤ 1000) :
    Calls Tryz.prog 68 #[.pointer (some ⟨b, 0, none⟩), .int .i64 i, .int .i64 n] w fun e w' => e = .returned (.tuple #[]) ∧ EvoX w b X w' { X with srcs := X.srcs.set i (X.srcs[i].hush X.c n) } := by
  obtain ⟨_, _, _, c4, c6, _⟩ := h.cells
  have s1 := h.srcCell i 1 hi (by omega)
  have s3 := h.srcCell i 3 hi (by omega)
  simp only [PSrc.vals, List.getElem?_cons_zero, List.getElem?_cons_succ, Nat.add_zero] at s1 s3
  have f1 := h.srcFrozen (i * 6 + 1) (by omega)
  have f3 := h.srcFrozen (i * 6 + 3) (by omega)
  have hi' : (i : Int) < (X.srcs.length : Int) := by omega
  have hi0 : (0 : Int) ≤ (i : Int) := by omega
  have H : Hid (MemX w b X) := h
  have hbs : b ≠ X.sg := fun e => by have := h.dis 0 1 b rfl (by rw [e]; rfl); omega
  clear h
  obtain ⟨S, HS⟩ := hex X.srcs[i].sil
  rw [← HS.out] at s3 hsl
  have HE : Hid (X.srcs[i].hush X.c n = { X.srcs[i] with sil := if 1000 < S + n then 1000 else S + n, idle := if 0 < X.c.idle ∧ X.c.idle ≤ (if 1000 < S + n then 1000 else S + n) then true else X.srcs[i].idle }) := by show _ = _; rw [HS.out]; rfl
  have fin : Hid (∀ z : Int, (if 1000 < S + n then (1000 : Int) else S + n) = z → (((0 < X.c.idle ∧ X.c.idle ≤ z) → EvoX w b X ((w.setCell ⟨X.sg, i * 6 + 3, none⟩ (.int .i64 z)).setCell ⟨X.sg, i * 6 + 1, none⟩ (.bool true)) { X with srcs := X.srcs.set i (X.srcs[i].hush X.c n) }) ∧ (¬ (0 < X.c.idle ∧ X.c.idle ≤ z) → EvoX w b X (w.setCell ⟨X.sg, i * 6 + 3, none⟩ (.int .i64 z)) { X with srcs := X.srcs.set i (X.srcs[i].hush X.c n) }))) := by
    intro z hz
    rw [HE.out, hz]
    have e1 := H.out.setSrcE { X.srcs[i] with sil := z } hi 3 (by omega) (.int .i64 z) rfl ⟨rfl, rfl, rfl⟩
    refine ⟨fun hc => ?_, fun hc => ?_⟩
    · rw [if_pos hc]
      have e2 := e1.mem.setSrcE (i := i) { X.srcs[i] with sil := z, idle := true } (by simp; exact hi) 1 (by omega) (.bool true) (by simp [PSrc.vals]) (by simp)
      simp only [List.set_set] at e2
      exact e1.trans e2
    · rw [if_neg hc]; exact e1
  clear HE
  by_cases h1 : 1000 < S + n
  · have HZ : Hid ((if 1000 < S + n then (1000 : Int) else S + n) = 1000) := if_pos h1
    by_cases h2 : 0 < X.c.idle
    · by_cases h3 : X.c.idle ≤ 1000
      · go_enter Tryz.func68, Tryz.ntmps68
        go_wp2
        go_end0
        exact ⟨rfl, (fin.out _ HZ.out).1 ⟨h2, h3⟩⟩
      · have d3 : decide (X.c.idle ≤ 1000) = false := by simpa using h3
        go_enter Tryz.func68, Tryz.ntmps68
        go_wp2
        go_end0
        exact ⟨rfl, (fin.out _ HZ.out).2 (fun h => by omega)⟩
    · have d2 : decide (0 < X.c.idle) = false := by simpa using h2
      go_enter Tryz.func68, Tryz.ntmps68
      go_wp2
      go_end0
      exact ⟨rfl, (fin.out _ HZ.out).2 (fun h => by omega)⟩
  · have HZ : Hid ((if 1000 < S + n then (1000 : Int) else S + n) = S + n) := if_neg h1
    have d1 : decide (1000 < S + n) = false := by simpa using h1
    by_cases h2 : 0 < X.c.idle
    · by_cases h3 : X.c.idle ≤ S + n
      · go_enter Tryz.func68, Tryz.ntmps68
        go_wp2
        go_end0
        exact ⟨rfl, (fin.out _ HZ.out).1 ⟨h2, h3⟩⟩
      · have d3 : decide (X.c.idle ≤ S + n) = false := by simpa using h3
        go_enter Tryz.func68, Tryz.ntmps68
        go_wp2
        go_end0
        exact ⟨rfl, (fin.out _ HZ.out).2 (fun h => by omega)⟩
    · have d2 : decide (0 < X.c.idle) = false := by simpa using h2
      go_enter Tryz.func68, Tryz.ntmps68
      go_wp2
      go_end0
      exact ⟨rfl, (fin.out _ HZ.out).2 (fun h => by omega)⟩
def hushTo (c : Cfg) (n : Int) (l : List PSrc) (k : Nat) : List PSrc := (l.take k).map (hushed c n) ++ l.drop k
theorem hushTo_len (c : Cfg) (n : Int) (l : List PSrc) (k : Nat) : (hushTo c n l k).length = l.length := by simp [hushTo]; omega
theorem hushTo_get (c : Cfg) (n : Int) (l : List PSrc) (k : Nat) (hk : k < l.length) : (hushTo c n l k)[k]'(by rw [hushTo_len]; exact hk) = l[k] := by
  simp only [hushTo]
  rw [List.getElem_append_right (by simp; omega)]
  simp [Nat.min_eq_left (Nat.le_of_lt hk)]
theorem hushTo_set (c : Cfg) (n : Int) (l : List PSrc) (k : Nat) (hk : k < l.length) : hushTo c n l (k + 1) = (hushTo c n l k).set k (hushed c n l[k]) := by
  simp only [hushTo]
  rw [List.set_append_right _ _ (by simp; omega)]
  simp only [List.length_map, List.length_take, Nat.min_eq_left (Nat.le_of_lt hk), Nat.sub_self]
  rw [take_succ' l k hk, List.map_append, List.append_assoc, List.drop_eq_getElem_cons hk]
  rfl
theorem hushTo_all (c : Cfg) (n : Int) (l : List PSrc) : hushTo c n l l.length = l.map (hushed c n) := by simp [hushTo]
set_option maxHeartbeats 400000 in
theorem xtick_bad (b : Nat) (n : Int) (w : World) (hn : n < 1 ∨ 1000 < n) :
    Calls Tryz.prog 30 #[.pointer (some ⟨b, 0, none⟩), .int .i64 n] w fun e w' => e = .returned (.int .i64 9) ∧ w = w' := by
  have HD : Hid (decide (1 ≤ n ∧ n ≤ 1000) = false) := by show _ = _; simp; omega
  clear hn
  go_enter Tryz.func30, Tryz.ntmps30
  go_wp2_with (go_at_call 67; refine (within_any _ _ _ _).mono ?_; rintro e w' ⟨rfl, rfl⟩; rw [HD.out])
  go_ret
  exact ⟨rfl, rfl⟩
set_option maxRecDepth 100000 in
set_option maxHeartbeats 4000000 in
theorem xtick_ok (b : Nat) (X : Eng) (n : Int) (w : World) (h : MemX w b X) (hs : SaneX X) (hn : 1 ≤ n ∧ n ≤ 1000) (hsl : ∀ (i : Nat) p, X.srcs[i]? = some p → 0 ≤ p.sil ∧ p.sil ≤ 1000) :
    Calls Tryz.prog 30 #[.pointer (some ⟨b, 0, none⟩), .int .i64 n] w fun e w' => e = .returned (.int .i64 0) ∧ EvoP w b X w' (X.ticked n) := by
  have HD : Hid (decide (1 ≤ n ∧ n ≤ 1000) = true) := by show _ = _; simp; omega
  have H : Hid (MemX w b X) := h
  have HSn : Hid (SaneX X) := hs
  have HSl : Hid (∀ (i : Nat) p, X.srcs[i]? = some p → 0 ≤ p.sil ∧ p.sil ≤ 1000) := hsl
  have hn6 := hs.n
  obtain ⟨_, _, _, _, c6, _⟩ := h.cells
  clear h hs hsl
  go_enter Tryz.func30, Tryz.ntmps30
  go_upto_region 4 with (go_at_call 67; refine (within_any _ _ _ _).mono ?_; rintro e w' ⟨rfl, rfl⟩; rw [HD.out])
  clear c6
  go_loopw [14] (fun i wr => ∃ k : Nat, k ≤ X.srcs.length ∧ i = .int .i64 k ∧ EvoX w b X wr { X with srcs := hushTo X.c n X.srcs k }) (fun i _ => X.srcs.length - (intOf i).toNat)
  case atStart => exact ⟨0, Nat.zero_le _, rfl, by simpa [hushTo] using EvoX.refl H.out⟩
  case round =>
    obtain ⟨k, hk, rfl, hev⟩ := hrel
    obtain ⟨XK, HXK⟩ := hex ({ X with srcs := hushTo X.c n X.srcs k } : Eng)
    have HE : Hid (EvoX w b X wr XK) := by show EvoX _ _ _ _ _; rw [HXK.out]; exact hev
    clear hev
    have hlk : XK.srcs.length = X.srcs.length := by rw [HXK.out]; exact hushTo_len _ _ _ _
    have hq : XK.sg = X.sg ∧ XK.sc = X.sc ∧ XK.c = X.c := by rw [HXK.out]; exact ⟨rfl, rfl, rfl⟩
    obtain ⟨_, _, _, _, c6, _⟩ := HE.out.mem.cells
    by_cases hlt : k < X.srcs.length
    · have hlt' : (k : Int) < (X.srcs.length : Int) := by omega
      have hk0 : (0 : Int) ≤ (k : Int) := by omega
      have hlk' : k < XK.srcs.length := by omega
      have HG : Hid (XK.srcs[k] = X.srcs[k]) := by
        show _ = _
        have e := HXK.out
        subst e
        exact hushTo_get X.c n X.srcs k hlt
      have s0 := HE.out.mem.srcCell k 0 hlk' (by omega)
      rw [HG.out, hq.1] at s0
      simp only [PSrc.vals, List.getElem?_cons_zero, Nat.add_zero] at s0
      have hsk := HSl.out k _ (List.getElem?_eq_getElem hlt)
      have HST : Hid (({ XK with srcs := XK.srcs.set k (hushed X.c n X.srcs[k]) } : Eng) = { X with srcs := hushTo X.c n X.srcs (k + 1) }) := by
        show _ = _
        have e := HXK.out
        subst e
        simp only
        rw [hushTo_set X.c n X.srcs k hlt]
      rw [hlk, hq.1, hq.2.1] at c6
      cases hin : X.srcs[k].inn with
      | false =>
        rw [hin] at s0
        have HH : Hid (hushed X.c n X.srcs[k] = X.srcs[k]) := by show _ = _; unfold hushed; rw [hin]; rfl
        go_wp2
        go_roundw
        case rel =>
          refine ⟨k + 1, by omega, by go_num, ?_⟩
          rw [← HST.out, HH.out, ← HG.out, set_same]
          exact HE.out
        case measure => simp [intOf]; omega
      | true =>
        rw [hin] at s0
        have HH : Hid (hushed X.c n X.srcs[k] = X.srcs[k].hush X.c n) := by show _ = _; unfold hushed; rw [if_pos hin]; rfl
        go_wp2_with (go_at_call 68; refine (xhush_any b XK k n _ HE.out.mem hlk' hn (by rw [HG.out]; exact hsk)).mono ?_; rintro e w2 ⟨rfl, hev2⟩)
        go_roundw
        case rel =>
          refine ⟨k + 1, by omega, by go_num, ?_⟩
          rw [← HST.out, HH.out]
          have hx : XK.srcs[k].hush XK.c n = X.srcs[k].hush X.c n := by rw [HG.out, hq.2.2]
          rw [hx] at hev2
          exact HE.out.trans hev2
        case measure => simp [intOf]; omega
    · obtain rfl : k = X.srcs.length := by omega
      have HQ : Hid (XK.wait = X.wait ∧ XK.log = X.log ∧ XK.settled = X.ticked n) := by
        show _ ∧ _
        have e := HXK.out
        subst e
        refine ⟨rfl, rfl, ?_⟩
        unfold Eng.ticked
        rw [hushTo_all]
      go_wp2_with (go_at_call 53; refine (xsettle_any b XK _ HE.out.mem (by rw [hlk]; exact HSn.out.n) (by rw [HQ.out.1]; exact HSn.out.wait) (by rw [HQ.out.2.1]; exact HSn.out.log) (by rw [HQ.out.1]; exact HSn.out.ts)).mono ?_; rintro e w4 ⟨rfl, ga, gc, wa, wc, hev4⟩)
      go_ret
      rw [HQ.out.2.2] at hev4
      exact ⟨rfl, ga, gc, wa, wc, HE.out.trans hev4⟩
end Go.Proofs.YtghcololkgeoeabGreat
namespace Go.Proofs.YtghcololkgeoeabGreat
open Go.RowKit
set_option linter.unusedVariables false
set_option linter.unusedSimpArgs false
attribute [local go_sem ↓] Go.wp_at_zero Go.wp_at_succ

set_option maxRecDepth 100000 in
set_option maxHeartbeats 1000000 in
theorem xpush_none (b : Nat) (X : Eng) (s : Int) (E : Ev) (w : World) (h : MemX w b X) (hs : s < 0 ∨ (X.srcs.length : Int) ≤ s) :
    Calls Tryz.prog 26 #[.pointer (some ⟨b, 0, none⟩), .int .i64 s, E.agg] w fun e w' => e = .returned (.int .i64 3) ∧ Below w.heap.size w w' := by
  have HB0 : Hid (Below w.heap.size w (w.alloc (.cells E.vals.toArray 30))) := (Below.refl _ _).alloc (Nat.le_refl _) _
  have hck : ∀ u, MemX u b X → Calls Tryz.prog 56 #[.pointer (some ⟨b, 0, none⟩), .int .i64 s, .agg #[.int .i64 E.src, .int .i64 E.seq, .int .i64 E.ts, .int .i64 E.kind, .int .i64 E.val]] u fun e w' => e = .returned (.int .i64 3) ∧ Below u.heap.size u w' := fun u hu => xcheckPush_none b X s E u hu hs
  unfold Ev.agg
  go_enter Tryz.func26, Tryz.ntmps26
  go_wp2_with (go_at_call 56; refine (hck _ (h.below HB0.out)).mono ?_; rintro e w' ⟨rfl, hb⟩)
  go_ret
  exact ⟨rfl, HB0.out.trans (hb.mono (by simp))⟩
set_option maxRecDepth 100000 in
set_option maxHeartbeats 1000000 in
theorem xpush_wrong (b : Nat) (X : Eng) (i : Nat) (E : Ev) (w : World) (h : MemX w b X) (hi : i < X.srcs.length) (hw : pWrong X.srcs[i] E ≠ 0) :
    Calls Tryz.prog 26 #[.pointer (some ⟨b, 0, none⟩), .int .i64 i, E.agg] w fun e w' => e = .returned (.int .i64 (pWrong X.srcs[i] E)) ∧ Below w.heap.size w w' := by
  have HB0 : Hid (Below w.heap.size w (w.alloc (.cells E.vals.toArray 30))) := (Below.refl _ _).alloc (Nat.le_refl _) _
  obtain ⟨z, HZ⟩ := hex (pWrong X.srcs[i] E)
  have hck : ∀ u, MemX u b X → Calls Tryz.prog 56 #[.pointer (some ⟨b, 0, none⟩), .int .i64 i, .agg #[.int .i64 E.src, .int .i64 E.seq, .int .i64 E.ts, .int .i64 E.kind, .int .i64 E.val]] u fun e w' => e = .returned (.int .i64 z) ∧ Below u.heap.size u w' := fun u hu => by rw [HZ.out]; exact xcheckPush_some b X i E u hu hi
  rw [← HZ.out] at hw ⊢
  have hz : (z != 0) = true := by simpa using hw
  clear hw
  unfold Ev.agg
  go_enter Tryz.func26, Tryz.ntmps26
  go_wp2_with (go_at_call 56; refine (hck _ (h.below HB0.out)).mono ?_; rintro e w' ⟨rfl, hb⟩)
  go_ret
  exact ⟨rfl, HB0.out.trans (hb.mono (by simp))⟩
theorem Ins.len {e : Ev} {l k : List Ev} (h : Ins e l k) : k.length = l.length + 1 := by have := h.perm.length_eq; simpa using this
theorem placed_facts {X Y : Eng} {E : Ev} {f : Int} (h : X.Placed Y E f) : Y.c = X.c ∧ Y.srcs = X.srcs ∧ Y.merged = X.merged ∧ Y.log = X.log ∧ Y.sg = X.sg ∧ Y.sc = X.sc ∧
    ((f = 0 ∧ Y.wait = X.wait ∧ Y.late = X.late) ∨ (f = 1 ∧ Y.wait = X.wait ∧ Y.late = X.late ++ [E]) ∨ (f = 2 ∧ Ins E X.wait Y.wait ∧ Y.late = X.late) ∨ (f = 3 ∧ Ins { E with ts := if E.ts < X.merged then X.merged else E.ts } X.wait Y.wait ∧ Y.late = X.late)) := by
  rcases h with ⟨rfl, da, dc, rfl⟩ | ⟨rfl, W, wa, wc, hi, rfl⟩ | ⟨rfl, W, wa, wc, hi, rfl⟩ | ⟨rfl, rfl⟩
  · exact ⟨rfl, rfl, rfl, rfl, rfl, rfl, Or.inr (Or.inl ⟨rfl, rfl, rfl⟩)⟩
  · exact ⟨rfl, rfl, rfl, rfl, rfl, rfl, Or.inr (Or.inr (Or.inl ⟨rfl, hi, rfl⟩))⟩
  · exact ⟨rfl, rfl, rfl, rfl, rfl, rfl, Or.inr (Or.inr (Or.inr ⟨rfl, hi, rfl⟩))⟩
  · exact ⟨rfl, rfl, rfl, rfl, rfl, rfl, Or.inl ⟨rfl, rfl, rfl⟩⟩
theorem placed_sane {X Y : Eng} {E : Ev} {f : Int} (h : X.Placed Y E f) (hs : SaneX X) (hw : X.wait.length ≤ 900) (hE : -1099511627776 ≤ E.ts ∧ E.ts ≤ 1099511627776) (hm : -4398046511104 ≤ X.merged ∧ X.merged ≤ 4398046511104) : Y.srcs.length ≤ 6 ∧ Y.wait.length ≤ 1000 ∧ Y.log.length ≤ 1000 ∧ ∀ e ∈ Y.wait, -4398046511104 ≤ e.ts ∧ e.ts ≤ 4398046511104 := by
  obtain ⟨_, h2, _, h4, _, _, h5⟩ := placed_facts h
  rw [h2, h4]
  refine ⟨hs.n, ?_, hs.log, ?_⟩
  · rcases h5 with ⟨_, e, _⟩ | ⟨_, e, _⟩ | ⟨_, e, _⟩ | ⟨_, e, _⟩
    · rw [e]; omega
    · rw [e]; omega
    · rw [e.len]; omega
    · rw [e.len]; omega
  · intro x hx
    rcases h5 with ⟨_, e, _⟩ | ⟨_, e, _⟩ | ⟨_, e, _⟩ | ⟨_, e, _⟩
    · rw [e] at hx; exact hs.ts x hx
    · rw [e] at hx; exact hs.ts x hx
    · rcases List.mem_append.1 (e.perm.mem_iff.1 hx) with hx | hx
      · exact hs.ts x hx
      · simp only [List.mem_singleton] at hx; subst hx; omega
    · rcases List.mem_append.1 (e.perm.mem_iff.1 hx) with hx | hx
      · exact hs.ts x hx
      · simp only [List.mem_singleton] at hx; subst hx; simp only; split <;> omega
theorem pWrong_zero {p : PSrc} {E : Ev} (h : pWrong p E = 0) : p.inn = true ∧ badB E = false ∧ (-1099511627776 ≤ E.ts ∧ E.ts ≤ 1099511627776) ∧ p.last < E.seq := by
  unfold pWrong at h
  split at h
  · simp at h
  · rename_i h1
    split at h
    · simp at h
    · rename_i h2
      split at h
      · simp at h
      · rename_i h3
        split at h
        · simp at h
        · rename_i h4
          simp [beyondB] at h3
          exact ⟨by simpa using h1, by simpa using h2, by omega, by omega⟩
theorem fate_range (X : Eng) (late : Bool) : 0 ≤ X.fate late ∧ X.fate late ≤ 3 := by
  unfold Eng.fate
  split
  · split
    · omega
    · split <;> omega
  · omega
theorem pushed_of {X X1 X2 Y Z : Eng} {i : Nat} {E : Ev} {late : Bool} (hi : i < X.srcs.length) (hl : late = X.isLate X.srcs[i] E.ts) (h1 : X1 = { X with srcs := X.srcs.set i { X.srcs[i] with last := E.seq } })
    (hl1 : i < X1.srcs.length) (h2 : X2 = { X1 with srcs := X1.srcs.set i (X1.srcs[i].touched X1.merged) }) (hp : X2.Placed Y { E with src := (i : Int) } (X.fate late)) (hlY : i < Y.srcs.length)
    (hZ : Z = if late then Y else { Y with srcs := Y.srcs.set i (Y.srcs[i].raised (E.ts - X.c.slack)) }) : X.Pushed i X.srcs[i] E Z.settled := by
  obtain ⟨q1, q2, q3, q4, _, _, q5⟩ := placed_facts hp
  subst h1
  subst h2
  simp only [List.getElem_set_self, List.set_set] at q1 q2 q3 q4 q5
  refine ⟨Z, rfl, ?_, ?_, ?_, ?_, ?_⟩
  · rw [hZ]; split
    · exact q1
    · exact q1
  · rw [hZ]
    unfold Eng.pushSrc
    rw [← hl]
    cases late with
    | true => simp only [if_true]; exact q2
    | false =>
      simp only [Bool.false_eq_true, if_false]
      simp only [q2, List.getElem_set_self, List.set_set]
  · rw [hZ]; split
    · exact q3
    · exact q3
  · rw [hZ]; split
    · exact q4
    · exact q4
  · have hzw : Z.wait = Y.wait ∧ Z.late = Y.late := by rw [hZ]; split <;> exact ⟨rfl, rfl⟩
    rw [hzw.1, hzw.2, ← hl]
    rcases q5 with ⟨f, e1, e2⟩ | ⟨f, e1, e2⟩ | ⟨f, e1, e2⟩ | ⟨f, e1, e2⟩
    · exact Or.inl ⟨f, e1, e2⟩
    · exact Or.inr (Or.inl ⟨f, e1, e2⟩)
    · refine Or.inr (Or.inr ⟨by omega, ?_, e2⟩)
      unfold Eng.taken
      rw [f]
      simpa using e1
    · refine Or.inr (Or.inr ⟨by omega, ?_, e2⟩)
      unfold Eng.taken
      rw [f]
      simpa using e1
set_option maxRecDepth 100000 in
set_option maxHeartbeats 8000000 in
theorem xpush_ok (b : Nat) (X : Eng) (i : Nat) (E : Ev) (w : World) (h : MemX w b X) (hs : SaneX X) (hw9 : X.wait.length ≤ 900) (hi : i < X.srcs.length) (hw : pWrong X.srcs[i] E = 0) (hslack : 0 ≤ X.c.slack ∧ X.c.slack ≤ 1000) (hmg : -4398046511104 ≤ X.merged ∧ X.merged ≤ 4398046511104) :
    Calls Tryz.prog 26 #[.pointer (some ⟨b, 0, none⟩), .int .i64 i, E.agg] w fun e w' => (X.full i (X.fate (X.isLate X.srcs[i] E.ts)) = true ∧ e = .returned (.int .i64 8) ∧ Below w.heap.size w w') ∨ (X.full i (X.fate (X.isLate X.srcs[i] E.ts)) = false ∧ e = .returned (.int .i64 0) ∧ ∃ Y, X.Pushed i X.srcs[i] E Y ∧ EvoP w b X w' Y) := by
  obtain ⟨wq, HWq⟩ := hex (w.alloc (.cells E.vals.toArray 30))
  have hwq : w.alloc (.cells #[.int .i64 E.src, .int .i64 E.seq, .int .i64 E.ts, .int .i64 E.kind, .int .i64 E.val] 30) = wq := HWq.out.symm
  obtain ⟨eb, HEb⟩ := hex w.heap.size
  have HBq : Hid (Below w.heap.size w wq) := by show Below _ _ _; rw [HWq.out]; exact (Below.refl _ _).alloc (Nat.le_refl _) _
  have HBx : Hid (Blk wq eb 30 E.vals) := by show Blk _ _ _ _; rw [HWq.out, HEb.out]; exact blk_alloc _ _ _
  have H : Hid (MemX w b X) := h
  have HSn : Hid (SaneX X) := hs
  have HNe : Hid (¬ some eb ∈ X.fp b) := fun e => by have := H.out.fp_lt _ e; have := HEb.out; omega
  have HW9 : Hid (X.wait.length ≤ 900) := hw9
  have HMg : Hid (-4398046511104 ≤ X.merged ∧ X.merged ≤ 4398046511104) := hmg
  have hts := (pWrong_zero hw).2.2.1
  have HFr : Hid (∀ late, 0 ≤ X.fate late ∧ X.fate late ≤ 3) := fate_range X
  have hi' : (i : Int) < (X.srcs.length : Int) := by omega
  have hi0 : (0 : Int) ≤ (i : Int) := by omega
  have hck : Hid (∀ u, MemX u b X → Calls Tryz.prog 56 #[.pointer (some ⟨b, 0, none⟩), .int .i64 i, .agg #[.int .i64 E.src, .int .i64 E.seq, .int .i64 E.ts, .int .i64 E.kind, .int .i64 E.val]] u fun e w' => e = .returned (.int .i64 0) ∧ Below u.heap.size u w') := fun u hu => by have := xcheckPush_some b X i E u hu hi; rw [hw] at this; exact this
  clear h hs hw9 hmg hw
  obtain ⟨late, HLt⟩ := hex (X.isLate X.srcs[i] E.ts)
  rw [← HLt.out]
  have hlt : Hid (∀ u, MemX u b X → Calls Tryz.prog 57 #[.pointer (some ⟨b, 0, none⟩), .int .i64 i, .int .i64 E.ts] u fun e w' => e = .returned (.bool late) ∧ u = w') := fun u hu => by rw [HLt.out]; exact xisLate_any b X i E.ts u hu hi
  obtain ⟨f, HF⟩ := hex (X.fate late)
  rw [← HF.out]
  have hft : Hid (∀ u, MemX u b X → Calls Tryz.prog 58 #[.pointer (some ⟨b, 0, none⟩), .bool late] u fun e w' => e = .returned (.int .i64 f) ∧ u = w') := fun u hu => by rw [HF.out]; exact xfate_any b X late u hu
  obtain ⟨full, HFu⟩ := hex (X.full i f)
  rw [← HFu.out]
  have hfu : Hid (∀ u, MemX u b X → Calls Tryz.prog 59 #[.pointer (some ⟨b, 0, none⟩), .int .i64 i, .int .i64 f] u fun e w' => e = .returned (.bool full) ∧ Below u.heap.size u w') := fun u hu => by rw [HFu.out]; exact xisFull_any b X i f u hu HSn.out
  have hf03 : 0 ≤ f ∧ f ≤ 3 := by rw [HF.out]; exact HFr.out late
  have m0 := HBx.out.cell 0
  have m1 := HBx.out.cell 1
  have m2 := HBx.out.cell 2
  have m3 := HBx.out.cell 3
  have m4 := HBx.out.cell 4
  simp only [Ev.vals, List.getElem?_cons_zero, List.getElem?_cons_succ] at m0 m1 m2 m3 m4
  unfold Ev.agg
  go_enter Tryz.func26, Tryz.ntmps26
  go_upto_region 1 with fail
  rw [← HEb.out]
  clear hwq HWq
  have HMq : Hid (MemX wq b X) := H.out.below HBq.out
  go_upto_region 4 with (go_at_call 56; refine (hck.out _ HMq.out).mono ?_; rintro e w1 ⟨rfl, hb1⟩)
  have HB1 : Hid (Below wq.heap.size wq w1) := hb1
  clear hb1 m0 m1 m2 m3 m4
  have HM1 : Hid (MemX w1 b X) := HMq.out.below HB1.out
  have HX1 : Hid (Blk w1 eb 30 E.vals) := HBx.out.below HB1.out HBx.out.lt
  have m2 := HX1.out.cell 2
  simp only [Ev.vals, List.getElem?_cons_zero, List.getElem?_cons_succ] at m2
  go_upto_region 7 with (first
    | (go_at_call 57; refine (hlt.out _ HM1.out).mono ?_; rintro e w' ⟨rfl, rfl⟩)
    | (go_at_call 58; refine (hft.out _ HM1.out).mono ?_; rintro e w' ⟨rfl, rfl⟩)
    | (go_at_call 59; refine (hfu.out _ HM1.out).mono ?_; rintro e w2 ⟨rfl, hb2⟩))
  have HB2 : Hid (Below w1.heap.size w1 w2) := hb2
  clear hb2 m2
  have HM2 : Hid (MemX w2 b X) := HM1.out.below HB2.out
  have HX2 : Hid (Blk w2 eb 30 E.vals) := HX1.out.below HB2.out HX1.out.lt
  have HBw2 : Hid (Below w.heap.size w w2) := (HBq.out.trans (HB1.out.mono HBq.out.size)).trans (HB2.out.mono (Nat.le_trans HBq.out.size HB1.out.size))
  cases hfull : full with
  | true =>
    go_wp2
    go_ret
    exact Or.inl ⟨hfull, rfl, HBw2.out⟩
  | false =>
    have m0 := HX2.out.cell 0
    have fm0 := HX2.out.frozen 0
    simp only [Ev.vals, List.getElem?_cons_zero, List.getElem?_cons_succ] at m0
    go_upto_region 10 with fail
    obtain ⟨E1, HE1⟩ := hex ({ E with src := (i : Int) } : Ev)
    obtain ⟨w3, HW3⟩ := hex (w2.setCell ⟨eb, 0, none⟩ (.int .i64 i))
    rw [← HW3.out]
    have HX3 : Hid (Blk w3 eb 30 E1.vals) := by show Blk _ _ _ _; rw [HW3.out, HE1.out]; have := HX2.out.set 0 (.int .i64 i); simpa [Ev.vals] using this
    have HEv3 : Hid (EvoX w b X w3 X) := by show EvoX _ _ _ _ _; rw [HW3.out]; exact (EvoX.below H.out HBw2.out).side (S := fun k => k = eb) ((Kept.refl (fun k => k = eb) w2).setCell (fun _ => rfl) _) (fun k e => ⟨by rw [e]; exact HNe.out, by rw [e, HEb.out]; exact Nat.le_refl _⟩)
    have HQ1 : Hid (E1.seq = E.seq ∧ E1.ts = E.ts) := by show _ ∧ _; rw [HE1.out]; exact ⟨rfl, rfl⟩
    clear HW3 m0 fm0
    have c6 := HEv3.out.mem.cells.2.2.2.2.1
    have m1 := HX3.out.cell 1
    have s4 := HEv3.out.mem.srcCell i 4 hi (by omega)
    have f4 := HEv3.out.mem.srcFrozen (i * 6 + 4) (by omega)
    simp only [Ev.vals, PSrc.vals, List.getElem?_cons_zero, List.getElem?_cons_succ, Nat.add_zero] at m1 s4
    refine upTo_region (fun u => u.cell? ⟨b, 9, none⟩ = some (.slice (some ⟨X.sg, 0, none⟩) X.srcs.length X.sc) ∧ u.cell? ⟨eb, 1, none⟩ = some (.int .i64 E1.seq)) 9 10 rfl (by kernel_rfl) ?_
    have hS0 : (fun u : World => u.cell? ⟨b, 9, none⟩ = some (.slice (some ⟨X.sg, 0, none⟩) X.srcs.length X.sc) ∧ u.cell? ⟨eb, 1, none⟩ = some (.int .i64 E1.seq)) w3.drew := ⟨c6, m1⟩
    refine upTo_tk (i := 0) (v := ?v22_0) rfl (by kernel_rfl) (fun _ _ _ h => h) (by rfl) hS0 ?h22_0 ?r22_0
    case h22_0 => (intro u hu; (try dsimp only at hu); go_simp; first | done | with_reducible rfl)
    (try simp only [Act.put, tkS])
    refine upTo_tk (i := 1) (v := ?v22_1) rfl (by kernel_rfl) (fun _ _ _ h => h) (by rfl) hS0 ?h22_1 ?r22_1
    case h22_1 => (intro u hu; (try dsimp only at hu); go_simp; first | done | with_reducible rfl)
    (try simp only [Act.put, tkS])
    refine upTo_tk (i := 2) (v := ?v22_2) rfl (by kernel_rfl) (fun _ _ _ h => h) (by rfl) hS0 ?h22_2 ?r22_2
    case h22_2 => (intro u hu; (try dsimp only at hu); go_simp; first | done | with_reducible rfl)
    (try simp only [Act.put, tkS])
    refine upTo_tk (i := 3) (v := ?v22_3) rfl (by kernel_rfl) (fun _ _ _ h => h) (by rfl) hS0 ?h22_3 ?r22_3
    case h22_3 => (intro u hu; (try dsimp only at hu); go_simp; first | done | with_reducible rfl)
    (try simp only [Act.put, tkS])
    refine upTo_tk (i := 4) (v := ?v22_4) rfl (by kernel_rfl) (fun _ _ _ h => h) (by rfl) hS0 ?h22_4 ?r22_4
    case h22_4 => (intro u hu; (try dsimp only at hu); go_simp; first | done | with_reducible rfl)
    (try simp only [Act.put, tkS])
    refine upTo_tk (i := 5) (v := ?v22_5) rfl (by kernel_rfl) (fun _ _ _ h => h) (by rfl) hS0 ?h22_5 ?r22_5
    case h22_5 => (intro u hu; (try dsimp only at hu); go_simp; first | done | with_reducible rfl)
    (try simp only [Act.put, tkS])
    refine upTo_tk (i := 6) (v := ?v22_6) rfl (by kernel_rfl) (fun _ _ _ h => h) (by rfl) hS0 ?h22_6 ?r22_6
    case h22_6 => (intro u hu; (try dsimp only at hu); go_simp; first | done | with_reducible rfl)
    (try simp only [Act.put, tkS])
    refine upTo_one (i := 7) (by kernel_rfl) rfl (fun K hK => ?_)
    go_simp
    refine hK.out _ _ (fun _ => ⟨c6, m1⟩) ?_
    clear hK K
    (try simp only [Act.put, tkS])
    refine upTo_one (i := 8) (by kernel_rfl) rfl (fun K hK => ?_)
    go_simp
    refine hK.out _ _ (fun _ => ⟨c6, m1⟩) ?_
    clear hK K
    (try simp only [Act.put, tkS])
    refine upTo_one (i := 9) (by kernel_rfl) rfl (fun K hK => ?_)
    go_simp
    refine hK.out _ _ (fun h => absurd rfl h) ?_
    clear hK K
    (try simp only [Act.put, tkS])
    refine upTo_done (by kernel_rfl) ?_
    clear hS0 c6 m1 s4 f4
    obtain ⟨X1, HX1'⟩ := hex ({ X with srcs := X.srcs.set i { X.srcs[i] with last := E.seq } } : Eng)
    have HEv4 : Hid (EvoX w3 b X (w3.drew.setCell ⟨X.sg, i * 6 + 4, none⟩ (.int .i64 E1.seq)) X1) := by
      show EvoX _ _ _ _ _
      rw [HX1'.out, HQ1.out.1]
      exact ((EvoX.refl HEv3.out.mem).drewE).trans (HEv3.out.mem.drew.setSrcE { X.srcs[i] with last := E.seq } hi 4 (by omega) (.int .i64 E.seq) rfl ⟨rfl, rfl, rfl⟩)
    obtain ⟨w4, HW4⟩ := hex (w3.drew.setCell ⟨X.sg, i * 6 + 4, none⟩ (.int .i64 E1.seq))
    have hw4 : (w3.setCell ⟨X.sg, i * 6 + 4, none⟩ (.int .i64 E1.seq)).drew = w4 := HW4.out.symm
    rw [← HW4.out] at HEv4
    first | rw [hw4] | rw [← HW4.out]
    clear HW4 hw4
    have HX4 : Hid (Blk w4 eb 30 E1.vals) := HX3.out.kept HEv4.out.kept HNe.out
    have hl1 : i < X1.srcs.length := by rw [HX1'.out]; simp; exact hi
    obtain ⟨X2, HX2'⟩ := hex ({ X1 with srcs := X1.srcs.set i (X1.srcs[i].touched X1.merged) } : Eng)
    have hl2 : i < X2.srcs.length := by rw [HX2'.out]; simp; exact hl1
    have HN1 : Hid (some eb ∉ X1.fp b) := by
      intro g
      rcases HEv4.out.grow _ g with g | g
      · exact HNe.out g
      · have := HX3.out.lt; omega
    go_upto_region 12 with (go_at_call 60; refine (xtouch_any b X1 i _ HEv4.out.mem hl1).mono ?_; rintro e w5 ⟨rfl, hev5⟩)
    have HEv5 : Hid (EvoX w4 b X1 w5 X2) := by show EvoX _ _ _ _ _; rw [HX2'.out]; exact hev5
    clear hev5
    have HX5 : Hid (Blk w5 eb 30 E1.vals) := HX4.out.kept HEv5.out.kept HN1.out
    have HN2 : Hid (some eb ∉ X2.fp b) := by
      intro g
      rcases HEv5.out.grow _ g with g | g
      · exact HN1.out g
      · have := HX4.out.lt; omega
    have HS2 : Hid (SaneX X2 ∧ X2.wait.length ≤ 900 ∧ X2.merged = X.merged ∧ X2.c = X.c) := by
      show _ ∧ _
      have e1 := HX1'.out
      subst e1
      have e2 := HX2'.out
      subst e2
      have q := HSn.out
      exact ⟨⟨by simpa using q.n, q.wait, q.log, q.late, q.ts⟩, HW9.out, rfl, rfl⟩
    have m0 := HX5.out.cell 0
    have m1 := HX5.out.cell 1
    have m2 := HX5.out.cell 2
    have m3 := HX5.out.cell 3
    have m4 := HX5.out.cell 4
    simp only [Ev.vals, List.getElem?_cons_zero, List.getElem?_cons_succ] at m0 m1 m2 m3 m4
    have hpl : Hid (Calls Tryz.prog 61 #[.pointer (some ⟨b, 0, none⟩), .agg #[.int .i64 E1.src, .int .i64 E1.seq, .int .i64 E1.ts, .int .i64 E1.kind, .int .i64 E1.val], .int .i64 f] w5 fun e w' => e = .returned (.tuple #[]) ∧ ∃ Y, X2.Placed Y E1 f ∧ EvoX w5 b X2 w' Y) := xplace_any b X2 E1 f w5 HEv5.out.mem HS2.out.1 HS2.out.2.1 hf03
    go_upto_region 13 with (go_at_call 61; refine hpl.out.mono ?_; rintro e w6 ⟨rfl, Y, hPl, hev6⟩)
    have HPl : Hid (X2.Placed Y E1 f) := hPl
    have HEv6 : Hid (EvoX w5 b X2 w6 Y) := hev6
    clear hPl hev6 hpl m0 m1 m2 m3 m4
    have HX6 : Hid (Blk w6 eb 30 E1.vals) := HX5.out.kept HEv6.out.kept HN2.out
    have hE1ts : -1099511627776 ≤ E1.ts ∧ E1.ts ≤ 1099511627776 := by rw [HQ1.out.2]; exact hts
    have HSY : Hid (Y.srcs.length ≤ 6 ∧ Y.wait.length ≤ 1000 ∧ Y.log.length ≤ 1000 ∧ ∀ e ∈ Y.wait, -4398046511104 ≤ e.ts ∧ e.ts ≤ 4398046511104) := placed_sane HPl.out HS2.out.1 HS2.out.2.1 hE1ts (by rw [HS2.out.2.2.1]; exact HMg.out)
    have HYf : Hid (Y.c = X.c ∧ Y.srcs = X2.srcs) := by show _ ∧ _; have q := placed_facts HPl.out; exact ⟨q.1.trans HS2.out.2.2.2, q.2.1⟩
    have hlY : i < Y.srcs.length := by rw [HYf.out.2]; exact hl2
    have HEvY : Hid (EvoX w b X w6 Y) := ((HEv3.out.trans HEv4.out).trans HEv5.out).trans HEv6.out
    have HCl : Hid (∀ Z, (Z = if late then Y else { Y with srcs := Y.srcs.set i (Y.srcs[i].raised (E.ts - X.c.slack)) }) → X.Pushed i X.srcs[i] E Z.settled) := fun Z hZ => pushed_of hi HLt.out HX1'.out hl1 HX2'.out (by rw [← HF.out, ← HE1.out]; exact HPl.out) hlY hZ
    cases hlate : late with
    | true =>
      rw [hlate] at HCl
      go_wp2_with (go_at_call 53; refine (xsettle_any b Y _ HEv6.out.mem HSY.out.1 HSY.out.2.1 HSY.out.2.2.1 HSY.out.2.2.2).mono ?_; rintro e w9 ⟨rfl, ga, gc, wa, wc, hev9⟩)
      go_ret
      exact Or.inr ⟨hfull, rfl, Y.settled, HCl.out Y rfl, ga, gc, wa, wc, HEvY.out.trans hev9⟩
    | false =>
      rw [hlate] at HCl
      have m2 := HX6.out.cell 2
      have c1 := HEvY.out.mem.cells.1
      simp only [Ev.vals, List.getElem?_cons_zero, List.getElem?_cons_succ] at m2
      rw [HYf.out.1] at c1
      have hsub : IntKind.i64.wrap (E1.ts - X.c.slack) = E1.ts - X.c.slack := by rw [IntKind.wrap_i64]; omega
      go_upto_region 14 with fail
      refine upTo_region (fun u => u.cell? ⟨eb, 2, none⟩ = some (.int .i64 E1.ts) ∧ u.cell? ⟨b, 1, none⟩ = some (.int .i64 X.c.slack)) 11 11 rfl (by kernel_rfl) ?_
      have hS0 : (fun u : World => u.cell? ⟨eb, 2, none⟩ = some (.int .i64 E1.ts) ∧ u.cell? ⟨b, 1, none⟩ = some (.int .i64 X.c.slack)) w6.drew := ⟨m2, c1⟩
      refine upTo_tk2 (i := 0) (v := ?v21_0) rfl (by kernel_rfl) rfl (fun _ _ _ h => h) (by rfl) hS0 ?h21_0 ?r21_0
      case h21_0 => (intro u hu; (try dsimp only at hu); go_simp; first | done | with_reducible rfl)
      (try simp only [Act.put, tkS])
      refine upTo_tk2 (i := 1) (v := ?v21_1) rfl (by kernel_rfl) rfl (fun _ _ _ h => h) (by rfl) hS0 ?h21_1 ?r21_1
      case h21_1 => (intro u hu; (try dsimp only at hu); go_simp; first | done | with_reducible rfl)
      (try simp only [Act.put, tkS])
      refine upTo_tk2 (i := 2) (v := ?v21_2) rfl (by kernel_rfl) rfl (fun _ _ _ h => h) (by rfl) hS0 ?h21_2 ?r21_2
      case h21_2 => (intro u hu; (try dsimp only at hu); go_simp; first | done | with_reducible rfl)
      (try simp only [Act.put, tkS])
      refine upTo_tk2 (i := 3) (v := ?v21_3) rfl (by kernel_rfl) rfl (fun _ _ _ h => h) (by rfl) hS0 ?h21_3 ?r21_3
      case h21_3 => (intro u hu; (try dsimp only at hu); go_simp; first | done | with_reducible rfl)
      (try simp only [Act.put, tkS])
      refine upTo_tk2 (i := 4) (v := ?v21_4) rfl (by kernel_rfl) rfl (fun _ _ _ h => h) (by rfl) hS0 ?h21_4 ?r21_4
      case h21_4 => (intro u hu; (try dsimp only at hu); go_simp; first | done | with_reducible rfl)
      (try simp only [Act.put, tkS])
      refine upTo_tk2 (i := 5) (v := ?v21_5) rfl (by kernel_rfl) rfl (fun _ _ _ h => h) (by rfl) hS0 ?h21_5 ?r21_5
      case h21_5 => (intro u hu; (try dsimp only at hu); go_simp; first | done | with_reducible rfl)
      (try simp only [Act.put, tkS])
      refine upTo_tk2 (i := 6) (v := ?v21_6) rfl (by kernel_rfl) rfl (fun _ _ _ h => h) (by rfl) hS0 ?h21_6 ?r21_6
      case h21_6 => (intro u hu; (try dsimp only at hu); go_simp; first | done | with_reducible rfl)
      (try simp only [Act.put, tkS])
      refine upTo_tk2 (i := 7) (v := ?v21_7) rfl (by kernel_rfl) rfl (fun _ _ _ h => h) (by rfl) hS0 ?h21_7 ?r21_7
      case h21_7 => (intro u hu; (try dsimp only at hu); go_simp; first | done | with_reducible rfl)
      (try simp only [Act.put, tkS])
      refine upTo_tk2 (i := 8) (v := ?v21_8) rfl (by kernel_rfl) rfl (fun _ _ _ h => h) (by rfl) hS0 ?h21_8 ?r21_8
      case h21_8 => (intro u hu; (try dsimp only at hu); go_simp; first | done | with_reducible rfl)
      (try simp only [Act.put, tkS])
      refine upTo_tk2 (i := 9) (v := ?v21_9) rfl (by kernel_rfl) rfl (fun _ _ _ h => h) (by rfl) hS0 ?h21_9 ?r21_9
      case h21_9 => (intro u hu; (try dsimp only at hu); go_simp; first | done | with_reducible rfl)
      (try simp only [Act.put, tkS])
      clear hS0 m2 c1
      obtain ⟨Z, HZ⟩ := hex ({ Y with srcs := Y.srcs.set i (Y.srcs[i].raised (E.ts - X.c.slack)) } : Eng)
      have HQZ : Hid (Z.srcs.length = Y.srcs.length ∧ Z.wait = Y.wait ∧ Z.log = Y.log) := by show _ ∧ _; rw [HZ.out]; exact ⟨by simp, rfl, rfl⟩
      refine upTo_one (i := 10) (by kernel_rfl) rfl (fun K hK => ?_)
      go_simp
      refine (xraise_any b Y i _ _ HEv6.out.mem.drew hlY).mono ?_
      rintro e w7 ⟨rfl, hev7⟩
      have HEv7 : Hid (EvoX w6 b Y w7 Z) := by show EvoX _ _ _ _ _; rw [HZ.out]; rw [HQ1.out.2] at hev7; exact (EvoX.refl HEv6.out.mem).drewE.trans hev7
      clear hev7
      have HNY : Hid (some eb ∉ Y.fp b) := by
        intro g
        rcases HEv6.out.grow _ g with g | g
        · exact HN2.out g
        · have := HX5.out.lt; omega
      have m2' := (HX6.out.kept HEv7.out.kept HNY.out).cell 2
      have c1' := HEv7.out.mem.cells.1
      have hzc : Z.c = X.c := by rw [HZ.out]; exact HYf.out.1
      simp only [Ev.vals, List.getElem?_cons_zero, List.getElem?_cons_succ] at m2'
      rw [hzc] at c1'
      refine hK.out _ _ (fun _ => ⟨m2', c1'⟩) ?_
      clear hK K m2' c1' hzc
      (try simp only [Act.put, tkS])
      refine upTo_done (by kernel_rfl) ?_
      go_wp2_with (go_at_call 53; refine (xsettle_any b Z _ HEv7.out.mem (by rw [HQZ.out.1]; exact HSY.out.1) (by rw [HQZ.out.2.1]; exact HSY.out.2.1) (by rw [HQZ.out.2.2]; exact HSY.out.2.2.1) (by rw [HQZ.out.2.1]; exact HSY.out.2.2.2)).mono ?_; rintro e w9 ⟨rfl, ga, gc, wa, wc, hev9⟩)
      go_ret
      exact Or.inr ⟨hfull, rfl, Z.settled, HCl.out Z HZ.out, ga, gc, wa, wc, (HEvY.out.trans HEv7.out).trans hev9⟩
end Go.Proofs.YtghcololkgeoeabGreat
