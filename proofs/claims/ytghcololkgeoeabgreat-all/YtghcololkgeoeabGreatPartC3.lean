import Derived.Test.YtghcololkgeoeabGreatPartC2
import Derived.Test.YtghcololkgeoeabGreatPartB0
import Derived.Test.YtghcololkgeoeabGreatPartA0
namespace Go.Proofs.YtghcololkgeoeabGreat
open Go.RowKit
set_option linter.unusedVariables false
set_option linter.unusedSimpArgs false
attribute [local go_sem ↓] Go.wp_at_zero Go.wp_at_succ

theorem MemX.setEvE {w : World} {b : Nat} {X : Eng} {gg k : Nat} {E : Ev} (h : MemX w b X) (ha : X.wa = some ⟨gg, 0, none⟩) (hk : k < X.wait.length) : EvoX w b X (setEv w gg k E) { X with wait := X.wait.set k E } := by
  have K : Kept (fun j => j = gg) w (setEv w gg k E) := kept_setEv (Kept.refl _ w) (fun _ => rfl)
  have B := h.but (j1 := 2) (j2 := 2) K rfl rfl (fun j e => Or.inl (by rw [ha, e]; rfl))
  refine ⟨⟨?_, B.src (by omega) (by omega), ?_, B.lg (by omega) (by omega), B.lt (by omega) (by omega), B.pt (by omega) (by omega), fun i p hp => B.ln i p hp (by omega) (by omega), h.dis⟩, K.mono (fun j _ e => by subst e; simp [Eng.fp, ha, bk]), fun j hj => Or.inl hj⟩
  · have := B.eng (by omega) (by omega)
    unfold Eng.vals at *
    simpa using this
  · have hr := h.wt
    rw [ha] at hr
    have := Row.setEv (E := E) hr hk
    simp only [List.length_set]
    rw [ha]
    exact this
def Eng.hole (X : Eng) (gg cap j : Nat) (H : Ev) : Eng := { X with wait := X.wait.take j ++ H :: X.wait.drop j, wa := some ⟨gg, 0, none⟩, wc := cap }
structure WaitK (w wr : World) (b eb gg cap : Nat) (X : Eng) (E H : Ev) (j : Nat) : Prop where
  evo : EvoX w b X wr (X.hole gg cap j H)
  box : Blk wr eb 30 E.vals
  off : some eb ∉ (X.hole gg cap j H).fp b
  ah : ∀ x ∈ X.wait.drop j, aheadB E x = true
theorem hole_len (X : Eng) (gg cap j : Nat) (H : Ev) (hj : j ≤ X.wait.length) : (X.hole gg cap j H).wait.length = X.wait.length + 1 := by
  simp [Eng.hole]; omega
theorem hole_prev (X : Eng) (gg cap j : Nat) (H : Ev) (hj : j < X.wait.length) (h : j < (X.hole gg cap (j + 1) H).wait.length) : (X.hole gg cap (j + 1) H).wait[j] = X.wait[j] := by
  simp only [Eng.hole]
  rw [List.getElem_append_left (by simp; omega)]
  simp
theorem hole_set (X : Eng) (gg cap j : Nat) (H : Ev) (hj : j < X.wait.length) : (X.hole gg cap (j + 1) H).wait.set (j + 1) X.wait[j] = (X.hole gg cap j X.wait[j]).wait := by
  simp only [Eng.hole]
  rw [List.set_append_right _ _ (by simp; omega)]
  have h1 : (X.wait.take (j + 1)).length = j + 1 := by simp; omega
  rw [h1, Nat.sub_self, List.set_cons_zero, take_succ' X.wait j hj, List.append_assoc, List.drop_eq_getElem_cons hj]
  rfl
theorem hole_last (X : Eng) (gg cap j : Nat) (H E : Ev) (hj : j ≤ X.wait.length) : (X.hole gg cap j H).wait.set j E = X.wait.take j ++ E :: X.wait.drop j := by
  simp only [Eng.hole]
  rw [List.set_append_right _ _ (by simp; omega)]
  have h1 : (X.wait.take j).length = j := by simp; omega
  rw [h1, Nat.sub_self, List.set_cons_zero]
set_option maxRecDepth 100000 in
set_option maxHeartbeats 8000000 in
theorem xwait_any (b : Nat) (X : Eng) (EE : Ev) (w : World) (h : MemX w b X) (hw : X.wait.length ≤ 900) :
    Calls Tryz.prog 85 #[.pointer (some ⟨b, 0, none⟩), EE.agg] w fun e w' => e = .returned (.tuple #[]) ∧ ∃ W wa wc, Ins EE X.wait W ∧ EvoX w b X w' { X with wait := W, wa := wa, wc := wc } := by
  obtain ⟨j0, hj0, hy0, hy1, hy2⟩ := info_parts Tryz.infoEv
  obtain ⟨wq, HWq⟩ := hex (w.alloc (.cells EE.vals.toArray 30))
  have hwq : w.alloc (.cells #[.int .i64 EE.src, .int .i64 EE.seq, .int .i64 EE.ts, .int .i64 EE.kind, .int .i64 EE.val] 30) = wq := HWq.out.symm
  obtain ⟨eb, HEb⟩ := hex w.heap.size
  have HBq : Hid (Below w.heap.size w wq) := by show Below _ _ _; rw [HWq.out]; exact (Below.refl _ _).alloc (Nat.le_refl _) _
  have HBx : Hid (Blk wq eb 30 EE.vals) := by show Blk _ _ _ _; rw [HWq.out, HEb.out]; exact blk_alloc _ _ _
  have H : Hid (MemX w b X) := h
  have HH : Hid (MemX wq b X) := h.below HBq.out
  have HNe : Hid (¬ some eb ∈ X.fp b) := fun e => by have := H.out.fp_lt _ e; have := HEb.out; omega
  clear h
  unfold Ev.agg
  go_enter Tryz.func85, Tryz.ntmps85
  go_upto_region 1 with fail
  rw [← HEb.out]
  clear hwq HWq
  have cx : wq.cell? ⟨b, 11, none⟩ = some (.slice X.wa X.wait.length X.wc) := HH.out.eng.cell 11
  have HRow : Hid (Row wq 30 5 X.wa X.wait.length X.wc (evs X.wait)) := HH.out.wt
  refine upTo_region (fun u => u.cell? ⟨b, 11, none⟩ = some (.slice X.wa X.wait.length X.wc) ∧ u.cell? ⟨eb, 0, none⟩ = some (.int .i64 EE.src) ∧ u.cell? ⟨eb, 1, none⟩ = some (.int .i64 EE.seq) ∧ u.cell? ⟨eb, 2, none⟩ = some (.int .i64 EE.ts) ∧ u.cell? ⟨eb, 3, none⟩ = some (.int .i64 EE.kind) ∧ u.cell? ⟨eb, 4, none⟩ = some (.int .i64 EE.val)) 10 11 rfl (by kernel_rfl) ?_
  have hS0 : (fun u : World => u.cell? ⟨b, 11, none⟩ = some (.slice X.wa X.wait.length X.wc) ∧ u.cell? ⟨eb, 0, none⟩ = some (.int .i64 EE.src) ∧ u.cell? ⟨eb, 1, none⟩ = some (.int .i64 EE.seq) ∧ u.cell? ⟨eb, 2, none⟩ = some (.int .i64 EE.ts) ∧ u.cell? ⟨eb, 3, none⟩ = some (.int .i64 EE.kind) ∧ u.cell? ⟨eb, 4, none⟩ = some (.int .i64 EE.val)) wq.drew := ⟨cx, HBx.out.cell 0, HBx.out.cell 1, HBx.out.cell 2, HBx.out.cell 3, HBx.out.cell 4⟩
  refine upTo_tk (i := 0) (v := ?v16_0) rfl (by kernel_rfl) (fun _ _ _ h => h) (by rfl) hS0 ?h16_0 ?r16_0
  case h16_0 => (intro u hu; (try dsimp only at hu); go_simp; first | done | with_reducible rfl)
  (try simp only [Act.put, tkS])
  refine upTo_tk (i := 1) (v := ?v16_1) rfl (by kernel_rfl) (fun _ _ _ h => h) (by rfl) hS0 ?h16_1 ?r16_1
  case h16_1 => (intro u hu; (try dsimp only at hu); go_simp; first | done | with_reducible rfl)
  (try simp only [Act.put, tkS])
  refine upTo_tk (i := 2) (v := ?v16_2) rfl (by kernel_rfl) (fun _ _ _ h => h) (by rfl) hS0 ?h16_2 ?r16_2
  case h16_2 => (intro u hu; (try dsimp only at hu); go_simp; first | done | with_reducible rfl)
  (try simp only [Act.put, tkS])
  refine upTo_tk (i := 3) (v := ?v16_3) rfl (by kernel_rfl) (fun _ _ _ h => h) (by rfl) hS0 ?h16_3 ?r16_3
  case h16_3 => (intro u hu; (try dsimp only at hu); go_simp; first | done | with_reducible rfl)
  (try simp only [Act.put, tkS])
  refine upTo_tk (i := 4) (v := ?v16_4) rfl (by kernel_rfl) (fun _ _ _ h => h) (by rfl) hS0 ?h16_4 ?r16_4
  case h16_4 => (intro u hu; (try dsimp only at hu); go_simp; first | done | with_reducible rfl)
  (try simp only [Act.put, tkS])
  refine upTo_tk (i := 5) (v := ?v16_5) rfl (by kernel_rfl) (fun _ _ _ h => h) (by rfl) hS0 ?h16_5 ?r16_5
  case h16_5 => (intro u hu; (try dsimp only at hu); go_simp; first | done | with_reducible rfl)
  (try simp only [Act.put, tkS])
  refine upTo_one (i := 6) (by kernel_rfl) rfl (fun K hK => ?_)
  go_simp
  refine hK.out _ _ (fun _ => ⟨(HH.out.alloc _).eng.cell 11, (HBx.out.alloc _).cell 0, (HBx.out.alloc _).cell 1, (HBx.out.alloc _).cell 2, (HBx.out.alloc _).cell 3, (HBx.out.alloc _).cell 4⟩) ?_
  clear hK K
  (try simp only [Act.put, tkS])
  refine upTo_one (i := 7) (by kernel_rfl) rfl (fun K hK => ?_)
  refine step_append_lies _ (by rfl) _ _ _ (by rfl) 0 30 j0 _ 5 40 Tryz.underlying22 hj0 hy0 hy1 hy2 rfl (by omega) (.slice X.wa X.wait.length X.wc) X.wait.length (evs X.wait) (by rfl) (ownsRow_of_heap HRow.out (fun k hk => Below.heap_alloc _ _ _ hk))
    ⟨wq.heap.size, 0, none⟩ 1 1 EE.vals (by rfl) (by rfl) (World.news_of_block (cs := EE.vals.toArray) (t := 30) (fr := (0, 0)) (heap_alloc_new wq _)) (Ev.one EE)
    (by omega) (by unfold maxLen; omega) (by omega) (by omega) (wq.heap.size + 1) (by simp) ?_
  intro gg cap w1 hown1 hgrow hat hlt1
  have hb0 : Below wq.heap.size wq (wq.alloc (.cells EE.vals.toArray 30)).drew := ((Below.refl _ wq).alloc (Nat.le_refl _) _).drew
  obtain ⟨_, qk, qb, _, _⟩ := xapp (j := 2) (cap := cap) HH.out hb0 rfl (by omega) hgrow hat
  have q0 := qb.eng (by omega) (by omega)
  have q4 := q0.frozen 11
  have HB1 : Hid (Blk w1 eb 30 EE.vals) := HBx.out.kept qk HNe.out
  refine hK.out _ _ (fun _ => ⟨q0.cell 11, HB1.out.cell 0, HB1.out.cell 1, HB1.out.cell 2, HB1.out.cell 3, HB1.out.cell 4⟩) ?_
  clear hK K hS0
  (try simp only [Act.put, tkS])
  refine upTo_one (i := 8) (by kernel_rfl) rfl (fun K hK => ?_)
  go_simp
  refine hK.out _ _ (fun _ => ⟨q0.cell 11, HB1.out.cell 0, HB1.out.cell 1, HB1.out.cell 2, HB1.out.cell 3, HB1.out.cell 4⟩) ?_
  clear hK K
  (try simp only [Act.put, tkS])
  refine upTo_one (i := 9) (by kernel_rfl) rfl (fun K hK => ?_)
  go_simp
  refine hK.out _ _ (fun _ => ⟨q0.cell 11, HB1.out.cell 0, HB1.out.cell 1, HB1.out.cell 2, HB1.out.cell 3, HB1.out.cell 4⟩) ?_
  clear hK K
  (try simp only [Act.put, tkS])
  have q5 := q0.cell 11
  simp only [Eng.vals, Cfg.valsE, List.cons_append, List.nil_append, List.getElem?_cons_succ, List.getElem?_cons_zero] at q5
  refine upTo_one (i := 10) (by kernel_rfl) rfl (fun K hK => ?_)
  go_simp
  refine hK.out _ _ (fun h => absurd rfl h) ?_
  clear hK K
  (try simp only [Act.put, tkS])
  refine upTo_done (by kernel_rfl) ?_
  obtain ⟨XZ, HXZ⟩ := hex ({ X with wait := X.wait ++ [EE], wa := some ⟨gg, 0, none⟩, wc := cap } : Eng)
  have HE3 : Hid (EvoX wq b X (w1.setCell ⟨b, 11, none⟩ (.slice (some ⟨gg, 0, none⟩) (X.wait.length + 1) cap)) XZ) := by show EvoX _ _ _ _ _; rw [HXZ.out]; exact HH.out.appWaitE hb0 hown1 hgrow hat
  have HKz : Hid (Kept (fun k => some k ∈ X.fp b) wq (w1.setCell ⟨b, 11, none⟩ (.slice (some ⟨gg, 0, none⟩) (X.wait.length + 1) cap))) := HE3.out.kept
  clear q0 q4 q5 qk qb cx hown1 hgrow hat hlt1 hb0 HRow HB1
  generalize w1.setCell ⟨b, 11, none⟩ (.slice (some ⟨gg, 0, none⟩) (X.wait.length + 1) cap) = wz at *
  have HBz : Hid (Blk wz eb 30 EE.vals) := HBx.out.kept HKz.out HNe.out
  have hgc : Hid (XZ.wa = some ⟨gg, 0, none⟩ ∧ XZ.wc = cap ∧ XZ = X.hole gg cap X.wait.length EE) := by
    show _ ∧ _
    have e := HXZ.out
    subst e
    refine ⟨rfl, rfl, ?_⟩
    simp [Eng.hole]
  have HEw : Hid (EvoX w b X wz XZ) := (EvoX.below H.out HBq.out).trans HE3.out
  have HOff : Hid (some eb ∉ XZ.fp b) := by
    intro f
    rcases HE3.out.grow _ f with g | g
    · exact HNe.out g
    · have := HBx.out.lt; omega
  have HK0 : Hid (WaitK w wz b eb gg cap X EE EE X.wait.length) := ⟨hgc.out.2.2 ▸ HEw.out, HBz.out, hgc.out.2.2 ▸ HOff.out, by simp⟩
  have c8 := HEw.out.mem.cells.2.2.2.2.2.2.1
  have hlz : XZ.wait.length = X.wait.length + 1 := by rw [HXZ.out]; simp
  rw [hlz, hgc.out.1, hgc.out.2.1] at c8
  clear HKz HE3 HEw HOff HXZ hlz hgc HH HBz HBx HNe
  obtain ⟨n, hn⟩ : ∃ n, n = X.wait.length := ⟨_, rfl⟩
  have HN : Hid (n = X.wait.length) := hn
  rw [← hn] at c8 hw
  have hcast : ((n + 1 : Nat) : Int) - 1 = (n : Int) := by omega
  clear hn
  go_upto_region 3 with fail
  go_loopw [4] (fun i wr => ∃ (j : Nat) (Hh : Ev), j ≤ n ∧ i = .int .i64 j ∧ WaitK w wr b eb gg cap X EE Hh j) (fun i _ => (intOf i).toNat)
  case atStart => exact ⟨n, EE, Nat.le_refl _, by go_num, by have := HK0.out; rw [← HN.out] at this; exact this⟩
  case round =>
    obtain ⟨j, Hh, hj, rfl, hk⟩ := hrel
    have HK : Hid (WaitK w wr b eb gg cap X EE Hh j) := hk
    clear hk c8 HK0
    have c8 := HK.out.evo.mem.cells.2.2.2.2.2.2.1
    have hjx : j ≤ X.wait.length := by have := HN.out; omega
    rw [hole_len X gg cap j Hh hjx, ← HN.out] at c8
    have hc8 : (X.hole gg cap j Hh).wa = some ⟨gg, 0, none⟩ ∧ (X.hole gg cap j Hh).wc = cap := ⟨rfl, rfl⟩
    rw [hc8.1, hc8.2] at c8
    have HRl : Hid (Row wr 30 5 (some ⟨gg, 0, none⟩) (X.hole gg cap j Hh).wait.length cap (evs (X.hole gg cap j Hh).wait)) := HK.out.evo.mem.wt
    have m0 := HK.out.box.cell 0
    have m1 := HK.out.box.cell 1
    have m2 := HK.out.box.cell 2
    have m3 := HK.out.box.cell 3
    have m4 := HK.out.box.cell 4
    simp only [Ev.vals, List.getElem?_cons_zero, List.getElem?_cons_succ] at m0 m1 m2 m3 m4
    have hfz : ∀ q, wr.frozen? ⟨gg, q, none⟩ = false := by
      obtain ⟨g', hg', _, _, _, hf⟩ := HRl.out.form (by rw [hole_len X gg cap j Hh hjx]; omega)
      simp only [Option.some.injEq, Addr.mk.injEq, and_true] at hg'
      rw [hg']; exact hf
    have hex1 : j < (X.hole gg cap j Hh).wait.length := by rw [hole_len X gg cap j Hh hjx]; omega
    obtain ⟨g1, hg1, hnc, x0, x1, x2, x3, x4⟩ := evRow_cells HRl.out j hex1
    simp only [Option.some.injEq, Addr.mk.injEq, and_true] at hg1
    subst hg1
    rw [hole_len X gg cap j Hh hjx, ← HN.out] at hnc
    obtain ⟨Y, HY⟩ := hex ((X.hole gg cap j Hh).wait[j]'hex1)
    rw [← HY.out] at x0 x1 x2 x3 x4
    have f0 := hfz (j * 5)
    have f1 := hfz (j * 5 + 1)
    have f2 := hfz (j * 5 + 2)
    have f3 := hfz (j * 5 + 3)
    have f4 := hfz (j * 5 + 4)
    have hggl : gg < wr.heap.size := World.block_lt_of_cell? wr _ x0
    have hjn' : (j : Int) < ((n + 1 : Nat) : Int) := by omega
    have hj0' : (0 : Int) ≤ (j : Int) := by omega
    cases j with
    | zero =>
      go_upto_region 3 with fail
      go_quiet (fail)
      go_upto_region 6 with fail
      obtain ⟨wv, HWv⟩ := hex (wr.drewN nq)
      rw [← HWv.out]
      have HLv : Hid (Below wr.heap.size wr wv) := by show Below _ _ _; rw [HWv.out]; exact bdrewN (Below.refl _ _) nq
      clear HWv
      have HLast : Hid (∀ x, (X.wait.take 0).getLast? = some x → aheadB EE x = false) := fun x hx => by simp at hx
      have hcx : ∀ p v, wr.cell? p = some v → wv.cell? p = some v := fun p v h => (HLv.out.cell (p := p) (World.block_lt_of_cell? wr p h)).trans h
      have hfv : ∀ q, wv.frozen? ⟨gg, q, none⟩ = false := fun q => by rw [HLv.out.frozen (p := ⟨gg, q, none⟩) hggl]; exact hfz q
      have c8v := hcx _ _ c8
      have m0v := hcx _ _ m0
      have m1v := hcx _ _ m1
      have m2v := hcx _ _ m2
      have m3v := hcx _ _ m3
      have m4v := hcx _ _ m4
      have x0v := hcx _ _ x0
      have x1v := hcx _ _ x1
      have x2v := hcx _ _ x2
      have x3v := hcx _ _ x3
      have x4v := hcx _ _ x4
      clear c8 m0 m1 m2 m3 m4 x0 x1 x2 x3 x4 f0 f1 f2 f3 f4 hcx
      have f0 := hfv (0 * 5)
      have f1 := hfv (0 * 5 + 1)
      have f2 := hfv (0 * 5 + 2)
      have f3 := hfv (0 * 5 + 3)
      have f4 := hfv (0 * 5 + 4)
      refine upTo_region (fun u : World => u.cell? ⟨b, 11, none⟩ = some (.slice (some ⟨gg, 0, none⟩) (n + 1) cap) ∧ u.cell? ⟨eb, 0, none⟩ = some (.int .i64 EE.src) ∧ u.cell? ⟨eb, 1, none⟩ = some (.int .i64 EE.seq) ∧ u.cell? ⟨eb, 2, none⟩ = some (.int .i64 EE.ts) ∧ u.cell? ⟨eb, 3, none⟩ = some (.int .i64 EE.kind) ∧ u.cell? ⟨eb, 4, none⟩ = some (.int .i64 EE.val)) 7 8 rfl (by kernel_rfl) ?_
      have hS0 : (fun u : World => u.cell? ⟨b, 11, none⟩ = some (.slice (some ⟨gg, 0, none⟩) (n + 1) cap) ∧ u.cell? ⟨eb, 0, none⟩ = some (.int .i64 EE.src) ∧ u.cell? ⟨eb, 1, none⟩ = some (.int .i64 EE.seq) ∧ u.cell? ⟨eb, 2, none⟩ = some (.int .i64 EE.ts) ∧ u.cell? ⟨eb, 3, none⟩ = some (.int .i64 EE.kind) ∧ u.cell? ⟨eb, 4, none⟩ = some (.int .i64 EE.val)) wv.drew := ⟨c8v, m0v, m1v, m2v, m3v, m4v⟩
      refine upTo_tk (i := 0) (v := ?v17_0) rfl (by kernel_rfl) (fun _ _ _ h => h) (by rfl) hS0 ?h17_0 ?r17_0
      case h17_0 => (intro u hu; (try dsimp only at hu); go_simp; first | done | with_reducible rfl)
      (try simp only [Act.put, tkS])
      refine upTo_tk (i := 1) (v := ?v17_1) rfl (by kernel_rfl) (fun _ _ _ h => h) (by rfl) hS0 ?h17_1 ?r17_1
      case h17_1 => (intro u hu; (try dsimp only at hu); go_simp; first | done | with_reducible rfl)
      (try simp only [Act.put, tkS])
      refine upTo_tk (i := 2) (v := ?v17_2) rfl (by kernel_rfl) (fun _ _ _ h => h) (by rfl) hS0 ?h17_2 ?r17_2
      case h17_2 => (intro u hu; (try dsimp only at hu); go_simp; first | done | with_reducible rfl)
      (try simp only [Act.put, tkS])
      refine upTo_tk (i := 3) (v := ?v17_3) rfl (by kernel_rfl) (fun _ _ _ h => h) (by rfl) hS0 ?h17_3 ?r17_3
      case h17_3 => (intro u hu; (try dsimp only at hu); go_simp; first | done | with_reducible rfl)
      (try simp only [Act.put, tkS])
      refine upTo_tk (i := 4) (v := ?v17_4) rfl (by kernel_rfl) (fun _ _ _ h => h) (by rfl) hS0 ?h17_4 ?r17_4
      case h17_4 => (intro u hu; (try dsimp only at hu); go_simp; first | done | with_reducible rfl)
      (try simp only [Act.put, tkS])
      refine upTo_tk (i := 5) (v := ?v17_5) rfl (by kernel_rfl) (fun _ _ _ h => h) (by rfl) hS0 ?h17_5 ?r17_5
      case h17_5 => (intro u hu; (try dsimp only at hu); go_simp; first | done | with_reducible rfl)
      (try simp only [Act.put, tkS])
      refine upTo_tk (i := 6) (v := ?v17_6) rfl (by kernel_rfl) (fun _ _ _ h => h) (by rfl) hS0 ?h17_6 ?r17_6
      case h17_6 => (intro u hu; (try dsimp only at hu); go_simp; first | done | with_reducible rfl)
      (try simp only [Act.put, tkS])
      refine upTo_one (i := 7) (by kernel_rfl) rfl (fun K hK => ?_)
      go_simp
      refine hK.out _ _ (fun h => absurd rfl h) ?_
      clear hK K
      (try simp only [Act.put, tkS])
      refine upTo_done (by kernel_rfl) ?_
      clear hS0
      have HFin : Hid (EvoX w b X (setEv wv.drew gg (0) EE) { X with wait := X.wait.take (0) ++ EE :: X.wait.drop (0), wa := some ⟨gg, 0, none⟩, wc := cap }) := by
        have e1 := (HK.out.evo.trans (EvoX.below HK.out.evo.mem HLv.out)).drewE
        have e2 := MemX.setEvE (E := EE) (k := 0) e1.mem rfl hex1
        rw [hole_last X gg cap (0) Hh EE hjx] at e2
        exact e1.trans e2
      unfold setEv at HFin
      clear c8v m0v m1v m2v m3v m4v x0v x1v x2v x3v x4v f0 f1 f2 f3 f4 hfv hfz
      go_wp2
      go_end0
      exact ⟨rfl, X.wait.take (0) ++ EE :: X.wait.drop (0), some ⟨gg, 0, none⟩, cap, ⟨X.wait.take (0), X.wait.drop (0), (List.take_append_drop _ _).symm, rfl, HK.out.ah, HLast.out⟩, by have := HFin.out; exact this⟩
    | succ j =>
      have hjl : j < X.wait.length := by omega
      have hex2 : j < (X.hole gg cap (j + 1) Hh).wait.length := by omega
      obtain ⟨g2, hg2, _, y0, y1, y2, y3, y4⟩ := evRow_cells HRl.out j hex2
      simp only [Option.some.injEq, Addr.mk.injEq, and_true] at hg2
      subst hg2
      rw [hole_prev X gg cap j Hh hjl hex2] at y0 y1 y2 y3 y4
      obtain ⟨P, HP⟩ := hex X.wait[j]
      rw [← HP.out] at y0 y1 y2 y3 y4
      have hq1 : ((j + 1 : Nat) : Int) - 1 = (j : Int) := by omega
      have hq2 : (0 : Int) < ((j + 1 : Nat) : Int) := by omega
      have hq3 : (0 : Int) ≤ (j : Int) := by omega
      have hq4 : (j : Int) < ((n + 1 : Nat) : Int) := by omega
      have hq5 : (j : Int) < (n : Int) + 1 := by omega
      have hq6 : (j : Int) + 1 < (n : Int) + 1 := by omega
      have hq7 : (0 : Int) ≤ (j : Int) + 1 := by omega
      have hwj : IntKind.i64.wrap (j : Int) = (j : Int) := by rw [IntKind.wrap_i64]; omega
      go_upto_region 3 with fail
      refine upTo_region (fun u : World => u.cell? ⟨b, 11, none⟩ = some (.slice (some ⟨gg, 0, none⟩) (n + 1) cap) ∧ u.cell? ⟨eb, 0, none⟩ = some (.int .i64 EE.src) ∧ u.cell? ⟨eb, 1, none⟩ = some (.int .i64 EE.seq) ∧ u.cell? ⟨eb, 2, none⟩ = some (.int .i64 EE.ts) ∧ u.cell? ⟨eb, 3, none⟩ = some (.int .i64 EE.kind) ∧ u.cell? ⟨eb, 4, none⟩ = some (.int .i64 EE.val) ∧ u.cell? ⟨gg, j * 5, none⟩ = some (.int .i64 P.src) ∧ u.cell? ⟨gg, j * 5 + 1, none⟩ = some (.int .i64 P.seq) ∧ u.cell? ⟨gg, j * 5 + 2, none⟩ = some (.int .i64 P.ts) ∧ u.cell? ⟨gg, j * 5 + 3, none⟩ = some (.int .i64 P.kind) ∧ u.cell? ⟨gg, j * 5 + 4, none⟩ = some (.int .i64 P.val)) 14 14 rfl (by kernel_rfl) ?_
      have hS0 : (fun u : World => u.cell? ⟨b, 11, none⟩ = some (.slice (some ⟨gg, 0, none⟩) (n + 1) cap) ∧ u.cell? ⟨eb, 0, none⟩ = some (.int .i64 EE.src) ∧ u.cell? ⟨eb, 1, none⟩ = some (.int .i64 EE.seq) ∧ u.cell? ⟨eb, 2, none⟩ = some (.int .i64 EE.ts) ∧ u.cell? ⟨eb, 3, none⟩ = some (.int .i64 EE.kind) ∧ u.cell? ⟨eb, 4, none⟩ = some (.int .i64 EE.val) ∧ u.cell? ⟨gg, j * 5, none⟩ = some (.int .i64 P.src) ∧ u.cell? ⟨gg, j * 5 + 1, none⟩ = some (.int .i64 P.seq) ∧ u.cell? ⟨gg, j * 5 + 2, none⟩ = some (.int .i64 P.ts) ∧ u.cell? ⟨gg, j * 5 + 3, none⟩ = some (.int .i64 P.kind) ∧ u.cell? ⟨gg, j * 5 + 4, none⟩ = some (.int .i64 P.val)) wr.drew := ⟨c8, m0, m1, m2, m3, m4, y0, y1, y2, y3, y4⟩
      refine upTo_tk2 (i := 0) (v := ?v15_0) rfl (by kernel_rfl) rfl (fun _ _ _ h => h) (by rfl) hS0 ?h15_0 ?r15_0
      case h15_0 => (intro u hu; (try dsimp only at hu); go_simp; first | done | with_reducible rfl)
      (try simp only [Act.put, tkS])
      refine upTo_tk2 (i := 1) (v := ?v15_1) rfl (by kernel_rfl) rfl (fun _ _ _ h => h) (by rfl) hS0 ?h15_1 ?r15_1
      case h15_1 => (intro u hu; (try dsimp only at hu); go_simp; first | done | with_reducible rfl)
      (try simp only [Act.put, tkS])
      refine upTo_tk2 (i := 2) (v := ?v15_2) rfl (by kernel_rfl) rfl (fun _ _ _ h => h) (by rfl) hS0 ?h15_2 ?r15_2
      case h15_2 => (intro u hu; (try dsimp only at hu); go_simp; first | done | with_reducible rfl)
      (try simp only [Act.put, tkS])
      refine upTo_tk2 (i := 3) (v := ?v15_3) rfl (by kernel_rfl) rfl (fun _ _ _ h => h) (by rfl) hS0 ?h15_3 ?r15_3
      case h15_3 => (intro u hu; (try dsimp only at hu); go_simp; first | done | with_reducible rfl)
      (try simp only [Act.put, tkS])
      refine upTo_tk2 (i := 4) (v := ?v15_4) rfl (by kernel_rfl) rfl (fun _ _ _ h => h) (by rfl) hS0 ?h15_4 ?r15_4
      case h15_4 => (intro u hu; (try dsimp only at hu); go_simp; first | done | with_reducible rfl)
      (try simp only [Act.put, tkS])
      refine upTo_tk2 (i := 5) (v := ?v15_5) rfl (by kernel_rfl) rfl (fun _ _ _ h => h) (by rfl) hS0 ?h15_5 ?r15_5
      case h15_5 => (intro u hu; (try dsimp only at hu); go_simp; first | done | with_reducible rfl)
      (try simp only [Act.put, tkS])
      refine upTo_tk2 (i := 6) (v := ?v15_6) rfl (by kernel_rfl) rfl (fun _ _ _ h => h) (by rfl) hS0 ?h15_6 ?r15_6
      case h15_6 => (intro u hu; (try dsimp only at hu); go_simp; first | done | with_reducible rfl)
      (try simp only [Act.put, tkS])
      refine upTo_tk2 (i := 7) (v := ?v15_7) rfl (by kernel_rfl) rfl (fun _ _ _ h => h) (by rfl) hS0 ?h15_7 ?r15_7
      case h15_7 => (intro u hu; (try dsimp only at hu); go_simp; first | done | with_reducible rfl)
      (try simp only [Act.put, tkS])
      refine upTo_tk2 (i := 8) (v := ?v15_8) rfl (by kernel_rfl) rfl (fun _ _ _ h => h) (by rfl) hS0 ?h15_8 ?r15_8
      case h15_8 => (intro u hu; (try dsimp only at hu); go_simp; first | done | with_reducible rfl)
      (try simp only [Act.put, tkS])
      refine upTo_tk2 (i := 9) (v := ?v15_9) rfl (by kernel_rfl) rfl (fun _ _ _ h => h) (by rfl) hS0 ?h15_9 ?r15_9
      case h15_9 => (intro u hu; (try dsimp only at hu); go_simp; first | done | with_reducible rfl)
      (try simp only [Act.put, tkS])
      refine upTo_tk2 (i := 10) (v := ?v15_10) rfl (by kernel_rfl) rfl (fun _ _ _ h => h) (by rfl) hS0 ?h15_10 ?r15_10
      case h15_10 => (intro u hu; (try dsimp only at hu); go_simp; first | done | with_reducible rfl)
      (try simp only [Act.put, tkS])
      refine upTo_tk2 (i := 11) (v := ?v15_11) rfl (by kernel_rfl) rfl (fun _ _ _ h => h) (by rfl) hS0 ?h15_11 ?r15_11
      case h15_11 => (intro u hu; (try dsimp only at hu); go_simp; first | done | with_reducible rfl)
      (try simp only [Act.put, tkS])
      refine upTo_one (i := 12) (by kernel_rfl) rfl (fun K hK => ?_)
      go_simp
      have hah : ∀ u, Calls Tryz.prog 97 #[.agg #[.int .i64 EE.src, .int .i64 EE.seq, .int .i64 EE.ts, .int .i64 EE.kind, .int .i64 EE.val], .agg #[.int .i64 P.src, .int .i64 P.seq, .int .i64 P.ts, .int .i64 P.kind, .int .i64 P.val]] u fun e w' => e = .returned (.bool (aheadB EE P)) ∧ Below u.heap.size u w' := fun u => xisAhead_any EE P u
      refine (hah _).mono ?_
      rintro e wv ⟨rfl, hb2⟩
      have HLv : Hid (Below wr.heap.size wr wv) := ⟨hb2.os, hb2.tape, hb2.output, hb2.size, hb2.block⟩
      have hcv : ∀ p v, wr.cell? p = some v → wv.cell? p = some v := fun p v h => (HLv.out.cell (p := p) (World.block_lt_of_cell? wr p h)).trans h
      have hSv : (fun u : World => u.cell? ⟨b, 11, none⟩ = some (.slice (some ⟨gg, 0, none⟩) (n + 1) cap) ∧ u.cell? ⟨eb, 0, none⟩ = some (.int .i64 EE.src) ∧ u.cell? ⟨eb, 1, none⟩ = some (.int .i64 EE.seq) ∧ u.cell? ⟨eb, 2, none⟩ = some (.int .i64 EE.ts) ∧ u.cell? ⟨eb, 3, none⟩ = some (.int .i64 EE.kind) ∧ u.cell? ⟨eb, 4, none⟩ = some (.int .i64 EE.val) ∧ u.cell? ⟨gg, j * 5, none⟩ = some (.int .i64 P.src) ∧ u.cell? ⟨gg, j * 5 + 1, none⟩ = some (.int .i64 P.seq) ∧ u.cell? ⟨gg, j * 5 + 2, none⟩ = some (.int .i64 P.ts) ∧ u.cell? ⟨gg, j * 5 + 3, none⟩ = some (.int .i64 P.kind) ∧ u.cell? ⟨gg, j * 5 + 4, none⟩ = some (.int .i64 P.val)) wv := ⟨hcv _ _ c8, hcv _ _ m0, hcv _ _ m1, hcv _ _ m2, hcv _ _ m3, hcv _ _ m4, hcv _ _ y0, hcv _ _ y1, hcv _ _ y2, hcv _ _ y3, hcv _ _ y4⟩
      clear hb2 hah hS0
      refine hK.out _ _ (fun _ => hSv) ?_
      clear hK K
      (try simp only [Act.put, tkS])
      cases hap : aheadB EE P with
      | false =>
        refine upTo_one (i := 13) (by kernel_rfl) rfl (fun K hK => ?_)
        go_simp
        refine hK.out _ _ (fun _ => hSv) ?_
        clear hK K
        (try simp only [Act.put, tkS])
        refine upTo_done (by kernel_rfl) ?_
        clear hSv hcv y0 y1 y2 y3 y4
        go_upto_region 6 with fail
        have HLast : Hid (∀ x, (X.wait.take (j + 1)).getLast? = some x → aheadB EE x = false) := by
          intro x hx
          rw [take_succ' X.wait j hjl, List.getLast?_append] at hx
          simp at hx
          rw [← hx, ← HP.out]; exact hap
        have hcx : ∀ p v, wr.cell? p = some v → wv.cell? p = some v := fun p v h => (HLv.out.cell (p := p) (World.block_lt_of_cell? wr p h)).trans h
        have hfv : ∀ q, wv.frozen? ⟨gg, q, none⟩ = false := fun q => by rw [HLv.out.frozen (p := ⟨gg, q, none⟩) hggl]; exact hfz q
        have c8v := hcx _ _ c8
        have m0v := hcx _ _ m0
        have m1v := hcx _ _ m1
        have m2v := hcx _ _ m2
        have m3v := hcx _ _ m3
        have m4v := hcx _ _ m4
        have x0v := hcx _ _ x0
        have x1v := hcx _ _ x1
        have x2v := hcx _ _ x2
        have x3v := hcx _ _ x3
        have x4v := hcx _ _ x4
        clear c8 m0 m1 m2 m3 m4 x0 x1 x2 x3 x4 f0 f1 f2 f3 f4 hcx
        have f0 := hfv ((j + 1) * 5)
        have f1 := hfv ((j + 1) * 5 + 1)
        have f2 := hfv ((j + 1) * 5 + 2)
        have f3 := hfv ((j + 1) * 5 + 3)
        have f4 := hfv ((j + 1) * 5 + 4)
        refine upTo_region (fun u : World => u.cell? ⟨b, 11, none⟩ = some (.slice (some ⟨gg, 0, none⟩) (n + 1) cap) ∧ u.cell? ⟨eb, 0, none⟩ = some (.int .i64 EE.src) ∧ u.cell? ⟨eb, 1, none⟩ = some (.int .i64 EE.seq) ∧ u.cell? ⟨eb, 2, none⟩ = some (.int .i64 EE.ts) ∧ u.cell? ⟨eb, 3, none⟩ = some (.int .i64 EE.kind) ∧ u.cell? ⟨eb, 4, none⟩ = some (.int .i64 EE.val)) 7 8 rfl (by kernel_rfl) ?_
        have hS0 : (fun u : World => u.cell? ⟨b, 11, none⟩ = some (.slice (some ⟨gg, 0, none⟩) (n + 1) cap) ∧ u.cell? ⟨eb, 0, none⟩ = some (.int .i64 EE.src) ∧ u.cell? ⟨eb, 1, none⟩ = some (.int .i64 EE.seq) ∧ u.cell? ⟨eb, 2, none⟩ = some (.int .i64 EE.ts) ∧ u.cell? ⟨eb, 3, none⟩ = some (.int .i64 EE.kind) ∧ u.cell? ⟨eb, 4, none⟩ = some (.int .i64 EE.val)) wv.drew := ⟨c8v, m0v, m1v, m2v, m3v, m4v⟩
        refine upTo_tk (i := 0) (v := ?v18_0) rfl (by kernel_rfl) (fun _ _ _ h => h) (by rfl) hS0 ?h18_0 ?r18_0
        case h18_0 => (intro u hu; (try dsimp only at hu); go_simp; first | done | with_reducible rfl)
        (try simp only [Act.put, tkS])
        refine upTo_tk (i := 1) (v := ?v18_1) rfl (by kernel_rfl) (fun _ _ _ h => h) (by rfl) hS0 ?h18_1 ?r18_1
        case h18_1 => (intro u hu; (try dsimp only at hu); go_simp; first | done | with_reducible rfl)
        (try simp only [Act.put, tkS])
        refine upTo_tk (i := 2) (v := ?v18_2) rfl (by kernel_rfl) (fun _ _ _ h => h) (by rfl) hS0 ?h18_2 ?r18_2
        case h18_2 => (intro u hu; (try dsimp only at hu); go_simp; first | done | with_reducible rfl)
        (try simp only [Act.put, tkS])
        refine upTo_tk (i := 3) (v := ?v18_3) rfl (by kernel_rfl) (fun _ _ _ h => h) (by rfl) hS0 ?h18_3 ?r18_3
        case h18_3 => (intro u hu; (try dsimp only at hu); go_simp; first | done | with_reducible rfl)
        (try simp only [Act.put, tkS])
        refine upTo_tk (i := 4) (v := ?v18_4) rfl (by kernel_rfl) (fun _ _ _ h => h) (by rfl) hS0 ?h18_4 ?r18_4
        case h18_4 => (intro u hu; (try dsimp only at hu); go_simp; first | done | with_reducible rfl)
        (try simp only [Act.put, tkS])
        refine upTo_tk (i := 5) (v := ?v18_5) rfl (by kernel_rfl) (fun _ _ _ h => h) (by rfl) hS0 ?h18_5 ?r18_5
        case h18_5 => (intro u hu; (try dsimp only at hu); go_simp; first | done | with_reducible rfl)
        (try simp only [Act.put, tkS])
        refine upTo_tk (i := 6) (v := ?v18_6) rfl (by kernel_rfl) (fun _ _ _ h => h) (by rfl) hS0 ?h18_6 ?r18_6
        case h18_6 => (intro u hu; (try dsimp only at hu); go_simp; first | done | with_reducible rfl)
        (try simp only [Act.put, tkS])
        refine upTo_one (i := 7) (by kernel_rfl) rfl (fun K hK => ?_)
        go_simp
        refine hK.out _ _ (fun h => absurd rfl h) ?_
        clear hK K
        (try simp only [Act.put, tkS])
        refine upTo_done (by kernel_rfl) ?_
        clear hS0
        have HFin : Hid (EvoX w b X (setEv wv.drew gg ((j + 1)) EE) { X with wait := X.wait.take ((j + 1)) ++ EE :: X.wait.drop ((j + 1)), wa := some ⟨gg, 0, none⟩, wc := cap }) := by
          have e1 := (HK.out.evo.trans (EvoX.below HK.out.evo.mem HLv.out)).drewE
          have e2 := MemX.setEvE (E := EE) (k := (j + 1)) e1.mem rfl hex1
          rw [hole_last X gg cap ((j + 1)) Hh EE hjx] at e2
          exact e1.trans e2
        unfold setEv at HFin
        clear c8v m0v m1v m2v m3v m4v x0v x1v x2v x3v x4v f0 f1 f2 f3 f4 hfv hfz
        go_wp2
        go_end0
        exact ⟨rfl, X.wait.take ((j + 1)) ++ EE :: X.wait.drop ((j + 1)), some ⟨gg, 0, none⟩, cap, ⟨X.wait.take ((j + 1)), X.wait.drop ((j + 1)), (List.take_append_drop _ _).symm, rfl, HK.out.ah, HLast.out⟩, by have := HFin.out; exact this⟩
      | true =>
        refine upTo_one (i := 13) (by kernel_rfl) rfl (fun K hK => ?_)
        go_simp
        refine hK.out _ _ (fun _ => hSv) ?_
        clear hK K
        (try simp only [Act.put, tkS])
        refine upTo_done (by kernel_rfl) ?_
        obtain ⟨c8v, m0v, m1v, m2v, m3v, m4v, y0v, y1v, y2v, y3v, y4v⟩ := hSv
        have x0v := hcv _ _ x0
        have x1v := hcv _ _ x1
        have x2v := hcv _ _ x2
        have x3v := hcv _ _ x3
        have x4v := hcv _ _ x4
        have hfv : ∀ q, wv.frozen? ⟨gg, q, none⟩ = false := fun q => by rw [HLv.out.frozen (p := ⟨gg, q, none⟩) hggl]; exact hfz q
        clear c8 m0 m1 m2 m3 m4 x0 x1 x2 x3 x4 y0 y1 y2 y3 y4 f0 f1 f2 f3 f4 hcv
        have f0 := hfv ((j + 1) * 5)
        have f1 := hfv ((j + 1) * 5 + 1)
        have f2 := hfv ((j + 1) * 5 + 2)
        have f3 := hfv ((j + 1) * 5 + 3)
        have f4 := hfv ((j + 1) * 5 + 4)
        go_upto_region 4 with fail
        refine upTo_region (fun u : World => u.cell? ⟨b, 11, none⟩ = some (.slice (some ⟨gg, 0, none⟩) (n + 1) cap) ∧ u.cell? ⟨gg, j * 5, none⟩ = some (.int .i64 P.src) ∧ u.cell? ⟨gg, j * 5 + 1, none⟩ = some (.int .i64 P.seq) ∧ u.cell? ⟨gg, j * 5 + 2, none⟩ = some (.int .i64 P.ts) ∧ u.cell? ⟨gg, j * 5 + 3, none⟩ = some (.int .i64 P.kind) ∧ u.cell? ⟨gg, j * 5 + 4, none⟩ = some (.int .i64 P.val)) 14 15 rfl (by kernel_rfl) ?_
        have hS0 : (fun u : World => u.cell? ⟨b, 11, none⟩ = some (.slice (some ⟨gg, 0, none⟩) (n + 1) cap) ∧ u.cell? ⟨gg, j * 5, none⟩ = some (.int .i64 P.src) ∧ u.cell? ⟨gg, j * 5 + 1, none⟩ = some (.int .i64 P.seq) ∧ u.cell? ⟨gg, j * 5 + 2, none⟩ = some (.int .i64 P.ts) ∧ u.cell? ⟨gg, j * 5 + 3, none⟩ = some (.int .i64 P.kind) ∧ u.cell? ⟨gg, j * 5 + 4, none⟩ = some (.int .i64 P.val)) wv.drew := ⟨c8v, y0v, y1v, y2v, y3v, y4v⟩
        refine upTo_tk (i := 0) (v := ?v19_0) rfl (by kernel_rfl) (fun _ _ _ h => h) (by rfl) hS0 ?h19_0 ?r19_0
        case h19_0 => (intro u hu; (try dsimp only at hu); go_simp; first | done | with_reducible rfl)
        (try simp only [Act.put, tkS])
        refine upTo_tk (i := 1) (v := ?v19_1) rfl (by kernel_rfl) (fun _ _ _ h => h) (by rfl) hS0 ?h19_1 ?r19_1
        case h19_1 => (intro u hu; (try dsimp only at hu); go_simp; first | done | with_reducible rfl)
        (try simp only [Act.put, tkS])
        refine upTo_tk (i := 2) (v := ?v19_2) rfl (by kernel_rfl) (fun _ _ _ h => h) (by rfl) hS0 ?h19_2 ?r19_2
        case h19_2 => (intro u hu; (try dsimp only at hu); go_simp; first | done | with_reducible rfl)
        (try simp only [Act.put, tkS])
        refine upTo_tk (i := 3) (v := ?v19_3) rfl (by kernel_rfl) (fun _ _ _ h => h) (by rfl) hS0 ?h19_3 ?r19_3
        case h19_3 => (intro u hu; (try dsimp only at hu); go_simp; first | done | with_reducible rfl)
        (try simp only [Act.put, tkS])
        refine upTo_tk (i := 4) (v := ?v19_4) rfl (by kernel_rfl) (fun _ _ _ h => h) (by rfl) hS0 ?h19_4 ?r19_4
        case h19_4 => (intro u hu; (try dsimp only at hu); go_simp; first | done | with_reducible rfl)
        (try simp only [Act.put, tkS])
        refine upTo_tk (i := 5) (v := ?v19_5) rfl (by kernel_rfl) (fun _ _ _ h => h) (by rfl) hS0 ?h19_5 ?r19_5
        case h19_5 => (intro u hu; (try dsimp only at hu); go_simp; first | done | with_reducible rfl)
        (try simp only [Act.put, tkS])
        refine upTo_tk (i := 6) (v := ?v19_6) rfl (by kernel_rfl) (fun _ _ _ h => h) (by rfl) hS0 ?h19_6 ?r19_6
        case h19_6 => (intro u hu; (try dsimp only at hu); go_simp; first | done | with_reducible rfl)
        (try simp only [Act.put, tkS])
        refine upTo_tk (i := 7) (v := ?v19_7) rfl (by kernel_rfl) (fun _ _ _ h => h) (by rfl) hS0 ?h19_7 ?r19_7
        case h19_7 => (intro u hu; (try dsimp only at hu); go_simp; first | done | with_reducible rfl)
        (try simp only [Act.put, tkS])
        refine upTo_tk (i := 8) (v := ?v19_8) rfl (by kernel_rfl) (fun _ _ _ h => h) (by rfl) hS0 ?h19_8 ?r19_8
        case h19_8 => (intro u hu; (try dsimp only at hu); go_simp; first | done | with_reducible rfl)
        (try simp only [Act.put, tkS])
        refine upTo_tk (i := 9) (v := ?v19_9) rfl (by kernel_rfl) (fun _ _ _ h => h) (by rfl) hS0 ?h19_9 ?r19_9
        case h19_9 => (intro u hu; (try dsimp only at hu); go_simp; first | done | with_reducible rfl)
        (try simp only [Act.put, tkS])
        refine upTo_tk (i := 10) (v := ?v19_10) rfl (by kernel_rfl) (fun _ _ _ h => h) (by rfl) hS0 ?h19_10 ?r19_10
        case h19_10 => (intro u hu; (try dsimp only at hu); go_simp; first | done | with_reducible rfl)
        (try simp only [Act.put, tkS])
        refine upTo_tk (i := 11) (v := ?v19_11) rfl (by kernel_rfl) (fun _ _ _ h => h) (by rfl) hS0 ?h19_11 ?r19_11
        case h19_11 => (intro u hu; (try dsimp only at hu); go_simp; first | done | with_reducible rfl)
        (try simp only [Act.put, tkS])
        refine upTo_tk (i := 12) (v := ?v19_12) rfl (by kernel_rfl) (fun _ _ _ h => h) (by rfl) hS0 ?h19_12 ?r19_12
        case h19_12 => (intro u hu; (try dsimp only at hu); go_simp; first | done | with_reducible rfl)
        (try simp only [Act.put, tkS])
        refine upTo_tk (i := 13) (v := ?v19_13) rfl (by kernel_rfl) (fun _ _ _ h => h) (by rfl) hS0 ?h19_13 ?r19_13
        case h19_13 => (intro u hu; (try dsimp only at hu); go_simp; first | done | with_reducible rfl)
        (try simp only [Act.put, tkS])
        refine upTo_one (i := 14) (by kernel_rfl) rfl (fun K hK => ?_)
        go_simp
        refine hK.out _ _ (fun h => absurd rfl h) ?_
        clear hK K
        (try simp only [Act.put, tkS])
        refine upTo_done (by kernel_rfl) ?_
        clear hS0
        have HKn : Hid (WaitK w (setEv wv.drew gg (j + 1) P) b eb gg cap X EE P j) := by
          have e1 := (HK.out.evo.trans (EvoX.below HK.out.evo.mem HLv.out)).drewE
          have e2 := MemX.setEvE (E := P) (k := j + 1) e1.mem rfl hex1
          have e3 : ({ X.hole gg cap (j + 1) Hh with wait := (X.hole gg cap (j + 1) Hh).wait.set (j + 1) P } : Eng) = X.hole gg cap j P := by
            rw [HP.out, hole_set X gg cap j Hh hjl]; rfl
          rw [e3] at e2
          have hne : gg ≠ eb := fun e => HK.out.off (by rw [← e]; exact List.mem_of_getElem? (i := 2) rfl)
          refine ⟨e1.trans e2, ?_, ?_, ?_⟩
          · exact ((HK.out.box.below HLv.out HK.out.box.lt).drew).kept (kept_setEv (S := fun q => q = gg) (Kept.refl _ _) (fun _ => rfl)) (fun e => hne e.symm)
          · exact HK.out.off
          · intro x hx
            rw [List.drop_eq_getElem_cons hjl] at hx
            rcases List.mem_cons.1 hx with rfl | hx
            · rw [← HP.out]; exact hap
            · exact HK.out.ah x hx
        unfold setEv at HKn
        clear c8v y0v y1v y2v y3v y4v m0v m1v m2v m3v m4v x0v x1v x2v x3v x4v f0 f1 f2 f3 f4 hfv hfz
        go_wp2
        go_roundw
        case rel => exact ⟨j, P, by omega, by go_num, HKn.out⟩
        case measure => simp [intOf] <;> omega

end Go.Proofs.YtghcololkgeoeabGreat
