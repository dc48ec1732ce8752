import Derived.Test.YtghcololkgeoeabGreatPartF5
namespace Go.Proofs.YtghcololkgeoeabGreat
open Go.RowKit
set_option linter.unusedVariables false
set_option linter.unusedSimpArgs false
attribute [local go_sem ↓] Go.wp_at_zero Go.wp_at_succ

theorem feed_pair (N xb rb : Nat) (X : Eng) (R : Ref) (A : Int) (S : ByteArray) (hb : Both N X R) (hN : N ≤ 400000000000) : ∃ RX : FedN → Int → Eng → Prop,
    (∀ u, MemX u xb X → Calls Tryz.prog 32 #[.pointer (some ⟨xb, 0, none⟩), .int .i64 A, .string S] u fun e w' => ∃ f z X', e = .returned (.tuple #[.agg #[.int .i64 (FedN.good f), .int .i64 (FedN.refused f), .int .i64 (FedN.bad f)], .int .i64 z]) ∧ RX f z X' ∧ EvoX u xb X w' X') ∧
    (∀ f z X', RX f z X' → ∀ u, MemR u rb R → Calls Tryz.prog 33 #[.pointer (some ⟨rb, 0, none⟩), .int .i64 A, .string S] u fun e w' => ∃ R', e = .returned (.tuple #[.agg #[.int .i64 (FedN.good f), .int .i64 (FedN.refused f), .int .i64 (FedN.bad f)], .int .i64 z]) ∧ Both (N + 5000) X' R' ∧ Evo u rb R w' R') := by
  by_cases hs : 2000 < S.size
  · refine ⟨fun f z X' => f = ⟨0, 0, 0⟩ ∧ z = 9 ∧ X' = X, fun u hu => ?_, ?_⟩
    · exact (xfeed_long xb A S u hs).mono fun e w' ⟨he, hw⟩ => ⟨⟨0, 0, 0⟩, 9, X, he, ⟨rfl, rfl, rfl⟩, EvoX.below hu hw⟩
    · rintro f z X' ⟨rfl, rfl, rfl⟩ u hu
      exact (rfeed_long rb R A S u hu hs).mono fun e w' ⟨he, hw⟩ => ⟨R, he, hb.mono (by omega), Evo.below hu hw⟩
  · have hs' : S.size ≤ 2000 := by omega
    have hn := hb.sim.n
    rcases index_cases A R.srcs.length with hA | ⟨i, rfl, hi⟩
    · refine ⟨fun f z X' => f = ⟨0, 0, 0⟩ ∧ z = 3 ∧ X' = X, fun u hu => ?_, ?_⟩
      · exact (xfeed_none xb X A S u hu hs' (by rw [hn]; exact hA)).mono fun e w' ⟨he, hw⟩ => ⟨⟨0, 0, 0⟩, 3, X, he, ⟨rfl, rfl, rfl⟩, EvoX.below hu hw⟩
      · rintro f z X' ⟨rfl, rfl, rfl⟩ u hu
        exact (rfeed_none rb R A S u hu hs' hA).mono fun e w' ⟨he, hw⟩ => ⟨R, he, hb.mono (by omega), Evo.below hu hw⟩
    · refine ⟨fun f z X' => z = 0 ∧ ∃ tr, RunX X i N S S.size f X' tr, fun u hu => ?_, ?_⟩
      · exact (xfeed_run N xb X R i S u hu ⟨hb.sim, hb.good⟩ hs' (by omega)).mono fun e w' ⟨f, Y, tr, he, hr, hev⟩ => ⟨f, 0, Y, he, ⟨rfl, tr, hr⟩, hev⟩
      · rintro f z X' ⟨rfl, tr, hr⟩ u hu
        exact (rfeed_run N rb X R i S u hu ⟨hb.sim, hb.good⟩ hb.lines hN hs' hi f X' tr hr).mono fun e w' ⟨Z, he, hl, hln, hev⟩ => ⟨Z, he, ⟨hl.sim, hl.good, hln⟩, hev⟩
theorem PInv.sideW {w0 w w' : World} {wb xb rb sb : Nat} {X : Eng} {R : Ref} {a : Option Addr} {c : Nat} {l : Lz} (h : PInv w0 w wb xb rb X R a c l) (K : Kept (fun k => k = sb) w w') (n1 : sb ≠ wb) (n2 : some sb ∉ X.fp xb) (n3 : some sb ∉ R.fp rb) (n4 : bk a ≠ some sb) (n5 : some sb ∉ zfp l) (n6 : w0.heap.size ≤ sb) : PInv w0 w' wb xb rb X R a c l :=
  ⟨⟨h.inv.blk.kept K (fun e => n1 e.symm), h.inv.mx.kept K (fun k hk e => n2 (e ▸ hk)), h.inv.mr.kept K (fun k hk e => n3 (e ▸ hk)), h.inv.ls.kept K (fun k hk e => n4 (e ▸ hk)) (fun k hk e => n5 (e ▸ hk)), h.inv.d3, h.inv.d4, h.inv.d5, h.inv.xw, h.inv.rw, h.inv.xr, h.inv.xa, h.inv.ra⟩, kept_toBelow h.bel K (fun i e => by rw [e]; exact n6), h.nw, h.nx, h.nr, h.na, h.nz⟩
def z3f : List Value := [.int .i64 0, .int .i64 0, .int .i64 0]
set_option maxRecDepth 100000 in
set_option maxHeartbeats 8000000 in
theorem does_feed (N : Nat) (w0 w : World) (wb xb rb : Nat) (X : Eng) (R : Ref) (a : Option Addr) (c : Nat) (l : Lz) (A : Int) (E : Ev) (S : ByteArray) (h : PInv w0 w wb xb rb X R a c l) (hb : Both N X R) (hN : N ≤ 400000000000) :
    Calls Tryz.prog 7 #[.pointer (some ⟨wb, 0, none⟩), opVal 6 A E S] w fun e w' => e = .returned (.bool true) ∧ ∃ X' R', PInv w0 w' wb xb rb X' R' a c l ∧ Both (N + 5000) X' R' := by
  obtain ⟨RX, hX, hR0⟩ := feed_pair N xb rb X R A S hb hN
  clear hb hN
  obtain ⟨p0, HW1⟩ := hex (w.alloc (.cells (opCells 6 A E S).toArray 32))
  have HBp0 : Hid (Below w.heap.size w p0) := by show Below _ _ _; rw [HW1.out]; exact (Below.refl _ _).alloc (Nat.le_refl _) _
  have HIp0 : Hid (PInv w0 p0 wb xb rb X R a c l) := h.below HBp0.out
  obtain ⟨ob, HOb⟩ := hex w.heap.size
  have HOp0 : Hid (Blk p0 ob 32 (opCells 6 A E S)) := by show Blk _ _ _ _; rw [HW1.out, HOb.out]; exact blk_alloc _ _ _
  have HNx : Hid (some ob ∉ X.fp xb ∧ some ob ∉ R.fp rb) := ⟨fun e => by have := h.inv.mx.fp_lt _ e; have := HOb.out; omega, fun e => by have := h.inv.mr.fp_lt _ e; have := HOb.out; omega⟩
  have hw1 : w.alloc (.cells #[.int .i64 6, .int .i64 A, .int .i64 E.src, .int .i64 E.seq, .int .i64 E.ts, .int .i64 E.kind, .int .i64 E.val, .string S] 32) = p0 := HW1.out.symm
  unfold opVal
  go_enter Tryz.func7, Tryz.ntmps7
  go_upto_region 1 with fail
  rw [← HOb.out]
  clear hw1 HW1 h
  have o0 := HOp0.out.cell 0
  simp only [opCells, List.getElem?_cons_zero, List.getElem?_cons_succ] at o0
  go_upto_region 23 with fail
  clear o0
  have bp := HIp0.out.inv.blk.cell 0
  have op := HOp0.out.cell 1
  have sp := HOp0.out.cell 7
  simp only [opCells, List.getElem?_cons_zero, List.getElem?_cons_succ] at bp op sp
  refine upTo_region (fun u : World => u.cell? ⟨wb, 0, none⟩ = some (.pointer (some ⟨xb, 0, none⟩)) ∧ u.cell? ⟨ob, 1, none⟩ = some (.int .i64 A) ∧ u.cell? ⟨ob, 7, none⟩ = some (.string S)) 14 15 rfl (by kernel_rfl) ?_
  have hS0 : (fun u : World => u.cell? ⟨wb, 0, none⟩ = some (.pointer (some ⟨xb, 0, none⟩)) ∧ u.cell? ⟨ob, 1, none⟩ = some (.int .i64 A) ∧ u.cell? ⟨ob, 7, none⟩ = some (.string S)) p0.drew := ⟨bp, op, sp⟩
  refine upTo_tk (i := 0) (v := ?v56_0) rfl (by kernel_rfl) (fun _ _ _ h => h) (by rfl) hS0 ?h56_0 ?r56_0
  case h56_0 => (intro u hu; (try dsimp only at hu); go_simp; first | done | with_reducible rfl)
  (try simp only [Act.put, tkS])
  refine upTo_tk (i := 1) (v := ?v56_1) rfl (by kernel_rfl) (fun _ _ _ h => h) (by rfl) hS0 ?h56_1 ?r56_1
  case h56_1 => (intro u hu; (try dsimp only at hu); go_simp; first | done | with_reducible rfl)
  (try simp only [Act.put, tkS])
  refine upTo_tk (i := 2) (v := ?v56_2) rfl (by kernel_rfl) (fun _ _ _ h => h) (by rfl) hS0 ?h56_2 ?r56_2
  case h56_2 => (intro u hu; (try dsimp only at hu); go_simp; first | done | with_reducible rfl)
  (try simp only [Act.put, tkS])
  refine upTo_tk (i := 3) (v := ?v56_3) rfl (by kernel_rfl) (fun _ _ _ h => h) (by rfl) hS0 ?h56_3 ?r56_3
  case h56_3 => (intro u hu; (try dsimp only at hu); go_simp; first | done | with_reducible rfl)
  (try simp only [Act.put, tkS])
  refine upTo_tk (i := 4) (v := ?v56_4) rfl (by kernel_rfl) (fun _ _ _ h => h) (by rfl) hS0 ?h56_4 ?r56_4
  case h56_4 => (intro u hu; (try dsimp only at hu); go_simp; first | done | with_reducible rfl)
  (try simp only [Act.put, tkS])
  refine upTo_tk (i := 5) (v := ?v56_5) rfl (by kernel_rfl) (fun _ _ _ h => h) (by rfl) hS0 ?h56_5 ?r56_5
  case h56_5 => (intro u hu; (try dsimp only at hu); go_simp; first | done | with_reducible rfl)
  (try simp only [Act.put, tkS])
  refine upTo_tk (i := 6) (v := ?v56_6) rfl (by kernel_rfl) (fun _ _ _ h => h) (by rfl) hS0 ?h56_6 ?r56_6
  case h56_6 => (intro u hu; (try dsimp only at hu); go_simp; first | done | with_reducible rfl)
  (try simp only [Act.put, tkS])
  refine upTo_tk (i := 7) (v := ?v56_7) rfl (by kernel_rfl) (fun _ _ _ h => h) (by rfl) hS0 ?h56_7 ?r56_7
  case h56_7 => (intro u hu; (try dsimp only at hu); go_simp; first | done | with_reducible rfl)
  (try simp only [Act.put, tkS])
  clear hS0 bp op sp
  refine upTo_two (i := 8) (j := 12) (by kernel_rfl) rfl rfl (fun K hK => ?_) (fun K hK => ?_)
  · skip
    go_simp
    refine (hX _ (HIp0.out.inv.mx.drew)).mono ?_
    rintro e up ⟨f, z, X2, rfl, hrx, hev⟩
    have HE2 : Hid (EvoX p0 xb X up X2) := (EvoX.refl HIp0.out.inv.mx).drewE.trans hev
    have HRx : Hid (RX f z X2) := hrx
    clear hev hrx
    have HI2 : Hid (PInv w0 up wb xb rb X2 R a c l) := HIp0.out.evoX HE2.out
    have HO2 : Hid (Blk up ob 32 (opCells 6 A E S)) := HOp0.out.kept HE2.out.kept HNx.out.1
    have HS2 : Hid (∀ v : World, Below up.heap.size up v → (fun u : World => u.cell? ⟨wb, 0, none⟩ = some (.pointer (some ⟨xb, 0, none⟩)) ∧ u.cell? ⟨ob, 1, none⟩ = some (.int .i64 A) ∧ u.cell? ⟨ob, 7, none⟩ = some (.string S)) v) := fun v hv => ⟨(HI2.out.below hv).inv.blk.cell 0, (HO2.out.below hv HO2.out.lt).cell 1, (HO2.out.below hv HO2.out.lt).cell 7⟩
    refine hK.out _ _ (fun _ => HS2.out _ (Below.refl _ _)) ?_
    clear hK K
    (try simp only [Act.put, tkS])
    have hS0 : (fun u : World => u.cell? ⟨wb, 0, none⟩ = some (.pointer (some ⟨xb, 0, none⟩)) ∧ u.cell? ⟨ob, 1, none⟩ = some (.int .i64 A) ∧ u.cell? ⟨ob, 7, none⟩ = some (.string S)) up := HS2.out _ (Below.refl _ _)
    refine upTo_tk (i := 9) (v := ?v57_9) rfl (by kernel_rfl) (fun _ _ _ h => h) (by rfl) hS0 ?h57_9 ?r57_9
    case h57_9 => (intro u hu; (try dsimp only at hu); go_simp; first | done | with_reducible rfl)
    (try simp only [Act.put, tkS])
    refine upTo_tk (i := 10) (v := ?v57_10) rfl (by kernel_rfl) (fun _ _ _ h => h) (by rfl) hS0 ?h57_10 ?r57_10
    case h57_10 => (intro u hu; (try dsimp only at hu); go_simp; first | done | with_reducible rfl)
    (try simp only [Act.put, tkS])
    refine upTo_tk (i := 11) (v := ?v57_11) rfl (by kernel_rfl) (fun _ _ _ h => h) (by rfl) hS0 ?h57_11 ?r57_11
    case h57_11 => (intro u hu; (try dsimp only at hu); go_simp; first | done | with_reducible rfl)
    (try simp only [Act.put, tkS])
    clear hS0
    refine upTo_one (i := 12) (by kernel_rfl) rfl (fun K hK => ?_)
    go_simp
    refine hK.out _ _ (fun _ => HS2.out _ ((Below.refl _ _).alloc (Nat.le_refl _) _)) ?_
    clear hK K
    (try simp only [Act.put, tkS])
    refine upTo_one (i := 13) (by kernel_rfl) rfl (fun K hK => ?_)
    go_simp
    refine hK.out _ _ (fun _ => HS2.out _ ((Below.refl _ _).alloc (Nat.le_refl _) _)) ?_
    clear hK K
    (try simp only [Act.put, tkS])
    refine upTo_one (i := 14) (by kernel_rfl) rfl (fun K hK => ?_)
    go_simp
    refine hK.out _ _ (fun h => absurd rfl h) ?_
    clear hK K
    (try simp only [Act.put, tkS])
    refine upTo_done (by kernel_rfl) ?_
    obtain ⟨p, HV⟩ := hex (up.alloc (.cells f.vals.toArray 75))
    have hv : up.alloc (.cells #[.int .i64 (FedN.good f), .int .i64 (FedN.refused f), .int .i64 (FedN.bad f)] 75) = p := HV.out.symm
    rw [hv]
    obtain ⟨sbp, HSb⟩ := hex up.heap.size
    have HSp : Hid (Blk p sbp 75 f.vals) := by show Blk _ _ _ _; rw [HV.out, HSb.out]; exact blk_alloc _ _ _
    have HLp : Hid (Below up.heap.size up p) := by show Below _ _ _; rw [HV.out]; exact (Below.refl _ _).alloc (Nat.le_refl _) _
    rw [← HSb.out]
    have HIp : Hid (PInv w0 p wb xb rb X2 R a c l) := HI2.out.below HLp.out
    have HOp : Hid (Blk p ob 32 (opCells 6 A E S)) := HO2.out.below HLp.out HO2.out.lt
    have HFp : Hid (some sbp ∉ R.fp rb) := fun e => by have := HI2.out.inv.mr.fp_lt _ e; have := HSb.out; omega
    clear hv HV HSb HS2 HI2 HO2 HE2
    have hR := hR0 f z X2 HRx.out
    go_upto_region 24 with fail
    have bq := HIp.out.inv.blk.cell 1
    have oq := HOp.out.cell 1
    have sq := HOp.out.cell 7
    simp only [opCells, List.getElem?_cons_zero, List.getElem?_cons_succ] at bq oq sq
    refine upTo_region (fun u : World => u.cell? ⟨wb, 1, none⟩ = some (.pointer (some ⟨rb, 0, none⟩)) ∧ u.cell? ⟨ob, 1, none⟩ = some (.int .i64 A) ∧ u.cell? ⟨ob, 7, none⟩ = some (.string S)) 14 15 rfl (by kernel_rfl) ?_
    have hS0 : (fun u : World => u.cell? ⟨wb, 1, none⟩ = some (.pointer (some ⟨rb, 0, none⟩)) ∧ u.cell? ⟨ob, 1, none⟩ = some (.int .i64 A) ∧ u.cell? ⟨ob, 7, none⟩ = some (.string S)) p.drew := ⟨bq, oq, sq⟩
    refine upTo_tk (i := 0) (v := ?v58_0) rfl (by kernel_rfl) (fun _ _ _ h => h) (by rfl) hS0 ?h58_0 ?r58_0
    case h58_0 => (intro u hu; (try dsimp only at hu); go_simp; first | done | with_reducible rfl)
    (try simp only [Act.put, tkS])
    refine upTo_tk (i := 1) (v := ?v58_1) rfl (by kernel_rfl) (fun _ _ _ h => h) (by rfl) hS0 ?h58_1 ?r58_1
    case h58_1 => (intro u hu; (try dsimp only at hu); go_simp; first | done | with_reducible rfl)
    (try simp only [Act.put, tkS])
    refine upTo_tk (i := 2) (v := ?v58_2) rfl (by kernel_rfl) (fun _ _ _ h => h) (by rfl) hS0 ?h58_2 ?r58_2
    case h58_2 => (intro u hu; (try dsimp only at hu); go_simp; first | done | with_reducible rfl)
    (try simp only [Act.put, tkS])
    refine upTo_tk (i := 3) (v := ?v58_3) rfl (by kernel_rfl) (fun _ _ _ h => h) (by rfl) hS0 ?h58_3 ?r58_3
    case h58_3 => (intro u hu; (try dsimp only at hu); go_simp; first | done | with_reducible rfl)
    (try simp only [Act.put, tkS])
    refine upTo_tk (i := 4) (v := ?v58_4) rfl (by kernel_rfl) (fun _ _ _ h => h) (by rfl) hS0 ?h58_4 ?r58_4
    case h58_4 => (intro u hu; (try dsimp only at hu); go_simp; first | done | with_reducible rfl)
    (try simp only [Act.put, tkS])
    refine upTo_tk (i := 5) (v := ?v58_5) rfl (by kernel_rfl) (fun _ _ _ h => h) (by rfl) hS0 ?h58_5 ?r58_5
    case h58_5 => (intro u hu; (try dsimp only at hu); go_simp; first | done | with_reducible rfl)
    (try simp only [Act.put, tkS])
    refine upTo_tk (i := 6) (v := ?v58_6) rfl (by kernel_rfl) (fun _ _ _ h => h) (by rfl) hS0 ?h58_6 ?r58_6
    case h58_6 => (intro u hu; (try dsimp only at hu); go_simp; first | done | with_reducible rfl)
    (try simp only [Act.put, tkS])
    refine upTo_tk (i := 7) (v := ?v58_7) rfl (by kernel_rfl) (fun _ _ _ h => h) (by rfl) hS0 ?h58_7 ?r58_7
    case h58_7 => (intro u hu; (try dsimp only at hu); go_simp; first | done | with_reducible rfl)
    (try simp only [Act.put, tkS])
    clear hS0 bq oq sq
    refine upTo_two (i := 8) (j := 12) (by kernel_rfl) rfl rfl (fun K hK => ?_) (fun K hK => ?_)
    · skip
      go_simp
      refine (hR _ (HIp.out.inv.mr.drew)).mono ?_
      rintro e uq ⟨R2, rfl, hrr, hev⟩
      have HE2 : Hid (Evo p rb R uq R2) := (Evo.refl HIp.out.inv.mr).drewE.trans hev
      have HBo : Hid (Both (N + 5000) X2 R2) := hrr
      clear hev hrr
      have HI2 : Hid (PInv w0 uq wb xb rb X2 R2 a c l) := HIp.out.evoR HE2.out
      have HO2 : Hid (Blk uq ob 32 (opCells 6 A E S)) := HOp.out.kept HE2.out.kept HNx.out.2
      have HS2 : Hid (∀ v : World, Below uq.heap.size uq v → (fun u : World => u.cell? ⟨wb, 1, none⟩ = some (.pointer (some ⟨rb, 0, none⟩)) ∧ u.cell? ⟨ob, 1, none⟩ = some (.int .i64 A) ∧ u.cell? ⟨ob, 7, none⟩ = some (.string S)) v) := fun v hv => ⟨(HI2.out.below hv).inv.blk.cell 1, (HO2.out.below hv HO2.out.lt).cell 1, (HO2.out.below hv HO2.out.lt).cell 7⟩
      refine hK.out _ _ (fun _ => HS2.out _ (Below.refl _ _)) ?_
      clear hK K
      (try simp only [Act.put, tkS])
      have hS0 : (fun u : World => u.cell? ⟨wb, 1, none⟩ = some (.pointer (some ⟨rb, 0, none⟩)) ∧ u.cell? ⟨ob, 1, none⟩ = some (.int .i64 A) ∧ u.cell? ⟨ob, 7, none⟩ = some (.string S)) uq := HS2.out _ (Below.refl _ _)
      refine upTo_tk (i := 9) (v := ?v59_9) rfl (by kernel_rfl) (fun _ _ _ h => h) (by rfl) hS0 ?h59_9 ?r59_9
      case h59_9 => (intro u hu; (try dsimp only at hu); go_simp; first | done | with_reducible rfl)
      (try simp only [Act.put, tkS])
      refine upTo_tk (i := 10) (v := ?v59_10) rfl (by kernel_rfl) (fun _ _ _ h => h) (by rfl) hS0 ?h59_10 ?r59_10
      case h59_10 => (intro u hu; (try dsimp only at hu); go_simp; first | done | with_reducible rfl)
      (try simp only [Act.put, tkS])
      refine upTo_tk (i := 11) (v := ?v59_11) rfl (by kernel_rfl) (fun _ _ _ h => h) (by rfl) hS0 ?h59_11 ?r59_11
      case h59_11 => (intro u hu; (try dsimp only at hu); go_simp; first | done | with_reducible rfl)
      (try simp only [Act.put, tkS])
      clear hS0
      refine upTo_one (i := 12) (by kernel_rfl) rfl (fun K hK => ?_)
      go_simp
      refine hK.out _ _ (fun _ => HS2.out _ ((Below.refl _ _).alloc (Nat.le_refl _) _)) ?_
      clear hK K
      (try simp only [Act.put, tkS])
      refine upTo_one (i := 13) (by kernel_rfl) rfl (fun K hK => ?_)
      go_simp
      refine hK.out _ _ (fun _ => HS2.out _ ((Below.refl _ _).alloc (Nat.le_refl _) _)) ?_
      clear hK K
      (try simp only [Act.put, tkS])
      refine upTo_one (i := 14) (by kernel_rfl) rfl (fun K hK => ?_)
      go_simp
      refine hK.out _ _ (fun h => absurd rfl h) ?_
      clear hK K
      (try simp only [Act.put, tkS])
      refine upTo_done (by kernel_rfl) ?_
      obtain ⟨q, HV⟩ := hex (uq.alloc (.cells f.vals.toArray 75))
      have hv : uq.alloc (.cells #[.int .i64 (FedN.good f), .int .i64 (FedN.refused f), .int .i64 (FedN.bad f)] 75) = q := HV.out.symm
      rw [hv]
      obtain ⟨sbq, HSb⟩ := hex uq.heap.size
      have HSq : Hid (Blk q sbq 75 f.vals) := by show Blk _ _ _ _; rw [HV.out, HSb.out]; exact blk_alloc _ _ _
      have HLq : Hid (Below uq.heap.size uq q) := by show Below _ _ _; rw [HV.out]; exact (Below.refl _ _).alloc (Nat.le_refl _) _
      rw [← HSb.out]
      have HIq : Hid (PInv w0 q wb xb rb X2 R2 a c l) := HI2.out.below HLq.out
      have HOq : Hid (Blk q ob 32 (opCells 6 A E S)) := HO2.out.below HLq.out HO2.out.lt
      have HSpq : Hid (Blk q sbp 75 f.vals) := (HSp.out.kept HE2.out.kept HFp.out).below HLq.out (HSp.out.kept HE2.out.kept HFp.out).lt
      clear hv HV HSb HS2 HI2 HO2 HE2
      have x0 := HSpq.out.cell 0
      have x1 := HSpq.out.cell 1
      have x2 := HSpq.out.cell 2
      have y0 := HSq.out.cell 0
      have y1 := HSq.out.cell 1
      have y2 := HSq.out.cell 2
      simp only [FedN.vals, List.getElem?_cons_zero, List.getElem?_cons_succ] at x0 x1 x2 y0 y1 y2
      clear hX hR0 hR
      go_wp2_with (go_at_call 12; refine (num_any _ _).mono ?_; rintro e w' ⟨rfl, rfl⟩)
      go_ret
      exact ⟨rfl, X2, R2, HIq.out, HBo.out⟩
    · skip
      have HSx : Hid (∀ v : World, Below p.heap.size p v → (fun u : World => u.cell? ⟨wb, 1, none⟩ = some (.pointer (some ⟨rb, 0, none⟩)) ∧ u.cell? ⟨ob, 1, none⟩ = some (.int .i64 A) ∧ u.cell? ⟨ob, 7, none⟩ = some (.string S)) v) := fun v hv => ⟨(HIp.out.below hv).inv.blk.cell 1, (HOp.out.below hv HOp.out.lt).cell 1, (HOp.out.below hv HOp.out.lt).cell 7⟩
      go_simp
      refine hK.out _ _ (fun _ => HSx.out _ (((Below.refl _ p).alloc (Nat.le_refl _) _).drew)) ?_
      clear hK K
      (try simp only [Act.put, tkS])
      obtain ⟨zq, HZ⟩ := hex (p.drew.alloc (.cells z3f.toArray 75))
      have hz : p.drew.alloc (.cells #[.int .i64 0, .int .i64 0, .int .i64 0] 75) = zq := HZ.out.symm
      (try rw [hz])
      have hz' : (p.alloc (.cells #[.int .i64 0, .int .i64 0, .int .i64 0] 75)).drew = zq := HZ.out.symm
      (try rw [hz'])
      obtain ⟨sbq, HSb⟩ := hex p.heap.size
      have HBz : Hid (Below p.heap.size p zq) := by show Below _ _ _; rw [HZ.out]; exact (((Below.refl _ p).drew).alloc (Nat.le_refl _) _)
      have HZ5 : Hid (Blk zq sbq 75 z3f) := by show Blk _ _ _ _; rw [HZ.out, HSb.out]; exact blk_alloc _ _ _
      (try rw [← HSb.out])
      clear hz hz' HZ
      have HIz : Hid (PInv w0 zq wb xb rb X2 R a c l) := HIp.out.below HBz.out
      have HOz : Hid (Blk zq ob 32 (opCells 6 A E S)) := HOp.out.below HBz.out HOp.out.lt
      have HNz : Hid (some sbq ∉ X2.fp xb ∧ some sbq ∉ R.fp rb ∧ sbq ≠ wb ∧ sbq ≠ ob ∧ bk a ≠ some sbq ∧ some sbq ∉ zfp l ∧ w0.heap.size ≤ sbq ∧ sbq < zq.heap.size) := ⟨fun e => by have := HIp.out.inv.mx.fp_lt _ e; have := HSb.out; omega, fun e => by have := HIp.out.inv.mr.fp_lt _ e; have := HSb.out; omega, fun e => by have := HIp.out.inv.blk.lt; have := HSb.out; omega, fun e => by have := HOp.out.lt; have := HSb.out; omega, fun e => by have := HIp.out.inv.ls.le.row.lt e; have := HSb.out; omega, fun e => by have := HIp.out.inv.ls.zfp_lt _ e; have := HSb.out; omega, by have := HIp.out.bel.size; have := HSb.out; omega, HZ5.out.lt⟩
      refine upTo_one (i := 8) (by kernel_rfl) rfl (fun K hK => ?_)
      go_simp
      refine (hR _ HIz.out.inv.mr).mono ?_
      rintro e uq ⟨R2, rfl, hrr, hev⟩
      have HE2 : Hid (Evo zq rb R uq R2) := hev
      have HBo : Hid (Both (N + 5000) X2 R2) := hrr
      clear hev hrr
      have HI2 : Hid (PInv w0 uq wb xb rb X2 R2 a c l) := HIz.out.evoR HE2.out
      have HO2 : Hid (Blk uq ob 32 (opCells 6 A E S)) := HOz.out.kept HE2.out.kept HNx.out.2
      have HZ2 : Hid (Blk uq sbq 75 z3f) := HZ5.out.kept HE2.out.kept HNz.out.2.1
      refine hK.out _ _ (fun _ => ⟨HI2.out.inv.blk.cell 1, HO2.out.cell 1, HO2.out.cell 7⟩) ?_
      clear hK K
      (try simp only [Act.put, tkS])
      have hS0 : (fun u : World => u.cell? ⟨wb, 1, none⟩ = some (.pointer (some ⟨rb, 0, none⟩)) ∧ u.cell? ⟨ob, 1, none⟩ = some (.int .i64 A) ∧ u.cell? ⟨ob, 7, none⟩ = some (.string S)) uq := ⟨HI2.out.inv.blk.cell 1, HO2.out.cell 1, HO2.out.cell 7⟩
      refine upTo_tk (i := 9) (v := ?v60_9) rfl (by kernel_rfl) (fun _ _ _ h => h) (by rfl) hS0 ?h60_9 ?r60_9
      case h60_9 => (intro u hu; (try dsimp only at hu); go_simp; first | done | with_reducible rfl)
      (try simp only [Act.put, tkS])
      refine upTo_tk (i := 10) (v := ?v60_10) rfl (by kernel_rfl) (fun _ _ _ h => h) (by rfl) hS0 ?h60_10 ?r60_10
      case h60_10 => (intro u hu; (try dsimp only at hu); go_simp; first | done | with_reducible rfl)
      (try simp only [Act.put, tkS])
      refine upTo_tk (i := 11) (v := ?v60_11) rfl (by kernel_rfl) (fun _ _ _ h => h) (by rfl) hS0 ?h60_11 ?r60_11
      case h60_11 => (intro u hu; (try dsimp only at hu); go_simp; first | done | with_reducible rfl)
      (try simp only [Act.put, tkS])
      clear hS0
      have r0 := HZ2.out.cell 0
      have r1 := HZ2.out.cell 1
      have r2 := HZ2.out.cell 2
      have g0 := HZ2.out.frozen 0
      have g1 := HZ2.out.frozen 1
      have g2 := HZ2.out.frozen 2
      simp only [z3f, List.getElem?_cons_zero, List.getElem?_cons_succ] at r0 r1 r2
      obtain ⟨q, HV⟩ := hex (((uq.setCell ⟨sbq, 0, none⟩ (.int .i64 (FedN.good f))).setCell ⟨sbq, 1, none⟩ (.int .i64 (FedN.refused f))).setCell ⟨sbq, 2, none⟩ (.int .i64 (FedN.bad f)))
      have HKq : Hid (Kept (fun k => k = sbq) uq q) := by show Kept _ _ _; rw [HV.out]; exact (((Kept.refl (fun k => k = sbq) uq).setCell (fun _ => rfl) _).setCell (fun _ => rfl) _).setCell (fun _ => rfl) _
      have HIq : Hid (PInv w0 q wb xb rb X2 R2 a c l) := HI2.out.sideW HKq.out HNz.out.2.2.1 HNz.out.1 (fun e => (HE2.out.grow _ e).elim HNz.out.2.1 (fun f => absurd HNz.out.2.2.2.2.2.2.2 (Nat.not_lt.2 f))) HNz.out.2.2.2.2.1 HNz.out.2.2.2.2.2.1 HNz.out.2.2.2.2.2.2.1
      have HOq : Hid (Blk q ob 32 (opCells 6 A E S)) := HO2.out.kept HKq.out (fun e => HNz.out.2.2.2.1 e.symm)
      refine upTo_one (i := 13) (by kernel_rfl) rfl (fun K hK => ?_)
      go_simp
      refine hK.out _ _ (fun _ => by rw [← HV.out]; exact ⟨HIq.out.inv.blk.cell 1, HOq.out.cell 1, HOq.out.cell 7⟩) ?_
      clear hK K
      (try simp only [Act.put, tkS])
      refine upTo_one (i := 14) (by kernel_rfl) rfl (fun K hK => ?_)
      go_simp
      refine hK.out _ _ (fun h => absurd rfl h) ?_
      clear hK K
      (try simp only [Act.put, tkS])
      refine upTo_done (by kernel_rfl) ?_
      rw [← HV.out]
      have HSq : Hid (Blk q sbq 75 f.vals) := by
        show Blk _ _ _ _
        rw [HV.out]
        have := ((HZ2.out.set 0 (.int .i64 (FedN.good f))).set 1 (.int .i64 (FedN.refused f))).set 2 (.int .i64 (FedN.bad f))
        simpa [z3f, FedN.vals] using this
      have HSpq : Hid (Blk q sbp 75 f.vals) := ((HSp.out.below HBz.out HSp.out.lt).kept HE2.out.kept HFp.out).kept HKq.out (fun e => by have := HSp.out.lt; have := HSb.out; omega)
      clear HV HKq r0 r1 r2 g0 g1 g2 HZ2 HZ5 HBz HNz HSb HSx HI2 HO2 HE2 HIz HOz
      have x0 := HSpq.out.cell 0
      have x1 := HSpq.out.cell 1
      have x2 := HSpq.out.cell 2
      have y0 := HSq.out.cell 0
      have y1 := HSq.out.cell 1
      have y2 := HSq.out.cell 2
      simp only [FedN.vals, List.getElem?_cons_zero, List.getElem?_cons_succ] at x0 x1 x2 y0 y1 y2
      clear hX hR0 hR
      go_wp2_with (go_at_call 12; refine (num_any _ _).mono ?_; rintro e w' ⟨rfl, rfl⟩)
      go_ret
      exact ⟨rfl, X2, R2, HIq.out, HBo.out⟩
  · skip
    have HSx : Hid (∀ v : World, Below p0.heap.size p0 v → (fun u : World => u.cell? ⟨wb, 0, none⟩ = some (.pointer (some ⟨xb, 0, none⟩)) ∧ u.cell? ⟨ob, 1, none⟩ = some (.int .i64 A) ∧ u.cell? ⟨ob, 7, none⟩ = some (.string S)) v) := fun v hv => ⟨(HIp0.out.below hv).inv.blk.cell 0, (HOp0.out.below hv HOp0.out.lt).cell 1, (HOp0.out.below hv HOp0.out.lt).cell 7⟩
    go_simp
    refine hK.out _ _ (fun _ => HSx.out _ (((Below.refl _ p0).alloc (Nat.le_refl _) _).drew)) ?_
    clear hK K
    (try simp only [Act.put, tkS])
    obtain ⟨zp, HZ⟩ := hex (p0.drew.alloc (.cells z3f.toArray 75))
    have hz : p0.drew.alloc (.cells #[.int .i64 0, .int .i64 0, .int .i64 0] 75) = zp := HZ.out.symm
    (try rw [hz])
    have hz' : (p0.alloc (.cells #[.int .i64 0, .int .i64 0, .int .i64 0] 75)).drew = zp := HZ.out.symm
    (try rw [hz'])
    obtain ⟨sbp, HSb⟩ := hex p0.heap.size
    have HBz : Hid (Below p0.heap.size p0 zp) := by show Below _ _ _; rw [HZ.out]; exact (((Below.refl _ p0).drew).alloc (Nat.le_refl _) _)
    have HZ5 : Hid (Blk zp sbp 75 z3f) := by show Blk _ _ _ _; rw [HZ.out, HSb.out]; exact blk_alloc _ _ _
    (try rw [← HSb.out])
    clear hz hz' HZ
    have HIz : Hid (PInv w0 zp wb xb rb X R a c l) := HIp0.out.below HBz.out
    have HOz : Hid (Blk zp ob 32 (opCells 6 A E S)) := HOp0.out.below HBz.out HOp0.out.lt
    have HNz : Hid (some sbp ∉ X.fp xb ∧ some sbp ∉ R.fp rb ∧ sbp ≠ wb ∧ sbp ≠ ob ∧ bk a ≠ some sbp ∧ some sbp ∉ zfp l ∧ w0.heap.size ≤ sbp ∧ sbp < zp.heap.size) := ⟨fun e => by have := HIp0.out.inv.mx.fp_lt _ e; have := HSb.out; omega, fun e => by have := HIp0.out.inv.mr.fp_lt _ e; have := HSb.out; omega, fun e => by have := HIp0.out.inv.blk.lt; have := HSb.out; omega, fun e => by have := HOp0.out.lt; have := HSb.out; omega, fun e => by have := HIp0.out.inv.ls.le.row.lt e; have := HSb.out; omega, fun e => by have := HIp0.out.inv.ls.zfp_lt _ e; have := HSb.out; omega, by have := HIp0.out.bel.size; have := HSb.out; omega, HZ5.out.lt⟩
    refine upTo_one (i := 8) (by kernel_rfl) rfl (fun K hK => ?_)
    go_simp
    refine (hX _ HIz.out.inv.mx).mono ?_
    rintro e up ⟨f, z, X2, rfl, hrx, hev⟩
    have HE2 : Hid (EvoX zp xb X up X2) := hev
    have HRx : Hid (RX f z X2) := hrx
    clear hev hrx
    have HI2 : Hid (PInv w0 up wb xb rb X2 R a c l) := HIz.out.evoX HE2.out
    have HO2 : Hid (Blk up ob 32 (opCells 6 A E S)) := HOz.out.kept HE2.out.kept HNx.out.1
    have HZ2 : Hid (Blk up sbp 75 z3f) := HZ5.out.kept HE2.out.kept HNz.out.1
    refine hK.out _ _ (fun _ => ⟨HI2.out.inv.blk.cell 0, HO2.out.cell 1, HO2.out.cell 7⟩) ?_
    clear hK K
    (try simp only [Act.put, tkS])
    have hS0 : (fun u : World => u.cell? ⟨wb, 0, none⟩ = some (.pointer (some ⟨xb, 0, none⟩)) ∧ u.cell? ⟨ob, 1, none⟩ = some (.int .i64 A) ∧ u.cell? ⟨ob, 7, none⟩ = some (.string S)) up := ⟨HI2.out.inv.blk.cell 0, HO2.out.cell 1, HO2.out.cell 7⟩
    refine upTo_tk (i := 9) (v := ?v61_9) rfl (by kernel_rfl) (fun _ _ _ h => h) (by rfl) hS0 ?h61_9 ?r61_9
    case h61_9 => (intro u hu; (try dsimp only at hu); go_simp; first | done | with_reducible rfl)
    (try simp only [Act.put, tkS])
    refine upTo_tk (i := 10) (v := ?v61_10) rfl (by kernel_rfl) (fun _ _ _ h => h) (by rfl) hS0 ?h61_10 ?r61_10
    case h61_10 => (intro u hu; (try dsimp only at hu); go_simp; first | done | with_reducible rfl)
    (try simp only [Act.put, tkS])
    refine upTo_tk (i := 11) (v := ?v61_11) rfl (by kernel_rfl) (fun _ _ _ h => h) (by rfl) hS0 ?h61_11 ?r61_11
    case h61_11 => (intro u hu; (try dsimp only at hu); go_simp; first | done | with_reducible rfl)
    (try simp only [Act.put, tkS])
    clear hS0
    have r0 := HZ2.out.cell 0
    have r1 := HZ2.out.cell 1
    have r2 := HZ2.out.cell 2
    have g0 := HZ2.out.frozen 0
    have g1 := HZ2.out.frozen 1
    have g2 := HZ2.out.frozen 2
    simp only [z3f, List.getElem?_cons_zero, List.getElem?_cons_succ] at r0 r1 r2
    obtain ⟨p, HV⟩ := hex (((up.setCell ⟨sbp, 0, none⟩ (.int .i64 (FedN.good f))).setCell ⟨sbp, 1, none⟩ (.int .i64 (FedN.refused f))).setCell ⟨sbp, 2, none⟩ (.int .i64 (FedN.bad f)))
    have HKp : Hid (Kept (fun k => k = sbp) up p) := by show Kept _ _ _; rw [HV.out]; exact (((Kept.refl (fun k => k = sbp) up).setCell (fun _ => rfl) _).setCell (fun _ => rfl) _).setCell (fun _ => rfl) _
    have HIp : Hid (PInv w0 p wb xb rb X2 R a c l) := HI2.out.sideW HKp.out HNz.out.2.2.1 (fun e => (HE2.out.grow _ e).elim HNz.out.1 (fun f => absurd HNz.out.2.2.2.2.2.2.2 (Nat.not_lt.2 f))) HNz.out.2.1 HNz.out.2.2.2.2.1 HNz.out.2.2.2.2.2.1 HNz.out.2.2.2.2.2.2.1
    have HOp : Hid (Blk p ob 32 (opCells 6 A E S)) := HO2.out.kept HKp.out (fun e => HNz.out.2.2.2.1 e.symm)
    refine upTo_one (i := 13) (by kernel_rfl) rfl (fun K hK => ?_)
    go_simp
    refine hK.out _ _ (fun _ => by rw [← HV.out]; exact ⟨HIp.out.inv.blk.cell 0, HOp.out.cell 1, HOp.out.cell 7⟩) ?_
    clear hK K
    (try simp only [Act.put, tkS])
    refine upTo_one (i := 14) (by kernel_rfl) rfl (fun K hK => ?_)
    go_simp
    refine hK.out _ _ (fun h => absurd rfl h) ?_
    clear hK K
    (try simp only [Act.put, tkS])
    refine upTo_done (by kernel_rfl) ?_
    rw [← HV.out]
    have HSp : Hid (Blk p sbp 75 f.vals) := by
      show Blk _ _ _ _
      rw [HV.out]
      have := ((HZ2.out.set 0 (.int .i64 (FedN.good f))).set 1 (.int .i64 (FedN.refused f))).set 2 (.int .i64 (FedN.bad f))
      simpa [z3f, FedN.vals] using this
    have HFp : Hid (some sbp ∉ R.fp rb) := HNz.out.2.1
    clear HV HKp r0 r1 r2 g0 g1 g2 HZ2 HZ5 HBz HNz HSb HSx HI2 HO2 HE2 HIz HOz
    have hR := hR0 f z X2 HRx.out
    go_upto_region 24 with fail
    have bq := HIp.out.inv.blk.cell 1
    have oq := HOp.out.cell 1
    have sq := HOp.out.cell 7
    simp only [opCells, List.getElem?_cons_zero, List.getElem?_cons_succ] at bq oq sq
    refine upTo_region (fun u : World => u.cell? ⟨wb, 1, none⟩ = some (.pointer (some ⟨rb, 0, none⟩)) ∧ u.cell? ⟨ob, 1, none⟩ = some (.int .i64 A) ∧ u.cell? ⟨ob, 7, none⟩ = some (.string S)) 14 15 rfl (by kernel_rfl) ?_
    have hS0 : (fun u : World => u.cell? ⟨wb, 1, none⟩ = some (.pointer (some ⟨rb, 0, none⟩)) ∧ u.cell? ⟨ob, 1, none⟩ = some (.int .i64 A) ∧ u.cell? ⟨ob, 7, none⟩ = some (.string S)) p.drew := ⟨bq, oq, sq⟩
    refine upTo_tk (i := 0) (v := ?v62_0) rfl (by kernel_rfl) (fun _ _ _ h => h) (by rfl) hS0 ?h62_0 ?r62_0
    case h62_0 => (intro u hu; (try dsimp only at hu); go_simp; first | done | with_reducible rfl)
    (try simp only [Act.put, tkS])
    refine upTo_tk (i := 1) (v := ?v62_1) rfl (by kernel_rfl) (fun _ _ _ h => h) (by rfl) hS0 ?h62_1 ?r62_1
    case h62_1 => (intro u hu; (try dsimp only at hu); go_simp; first | done | with_reducible rfl)
    (try simp only [Act.put, tkS])
    refine upTo_tk (i := 2) (v := ?v62_2) rfl (by kernel_rfl) (fun _ _ _ h => h) (by rfl) hS0 ?h62_2 ?r62_2
    case h62_2 => (intro u hu; (try dsimp only at hu); go_simp; first | done | with_reducible rfl)
    (try simp only [Act.put, tkS])
    refine upTo_tk (i := 3) (v := ?v62_3) rfl (by kernel_rfl) (fun _ _ _ h => h) (by rfl) hS0 ?h62_3 ?r62_3
    case h62_3 => (intro u hu; (try dsimp only at hu); go_simp; first | done | with_reducible rfl)
    (try simp only [Act.put, tkS])
    refine upTo_tk (i := 4) (v := ?v62_4) rfl (by kernel_rfl) (fun _ _ _ h => h) (by rfl) hS0 ?h62_4 ?r62_4
    case h62_4 => (intro u hu; (try dsimp only at hu); go_simp; first | done | with_reducible rfl)
    (try simp only [Act.put, tkS])
    refine upTo_tk (i := 5) (v := ?v62_5) rfl (by kernel_rfl) (fun _ _ _ h => h) (by rfl) hS0 ?h62_5 ?r62_5
    case h62_5 => (intro u hu; (try dsimp only at hu); go_simp; first | done | with_reducible rfl)
    (try simp only [Act.put, tkS])
    refine upTo_tk (i := 6) (v := ?v62_6) rfl (by kernel_rfl) (fun _ _ _ h => h) (by rfl) hS0 ?h62_6 ?r62_6
    case h62_6 => (intro u hu; (try dsimp only at hu); go_simp; first | done | with_reducible rfl)
    (try simp only [Act.put, tkS])
    refine upTo_tk (i := 7) (v := ?v62_7) rfl (by kernel_rfl) (fun _ _ _ h => h) (by rfl) hS0 ?h62_7 ?r62_7
    case h62_7 => (intro u hu; (try dsimp only at hu); go_simp; first | done | with_reducible rfl)
    (try simp only [Act.put, tkS])
    clear hS0 bq oq sq
    refine upTo_two (i := 8) (j := 12) (by kernel_rfl) rfl rfl (fun K hK => ?_) (fun K hK => ?_)
    · skip
      go_simp
      refine (hR _ (HIp.out.inv.mr.drew)).mono ?_
      rintro e uq ⟨R2, rfl, hrr, hev⟩
      have HE2 : Hid (Evo p rb R uq R2) := (Evo.refl HIp.out.inv.mr).drewE.trans hev
      have HBo : Hid (Both (N + 5000) X2 R2) := hrr
      clear hev hrr
      have HI2 : Hid (PInv w0 uq wb xb rb X2 R2 a c l) := HIp.out.evoR HE2.out
      have HO2 : Hid (Blk uq ob 32 (opCells 6 A E S)) := HOp.out.kept HE2.out.kept HNx.out.2
      have HS2 : Hid (∀ v : World, Below uq.heap.size uq v → (fun u : World => u.cell? ⟨wb, 1, none⟩ = some (.pointer (some ⟨rb, 0, none⟩)) ∧ u.cell? ⟨ob, 1, none⟩ = some (.int .i64 A) ∧ u.cell? ⟨ob, 7, none⟩ = some (.string S)) v) := fun v hv => ⟨(HI2.out.below hv).inv.blk.cell 1, (HO2.out.below hv HO2.out.lt).cell 1, (HO2.out.below hv HO2.out.lt).cell 7⟩
      refine hK.out _ _ (fun _ => HS2.out _ (Below.refl _ _)) ?_
      clear hK K
      (try simp only [Act.put, tkS])
      have hS0 : (fun u : World => u.cell? ⟨wb, 1, none⟩ = some (.pointer (some ⟨rb, 0, none⟩)) ∧ u.cell? ⟨ob, 1, none⟩ = some (.int .i64 A) ∧ u.cell? ⟨ob, 7, none⟩ = some (.string S)) uq := HS2.out _ (Below.refl _ _)
      refine upTo_tk (i := 9) (v := ?v63_9) rfl (by kernel_rfl) (fun _ _ _ h => h) (by rfl) hS0 ?h63_9 ?r63_9
      case h63_9 => (intro u hu; (try dsimp only at hu); go_simp; first | done | with_reducible rfl)
      (try simp only [Act.put, tkS])
      refine upTo_tk (i := 10) (v := ?v63_10) rfl (by kernel_rfl) (fun _ _ _ h => h) (by rfl) hS0 ?h63_10 ?r63_10
      case h63_10 => (intro u hu; (try dsimp only at hu); go_simp; first | done | with_reducible rfl)
      (try simp only [Act.put, tkS])
      refine upTo_tk (i := 11) (v := ?v63_11) rfl (by kernel_rfl) (fun _ _ _ h => h) (by rfl) hS0 ?h63_11 ?r63_11
      case h63_11 => (intro u hu; (try dsimp only at hu); go_simp; first | done | with_reducible rfl)
      (try simp only [Act.put, tkS])
      clear hS0
      refine upTo_one (i := 12) (by kernel_rfl) rfl (fun K hK => ?_)
      go_simp
      refine hK.out _ _ (fun _ => HS2.out _ ((Below.refl _ _).alloc (Nat.le_refl _) _)) ?_
      clear hK K
      (try simp only [Act.put, tkS])
      refine upTo_one (i := 13) (by kernel_rfl) rfl (fun K hK => ?_)
      go_simp
      refine hK.out _ _ (fun _ => HS2.out _ ((Below.refl _ _).alloc (Nat.le_refl _) _)) ?_
      clear hK K
      (try simp only [Act.put, tkS])
      refine upTo_one (i := 14) (by kernel_rfl) rfl (fun K hK => ?_)
      go_simp
      refine hK.out _ _ (fun h => absurd rfl h) ?_
      clear hK K
      (try simp only [Act.put, tkS])
      refine upTo_done (by kernel_rfl) ?_
      obtain ⟨q, HV⟩ := hex (uq.alloc (.cells f.vals.toArray 75))
      have hv : uq.alloc (.cells #[.int .i64 (FedN.good f), .int .i64 (FedN.refused f), .int .i64 (FedN.bad f)] 75) = q := HV.out.symm
      rw [hv]
      obtain ⟨sbq, HSb⟩ := hex uq.heap.size
      have HSq : Hid (Blk q sbq 75 f.vals) := by show Blk _ _ _ _; rw [HV.out, HSb.out]; exact blk_alloc _ _ _
      have HLq : Hid (Below uq.heap.size uq q) := by show Below _ _ _; rw [HV.out]; exact (Below.refl _ _).alloc (Nat.le_refl _) _
      rw [← HSb.out]
      have HIq : Hid (PInv w0 q wb xb rb X2 R2 a c l) := HI2.out.below HLq.out
      have HOq : Hid (Blk q ob 32 (opCells 6 A E S)) := HO2.out.below HLq.out HO2.out.lt
      have HSpq : Hid (Blk q sbp 75 f.vals) := (HSp.out.kept HE2.out.kept HFp.out).below HLq.out (HSp.out.kept HE2.out.kept HFp.out).lt
      clear hv HV HSb HS2 HI2 HO2 HE2
      have x0 := HSpq.out.cell 0
      have x1 := HSpq.out.cell 1
      have x2 := HSpq.out.cell 2
      have y0 := HSq.out.cell 0
      have y1 := HSq.out.cell 1
      have y2 := HSq.out.cell 2
      simp only [FedN.vals, List.getElem?_cons_zero, List.getElem?_cons_succ] at x0 x1 x2 y0 y1 y2
      clear hX hR0 hR
      go_wp2_with (go_at_call 12; refine (num_any _ _).mono ?_; rintro e w' ⟨rfl, rfl⟩)
      go_ret
      exact ⟨rfl, X2, R2, HIq.out, HBo.out⟩
    · skip
      have HSx : Hid (∀ v : World, Below p.heap.size p v → (fun u : World => u.cell? ⟨wb, 1, none⟩ = some (.pointer (some ⟨rb, 0, none⟩)) ∧ u.cell? ⟨ob, 1, none⟩ = some (.int .i64 A) ∧ u.cell? ⟨ob, 7, none⟩ = some (.string S)) v) := fun v hv => ⟨(HIp.out.below hv).inv.blk.cell 1, (HOp.out.below hv HOp.out.lt).cell 1, (HOp.out.below hv HOp.out.lt).cell 7⟩
      go_simp
      refine hK.out _ _ (fun _ => HSx.out _ (((Below.refl _ p).alloc (Nat.le_refl _) _).drew)) ?_
      clear hK K
      (try simp only [Act.put, tkS])
      obtain ⟨zq, HZ⟩ := hex (p.drew.alloc (.cells z3f.toArray 75))
      have hz : p.drew.alloc (.cells #[.int .i64 0, .int .i64 0, .int .i64 0] 75) = zq := HZ.out.symm
      (try rw [hz])
      have hz' : (p.alloc (.cells #[.int .i64 0, .int .i64 0, .int .i64 0] 75)).drew = zq := HZ.out.symm
      (try rw [hz'])
      obtain ⟨sbq, HSb⟩ := hex p.heap.size
      have HBz : Hid (Below p.heap.size p zq) := by show Below _ _ _; rw [HZ.out]; exact (((Below.refl _ p).drew).alloc (Nat.le_refl _) _)
      have HZ5 : Hid (Blk zq sbq 75 z3f) := by show Blk _ _ _ _; rw [HZ.out, HSb.out]; exact blk_alloc _ _ _
      (try rw [← HSb.out])
      clear hz hz' HZ
      have HIz : Hid (PInv w0 zq wb xb rb X2 R a c l) := HIp.out.below HBz.out
      have HOz : Hid (Blk zq ob 32 (opCells 6 A E S)) := HOp.out.below HBz.out HOp.out.lt
      have HNz : Hid (some sbq ∉ X2.fp xb ∧ some sbq ∉ R.fp rb ∧ sbq ≠ wb ∧ sbq ≠ ob ∧ bk a ≠ some sbq ∧ some sbq ∉ zfp l ∧ w0.heap.size ≤ sbq ∧ sbq < zq.heap.size) := ⟨fun e => by have := HIp.out.inv.mx.fp_lt _ e; have := HSb.out; omega, fun e => by have := HIp.out.inv.mr.fp_lt _ e; have := HSb.out; omega, fun e => by have := HIp.out.inv.blk.lt; have := HSb.out; omega, fun e => by have := HOp.out.lt; have := HSb.out; omega, fun e => by have := HIp.out.inv.ls.le.row.lt e; have := HSb.out; omega, fun e => by have := HIp.out.inv.ls.zfp_lt _ e; have := HSb.out; omega, by have := HIp.out.bel.size; have := HSb.out; omega, HZ5.out.lt⟩
      refine upTo_one (i := 8) (by kernel_rfl) rfl (fun K hK => ?_)
      go_simp
      refine (hR _ HIz.out.inv.mr).mono ?_
      rintro e uq ⟨R2, rfl, hrr, hev⟩
      have HE2 : Hid (Evo zq rb R uq R2) := hev
      have HBo : Hid (Both (N + 5000) X2 R2) := hrr
      clear hev hrr
      have HI2 : Hid (PInv w0 uq wb xb rb X2 R2 a c l) := HIz.out.evoR HE2.out
      have HO2 : Hid (Blk uq ob 32 (opCells 6 A E S)) := HOz.out.kept HE2.out.kept HNx.out.2
      have HZ2 : Hid (Blk uq sbq 75 z3f) := HZ5.out.kept HE2.out.kept HNz.out.2.1
      refine hK.out _ _ (fun _ => ⟨HI2.out.inv.blk.cell 1, HO2.out.cell 1, HO2.out.cell 7⟩) ?_
      clear hK K
      (try simp only [Act.put, tkS])
      have hS0 : (fun u : World => u.cell? ⟨wb, 1, none⟩ = some (.pointer (some ⟨rb, 0, none⟩)) ∧ u.cell? ⟨ob, 1, none⟩ = some (.int .i64 A) ∧ u.cell? ⟨ob, 7, none⟩ = some (.string S)) uq := ⟨HI2.out.inv.blk.cell 1, HO2.out.cell 1, HO2.out.cell 7⟩
      refine upTo_tk (i := 9) (v := ?v64_9) rfl (by kernel_rfl) (fun _ _ _ h => h) (by rfl) hS0 ?h64_9 ?r64_9
      case h64_9 => (intro u hu; (try dsimp only at hu); go_simp; first | done | with_reducible rfl)
      (try simp only [Act.put, tkS])
      refine upTo_tk (i := 10) (v := ?v64_10) rfl (by kernel_rfl) (fun _ _ _ h => h) (by rfl) hS0 ?h64_10 ?r64_10
      case h64_10 => (intro u hu; (try dsimp only at hu); go_simp; first | done | with_reducible rfl)
      (try simp only [Act.put, tkS])
      refine upTo_tk (i := 11) (v := ?v64_11) rfl (by kernel_rfl) (fun _ _ _ h => h) (by rfl) hS0 ?h64_11 ?r64_11
      case h64_11 => (intro u hu; (try dsimp only at hu); go_simp; first | done | with_reducible rfl)
      (try simp only [Act.put, tkS])
      clear hS0
      have r0 := HZ2.out.cell 0
      have r1 := HZ2.out.cell 1
      have r2 := HZ2.out.cell 2
      have g0 := HZ2.out.frozen 0
      have g1 := HZ2.out.frozen 1
      have g2 := HZ2.out.frozen 2
      simp only [z3f, List.getElem?_cons_zero, List.getElem?_cons_succ] at r0 r1 r2
      obtain ⟨q, HV⟩ := hex (((uq.setCell ⟨sbq, 0, none⟩ (.int .i64 (FedN.good f))).setCell ⟨sbq, 1, none⟩ (.int .i64 (FedN.refused f))).setCell ⟨sbq, 2, none⟩ (.int .i64 (FedN.bad f)))
      have HKq : Hid (Kept (fun k => k = sbq) uq q) := by show Kept _ _ _; rw [HV.out]; exact (((Kept.refl (fun k => k = sbq) uq).setCell (fun _ => rfl) _).setCell (fun _ => rfl) _).setCell (fun _ => rfl) _
      have HIq : Hid (PInv w0 q wb xb rb X2 R2 a c l) := HI2.out.sideW HKq.out HNz.out.2.2.1 HNz.out.1 (fun e => (HE2.out.grow _ e).elim HNz.out.2.1 (fun f => absurd HNz.out.2.2.2.2.2.2.2 (Nat.not_lt.2 f))) HNz.out.2.2.2.2.1 HNz.out.2.2.2.2.2.1 HNz.out.2.2.2.2.2.2.1
      have HOq : Hid (Blk q ob 32 (opCells 6 A E S)) := HO2.out.kept HKq.out (fun e => HNz.out.2.2.2.1 e.symm)
      refine upTo_one (i := 13) (by kernel_rfl) rfl (fun K hK => ?_)
      go_simp
      refine hK.out _ _ (fun _ => by rw [← HV.out]; exact ⟨HIq.out.inv.blk.cell 1, HOq.out.cell 1, HOq.out.cell 7⟩) ?_
      clear hK K
      (try simp only [Act.put, tkS])
      refine upTo_one (i := 14) (by kernel_rfl) rfl (fun K hK => ?_)
      go_simp
      refine hK.out _ _ (fun h => absurd rfl h) ?_
      clear hK K
      (try simp only [Act.put, tkS])
      refine upTo_done (by kernel_rfl) ?_
      rw [← HV.out]
      have HSq : Hid (Blk q sbq 75 f.vals) := by
        show Blk _ _ _ _
        rw [HV.out]
        have := ((HZ2.out.set 0 (.int .i64 (FedN.good f))).set 1 (.int .i64 (FedN.refused f))).set 2 (.int .i64 (FedN.bad f))
        simpa [z3f, FedN.vals] using this
      have HSpq : Hid (Blk q sbp 75 f.vals) := ((HSp.out.below HBz.out HSp.out.lt).kept HE2.out.kept HFp.out).kept HKq.out (fun e => by have := HSp.out.lt; have := HSb.out; omega)
      clear HV HKq r0 r1 r2 g0 g1 g2 HZ2 HZ5 HBz HNz HSb HSx HI2 HO2 HE2 HIz HOz
      have x0 := HSpq.out.cell 0
      have x1 := HSpq.out.cell 1
      have x2 := HSpq.out.cell 2
      have y0 := HSq.out.cell 0
      have y1 := HSq.out.cell 1
      have y2 := HSq.out.cell 2
      simp only [FedN.vals, List.getElem?_cons_zero, List.getElem?_cons_succ] at x0 x1 x2 y0 y1 y2
      clear hX hR0 hR
      go_wp2_with (go_at_call 12; refine (num_any _ _).mono ?_; rintro e w' ⟨rfl, rfl⟩)
      go_ret
      exact ⟨rfl, X2, R2, HIq.out, HBo.out⟩
end Go.Proofs.YtghcololkgeoeabGreat
