import Derived.Test.YtghcololkgeoeabGreatPartD2
import Derived.Test.YtghcololkgeoeabGreatPartC4
import Derived.Test.YtghcololkgeoeabGreatPartA8
namespace Go.Proofs.YtghcololkgeoeabGreat
open Go.RowKit
set_option linter.unusedVariables false
set_option linter.unusedSimpArgs false
attribute [local go_sem ↓] Go.wp_at_zero Go.wp_at_succ

set_option maxRecDepth 100000 in
set_option maxHeartbeats 4000000 in
theorem does_join (N : Nat) (w0 w : World) (wb xb rb : Nat) (X : Eng) (R : Ref) (a : Option Addr) (c : Nat) (l : Lz) (A : Int) (E : Ev) (S : ByteArray) (h : PInv w0 w wb xb rb X R a c l) (hb : Both N X R) (hN : N ≤ 8000000000000) :
    Calls Tryz.prog 7 #[.pointer (some ⟨wb, 0, none⟩), opVal 1 A E S] w fun e w' => e = .returned (.bool true) ∧ ∃ X' R', PInv w0 w' wb xb rb X' R' a c l ∧ Both (N + 2) X' R' := by
  obtain ⟨z, RX, RR, hX, hR, hB⟩ := join_pair N xb rb X R A hb hN
  clear hb hN
  obtain ⟨p0, HW1⟩ := hex (w.alloc (.cells (opCells 1 A E S).toArray 32))
  have HBp0 : Hid (Below w.heap.size w p0) := by show Below _ _ _; rw [HW1.out]; exact (Below.refl _ _).alloc (Nat.le_refl _) _
  have HIp0 : Hid (PInv w0 p0 wb xb rb X R a c l) := h.below HBp0.out
  obtain ⟨ob, HOb⟩ := hex w.heap.size
  have HOp0 : Hid (Blk p0 ob 32 (opCells 1 A E S)) := by show Blk _ _ _ _; rw [HW1.out, HOb.out]; exact blk_alloc _ _ _
  have HNx : Hid (some ob ∉ X.fp xb ∧ some ob ∉ R.fp rb) := ⟨fun e => by have := h.inv.mx.fp_lt _ e; have := HOb.out; omega, fun e => by have := h.inv.mr.fp_lt _ e; have := HOb.out; omega⟩
  have hw1 : w.alloc (.cells #[.int .i64 1, .int .i64 A, .int .i64 E.src, .int .i64 E.seq, .int .i64 E.ts, .int .i64 E.kind, .int .i64 E.val, .string S] 32) = p0 := HW1.out.symm
  unfold opVal
  go_enter Tryz.func7, Tryz.ntmps7
  go_upto_region 1 with fail
  rw [← HOb.out]
  clear hw1 HW1 h
  have o0 := HOp0.out.cell 0
  simp only [opCells, List.getElem?_cons_zero, List.getElem?_cons_succ] at o0
  go_upto_region 3 with fail
  refine upTo_region (fun u : World => u.cell? ⟨wb, 0, none⟩ = some (.pointer (some ⟨xb, 0, none⟩)) ∧ u.cell? ⟨ob, 1, none⟩ = some (.int .i64 A)) 7 8 rfl (by kernel_rfl) ?_
  have hS0 : (fun u : World => u.cell? ⟨wb, 0, none⟩ = some (.pointer (some ⟨xb, 0, none⟩)) ∧ u.cell? ⟨ob, 1, none⟩ = some (.int .i64 A)) p0.drew := ⟨HIp0.out.inv.blk.cell 0, HOp0.out.cell 1⟩
  refine upTo_tk (i := 0) (v := ?v41_0) rfl (by kernel_rfl) (fun _ _ _ h => h) (by rfl) hS0 ?h41_0 ?r41_0
  case h41_0 => (intro u hu; (try dsimp only at hu); go_simp; first | done | with_reducible rfl)
  (try simp only [Act.put, tkS])
  refine upTo_tk (i := 1) (v := ?v41_1) rfl (by kernel_rfl) (fun _ _ _ h => h) (by rfl) hS0 ?h41_1 ?r41_1
  case h41_1 => (intro u hu; (try dsimp only at hu); go_simp; first | done | with_reducible rfl)
  (try simp only [Act.put, tkS])
  refine upTo_tk (i := 2) (v := ?v41_2) rfl (by kernel_rfl) (fun _ _ _ h => h) (by rfl) hS0 ?h41_2 ?r41_2
  case h41_2 => (intro u hu; (try dsimp only at hu); go_simp; first | done | with_reducible rfl)
  (try simp only [Act.put, tkS])
  refine upTo_tk (i := 3) (v := ?v41_3) rfl (by kernel_rfl) (fun _ _ _ h => h) (by rfl) hS0 ?h41_3 ?r41_3
  case h41_3 => (intro u hu; (try dsimp only at hu); go_simp; first | done | with_reducible rfl)
  (try simp only [Act.put, tkS])
  refine upTo_tk (i := 4) (v := ?v41_4) rfl (by kernel_rfl) (fun _ _ _ h => h) (by rfl) hS0 ?h41_4 ?r41_4
  case h41_4 => (intro u hu; (try dsimp only at hu); go_simp; first | done | with_reducible rfl)
  (try simp only [Act.put, tkS])
  refine upTo_tk (i := 5) (v := ?v41_5) rfl (by kernel_rfl) (fun _ _ _ h => h) (by rfl) hS0 ?h41_5 ?r41_5
  case h41_5 => (intro u hu; (try dsimp only at hu); go_simp; first | done | with_reducible rfl)
  (try simp only [Act.put, tkS])
  clear hS0
  refine upTo_one (i := 6) (by kernel_rfl) rfl (fun K hK => ?_)
  go_simp
  refine (hX _ HIp0.out.inv.mx.drew).mono ?_
  rintro e p1 ⟨rfl, X2, hrx, hev⟩
  have HEp1 : Hid (EvoX p0 xb X p1 X2) := (EvoX.refl HIp0.out.inv.mx).drewE.trans hev
  have HRp1 : Hid (RX X2) := hrx
  clear hev hrx
  have HIp1 : Hid (PInv w0 p1 wb xb rb X2 R a c l) := HIp0.out.evoX HEp1.out
  have HOp1 : Hid (Blk p1 ob 32 (opCells 1 A E S)) := HOp0.out.kept HEp1.out.kept HNx.out.1
  have hq := HIp1.out
  have ho := HOp1.out
  refine hK.out _ _ (fun _ => ⟨hq.inv.blk.cell 0, ho.cell 1⟩) ?_
  clear hK K hq ho
  (try simp only [Act.put, tkS])
  refine upTo_one (i := 7) (by kernel_rfl) rfl (fun K hK => ?_)
  go_simp
  refine hK.out _ _ (fun h => absurd rfl h) ?_
  clear hK K
  (try simp only [Act.put, tkS])
  refine upTo_done (by kernel_rfl) ?_
  go_upto_region 4 with fail
  refine upTo_region (fun u : World => u.cell? ⟨wb, 1, none⟩ = some (.pointer (some ⟨rb, 0, none⟩)) ∧ u.cell? ⟨ob, 1, none⟩ = some (.int .i64 A)) 7 8 rfl (by kernel_rfl) ?_
  have hS0 : (fun u : World => u.cell? ⟨wb, 1, none⟩ = some (.pointer (some ⟨rb, 0, none⟩)) ∧ u.cell? ⟨ob, 1, none⟩ = some (.int .i64 A)) p1.drew := ⟨HIp1.out.inv.blk.cell 1, HOp1.out.cell 1⟩
  refine upTo_tk (i := 0) (v := ?v42_0) rfl (by kernel_rfl) (fun _ _ _ h => h) (by rfl) hS0 ?h42_0 ?r42_0
  case h42_0 => (intro u hu; (try dsimp only at hu); go_simp; first | done | with_reducible rfl)
  (try simp only [Act.put, tkS])
  refine upTo_tk (i := 1) (v := ?v42_1) rfl (by kernel_rfl) (fun _ _ _ h => h) (by rfl) hS0 ?h42_1 ?r42_1
  case h42_1 => (intro u hu; (try dsimp only at hu); go_simp; first | done | with_reducible rfl)
  (try simp only [Act.put, tkS])
  refine upTo_tk (i := 2) (v := ?v42_2) rfl (by kernel_rfl) (fun _ _ _ h => h) (by rfl) hS0 ?h42_2 ?r42_2
  case h42_2 => (intro u hu; (try dsimp only at hu); go_simp; first | done | with_reducible rfl)
  (try simp only [Act.put, tkS])
  refine upTo_tk (i := 3) (v := ?v42_3) rfl (by kernel_rfl) (fun _ _ _ h => h) (by rfl) hS0 ?h42_3 ?r42_3
  case h42_3 => (intro u hu; (try dsimp only at hu); go_simp; first | done | with_reducible rfl)
  (try simp only [Act.put, tkS])
  refine upTo_tk (i := 4) (v := ?v42_4) rfl (by kernel_rfl) (fun _ _ _ h => h) (by rfl) hS0 ?h42_4 ?r42_4
  case h42_4 => (intro u hu; (try dsimp only at hu); go_simp; first | done | with_reducible rfl)
  (try simp only [Act.put, tkS])
  refine upTo_tk (i := 5) (v := ?v42_5) rfl (by kernel_rfl) (fun _ _ _ h => h) (by rfl) hS0 ?h42_5 ?r42_5
  case h42_5 => (intro u hu; (try dsimp only at hu); go_simp; first | done | with_reducible rfl)
  (try simp only [Act.put, tkS])
  clear hS0
  refine upTo_one (i := 6) (by kernel_rfl) rfl (fun K hK => ?_)
  go_simp
  refine (hR _ HIp1.out.inv.mr.drew).mono ?_
  rintro e p2 ⟨rfl, R2, hrr, hev⟩
  have HEp2 : Hid (Evo p1 rb R p2 R2) := (Evo.refl HIp1.out.inv.mr).drewE.trans hev
  have HRp2 : Hid (RR R2) := hrr
  clear hev hrr
  have HIp2 : Hid (PInv w0 p2 wb xb rb X2 R2 a c l) := HIp1.out.evoR HEp2.out
  have HOp2 : Hid (Blk p2 ob 32 (opCells 1 A E S)) := HOp1.out.kept HEp2.out.kept HNx.out.2
  have hq := HIp2.out
  have ho := HOp2.out
  refine hK.out _ _ (fun _ => ⟨hq.inv.blk.cell 1, ho.cell 1⟩) ?_
  clear hK K hq ho
  (try simp only [Act.put, tkS])
  refine upTo_one (i := 7) (by kernel_rfl) rfl (fun K hK => ?_)
  go_simp
  refine hK.out _ _ (fun h => absurd rfl h) ?_
  clear hK K
  (try simp only [Act.put, tkS])
  refine upTo_done (by kernel_rfl) ?_
  have hBo := hB _ _ HRp1.out HRp2.out
  clear hX hR hB
  go_wp2_with (go_at_call 12; refine (num_any _ _).mono ?_; rintro e w' ⟨rfl, rfl⟩)
  go_ret
  exact ⟨rfl, X2, R2, HIp2.out, hBo⟩
set_option maxRecDepth 100000 in
set_option maxHeartbeats 4000000 in
theorem does_leave (N : Nat) (w0 w : World) (wb xb rb : Nat) (X : Eng) (R : Ref) (a : Option Addr) (c : Nat) (l : Lz) (A : Int) (E : Ev) (S : ByteArray) (h : PInv w0 w wb xb rb X R a c l) (hb : Both N X R) (hN : N ≤ 8000000000000) :
    Calls Tryz.prog 7 #[.pointer (some ⟨wb, 0, none⟩), opVal 2 A E S] w fun e w' => e = .returned (.bool true) ∧ ∃ X' R', PInv w0 w' wb xb rb X' R' a c l ∧ Both (N + 2) X' R' := by
  obtain ⟨z, RX, RR, hX, hR, hB⟩ := leave_pair N xb rb X R A hb hN
  clear hb hN
  obtain ⟨p0, HW1⟩ := hex (w.alloc (.cells (opCells 2 A E S).toArray 32))
  have HBp0 : Hid (Below w.heap.size w p0) := by show Below _ _ _; rw [HW1.out]; exact (Below.refl _ _).alloc (Nat.le_refl _) _
  have HIp0 : Hid (PInv w0 p0 wb xb rb X R a c l) := h.below HBp0.out
  obtain ⟨ob, HOb⟩ := hex w.heap.size
  have HOp0 : Hid (Blk p0 ob 32 (opCells 2 A E S)) := by show Blk _ _ _ _; rw [HW1.out, HOb.out]; exact blk_alloc _ _ _
  have HNx : Hid (some ob ∉ X.fp xb ∧ some ob ∉ R.fp rb) := ⟨fun e => by have := h.inv.mx.fp_lt _ e; have := HOb.out; omega, fun e => by have := h.inv.mr.fp_lt _ e; have := HOb.out; omega⟩
  have hw1 : w.alloc (.cells #[.int .i64 2, .int .i64 A, .int .i64 E.src, .int .i64 E.seq, .int .i64 E.ts, .int .i64 E.kind, .int .i64 E.val, .string S] 32) = p0 := HW1.out.symm
  unfold opVal
  go_enter Tryz.func7, Tryz.ntmps7
  go_upto_region 1 with fail
  rw [← HOb.out]
  clear hw1 HW1 h
  have o0 := HOp0.out.cell 0
  simp only [opCells, List.getElem?_cons_zero, List.getElem?_cons_succ] at o0
  go_upto_region 7 with fail
  refine upTo_region (fun u : World => u.cell? ⟨wb, 0, none⟩ = some (.pointer (some ⟨xb, 0, none⟩)) ∧ u.cell? ⟨ob, 1, none⟩ = some (.int .i64 A)) 7 8 rfl (by kernel_rfl) ?_
  have hS0 : (fun u : World => u.cell? ⟨wb, 0, none⟩ = some (.pointer (some ⟨xb, 0, none⟩)) ∧ u.cell? ⟨ob, 1, none⟩ = some (.int .i64 A)) p0.drew := ⟨HIp0.out.inv.blk.cell 0, HOp0.out.cell 1⟩
  refine upTo_tk (i := 0) (v := ?v43_0) rfl (by kernel_rfl) (fun _ _ _ h => h) (by rfl) hS0 ?h43_0 ?r43_0
  case h43_0 => (intro u hu; (try dsimp only at hu); go_simp; first | done | with_reducible rfl)
  (try simp only [Act.put, tkS])
  refine upTo_tk (i := 1) (v := ?v43_1) rfl (by kernel_rfl) (fun _ _ _ h => h) (by rfl) hS0 ?h43_1 ?r43_1
  case h43_1 => (intro u hu; (try dsimp only at hu); go_simp; first | done | with_reducible rfl)
  (try simp only [Act.put, tkS])
  refine upTo_tk (i := 2) (v := ?v43_2) rfl (by kernel_rfl) (fun _ _ _ h => h) (by rfl) hS0 ?h43_2 ?r43_2
  case h43_2 => (intro u hu; (try dsimp only at hu); go_simp; first | done | with_reducible rfl)
  (try simp only [Act.put, tkS])
  refine upTo_tk (i := 3) (v := ?v43_3) rfl (by kernel_rfl) (fun _ _ _ h => h) (by rfl) hS0 ?h43_3 ?r43_3
  case h43_3 => (intro u hu; (try dsimp only at hu); go_simp; first | done | with_reducible rfl)
  (try simp only [Act.put, tkS])
  refine upTo_tk (i := 4) (v := ?v43_4) rfl (by kernel_rfl) (fun _ _ _ h => h) (by rfl) hS0 ?h43_4 ?r43_4
  case h43_4 => (intro u hu; (try dsimp only at hu); go_simp; first | done | with_reducible rfl)
  (try simp only [Act.put, tkS])
  refine upTo_tk (i := 5) (v := ?v43_5) rfl (by kernel_rfl) (fun _ _ _ h => h) (by rfl) hS0 ?h43_5 ?r43_5
  case h43_5 => (intro u hu; (try dsimp only at hu); go_simp; first | done | with_reducible rfl)
  (try simp only [Act.put, tkS])
  clear hS0
  refine upTo_one (i := 6) (by kernel_rfl) rfl (fun K hK => ?_)
  go_simp
  refine (hX _ HIp0.out.inv.mx.drew).mono ?_
  rintro e p1 ⟨rfl, X2, hrx, hev⟩
  have HEp1 : Hid (EvoX p0 xb X p1 X2) := (EvoX.refl HIp0.out.inv.mx).drewE.trans hev
  have HRp1 : Hid (RX X2) := hrx
  clear hev hrx
  have HIp1 : Hid (PInv w0 p1 wb xb rb X2 R a c l) := HIp0.out.evoX HEp1.out
  have HOp1 : Hid (Blk p1 ob 32 (opCells 2 A E S)) := HOp0.out.kept HEp1.out.kept HNx.out.1
  have hq := HIp1.out
  have ho := HOp1.out
  refine hK.out _ _ (fun _ => ⟨hq.inv.blk.cell 0, ho.cell 1⟩) ?_
  clear hK K hq ho
  (try simp only [Act.put, tkS])
  refine upTo_one (i := 7) (by kernel_rfl) rfl (fun K hK => ?_)
  go_simp
  refine hK.out _ _ (fun h => absurd rfl h) ?_
  clear hK K
  (try simp only [Act.put, tkS])
  refine upTo_done (by kernel_rfl) ?_
  go_upto_region 8 with fail
  refine upTo_region (fun u : World => u.cell? ⟨wb, 1, none⟩ = some (.pointer (some ⟨rb, 0, none⟩)) ∧ u.cell? ⟨ob, 1, none⟩ = some (.int .i64 A)) 7 8 rfl (by kernel_rfl) ?_
  have hS0 : (fun u : World => u.cell? ⟨wb, 1, none⟩ = some (.pointer (some ⟨rb, 0, none⟩)) ∧ u.cell? ⟨ob, 1, none⟩ = some (.int .i64 A)) p1.drew := ⟨HIp1.out.inv.blk.cell 1, HOp1.out.cell 1⟩
  refine upTo_tk (i := 0) (v := ?v44_0) rfl (by kernel_rfl) (fun _ _ _ h => h) (by rfl) hS0 ?h44_0 ?r44_0
  case h44_0 => (intro u hu; (try dsimp only at hu); go_simp; first | done | with_reducible rfl)
  (try simp only [Act.put, tkS])
  refine upTo_tk (i := 1) (v := ?v44_1) rfl (by kernel_rfl) (fun _ _ _ h => h) (by rfl) hS0 ?h44_1 ?r44_1
  case h44_1 => (intro u hu; (try dsimp only at hu); go_simp; first | done | with_reducible rfl)
  (try simp only [Act.put, tkS])
  refine upTo_tk (i := 2) (v := ?v44_2) rfl (by kernel_rfl) (fun _ _ _ h => h) (by rfl) hS0 ?h44_2 ?r44_2
  case h44_2 => (intro u hu; (try dsimp only at hu); go_simp; first | done | with_reducible rfl)
  (try simp only [Act.put, tkS])
  refine upTo_tk (i := 3) (v := ?v44_3) rfl (by kernel_rfl) (fun _ _ _ h => h) (by rfl) hS0 ?h44_3 ?r44_3
  case h44_3 => (intro u hu; (try dsimp only at hu); go_simp; first | done | with_reducible rfl)
  (try simp only [Act.put, tkS])
  refine upTo_tk (i := 4) (v := ?v44_4) rfl (by kernel_rfl) (fun _ _ _ h => h) (by rfl) hS0 ?h44_4 ?r44_4
  case h44_4 => (intro u hu; (try dsimp only at hu); go_simp; first | done | with_reducible rfl)
  (try simp only [Act.put, tkS])
  refine upTo_tk (i := 5) (v := ?v44_5) rfl (by kernel_rfl) (fun _ _ _ h => h) (by rfl) hS0 ?h44_5 ?r44_5
  case h44_5 => (intro u hu; (try dsimp only at hu); go_simp; first | done | with_reducible rfl)
  (try simp only [Act.put, tkS])
  clear hS0
  refine upTo_one (i := 6) (by kernel_rfl) rfl (fun K hK => ?_)
  go_simp
  refine (hR _ HIp1.out.inv.mr.drew).mono ?_
  rintro e p2 ⟨rfl, R2, hrr, hev⟩
  have HEp2 : Hid (Evo p1 rb R p2 R2) := (Evo.refl HIp1.out.inv.mr).drewE.trans hev
  have HRp2 : Hid (RR R2) := hrr
  clear hev hrr
  have HIp2 : Hid (PInv w0 p2 wb xb rb X2 R2 a c l) := HIp1.out.evoR HEp2.out
  have HOp2 : Hid (Blk p2 ob 32 (opCells 2 A E S)) := HOp1.out.kept HEp2.out.kept HNx.out.2
  have hq := HIp2.out
  have ho := HOp2.out
  refine hK.out _ _ (fun _ => ⟨hq.inv.blk.cell 1, ho.cell 1⟩) ?_
  clear hK K hq ho
  (try simp only [Act.put, tkS])
  refine upTo_one (i := 7) (by kernel_rfl) rfl (fun K hK => ?_)
  go_simp
  refine hK.out _ _ (fun h => absurd rfl h) ?_
  clear hK K
  (try simp only [Act.put, tkS])
  refine upTo_done (by kernel_rfl) ?_
  have hBo := hB _ _ HRp1.out HRp2.out
  clear hX hR hB
  go_wp2_with (go_at_call 12; refine (num_any _ _).mono ?_; rintro e w' ⟨rfl, rfl⟩)
  go_ret
  exact ⟨rfl, X2, R2, HIp2.out, hBo⟩
set_option maxRecDepth 100000 in
set_option maxHeartbeats 4000000 in
theorem does_punct (N : Nat) (w0 w : World) (wb xb rb : Nat) (X : Eng) (R : Ref) (a : Option Addr) (c : Nat) (l : Lz) (A : Int) (E : Ev) (S : ByteArray) (h : PInv w0 w wb xb rb X R a c l) (hb : Both N X R) (hN : N ≤ 8000000000000) :
    Calls Tryz.prog 7 #[.pointer (some ⟨wb, 0, none⟩), opVal 4 A E S] w fun e w' => e = .returned (.bool true) ∧ ∃ X' R', PInv w0 w' wb xb rb X' R' a c l ∧ Both (N + 2) X' R' := by
  obtain ⟨z, RX, RR, hX, hR, hB⟩ := punct_pair N xb rb X R A E.ts hb hN
  clear hb hN
  obtain ⟨p0, HW1⟩ := hex (w.alloc (.cells (opCells 4 A E S).toArray 32))
  have HBp0 : Hid (Below w.heap.size w p0) := by show Below _ _ _; rw [HW1.out]; exact (Below.refl _ _).alloc (Nat.le_refl _) _
  have HIp0 : Hid (PInv w0 p0 wb xb rb X R a c l) := h.below HBp0.out
  obtain ⟨ob, HOb⟩ := hex w.heap.size
  have HOp0 : Hid (Blk p0 ob 32 (opCells 4 A E S)) := by show Blk _ _ _ _; rw [HW1.out, HOb.out]; exact blk_alloc _ _ _
  have HNx : Hid (some ob ∉ X.fp xb ∧ some ob ∉ R.fp rb) := ⟨fun e => by have := h.inv.mx.fp_lt _ e; have := HOb.out; omega, fun e => by have := h.inv.mr.fp_lt _ e; have := HOb.out; omega⟩
  have hw1 : w.alloc (.cells #[.int .i64 4, .int .i64 A, .int .i64 E.src, .int .i64 E.seq, .int .i64 E.ts, .int .i64 E.kind, .int .i64 E.val, .string S] 32) = p0 := HW1.out.symm
  unfold opVal
  go_enter Tryz.func7, Tryz.ntmps7
  go_upto_region 1 with fail
  rw [← HOb.out]
  clear hw1 HW1 h
  have o0 := HOp0.out.cell 0
  simp only [opCells, List.getElem?_cons_zero, List.getElem?_cons_succ] at o0
  go_upto_region 15 with fail
  refine upTo_region (fun u : World => u.cell? ⟨wb, 0, none⟩ = some (.pointer (some ⟨xb, 0, none⟩)) ∧ u.cell? ⟨ob, 1, none⟩ = some (.int .i64 A) ∧ u.cell? ⟨ob, 4, none⟩ = some (.int .i64 E.ts)) 10 11 rfl (by kernel_rfl) ?_
  have hS0 : (fun u : World => u.cell? ⟨wb, 0, none⟩ = some (.pointer (some ⟨xb, 0, none⟩)) ∧ u.cell? ⟨ob, 1, none⟩ = some (.int .i64 A) ∧ u.cell? ⟨ob, 4, none⟩ = some (.int .i64 E.ts)) p0.drew := ⟨HIp0.out.inv.blk.cell 0, HOp0.out.cell 1, HOp0.out.cell 4⟩
  refine upTo_tk (i := 0) (v := ?v45_0) rfl (by kernel_rfl) (fun _ _ _ h => h) (by rfl) hS0 ?h45_0 ?r45_0
  case h45_0 => (intro u hu; (try dsimp only at hu); go_simp; first | done | with_reducible rfl)
  (try simp only [Act.put, tkS])
  refine upTo_tk (i := 1) (v := ?v45_1) rfl (by kernel_rfl) (fun _ _ _ h => h) (by rfl) hS0 ?h45_1 ?r45_1
  case h45_1 => (intro u hu; (try dsimp only at hu); go_simp; first | done | with_reducible rfl)
  (try simp only [Act.put, tkS])
  refine upTo_tk (i := 2) (v := ?v45_2) rfl (by kernel_rfl) (fun _ _ _ h => h) (by rfl) hS0 ?h45_2 ?r45_2
  case h45_2 => (intro u hu; (try dsimp only at hu); go_simp; first | done | with_reducible rfl)
  (try simp only [Act.put, tkS])
  refine upTo_tk (i := 3) (v := ?v45_3) rfl (by kernel_rfl) (fun _ _ _ h => h) (by rfl) hS0 ?h45_3 ?r45_3
  case h45_3 => (intro u hu; (try dsimp only at hu); go_simp; first | done | with_reducible rfl)
  (try simp only [Act.put, tkS])
  refine upTo_tk (i := 4) (v := ?v45_4) rfl (by kernel_rfl) (fun _ _ _ h => h) (by rfl) hS0 ?h45_4 ?r45_4
  case h45_4 => (intro u hu; (try dsimp only at hu); go_simp; first | done | with_reducible rfl)
  (try simp only [Act.put, tkS])
  refine upTo_tk (i := 5) (v := ?v45_5) rfl (by kernel_rfl) (fun _ _ _ h => h) (by rfl) hS0 ?h45_5 ?r45_5
  case h45_5 => (intro u hu; (try dsimp only at hu); go_simp; first | done | with_reducible rfl)
  (try simp only [Act.put, tkS])
  refine upTo_tk (i := 6) (v := ?v45_6) rfl (by kernel_rfl) (fun _ _ _ h => h) (by rfl) hS0 ?h45_6 ?r45_6
  case h45_6 => (intro u hu; (try dsimp only at hu); go_simp; first | done | with_reducible rfl)
  (try simp only [Act.put, tkS])
  refine upTo_tk (i := 7) (v := ?v45_7) rfl (by kernel_rfl) (fun _ _ _ h => h) (by rfl) hS0 ?h45_7 ?r45_7
  case h45_7 => (intro u hu; (try dsimp only at hu); go_simp; first | done | with_reducible rfl)
  (try simp only [Act.put, tkS])
  refine upTo_tk (i := 8) (v := ?v45_8) rfl (by kernel_rfl) (fun _ _ _ h => h) (by rfl) hS0 ?h45_8 ?r45_8
  case h45_8 => (intro u hu; (try dsimp only at hu); go_simp; first | done | with_reducible rfl)
  (try simp only [Act.put, tkS])
  clear hS0
  refine upTo_one (i := 9) (by kernel_rfl) rfl (fun K hK => ?_)
  go_simp
  refine (hX _ HIp0.out.inv.mx.drew).mono ?_
  rintro e p1 ⟨rfl, X2, hrx, hev⟩
  have HEp1 : Hid (EvoX p0 xb X p1 X2) := (EvoX.refl HIp0.out.inv.mx).drewE.trans hev
  have HRp1 : Hid (RX X2) := hrx
  clear hev hrx
  have HIp1 : Hid (PInv w0 p1 wb xb rb X2 R a c l) := HIp0.out.evoX HEp1.out
  have HOp1 : Hid (Blk p1 ob 32 (opCells 4 A E S)) := HOp0.out.kept HEp1.out.kept HNx.out.1
  have hq := HIp1.out
  have ho := HOp1.out
  refine hK.out _ _ (fun _ => ⟨hq.inv.blk.cell 0, ho.cell 1, ho.cell 4⟩) ?_
  clear hK K hq ho
  (try simp only [Act.put, tkS])
  refine upTo_one (i := 10) (by kernel_rfl) rfl (fun K hK => ?_)
  go_simp
  refine hK.out _ _ (fun h => absurd rfl h) ?_
  clear hK K
  (try simp only [Act.put, tkS])
  refine upTo_done (by kernel_rfl) ?_
  go_upto_region 16 with fail
  refine upTo_region (fun u : World => u.cell? ⟨wb, 1, none⟩ = some (.pointer (some ⟨rb, 0, none⟩)) ∧ u.cell? ⟨ob, 1, none⟩ = some (.int .i64 A) ∧ u.cell? ⟨ob, 4, none⟩ = some (.int .i64 E.ts)) 10 11 rfl (by kernel_rfl) ?_
  have hS0 : (fun u : World => u.cell? ⟨wb, 1, none⟩ = some (.pointer (some ⟨rb, 0, none⟩)) ∧ u.cell? ⟨ob, 1, none⟩ = some (.int .i64 A) ∧ u.cell? ⟨ob, 4, none⟩ = some (.int .i64 E.ts)) p1.drew := ⟨HIp1.out.inv.blk.cell 1, HOp1.out.cell 1, HOp1.out.cell 4⟩
  refine upTo_tk (i := 0) (v := ?v46_0) rfl (by kernel_rfl) (fun _ _ _ h => h) (by rfl) hS0 ?h46_0 ?r46_0
  case h46_0 => (intro u hu; (try dsimp only at hu); go_simp; first | done | with_reducible rfl)
  (try simp only [Act.put, tkS])
  refine upTo_tk (i := 1) (v := ?v46_1) rfl (by kernel_rfl) (fun _ _ _ h => h) (by rfl) hS0 ?h46_1 ?r46_1
  case h46_1 => (intro u hu; (try dsimp only at hu); go_simp; first | done | with_reducible rfl)
  (try simp only [Act.put, tkS])
  refine upTo_tk (i := 2) (v := ?v46_2) rfl (by kernel_rfl) (fun _ _ _ h => h) (by rfl) hS0 ?h46_2 ?r46_2
  case h46_2 => (intro u hu; (try dsimp only at hu); go_simp; first | done | with_reducible rfl)
  (try simp only [Act.put, tkS])
  refine upTo_tk (i := 3) (v := ?v46_3) rfl (by kernel_rfl) (fun _ _ _ h => h) (by rfl) hS0 ?h46_3 ?r46_3
  case h46_3 => (intro u hu; (try dsimp only at hu); go_simp; first | done | with_reducible rfl)
  (try simp only [Act.put, tkS])
  refine upTo_tk (i := 4) (v := ?v46_4) rfl (by kernel_rfl) (fun _ _ _ h => h) (by rfl) hS0 ?h46_4 ?r46_4
  case h46_4 => (intro u hu; (try dsimp only at hu); go_simp; first | done | with_reducible rfl)
  (try simp only [Act.put, tkS])
  refine upTo_tk (i := 5) (v := ?v46_5) rfl (by kernel_rfl) (fun _ _ _ h => h) (by rfl) hS0 ?h46_5 ?r46_5
  case h46_5 => (intro u hu; (try dsimp only at hu); go_simp; first | done | with_reducible rfl)
  (try simp only [Act.put, tkS])
  refine upTo_tk (i := 6) (v := ?v46_6) rfl (by kernel_rfl) (fun _ _ _ h => h) (by rfl) hS0 ?h46_6 ?r46_6
  case h46_6 => (intro u hu; (try dsimp only at hu); go_simp; first | done | with_reducible rfl)
  (try simp only [Act.put, tkS])
  refine upTo_tk (i := 7) (v := ?v46_7) rfl (by kernel_rfl) (fun _ _ _ h => h) (by rfl) hS0 ?h46_7 ?r46_7
  case h46_7 => (intro u hu; (try dsimp only at hu); go_simp; first | done | with_reducible rfl)
  (try simp only [Act.put, tkS])
  refine upTo_tk (i := 8) (v := ?v46_8) rfl (by kernel_rfl) (fun _ _ _ h => h) (by rfl) hS0 ?h46_8 ?r46_8
  case h46_8 => (intro u hu; (try dsimp only at hu); go_simp; first | done | with_reducible rfl)
  (try simp only [Act.put, tkS])
  clear hS0
  refine upTo_one (i := 9) (by kernel_rfl) rfl (fun K hK => ?_)
  go_simp
  refine (hR _ HIp1.out.inv.mr.drew).mono ?_
  rintro e p2 ⟨rfl, R2, hrr, hev⟩
  have HEp2 : Hid (Evo p1 rb R p2 R2) := (Evo.refl HIp1.out.inv.mr).drewE.trans hev
  have HRp2 : Hid (RR R2) := hrr
  clear hev hrr
  have HIp2 : Hid (PInv w0 p2 wb xb rb X2 R2 a c l) := HIp1.out.evoR HEp2.out
  have HOp2 : Hid (Blk p2 ob 32 (opCells 4 A E S)) := HOp1.out.kept HEp2.out.kept HNx.out.2
  have hq := HIp2.out
  have ho := HOp2.out
  refine hK.out _ _ (fun _ => ⟨hq.inv.blk.cell 1, ho.cell 1, ho.cell 4⟩) ?_
  clear hK K hq ho
  (try simp only [Act.put, tkS])
  refine upTo_one (i := 10) (by kernel_rfl) rfl (fun K hK => ?_)
  go_simp
  refine hK.out _ _ (fun h => absurd rfl h) ?_
  clear hK K
  (try simp only [Act.put, tkS])
  refine upTo_done (by kernel_rfl) ?_
  have hBo := hB _ _ HRp1.out HRp2.out
  clear hX hR hB
  go_wp2_with (go_at_call 12; refine (num_any _ _).mono ?_; rintro e w' ⟨rfl, rfl⟩)
  go_ret
  exact ⟨rfl, X2, R2, HIp2.out, hBo⟩
set_option maxRecDepth 100000 in
set_option maxHeartbeats 4000000 in
theorem does_tick (N : Nat) (w0 w : World) (wb xb rb : Nat) (X : Eng) (R : Ref) (a : Option Addr) (c : Nat) (l : Lz) (A : Int) (E : Ev) (S : ByteArray) (h : PInv w0 w wb xb rb X R a c l) (hb : Both N X R) (hN : N ≤ 8000000000000) :
    Calls Tryz.prog 7 #[.pointer (some ⟨wb, 0, none⟩), opVal 5 A E S] w fun e w' => e = .returned (.bool true) ∧ ∃ X' R', PInv w0 w' wb xb rb X' R' a c l ∧ Both (N + 2) X' R' := by
  obtain ⟨z, RX, RR, hX, hR, hB⟩ := tick_pair N xb rb X R A hb hN
  clear hb hN
  obtain ⟨p0, HW1⟩ := hex (w.alloc (.cells (opCells 5 A E S).toArray 32))
  have HBp0 : Hid (Below w.heap.size w p0) := by show Below _ _ _; rw [HW1.out]; exact (Below.refl _ _).alloc (Nat.le_refl _) _
  have HIp0 : Hid (PInv w0 p0 wb xb rb X R a c l) := h.below HBp0.out
  obtain ⟨ob, HOb⟩ := hex w.heap.size
  have HOp0 : Hid (Blk p0 ob 32 (opCells 5 A E S)) := by show Blk _ _ _ _; rw [HW1.out, HOb.out]; exact blk_alloc _ _ _
  have HNx : Hid (some ob ∉ X.fp xb ∧ some ob ∉ R.fp rb) := ⟨fun e => by have := h.inv.mx.fp_lt _ e; have := HOb.out; omega, fun e => by have := h.inv.mr.fp_lt _ e; have := HOb.out; omega⟩
  have hw1 : w.alloc (.cells #[.int .i64 5, .int .i64 A, .int .i64 E.src, .int .i64 E.seq, .int .i64 E.ts, .int .i64 E.kind, .int .i64 E.val, .string S] 32) = p0 := HW1.out.symm
  unfold opVal
  go_enter Tryz.func7, Tryz.ntmps7
  go_upto_region 1 with fail
  rw [← HOb.out]
  clear hw1 HW1 h
  have o0 := HOp0.out.cell 0
  simp only [opCells, List.getElem?_cons_zero, List.getElem?_cons_succ] at o0
  go_upto_region 19 with fail
  refine upTo_region (fun u : World => u.cell? ⟨wb, 0, none⟩ = some (.pointer (some ⟨xb, 0, none⟩)) ∧ u.cell? ⟨ob, 1, none⟩ = some (.int .i64 A)) 7 8 rfl (by kernel_rfl) ?_
  have hS0 : (fun u : World => u.cell? ⟨wb, 0, none⟩ = some (.pointer (some ⟨xb, 0, none⟩)) ∧ u.cell? ⟨ob, 1, none⟩ = some (.int .i64 A)) p0.drew := ⟨HIp0.out.inv.blk.cell 0, HOp0.out.cell 1⟩
  refine upTo_tk (i := 0) (v := ?v47_0) rfl (by kernel_rfl) (fun _ _ _ h => h) (by rfl) hS0 ?h47_0 ?r47_0
  case h47_0 => (intro u hu; (try dsimp only at hu); go_simp; first | done | with_reducible rfl)
  (try simp only [Act.put, tkS])
  refine upTo_tk (i := 1) (v := ?v47_1) rfl (by kernel_rfl) (fun _ _ _ h => h) (by rfl) hS0 ?h47_1 ?r47_1
  case h47_1 => (intro u hu; (try dsimp only at hu); go_simp; first | done | with_reducible rfl)
  (try simp only [Act.put, tkS])
  refine upTo_tk (i := 2) (v := ?v47_2) rfl (by kernel_rfl) (fun _ _ _ h => h) (by rfl) hS0 ?h47_2 ?r47_2
  case h47_2 => (intro u hu; (try dsimp only at hu); go_simp; first | done | with_reducible rfl)
  (try simp only [Act.put, tkS])
  refine upTo_tk (i := 3) (v := ?v47_3) rfl (by kernel_rfl) (fun _ _ _ h => h) (by rfl) hS0 ?h47_3 ?r47_3
  case h47_3 => (intro u hu; (try dsimp only at hu); go_simp; first | done | with_reducible rfl)
  (try simp only [Act.put, tkS])
  refine upTo_tk (i := 4) (v := ?v47_4) rfl (by kernel_rfl) (fun _ _ _ h => h) (by rfl) hS0 ?h47_4 ?r47_4
  case h47_4 => (intro u hu; (try dsimp only at hu); go_simp; first | done | with_reducible rfl)
  (try simp only [Act.put, tkS])
  refine upTo_tk (i := 5) (v := ?v47_5) rfl (by kernel_rfl) (fun _ _ _ h => h) (by rfl) hS0 ?h47_5 ?r47_5
  case h47_5 => (intro u hu; (try dsimp only at hu); go_simp; first | done | with_reducible rfl)
  (try simp only [Act.put, tkS])
  clear hS0
  refine upTo_one (i := 6) (by kernel_rfl) rfl (fun K hK => ?_)
  go_simp
  refine (hX _ HIp0.out.inv.mx.drew).mono ?_
  rintro e p1 ⟨rfl, X2, hrx, hev⟩
  have HEp1 : Hid (EvoX p0 xb X p1 X2) := (EvoX.refl HIp0.out.inv.mx).drewE.trans hev
  have HRp1 : Hid (RX X2) := hrx
  clear hev hrx
  have HIp1 : Hid (PInv w0 p1 wb xb rb X2 R a c l) := HIp0.out.evoX HEp1.out
  have HOp1 : Hid (Blk p1 ob 32 (opCells 5 A E S)) := HOp0.out.kept HEp1.out.kept HNx.out.1
  have hq := HIp1.out
  have ho := HOp1.out
  refine hK.out _ _ (fun _ => ⟨hq.inv.blk.cell 0, ho.cell 1⟩) ?_
  clear hK K hq ho
  (try simp only [Act.put, tkS])
  refine upTo_one (i := 7) (by kernel_rfl) rfl (fun K hK => ?_)
  go_simp
  refine hK.out _ _ (fun h => absurd rfl h) ?_
  clear hK K
  (try simp only [Act.put, tkS])
  refine upTo_done (by kernel_rfl) ?_
  go_upto_region 20 with fail
  refine upTo_region (fun u : World => u.cell? ⟨wb, 1, none⟩ = some (.pointer (some ⟨rb, 0, none⟩)) ∧ u.cell? ⟨ob, 1, none⟩ = some (.int .i64 A)) 7 8 rfl (by kernel_rfl) ?_
  have hS0 : (fun u : World => u.cell? ⟨wb, 1, none⟩ = some (.pointer (some ⟨rb, 0, none⟩)) ∧ u.cell? ⟨ob, 1, none⟩ = some (.int .i64 A)) p1.drew := ⟨HIp1.out.inv.blk.cell 1, HOp1.out.cell 1⟩
  refine upTo_tk (i := 0) (v := ?v48_0) rfl (by kernel_rfl) (fun _ _ _ h => h) (by rfl) hS0 ?h48_0 ?r48_0
  case h48_0 => (intro u hu; (try dsimp only at hu); go_simp; first | done | with_reducible rfl)
  (try simp only [Act.put, tkS])
  refine upTo_tk (i := 1) (v := ?v48_1) rfl (by kernel_rfl) (fun _ _ _ h => h) (by rfl) hS0 ?h48_1 ?r48_1
  case h48_1 => (intro u hu; (try dsimp only at hu); go_simp; first | done | with_reducible rfl)
  (try simp only [Act.put, tkS])
  refine upTo_tk (i := 2) (v := ?v48_2) rfl (by kernel_rfl) (fun _ _ _ h => h) (by rfl) hS0 ?h48_2 ?r48_2
  case h48_2 => (intro u hu; (try dsimp only at hu); go_simp; first | done | with_reducible rfl)
  (try simp only [Act.put, tkS])
  refine upTo_tk (i := 3) (v := ?v48_3) rfl (by kernel_rfl) (fun _ _ _ h => h) (by rfl) hS0 ?h48_3 ?r48_3
  case h48_3 => (intro u hu; (try dsimp only at hu); go_simp; first | done | with_reducible rfl)
  (try simp only [Act.put, tkS])
  refine upTo_tk (i := 4) (v := ?v48_4) rfl (by kernel_rfl) (fun _ _ _ h => h) (by rfl) hS0 ?h48_4 ?r48_4
  case h48_4 => (intro u hu; (try dsimp only at hu); go_simp; first | done | with_reducible rfl)
  (try simp only [Act.put, tkS])
  refine upTo_tk (i := 5) (v := ?v48_5) rfl (by kernel_rfl) (fun _ _ _ h => h) (by rfl) hS0 ?h48_5 ?r48_5
  case h48_5 => (intro u hu; (try dsimp only at hu); go_simp; first | done | with_reducible rfl)
  (try simp only [Act.put, tkS])
  clear hS0
  refine upTo_one (i := 6) (by kernel_rfl) rfl (fun K hK => ?_)
  go_simp
  refine (hR _ HIp1.out.inv.mr.drew).mono ?_
  rintro e p2 ⟨rfl, R2, hrr, hev⟩
  have HEp2 : Hid (Evo p1 rb R p2 R2) := (Evo.refl HIp1.out.inv.mr).drewE.trans hev
  have HRp2 : Hid (RR R2) := hrr
  clear hev hrr
  have HIp2 : Hid (PInv w0 p2 wb xb rb X2 R2 a c l) := HIp1.out.evoR HEp2.out
  have HOp2 : Hid (Blk p2 ob 32 (opCells 5 A E S)) := HOp1.out.kept HEp2.out.kept HNx.out.2
  have hq := HIp2.out
  have ho := HOp2.out
  refine hK.out _ _ (fun _ => ⟨hq.inv.blk.cell 1, ho.cell 1⟩) ?_
  clear hK K hq ho
  (try simp only [Act.put, tkS])
  refine upTo_one (i := 7) (by kernel_rfl) rfl (fun K hK => ?_)
  go_simp
  refine hK.out _ _ (fun h => absurd rfl h) ?_
  clear hK K
  (try simp only [Act.put, tkS])
  refine upTo_done (by kernel_rfl) ?_
  have hBo := hB _ _ HRp1.out HRp2.out
  clear hX hR hB
  go_wp2_with (go_at_call 12; refine (num_any _ _).mono ?_; rintro e w' ⟨rfl, rfl⟩)
  go_ret
  exact ⟨rfl, X2, R2, HIp2.out, hBo⟩
set_option maxRecDepth 100000 in
set_option maxHeartbeats 4000000 in
theorem does_asks_k (k : Int) (N : Nat) (w0 w : World) (wb xb rb : Nat) (X : Eng) (R : Ref) (a : Option Addr) (c : Nat) (l : Lz) (A : Int) (E : Ev) (S : ByteArray) (h : PInv w0 w wb xb rb X R a c l) (hb : Both N X R) (hN : N ≤ 8000000000000) (hl : l.length ≤ 5000000000000) (hk : k = 7 ∨ k = 8 ∨ k = 9 ∨ k = 10) :
    Calls Tryz.prog 7 #[.pointer (some ⟨wb, 0, none⟩), opVal k A E S] w fun e w' => e = .returned (.bool true) ∧ ∃ a' c' l', l'.length ≤ l.length + 1 ∧ PInv w0 w' wb xb rb X R a' c' l' := by
  have hk' : 7 ≤ k ∧ k ≤ 10 := by omega
  have HAs : Hid (∀ u, PInv w0 u wb xb rb X R a c l → Calls Tryz.prog 6 #[.pointer (some ⟨wb, 0, none⟩), opVal k A E S] u fun e w' => e = .returned (.bool true) ∧ ∃ a' c' l', l'.length ≤ l.length + 1 ∧ PInv w0 w' wb xb rb X R a' c' l') := fun u hu => asks_any k A E S N w0 u wb xb rb X R a c l hu hb hl hk'
  clear hb hl hN hk'
  have h1 : (k == 1) = false := by rcases hk with rfl | rfl | rfl | rfl <;> rfl
  have h2 : (k == 2) = false := by rcases hk with rfl | rfl | rfl | rfl <;> rfl
  have h3 : (k == 3) = false := by rcases hk with rfl | rfl | rfl | rfl <;> rfl
  have h4 : (k == 4) = false := by rcases hk with rfl | rfl | rfl | rfl <;> rfl
  have h5 : (k == 5) = false := by rcases hk with rfl | rfl | rfl | rfl <;> rfl
  have h6 : (k == 6) = false := by rcases hk with rfl | rfl | rfl | rfl <;> rfl
  clear hk
  obtain ⟨p0, HW1⟩ := hex (w.alloc (.cells (opCells k A E S).toArray 32))
  have HBp0 : Hid (Below w.heap.size w p0) := by show Below _ _ _; rw [HW1.out]; exact (Below.refl _ _).alloc (Nat.le_refl _) _
  have HIp0 : Hid (PInv w0 p0 wb xb rb X R a c l) := h.below HBp0.out
  obtain ⟨ob, HOb⟩ := hex w.heap.size
  have HOp0 : Hid (Blk p0 ob 32 (opCells k A E S)) := by show Blk _ _ _ _; rw [HW1.out, HOb.out]; exact blk_alloc _ _ _
  have HNx : Hid (some ob ∉ X.fp xb ∧ some ob ∉ R.fp rb) := ⟨fun e => by have := h.inv.mx.fp_lt _ e; have := HOb.out; omega, fun e => by have := h.inv.mr.fp_lt _ e; have := HOb.out; omega⟩
  have hw1 : w.alloc (.cells #[.int .i64 k, .int .i64 A, .int .i64 E.src, .int .i64 E.seq, .int .i64 E.ts, .int .i64 E.kind, .int .i64 E.val, .string S] 32) = p0 := HW1.out.symm
  unfold opVal
  go_enter Tryz.func7, Tryz.ntmps7
  go_upto_region 1 with fail
  rw [← HOb.out]
  clear hw1 HW1 h
  have o0 := HOp0.out.cell 0
  simp only [opCells, List.getElem?_cons_zero, List.getElem?_cons_succ] at o0
  have o1 := HOp0.out.cell 1
  have o2 := HOp0.out.cell 2
  have o3 := HOp0.out.cell 3
  have o4 := HOp0.out.cell 4
  have o5 := HOp0.out.cell 5
  have o6 := HOp0.out.cell 6
  have o7 := HOp0.out.cell 7
  simp only [opCells, List.getElem?_cons_zero, List.getElem?_cons_succ] at o1 o2 o3 o4 o5 o6 o7
  unfold opVal at HAs
  go_wp2_with (go_at_call 6; refine (HAs.out _ HIp0.out).mono ?_; rintro e w2 ⟨rfl, hres⟩)
  go_ret
  exact ⟨rfl, hres⟩
end Go.Proofs.YtghcololkgeoeabGreat
namespace Go.Proofs.YtghcololkgeoeabGreat
open Go.RowKit
set_option linter.unusedVariables false
set_option linter.unusedSimpArgs false
attribute [local go_sem ↓] Go.wp_at_zero Go.wp_at_succ

theorem wrong_same {X : Eng} {R : Ref} {i : Nat} {p : PSrc} {r : RSrc} {c : Cfg} (s : SrcSim c p r) (E : Ev) : pWrong p E = wrongOf r E := by
  unfold pWrong wrongOf
  rw [s.inn, s.last]
theorem push_pair (N xb rb : Nat) (X : Eng) (R : Ref) (A : Int) (E : Ev) (hb : Both N X R) (hN : N ≤ 8000000000000) : ∃ (RX : Int → Eng → Prop) (RR : Int → Ref → Prop),
    (∀ u, MemX u xb X → Calls Tryz.prog 26 #[.pointer (some ⟨xb, 0, none⟩), .int .i64 A, E.agg] u fun e w' => ∃ z X', e = .returned (.int .i64 z) ∧ RX z X' ∧ EvoX u xb X w' X') ∧
    (∀ u, MemR u rb R → Calls Tryz.prog 27 #[.pointer (some ⟨rb, 0, none⟩), .int .i64 A, E.agg] u fun e w' => ∃ z R', e = .returned (.int .i64 z) ∧ RR z R' ∧ Evo u rb R w' R') ∧ ∀ z z' X' R', RX z X' → RR z' R' → z = z' ∧ Both (N + 2) X' R' := by
  have hn := hb.sim.n
  rcases index_cases A R.srcs.length with hA | ⟨i, rfl, hi⟩
  · refine ⟨fun z X' => z = 3 ∧ X' = X, fun z R' => z = 3 ∧ R' = R, fun u hu => ?_, fun u hu => ?_, ?_⟩
    · exact (xpush_none xb X A E u hu (by rw [hn]; exact hA)).mono fun e w' ⟨he, hw⟩ => ⟨3, X, he, ⟨rfl, rfl⟩, EvoX.below hu hw⟩
    · exact (rpush_none rb R A E u hu hA).mono fun e w' ⟨he, hw⟩ => ⟨3, R, he, ⟨rfl, rfl⟩, Evo.below hu hw⟩
    · rintro z z' X' R' ⟨rfl, rfl⟩ ⟨rfl, rfl⟩; exact ⟨rfl, hb.mono (by omega)⟩
  · have hx : i < X.srcs.length := by omega
    have hp := List.getElem?_eq_getElem hx
    have hr := List.getElem?_eq_getElem hi
    have s := hb.sim.src i _ _ hp hr
    have hws := wrong_same (X := X) (R := R) (i := i) s E
    by_cases hw : wrongOf R.srcs[i] E = 0
    · have hpw : pWrong X.srcs[i] E = 0 := hws.trans hw
      have hc := hb.good.fits
      have hcc := hb.sim.c
      have hmgd := hb.good.mgd
      have hall := hb.good.all
      have hmm := hb.sim.merged
      have hts := (pWrong_zero hpw).2.2.1
      have hlen := hb.sim.perm.length_eq
      simp only [List.length_append] at hlen
      have hfu := sim_full hb.sim hp hr E
      refine ⟨fun z X' => (X.full i (X.fate (X.isLate X.srcs[i] E.ts)) = true ∧ z = 8 ∧ X' = X) ∨ (X.full i (X.fate (X.isLate X.srcs[i] E.ts)) = false ∧ z = 0 ∧ ∃ Y, X.Pushed i X.srcs[i] E Y ∧ PlX Y X'), fun z R' => (R.full i E = true ∧ z = 8 ∧ R' = R) ∨ (R.full i E = false ∧ z = 0 ∧ PushOk R i E R'), fun u hu => ?_, fun u hu => ?_, ?_⟩
      · refine (xpush_ok xb X i E u hu hb.sane (by omega) hx hpw (by rw [hcc]; omega) (by rw [hmm]; omega)).mono ?_
        rintro e w' (⟨h1, he, hw⟩ | ⟨h1, he, Y, hY, hw⟩)
        · exact ⟨8, X, he, Or.inl ⟨h1, rfl, rfl⟩, EvoX.below hu hw⟩
        · obtain ⟨X', hpl, hev⟩ := evoP_pl hw
          exact ⟨0, X', he, Or.inr ⟨h1, rfl, Y, hY, hpl⟩, hev⟩
      · refine (rpush_ok N rb R i E u hu hb.good.sane (by omega) hi hw (by omega) (by omega) hts).mono ?_
        rintro e w' (⟨h1, he, hw⟩ | ⟨h1, he, R', hR, hw⟩)
        · exact ⟨8, R, he, Or.inl ⟨h1, rfl, rfl⟩, Evo.below hu hw⟩
        · exact ⟨0, R', he, Or.inr ⟨h1, rfl, hR⟩, hw⟩
      · rintro z z' X' R' hX hR
        rw [hfu] at hX
        rcases hX with ⟨h1, rfl, rfl⟩ | ⟨h1, rfl, Y, hY, hpl⟩ <;> rcases hR with ⟨h2, rfl, rfl⟩ | ⟨h2, rfl, hR⟩
        · exact ⟨rfl, hb.mono (by omega)⟩
        · rw [h1] at h2; cases h2
        · rw [h1] at h2; cases h2
        · refine ⟨rfl, ?_⟩
          have := sim_push hb.sim hb.good hp (fun r hr' => by rw [hr] at hr'; cases hr'; exact hw) h1 hY hR
          exact both_pl this (hb.lines.frame (pushed_lines hp hY) (push_rests hR) (by omega)) hpl
    · refine ⟨fun z X' => z = pWrong X.srcs[i] E ∧ X' = X, fun z R' => z = wrongOf R.srcs[i] E ∧ R' = R, fun u hu => ?_, fun u hu => ?_, ?_⟩
      · exact (xpush_wrong xb X i E u hu hx (by rw [hws]; exact hw)).mono fun e w' ⟨he, hw⟩ => ⟨_, X, he, ⟨rfl, rfl⟩, EvoX.below hu hw⟩
      · exact (rpush_wrong rb R i E u hu hi hw).mono fun e w' ⟨he, hw⟩ => ⟨_, R, he, ⟨rfl, rfl⟩, Evo.below hu hw⟩
      · rintro z z' X' R' ⟨rfl, rfl⟩ ⟨rfl, rfl⟩; exact ⟨hws, hb.mono (by omega)⟩
set_option maxRecDepth 100000 in
set_option maxHeartbeats 4000000 in
theorem does_push (N : Nat) (w0 w : World) (wb xb rb : Nat) (X : Eng) (R : Ref) (a : Option Addr) (c : Nat) (l : Lz) (A : Int) (E : Ev) (S : ByteArray) (h : PInv w0 w wb xb rb X R a c l) (hb : Both N X R) (hN : N ≤ 8000000000000) :
    Calls Tryz.prog 7 #[.pointer (some ⟨wb, 0, none⟩), opVal 3 A E S] w fun e w' => e = .returned (.bool true) ∧ ∃ X' R', PInv w0 w' wb xb rb X' R' a c l ∧ Both (N + 2) X' R' := by
  obtain ⟨RX, RR, hX, hR, hB⟩ := push_pair N xb rb X R A E hb hN
  clear hb hN
  unfold Ev.agg at hX hR
  obtain ⟨p0, HW1⟩ := hex (w.alloc (.cells (opCells 3 A E S).toArray 32))
  have HBp0 : Hid (Below w.heap.size w p0) := by show Below _ _ _; rw [HW1.out]; exact (Below.refl _ _).alloc (Nat.le_refl _) _
  have HIp0 : Hid (PInv w0 p0 wb xb rb X R a c l) := h.below HBp0.out
  obtain ⟨ob, HOb⟩ := hex w.heap.size
  have HOp0 : Hid (Blk p0 ob 32 (opCells 3 A E S)) := by show Blk _ _ _ _; rw [HW1.out, HOb.out]; exact blk_alloc _ _ _
  have HNx : Hid (some ob ∉ X.fp xb ∧ some ob ∉ R.fp rb) := ⟨fun e => by have := h.inv.mx.fp_lt _ e; have := HOb.out; omega, fun e => by have := h.inv.mr.fp_lt _ e; have := HOb.out; omega⟩
  have hw1 : w.alloc (.cells #[.int .i64 3, .int .i64 A, .int .i64 E.src, .int .i64 E.seq, .int .i64 E.ts, .int .i64 E.kind, .int .i64 E.val, .string S] 32) = p0 := HW1.out.symm
  unfold opVal
  go_enter Tryz.func7, Tryz.ntmps7
  go_upto_region 1 with fail
  rw [← HOb.out]
  clear hw1 HW1 h
  have o0 := HOp0.out.cell 0
  simp only [opCells, List.getElem?_cons_zero, List.getElem?_cons_succ] at o0
  go_upto_region 11 with fail
  refine upTo_region (fun u : World => u.cell? ⟨wb, 0, none⟩ = some (.pointer (some ⟨xb, 0, none⟩)) ∧ u.cell? ⟨ob, 1, none⟩ = some (.int .i64 A) ∧ u.cell? ⟨ob, 2, none⟩ = some (.int .i64 E.src) ∧ u.cell? ⟨ob, 3, none⟩ = some (.int .i64 E.seq) ∧ u.cell? ⟨ob, 4, none⟩ = some (.int .i64 E.ts) ∧ u.cell? ⟨ob, 5, none⟩ = some (.int .i64 E.kind) ∧ u.cell? ⟨ob, 6, none⟩ = some (.int .i64 E.val)) 9 10 rfl (by kernel_rfl) ?_
  have hS0 : (fun u : World => u.cell? ⟨wb, 0, none⟩ = some (.pointer (some ⟨xb, 0, none⟩)) ∧ u.cell? ⟨ob, 1, none⟩ = some (.int .i64 A) ∧ u.cell? ⟨ob, 2, none⟩ = some (.int .i64 E.src) ∧ u.cell? ⟨ob, 3, none⟩ = some (.int .i64 E.seq) ∧ u.cell? ⟨ob, 4, none⟩ = some (.int .i64 E.ts) ∧ u.cell? ⟨ob, 5, none⟩ = some (.int .i64 E.kind) ∧ u.cell? ⟨ob, 6, none⟩ = some (.int .i64 E.val)) p0.drew := ⟨HIp0.out.inv.blk.cell 0, HOp0.out.cell 1, HOp0.out.cell 2, HOp0.out.cell 3, HOp0.out.cell 4, HOp0.out.cell 5, HOp0.out.cell 6⟩
  refine upTo_tk (i := 0) (v := ?v49_0) rfl (by kernel_rfl) (fun _ _ _ h => h) (by rfl) hS0 ?h49_0 ?r49_0
  case h49_0 => (intro u hu; (try dsimp only at hu); go_simp; first | done | with_reducible rfl)
  (try simp only [Act.put, tkS])
  refine upTo_tk (i := 1) (v := ?v49_1) rfl (by kernel_rfl) (fun _ _ _ h => h) (by rfl) hS0 ?h49_1 ?r49_1
  case h49_1 => (intro u hu; (try dsimp only at hu); go_simp; first | done | with_reducible rfl)
  (try simp only [Act.put, tkS])
  refine upTo_tk (i := 2) (v := ?v49_2) rfl (by kernel_rfl) (fun _ _ _ h => h) (by rfl) hS0 ?h49_2 ?r49_2
  case h49_2 => (intro u hu; (try dsimp only at hu); go_simp; first | done | with_reducible rfl)
  (try simp only [Act.put, tkS])
  refine upTo_tk (i := 3) (v := ?v49_3) rfl (by kernel_rfl) (fun _ _ _ h => h) (by rfl) hS0 ?h49_3 ?r49_3
  case h49_3 => (intro u hu; (try dsimp only at hu); go_simp; first | done | with_reducible rfl)
  (try simp only [Act.put, tkS])
  refine upTo_tk (i := 4) (v := ?v49_4) rfl (by kernel_rfl) (fun _ _ _ h => h) (by rfl) hS0 ?h49_4 ?r49_4
  case h49_4 => (intro u hu; (try dsimp only at hu); go_simp; first | done | with_reducible rfl)
  (try simp only [Act.put, tkS])
  refine upTo_tk (i := 5) (v := ?v49_5) rfl (by kernel_rfl) (fun _ _ _ h => h) (by rfl) hS0 ?h49_5 ?r49_5
  case h49_5 => (intro u hu; (try dsimp only at hu); go_simp; first | done | with_reducible rfl)
  (try simp only [Act.put, tkS])
  refine upTo_tk (i := 6) (v := ?v49_6) rfl (by kernel_rfl) (fun _ _ _ h => h) (by rfl) hS0 ?h49_6 ?r49_6
  case h49_6 => (intro u hu; (try dsimp only at hu); go_simp; first | done | with_reducible rfl)
  (try simp only [Act.put, tkS])
  refine upTo_tk (i := 7) (v := ?v49_7) rfl (by kernel_rfl) (fun _ _ _ h => h) (by rfl) hS0 ?h49_7 ?r49_7
  case h49_7 => (intro u hu; (try dsimp only at hu); go_simp; first | done | with_reducible rfl)
  (try simp only [Act.put, tkS])
  clear hS0
  refine upTo_one (i := 8) (by kernel_rfl) rfl (fun K hK => ?_)
  go_simp
  refine (hX _ HIp0.out.inv.mx.drew).mono ?_
  rintro e p1 ⟨z, X2, rfl, hrx, hev⟩
  have HEp1 : Hid (EvoX p0 xb X p1 X2) := (EvoX.refl HIp0.out.inv.mx).drewE.trans hev
  have HRp1 : Hid (RX z X2) := hrx
  clear hev hrx
  have HIp1 : Hid (PInv w0 p1 wb xb rb X2 R a c l) := HIp0.out.evoX HEp1.out
  have HOp1 : Hid (Blk p1 ob 32 (opCells 3 A E S)) := HOp0.out.kept HEp1.out.kept HNx.out.1
  have hq := HIp1.out
  have ho := HOp1.out
  refine hK.out _ _ (fun _ => ⟨hq.inv.blk.cell 0, ho.cell 1, ho.cell 2, ho.cell 3, ho.cell 4, ho.cell 5, ho.cell 6⟩) ?_
  clear hK K hq ho
  (try simp only [Act.put, tkS])
  refine upTo_one (i := 9) (by kernel_rfl) rfl (fun K hK => ?_)
  go_simp
  refine hK.out _ _ (fun h => absurd rfl h) ?_
  clear hK K
  (try simp only [Act.put, tkS])
  refine upTo_done (by kernel_rfl) ?_
  go_upto_region 12 with fail
  refine upTo_region (fun u : World => u.cell? ⟨wb, 1, none⟩ = some (.pointer (some ⟨rb, 0, none⟩)) ∧ u.cell? ⟨ob, 1, none⟩ = some (.int .i64 A) ∧ u.cell? ⟨ob, 2, none⟩ = some (.int .i64 E.src) ∧ u.cell? ⟨ob, 3, none⟩ = some (.int .i64 E.seq) ∧ u.cell? ⟨ob, 4, none⟩ = some (.int .i64 E.ts) ∧ u.cell? ⟨ob, 5, none⟩ = some (.int .i64 E.kind) ∧ u.cell? ⟨ob, 6, none⟩ = some (.int .i64 E.val)) 9 10 rfl (by kernel_rfl) ?_
  have hS0 : (fun u : World => u.cell? ⟨wb, 1, none⟩ = some (.pointer (some ⟨rb, 0, none⟩)) ∧ u.cell? ⟨ob, 1, none⟩ = some (.int .i64 A) ∧ u.cell? ⟨ob, 2, none⟩ = some (.int .i64 E.src) ∧ u.cell? ⟨ob, 3, none⟩ = some (.int .i64 E.seq) ∧ u.cell? ⟨ob, 4, none⟩ = some (.int .i64 E.ts) ∧ u.cell? ⟨ob, 5, none⟩ = some (.int .i64 E.kind) ∧ u.cell? ⟨ob, 6, none⟩ = some (.int .i64 E.val)) p1.drew := ⟨HIp1.out.inv.blk.cell 1, HOp1.out.cell 1, HOp1.out.cell 2, HOp1.out.cell 3, HOp1.out.cell 4, HOp1.out.cell 5, HOp1.out.cell 6⟩
  refine upTo_tk (i := 0) (v := ?v50_0) rfl (by kernel_rfl) (fun _ _ _ h => h) (by rfl) hS0 ?h50_0 ?r50_0
  case h50_0 => (intro u hu; (try dsimp only at hu); go_simp; first | done | with_reducible rfl)
  (try simp only [Act.put, tkS])
  refine upTo_tk (i := 1) (v := ?v50_1) rfl (by kernel_rfl) (fun _ _ _ h => h) (by rfl) hS0 ?h50_1 ?r50_1
  case h50_1 => (intro u hu; (try dsimp only at hu); go_simp; first | done | with_reducible rfl)
  (try simp only [Act.put, tkS])
  refine upTo_tk (i := 2) (v := ?v50_2) rfl (by kernel_rfl) (fun _ _ _ h => h) (by rfl) hS0 ?h50_2 ?r50_2
  case h50_2 => (intro u hu; (try dsimp only at hu); go_simp; first | done | with_reducible rfl)
  (try simp only [Act.put, tkS])
  refine upTo_tk (i := 3) (v := ?v50_3) rfl (by kernel_rfl) (fun _ _ _ h => h) (by rfl) hS0 ?h50_3 ?r50_3
  case h50_3 => (intro u hu; (try dsimp only at hu); go_simp; first | done | with_reducible rfl)
  (try simp only [Act.put, tkS])
  refine upTo_tk (i := 4) (v := ?v50_4) rfl (by kernel_rfl) (fun _ _ _ h => h) (by rfl) hS0 ?h50_4 ?r50_4
  case h50_4 => (intro u hu; (try dsimp only at hu); go_simp; first | done | with_reducible rfl)
  (try simp only [Act.put, tkS])
  refine upTo_tk (i := 5) (v := ?v50_5) rfl (by kernel_rfl) (fun _ _ _ h => h) (by rfl) hS0 ?h50_5 ?r50_5
  case h50_5 => (intro u hu; (try dsimp only at hu); go_simp; first | done | with_reducible rfl)
  (try simp only [Act.put, tkS])
  refine upTo_tk (i := 6) (v := ?v50_6) rfl (by kernel_rfl) (fun _ _ _ h => h) (by rfl) hS0 ?h50_6 ?r50_6
  case h50_6 => (intro u hu; (try dsimp only at hu); go_simp; first | done | with_reducible rfl)
  (try simp only [Act.put, tkS])
  refine upTo_tk (i := 7) (v := ?v50_7) rfl (by kernel_rfl) (fun _ _ _ h => h) (by rfl) hS0 ?h50_7 ?r50_7
  case h50_7 => (intro u hu; (try dsimp only at hu); go_simp; first | done | with_reducible rfl)
  (try simp only [Act.put, tkS])
  clear hS0
  refine upTo_one (i := 8) (by kernel_rfl) rfl (fun K hK => ?_)
  go_simp
  refine (hR _ HIp1.out.inv.mr.drew).mono ?_
  rintro e p2 ⟨z2, R2, rfl, hrr, hev⟩
  have HEp2 : Hid (Evo p1 rb R p2 R2) := (Evo.refl HIp1.out.inv.mr).drewE.trans hev
  have HRp2 : Hid (RR z2 R2) := hrr
  clear hev hrr
  have HIp2 : Hid (PInv w0 p2 wb xb rb X2 R2 a c l) := HIp1.out.evoR HEp2.out
  have HOp2 : Hid (Blk p2 ob 32 (opCells 3 A E S)) := HOp1.out.kept HEp2.out.kept HNx.out.2
  have hq := HIp2.out
  have ho := HOp2.out
  refine hK.out _ _ (fun _ => ⟨hq.inv.blk.cell 1, ho.cell 1, ho.cell 2, ho.cell 3, ho.cell 4, ho.cell 5, ho.cell 6⟩) ?_
  clear hK K hq ho
  (try simp only [Act.put, tkS])
  refine upTo_one (i := 9) (by kernel_rfl) rfl (fun K hK => ?_)
  go_simp
  refine hK.out _ _ (fun h => absurd rfl h) ?_
  clear hK K
  (try simp only [Act.put, tkS])
  refine upTo_done (by kernel_rfl) ?_
  obtain ⟨hzz, hBo⟩ := hB _ _ _ _ HRp1.out HRp2.out
  subst hzz
  clear hX hR hB
  go_wp2_with (go_at_call 12; refine (num_any _ _).mono ?_; rintro e w' ⟨rfl, rfl⟩)
  go_ret
  exact ⟨rfl, X2, R2, HIp2.out, hBo⟩
end Go.Proofs.YtghcololkgeoeabGreat
