import Derived.Test.YtghcololkgeoeaaGreatPartD2
import Derived.Test.YtghcololkgeoeaaGreatPartC4
import Derived.Test.YtghcololkgeoeaaGreatPartA8
namespace Go.Proofs.YtghcololkgeoeaaGreat
open Go.RowKit
set_option linter.unusedVariables false
set_option linter.unusedSimpArgs false
attribute [local go_sem ↓] Go.wp_at_zero Go.wp_at_succ

set_option maxRecDepth 100000 in
set_option maxHeartbeats 4000000 in
theorem does_join (N : Nat) (w0 w : World) (wb xb rb : Nat) (X : Eng) (R : Ref) (a : Option Addr) (c : Nat) (l : List El) (A : Int) (E : Ev) (S : ByteArray) (h : PInv w0 w wb xb rb X R a c l) (hb : Both N X R) (hN : N ≤ 7000000000000) :
    Calls Tryz.prog 8 #[.pointer (some ⟨wb, 0, none⟩), opVal 1 A E S] w fun e w' => e = .returned (.bool true) ∧ ∃ X' R', PInv w0 w' wb xb rb X' R' a c l ∧ Both (N + 2) X' R' := by
  obtain ⟨z, RX, RR, hX, hR, hB⟩ := join_pair N xb rb X R A hb hN
  clear hb hN
  obtain ⟨p0, HW1⟩ := hex (w.alloc (.cells (opCells 1 A E S).toArray 34))
  have HBp0 : Hid (Below w.heap.size w p0) := by show Below _ _ _; rw [HW1.out]; exact (Below.refl _ _).alloc (Nat.le_refl _) _
  have HIp0 : Hid (PInv w0 p0 wb xb rb X R a c l) := h.below HBp0.out
  obtain ⟨ob, HOb⟩ := hex w.heap.size
  have HOp0 : Hid (Blk p0 ob 34 (opCells 1 A E S)) := by show Blk _ _ _ _; rw [HW1.out, HOb.out]; exact blk_alloc _ _ _
  have HNx : Hid (some ob ∉ X.fp xb ∧ some ob ∉ R.fp rb) := ⟨fun e => by have := h.inv.mx.fp_lt _ e; have := HOb.out; omega, fun e => by have := h.inv.mr.fp_lt _ e; have := HOb.out; omega⟩
  have hw1 : w.alloc (.cells #[.int .i64 1, .int .i64 A, .int .i64 E.src, .int .i64 E.seq, .int .i64 E.ts, .int .i64 E.kind, .int .i64 E.val, .string S] 34) = p0 := HW1.out.symm
  unfold opVal
  go_enter Tryz.func8, Tryz.ntmps8
  go_upto_region 1 with fail
  rw [← HOb.out]
  clear hw1 HW1 h
  have o0 := HOp0.out.cell 0
  simp only [opCells, List.getElem?_cons_zero, List.getElem?_cons_succ] at o0
  go_upto_region 3 with fail
  refine upTo_region (fun u : World => u.cell? ⟨wb, 0, none⟩ = some (.pointer (some ⟨xb, 0, none⟩)) ∧ u.cell? ⟨ob, 1, none⟩ = some (.int .i64 A)) 7 8 rfl (by kernel_rfl) ?_
  have hS0 : (fun u : World => u.cell? ⟨wb, 0, none⟩ = some (.pointer (some ⟨xb, 0, none⟩)) ∧ u.cell? ⟨ob, 1, none⟩ = some (.int .i64 A)) p0.drew := ⟨HIp0.out.inv.blk.cell 0, HOp0.out.cell 1⟩
  refine upTo_take (i := 0) (v := ?v33_0) rfl (by kernel_rfl) (by kernel_rfl) (by kernel_rfl) (by kernel_rfl) (by rfl) (fun _ _ _ h => h) (by rfl) hS0 ?hy33_0 ?rest33_0
  case hy33_0 => (intro u hu; (try dsimp only at hu); go_simp; first | done | with_reducible rfl)
  (try simp only [Act.put, List.setIfInBounds_toArray, List.set_cons_zero, List.set_cons_succ, List.getElem_toArray, List.getElem_cons_succ, List.getElem_cons_zero])
  refine upTo_take (i := 1) (v := ?v33_1) rfl (by kernel_rfl) (by kernel_rfl) (by kernel_rfl) (by kernel_rfl) (by rfl) (fun _ _ _ h => h) (by rfl) hS0 ?hy33_1 ?rest33_1
  case hy33_1 => (intro u hu; (try dsimp only at hu); go_simp; first | done | with_reducible rfl)
  (try simp only [Act.put, List.setIfInBounds_toArray, List.set_cons_zero, List.set_cons_succ, List.getElem_toArray, List.getElem_cons_succ, List.getElem_cons_zero])
  refine upTo_take (i := 2) (v := ?v33_2) rfl (by kernel_rfl) (by kernel_rfl) (by kernel_rfl) (by kernel_rfl) (by rfl) (fun _ _ _ h => h) (by rfl) hS0 ?hy33_2 ?rest33_2
  case hy33_2 => (intro u hu; (try dsimp only at hu); go_simp; first | done | with_reducible rfl)
  (try simp only [Act.put, List.setIfInBounds_toArray, List.set_cons_zero, List.set_cons_succ, List.getElem_toArray, List.getElem_cons_succ, List.getElem_cons_zero])
  refine upTo_take (i := 3) (v := ?v33_3) rfl (by kernel_rfl) (by kernel_rfl) (by kernel_rfl) (by kernel_rfl) (by rfl) (fun _ _ _ h => h) (by rfl) hS0 ?hy33_3 ?rest33_3
  case hy33_3 => (intro u hu; (try dsimp only at hu); go_simp; first | done | with_reducible rfl)
  (try simp only [Act.put, List.setIfInBounds_toArray, List.set_cons_zero, List.set_cons_succ, List.getElem_toArray, List.getElem_cons_succ, List.getElem_cons_zero])
  refine upTo_take (i := 4) (v := ?v33_4) rfl (by kernel_rfl) (by kernel_rfl) (by kernel_rfl) (by kernel_rfl) (by rfl) (fun _ _ _ h => h) (by rfl) hS0 ?hy33_4 ?rest33_4
  case hy33_4 => (intro u hu; (try dsimp only at hu); go_simp; first | done | with_reducible rfl)
  (try simp only [Act.put, List.setIfInBounds_toArray, List.set_cons_zero, List.set_cons_succ, List.getElem_toArray, List.getElem_cons_succ, List.getElem_cons_zero])
  refine upTo_take (i := 5) (v := ?v33_5) rfl (by kernel_rfl) (by kernel_rfl) (by kernel_rfl) (by kernel_rfl) (by rfl) (fun _ _ _ h => h) (by rfl) hS0 ?hy33_5 ?rest33_5
  case hy33_5 => (intro u hu; (try dsimp only at hu); go_simp; first | done | with_reducible rfl)
  (try simp only [Act.put, List.setIfInBounds_toArray, List.set_cons_zero, List.set_cons_succ, List.getElem_toArray, List.getElem_cons_succ, List.getElem_cons_zero])
  clear hS0
  refine upTo_one (i := 6) (by kernel_rfl) rfl (fun K hK => ?_)
  go_simp
  refine (hX _ HIp0.out.inv.mx.drew).mono ?_
  rintro e p1 ⟨rfl, X2, hrx, hev⟩
  have HEp1 : Hid (EvoX p0 xb X p1 X2) := (EvoX.refl HIp0.out.inv.mx).drewE.trans hev
  have HRp1 : Hid (RX X2) := hrx
  clear hev hrx
  have HIp1 : Hid (PInv w0 p1 wb xb rb X2 R a c l) := HIp0.out.evoX HEp1.out
  have HOp1 : Hid (Blk p1 ob 34 (opCells 1 A E S)) := HOp0.out.kept HEp1.out.kept HNx.out.1
  have hq := HIp1.out
  have ho := HOp1.out
  refine hK.out _ _ (fun _ => ⟨hq.inv.blk.cell 0, ho.cell 1⟩) ?_
  clear hK K hq ho
  (try simp only [Act.put, List.setIfInBounds_toArray, List.set_cons_zero, List.set_cons_succ, List.getElem_toArray, List.getElem_cons_succ, List.getElem_cons_zero])
  refine upTo_one (i := 7) (by kernel_rfl) rfl (fun K hK => ?_)
  go_simp
  refine hK.out _ _ (fun h => absurd rfl h) ?_
  clear hK K
  (try simp only [Act.put, List.setIfInBounds_toArray, List.set_cons_zero, List.set_cons_succ, List.getElem_toArray, List.getElem_cons_succ, List.getElem_cons_zero])
  refine upTo_done (by kernel_rfl) ?_
  go_upto_region 4 with fail
  refine upTo_region (fun u : World => u.cell? ⟨wb, 1, none⟩ = some (.pointer (some ⟨rb, 0, none⟩)) ∧ u.cell? ⟨ob, 1, none⟩ = some (.int .i64 A)) 7 8 rfl (by kernel_rfl) ?_
  have hS0 : (fun u : World => u.cell? ⟨wb, 1, none⟩ = some (.pointer (some ⟨rb, 0, none⟩)) ∧ u.cell? ⟨ob, 1, none⟩ = some (.int .i64 A)) p1.drew := ⟨HIp1.out.inv.blk.cell 1, HOp1.out.cell 1⟩
  refine upTo_take (i := 0) (v := ?v34_0) rfl (by kernel_rfl) (by kernel_rfl) (by kernel_rfl) (by kernel_rfl) (by rfl) (fun _ _ _ h => h) (by rfl) hS0 ?hy34_0 ?rest34_0
  case hy34_0 => (intro u hu; (try dsimp only at hu); go_simp; first | done | with_reducible rfl)
  (try simp only [Act.put, List.setIfInBounds_toArray, List.set_cons_zero, List.set_cons_succ, List.getElem_toArray, List.getElem_cons_succ, List.getElem_cons_zero])
  refine upTo_take (i := 1) (v := ?v34_1) rfl (by kernel_rfl) (by kernel_rfl) (by kernel_rfl) (by kernel_rfl) (by rfl) (fun _ _ _ h => h) (by rfl) hS0 ?hy34_1 ?rest34_1
  case hy34_1 => (intro u hu; (try dsimp only at hu); go_simp; first | done | with_reducible rfl)
  (try simp only [Act.put, List.setIfInBounds_toArray, List.set_cons_zero, List.set_cons_succ, List.getElem_toArray, List.getElem_cons_succ, List.getElem_cons_zero])
  refine upTo_take (i := 2) (v := ?v34_2) rfl (by kernel_rfl) (by kernel_rfl) (by kernel_rfl) (by kernel_rfl) (by rfl) (fun _ _ _ h => h) (by rfl) hS0 ?hy34_2 ?rest34_2
  case hy34_2 => (intro u hu; (try dsimp only at hu); go_simp; first | done | with_reducible rfl)
  (try simp only [Act.put, List.setIfInBounds_toArray, List.set_cons_zero, List.set_cons_succ, List.getElem_toArray, List.getElem_cons_succ, List.getElem_cons_zero])
  refine upTo_take (i := 3) (v := ?v34_3) rfl (by kernel_rfl) (by kernel_rfl) (by kernel_rfl) (by kernel_rfl) (by rfl) (fun _ _ _ h => h) (by rfl) hS0 ?hy34_3 ?rest34_3
  case hy34_3 => (intro u hu; (try dsimp only at hu); go_simp; first | done | with_reducible rfl)
  (try simp only [Act.put, List.setIfInBounds_toArray, List.set_cons_zero, List.set_cons_succ, List.getElem_toArray, List.getElem_cons_succ, List.getElem_cons_zero])
  refine upTo_take (i := 4) (v := ?v34_4) rfl (by kernel_rfl) (by kernel_rfl) (by kernel_rfl) (by kernel_rfl) (by rfl) (fun _ _ _ h => h) (by rfl) hS0 ?hy34_4 ?rest34_4
  case hy34_4 => (intro u hu; (try dsimp only at hu); go_simp; first | done | with_reducible rfl)
  (try simp only [Act.put, List.setIfInBounds_toArray, List.set_cons_zero, List.set_cons_succ, List.getElem_toArray, List.getElem_cons_succ, List.getElem_cons_zero])
  refine upTo_take (i := 5) (v := ?v34_5) rfl (by kernel_rfl) (by kernel_rfl) (by kernel_rfl) (by kernel_rfl) (by rfl) (fun _ _ _ h => h) (by rfl) hS0 ?hy34_5 ?rest34_5
  case hy34_5 => (intro u hu; (try dsimp only at hu); go_simp; first | done | with_reducible rfl)
  (try simp only [Act.put, List.setIfInBounds_toArray, List.set_cons_zero, List.set_cons_succ, List.getElem_toArray, List.getElem_cons_succ, List.getElem_cons_zero])
  clear hS0
  refine upTo_one (i := 6) (by kernel_rfl) rfl (fun K hK => ?_)
  go_simp
  refine (hR _ HIp1.out.inv.mr.drew).mono ?_
  rintro e p2 ⟨rfl, R2, hrr, hev⟩
  have HEp2 : Hid (Evo p1 rb R p2 R2) := (Evo.refl HIp1.out.inv.mr).drewE.trans hev
  have HRp2 : Hid (RR R2) := hrr
  clear hev hrr
  have HIp2 : Hid (PInv w0 p2 wb xb rb X2 R2 a c l) := HIp1.out.evoR HEp2.out
  have HOp2 : Hid (Blk p2 ob 34 (opCells 1 A E S)) := HOp1.out.kept HEp2.out.kept HNx.out.2
  have hq := HIp2.out
  have ho := HOp2.out
  refine hK.out _ _ (fun _ => ⟨hq.inv.blk.cell 1, ho.cell 1⟩) ?_
  clear hK K hq ho
  (try simp only [Act.put, List.setIfInBounds_toArray, List.set_cons_zero, List.set_cons_succ, List.getElem_toArray, List.getElem_cons_succ, List.getElem_cons_zero])
  refine upTo_one (i := 7) (by kernel_rfl) rfl (fun K hK => ?_)
  go_simp
  refine hK.out _ _ (fun h => absurd rfl h) ?_
  clear hK K
  (try simp only [Act.put, List.setIfInBounds_toArray, List.set_cons_zero, List.set_cons_succ, List.getElem_toArray, List.getElem_cons_succ, List.getElem_cons_zero])
  refine upTo_done (by kernel_rfl) ?_
  have hBo := hB _ _ HRp1.out HRp2.out
  clear hX hR hB
  go_wp2_with (go_at_call 13; refine (num_any _ _).mono ?_; rintro e w' ⟨rfl, rfl⟩)
  go_ret
  exact ⟨rfl, X2, R2, HIp2.out, hBo⟩
set_option maxRecDepth 100000 in
set_option maxHeartbeats 4000000 in
theorem does_leave (N : Nat) (w0 w : World) (wb xb rb : Nat) (X : Eng) (R : Ref) (a : Option Addr) (c : Nat) (l : List El) (A : Int) (E : Ev) (S : ByteArray) (h : PInv w0 w wb xb rb X R a c l) (hb : Both N X R) (hN : N ≤ 7000000000000) :
    Calls Tryz.prog 8 #[.pointer (some ⟨wb, 0, none⟩), opVal 2 A E S] w fun e w' => e = .returned (.bool true) ∧ ∃ X' R', PInv w0 w' wb xb rb X' R' a c l ∧ Both (N + 2) X' R' := by
  obtain ⟨z, RX, RR, hX, hR, hB⟩ := leave_pair N xb rb X R A hb hN
  clear hb hN
  obtain ⟨p0, HW1⟩ := hex (w.alloc (.cells (opCells 2 A E S).toArray 34))
  have HBp0 : Hid (Below w.heap.size w p0) := by show Below _ _ _; rw [HW1.out]; exact (Below.refl _ _).alloc (Nat.le_refl _) _
  have HIp0 : Hid (PInv w0 p0 wb xb rb X R a c l) := h.below HBp0.out
  obtain ⟨ob, HOb⟩ := hex w.heap.size
  have HOp0 : Hid (Blk p0 ob 34 (opCells 2 A E S)) := by show Blk _ _ _ _; rw [HW1.out, HOb.out]; exact blk_alloc _ _ _
  have HNx : Hid (some ob ∉ X.fp xb ∧ some ob ∉ R.fp rb) := ⟨fun e => by have := h.inv.mx.fp_lt _ e; have := HOb.out; omega, fun e => by have := h.inv.mr.fp_lt _ e; have := HOb.out; omega⟩
  have hw1 : w.alloc (.cells #[.int .i64 2, .int .i64 A, .int .i64 E.src, .int .i64 E.seq, .int .i64 E.ts, .int .i64 E.kind, .int .i64 E.val, .string S] 34) = p0 := HW1.out.symm
  unfold opVal
  go_enter Tryz.func8, Tryz.ntmps8
  go_upto_region 1 with fail
  rw [← HOb.out]
  clear hw1 HW1 h
  have o0 := HOp0.out.cell 0
  simp only [opCells, List.getElem?_cons_zero, List.getElem?_cons_succ] at o0
  go_upto_region 7 with fail
  refine upTo_region (fun u : World => u.cell? ⟨wb, 0, none⟩ = some (.pointer (some ⟨xb, 0, none⟩)) ∧ u.cell? ⟨ob, 1, none⟩ = some (.int .i64 A)) 7 8 rfl (by kernel_rfl) ?_
  have hS0 : (fun u : World => u.cell? ⟨wb, 0, none⟩ = some (.pointer (some ⟨xb, 0, none⟩)) ∧ u.cell? ⟨ob, 1, none⟩ = some (.int .i64 A)) p0.drew := ⟨HIp0.out.inv.blk.cell 0, HOp0.out.cell 1⟩
  refine upTo_take (i := 0) (v := ?v35_0) rfl (by kernel_rfl) (by kernel_rfl) (by kernel_rfl) (by kernel_rfl) (by rfl) (fun _ _ _ h => h) (by rfl) hS0 ?hy35_0 ?rest35_0
  case hy35_0 => (intro u hu; (try dsimp only at hu); go_simp; first | done | with_reducible rfl)
  (try simp only [Act.put, List.setIfInBounds_toArray, List.set_cons_zero, List.set_cons_succ, List.getElem_toArray, List.getElem_cons_succ, List.getElem_cons_zero])
  refine upTo_take (i := 1) (v := ?v35_1) rfl (by kernel_rfl) (by kernel_rfl) (by kernel_rfl) (by kernel_rfl) (by rfl) (fun _ _ _ h => h) (by rfl) hS0 ?hy35_1 ?rest35_1
  case hy35_1 => (intro u hu; (try dsimp only at hu); go_simp; first | done | with_reducible rfl)
  (try simp only [Act.put, List.setIfInBounds_toArray, List.set_cons_zero, List.set_cons_succ, List.getElem_toArray, List.getElem_cons_succ, List.getElem_cons_zero])
  refine upTo_take (i := 2) (v := ?v35_2) rfl (by kernel_rfl) (by kernel_rfl) (by kernel_rfl) (by kernel_rfl) (by rfl) (fun _ _ _ h => h) (by rfl) hS0 ?hy35_2 ?rest35_2
  case hy35_2 => (intro u hu; (try dsimp only at hu); go_simp; first | done | with_reducible rfl)
  (try simp only [Act.put, List.setIfInBounds_toArray, List.set_cons_zero, List.set_cons_succ, List.getElem_toArray, List.getElem_cons_succ, List.getElem_cons_zero])
  refine upTo_take (i := 3) (v := ?v35_3) rfl (by kernel_rfl) (by kernel_rfl) (by kernel_rfl) (by kernel_rfl) (by rfl) (fun _ _ _ h => h) (by rfl) hS0 ?hy35_3 ?rest35_3
  case hy35_3 => (intro u hu; (try dsimp only at hu); go_simp; first | done | with_reducible rfl)
  (try simp only [Act.put, List.setIfInBounds_toArray, List.set_cons_zero, List.set_cons_succ, List.getElem_toArray, List.getElem_cons_succ, List.getElem_cons_zero])
  refine upTo_take (i := 4) (v := ?v35_4) rfl (by kernel_rfl) (by kernel_rfl) (by kernel_rfl) (by kernel_rfl) (by rfl) (fun _ _ _ h => h) (by rfl) hS0 ?hy35_4 ?rest35_4
  case hy35_4 => (intro u hu; (try dsimp only at hu); go_simp; first | done | with_reducible rfl)
  (try simp only [Act.put, List.setIfInBounds_toArray, List.set_cons_zero, List.set_cons_succ, List.getElem_toArray, List.getElem_cons_succ, List.getElem_cons_zero])
  refine upTo_take (i := 5) (v := ?v35_5) rfl (by kernel_rfl) (by kernel_rfl) (by kernel_rfl) (by kernel_rfl) (by rfl) (fun _ _ _ h => h) (by rfl) hS0 ?hy35_5 ?rest35_5
  case hy35_5 => (intro u hu; (try dsimp only at hu); go_simp; first | done | with_reducible rfl)
  (try simp only [Act.put, List.setIfInBounds_toArray, List.set_cons_zero, List.set_cons_succ, List.getElem_toArray, List.getElem_cons_succ, List.getElem_cons_zero])
  clear hS0
  refine upTo_one (i := 6) (by kernel_rfl) rfl (fun K hK => ?_)
  go_simp
  refine (hX _ HIp0.out.inv.mx.drew).mono ?_
  rintro e p1 ⟨rfl, X2, hrx, hev⟩
  have HEp1 : Hid (EvoX p0 xb X p1 X2) := (EvoX.refl HIp0.out.inv.mx).drewE.trans hev
  have HRp1 : Hid (RX X2) := hrx
  clear hev hrx
  have HIp1 : Hid (PInv w0 p1 wb xb rb X2 R a c l) := HIp0.out.evoX HEp1.out
  have HOp1 : Hid (Blk p1 ob 34 (opCells 2 A E S)) := HOp0.out.kept HEp1.out.kept HNx.out.1
  have hq := HIp1.out
  have ho := HOp1.out
  refine hK.out _ _ (fun _ => ⟨hq.inv.blk.cell 0, ho.cell 1⟩) ?_
  clear hK K hq ho
  (try simp only [Act.put, List.setIfInBounds_toArray, List.set_cons_zero, List.set_cons_succ, List.getElem_toArray, List.getElem_cons_succ, List.getElem_cons_zero])
  refine upTo_one (i := 7) (by kernel_rfl) rfl (fun K hK => ?_)
  go_simp
  refine hK.out _ _ (fun h => absurd rfl h) ?_
  clear hK K
  (try simp only [Act.put, List.setIfInBounds_toArray, List.set_cons_zero, List.set_cons_succ, List.getElem_toArray, List.getElem_cons_succ, List.getElem_cons_zero])
  refine upTo_done (by kernel_rfl) ?_
  go_upto_region 8 with fail
  refine upTo_region (fun u : World => u.cell? ⟨wb, 1, none⟩ = some (.pointer (some ⟨rb, 0, none⟩)) ∧ u.cell? ⟨ob, 1, none⟩ = some (.int .i64 A)) 7 8 rfl (by kernel_rfl) ?_
  have hS0 : (fun u : World => u.cell? ⟨wb, 1, none⟩ = some (.pointer (some ⟨rb, 0, none⟩)) ∧ u.cell? ⟨ob, 1, none⟩ = some (.int .i64 A)) p1.drew := ⟨HIp1.out.inv.blk.cell 1, HOp1.out.cell 1⟩
  refine upTo_take (i := 0) (v := ?v36_0) rfl (by kernel_rfl) (by kernel_rfl) (by kernel_rfl) (by kernel_rfl) (by rfl) (fun _ _ _ h => h) (by rfl) hS0 ?hy36_0 ?rest36_0
  case hy36_0 => (intro u hu; (try dsimp only at hu); go_simp; first | done | with_reducible rfl)
  (try simp only [Act.put, List.setIfInBounds_toArray, List.set_cons_zero, List.set_cons_succ, List.getElem_toArray, List.getElem_cons_succ, List.getElem_cons_zero])
  refine upTo_take (i := 1) (v := ?v36_1) rfl (by kernel_rfl) (by kernel_rfl) (by kernel_rfl) (by kernel_rfl) (by rfl) (fun _ _ _ h => h) (by rfl) hS0 ?hy36_1 ?rest36_1
  case hy36_1 => (intro u hu; (try dsimp only at hu); go_simp; first | done | with_reducible rfl)
  (try simp only [Act.put, List.setIfInBounds_toArray, List.set_cons_zero, List.set_cons_succ, List.getElem_toArray, List.getElem_cons_succ, List.getElem_cons_zero])
  refine upTo_take (i := 2) (v := ?v36_2) rfl (by kernel_rfl) (by kernel_rfl) (by kernel_rfl) (by kernel_rfl) (by rfl) (fun _ _ _ h => h) (by rfl) hS0 ?hy36_2 ?rest36_2
  case hy36_2 => (intro u hu; (try dsimp only at hu); go_simp; first | done | with_reducible rfl)
  (try simp only [Act.put, List.setIfInBounds_toArray, List.set_cons_zero, List.set_cons_succ, List.getElem_toArray, List.getElem_cons_succ, List.getElem_cons_zero])
  refine upTo_take (i := 3) (v := ?v36_3) rfl (by kernel_rfl) (by kernel_rfl) (by kernel_rfl) (by kernel_rfl) (by rfl) (fun _ _ _ h => h) (by rfl) hS0 ?hy36_3 ?rest36_3
  case hy36_3 => (intro u hu; (try dsimp only at hu); go_simp; first | done | with_reducible rfl)
  (try simp only [Act.put, List.setIfInBounds_toArray, List.set_cons_zero, List.set_cons_succ, List.getElem_toArray, List.getElem_cons_succ, List.getElem_cons_zero])
  refine upTo_take (i := 4) (v := ?v36_4) rfl (by kernel_rfl) (by kernel_rfl) (by kernel_rfl) (by kernel_rfl) (by rfl) (fun _ _ _ h => h) (by rfl) hS0 ?hy36_4 ?rest36_4
  case hy36_4 => (intro u hu; (try dsimp only at hu); go_simp; first | done | with_reducible rfl)
  (try simp only [Act.put, List.setIfInBounds_toArray, List.set_cons_zero, List.set_cons_succ, List.getElem_toArray, List.getElem_cons_succ, List.getElem_cons_zero])
  refine upTo_take (i := 5) (v := ?v36_5) rfl (by kernel_rfl) (by kernel_rfl) (by kernel_rfl) (by kernel_rfl) (by rfl) (fun _ _ _ h => h) (by rfl) hS0 ?hy36_5 ?rest36_5
  case hy36_5 => (intro u hu; (try dsimp only at hu); go_simp; first | done | with_reducible rfl)
  (try simp only [Act.put, List.setIfInBounds_toArray, List.set_cons_zero, List.set_cons_succ, List.getElem_toArray, List.getElem_cons_succ, List.getElem_cons_zero])
  clear hS0
  refine upTo_one (i := 6) (by kernel_rfl) rfl (fun K hK => ?_)
  go_simp
  refine (hR _ HIp1.out.inv.mr.drew).mono ?_
  rintro e p2 ⟨rfl, R2, hrr, hev⟩
  have HEp2 : Hid (Evo p1 rb R p2 R2) := (Evo.refl HIp1.out.inv.mr).drewE.trans hev
  have HRp2 : Hid (RR R2) := hrr
  clear hev hrr
  have HIp2 : Hid (PInv w0 p2 wb xb rb X2 R2 a c l) := HIp1.out.evoR HEp2.out
  have HOp2 : Hid (Blk p2 ob 34 (opCells 2 A E S)) := HOp1.out.kept HEp2.out.kept HNx.out.2
  have hq := HIp2.out
  have ho := HOp2.out
  refine hK.out _ _ (fun _ => ⟨hq.inv.blk.cell 1, ho.cell 1⟩) ?_
  clear hK K hq ho
  (try simp only [Act.put, List.setIfInBounds_toArray, List.set_cons_zero, List.set_cons_succ, List.getElem_toArray, List.getElem_cons_succ, List.getElem_cons_zero])
  refine upTo_one (i := 7) (by kernel_rfl) rfl (fun K hK => ?_)
  go_simp
  refine hK.out _ _ (fun h => absurd rfl h) ?_
  clear hK K
  (try simp only [Act.put, List.setIfInBounds_toArray, List.set_cons_zero, List.set_cons_succ, List.getElem_toArray, List.getElem_cons_succ, List.getElem_cons_zero])
  refine upTo_done (by kernel_rfl) ?_
  have hBo := hB _ _ HRp1.out HRp2.out
  clear hX hR hB
  go_wp2_with (go_at_call 13; refine (num_any _ _).mono ?_; rintro e w' ⟨rfl, rfl⟩)
  go_ret
  exact ⟨rfl, X2, R2, HIp2.out, hBo⟩
set_option maxRecDepth 100000 in
set_option maxHeartbeats 4000000 in
theorem does_punct (N : Nat) (w0 w : World) (wb xb rb : Nat) (X : Eng) (R : Ref) (a : Option Addr) (c : Nat) (l : List El) (A : Int) (E : Ev) (S : ByteArray) (h : PInv w0 w wb xb rb X R a c l) (hb : Both N X R) (hN : N ≤ 7000000000000) :
    Calls Tryz.prog 8 #[.pointer (some ⟨wb, 0, none⟩), opVal 4 A E S] w fun e w' => e = .returned (.bool true) ∧ ∃ X' R', PInv w0 w' wb xb rb X' R' a c l ∧ Both (N + 2) X' R' := by
  obtain ⟨z, RX, RR, hX, hR, hB⟩ := punct_pair N xb rb X R A E.ts hb hN
  clear hb hN
  obtain ⟨p0, HW1⟩ := hex (w.alloc (.cells (opCells 4 A E S).toArray 34))
  have HBp0 : Hid (Below w.heap.size w p0) := by show Below _ _ _; rw [HW1.out]; exact (Below.refl _ _).alloc (Nat.le_refl _) _
  have HIp0 : Hid (PInv w0 p0 wb xb rb X R a c l) := h.below HBp0.out
  obtain ⟨ob, HOb⟩ := hex w.heap.size
  have HOp0 : Hid (Blk p0 ob 34 (opCells 4 A E S)) := by show Blk _ _ _ _; rw [HW1.out, HOb.out]; exact blk_alloc _ _ _
  have HNx : Hid (some ob ∉ X.fp xb ∧ some ob ∉ R.fp rb) := ⟨fun e => by have := h.inv.mx.fp_lt _ e; have := HOb.out; omega, fun e => by have := h.inv.mr.fp_lt _ e; have := HOb.out; omega⟩
  have hw1 : w.alloc (.cells #[.int .i64 4, .int .i64 A, .int .i64 E.src, .int .i64 E.seq, .int .i64 E.ts, .int .i64 E.kind, .int .i64 E.val, .string S] 34) = p0 := HW1.out.symm
  unfold opVal
  go_enter Tryz.func8, Tryz.ntmps8
  go_upto_region 1 with fail
  rw [← HOb.out]
  clear hw1 HW1 h
  have o0 := HOp0.out.cell 0
  simp only [opCells, List.getElem?_cons_zero, List.getElem?_cons_succ] at o0
  go_upto_region 15 with fail
  refine upTo_region (fun u : World => u.cell? ⟨wb, 0, none⟩ = some (.pointer (some ⟨xb, 0, none⟩)) ∧ u.cell? ⟨ob, 1, none⟩ = some (.int .i64 A) ∧ u.cell? ⟨ob, 4, none⟩ = some (.int .i64 E.ts)) 10 11 rfl (by kernel_rfl) ?_
  have hS0 : (fun u : World => u.cell? ⟨wb, 0, none⟩ = some (.pointer (some ⟨xb, 0, none⟩)) ∧ u.cell? ⟨ob, 1, none⟩ = some (.int .i64 A) ∧ u.cell? ⟨ob, 4, none⟩ = some (.int .i64 E.ts)) p0.drew := ⟨HIp0.out.inv.blk.cell 0, HOp0.out.cell 1, HOp0.out.cell 4⟩
  refine upTo_take (i := 0) (v := ?v37_0) rfl (by kernel_rfl) (by kernel_rfl) (by kernel_rfl) (by kernel_rfl) (by rfl) (fun _ _ _ h => h) (by rfl) hS0 ?hy37_0 ?rest37_0
  case hy37_0 => (intro u hu; (try dsimp only at hu); go_simp; first | done | with_reducible rfl)
  (try simp only [Act.put, List.setIfInBounds_toArray, List.set_cons_zero, List.set_cons_succ, List.getElem_toArray, List.getElem_cons_succ, List.getElem_cons_zero])
  refine upTo_take (i := 1) (v := ?v37_1) rfl (by kernel_rfl) (by kernel_rfl) (by kernel_rfl) (by kernel_rfl) (by rfl) (fun _ _ _ h => h) (by rfl) hS0 ?hy37_1 ?rest37_1
  case hy37_1 => (intro u hu; (try dsimp only at hu); go_simp; first | done | with_reducible rfl)
  (try simp only [Act.put, List.setIfInBounds_toArray, List.set_cons_zero, List.set_cons_succ, List.getElem_toArray, List.getElem_cons_succ, List.getElem_cons_zero])
  refine upTo_take (i := 2) (v := ?v37_2) rfl (by kernel_rfl) (by kernel_rfl) (by kernel_rfl) (by kernel_rfl) (by rfl) (fun _ _ _ h => h) (by rfl) hS0 ?hy37_2 ?rest37_2
  case hy37_2 => (intro u hu; (try dsimp only at hu); go_simp; first | done | with_reducible rfl)
  (try simp only [Act.put, List.setIfInBounds_toArray, List.set_cons_zero, List.set_cons_succ, List.getElem_toArray, List.getElem_cons_succ, List.getElem_cons_zero])
  refine upTo_take (i := 3) (v := ?v37_3) rfl (by kernel_rfl) (by kernel_rfl) (by kernel_rfl) (by kernel_rfl) (by rfl) (fun _ _ _ h => h) (by rfl) hS0 ?hy37_3 ?rest37_3
  case hy37_3 => (intro u hu; (try dsimp only at hu); go_simp; first | done | with_reducible rfl)
  (try simp only [Act.put, List.setIfInBounds_toArray, List.set_cons_zero, List.set_cons_succ, List.getElem_toArray, List.getElem_cons_succ, List.getElem_cons_zero])
  refine upTo_take (i := 4) (v := ?v37_4) rfl (by kernel_rfl) (by kernel_rfl) (by kernel_rfl) (by kernel_rfl) (by rfl) (fun _ _ _ h => h) (by rfl) hS0 ?hy37_4 ?rest37_4
  case hy37_4 => (intro u hu; (try dsimp only at hu); go_simp; first | done | with_reducible rfl)
  (try simp only [Act.put, List.setIfInBounds_toArray, List.set_cons_zero, List.set_cons_succ, List.getElem_toArray, List.getElem_cons_succ, List.getElem_cons_zero])
  refine upTo_take (i := 5) (v := ?v37_5) rfl (by kernel_rfl) (by kernel_rfl) (by kernel_rfl) (by kernel_rfl) (by rfl) (fun _ _ _ h => h) (by rfl) hS0 ?hy37_5 ?rest37_5
  case hy37_5 => (intro u hu; (try dsimp only at hu); go_simp; first | done | with_reducible rfl)
  (try simp only [Act.put, List.setIfInBounds_toArray, List.set_cons_zero, List.set_cons_succ, List.getElem_toArray, List.getElem_cons_succ, List.getElem_cons_zero])
  refine upTo_take (i := 6) (v := ?v37_6) rfl (by kernel_rfl) (by kernel_rfl) (by kernel_rfl) (by kernel_rfl) (by rfl) (fun _ _ _ h => h) (by rfl) hS0 ?hy37_6 ?rest37_6
  case hy37_6 => (intro u hu; (try dsimp only at hu); go_simp; first | done | with_reducible rfl)
  (try simp only [Act.put, List.setIfInBounds_toArray, List.set_cons_zero, List.set_cons_succ, List.getElem_toArray, List.getElem_cons_succ, List.getElem_cons_zero])
  refine upTo_take (i := 7) (v := ?v37_7) rfl (by kernel_rfl) (by kernel_rfl) (by kernel_rfl) (by kernel_rfl) (by rfl) (fun _ _ _ h => h) (by rfl) hS0 ?hy37_7 ?rest37_7
  case hy37_7 => (intro u hu; (try dsimp only at hu); go_simp; first | done | with_reducible rfl)
  (try simp only [Act.put, List.setIfInBounds_toArray, List.set_cons_zero, List.set_cons_succ, List.getElem_toArray, List.getElem_cons_succ, List.getElem_cons_zero])
  refine upTo_take (i := 8) (v := ?v37_8) rfl (by kernel_rfl) (by kernel_rfl) (by kernel_rfl) (by kernel_rfl) (by rfl) (fun _ _ _ h => h) (by rfl) hS0 ?hy37_8 ?rest37_8
  case hy37_8 => (intro u hu; (try dsimp only at hu); go_simp; first | done | with_reducible rfl)
  (try simp only [Act.put, List.setIfInBounds_toArray, List.set_cons_zero, List.set_cons_succ, List.getElem_toArray, List.getElem_cons_succ, List.getElem_cons_zero])
  clear hS0
  refine upTo_one (i := 9) (by kernel_rfl) rfl (fun K hK => ?_)
  go_simp
  refine (hX _ HIp0.out.inv.mx.drew).mono ?_
  rintro e p1 ⟨rfl, X2, hrx, hev⟩
  have HEp1 : Hid (EvoX p0 xb X p1 X2) := (EvoX.refl HIp0.out.inv.mx).drewE.trans hev
  have HRp1 : Hid (RX X2) := hrx
  clear hev hrx
  have HIp1 : Hid (PInv w0 p1 wb xb rb X2 R a c l) := HIp0.out.evoX HEp1.out
  have HOp1 : Hid (Blk p1 ob 34 (opCells 4 A E S)) := HOp0.out.kept HEp1.out.kept HNx.out.1
  have hq := HIp1.out
  have ho := HOp1.out
  refine hK.out _ _ (fun _ => ⟨hq.inv.blk.cell 0, ho.cell 1, ho.cell 4⟩) ?_
  clear hK K hq ho
  (try simp only [Act.put, List.setIfInBounds_toArray, List.set_cons_zero, List.set_cons_succ, List.getElem_toArray, List.getElem_cons_succ, List.getElem_cons_zero])
  refine upTo_one (i := 10) (by kernel_rfl) rfl (fun K hK => ?_)
  go_simp
  refine hK.out _ _ (fun h => absurd rfl h) ?_
  clear hK K
  (try simp only [Act.put, List.setIfInBounds_toArray, List.set_cons_zero, List.set_cons_succ, List.getElem_toArray, List.getElem_cons_succ, List.getElem_cons_zero])
  refine upTo_done (by kernel_rfl) ?_
  go_upto_region 16 with fail
  refine upTo_region (fun u : World => u.cell? ⟨wb, 1, none⟩ = some (.pointer (some ⟨rb, 0, none⟩)) ∧ u.cell? ⟨ob, 1, none⟩ = some (.int .i64 A) ∧ u.cell? ⟨ob, 4, none⟩ = some (.int .i64 E.ts)) 10 11 rfl (by kernel_rfl) ?_
  have hS0 : (fun u : World => u.cell? ⟨wb, 1, none⟩ = some (.pointer (some ⟨rb, 0, none⟩)) ∧ u.cell? ⟨ob, 1, none⟩ = some (.int .i64 A) ∧ u.cell? ⟨ob, 4, none⟩ = some (.int .i64 E.ts)) p1.drew := ⟨HIp1.out.inv.blk.cell 1, HOp1.out.cell 1, HOp1.out.cell 4⟩
  refine upTo_take (i := 0) (v := ?v38_0) rfl (by kernel_rfl) (by kernel_rfl) (by kernel_rfl) (by kernel_rfl) (by rfl) (fun _ _ _ h => h) (by rfl) hS0 ?hy38_0 ?rest38_0
  case hy38_0 => (intro u hu; (try dsimp only at hu); go_simp; first | done | with_reducible rfl)
  (try simp only [Act.put, List.setIfInBounds_toArray, List.set_cons_zero, List.set_cons_succ, List.getElem_toArray, List.getElem_cons_succ, List.getElem_cons_zero])
  refine upTo_take (i := 1) (v := ?v38_1) rfl (by kernel_rfl) (by kernel_rfl) (by kernel_rfl) (by kernel_rfl) (by rfl) (fun _ _ _ h => h) (by rfl) hS0 ?hy38_1 ?rest38_1
  case hy38_1 => (intro u hu; (try dsimp only at hu); go_simp; first | done | with_reducible rfl)
  (try simp only [Act.put, List.setIfInBounds_toArray, List.set_cons_zero, List.set_cons_succ, List.getElem_toArray, List.getElem_cons_succ, List.getElem_cons_zero])
  refine upTo_take (i := 2) (v := ?v38_2) rfl (by kernel_rfl) (by kernel_rfl) (by kernel_rfl) (by kernel_rfl) (by rfl) (fun _ _ _ h => h) (by rfl) hS0 ?hy38_2 ?rest38_2
  case hy38_2 => (intro u hu; (try dsimp only at hu); go_simp; first | done | with_reducible rfl)
  (try simp only [Act.put, List.setIfInBounds_toArray, List.set_cons_zero, List.set_cons_succ, List.getElem_toArray, List.getElem_cons_succ, List.getElem_cons_zero])
  refine upTo_take (i := 3) (v := ?v38_3) rfl (by kernel_rfl) (by kernel_rfl) (by kernel_rfl) (by kernel_rfl) (by rfl) (fun _ _ _ h => h) (by rfl) hS0 ?hy38_3 ?rest38_3
  case hy38_3 => (intro u hu; (try dsimp only at hu); go_simp; first | done | with_reducible rfl)
  (try simp only [Act.put, List.setIfInBounds_toArray, List.set_cons_zero, List.set_cons_succ, List.getElem_toArray, List.getElem_cons_succ, List.getElem_cons_zero])
  refine upTo_take (i := 4) (v := ?v38_4) rfl (by kernel_rfl) (by kernel_rfl) (by kernel_rfl) (by kernel_rfl) (by rfl) (fun _ _ _ h => h) (by rfl) hS0 ?hy38_4 ?rest38_4
  case hy38_4 => (intro u hu; (try dsimp only at hu); go_simp; first | done | with_reducible rfl)
  (try simp only [Act.put, List.setIfInBounds_toArray, List.set_cons_zero, List.set_cons_succ, List.getElem_toArray, List.getElem_cons_succ, List.getElem_cons_zero])
  refine upTo_take (i := 5) (v := ?v38_5) rfl (by kernel_rfl) (by kernel_rfl) (by kernel_rfl) (by kernel_rfl) (by rfl) (fun _ _ _ h => h) (by rfl) hS0 ?hy38_5 ?rest38_5
  case hy38_5 => (intro u hu; (try dsimp only at hu); go_simp; first | done | with_reducible rfl)
  (try simp only [Act.put, List.setIfInBounds_toArray, List.set_cons_zero, List.set_cons_succ, List.getElem_toArray, List.getElem_cons_succ, List.getElem_cons_zero])
  refine upTo_take (i := 6) (v := ?v38_6) rfl (by kernel_rfl) (by kernel_rfl) (by kernel_rfl) (by kernel_rfl) (by rfl) (fun _ _ _ h => h) (by rfl) hS0 ?hy38_6 ?rest38_6
  case hy38_6 => (intro u hu; (try dsimp only at hu); go_simp; first | done | with_reducible rfl)
  (try simp only [Act.put, List.setIfInBounds_toArray, List.set_cons_zero, List.set_cons_succ, List.getElem_toArray, List.getElem_cons_succ, List.getElem_cons_zero])
  refine upTo_take (i := 7) (v := ?v38_7) rfl (by kernel_rfl) (by kernel_rfl) (by kernel_rfl) (by kernel_rfl) (by rfl) (fun _ _ _ h => h) (by rfl) hS0 ?hy38_7 ?rest38_7
  case hy38_7 => (intro u hu; (try dsimp only at hu); go_simp; first | done | with_reducible rfl)
  (try simp only [Act.put, List.setIfInBounds_toArray, List.set_cons_zero, List.set_cons_succ, List.getElem_toArray, List.getElem_cons_succ, List.getElem_cons_zero])
  refine upTo_take (i := 8) (v := ?v38_8) rfl (by kernel_rfl) (by kernel_rfl) (by kernel_rfl) (by kernel_rfl) (by rfl) (fun _ _ _ h => h) (by rfl) hS0 ?hy38_8 ?rest38_8
  case hy38_8 => (intro u hu; (try dsimp only at hu); go_simp; first | done | with_reducible rfl)
  (try simp only [Act.put, List.setIfInBounds_toArray, List.set_cons_zero, List.set_cons_succ, List.getElem_toArray, List.getElem_cons_succ, List.getElem_cons_zero])
  clear hS0
  refine upTo_one (i := 9) (by kernel_rfl) rfl (fun K hK => ?_)
  go_simp
  refine (hR _ HIp1.out.inv.mr.drew).mono ?_
  rintro e p2 ⟨rfl, R2, hrr, hev⟩
  have HEp2 : Hid (Evo p1 rb R p2 R2) := (Evo.refl HIp1.out.inv.mr).drewE.trans hev
  have HRp2 : Hid (RR R2) := hrr
  clear hev hrr
  have HIp2 : Hid (PInv w0 p2 wb xb rb X2 R2 a c l) := HIp1.out.evoR HEp2.out
  have HOp2 : Hid (Blk p2 ob 34 (opCells 4 A E S)) := HOp1.out.kept HEp2.out.kept HNx.out.2
  have hq := HIp2.out
  have ho := HOp2.out
  refine hK.out _ _ (fun _ => ⟨hq.inv.blk.cell 1, ho.cell 1, ho.cell 4⟩) ?_
  clear hK K hq ho
  (try simp only [Act.put, List.setIfInBounds_toArray, List.set_cons_zero, List.set_cons_succ, List.getElem_toArray, List.getElem_cons_succ, List.getElem_cons_zero])
  refine upTo_one (i := 10) (by kernel_rfl) rfl (fun K hK => ?_)
  go_simp
  refine hK.out _ _ (fun h => absurd rfl h) ?_
  clear hK K
  (try simp only [Act.put, List.setIfInBounds_toArray, List.set_cons_zero, List.set_cons_succ, List.getElem_toArray, List.getElem_cons_succ, List.getElem_cons_zero])
  refine upTo_done (by kernel_rfl) ?_
  have hBo := hB _ _ HRp1.out HRp2.out
  clear hX hR hB
  go_wp2_with (go_at_call 13; refine (num_any _ _).mono ?_; rintro e w' ⟨rfl, rfl⟩)
  go_ret
  exact ⟨rfl, X2, R2, HIp2.out, hBo⟩
set_option maxRecDepth 100000 in
set_option maxHeartbeats 4000000 in
theorem does_tick (N : Nat) (w0 w : World) (wb xb rb : Nat) (X : Eng) (R : Ref) (a : Option Addr) (c : Nat) (l : List El) (A : Int) (E : Ev) (S : ByteArray) (h : PInv w0 w wb xb rb X R a c l) (hb : Both N X R) (hN : N ≤ 7000000000000) :
    Calls Tryz.prog 8 #[.pointer (some ⟨wb, 0, none⟩), opVal 5 A E S] w fun e w' => e = .returned (.bool true) ∧ ∃ X' R', PInv w0 w' wb xb rb X' R' a c l ∧ Both (N + 2) X' R' := by
  obtain ⟨z, RX, RR, hX, hR, hB⟩ := tick_pair N xb rb X R A hb hN
  clear hb hN
  obtain ⟨p0, HW1⟩ := hex (w.alloc (.cells (opCells 5 A E S).toArray 34))
  have HBp0 : Hid (Below w.heap.size w p0) := by show Below _ _ _; rw [HW1.out]; exact (Below.refl _ _).alloc (Nat.le_refl _) _
  have HIp0 : Hid (PInv w0 p0 wb xb rb X R a c l) := h.below HBp0.out
  obtain ⟨ob, HOb⟩ := hex w.heap.size
  have HOp0 : Hid (Blk p0 ob 34 (opCells 5 A E S)) := by show Blk _ _ _ _; rw [HW1.out, HOb.out]; exact blk_alloc _ _ _
  have HNx : Hid (some ob ∉ X.fp xb ∧ some ob ∉ R.fp rb) := ⟨fun e => by have := h.inv.mx.fp_lt _ e; have := HOb.out; omega, fun e => by have := h.inv.mr.fp_lt _ e; have := HOb.out; omega⟩
  have hw1 : w.alloc (.cells #[.int .i64 5, .int .i64 A, .int .i64 E.src, .int .i64 E.seq, .int .i64 E.ts, .int .i64 E.kind, .int .i64 E.val, .string S] 34) = p0 := HW1.out.symm
  unfold opVal
  go_enter Tryz.func8, Tryz.ntmps8
  go_upto_region 1 with fail
  rw [← HOb.out]
  clear hw1 HW1 h
  have o0 := HOp0.out.cell 0
  simp only [opCells, List.getElem?_cons_zero, List.getElem?_cons_succ] at o0
  go_upto_region 19 with fail
  refine upTo_region (fun u : World => u.cell? ⟨wb, 0, none⟩ = some (.pointer (some ⟨xb, 0, none⟩)) ∧ u.cell? ⟨ob, 1, none⟩ = some (.int .i64 A)) 7 8 rfl (by kernel_rfl) ?_
  have hS0 : (fun u : World => u.cell? ⟨wb, 0, none⟩ = some (.pointer (some ⟨xb, 0, none⟩)) ∧ u.cell? ⟨ob, 1, none⟩ = some (.int .i64 A)) p0.drew := ⟨HIp0.out.inv.blk.cell 0, HOp0.out.cell 1⟩
  refine upTo_take (i := 0) (v := ?v39_0) rfl (by kernel_rfl) (by kernel_rfl) (by kernel_rfl) (by kernel_rfl) (by rfl) (fun _ _ _ h => h) (by rfl) hS0 ?hy39_0 ?rest39_0
  case hy39_0 => (intro u hu; (try dsimp only at hu); go_simp; first | done | with_reducible rfl)
  (try simp only [Act.put, List.setIfInBounds_toArray, List.set_cons_zero, List.set_cons_succ, List.getElem_toArray, List.getElem_cons_succ, List.getElem_cons_zero])
  refine upTo_take (i := 1) (v := ?v39_1) rfl (by kernel_rfl) (by kernel_rfl) (by kernel_rfl) (by kernel_rfl) (by rfl) (fun _ _ _ h => h) (by rfl) hS0 ?hy39_1 ?rest39_1
  case hy39_1 => (intro u hu; (try dsimp only at hu); go_simp; first | done | with_reducible rfl)
  (try simp only [Act.put, List.setIfInBounds_toArray, List.set_cons_zero, List.set_cons_succ, List.getElem_toArray, List.getElem_cons_succ, List.getElem_cons_zero])
  refine upTo_take (i := 2) (v := ?v39_2) rfl (by kernel_rfl) (by kernel_rfl) (by kernel_rfl) (by kernel_rfl) (by rfl) (fun _ _ _ h => h) (by rfl) hS0 ?hy39_2 ?rest39_2
  case hy39_2 => (intro u hu; (try dsimp only at hu); go_simp; first | done | with_reducible rfl)
  (try simp only [Act.put, List.setIfInBounds_toArray, List.set_cons_zero, List.set_cons_succ, List.getElem_toArray, List.getElem_cons_succ, List.getElem_cons_zero])
  refine upTo_take (i := 3) (v := ?v39_3) rfl (by kernel_rfl) (by kernel_rfl) (by kernel_rfl) (by kernel_rfl) (by rfl) (fun _ _ _ h => h) (by rfl) hS0 ?hy39_3 ?rest39_3
  case hy39_3 => (intro u hu; (try dsimp only at hu); go_simp; first | done | with_reducible rfl)
  (try simp only [Act.put, List.setIfInBounds_toArray, List.set_cons_zero, List.set_cons_succ, List.getElem_toArray, List.getElem_cons_succ, List.getElem_cons_zero])
  refine upTo_take (i := 4) (v := ?v39_4) rfl (by kernel_rfl) (by kernel_rfl) (by kernel_rfl) (by kernel_rfl) (by rfl) (fun _ _ _ h => h) (by rfl) hS0 ?hy39_4 ?rest39_4
  case hy39_4 => (intro u hu; (try dsimp only at hu); go_simp; first | done | with_reducible rfl)
  (try simp only [Act.put, List.setIfInBounds_toArray, List.set_cons_zero, List.set_cons_succ, List.getElem_toArray, List.getElem_cons_succ, List.getElem_cons_zero])
  refine upTo_take (i := 5) (v := ?v39_5) rfl (by kernel_rfl) (by kernel_rfl) (by kernel_rfl) (by kernel_rfl) (by rfl) (fun _ _ _ h => h) (by rfl) hS0 ?hy39_5 ?rest39_5
  case hy39_5 => (intro u hu; (try dsimp only at hu); go_simp; first | done | with_reducible rfl)
  (try simp only [Act.put, List.setIfInBounds_toArray, List.set_cons_zero, List.set_cons_succ, List.getElem_toArray, List.getElem_cons_succ, List.getElem_cons_zero])
  clear hS0
  refine upTo_one (i := 6) (by kernel_rfl) rfl (fun K hK => ?_)
  go_simp
  refine (hX _ HIp0.out.inv.mx.drew).mono ?_
  rintro e p1 ⟨rfl, X2, hrx, hev⟩
  have HEp1 : Hid (EvoX p0 xb X p1 X2) := (EvoX.refl HIp0.out.inv.mx).drewE.trans hev
  have HRp1 : Hid (RX X2) := hrx
  clear hev hrx
  have HIp1 : Hid (PInv w0 p1 wb xb rb X2 R a c l) := HIp0.out.evoX HEp1.out
  have HOp1 : Hid (Blk p1 ob 34 (opCells 5 A E S)) := HOp0.out.kept HEp1.out.kept HNx.out.1
  have hq := HIp1.out
  have ho := HOp1.out
  refine hK.out _ _ (fun _ => ⟨hq.inv.blk.cell 0, ho.cell 1⟩) ?_
  clear hK K hq ho
  (try simp only [Act.put, List.setIfInBounds_toArray, List.set_cons_zero, List.set_cons_succ, List.getElem_toArray, List.getElem_cons_succ, List.getElem_cons_zero])
  refine upTo_one (i := 7) (by kernel_rfl) rfl (fun K hK => ?_)
  go_simp
  refine hK.out _ _ (fun h => absurd rfl h) ?_
  clear hK K
  (try simp only [Act.put, List.setIfInBounds_toArray, List.set_cons_zero, List.set_cons_succ, List.getElem_toArray, List.getElem_cons_succ, List.getElem_cons_zero])
  refine upTo_done (by kernel_rfl) ?_
  go_upto_region 20 with fail
  refine upTo_region (fun u : World => u.cell? ⟨wb, 1, none⟩ = some (.pointer (some ⟨rb, 0, none⟩)) ∧ u.cell? ⟨ob, 1, none⟩ = some (.int .i64 A)) 7 8 rfl (by kernel_rfl) ?_
  have hS0 : (fun u : World => u.cell? ⟨wb, 1, none⟩ = some (.pointer (some ⟨rb, 0, none⟩)) ∧ u.cell? ⟨ob, 1, none⟩ = some (.int .i64 A)) p1.drew := ⟨HIp1.out.inv.blk.cell 1, HOp1.out.cell 1⟩
  refine upTo_take (i := 0) (v := ?v40_0) rfl (by kernel_rfl) (by kernel_rfl) (by kernel_rfl) (by kernel_rfl) (by rfl) (fun _ _ _ h => h) (by rfl) hS0 ?hy40_0 ?rest40_0
  case hy40_0 => (intro u hu; (try dsimp only at hu); go_simp; first | done | with_reducible rfl)
  (try simp only [Act.put, List.setIfInBounds_toArray, List.set_cons_zero, List.set_cons_succ, List.getElem_toArray, List.getElem_cons_succ, List.getElem_cons_zero])
  refine upTo_take (i := 1) (v := ?v40_1) rfl (by kernel_rfl) (by kernel_rfl) (by kernel_rfl) (by kernel_rfl) (by rfl) (fun _ _ _ h => h) (by rfl) hS0 ?hy40_1 ?rest40_1
  case hy40_1 => (intro u hu; (try dsimp only at hu); go_simp; first | done | with_reducible rfl)
  (try simp only [Act.put, List.setIfInBounds_toArray, List.set_cons_zero, List.set_cons_succ, List.getElem_toArray, List.getElem_cons_succ, List.getElem_cons_zero])
  refine upTo_take (i := 2) (v := ?v40_2) rfl (by kernel_rfl) (by kernel_rfl) (by kernel_rfl) (by kernel_rfl) (by rfl) (fun _ _ _ h => h) (by rfl) hS0 ?hy40_2 ?rest40_2
  case hy40_2 => (intro u hu; (try dsimp only at hu); go_simp; first | done | with_reducible rfl)
  (try simp only [Act.put, List.setIfInBounds_toArray, List.set_cons_zero, List.set_cons_succ, List.getElem_toArray, List.getElem_cons_succ, List.getElem_cons_zero])
  refine upTo_take (i := 3) (v := ?v40_3) rfl (by kernel_rfl) (by kernel_rfl) (by kernel_rfl) (by kernel_rfl) (by rfl) (fun _ _ _ h => h) (by rfl) hS0 ?hy40_3 ?rest40_3
  case hy40_3 => (intro u hu; (try dsimp only at hu); go_simp; first | done | with_reducible rfl)
  (try simp only [Act.put, List.setIfInBounds_toArray, List.set_cons_zero, List.set_cons_succ, List.getElem_toArray, List.getElem_cons_succ, List.getElem_cons_zero])
  refine upTo_take (i := 4) (v := ?v40_4) rfl (by kernel_rfl) (by kernel_rfl) (by kernel_rfl) (by kernel_rfl) (by rfl) (fun _ _ _ h => h) (by rfl) hS0 ?hy40_4 ?rest40_4
  case hy40_4 => (intro u hu; (try dsimp only at hu); go_simp; first | done | with_reducible rfl)
  (try simp only [Act.put, List.setIfInBounds_toArray, List.set_cons_zero, List.set_cons_succ, List.getElem_toArray, List.getElem_cons_succ, List.getElem_cons_zero])
  refine upTo_take (i := 5) (v := ?v40_5) rfl (by kernel_rfl) (by kernel_rfl) (by kernel_rfl) (by kernel_rfl) (by rfl) (fun _ _ _ h => h) (by rfl) hS0 ?hy40_5 ?rest40_5
  case hy40_5 => (intro u hu; (try dsimp only at hu); go_simp; first | done | with_reducible rfl)
  (try simp only [Act.put, List.setIfInBounds_toArray, List.set_cons_zero, List.set_cons_succ, List.getElem_toArray, List.getElem_cons_succ, List.getElem_cons_zero])
  clear hS0
  refine upTo_one (i := 6) (by kernel_rfl) rfl (fun K hK => ?_)
  go_simp
  refine (hR _ HIp1.out.inv.mr.drew).mono ?_
  rintro e p2 ⟨rfl, R2, hrr, hev⟩
  have HEp2 : Hid (Evo p1 rb R p2 R2) := (Evo.refl HIp1.out.inv.mr).drewE.trans hev
  have HRp2 : Hid (RR R2) := hrr
  clear hev hrr
  have HIp2 : Hid (PInv w0 p2 wb xb rb X2 R2 a c l) := HIp1.out.evoR HEp2.out
  have HOp2 : Hid (Blk p2 ob 34 (opCells 5 A E S)) := HOp1.out.kept HEp2.out.kept HNx.out.2
  have hq := HIp2.out
  have ho := HOp2.out
  refine hK.out _ _ (fun _ => ⟨hq.inv.blk.cell 1, ho.cell 1⟩) ?_
  clear hK K hq ho
  (try simp only [Act.put, List.setIfInBounds_toArray, List.set_cons_zero, List.set_cons_succ, List.getElem_toArray, List.getElem_cons_succ, List.getElem_cons_zero])
  refine upTo_one (i := 7) (by kernel_rfl) rfl (fun K hK => ?_)
  go_simp
  refine hK.out _ _ (fun h => absurd rfl h) ?_
  clear hK K
  (try simp only [Act.put, List.setIfInBounds_toArray, List.set_cons_zero, List.set_cons_succ, List.getElem_toArray, List.getElem_cons_succ, List.getElem_cons_zero])
  refine upTo_done (by kernel_rfl) ?_
  have hBo := hB _ _ HRp1.out HRp2.out
  clear hX hR hB
  go_wp2_with (go_at_call 13; refine (num_any _ _).mono ?_; rintro e w' ⟨rfl, rfl⟩)
  go_ret
  exact ⟨rfl, X2, R2, HIp2.out, hBo⟩
set_option maxRecDepth 100000 in
set_option maxHeartbeats 4000000 in
theorem does_asks_k (k : Int) (N : Nat) (w0 w : World) (wb xb rb : Nat) (X : Eng) (R : Ref) (a : Option Addr) (c : Nat) (l : List El) (A : Int) (E : Ev) (S : ByteArray) (h : PInv w0 w wb xb rb X R a c l) (hb : Both N X R) (hN : N ≤ 7000000000000) (hl : l.length ≤ 5000000000000) (hk : k = 7 ∨ k = 8 ∨ k = 9 ∨ k = 10) :
    Calls Tryz.prog 8 #[.pointer (some ⟨wb, 0, none⟩), opVal k A E S] w fun e w' => e = .returned (.bool true) ∧ ∃ a' c' l', l'.length ≤ l.length + 1 ∧ PInv w0 w' wb xb rb X R a' c' l' := by
  have hk' : 7 ≤ k ∧ k ≤ 10 := by omega
  have HAs : Hid (∀ u, PInv w0 u wb xb rb X R a c l → Calls Tryz.prog 26 #[.pointer (some ⟨wb, 0, none⟩), opVal k A E S] u fun e w' => e = .returned (.bool true) ∧ ∃ a' c' l', l'.length ≤ l.length + 1 ∧ PInv w0 w' wb xb rb X R a' c' l') := fun u hu => asks_any k A E S N w0 u wb xb rb X R a c l hu hb hl hk'
  clear hb hl hN hk'
  have h1 : (k == 1) = false := by rcases hk with rfl | rfl | rfl | rfl <;> rfl
  have h2 : (k == 2) = false := by rcases hk with rfl | rfl | rfl | rfl <;> rfl
  have h3 : (k == 3) = false := by rcases hk with rfl | rfl | rfl | rfl <;> rfl
  have h4 : (k == 4) = false := by rcases hk with rfl | rfl | rfl | rfl <;> rfl
  have h5 : (k == 5) = false := by rcases hk with rfl | rfl | rfl | rfl <;> rfl
  have h6 : (k == 6) = false := by rcases hk with rfl | rfl | rfl | rfl <;> rfl
  clear hk
  obtain ⟨p0, HW1⟩ := hex (w.alloc (.cells (opCells k A E S).toArray 34))
  have HBp0 : Hid (Below w.heap.size w p0) := by show Below _ _ _; rw [HW1.out]; exact (Below.refl _ _).alloc (Nat.le_refl _) _
  have HIp0 : Hid (PInv w0 p0 wb xb rb X R a c l) := h.below HBp0.out
  obtain ⟨ob, HOb⟩ := hex w.heap.size
  have HOp0 : Hid (Blk p0 ob 34 (opCells k A E S)) := by show Blk _ _ _ _; rw [HW1.out, HOb.out]; exact blk_alloc _ _ _
  have HNx : Hid (some ob ∉ X.fp xb ∧ some ob ∉ R.fp rb) := ⟨fun e => by have := h.inv.mx.fp_lt _ e; have := HOb.out; omega, fun e => by have := h.inv.mr.fp_lt _ e; have := HOb.out; omega⟩
  have hw1 : w.alloc (.cells #[.int .i64 k, .int .i64 A, .int .i64 E.src, .int .i64 E.seq, .int .i64 E.ts, .int .i64 E.kind, .int .i64 E.val, .string S] 34) = p0 := HW1.out.symm
  unfold opVal
  go_enter Tryz.func8, Tryz.ntmps8
  go_upto_region 1 with fail
  rw [← HOb.out]
  clear hw1 HW1 h
  have o0 := HOp0.out.cell 0
  simp only [opCells, List.getElem?_cons_zero, List.getElem?_cons_succ] at o0
  have o1 := HOp0.out.cell 1
  have o2 := HOp0.out.cell 2
  have o3 := HOp0.out.cell 3
  have o4 := HOp0.out.cell 4
  have o5 := HOp0.out.cell 5
  have o6 := HOp0.out.cell 6
  have o7 := HOp0.out.cell 7
  simp only [opCells, List.getElem?_cons_zero, List.getElem?_cons_succ] at o1 o2 o3 o4 o5 o6 o7
  unfold opVal at HAs
  go_wp2_with (go_at_call 26; refine (HAs.out _ HIp0.out).mono ?_; rintro e w2 ⟨rfl, hres⟩)
  go_ret
  exact ⟨rfl, hres⟩
end Go.Proofs.YtghcololkgeoeaaGreat
namespace Go.Proofs.YtghcololkgeoeaaGreat
open Go.RowKit
set_option linter.unusedVariables false
set_option linter.unusedSimpArgs false
attribute [local go_sem ↓] Go.wp_at_zero Go.wp_at_succ

theorem wrong_same {X : Eng} {R : Ref} {i : Nat} {p : PSrc} {r : RSrc} {c : Cfg} (s : SrcSim c p r) (E : Ev) : pWrong p E = wrongOf r E := by
  unfold pWrong wrongOf
  rw [s.inn, s.last]
theorem push_pair (N xb rb : Nat) (X : Eng) (R : Ref) (A : Int) (E : Ev) (hb : Both N X R) (hN : N ≤ 7000000000000) : ∃ (RX : Int → Eng → Prop) (RR : Int → Ref → Prop),
    (∀ u, MemX u xb X → Calls Tryz.prog 18 #[.pointer (some ⟨xb, 0, none⟩), .int .i64 A, E.agg] u fun e w' => ∃ z X', e = .returned (.int .i64 z) ∧ RX z X' ∧ EvoX u xb X w' X') ∧
    (∀ u, MemR u rb R → Calls Tryz.prog 19 #[.pointer (some ⟨rb, 0, none⟩), .int .i64 A, E.agg] u fun e w' => ∃ z R', e = .returned (.int .i64 z) ∧ RR z R' ∧ Evo u rb R w' R') ∧ ∀ z z' X' R', RX z X' → RR z' R' → z = z' ∧ Both (N + 2) X' R' := by
  have hn := hb.sim.n
  rcases index_cases A R.srcs.length with hA | ⟨i, rfl, hi⟩
  · refine ⟨fun z X' => z = 3 ∧ X' = X, fun z R' => z = 3 ∧ R' = R, fun u hu => ?_, fun u hu => ?_, ?_⟩
    · exact (xpush_none xb X A E u hu (by rw [hn]; exact hA)).mono fun e w' ⟨he, hw⟩ => ⟨3, X, he, ⟨rfl, rfl⟩, EvoX.below hu hw⟩
    · exact (rpush_none rb R A E u hu hA).mono fun e w' ⟨he, hw⟩ => ⟨3, R, he, ⟨rfl, rfl⟩, Evo.below hu hw⟩
    · rintro z z' X' R' ⟨rfl, rfl⟩ ⟨rfl, rfl⟩; exact ⟨rfl, hb.mono (by omega)⟩
  · have hx : i < X.srcs.length := by omega
    have hp := List.getElem?_eq_getElem hx
    have hr := List.getElem?_eq_getElem hi
    have s := hb.sim.src i _ _ hp hr
    have hws := wrong_same (X := X) (R := R) (i := i) s E
    by_cases hw : wrongOf R.srcs[i] E = 0
    · have hpw : pWrong X.srcs[i] E = 0 := hws.trans hw
      have hc := hb.good.fits
      have hcc := hb.sim.c
      have hmgd := hb.good.mgd
      have hall := hb.good.all
      have hmm := hb.sim.merged
      have hts := (pWrong_zero hpw).2.2.1
      have hlen := hb.sim.perm.length_eq
      simp only [List.length_append] at hlen
      have hfu := sim_full hb.sim hp hr E
      refine ⟨fun z X' => (X.full i (X.fate (X.isLate X.srcs[i] E.ts)) = true ∧ z = 8 ∧ X' = X) ∨ (X.full i (X.fate (X.isLate X.srcs[i] E.ts)) = false ∧ z = 0 ∧ ∃ Y, X.Pushed i X.srcs[i] E Y ∧ PlX Y X'), fun z R' => (R.full i E = true ∧ z = 8 ∧ R' = R) ∨ (R.full i E = false ∧ z = 0 ∧ PushOk R i E R'), fun u hu => ?_, fun u hu => ?_, ?_⟩
      · refine (xpush_ok xb X i E u hu hb.sane (by omega) hx hpw (by rw [hcc]; omega) (by rw [hmm]; omega)).mono ?_
        rintro e w' (⟨h1, he, hw⟩ | ⟨h1, he, Y, hY, hw⟩)
        · exact ⟨8, X, he, Or.inl ⟨h1, rfl, rfl⟩, EvoX.below hu hw⟩
        · obtain ⟨X', hpl, hev⟩ := evoP_pl hw
          exact ⟨0, X', he, Or.inr ⟨h1, rfl, Y, hY, hpl⟩, hev⟩
      · refine (rpush_ok N rb R i E u hu hb.good.sane (by omega) hi hw (by omega) (by omega) hts).mono ?_
        rintro e w' (⟨h1, he, hw⟩ | ⟨h1, he, R', hR, hw⟩)
        · exact ⟨8, R, he, Or.inl ⟨h1, rfl, rfl⟩, Evo.below hu hw⟩
        · exact ⟨0, R', he, Or.inr ⟨h1, rfl, hR⟩, hw⟩
      · rintro z z' X' R' hX hR
        rw [hfu] at hX
        rcases hX with ⟨h1, rfl, rfl⟩ | ⟨h1, rfl, Y, hY, hpl⟩ <;> rcases hR with ⟨h2, rfl, rfl⟩ | ⟨h2, rfl, hR⟩
        · exact ⟨rfl, hb.mono (by omega)⟩
        · rw [h1] at h2; cases h2
        · rw [h1] at h2; cases h2
        · refine ⟨rfl, ?_⟩
          have := sim_push hb.sim hb.good hp (fun r hr' => by rw [hr] at hr'; cases hr'; exact hw) h1 hY hR
          exact both_pl this (hb.lines.frame (pushed_lines hp hY) (push_rests hR) (by omega)) hpl
    · refine ⟨fun z X' => z = pWrong X.srcs[i] E ∧ X' = X, fun z R' => z = wrongOf R.srcs[i] E ∧ R' = R, fun u hu => ?_, fun u hu => ?_, ?_⟩
      · exact (xpush_wrong xb X i E u hu hx (by rw [hws]; exact hw)).mono fun e w' ⟨he, hw⟩ => ⟨_, X, he, ⟨rfl, rfl⟩, EvoX.below hu hw⟩
      · exact (rpush_wrong rb R i E u hu hi hw).mono fun e w' ⟨he, hw⟩ => ⟨_, R, he, ⟨rfl, rfl⟩, Evo.below hu hw⟩
      · rintro z z' X' R' ⟨rfl, rfl⟩ ⟨rfl, rfl⟩; exact ⟨hws, hb.mono (by omega)⟩
set_option maxRecDepth 100000 in
set_option maxHeartbeats 4000000 in
theorem does_push (N : Nat) (w0 w : World) (wb xb rb : Nat) (X : Eng) (R : Ref) (a : Option Addr) (c : Nat) (l : List El) (A : Int) (E : Ev) (S : ByteArray) (h : PInv w0 w wb xb rb X R a c l) (hb : Both N X R) (hN : N ≤ 7000000000000) :
    Calls Tryz.prog 8 #[.pointer (some ⟨wb, 0, none⟩), opVal 3 A E S] w fun e w' => e = .returned (.bool true) ∧ ∃ X' R', PInv w0 w' wb xb rb X' R' a c l ∧ Both (N + 2) X' R' := by
  obtain ⟨RX, RR, hX, hR, hB⟩ := push_pair N xb rb X R A E hb hN
  clear hb hN
  unfold Ev.agg at hX hR
  obtain ⟨p0, HW1⟩ := hex (w.alloc (.cells (opCells 3 A E S).toArray 34))
  have HBp0 : Hid (Below w.heap.size w p0) := by show Below _ _ _; rw [HW1.out]; exact (Below.refl _ _).alloc (Nat.le_refl _) _
  have HIp0 : Hid (PInv w0 p0 wb xb rb X R a c l) := h.below HBp0.out
  obtain ⟨ob, HOb⟩ := hex w.heap.size
  have HOp0 : Hid (Blk p0 ob 34 (opCells 3 A E S)) := by show Blk _ _ _ _; rw [HW1.out, HOb.out]; exact blk_alloc _ _ _
  have HNx : Hid (some ob ∉ X.fp xb ∧ some ob ∉ R.fp rb) := ⟨fun e => by have := h.inv.mx.fp_lt _ e; have := HOb.out; omega, fun e => by have := h.inv.mr.fp_lt _ e; have := HOb.out; omega⟩
  have hw1 : w.alloc (.cells #[.int .i64 3, .int .i64 A, .int .i64 E.src, .int .i64 E.seq, .int .i64 E.ts, .int .i64 E.kind, .int .i64 E.val, .string S] 34) = p0 := HW1.out.symm
  unfold opVal
  go_enter Tryz.func8, Tryz.ntmps8
  go_upto_region 1 with fail
  rw [← HOb.out]
  clear hw1 HW1 h
  have o0 := HOp0.out.cell 0
  simp only [opCells, List.getElem?_cons_zero, List.getElem?_cons_succ] at o0
  go_upto_region 11 with fail
  refine upTo_region (fun u : World => u.cell? ⟨wb, 0, none⟩ = some (.pointer (some ⟨xb, 0, none⟩)) ∧ u.cell? ⟨ob, 1, none⟩ = some (.int .i64 A) ∧ u.cell? ⟨ob, 2, none⟩ = some (.int .i64 E.src) ∧ u.cell? ⟨ob, 3, none⟩ = some (.int .i64 E.seq) ∧ u.cell? ⟨ob, 4, none⟩ = some (.int .i64 E.ts) ∧ u.cell? ⟨ob, 5, none⟩ = some (.int .i64 E.kind) ∧ u.cell? ⟨ob, 6, none⟩ = some (.int .i64 E.val)) 9 10 rfl (by kernel_rfl) ?_
  have hS0 : (fun u : World => u.cell? ⟨wb, 0, none⟩ = some (.pointer (some ⟨xb, 0, none⟩)) ∧ u.cell? ⟨ob, 1, none⟩ = some (.int .i64 A) ∧ u.cell? ⟨ob, 2, none⟩ = some (.int .i64 E.src) ∧ u.cell? ⟨ob, 3, none⟩ = some (.int .i64 E.seq) ∧ u.cell? ⟨ob, 4, none⟩ = some (.int .i64 E.ts) ∧ u.cell? ⟨ob, 5, none⟩ = some (.int .i64 E.kind) ∧ u.cell? ⟨ob, 6, none⟩ = some (.int .i64 E.val)) p0.drew := ⟨HIp0.out.inv.blk.cell 0, HOp0.out.cell 1, HOp0.out.cell 2, HOp0.out.cell 3, HOp0.out.cell 4, HOp0.out.cell 5, HOp0.out.cell 6⟩
  refine upTo_take (i := 0) (v := ?v41_0) rfl (by kernel_rfl) (by kernel_rfl) (by kernel_rfl) (by kernel_rfl) (by rfl) (fun _ _ _ h => h) (by rfl) hS0 ?hy41_0 ?rest41_0
  case hy41_0 => (intro u hu; (try dsimp only at hu); go_simp; first | done | with_reducible rfl)
  (try simp only [Act.put, List.setIfInBounds_toArray, List.set_cons_zero, List.set_cons_succ, List.getElem_toArray, List.getElem_cons_succ, List.getElem_cons_zero])
  refine upTo_take (i := 1) (v := ?v41_1) rfl (by kernel_rfl) (by kernel_rfl) (by kernel_rfl) (by kernel_rfl) (by rfl) (fun _ _ _ h => h) (by rfl) hS0 ?hy41_1 ?rest41_1
  case hy41_1 => (intro u hu; (try dsimp only at hu); go_simp; first | done | with_reducible rfl)
  (try simp only [Act.put, List.setIfInBounds_toArray, List.set_cons_zero, List.set_cons_succ, List.getElem_toArray, List.getElem_cons_succ, List.getElem_cons_zero])
  refine upTo_take (i := 2) (v := ?v41_2) rfl (by kernel_rfl) (by kernel_rfl) (by kernel_rfl) (by kernel_rfl) (by rfl) (fun _ _ _ h => h) (by rfl) hS0 ?hy41_2 ?rest41_2
  case hy41_2 => (intro u hu; (try dsimp only at hu); go_simp; first | done | with_reducible rfl)
  (try simp only [Act.put, List.setIfInBounds_toArray, List.set_cons_zero, List.set_cons_succ, List.getElem_toArray, List.getElem_cons_succ, List.getElem_cons_zero])
  refine upTo_take (i := 3) (v := ?v41_3) rfl (by kernel_rfl) (by kernel_rfl) (by kernel_rfl) (by kernel_rfl) (by rfl) (fun _ _ _ h => h) (by rfl) hS0 ?hy41_3 ?rest41_3
  case hy41_3 => (intro u hu; (try dsimp only at hu); go_simp; first | done | with_reducible rfl)
  (try simp only [Act.put, List.setIfInBounds_toArray, List.set_cons_zero, List.set_cons_succ, List.getElem_toArray, List.getElem_cons_succ, List.getElem_cons_zero])
  refine upTo_take (i := 4) (v := ?v41_4) rfl (by kernel_rfl) (by kernel_rfl) (by kernel_rfl) (by kernel_rfl) (by rfl) (fun _ _ _ h => h) (by rfl) hS0 ?hy41_4 ?rest41_4
  case hy41_4 => (intro u hu; (try dsimp only at hu); go_simp; first | done | with_reducible rfl)
  (try simp only [Act.put, List.setIfInBounds_toArray, List.set_cons_zero, List.set_cons_succ, List.getElem_toArray, List.getElem_cons_succ, List.getElem_cons_zero])
  refine upTo_take (i := 5) (v := ?v41_5) rfl (by kernel_rfl) (by kernel_rfl) (by kernel_rfl) (by kernel_rfl) (by rfl) (fun _ _ _ h => h) (by rfl) hS0 ?hy41_5 ?rest41_5
  case hy41_5 => (intro u hu; (try dsimp only at hu); go_simp; first | done | with_reducible rfl)
  (try simp only [Act.put, List.setIfInBounds_toArray, List.set_cons_zero, List.set_cons_succ, List.getElem_toArray, List.getElem_cons_succ, List.getElem_cons_zero])
  refine upTo_take (i := 6) (v := ?v41_6) rfl (by kernel_rfl) (by kernel_rfl) (by kernel_rfl) (by kernel_rfl) (by rfl) (fun _ _ _ h => h) (by rfl) hS0 ?hy41_6 ?rest41_6
  case hy41_6 => (intro u hu; (try dsimp only at hu); go_simp; first | done | with_reducible rfl)
  (try simp only [Act.put, List.setIfInBounds_toArray, List.set_cons_zero, List.set_cons_succ, List.getElem_toArray, List.getElem_cons_succ, List.getElem_cons_zero])
  refine upTo_take (i := 7) (v := ?v41_7) rfl (by kernel_rfl) (by kernel_rfl) (by kernel_rfl) (by kernel_rfl) (by rfl) (fun _ _ _ h => h) (by rfl) hS0 ?hy41_7 ?rest41_7
  case hy41_7 => (intro u hu; (try dsimp only at hu); go_simp; first | done | with_reducible rfl)
  (try simp only [Act.put, List.setIfInBounds_toArray, List.set_cons_zero, List.set_cons_succ, List.getElem_toArray, List.getElem_cons_succ, List.getElem_cons_zero])
  clear hS0
  refine upTo_one (i := 8) (by kernel_rfl) rfl (fun K hK => ?_)
  go_simp
  refine (hX _ HIp0.out.inv.mx.drew).mono ?_
  rintro e p1 ⟨z, X2, rfl, hrx, hev⟩
  have HEp1 : Hid (EvoX p0 xb X p1 X2) := (EvoX.refl HIp0.out.inv.mx).drewE.trans hev
  have HRp1 : Hid (RX z X2) := hrx
  clear hev hrx
  have HIp1 : Hid (PInv w0 p1 wb xb rb X2 R a c l) := HIp0.out.evoX HEp1.out
  have HOp1 : Hid (Blk p1 ob 34 (opCells 3 A E S)) := HOp0.out.kept HEp1.out.kept HNx.out.1
  have hq := HIp1.out
  have ho := HOp1.out
  refine hK.out _ _ (fun _ => ⟨hq.inv.blk.cell 0, ho.cell 1, ho.cell 2, ho.cell 3, ho.cell 4, ho.cell 5, ho.cell 6⟩) ?_
  clear hK K hq ho
  (try simp only [Act.put, List.setIfInBounds_toArray, List.set_cons_zero, List.set_cons_succ, List.getElem_toArray, List.getElem_cons_succ, List.getElem_cons_zero])
  refine upTo_one (i := 9) (by kernel_rfl) rfl (fun K hK => ?_)
  go_simp
  refine hK.out _ _ (fun h => absurd rfl h) ?_
  clear hK K
  (try simp only [Act.put, List.setIfInBounds_toArray, List.set_cons_zero, List.set_cons_succ, List.getElem_toArray, List.getElem_cons_succ, List.getElem_cons_zero])
  refine upTo_done (by kernel_rfl) ?_
  go_upto_region 12 with fail
  refine upTo_region (fun u : World => u.cell? ⟨wb, 1, none⟩ = some (.pointer (some ⟨rb, 0, none⟩)) ∧ u.cell? ⟨ob, 1, none⟩ = some (.int .i64 A) ∧ u.cell? ⟨ob, 2, none⟩ = some (.int .i64 E.src) ∧ u.cell? ⟨ob, 3, none⟩ = some (.int .i64 E.seq) ∧ u.cell? ⟨ob, 4, none⟩ = some (.int .i64 E.ts) ∧ u.cell? ⟨ob, 5, none⟩ = some (.int .i64 E.kind) ∧ u.cell? ⟨ob, 6, none⟩ = some (.int .i64 E.val)) 9 10 rfl (by kernel_rfl) ?_
  have hS0 : (fun u : World => u.cell? ⟨wb, 1, none⟩ = some (.pointer (some ⟨rb, 0, none⟩)) ∧ u.cell? ⟨ob, 1, none⟩ = some (.int .i64 A) ∧ u.cell? ⟨ob, 2, none⟩ = some (.int .i64 E.src) ∧ u.cell? ⟨ob, 3, none⟩ = some (.int .i64 E.seq) ∧ u.cell? ⟨ob, 4, none⟩ = some (.int .i64 E.ts) ∧ u.cell? ⟨ob, 5, none⟩ = some (.int .i64 E.kind) ∧ u.cell? ⟨ob, 6, none⟩ = some (.int .i64 E.val)) p1.drew := ⟨HIp1.out.inv.blk.cell 1, HOp1.out.cell 1, HOp1.out.cell 2, HOp1.out.cell 3, HOp1.out.cell 4, HOp1.out.cell 5, HOp1.out.cell 6⟩
  refine upTo_take (i := 0) (v := ?v42_0) rfl (by kernel_rfl) (by kernel_rfl) (by kernel_rfl) (by kernel_rfl) (by rfl) (fun _ _ _ h => h) (by rfl) hS0 ?hy42_0 ?rest42_0
  case hy42_0 => (intro u hu; (try dsimp only at hu); go_simp; first | done | with_reducible rfl)
  (try simp only [Act.put, List.setIfInBounds_toArray, List.set_cons_zero, List.set_cons_succ, List.getElem_toArray, List.getElem_cons_succ, List.getElem_cons_zero])
  refine upTo_take (i := 1) (v := ?v42_1) rfl (by kernel_rfl) (by kernel_rfl) (by kernel_rfl) (by kernel_rfl) (by rfl) (fun _ _ _ h => h) (by rfl) hS0 ?hy42_1 ?rest42_1
  case hy42_1 => (intro u hu; (try dsimp only at hu); go_simp; first | done | with_reducible rfl)
  (try simp only [Act.put, List.setIfInBounds_toArray, List.set_cons_zero, List.set_cons_succ, List.getElem_toArray, List.getElem_cons_succ, List.getElem_cons_zero])
  refine upTo_take (i := 2) (v := ?v42_2) rfl (by kernel_rfl) (by kernel_rfl) (by kernel_rfl) (by kernel_rfl) (by rfl) (fun _ _ _ h => h) (by rfl) hS0 ?hy42_2 ?rest42_2
  case hy42_2 => (intro u hu; (try dsimp only at hu); go_simp; first | done | with_reducible rfl)
  (try simp only [Act.put, List.setIfInBounds_toArray, List.set_cons_zero, List.set_cons_succ, List.getElem_toArray, List.getElem_cons_succ, List.getElem_cons_zero])
  refine upTo_take (i := 3) (v := ?v42_3) rfl (by kernel_rfl) (by kernel_rfl) (by kernel_rfl) (by kernel_rfl) (by rfl) (fun _ _ _ h => h) (by rfl) hS0 ?hy42_3 ?rest42_3
  case hy42_3 => (intro u hu; (try dsimp only at hu); go_simp; first | done | with_reducible rfl)
  (try simp only [Act.put, List.setIfInBounds_toArray, List.set_cons_zero, List.set_cons_succ, List.getElem_toArray, List.getElem_cons_succ, List.getElem_cons_zero])
  refine upTo_take (i := 4) (v := ?v42_4) rfl (by kernel_rfl) (by kernel_rfl) (by kernel_rfl) (by kernel_rfl) (by rfl) (fun _ _ _ h => h) (by rfl) hS0 ?hy42_4 ?rest42_4
  case hy42_4 => (intro u hu; (try dsimp only at hu); go_simp; first | done | with_reducible rfl)
  (try simp only [Act.put, List.setIfInBounds_toArray, List.set_cons_zero, List.set_cons_succ, List.getElem_toArray, List.getElem_cons_succ, List.getElem_cons_zero])
  refine upTo_take (i := 5) (v := ?v42_5) rfl (by kernel_rfl) (by kernel_rfl) (by kernel_rfl) (by kernel_rfl) (by rfl) (fun _ _ _ h => h) (by rfl) hS0 ?hy42_5 ?rest42_5
  case hy42_5 => (intro u hu; (try dsimp only at hu); go_simp; first | done | with_reducible rfl)
  (try simp only [Act.put, List.setIfInBounds_toArray, List.set_cons_zero, List.set_cons_succ, List.getElem_toArray, List.getElem_cons_succ, List.getElem_cons_zero])
  refine upTo_take (i := 6) (v := ?v42_6) rfl (by kernel_rfl) (by kernel_rfl) (by kernel_rfl) (by kernel_rfl) (by rfl) (fun _ _ _ h => h) (by rfl) hS0 ?hy42_6 ?rest42_6
  case hy42_6 => (intro u hu; (try dsimp only at hu); go_simp; first | done | with_reducible rfl)
  (try simp only [Act.put, List.setIfInBounds_toArray, List.set_cons_zero, List.set_cons_succ, List.getElem_toArray, List.getElem_cons_succ, List.getElem_cons_zero])
  refine upTo_take (i := 7) (v := ?v42_7) rfl (by kernel_rfl) (by kernel_rfl) (by kernel_rfl) (by kernel_rfl) (by rfl) (fun _ _ _ h => h) (by rfl) hS0 ?hy42_7 ?rest42_7
  case hy42_7 => (intro u hu; (try dsimp only at hu); go_simp; first | done | with_reducible rfl)
  (try simp only [Act.put, List.setIfInBounds_toArray, List.set_cons_zero, List.set_cons_succ, List.getElem_toArray, List.getElem_cons_succ, List.getElem_cons_zero])
  clear hS0
  refine upTo_one (i := 8) (by kernel_rfl) rfl (fun K hK => ?_)
  go_simp
  refine (hR _ HIp1.out.inv.mr.drew).mono ?_
  rintro e p2 ⟨z2, R2, rfl, hrr, hev⟩
  have HEp2 : Hid (Evo p1 rb R p2 R2) := (Evo.refl HIp1.out.inv.mr).drewE.trans hev
  have HRp2 : Hid (RR z2 R2) := hrr
  clear hev hrr
  have HIp2 : Hid (PInv w0 p2 wb xb rb X2 R2 a c l) := HIp1.out.evoR HEp2.out
  have HOp2 : Hid (Blk p2 ob 34 (opCells 3 A E S)) := HOp1.out.kept HEp2.out.kept HNx.out.2
  have hq := HIp2.out
  have ho := HOp2.out
  refine hK.out _ _ (fun _ => ⟨hq.inv.blk.cell 1, ho.cell 1, ho.cell 2, ho.cell 3, ho.cell 4, ho.cell 5, ho.cell 6⟩) ?_
  clear hK K hq ho
  (try simp only [Act.put, List.setIfInBounds_toArray, List.set_cons_zero, List.set_cons_succ, List.getElem_toArray, List.getElem_cons_succ, List.getElem_cons_zero])
  refine upTo_one (i := 9) (by kernel_rfl) rfl (fun K hK => ?_)
  go_simp
  refine hK.out _ _ (fun h => absurd rfl h) ?_
  clear hK K
  (try simp only [Act.put, List.setIfInBounds_toArray, List.set_cons_zero, List.set_cons_succ, List.getElem_toArray, List.getElem_cons_succ, List.getElem_cons_zero])
  refine upTo_done (by kernel_rfl) ?_
  obtain ⟨hzz, hBo⟩ := hB _ _ _ _ HRp1.out HRp2.out
  subst hzz
  clear hX hR hB
  go_wp2_with (go_at_call 13; refine (num_any _ _).mono ?_; rintro e w' ⟨rfl, rfl⟩)
  go_ret
  exact ⟨rfl, X2, R2, HIp2.out, hBo⟩
end Go.Proofs.YtghcololkgeoeaaGreat
