import Derived.Test.YthiabdpgieppoaaGreatLawL
import Derived.Test.YthiabdpgieppoaaGreatXQ
import Derived.Test.YthiabdpgieppoaaGreatRefJ
namespace Go.Proofs.YthiabdpgieppoaaGreat
open Go.RowKit
set_option linter.unusedVariables false
set_option linter.unusedSimpArgs false
attribute [local go_sem ↓] Go.wp_at_zero Go.wp_at_succ

theorem wrong_same {X : Eng} {R : Ref} {i : Nat} {p : PSrc} {r : RSrc} {c : Cfg} (s : SrcSim c p r) (E : Ev) : pWrong p E = wrongOf r E := by
  unfold pWrong wrongOf
  rw [s.inn, s.last]
theorem push_pair (N xb rb : Nat) (X : Eng) (R : Ref) (A : Int) (E : Ev) (hb : Both N X R) (hN : N ≤ 7000000000000) : ∃ (RX : Int → Eng → Prop) (RR : Int → Ref → Prop),
    (∀ u, MemX u xb X → Calls Tryz.prog 18 #[.pointer (some ⟨xb, 0, none⟩), .int .i64 A, E.agg] u fun e w' => ∃ z X', e = .returned (.int .i64 z) ∧ RX z X' ∧ EvoX u xb X w' X') ∧
    (∀ u, MemR u rb R → Calls Tryz.prog 19 #[.pointer (some ⟨rb, 0, none⟩), .int .i64 A, E.agg] u fun e w' => ∃ z R', e = .returned (.int .i64 z) ∧ RR z R' ∧ Evo u rb R w' R') ∧ ∀ z z' X' R', RX z X' → RR z' R' → z = z' ∧ Both (N + 2) X' R' := by
  have hn := hb.sim.n
  rcases index_cases A R.srcs.length with hA | ⟨i, rfl, hi⟩
  · refine ⟨fun z X' => z = 3 ∧ X' = X, fun z R' => z = 3 ∧ R' = R, fun u hu => ?_, fun u hu => ?_, ?_⟩
    · exact (xpush_none xb X A E u hu (by rw [hn]; exact hA)).mono fun e w' ⟨he, hw⟩ => ⟨3, X, he, ⟨rfl, rfl⟩, EvoX.below hu hw⟩
    · exact (rpush_none rb R A E u hu hA).mono fun e w' ⟨he, hw⟩ => ⟨3, R, he, ⟨rfl, rfl⟩, Evo.below hu hw⟩
    · rintro z z' X' R' ⟨rfl, rfl⟩ ⟨rfl, rfl⟩; exact ⟨rfl, hb.mono (by omega)⟩
  · have hx : i < X.srcs.length := by omega
    have hp := List.getElem?_eq_getElem hx
    have hr := List.getElem?_eq_getElem hi
    have s := hb.sim.src i _ _ hp hr
    have hws := wrong_same (X := X) (R := R) (i := i) s E
    by_cases hw : wrongOf R.srcs[i] E = 0
    · have hpw : pWrong X.srcs[i] E = 0 := hws.trans hw
      have hc := hb.good.fits
      have hcc := hb.sim.c
      have hmgd := hb.good.mgd
      have hall := hb.good.all
      have hmm := hb.sim.merged
      have hts := (pWrong_zero hpw).2.2.1
      have hlen := hb.sim.perm.length_eq
      simp only [List.length_append] at hlen
      have hfu := sim_full hb.sim hp hr E
      refine ⟨fun z X' => (X.full i (X.fate (X.isLate X.srcs[i] E.ts)) = true ∧ z = 8 ∧ X' = X) ∨ (X.full i (X.fate (X.isLate X.srcs[i] E.ts)) = false ∧ z = 0 ∧ ∃ Y, X.Pushed i X.srcs[i] E Y ∧ PlX Y X'), fun z R' => (R.full i E = true ∧ z = 8 ∧ R' = R) ∨ (R.full i E = false ∧ z = 0 ∧ PushOk R i E R'), fun u hu => ?_, fun u hu => ?_, ?_⟩
      · refine (xpush_ok xb X i E u hu hb.sane (by omega) hx hpw (by rw [hcc]; omega) (by rw [hmm]; omega)).mono ?_
        rintro e w' (⟨h1, he, hw⟩ | ⟨h1, he, Y, hY, hw⟩)
        · exact ⟨8, X, he, Or.inl ⟨h1, rfl, rfl⟩, EvoX.below hu hw⟩
        · obtain ⟨X', hpl, hev⟩ := evoP_pl hw
          exact ⟨0, X', he, Or.inr ⟨h1, rfl, Y, hY, hpl⟩, hev⟩
      · refine (rpush_ok N rb R i E u hu hb.good.sane (by omega) hi hw (by omega) (by omega) hts).mono ?_
        rintro e w' (⟨h1, he, hw⟩ | ⟨h1, he, R', hR, hw⟩)
        · exact ⟨8, R, he, Or.inl ⟨h1, rfl, rfl⟩, Evo.below hu hw⟩
        · exact ⟨0, R', he, Or.inr ⟨h1, rfl, hR⟩, hw⟩
      · rintro z z' X' R' hX hR
        rw [hfu] at hX
        rcases hX with ⟨h1, rfl, rfl⟩ | ⟨h1, rfl, Y, hY, hpl⟩ <;> rcases hR with ⟨h2, rfl, rfl⟩ | ⟨h2, rfl, hR⟩
        · exact ⟨rfl, hb.mono (by omega)⟩
        · rw [h1] at h2; cases h2
        · rw [h1] at h2; cases h2
        · refine ⟨rfl, ?_⟩
          have := sim_push hb.sim hb.good hp (fun r hr' => by rw [hr] at hr'; cases hr'; exact hw) h1 hY hR
          exact both_pl this hpl
    · refine ⟨fun z X' => z = pWrong X.srcs[i] E ∧ X' = X, fun z R' => z = wrongOf R.srcs[i] E ∧ R' = R, fun u hu => ?_, fun u hu => ?_, ?_⟩
      · exact (xpush_wrong xb X i E u hu hx (by rw [hws]; exact hw)).mono fun e w' ⟨he, hw⟩ => ⟨_, X, he, ⟨rfl, rfl⟩, EvoX.below hu hw⟩
      · exact (rpush_wrong rb R i E u hu hi hw).mono fun e w' ⟨he, hw⟩ => ⟨_, R, he, ⟨rfl, rfl⟩, Evo.below hu hw⟩
      · rintro z z' X' R' ⟨rfl, rfl⟩ ⟨rfl, rfl⟩; exact ⟨hws, hb.mono (by omega)⟩
set_option maxRecDepth 100000 in
set_option maxHeartbeats 4000000 in
theorem does_push (N : Nat) (w0 w : World) (wb xb rb : Nat) (X : Eng) (R : Ref) (a : Option Addr) (c : Nat) (l : List El) (A : Int) (E : Ev) (S : ByteArray) (h : PInv w0 w wb xb rb X R a c l) (hb : Both N X R) (hN : N ≤ 7000000000000) :
    Calls Tryz.prog 8 #[.pointer (some ⟨wb, 0, none⟩), opVal 3 A E S] w fun e w' => e = .returned (.bool true) ∧ ∃ X' R', PInv w0 w' wb xb rb X' R' a c l ∧ Both (N + 2) X' R' := by
  obtain ⟨RX, RR, hX, hR, hB⟩ := push_pair N xb rb X R A E hb hN
  clear hb hN
  unfold Ev.agg at hX hR
  obtain ⟨p0, HW1⟩ := hex (w.alloc (.cells (opCells 3 A E S).toArray 34))
  have HBp0 : Hid (Below w.heap.size w p0) := by show Below _ _ _; rw [HW1.out]; exact (Below.refl _ _).alloc (Nat.le_refl _) _
  have HIp0 : Hid (PInv w0 p0 wb xb rb X R a c l) := h.below HBp0.out
  obtain ⟨ob, HOb⟩ := hex w.heap.size
  have HOp0 : Hid (Blk p0 ob 34 (opCells 3 A E S)) := by show Blk _ _ _ _; rw [HW1.out, HOb.out]; exact blk_alloc _ _ _
  have HNx : Hid (some ob ∉ X.fp xb ∧ some ob ∉ R.fp rb) := ⟨fun e => by have := h.inv.mx.fp_lt _ e; have := HOb.out; omega, fun e => by have := h.inv.mr.fp_lt _ e; have := HOb.out; omega⟩
  have hw1 : w.alloc (.cells #[.int .i64 3, .int .i64 A, .int .i64 E.src, .int .i64 E.seq, .int .i64 E.ts, .int .i64 E.kind, .int .i64 E.val, .string S] 34) = p0 := HW1.out.symm
  unfold opVal
  go_enter Tryz.func8, Tryz.ntmps8
  go_upto_region 1 with fail
  rw [← HOb.out]
  clear hw1 HW1 h
  have o0 := HOp0.out.cell 0
  simp only [opCells, List.getElem?_cons_zero, List.getElem?_cons_succ] at o0
  go_upto_region 11 with fail
  refine upTo_region (fun u : World => u.cell? ⟨wb, 0, none⟩ = some (.pointer (some ⟨xb, 0, none⟩)) ∧ u.cell? ⟨ob, 1, none⟩ = some (.int .i64 A) ∧ u.cell? ⟨ob, 2, none⟩ = some (.int .i64 E.src) ∧ u.cell? ⟨ob, 3, none⟩ = some (.int .i64 E.seq) ∧ u.cell? ⟨ob, 4, none⟩ = some (.int .i64 E.ts) ∧ u.cell? ⟨ob, 5, none⟩ = some (.int .i64 E.kind) ∧ u.cell? ⟨ob, 6, none⟩ = some (.int .i64 E.val)) 9 10 rfl (by kernel_rfl) ?_
  have hS0 : (fun u : World => u.cell? ⟨wb, 0, none⟩ = some (.pointer (some ⟨xb, 0, none⟩)) ∧ u.cell? ⟨ob, 1, none⟩ = some (.int .i64 A) ∧ u.cell? ⟨ob, 2, none⟩ = some (.int .i64 E.src) ∧ u.cell? ⟨ob, 3, none⟩ = some (.int .i64 E.seq) ∧ u.cell? ⟨ob, 4, none⟩ = some (.int .i64 E.ts) ∧ u.cell? ⟨ob, 5, none⟩ = some (.int .i64 E.kind) ∧ u.cell? ⟨ob, 6, none⟩ = some (.int .i64 E.val)) p0.drew := ⟨HIp0.out.inv.blk.cell 0, HOp0.out.cell 1, HOp0.out.cell 2, HOp0.out.cell 3, HOp0.out.cell 4, HOp0.out.cell 5, HOp0.out.cell 6⟩
  refine upTo_take (i := 0) (v := ?v1_0) rfl (by kernel_rfl) (by kernel_rfl) (by kernel_rfl) (by kernel_rfl) (by rfl) (fun _ _ _ h => h) (by rfl) hS0 ?hy1_0 ?rest1_0
  case hy1_0 => (intro u hu; (try dsimp only at hu); go_simp; first | done | with_reducible rfl)
  (try simp only [Act.put, List.setIfInBounds_toArray, List.set_cons_zero, List.set_cons_succ, List.getElem_toArray, List.getElem_cons_succ, List.getElem_cons_zero])
  refine upTo_take (i := 1) (v := ?v1_1) rfl (by kernel_rfl) (by kernel_rfl) (by kernel_rfl) (by kernel_rfl) (by rfl) (fun _ _ _ h => h) (by rfl) hS0 ?hy1_1 ?rest1_1
  case hy1_1 => (intro u hu; (try dsimp only at hu); go_simp; first | done | with_reducible rfl)
  (try simp only [Act.put, List.setIfInBounds_toArray, List.set_cons_zero, List.set_cons_succ, List.getElem_toArray, List.getElem_cons_succ, List.getElem_cons_zero])
  refine upTo_take (i := 2) (v := ?v1_2) rfl (by kernel_rfl) (by kernel_rfl) (by kernel_rfl) (by kernel_rfl) (by rfl) (fun _ _ _ h => h) (by rfl) hS0 ?hy1_2 ?rest1_2
  case hy1_2 => (intro u hu; (try dsimp only at hu); go_simp; first | done | with_reducible rfl)
  (try simp only [Act.put, List.setIfInBounds_toArray, List.set_cons_zero, List.set_cons_succ, List.getElem_toArray, List.getElem_cons_succ, List.getElem_cons_zero])
  refine upTo_take (i := 3) (v := ?v1_3) rfl (by kernel_rfl) (by kernel_rfl) (by kernel_rfl) (by kernel_rfl) (by rfl) (fun _ _ _ h => h) (by rfl) hS0 ?hy1_3 ?rest1_3
  case hy1_3 => (intro u hu; (try dsimp only at hu); go_simp; first | done | with_reducible rfl)
  (try simp only [Act.put, List.setIfInBounds_toArray, List.set_cons_zero, List.set_cons_succ, List.getElem_toArray, List.getElem_cons_succ, List.getElem_cons_zero])
  refine upTo_take (i := 4) (v := ?v1_4) rfl (by kernel_rfl) (by kernel_rfl) (by kernel_rfl) (by kernel_rfl) (by rfl) (fun _ _ _ h => h) (by rfl) hS0 ?hy1_4 ?rest1_4
  case hy1_4 => (intro u hu; (try dsimp only at hu); go_simp; first | done | with_reducible rfl)
  (try simp only [Act.put, List.setIfInBounds_toArray, List.set_cons_zero, List.set_cons_succ, List.getElem_toArray, List.getElem_cons_succ, List.getElem_cons_zero])
  refine upTo_take (i := 5) (v := ?v1_5) rfl (by kernel_rfl) (by kernel_rfl) (by kernel_rfl) (by kernel_rfl) (by rfl) (fun _ _ _ h => h) (by rfl) hS0 ?hy1_5 ?rest1_5
  case hy1_5 => (intro u hu; (try dsimp only at hu); go_simp; first | done | with_reducible rfl)
  (try simp only [Act.put, List.setIfInBounds_toArray, List.set_cons_zero, List.set_cons_succ, List.getElem_toArray, List.getElem_cons_succ, List.getElem_cons_zero])
  refine upTo_take (i := 6) (v := ?v1_6) rfl (by kernel_rfl) (by kernel_rfl) (by kernel_rfl) (by kernel_rfl) (by rfl) (fun _ _ _ h => h) (by rfl) hS0 ?hy1_6 ?rest1_6
  case hy1_6 => (intro u hu; (try dsimp only at hu); go_simp; first | done | with_reducible rfl)
  (try simp only [Act.put, List.setIfInBounds_toArray, List.set_cons_zero, List.set_cons_succ, List.getElem_toArray, List.getElem_cons_succ, List.getElem_cons_zero])
  refine upTo_take (i := 7) (v := ?v1_7) rfl (by kernel_rfl) (by kernel_rfl) (by kernel_rfl) (by kernel_rfl) (by rfl) (fun _ _ _ h => h) (by rfl) hS0 ?hy1_7 ?rest1_7
  case hy1_7 => (intro u hu; (try dsimp only at hu); go_simp; first | done | with_reducible rfl)
  (try simp only [Act.put, List.setIfInBounds_toArray, List.set_cons_zero, List.set_cons_succ, List.getElem_toArray, List.getElem_cons_succ, List.getElem_cons_zero])
  clear hS0
  refine upTo_one (i := 8) (by kernel_rfl) rfl (fun K hK => ?_)
  go_simp
  refine (hX _ HIp0.out.inv.mx.drew).mono ?_
  rintro e p1 ⟨z, X2, rfl, hrx, hev⟩
  have HEp1 : Hid (EvoX p0 xb X p1 X2) := (EvoX.refl HIp0.out.inv.mx).drewE.trans hev
  have HRp1 : Hid (RX z X2) := hrx
  clear hev hrx
  have HIp1 : Hid (PInv w0 p1 wb xb rb X2 R a c l) := HIp0.out.evoX HEp1.out
  have HOp1 : Hid (Blk p1 ob 34 (opCells 3 A E S)) := HOp0.out.kept HEp1.out.kept HNx.out.1
  have hq := HIp1.out
  have ho := HOp1.out
  refine hK.out _ _ (fun _ => ⟨hq.inv.blk.cell 0, ho.cell 1, ho.cell 2, ho.cell 3, ho.cell 4, ho.cell 5, ho.cell 6⟩) ?_
  clear hK K hq ho
  (try simp only [Act.put, List.setIfInBounds_toArray, List.set_cons_zero, List.set_cons_succ, List.getElem_toArray, List.getElem_cons_succ, List.getElem_cons_zero])
  refine upTo_one (i := 9) (by kernel_rfl) rfl (fun K hK => ?_)
  go_simp
  refine hK.out _ _ (fun h => absurd rfl h) ?_
  clear hK K
  (try simp only [Act.put, List.setIfInBounds_toArray, List.set_cons_zero, List.set_cons_succ, List.getElem_toArray, List.getElem_cons_succ, List.getElem_cons_zero])
  refine upTo_done (by kernel_rfl) ?_
  go_upto_region 12 with fail
  refine upTo_region (fun u : World => u.cell? ⟨wb, 1, none⟩ = some (.pointer (some ⟨rb, 0, none⟩)) ∧ u.cell? ⟨ob, 1, none⟩ = some (.int .i64 A) ∧ u.cell? ⟨ob, 2, none⟩ = some (.int .i64 E.src) ∧ u.cell? ⟨ob, 3, none⟩ = some (.int .i64 E.seq) ∧ u.cell? ⟨ob, 4, none⟩ = some (.int .i64 E.ts) ∧ u.cell? ⟨ob, 5, none⟩ = some (.int .i64 E.kind) ∧ u.cell? ⟨ob, 6, none⟩ = some (.int .i64 E.val)) 9 10 rfl (by kernel_rfl) ?_
  have hS0 : (fun u : World => u.cell? ⟨wb, 1, none⟩ = some (.pointer (some ⟨rb, 0, none⟩)) ∧ u.cell? ⟨ob, 1, none⟩ = some (.int .i64 A) ∧ u.cell? ⟨ob, 2, none⟩ = some (.int .i64 E.src) ∧ u.cell? ⟨ob, 3, none⟩ = some (.int .i64 E.seq) ∧ u.cell? ⟨ob, 4, none⟩ = some (.int .i64 E.ts) ∧ u.cell? ⟨ob, 5, none⟩ = some (.int .i64 E.kind) ∧ u.cell? ⟨ob, 6, none⟩ = some (.int .i64 E.val)) p1.drew := ⟨HIp1.out.inv.blk.cell 1, HOp1.out.cell 1, HOp1.out.cell 2, HOp1.out.cell 3, HOp1.out.cell 4, HOp1.out.cell 5, HOp1.out.cell 6⟩
  refine upTo_take (i := 0) (v := ?v2_0) rfl (by kernel_rfl) (by kernel_rfl) (by kernel_rfl) (by kernel_rfl) (by rfl) (fun _ _ _ h => h) (by rfl) hS0 ?hy2_0 ?rest2_0
  case hy2_0 => (intro u hu; (try dsimp only at hu); go_simp; first | done | with_reducible rfl)
  (try simp only [Act.put, List.setIfInBounds_toArray, List.set_cons_zero, List.set_cons_succ, List.getElem_toArray, List.getElem_cons_succ, List.getElem_cons_zero])
  refine upTo_take (i := 1) (v := ?v2_1) rfl (by kernel_rfl) (by kernel_rfl) (by kernel_rfl) (by kernel_rfl) (by rfl) (fun _ _ _ h => h) (by rfl) hS0 ?hy2_1 ?rest2_1
  case hy2_1 => (intro u hu; (try dsimp only at hu); go_simp; first | done | with_reducible rfl)
  (try simp only [Act.put, List.setIfInBounds_toArray, List.set_cons_zero, List.set_cons_succ, List.getElem_toArray, List.getElem_cons_succ, List.getElem_cons_zero])
  refine upTo_take (i := 2) (v := ?v2_2) rfl (by kernel_rfl) (by kernel_rfl) (by kernel_rfl) (by kernel_rfl) (by rfl) (fun _ _ _ h => h) (by rfl) hS0 ?hy2_2 ?rest2_2
  case hy2_2 => (intro u hu; (try dsimp only at hu); go_simp; first | done | with_reducible rfl)
  (try simp only [Act.put, List.setIfInBounds_toArray, List.set_cons_zero, List.set_cons_succ, List.getElem_toArray, List.getElem_cons_succ, List.getElem_cons_zero])
  refine upTo_take (i := 3) (v := ?v2_3) rfl (by kernel_rfl) (by kernel_rfl) (by kernel_rfl) (by kernel_rfl) (by rfl) (fun _ _ _ h => h) (by rfl) hS0 ?hy2_3 ?rest2_3
  case hy2_3 => (intro u hu; (try dsimp only at hu); go_simp; first | done | with_reducible rfl)
  (try simp only [Act.put, List.setIfInBounds_toArray, List.set_cons_zero, List.set_cons_succ, List.getElem_toArray, List.getElem_cons_succ, List.getElem_cons_zero])
  refine upTo_take (i := 4) (v := ?v2_4) rfl (by kernel_rfl) (by kernel_rfl) (by kernel_rfl) (by kernel_rfl) (by rfl) (fun _ _ _ h => h) (by rfl) hS0 ?hy2_4 ?rest2_4
  case hy2_4 => (intro u hu; (try dsimp only at hu); go_simp; first | done | with_reducible rfl)
  (try simp only [Act.put, List.setIfInBounds_toArray, List.set_cons_zero, List.set_cons_succ, List.getElem_toArray, List.getElem_cons_succ, List.getElem_cons_zero])
  refine upTo_take (i := 5) (v := ?v2_5) rfl (by kernel_rfl) (by kernel_rfl) (by kernel_rfl) (by kernel_rfl) (by rfl) (fun _ _ _ h => h) (by rfl) hS0 ?hy2_5 ?rest2_5
  case hy2_5 => (intro u hu; (try dsimp only at hu); go_simp; first | done | with_reducible rfl)
  (try simp only [Act.put, List.setIfInBounds_toArray, List.set_cons_zero, List.set_cons_succ, List.getElem_toArray, List.getElem_cons_succ, List.getElem_cons_zero])
  refine upTo_take (i := 6) (v := ?v2_6) rfl (by kernel_rfl) (by kernel_rfl) (by kernel_rfl) (by kernel_rfl) (by rfl) (fun _ _ _ h => h) (by rfl) hS0 ?hy2_6 ?rest2_6
  case hy2_6 => (intro u hu; (try dsimp only at hu); go_simp; first | done | with_reducible rfl)
  (try simp only [Act.put, List.setIfInBounds_toArray, List.set_cons_zero, List.set_cons_succ, List.getElem_toArray, List.getElem_cons_succ, List.getElem_cons_zero])
  refine upTo_take (i := 7) (v := ?v2_7) rfl (by kernel_rfl) (by kernel_rfl) (by kernel_rfl) (by kernel_rfl) (by rfl) (fun _ _ _ h => h) (by rfl) hS0 ?hy2_7 ?rest2_7
  case hy2_7 => (intro u hu; (try dsimp only at hu); go_simp; first | done | with_reducible rfl)
  (try simp only [Act.put, List.setIfInBounds_toArray, List.set_cons_zero, List.set_cons_succ, List.getElem_toArray, List.getElem_cons_succ, List.getElem_cons_zero])
  clear hS0
  refine upTo_one (i := 8) (by kernel_rfl) rfl (fun K hK => ?_)
  go_simp
  refine (hR _ HIp1.out.inv.mr.drew).mono ?_
  rintro e p2 ⟨z2, R2, rfl, hrr, hev⟩
  have HEp2 : Hid (Evo p1 rb R p2 R2) := (Evo.refl HIp1.out.inv.mr).drewE.trans hev
  have HRp2 : Hid (RR z2 R2) := hrr
  clear hev hrr
  have HIp2 : Hid (PInv w0 p2 wb xb rb X2 R2 a c l) := HIp1.out.evoR HEp2.out
  have HOp2 : Hid (Blk p2 ob 34 (opCells 3 A E S)) := HOp1.out.kept HEp2.out.kept HNx.out.2
  have hq := HIp2.out
  have ho := HOp2.out
  refine hK.out _ _ (fun _ => ⟨hq.inv.blk.cell 1, ho.cell 1, ho.cell 2, ho.cell 3, ho.cell 4, ho.cell 5, ho.cell 6⟩) ?_
  clear hK K hq ho
  (try simp only [Act.put, List.setIfInBounds_toArray, List.set_cons_zero, List.set_cons_succ, List.getElem_toArray, List.getElem_cons_succ, List.getElem_cons_zero])
  refine upTo_one (i := 9) (by kernel_rfl) rfl (fun K hK => ?_)
  go_simp
  refine hK.out _ _ (fun h => absurd rfl h) ?_
  clear hK K
  (try simp only [Act.put, List.setIfInBounds_toArray, List.set_cons_zero, List.set_cons_succ, List.getElem_toArray, List.getElem_cons_succ, List.getElem_cons_zero])
  refine upTo_done (by kernel_rfl) ?_
  obtain ⟨hzz, hBo⟩ := hB _ _ _ _ HRp1.out HRp2.out
  subst hzz
  clear hX hR hB
  go_wp2_with (go_at_call 13; refine (num_any _ _).mono ?_; rintro e w' ⟨rfl, rfl⟩)
  go_ret
  exact ⟨rfl, X2, R2, HIp2.out, hBo⟩
end Go.Proofs.YthiabdpgieppoaaGreat
