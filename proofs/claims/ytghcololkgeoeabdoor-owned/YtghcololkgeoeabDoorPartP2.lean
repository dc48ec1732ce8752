import Derived.Test.YtghcololkgeoeabDoorPartP1
import Derived.Test.YtghcololkgeoeabDoorPartP0
import Derived.Test.YtghcololkgeoeabDoorPartN2
namespace Go.Proofs.YtghcololkgeoeabDoor
open Go.RowKit
set_option linter.unusedVariables false
set_option linter.unusedSimpArgs false
attribute [local go_sem ↓] Go.wp_at_zero Go.wp_at_succ

set_option maxRecDepth 100000 in
set_option maxHeartbeats 8000000 in
theorem still_true (hb : Nat) (ea : Option Addr) (ec : Nat) (el : List E1) (ia : Option Addr) (ic : Nat) (il : List E1) (w : World) (hB : Blk w hb 50 [.slice ea el.length ec, .slice ia il.length ic]) (he : Lists1 w kdS ea ec el) (hi : Lists1 w kdT ia ic il) (hle : el.length ≤ 9000000000000) (hli : il.length ≤ 9000000000000) :
    Calls Tryd.prog 20 #[.pointer (some ⟨hb, 0, none⟩)] w fun e w' => e = .returned (.bool true) ∧ Below w.heap.size w w' := by
  have HB : Hid (Blk w hb 50 [.slice ea el.length ec, .slice ia il.length ic]) := hB
  have HL0 : Hid (Lists1 w kdS ea ec el) := he
  have HL1 : Hid (Lists1 w kdT ia ic il) := hi
  have HW : Hid (Below w.heap.size w w) := Below.refl _ _
  have hwb := hB.lt
  clear hB he hi
  go_enter Tryd.func20, Tryd.ntmps20
  go_wp2
  go_loopw [3] (fun iv wr => ∃ i : Nat, i ≤ el.length ∧ iv = .int .i64 i ∧ Below w.heap.size w wr) (fun iv _ => el.length - (intOf iv).toNat)
  case atStart => exact ⟨0, Nat.zero_le _, rfl, HW.out⟩
  case round =>
    clear HW
    obtain ⟨i, hi, rfl, hbel⟩ := hrel
    have HW : Hid (Below w.heap.size w wr) := hbel
    have b0 := (HB.out.below hbel hwb).cell 0
    simp only [List.getElem?_cons_zero, List.getElem?_cons_succ] at b0
    clear hbel
    by_cases hlt : i < el.length
    · have hlt' : (i : Int) < (el.length : Int) := by omega
      have hi0 : (0 : Int) ≤ (i : Int) := by omega
      have HLr : Hid (Lists1 wr kdS ea ec el) := HL0.out.below HW.out
      obtain ⟨g, hg, s0⟩ := HLr.out.slot i hlt
      have HOw : Hid (Owns1 wr kdS i el[i]) := HLr.out.each i _ (List.getElem?_eq_getElem hlt)
      obtain ⟨E, HEe⟩ := hex el[i]
      rw [← HEe.out] at s0 HOw
      have hel := HOw.out.len
      rw [hg] at b0
      clear hg HLr HEe
      obtain ⟨wo, HWo⟩ := hex wr
      rw [← HWo.out] at HW b0 s0 HOw
      rw [← HWo.out]
      clear HWo
      go_wp2
      go_loopw [4] (fun jv wr => ∃ j : Nat, j ≤ E.sl.length ∧ jv = .int .i64 j ∧ Below wo.heap.size wo wr) (fun jv _ => E.sl.length - (intOf jv).toNat)
      case atStart => exact ⟨0, Nat.zero_le _, rfl, Below.refl _ _⟩
      case round =>
        obtain ⟨j, hj, rfl, hbel⟩ := hrel
        have HV : Hid (Below wo.heap.size wo wr) := hbel
        have b0' := (hbel.cell (p := ⟨hb, 0, none⟩) (World.block_lt_of_cell? wo _ b0)).trans b0
        have s0' := (hbel.cell (p := ⟨g, i, none⟩) (World.block_lt_of_cell? wo _ s0)).trans s0
        clear hbel
        by_cases hjt : j < E.sl.length
        · have hjt' : (j : Int) < (E.sl.length : Int) := by omega
          have hj0 : (0 : Int) ≤ (j : Int) := by omega
          have HOr : Hid (Owns1 wr kdS i E) := HOw.out.below HV.out
          obtain ⟨g2, hg2, s1⟩ := HOr.out.slot j hjt
          have HAl : Hid (AllP wr kdS.t1 kdS.d (kdS.φ i E.V) E.sl[j] ∧ E.sl[j].n ≤ 100000) := HOr.out.each _ (List.getElem_mem hjt)
          obtain ⟨S, HS⟩ := hex E.sl[j]
          rw [← HS.out] at s1 HAl
          have hsn := HAl.out.2
          rw [hg2] at s0'
          have HG2 : Hid (E.a = some ⟨g2, 0, none⟩) := hg2
          clear hg2 HOr HS
          obtain ⟨wq, HWq⟩ := hex wr
          rw [← HWq.out] at HV b0' s0' s1 HAl
          rw [← HWq.out]
          clear HWq b0 s0
          go_wp2
          go_loopw [5] (fun kv wr => ∃ k : Nat, k ≤ S.n ∧ kv = .int .i64 k ∧ Below wq.heap.size wq wr) (fun kv _ => S.n - (intOf kv).toNat)
          case atStart => exact ⟨0, Nat.zero_le _, rfl, Below.refl _ _⟩
          case round =>
            obtain ⟨k, hk, rfl, hbel⟩ := hrel
            have HU : Hid (Below wq.heap.size wq wr) := hbel
            have b1 := (hbel.cell (p := ⟨hb, 0, none⟩) (World.block_lt_of_cell? wq _ b0')).trans b0'
            have t0 := (hbel.cell (p := ⟨g, i, none⟩) (World.block_lt_of_cell? wq _ s0')).trans s0'
            have t1 := (hbel.cell (p := ⟨g2, j, none⟩) (World.block_lt_of_cell? wq _ s1)).trans s1
            clear hbel
            by_cases hkt : k < S.n
            · have hkt' : (k : Int) < (S.n : Int) := by omega
              have hk0 : (0 : Int) ≤ (k : Int) := by omega
              have HAr : Hid (AllP wr 37 5 (fun o v => (stampEv i).vals[o]? = some v) S) := HAl.out.1.heap (fun x hx => HU.out.block x hx)
              obtain ⟨EE, HEE⟩ := hex (stampEv i)
              rw [← HEE.out] at HAr
              obtain ⟨g3, hg3, hnc, c0, c1, c2, c3, c4⟩ := HAr.out.ev_ hkt
              have hst : ∀ u, Calls Tryd.prog 36 #[.int .i64 i] u fun e w' => e = .returned EE.agg ∧ Below u.heap.size u w' ∧ w'.heap.size = u.heap.size + 1 := fun u => by rw [HEE.out]; exact stamp_any i u hi0 (by omega)
              rw [hg3] at t1
              have HG3 : Hid (S.a = some ⟨g3, 0, none⟩) := hg3
              clear hg3 HEE HAr
              go_upto_region 10 with fail
              refine upTo_region (fun u : World => u.cell? ⟨hb, 0, none⟩ = some (.slice (some ⟨g, 0, none⟩) el.length ec) ∧ u.cell? ⟨g, i, none⟩ = some (.slice (some ⟨g2, 0, none⟩) E.sl.length E.c) ∧ u.cell? ⟨g2, j, none⟩ = some (.slice (some ⟨g3, 0, none⟩) S.n S.c) ∧ u.cell? ⟨g3, k * 5, none⟩ = some (.int .i64 EE.src) ∧ u.cell? ⟨g3, k * 5 + 1, none⟩ = some (.int .i64 EE.seq) ∧ u.cell? ⟨g3, k * 5 + 2, none⟩ = some (.int .i64 EE.ts) ∧ u.cell? ⟨g3, k * 5 + 3, none⟩ = some (.int .i64 EE.kind) ∧ u.cell? ⟨g3, k * 5 + 4, none⟩ = some (.int .i64 EE.val)) 16 16 rfl (by kernel_rfl) ?_
              have hS0 : (fun u : World => u.cell? ⟨hb, 0, none⟩ = some (.slice (some ⟨g, 0, none⟩) el.length ec) ∧ u.cell? ⟨g, i, none⟩ = some (.slice (some ⟨g2, 0, none⟩) E.sl.length E.c) ∧ u.cell? ⟨g2, j, none⟩ = some (.slice (some ⟨g3, 0, none⟩) S.n S.c) ∧ u.cell? ⟨g3, k * 5, none⟩ = some (.int .i64 EE.src) ∧ u.cell? ⟨g3, k * 5 + 1, none⟩ = some (.int .i64 EE.seq) ∧ u.cell? ⟨g3, k * 5 + 2, none⟩ = some (.int .i64 EE.ts) ∧ u.cell? ⟨g3, k * 5 + 3, none⟩ = some (.int .i64 EE.kind) ∧ u.cell? ⟨g3, k * 5 + 4, none⟩ = some (.int .i64 EE.val)) wr.drew := ⟨b1, t0, t1, c0, c1, c2, c3, c4⟩
              refine upTo_take2 (i := 0) (v := ?v35_0) rfl (by kernel_rfl) (by kernel_rfl) (by kernel_rfl) rfl (fun _ _ _ h => h) (by rfl) hS0 ?hy35_0 ?rest35_0
              case hy35_0 => (intro u hu; (try dsimp only at hu); go_simp; first | done | with_reducible rfl)
              (try simp only [Act.put, List.setIfInBounds_toArray, List.set_cons_zero, List.set_cons_succ, List.getElem_toArray, List.getElem_cons_succ, List.getElem_cons_zero])
              refine upTo_take2 (i := 1) (v := ?v35_1) rfl (by kernel_rfl) (by kernel_rfl) (by kernel_rfl) rfl (fun _ _ _ h => h) (by rfl) hS0 ?hy35_1 ?rest35_1
              case hy35_1 => (intro u hu; (try dsimp only at hu); go_simp; first | done | with_reducible rfl)
              (try simp only [Act.put, List.setIfInBounds_toArray, List.set_cons_zero, List.set_cons_succ, List.getElem_toArray, List.getElem_cons_succ, List.getElem_cons_zero])
              refine upTo_take2 (i := 2) (v := ?v35_2) rfl (by kernel_rfl) (by kernel_rfl) (by kernel_rfl) rfl (fun _ _ _ h => h) (by rfl) hS0 ?hy35_2 ?rest35_2
              case hy35_2 => (intro u hu; (try dsimp only at hu); go_simp; first | done | with_reducible rfl)
              (try simp only [Act.put, List.setIfInBounds_toArray, List.set_cons_zero, List.set_cons_succ, List.getElem_toArray, List.getElem_cons_succ, List.getElem_cons_zero])
              refine upTo_take2 (i := 3) (v := ?v35_3) rfl (by kernel_rfl) (by kernel_rfl) (by kernel_rfl) rfl (fun _ _ _ h => h) (by rfl) hS0 ?hy35_3 ?rest35_3
              case hy35_3 => (intro u hu; (try dsimp only at hu); go_simp; first | done | with_reducible rfl)
              (try simp only [Act.put, List.setIfInBounds_toArray, List.set_cons_zero, List.set_cons_succ, List.getElem_toArray, List.getElem_cons_succ, List.getElem_cons_zero])
              refine upTo_take2 (i := 4) (v := ?v35_4) rfl (by kernel_rfl) (by kernel_rfl) (by kernel_rfl) rfl (fun _ _ _ h => h) (by rfl) hS0 ?hy35_4 ?rest35_4
              case hy35_4 => (intro u hu; (try dsimp only at hu); go_simp; first | done | with_reducible rfl)
              (try simp only [Act.put, List.setIfInBounds_toArray, List.set_cons_zero, List.set_cons_succ, List.getElem_toArray, List.getElem_cons_succ, List.getElem_cons_zero])
              refine upTo_take2 (i := 5) (v := ?v35_5) rfl (by kernel_rfl) (by kernel_rfl) (by kernel_rfl) rfl (fun _ _ _ h => h) (by rfl) hS0 ?hy35_5 ?rest35_5
              case hy35_5 => (intro u hu; (try dsimp only at hu); go_simp; first | done | with_reducible rfl)
              (try simp only [Act.put, List.setIfInBounds_toArray, List.set_cons_zero, List.set_cons_succ, List.getElem_toArray, List.getElem_cons_succ, List.getElem_cons_zero])
              refine upTo_take2 (i := 6) (v := ?v35_6) rfl (by kernel_rfl) (by kernel_rfl) (by kernel_rfl) rfl (fun _ _ _ h => h) (by rfl) hS0 ?hy35_6 ?rest35_6
              case hy35_6 => (intro u hu; (try dsimp only at hu); go_simp; first | done | with_reducible rfl)
              (try simp only [Act.put, List.setIfInBounds_toArray, List.set_cons_zero, List.set_cons_succ, List.getElem_toArray, List.getElem_cons_succ, List.getElem_cons_zero])
              refine upTo_take2 (i := 7) (v := ?v35_7) rfl (by kernel_rfl) (by kernel_rfl) (by kernel_rfl) rfl (fun _ _ _ h => h) (by rfl) hS0 ?hy35_7 ?rest35_7
              case hy35_7 => (intro u hu; (try dsimp only at hu); go_simp; first | done | with_reducible rfl)
              (try simp only [Act.put, List.setIfInBounds_toArray, List.set_cons_zero, List.set_cons_succ, List.getElem_toArray, List.getElem_cons_succ, List.getElem_cons_zero])
              refine upTo_take2 (i := 8) (v := ?v35_8) rfl (by kernel_rfl) (by kernel_rfl) (by kernel_rfl) rfl (fun _ _ _ h => h) (by rfl) hS0 ?hy35_8 ?rest35_8
              case hy35_8 => (intro u hu; (try dsimp only at hu); go_simp; first | done | with_reducible rfl)
              (try simp only [Act.put, List.setIfInBounds_toArray, List.set_cons_zero, List.set_cons_succ, List.getElem_toArray, List.getElem_cons_succ, List.getElem_cons_zero])
              refine upTo_take2 (i := 9) (v := ?v35_9) rfl (by kernel_rfl) (by kernel_rfl) (by kernel_rfl) rfl (fun _ _ _ h => h) (by rfl) hS0 ?hy35_9 ?rest35_9
              case hy35_9 => (intro u hu; (try dsimp only at hu); go_simp; first | done | with_reducible rfl)
              (try simp only [Act.put, List.setIfInBounds_toArray, List.set_cons_zero, List.set_cons_succ, List.getElem_toArray, List.getElem_cons_succ, List.getElem_cons_zero])
              refine upTo_take2 (i := 10) (v := ?v35_10) rfl (by kernel_rfl) (by kernel_rfl) (by kernel_rfl) rfl (fun _ _ _ h => h) (by rfl) hS0 ?hy35_10 ?rest35_10
              case hy35_10 => (intro u hu; (try dsimp only at hu); go_simp; first | done | with_reducible rfl)
              (try simp only [Act.put, List.setIfInBounds_toArray, List.set_cons_zero, List.set_cons_succ, List.getElem_toArray, List.getElem_cons_succ, List.getElem_cons_zero])
              refine upTo_take2 (i := 11) (v := ?v35_11) rfl (by kernel_rfl) (by kernel_rfl) (by kernel_rfl) rfl (fun _ _ _ h => h) (by rfl) hS0 ?hy35_11 ?rest35_11
              case hy35_11 => (intro u hu; (try dsimp only at hu); go_simp; first | done | with_reducible rfl)
              (try simp only [Act.put, List.setIfInBounds_toArray, List.set_cons_zero, List.set_cons_succ, List.getElem_toArray, List.getElem_cons_succ, List.getElem_cons_zero])
              refine upTo_take2 (i := 12) (v := ?v35_12) rfl (by kernel_rfl) (by kernel_rfl) (by kernel_rfl) rfl (fun _ _ _ h => h) (by rfl) hS0 ?hy35_12 ?rest35_12
              case hy35_12 => (intro u hu; (try dsimp only at hu); go_simp; first | done | with_reducible rfl)
              (try simp only [Act.put, List.setIfInBounds_toArray, List.set_cons_zero, List.set_cons_succ, List.getElem_toArray, List.getElem_cons_succ, List.getElem_cons_zero])
              refine upTo_take2 (i := 13) (v := ?v35_13) rfl (by kernel_rfl) (by kernel_rfl) (by kernel_rfl) rfl (fun _ _ _ h => h) (by rfl) hS0 ?hy35_13 ?rest35_13
              case hy35_13 => (intro u hu; (try dsimp only at hu); go_simp; first | done | with_reducible rfl)
              (try simp only [Act.put, List.setIfInBounds_toArray, List.set_cons_zero, List.set_cons_succ, List.getElem_toArray, List.getElem_cons_succ, List.getElem_cons_zero])
              clear hS0
              refine upTo_one (i := 14) (by kernel_rfl) rfl (fun K hK => ?_)
              go_simp
              refine (hst _).mono ?_
              rintro e w2 ⟨rfl, hb2, _⟩
              have HB2 : Hid (Below wr.heap.size wr w2) := ⟨hb2.os, hb2.tape, hb2.output, hb2.size, hb2.block⟩
              have hc2 : ∀ p v, wr.cell? p = some v → w2.cell? p = some v := fun p v h => (HB2.out.cell (p := p) (World.block_lt_of_cell? wr p h)).trans h
              have HS2 : Hid ((fun u : World => u.cell? ⟨hb, 0, none⟩ = some (.slice (some ⟨g, 0, none⟩) el.length ec) ∧ u.cell? ⟨g, i, none⟩ = some (.slice (some ⟨g2, 0, none⟩) E.sl.length E.c) ∧ u.cell? ⟨g2, j, none⟩ = some (.slice (some ⟨g3, 0, none⟩) S.n S.c) ∧ u.cell? ⟨g3, k * 5, none⟩ = some (.int .i64 EE.src) ∧ u.cell? ⟨g3, k * 5 + 1, none⟩ = some (.int .i64 EE.seq) ∧ u.cell? ⟨g3, k * 5 + 2, none⟩ = some (.int .i64 EE.ts) ∧ u.cell? ⟨g3, k * 5 + 3, none⟩ = some (.int .i64 EE.kind) ∧ u.cell? ⟨g3, k * 5 + 4, none⟩ = some (.int .i64 EE.val)) w2) := ⟨hc2 _ _ b1, hc2 _ _ t0, hc2 _ _ t1, hc2 _ _ c0, hc2 _ _ c1, hc2 _ _ c2, hc2 _ _ c3, hc2 _ _ c4⟩
              clear hb2 hc2 b1 t0 t1 c0 c1 c2 c3 c4
              refine hK.out _ _ (fun _ => HS2.out) ?_
              clear hK K
              unfold Ev.agg
              (try simp only [Act.put, List.setIfInBounds_toArray, List.set_cons_zero, List.set_cons_succ, List.getElem_toArray, List.getElem_cons_succ, List.getElem_cons_zero])
              refine upTo_one (i := 15) (by kernel_rfl) rfl (fun K hK => ?_)
              go_simp
              refine hK.out _ _ (fun _ => HS2.out) ?_
              clear hK K
              (try simp only [Act.put, List.setIfInBounds_toArray, List.set_cons_zero, List.set_cons_succ, List.getElem_toArray, List.getElem_cons_succ, List.getElem_cons_zero])
              refine upTo_done (by kernel_rfl) ?_
              go_wp2
              go_roundw
              case rel => exact ⟨k + 1, by omega, by go_num, HU.out.trans (HB2.out.mono HU.out.size)⟩
              case measure => simp [intOf]; omega
            · have hkt' : ¬ (k : Int) < (S.n : Int) := by omega
              go_wp2
              go_roundw
              case rel => exact ⟨j + 1, by omega, by go_num, HV.out.trans (HU.out.mono HV.out.size)⟩
              case measure => simp [intOf]; omega
        · have hjt' : ¬ (j : Int) < (E.sl.length : Int) := by omega
          go_wp2
          go_roundw
          case rel => exact ⟨i + 1, by omega, by go_num, HW.out.trans (HV.out.mono HW.out.size)⟩
          case measure => simp [intOf]; omega
    · have hlt' : ¬ (i : Int) < (el.length : Int) := by omega
      go_wp2
      go_loopw [6] (fun iv wr => ∃ i : Nat, i ≤ il.length ∧ iv = .int .i64 i ∧ Below w.heap.size w wr) (fun iv _ => il.length - (intOf iv).toNat)
      case atStart => exact ⟨0, Nat.zero_le _, rfl, HW.out⟩
      case round =>
        clear HW
        obtain ⟨i, hi, rfl, hbel⟩ := hrel
        have HW : Hid (Below w.heap.size w wr) := hbel
        have b0 := (HB.out.below hbel hwb).cell 1
        simp only [List.getElem?_cons_zero, List.getElem?_cons_succ] at b0
        clear hbel
        by_cases hlt : i < il.length
        · have hlt' : (i : Int) < (il.length : Int) := by omega
          have hi0 : (0 : Int) ≤ (i : Int) := by omega
          have HLr : Hid (Lists1 wr kdT ia ic il) := HL1.out.below HW.out
          obtain ⟨g, hg, s0⟩ := HLr.out.slot i hlt
          have HOw : Hid (Owns1 wr kdT i il[i]) := HLr.out.each i _ (List.getElem?_eq_getElem hlt)
          obtain ⟨E, HEe⟩ := hex il[i]
          rw [← HEe.out] at s0 HOw
          have hel := HOw.out.len
          rw [hg] at b0
          clear hg HLr HEe
          obtain ⟨wo, HWo⟩ := hex wr
          rw [← HWo.out] at HW b0 s0 HOw
          rw [← HWo.out]
          clear HWo
          go_wp2
          go_loopw [7] (fun jv wr => ∃ j : Nat, j ≤ E.sl.length ∧ jv = .int .i64 j ∧ Below wo.heap.size wo wr) (fun jv _ => E.sl.length - (intOf jv).toNat)
          case atStart => exact ⟨0, Nat.zero_le _, rfl, Below.refl _ _⟩
          case round =>
            obtain ⟨j, hj, rfl, hbel⟩ := hrel
            have HV : Hid (Below wo.heap.size wo wr) := hbel
            have b0' := (hbel.cell (p := ⟨hb, 1, none⟩) (World.block_lt_of_cell? wo _ b0)).trans b0
            have s0' := (hbel.cell (p := ⟨g, i, none⟩) (World.block_lt_of_cell? wo _ s0)).trans s0
            clear hbel
            by_cases hjt : j < E.sl.length
            · have hjt' : (j : Int) < (E.sl.length : Int) := by omega
              have hj0 : (0 : Int) ≤ (j : Int) := by omega
              have HOr : Hid (Owns1 wr kdT i E) := HOw.out.below HV.out
              obtain ⟨g2, hg2, s1⟩ := HOr.out.slot j hjt
              have HAl : Hid (AllP wr kdT.t1 kdT.d (kdT.φ i E.V) E.sl[j] ∧ E.sl[j].n ≤ 100000) := HOr.out.each _ (List.getElem_mem hjt)
              obtain ⟨S, HS⟩ := hex E.sl[j]
              rw [← HS.out] at s1 HAl
              have hsn := HAl.out.2
              rw [hg2] at s0'
              have HG2 : Hid (E.a = some ⟨g2, 0, none⟩) := hg2
              clear hg2 HOr HS
              obtain ⟨wq, HWq⟩ := hex wr
              rw [← HWq.out] at HV b0' s0' s1 HAl
              rw [← HWq.out]
              clear HWq b0 s0
              go_wp2
              go_loopw [8] (fun kv wr => ∃ k : Nat, k ≤ S.n ∧ kv = .int .i64 k ∧ Below wq.heap.size wq wr) (fun kv _ => S.n - (intOf kv).toNat)
              case atStart => exact ⟨0, Nat.zero_le _, rfl, Below.refl _ _⟩
              case round =>
                obtain ⟨k, hk, rfl, hbel⟩ := hrel
                have HU : Hid (Below wq.heap.size wq wr) := hbel
                have b1 := (hbel.cell (p := ⟨hb, 1, none⟩) (World.block_lt_of_cell? wq _ b0')).trans b0'
                have t0 := (hbel.cell (p := ⟨g, i, none⟩) (World.block_lt_of_cell? wq _ s0')).trans s0'
                have t1 := (hbel.cell (p := ⟨g2, j, none⟩) (World.block_lt_of_cell? wq _ s1)).trans s1
                clear hbel
                by_cases hkt : k < S.n
                · have hkt' : (k : Int) < (S.n : Int) := by omega
                  have hk0 : (0 : Int) ≤ (k : Int) := by omega
                  have HAr : Hid (AllP wr 3 1 (fun _ v => v = .int .i64 (-1 - (i : Int))) S) := HAl.out.1.heap (fun x hx => HU.out.block x hx)
                  obtain ⟨g3, v3, hg3, c0, hv3, _, hnc⟩ := HAr.out.at_ (j := k) (by omega)
                  subst hv3
                  obtain ⟨EE, HEE⟩ := hex (-1 - (i : Int))
                  rw [← HEE.out] at c0
                  have hsub : IntKind.i64.wrap (-1 - (i : Int)) = EE := by rw [HEE.out, IntKind.wrap_i64]; omega
                  rw [hg3] at t1
                  have HG3 : Hid (S.a = some ⟨g3, 0, none⟩) := hg3
                  clear hg3 HEE HAr
                  go_wp2
                  go_roundw
                  case rel => exact ⟨k + 1, by omega, by go_num, HU.out⟩
                  case measure => simp [intOf]; omega
                · have hkt' : ¬ (k : Int) < (S.n : Int) := by omega
                  go_wp2
                  go_roundw
                  case rel => exact ⟨j + 1, by omega, by go_num, HV.out.trans (HU.out.mono HV.out.size)⟩
                  case measure => simp [intOf]; omega
            · have hjt' : ¬ (j : Int) < (E.sl.length : Int) := by omega
              go_wp2
              go_roundw
              case rel => exact ⟨i + 1, by omega, by go_num, HW.out.trans (HV.out.mono HW.out.size)⟩
              case measure => simp [intOf]; omega
        · have hlt' : ¬ (i : Int) < (il.length : Int) := by omega
          go_wp2
          go_ret
          exact ⟨rfl, HW.out⟩
end Go.Proofs.YtghcololkgeoeabDoor
namespace Go.Proofs.YtghcololkgeoeabDoor
open Go.RowKit
set_option linter.unusedVariables false
set_option linter.unusedSimpArgs false

/-! ### two engines, and the lists that the first one handed out -/
def hfp (hb : Nat) (ea : Option Addr) (el : List E1) (ia : Option Addr) (il : List E1) : List (Option Nat) := some hb :: bk ea :: bk ia :: (fp1 el ++ fp1 il)
structure Hld (w wr : World) (b b' : Nat) (bs : List (Nat × TypeId × List Value)) (X Y : Eng) (hb : Nat) (ea : Option Addr) (ec : Nat) (el : List E1) (ia : Option Addr) (ic : Nat) (il : List E1) : Prop where
  two : Two w wr b b' bs X Y
  blk : Blk wr hb 50 [.slice ea el.length ec, .slice ia il.length ic]
  le : Lists1 wr kdS ea ec el
  li : Lists1 wr kdT ia ic il
  eh : bk ea ≠ some hb
  ih : bk ia ≠ some hb
  hn : some hb ∉ fp1 el ∧ some hb ∉ fp1 il
  ee : ∀ k, bk ea = some k → bk ia ≠ some k ∧ some k ∉ fp1 el ∧ some k ∉ fp1 il
  ii : ∀ k, bk ia = some k → some k ∉ fp1 el ∧ some k ∉ fp1 il
  low : ∀ k, (k = hb ∨ bk ea = some k ∨ bk ia = some k) → w.heap.size ≤ k
  dx : ∀ k, some k ∈ hfp hb ea el ia il → some k ∉ X.fp b
  dy : ∀ k, some k ∈ hfp hb ea el ia il → some k ∉ Y.fp b'
  nb : ∀ x ∈ bs, x.1 ≠ hb ∧ bk ea ≠ some x.1 ∧ bk ia ≠ some x.1
theorem mem_hfp {hb : Nat} {ea : Option Addr} {el : List E1} {ia : Option Addr} {il : List E1} {k : Nat} : some k ∈ hfp hb ea el ia il ↔ k = hb ∨ bk ea = some k ∨ bk ia = some k ∨ some k ∈ fp1 el ∨ some k ∈ fp1 il := by
  unfold hfp
  simp only [List.mem_cons, List.mem_append, Option.some.injEq]
  constructor
  · rintro (h | h | h | h | h)
    · exact Or.inl h
    · exact Or.inr (Or.inl h.symm)
    · exact Or.inr (Or.inr (Or.inl h.symm))
    · exact Or.inr (Or.inr (Or.inr (Or.inl h)))
    · exact Or.inr (Or.inr (Or.inr (Or.inr h)))
  · rintro (h | h | h | h | h)
    · exact Or.inl h
    · exact Or.inr (Or.inl h.symm)
    · exact Or.inr (Or.inr (Or.inl h.symm))
    · exact Or.inr (Or.inr (Or.inr (Or.inl h)))
    · exact Or.inr (Or.inr (Or.inr (Or.inr h)))
section
variable {w wr w' : World} {b b' : Nat} {bs : List (Nat × TypeId × List Value)} {X Y X' Y' : Eng} {hb : Nat} {ea : Option Addr} {ec : Nat} {el : List E1} {ia : Option Addr} {ic : Nat} {il : List E1}
theorem Hld.lt (h : Hld w wr b b' bs X Y hb ea ec el ia ic il) : ∀ k, some k ∈ hfp hb ea el ia il → k < wr.heap.size := by
  intro k hk
  rcases mem_hfp.1 hk with rfl | e | e | e | e
  · exact h.blk.lt
  · exact h.le.row.lt e
  · exact h.li.row.lt e
  · exact h.le.lt k e
  · exact h.li.lt k e
theorem Hld.swap (h : Hld w wr b b' bs X Y hb ea ec el ia ic il) : Hld w wr b' b bs Y X hb ea ec el ia ic il :=
  ⟨h.two.swap, h.blk, h.le, h.li, h.eh, h.ih, h.hn, h.ee, h.ii, h.low, h.dy, h.dx, h.nb⟩
theorem Hld.evoX (h : Hld w wr b b' bs X Y hb ea ec el ia ic il) (e : EvoX wr b X w' X') : Hld w w' b b' bs X' Y hb ea ec el ia ic il := by
  refine ⟨h.two.evoX e, h.blk.kept e.kept (h.dx hb (mem_hfp.2 (Or.inl rfl))), h.le.kept e.kept (fun k hk => h.dx k (mem_hfp.2 (Or.inr (Or.inl hk)))) (fun k hk => h.dx k (mem_hfp.2 (Or.inr (Or.inr (Or.inr (Or.inl hk)))))), h.li.kept e.kept (fun k hk => h.dx k (mem_hfp.2 (Or.inr (Or.inr (Or.inl hk))))) (fun k hk => h.dx k (mem_hfp.2 (Or.inr (Or.inr (Or.inr (Or.inr hk)))))), h.eh, h.ih, h.hn, h.ee, h.ii, h.low, ?_, h.dy, h.nb⟩
  intro k hk hx
  rcases e.grow k hx with f | f
  · exact h.dx k hk f
  · have := h.lt k hk; omega
theorem Hld.evoY (h : Hld w wr b b' bs X Y hb ea ec el ia ic il) (e : EvoX wr b' Y w' Y') : Hld w w' b b' bs X Y' hb ea ec el ia ic il := (h.swap.evoX e).swap
theorem Hld.below (h : Hld w wr b b' bs X Y hb ea ec el ia ic il) (hb' : Below wr.heap.size wr w') : Hld w w' b b' bs X Y hb ea ec el ia ic il := h.evoX (EvoX.below h.two.mx hb')
/-- a block that is nobody's -/
structure Fr (w : World) (b b' : Nat) (bs : List (Nat × TypeId × List Value)) (X Y : Eng) (hb : Nat) (ea : Option Addr) (el : List E1) (ia : Option Addr) (il : List E1) (k : Nat) : Prop where
  up : w.heap.size ≤ k
  nh : some k ∉ hfp hb ea el ia il
  nx : some k ∉ X.fp b
  ny : some k ∉ Y.fp b'
  nb : ∀ x ∈ bs, x.1 ≠ k
theorem Hld.fresh (h : Hld w wr b b' bs X Y hb ea ec el ia ic il) {k : Nat} (hk : wr.heap.size ≤ k) : Fr w b b' bs X Y hb ea el ia il k :=
  ⟨Nat.le_trans h.two.bel.size hk, fun e => by have := h.lt k e; omega, fun e => by have := h.two.mx.fp_lt k e; omega, fun e => by have := h.two.my.fp_lt k e; omega, fun x hx e => by have := (h.two.bx x hx).lt; omega⟩
theorem two_kept {S : Nat → Prop} (t : Two w wr b b' bs X Y) (K : Kept S wr w') (hx : ∀ k, some k ∈ X.fp b → ¬ S k) (hy : ∀ k, some k ∈ Y.fp b' → ¬ S k) (hw : ∀ k, S k → w.heap.size ≤ k) (hb : ∀ x ∈ bs, ¬ S x.1) : Two w w' b b' bs X Y :=
  ⟨t.mx.kept K hx, t.my.kept K hy, t.dis, kept_toBelow t.bel K hw, t.fx, t.fy, fun x hx => (t.bx x hx).kept K (hb x hx), t.nx, t.ny⟩
/-- a store into a block that is nobody's -/
theorem Hld.side (h : Hld w wr b b' bs X Y hb ea ec el ia ic il) {k : Nat} (f : Fr w b b' bs X Y hb ea el ia il k) (K : Kept (fun x => x = k) wr w') : Hld w w' b b' bs X Y hb ea ec el ia ic il := by
  have hne : ∀ x, some x ∈ hfp hb ea el ia il → ¬ x = k := fun x hx e => f.nh (e ▸ hx)
  exact ⟨two_kept h.two K (fun x hx e => f.nx (e ▸ hx)) (fun x hx e => f.ny (e ▸ hx)) (fun x e => e ▸ f.up) (fun x hx e => f.nb x hx e), h.blk.kept K (hne hb (mem_hfp.2 (Or.inl rfl))), h.le.kept K (fun k hk => hne k (mem_hfp.2 (Or.inr (Or.inl hk)))) (fun k hk => hne k (mem_hfp.2 (Or.inr (Or.inr (Or.inr (Or.inl hk)))))), h.li.kept K (fun k hk => hne k (mem_hfp.2 (Or.inr (Or.inr (Or.inl hk))))) (fun k hk => hne k (mem_hfp.2 (Or.inr (Or.inr (Or.inr (Or.inr hk)))))), h.eh, h.ih, h.hn, h.ee, h.ii, h.low, h.dx, h.dy, h.nb⟩
theorem Hld.event (h : Hld w wr b b' bs X Y hb ea ec el ia ic il) {sa : Option Addr} (f : ∀ k, bk sa = some k → Fr w b b' bs X Y hb ea el ia il k)
    (ho : Owned1 kdS wr w' hb 50 [.slice ea el.length ec, .slice ia il.length ic] 0 ea sa [] el) : ∃ ea' ec' E, Hld w w' b b' bs X Y hb ea' ec' (el ++ [E]) ia ic il := by
  obtain ⟨a', c', E, hB, hL, hK, hE, ha, ha2⟩ := ho
  have hlt := h.lt
  have hS : ∀ k, some k ∈ hfp hb ea el ia il → k ≠ hb → bk ea ≠ some k → ¬ (k = hb ∨ bk ea = some k ∨ bk sa = some k) := fun k hk h1 h2 e => by
    rcases e with e | e | e
    · exact h1 e
    · exact h2 e
    · exact (f k e).nh hk
  have hmem : ∀ k, some k ∈ fp1 (el ++ [E]) → some k ∈ fp1 el ∨ (bk sa = some k) ∨ wr.heap.size ≤ k := fun k hk => by
    simp only [fp1, List.flatMap_append, List.mem_append, List.flatMap_cons, List.flatMap_nil, List.append_nil] at hk
    rcases hk with hk | hk
    · exact Or.inl hk
    · rcases hE k hk with e | e | e
      · exact Or.inr (Or.inl e)
      · cases e
      · exact Or.inr (Or.inr e)
  have new : ∀ k, some k ∈ hfp hb a' (el ++ [E]) ia il → some k ∈ hfp hb ea el ia il ∨ bk sa = some k ∨ wr.heap.size ≤ k := fun k hk => by
    rcases mem_hfp.1 hk with e | e | e | e | e
    · exact Or.inl (mem_hfp.2 (Or.inl e))
    · rcases ha k e with g | g
      · exact Or.inl (mem_hfp.2 (Or.inr (Or.inl g)))
      · exact Or.inr (Or.inr g)
    · exact Or.inl (mem_hfp.2 (Or.inr (Or.inr (Or.inl e))))
    · rcases hmem k e with g | g
      · exact Or.inl (mem_hfp.2 (Or.inr (Or.inr (Or.inr (Or.inl g)))))
      · exact Or.inr g
    · exact Or.inl (mem_hfp.2 (Or.inr (Or.inr (Or.inr (Or.inr e)))))
  have hil : ∀ k, some k ∈ fp1 il → k ≠ hb ∧ bk ea ≠ some k := fun k hk => ⟨fun e => h.hn.2 (e ▸ hk), fun e => (h.ee k e).2.2 hk⟩
  have hia : ∀ k, bk ia = some k → k ≠ hb ∧ bk ea ≠ some k := fun k hk => ⟨fun e => h.ih (by rw [hk, e]), fun e => (h.ee k e).1 hk⟩
  have sx := h.two.mx.fp_lt
  have sy := h.two.my.fp_lt
  have hbl := h.blk.lt
  refine ⟨a', c', E, ⟨two_kept h.two hK ?_ ?_ ?_ ?_, by simpa using hB, hL, h.li.kept hK (fun k hk => hS k (mem_hfp.2 (Or.inr (Or.inr (Or.inl hk)))) (hia k hk).1 (hia k hk).2) (fun k hk => hS k (mem_hfp.2 (Or.inr (Or.inr (Or.inr (Or.inr hk))))) (hil k hk).1 (hil k hk).2), ?_, h.ih, ⟨?_, h.hn.2⟩, ?_, ?_, ?_, ?_, ?_, ?_⟩⟩
  · intro k hk e
    rcases e with e | e | e
    · exact h.dx k (mem_hfp.2 (Or.inl e)) hk
    · exact h.dx k (mem_hfp.2 (Or.inr (Or.inl e))) hk
    · exact (f k e).nx hk
  · intro k hk e
    rcases e with e | e | e
    · exact h.dy k (mem_hfp.2 (Or.inl e)) hk
    · exact h.dy k (mem_hfp.2 (Or.inr (Or.inl e))) hk
    · exact (f k e).ny hk
  · intro k e
    rcases e with e | e | e
    · exact h.low k (Or.inl e)
    · exact h.low k (Or.inr (Or.inl e))
    · exact (f k e).up
  · intro x hx e
    rcases e with e | e | e
    · exact (h.nb x hx).1 e
    · exact (h.nb x hx).2.1 e
    · exact (f _ e).nb x hx rfl
  · intro e
    rcases ha _ e with g | g
    · exact h.eh g
    · omega
  · intro e
    rcases hmem _ e with g | g | g
    · exact h.hn.1 g
    · exact (f _ g).nh (mem_hfp.2 (Or.inl rfl))
    · omega
  · intro k hk
    refine ⟨fun e => ?_, ha2 k hk, fun e => ?_⟩
    · rcases ha k hk with g | g
      · exact (h.ee k g).1 e
      · have := hlt k (mem_hfp.2 (Or.inr (Or.inr (Or.inl e)))); omega
    · rcases ha k hk with g | g
      · exact (h.ee k g).2.2 e
      · have := hlt k (mem_hfp.2 (Or.inr (Or.inr (Or.inr (Or.inr e))))); omega
  · intro k hk
    refine ⟨fun e => ?_, (h.ii k hk).2⟩
    rcases hmem k e with g | g | g
    · exact (h.ii k hk).1 g
    · exact (f k g).nh (mem_hfp.2 (Or.inr (Or.inr (Or.inl hk))))
    · have := hlt k (mem_hfp.2 (Or.inr (Or.inr (Or.inl hk)))); omega
  · intro k hk
    rcases hk with e | e | e
    · exact h.low k (Or.inl e)
    · rcases ha k e with g | g
      · exact h.low k (Or.inr (Or.inl g))
      · exact Nat.le_trans h.two.bel.size g
    · exact h.low k (Or.inr (Or.inr e))
  · intro k hk e
    rcases new k hk with g | g | g
    · exact h.dx k g e
    · exact (f k g).nx e
    · have := sx k e; omega
  · intro k hk e
    rcases new k hk with g | g | g
    · exact h.dy k g e
    · exact (f k g).ny e
    · have := sy k e; omega
  · intro x hx
    refine ⟨(h.nb x hx).1, fun e => ?_, (h.nb x hx).2.2⟩
    rcases ha _ e with g | g
    · exact (h.nb x hx).2.1 g
    · have := (h.two.bx x hx).lt; omega
/-- likewise a list of numbers; what is nobody's stays so -/
theorem Hld.int_ (h : Hld w wr b b' bs X Y hb ea ec el ia ic il) {sa : Option Addr} (f : ∀ k, bk sa = some k → Fr w b b' bs X Y hb ea el ia il k)
    (ho : Owned1 kdT wr w' hb 50 [.slice ea el.length ec, .slice ia il.length ic] 1 ia sa [] il) : ∃ ia' ic' E, Hld w w' b b' bs X Y hb ea ec el ia' ic' (il ++ [E]) ∧ Kept (fun k => k = hb ∨ bk ia = some k ∨ bk sa = some k) wr w' ∧ ∀ k, Fr w b b' bs X Y hb ea el ia il k → bk sa ≠ some k → k < wr.heap.size → Fr w b b' bs X Y hb ea el ia' (il ++ [E]) k := by
  obtain ⟨a', c', E, hB, hL, hK, hE, ha, ha2⟩ := ho
  have hlt := h.lt
  have hS : ∀ k, some k ∈ hfp hb ea el ia il → k ≠ hb → bk ia ≠ some k → ¬ (k = hb ∨ bk ia = some k ∨ bk sa = some k) := fun k hk h1 h2 e => by
    rcases e with e | e | e
    · exact h1 e
    · exact h2 e
    · exact (f k e).nh hk
  have hmem : ∀ k, some k ∈ fp1 (il ++ [E]) → some k ∈ fp1 il ∨ (bk sa = some k) ∨ wr.heap.size ≤ k := fun k hk => by
    simp only [fp1, List.flatMap_append, List.mem_append, List.flatMap_cons, List.flatMap_nil, List.append_nil] at hk
    rcases hk with hk | hk
    · exact Or.inl hk
    · rcases hE k hk with e | e | e
      · exact Or.inr (Or.inl e)
      · cases e
      · exact Or.inr (Or.inr e)
  have new : ∀ k, some k ∈ hfp hb ea el a' (il ++ [E]) → some k ∈ hfp hb ea el ia il ∨ bk sa = some k ∨ wr.heap.size ≤ k := fun k hk => by
    rcases mem_hfp.1 hk with e | e | e | e | e
    · exact Or.inl (mem_hfp.2 (Or.inl e))
    · exact Or.inl (mem_hfp.2 (Or.inr (Or.inl e)))
    · rcases ha k e with g | g
      · exact Or.inl (mem_hfp.2 (Or.inr (Or.inr (Or.inl g))))
      · exact Or.inr (Or.inr g)
    · exact Or.inl (mem_hfp.2 (Or.inr (Or.inr (Or.inr (Or.inl e)))))
    · rcases hmem k e with g | g
      · exact Or.inl (mem_hfp.2 (Or.inr (Or.inr (Or.inr (Or.inr g)))))
      · exact Or.inr g
  have hel : ∀ k, some k ∈ fp1 el → k ≠ hb ∧ bk ia ≠ some k := fun k hk => ⟨fun e => h.hn.1 (e ▸ hk), fun e => (h.ii k e).1 hk⟩
  have hea : ∀ k, bk ea = some k → k ≠ hb ∧ bk ia ≠ some k := fun k hk => ⟨fun e => h.eh (by rw [hk, e]), (h.ee k hk).1⟩
  have sx := h.two.mx.fp_lt
  have sy := h.two.my.fp_lt
  have hbl := h.blk.lt
  refine ⟨a', c', E, ⟨two_kept h.two hK ?_ ?_ ?_ ?_, by simpa using hB, h.le.kept hK (fun k hk => hS k (mem_hfp.2 (Or.inr (Or.inl hk))) (hea k hk).1 (hea k hk).2) (fun k hk => hS k (mem_hfp.2 (Or.inr (Or.inr (Or.inr (Or.inl hk))))) (hel k hk).1 (hel k hk).2), hL, h.eh, ?_, ⟨h.hn.1, ?_⟩, ?_, ?_, ?_, ?_, ?_, ?_⟩, hK, ?_⟩
  · intro k hk e
    rcases e with e | e | e
    · exact h.dx k (mem_hfp.2 (Or.inl e)) hk
    · exact h.dx k (mem_hfp.2 (Or.inr (Or.inr (Or.inl e)))) hk
    · exact (f k e).nx hk
  · intro k hk e
    rcases e with e | e | e
    · exact h.dy k (mem_hfp.2 (Or.inl e)) hk
    · exact h.dy k (mem_hfp.2 (Or.inr (Or.inr (Or.inl e)))) hk
    · exact (f k e).ny hk
  · intro k e
    rcases e with e | e | e
    · exact h.low k (Or.inl e)
    · exact h.low k (Or.inr (Or.inr e))
    · exact (f k e).up
  · intro x hx e
    rcases e with e | e | e
    · exact (h.nb x hx).1 e
    · exact (h.nb x hx).2.2 e
    · exact (f _ e).nb x hx rfl
  · intro e
    rcases ha _ e with g | g
    · exact h.ih g
    · omega
  · intro e
    rcases hmem _ e with g | g | g
    · exact h.hn.2 g
    · exact (f _ g).nh (mem_hfp.2 (Or.inl rfl))
    · omega
  · intro k hk
    refine ⟨fun e => ?_, (h.ee k hk).2.1, fun e => ?_⟩
    · rcases ha k e with g | g
      · exact (h.ee k hk).1 g
      · have := hlt k (mem_hfp.2 (Or.inr (Or.inl hk))); omega
    · rcases hmem k e with g | g | g
      · exact (h.ee k hk).2.2 g
      · exact (f k g).nh (mem_hfp.2 (Or.inr (Or.inl hk)))
      · have := hlt k (mem_hfp.2 (Or.inr (Or.inl hk))); omega
  · intro k hk
    refine ⟨fun e => ?_, ha2 k hk⟩
    rcases ha k hk with g | g
    · exact (h.ii k g).1 e
    · have := hlt k (mem_hfp.2 (Or.inr (Or.inr (Or.inr (Or.inl e))))); omega
  · intro k hk
    rcases hk with e | e | e
    · exact h.low k (Or.inl e)
    · exact h.low k (Or.inr (Or.inl e))
    · rcases ha k e with g | g
      · exact h.low k (Or.inr (Or.inr g))
      · exact Nat.le_trans h.two.bel.size g
  · intro k hk e
    rcases new k hk with g | g | g
    · exact h.dx k g e
    · exact (f k g).nx e
    · have := sx k e; omega
  · intro k hk e
    rcases new k hk with g | g | g
    · exact h.dy k g e
    · exact (f k g).ny e
    · have := sy k e; omega
  · intro x hx
    refine ⟨(h.nb x hx).1, (h.nb x hx).2.1, fun e => ?_⟩
    rcases ha _ e with g | g
    · exact (h.nb x hx).2.2 g
    · have := (h.two.bx x hx).lt; omega
  · intro k fk hne hlk
    refine ⟨fk.up, fun e => ?_, fk.nx, fk.ny, fk.nb⟩
    rcases new k e with g | g | g
    · exact fk.nh g
    · exact hne g
    · omega
end
end Go.Proofs.YtghcololkgeoeabDoor
