import Derived.Test.YtghcololkgeoeabGreatPartQ1
import Derived.Test.YtghcololkgeoeabGreatPartP0
namespace Go.Proofs.YtghcololkgeoeabGreat
open Go.RowKit
set_option linter.unusedVariables false
set_option linter.unusedSimpArgs false
attribute [local go_sem ↓] Go.wp_at_zero Go.wp_at_succ

set_option maxRecDepth 100000 in
set_option maxHeartbeats 4000000 in
theorem holdsE_true (i : Nat) (E : E1) (w : World) (h : Owns1 w kdE i E) :
    Calls Tryz.prog 72 #[.agg #[.slice E.a E.sl.length E.c], (markEv i).agg] w fun e w' => e = .returned (.bool true) ∧ Below w.heap.size w w' := by
  have HO : Hid (Owns1 w kdE i E) := h
  have hsl := h.len
  clear h
  obtain ⟨EE, HMk⟩ := hex (markEv i)
  rw [← HMk.out]
  unfold Ev.agg
  go_enter Tryz.func72, Tryz.ntmps72
  go_upto_region 1 with fail
  obtain ⟨w2, HW2⟩ := hex ((w.alloc (.cells #[.slice E.a E.sl.length E.c] 106)).alloc (.cells EE.vals.toArray 30))
  have HB2 : Hid (Below w.heap.size w w2) := by show Below _ _ _; rw [HW2.out]; exact ((Below.refl _ _).alloc (Nat.le_refl _) _).alloc (by simp) _
  have HM2 : Hid (Blk w2 (w.heap.size + 1) 30 EE.vals) := by show Blk _ _ _ _; rw [HW2.out]; have := blk_alloc (w.alloc (.cells #[.slice E.a E.sl.length E.c] 106)) EE.vals 30; simpa using this
  have HA2 : Hid (Blk w2 w.heap.size 106 [.slice E.a E.sl.length E.c]) := by show Blk _ _ _ _; rw [HW2.out]; exact (blk_alloc w [.slice E.a E.sl.length E.c] _).alloc _
  have hw2 := HW2.out.symm
  unfold Ev.vals at hw2
  rw [hw2]
  clear hw2 HW2
  have HO2 : Hid (Owns1 w2 kdE i E) := HO.out.below HB2.out
  go_wp2
  go_loopw [5] (fun iv wr => ∃ (k n : Nat), k ≤ E.sl.length ∧ iv = .int .i64 k ∧ wr = w2.drewN n) (fun iv _ => E.sl.length - (intOf iv).toNat)
  case atStart => exact ⟨0, 0, Nat.zero_le _, rfl, rfl⟩
  case round =>
    obtain ⟨k, n, hk, rfl, hwr⟩ := hrel
    have HOr : Hid (Owns1 wr kdE i E) := by show Owns1 _ _ _ _; rw [hwr]; exact HO2.out.below (bdrewN (Below.refl _ _) n)
    have HAr : Hid (Blk wr w.heap.size 106 [.slice E.a E.sl.length E.c]) := by show Blk _ _ _ _; rw [hwr]; exact HA2.out
    have HMr : Hid (Blk wr (w.heap.size + 1) 30 EE.vals) := by show Blk _ _ _ _; rw [hwr]; exact HM2.out
    have HW : Hid (wr = w2.drewN n) := hwr
    clear hwr
    have a0 := HAr.out.cell 0
    simp only [List.getElem?_cons_zero] at a0
    by_cases hlt : k < E.sl.length
    · have hlt' : (k : Int) < (E.sl.length : Int) := by omega
      have hk0 : (0 : Int) ≤ (k : Int) := by omega
      have HEr : Hid (AllP wr kdE.t1 kdE.d (kdE.φ i E.V) E.sl[k] ∧ E.sl[k].n ≤ 100000) := HOr.out.each _ (List.getElem_mem hlt)
      obtain ⟨g, hg, s0⟩ := HOr.out.slot k hlt
      obtain ⟨S, HS⟩ := hex E.sl[k]
      rw [← HS.out] at HEr s0
      have hsn := HEr.out.2
      obtain ⟨wo, HWo⟩ := hex wr
      rw [← HWo.out] at HOr HAr HW HEr s0 a0 HMr
      rw [← HWo.out]
      rw [hg] at a0
      have HGe : Hid (E.a = some ⟨g, 0, none⟩) := hg
      rw [hg]
      clear hg HWo HS
      go_wp2
      go_loopw [6] (fun iv wr => ∃ (j n : Nat), j ≤ S.n ∧ iv = .int .i64 j ∧ wr = wo.drewN n) (fun iv _ => S.n - (intOf iv).toNat)
      case atStart => exact ⟨0, 0, Nat.zero_le _, rfl, rfl⟩
      case round =>
        obtain ⟨j, n', hj, rfl, hwr⟩ := hrel
        have a0' : wr.cell? ⟨w.heap.size, 0, none⟩ = some (.slice (some ⟨g, 0, none⟩) E.sl.length E.c) := by rw [hwr]; exact a0
        have s0' : wr.cell? ⟨g, k, none⟩ = some (.slice S.a S.n S.c) := by rw [hwr]; exact s0
        have HWx : Hid (wr = wo.drewN n') := hwr
        by_cases hjt : j < S.n
        · have hjt' : (j : Int) < (S.n : Int) := by omega
          have hj0 : (0 : Int) ≤ (j : Int) := by omega
          have HEx : Hid (AllP wr 30 5 (fun o v => EE.vals[o]? = some v) S) := by rw [HMk.out]; show AllP _ _ _ _ _; exact HEr.out.1.heap (fun x hx => by rw [hwr]; rfl)
          have HMx : Hid (Blk wr (w.heap.size + 1) 30 EE.vals) := by show Blk _ _ _ _; rw [hwr]; exact HMr.out
          obtain ⟨h', hh', hnc, x0, x1, x2, x3, x4⟩ := HEx.out.ev_ hjt
          rw [hh'] at s0'
          have m0 := HMx.out.cell 0
          have m1 := HMx.out.cell 1
          have m2 := HMx.out.cell 2
          have m3 := HMx.out.cell 3
          have m4 := HMx.out.cell 4
          simp only [Ev.vals, List.getElem?_cons_zero, List.getElem?_cons_succ] at m0 m1 m2 m3 m4
          have HH : Hid (S.a = some ⟨h', 0, none⟩) := hh'
          clear hh' hwr
          go_wp2
          go_quiet (fail)
          go_wp2
          go_roundw
          case rel => exact ⟨j + 1, n' + _, by omega, by go_num, by rw [HWx.out, drewN2]⟩
          case measure => simp [intOf]; omega
        · have hjt' : ¬ (j : Int) < (S.n : Int) := by omega
          clear hwr
          go_wp2
          go_roundw
          case rel => exact ⟨k + 1, n + n', by omega, by go_num, by rw [HWx.out, HW.out, drewN2]⟩
          case measure => simp [intOf]; omega
    · have hlt' : ¬ (k : Int) < (E.sl.length : Int) := by omega
      go_wp2
      go_ret
      exact ⟨rfl, by rw [HW.out]; exact bdrewN HB2.out n⟩

set_option maxRecDepth 100000 in
set_option maxHeartbeats 4000000 in
theorem holdsI_true (i : Nat) (E : E1) (w : World) (h : Owns1 w kdI i E) :
    Calls Tryz.prog 73 #[.agg #[.slice E.a E.sl.length E.c], .int .i64 (-7000 - (i : Int))] w fun e w' => e = .returned (.bool true) ∧ Below w.heap.size w w' := by
  have HO : Hid (Owns1 w kdI i E) := h
  have hsl := h.len
  clear h
  obtain ⟨EE, HMk⟩ := hex (-7000 - (i : Int))
  rw [← HMk.out]
  go_enter Tryz.func73, Tryz.ntmps73
  go_upto_region 1 with fail
  obtain ⟨w2, HW2⟩ := hex (w.alloc (.cells #[.slice E.a E.sl.length E.c] 124))
  have HB2 : Hid (Below w.heap.size w w2) := by show Below _ _ _; rw [HW2.out]; exact (Below.refl _ _).alloc (Nat.le_refl _) _
  have HA2 : Hid (Blk w2 w.heap.size 124 [.slice E.a E.sl.length E.c]) := by show Blk _ _ _ _; rw [HW2.out]; exact blk_alloc w [.slice E.a E.sl.length E.c] _
  rw [← HW2.out]
  clear HW2
  have HO2 : Hid (Owns1 w2 kdI i E) := HO.out.below HB2.out
  go_wp2
  go_loopw [5] (fun iv wr => ∃ (k n : Nat), k ≤ E.sl.length ∧ iv = .int .i64 k ∧ wr = w2.drewN n) (fun iv _ => E.sl.length - (intOf iv).toNat)
  case atStart => exact ⟨0, 0, Nat.zero_le _, rfl, rfl⟩
  case round =>
    obtain ⟨k, n, hk, rfl, hwr⟩ := hrel
    have HOr : Hid (Owns1 wr kdI i E) := by show Owns1 _ _ _ _; rw [hwr]; exact HO2.out.below (bdrewN (Below.refl _ _) n)
    have HAr : Hid (Blk wr w.heap.size 124 [.slice E.a E.sl.length E.c]) := by show Blk _ _ _ _; rw [hwr]; exact HA2.out
    have HW : Hid (wr = w2.drewN n) := hwr
    clear hwr
    have a0 := HAr.out.cell 0
    simp only [List.getElem?_cons_zero] at a0
    by_cases hlt : k < E.sl.length
    · have hlt' : (k : Int) < (E.sl.length : Int) := by omega
      have hk0 : (0 : Int) ≤ (k : Int) := by omega
      have HEr : Hid (AllP wr kdI.t1 kdI.d (kdI.φ i E.V) E.sl[k] ∧ E.sl[k].n ≤ 100000) := HOr.out.each _ (List.getElem_mem hlt)
      obtain ⟨g, hg, s0⟩ := HOr.out.slot k hlt
      obtain ⟨S, HS⟩ := hex E.sl[k]
      rw [← HS.out] at HEr s0
      have hsn := HEr.out.2
      obtain ⟨wo, HWo⟩ := hex wr
      rw [← HWo.out] at HOr HAr HW HEr s0 a0
      rw [← HWo.out]
      rw [hg] at a0
      have HGe : Hid (E.a = some ⟨g, 0, none⟩) := hg
      rw [hg]
      clear hg HWo HS
      go_wp2
      go_loopw [6] (fun iv wr => ∃ (j n : Nat), j ≤ S.n ∧ iv = .int .i64 j ∧ wr = wo.drewN n) (fun iv _ => S.n - (intOf iv).toNat)
      case atStart => exact ⟨0, 0, Nat.zero_le _, rfl, rfl⟩
      case round =>
        obtain ⟨j, n', hj, rfl, hwr⟩ := hrel
        have a0' : wr.cell? ⟨w.heap.size, 0, none⟩ = some (.slice (some ⟨g, 0, none⟩) E.sl.length E.c) := by rw [hwr]; exact a0
        have s0' : wr.cell? ⟨g, k, none⟩ = some (.slice S.a S.n S.c) := by rw [hwr]; exact s0
        have HWx : Hid (wr = wo.drewN n') := hwr
        by_cases hjt : j < S.n
        · have hjt' : (j : Int) < (S.n : Int) := by omega
          have hj0 : (0 : Int) ≤ (j : Int) := by omega
          have HEx : Hid (AllP wr 3 1 (fun _ v => v = .int .i64 EE) S) := by rw [HMk.out]; show AllP _ _ _ _ _; exact HEr.out.1.heap (fun x hx => by rw [hwr]; rfl)
          obtain ⟨h', v', hh', x0, hv', _, hnc⟩ := HEx.out.at_ (j := j) (by omega)
          subst hv'
          rw [hh'] at s0'
          have HH : Hid (S.a = some ⟨h', 0, none⟩) := hh'
          clear hh' hwr
          go_wp2
          go_roundw
          case rel => exact ⟨j + 1, n', by omega, by go_num, HWx.out⟩
          case measure => simp [intOf]; omega
        · have hjt' : ¬ (j : Int) < (S.n : Int) := by omega
          clear hwr
          go_wp2
          go_roundw
          case rel => exact ⟨k + 1, n + n', by omega, by go_num, by rw [HWx.out, HW.out, drewN2]⟩
          case measure => simp [intOf]; omega
    · have hlt' : ¬ (k : Int) < (E.sl.length : Int) := by omega
      go_wp2
      go_ret
      exact ⟨rfl, by rw [HW.out]; exact bdrewN HB2.out n⟩

set_option maxRecDepth 100000 in
set_option maxHeartbeats 4000000 in
theorem holdsL_true (i : Nat) (E : E1) (w : World) (h : Owns1 w kdL i E) :
    Calls Tryz.prog 75 #[.agg #[.slice E.a E.sl.length E.c], .int .i64 (-7000 - (i : Int))] w fun e w' => e = .returned (.bool true) ∧ Below w.heap.size w w' := by
  have HO : Hid (Owns1 w kdL i E) := h
  have hsl := h.len
  clear h
  obtain ⟨EE, HMk⟩ := hex (-7000 - (i : Int))
  rw [← HMk.out]
  go_enter Tryz.func75, Tryz.ntmps75
  go_upto_region 1 with fail
  obtain ⟨w2, HW2⟩ := hex (w.alloc (.cells #[.slice E.a E.sl.length E.c] 127))
  have HB2 : Hid (Below w.heap.size w w2) := by show Below _ _ _; rw [HW2.out]; exact (Below.refl _ _).alloc (Nat.le_refl _) _
  have HA2 : Hid (Blk w2 w.heap.size 127 [.slice E.a E.sl.length E.c]) := by show Blk _ _ _ _; rw [HW2.out]; exact blk_alloc w [.slice E.a E.sl.length E.c] _
  rw [← HW2.out]
  clear HW2
  have HO2 : Hid (Owns1 w2 kdL i E) := HO.out.below HB2.out
  go_wp2
  go_loopw [5] (fun iv wr => ∃ (k n : Nat), k ≤ E.sl.length ∧ iv = .int .i64 k ∧ wr = w2.drewN n) (fun iv _ => E.sl.length - (intOf iv).toNat)
  case atStart => exact ⟨0, 0, Nat.zero_le _, rfl, rfl⟩
  case round =>
    obtain ⟨k, n, hk, rfl, hwr⟩ := hrel
    have HOr : Hid (Owns1 wr kdL i E) := by show Owns1 _ _ _ _; rw [hwr]; exact HO2.out.below (bdrewN (Below.refl _ _) n)
    have HAr : Hid (Blk wr w.heap.size 127 [.slice E.a E.sl.length E.c]) := by show Blk _ _ _ _; rw [hwr]; exact HA2.out
    have HW : Hid (wr = w2.drewN n) := hwr
    clear hwr
    have a0 := HAr.out.cell 0
    simp only [List.getElem?_cons_zero] at a0
    by_cases hlt : k < E.sl.length
    · have hlt' : (k : Int) < (E.sl.length : Int) := by omega
      have hk0 : (0 : Int) ≤ (k : Int) := by omega
      have HEr : Hid (AllP wr kdL.t1 kdL.d (kdL.φ i E.V) E.sl[k] ∧ E.sl[k].n ≤ 100000) := HOr.out.each _ (List.getElem_mem hlt)
      obtain ⟨g, hg, s0⟩ := HOr.out.slot k hlt
      obtain ⟨S, HS⟩ := hex E.sl[k]
      rw [← HS.out] at HEr s0
      have hsn := HEr.out.2
      obtain ⟨wo, HWo⟩ := hex wr
      rw [← HWo.out] at HOr HAr HW HEr s0 a0
      rw [← HWo.out]
      rw [hg] at a0
      have HGe : Hid (E.a = some ⟨g, 0, none⟩) := hg
      rw [hg]
      clear hg HWo HS
      go_wp2
      go_loopw [6] (fun iv wr => ∃ (j n : Nat), j ≤ S.n ∧ iv = .int .i64 j ∧ wr = wo.drewN n) (fun iv _ => S.n - (intOf iv).toNat)
      case atStart => exact ⟨0, 0, Nat.zero_le _, rfl, rfl⟩
      case round =>
        obtain ⟨j, n', hj, rfl, hwr⟩ := hrel
        have a0' : wr.cell? ⟨w.heap.size, 0, none⟩ = some (.slice (some ⟨g, 0, none⟩) E.sl.length E.c) := by rw [hwr]; exact a0
        have s0' : wr.cell? ⟨g, k, none⟩ = some (.slice S.a S.n S.c) := by rw [hwr]; exact s0
        have HWx : Hid (wr = wo.drewN n') := hwr
        by_cases hjt : j < S.n
        · have hjt' : (j : Int) < (S.n : Int) := by omega
          have hj0 : (0 : Int) ≤ (j : Int) := by omega
          have HEx : Hid (AllP wr 36 1 (fun _ v => ∃ g ∈ E.V, v = .slice (some ⟨g, 0, none⟩) 1 1) S) := HEr.out.1.heap (fun x hx => by rw [hwr]; rfl)
          obtain ⟨h', v', hh', x0, hv', _, hnc⟩ := HEx.out.at_ (j := j) (by omega)
          obtain ⟨gv, hgv, rfl⟩ := hv'
          have hbv : Blk wr gv 3 [.int .i64 EE] := by rw [HMk.out, hwr]; exact HOr.out.inner gv hgv
          have y0 := hbv.cell 0
          simp only [List.getElem?_cons_zero] at y0
          rw [hh'] at s0'
          have HH : Hid (S.a = some ⟨h', 0, none⟩) := hh'
          clear hh' hwr hbv
          go_wp2
          go_roundw
          case rel => exact ⟨j + 1, n', by omega, by go_num, HWx.out⟩
          case measure => simp [intOf]; omega
        · have hjt' : ¬ (j : Int) < (S.n : Int) := by omega
          clear hwr
          go_wp2
          go_roundw
          case rel => exact ⟨k + 1, n + n', by omega, by go_num, by rw [HWx.out, HW.out, drewN2]⟩
          case measure => simp [intOf]; omega
    · have hlt' : ¬ (k : Int) < (E.sl.length : Int) := by omega
      go_wp2
      go_ret
      exact ⟨rfl, by rw [HW.out]; exact bdrewN HB2.out n⟩

set_option maxRecDepth 100000 in
set_option maxHeartbeats 8000000 in
theorem looksZ_true (wb : Nat) (xv rv : Value) (a : Option Addr) (c : Nat) (l : Lz) (w : World) (hB : Blk w wb 51 [xv, rv, .slice a l.e.length c, .slice l.ia l.i.length l.ic, .slice l.oa l.o.length l.oc]) (h : LsInv w a c l) (hl : l.length ≤ 90000000000) :
    Calls Tryz.prog 34 #[.pointer (some ⟨wb, 0, none⟩)] w fun e w' => e = .returned (.bool true) ∧ Below w.heap.size w w' := by
  have HB : Hid (Blk w wb 51 [xv, rv, .slice a l.e.length c, .slice l.ia l.i.length l.ic, .slice l.oa l.o.length l.oc]) := hB
  have HL2 : Hid (Lists1 w kdE a c l.e) := h.le
  have HL3 : Hid (Lists1 w kdI l.ia l.ic l.i) := h.li
  have HL4 : Hid (Lists1 w kdL l.oa l.oc l.o) := h.lo
  have HW : Hid (Below w.heap.size w w) := Below.refl _ _
  have hwb := hB.lt
  have hn := h.num
  have hle : l.e.length ≤ 90000000000 ∧ l.i.length ≤ 9000000000000 ∧ l.o.length ≤ 90000000000 := by unfold Lz.length at hl; omega
  clear hB h hn hl
  go_enter Tryz.func34, Tryz.ntmps34
  go_wp2
  go_loopw [3] (fun iv wr => ∃ k : Nat, k ≤ l.e.length ∧ iv = .int .i64 k ∧ Below w.heap.size w wr) (fun iv _ => l.e.length - (intOf iv).toNat)
  case atStart => exact ⟨0, Nat.zero_le _, rfl, HW.out⟩
  case round =>
    clear HW
    obtain ⟨k, hk, rfl, hbel⟩ := hrel
    have HW : Hid (Below w.heap.size w wr) := hbel
    have b2 := (HB.out.below hbel hwb).cell 2
    simp only [List.getElem?_cons_zero, List.getElem?_cons_succ] at b2
    clear hbel
    by_cases hlt : k < l.e.length
    · have hlt' : (k : Int) < (l.e.length : Int) := by omega
      have hk0 : (0 : Int) ≤ (k : Int) := by omega
      have HLr : Hid (Lists1 wr kdE a c l.e) := HL2.out.below HW.out
      obtain ⟨g, hg, s0⟩ := HLr.out.slot k hlt
      have HE : Hid (Owns1 wr kdE k l.e[k]) := HLr.out.each k _ (List.getElem?_eq_getElem hlt)
      obtain ⟨E, HEe⟩ := hex l.e[k]
      rw [← HEe.out] at s0 HE
      rw [hg] at b2
      have HG : Hid (a = some ⟨g, 0, none⟩) := hg
      clear hg HLr HEe
      go_upto_region 4 with fail
      refine upTo_region (fun u : World => u.cell? ⟨wb, 2, none⟩ = some (.slice (some ⟨g, 0, none⟩) l.e.length c) ∧ u.cell? ⟨g, k, none⟩ = some (.slice E.a E.sl.length E.c)) 10 11 rfl (by kernel_rfl) ?_
      have hS0 : (fun u : World => u.cell? ⟨wb, 2, none⟩ = some (.slice (some ⟨g, 0, none⟩) l.e.length c) ∧ u.cell? ⟨g, k, none⟩ = some (.slice E.a E.sl.length E.c)) wr.drew := ⟨b2, s0⟩
      refine upTo_tk (i := 0) (v := ?v28_0) rfl (by kernel_rfl) (fun _ _ _ h => h) (by rfl) hS0 ?h28_0 ?r28_0
      case h28_0 => (intro u hu; (try dsimp only at hu); go_simp; first | done | with_reducible rfl)
      (try simp only [Act.put, tkS])
      refine upTo_tk (i := 1) (v := ?v28_1) rfl (by kernel_rfl) (fun _ _ _ h => h) (by rfl) hS0 ?h28_1 ?r28_1
      case h28_1 => (intro u hu; (try dsimp only at hu); go_simp; first | done | with_reducible rfl)
      (try simp only [Act.put, tkS])
      refine upTo_tk (i := 2) (v := ?v28_2) rfl (by kernel_rfl) (fun _ _ _ h => h) (by rfl) hS0 ?h28_2 ?r28_2
      case h28_2 => (intro u hu; (try dsimp only at hu); go_simp; first | done | with_reducible rfl)
      (try simp only [Act.put, tkS])
      refine upTo_tk (i := 3) (v := ?v28_3) rfl (by kernel_rfl) (fun _ _ _ h => h) (by rfl) hS0 ?h28_3 ?r28_3
      case h28_3 => (intro u hu; (try dsimp only at hu); go_simp; first | done | with_reducible rfl)
      (try simp only [Act.put, tkS])
      refine upTo_tk (i := 4) (v := ?v28_4) rfl (by kernel_rfl) (fun _ _ _ h => h) (by rfl) hS0 ?h28_4 ?r28_4
      case h28_4 => (intro u hu; (try dsimp only at hu); go_simp; first | done | with_reducible rfl)
      (try simp only [Act.put, tkS])
      refine upTo_tk (i := 5) (v := ?v28_5) rfl (by kernel_rfl) (fun _ _ _ h => h) (by rfl) hS0 ?h28_5 ?r28_5
      case h28_5 => (intro u hu; (try dsimp only at hu); go_simp; first | done | with_reducible rfl)
      (try simp only [Act.put, tkS])
      refine upTo_tk (i := 6) (v := ?v28_6) rfl (by kernel_rfl) (fun _ _ _ h => h) (by rfl) hS0 ?h28_6 ?r28_6
      case h28_6 => (intro u hu; (try dsimp only at hu); go_simp; first | done | with_reducible rfl)
      (try simp only [Act.put, tkS])
      refine upTo_tk (i := 7) (v := ?v28_7) rfl (by kernel_rfl) (fun _ _ _ h => h) (by rfl) hS0 ?h28_7 ?r28_7
      case h28_7 => (intro u hu; (try dsimp only at hu); go_simp; first | done | with_reducible rfl)
      (try simp only [Act.put, tkS])
      refine upTo_one (i := 8) (by kernel_rfl) rfl (fun K hK => ?_)
      go_simp
      refine (marked_any k _ hk0 (by omega)).mono ?_
      rintro e w2 ⟨rfl, hb2, _⟩
      have HB2 : Hid (Below wr.heap.size wr w2) := ⟨hb2.os, hb2.tape, hb2.output, hb2.size, hb2.block⟩
      have hc2 : ∀ p v, wr.cell? p = some v → w2.cell? p = some v := fun p v h => (HB2.out.cell (p := p) (World.block_lt_of_cell? wr p h)).trans h
      have HE2 : Hid (Owns1 w2 kdE k E) := HE.out.below HB2.out
      have q1 := hc2 _ _ b2
      have q2 := hc2 _ _ s0
      clear hc2 hb2
      refine hK.out _ _ (fun _ => ⟨q1, q2⟩) ?_
      clear hK K hS0
      (try simp only [Act.put, tkS])
      refine upTo_one (i := 9) (by kernel_rfl) rfl (fun K hK => ?_)
      unfold Ev.agg
      go_simp
      refine (holdsE_true k E _ HE2.out).mono ?_
      rintro e w3 ⟨rfl, hb3⟩
      have HB3 : Hid (Below w2.heap.size w2 w3) := hb3
      have hc3 : ∀ p v, w2.cell? p = some v → w3.cell? p = some v := fun p v h => (HB3.out.cell (p := p) (World.block_lt_of_cell? w2 p h)).trans h
      have q3 := hc3 _ _ q1
      have q4 := hc3 _ _ q2
      clear hb3 hc3
      refine hK.out _ _ (fun _ => ⟨q3, q4⟩) ?_
      clear hK K
      (try simp only [Act.put, tkS])
      refine upTo_one (i := 10) (by kernel_rfl) rfl (fun K hK => ?_)
      go_simp
      refine hK.out _ _ (fun h => absurd rfl h) ?_
      clear hK K
      (try simp only [Act.put, tkS])
      refine upTo_done (by kernel_rfl) ?_
      clear b2 s0 q1 q2 q3 q4
      go_wp2
      go_roundw
      case rel => exact ⟨k + 1, by omega, by go_num, (HW.out.trans (HB2.out.mono HW.out.size)).trans (HB3.out.mono (Nat.le_trans HW.out.size HB2.out.size))⟩
      case measure => simp [intOf]; omega
    · have hlt' : ¬ (k : Int) < (l.e.length : Int) := by omega
      go_wp2
      go_loopw [5] (fun iv wr => ∃ k : Nat, k ≤ l.i.length ∧ iv = .int .i64 k ∧ Below w.heap.size w wr) (fun iv _ => l.i.length - (intOf iv).toNat)
      case atStart => exact ⟨0, Nat.zero_le _, rfl, HW.out⟩
      case round =>
        clear HW
        obtain ⟨k, hk, rfl, hbel⟩ := hrel
        have HW : Hid (Below w.heap.size w wr) := hbel
        have b3 := (HB.out.below hbel hwb).cell 3
        simp only [List.getElem?_cons_zero, List.getElem?_cons_succ] at b3
        clear hbel
        by_cases hlt : k < l.i.length
        · have hlt' : (k : Int) < (l.i.length : Int) := by omega
          have hk0 : (0 : Int) ≤ (k : Int) := by omega
          have HLr : Hid (Lists1 wr kdI l.ia l.ic l.i) := HL3.out.below HW.out
          obtain ⟨g, hg, s0⟩ := HLr.out.slot k hlt
          have HE : Hid (Owns1 wr kdI k l.i[k]) := HLr.out.each k _ (List.getElem?_eq_getElem hlt)
          obtain ⟨E, HEe⟩ := hex l.i[k]
          rw [← HEe.out] at s0 HE
          rw [hg] at b3
          have HG : Hid (l.ia = some ⟨g, 0, none⟩) := hg
          clear hg HLr HEe
          go_upto_region 10 with fail
          refine upTo_region (fun u : World => u.cell? ⟨wb, 3, none⟩ = some (.slice (some ⟨g, 0, none⟩) l.i.length l.ic) ∧ u.cell? ⟨g, k, none⟩ = some (.slice E.a E.sl.length E.c)) 10 11 rfl (by kernel_rfl) ?_
          have hS0 : (fun u : World => u.cell? ⟨wb, 3, none⟩ = some (.slice (some ⟨g, 0, none⟩) l.i.length l.ic) ∧ u.cell? ⟨g, k, none⟩ = some (.slice E.a E.sl.length E.c)) wr.drew := ⟨b3, s0⟩
          refine upTo_tk (i := 0) (v := ?v29_0) rfl (by kernel_rfl) (fun _ _ _ h => h) (by rfl) hS0 ?h29_0 ?r29_0
          case h29_0 => (intro u hu; (try dsimp only at hu); go_simp; first | done | with_reducible rfl)
          (try simp only [Act.put, tkS])
          refine upTo_tk (i := 1) (v := ?v29_1) rfl (by kernel_rfl) (fun _ _ _ h => h) (by rfl) hS0 ?h29_1 ?r29_1
          case h29_1 => (intro u hu; (try dsimp only at hu); go_simp; first | done | with_reducible rfl)
          (try simp only [Act.put, tkS])
          refine upTo_tk (i := 2) (v := ?v29_2) rfl (by kernel_rfl) (fun _ _ _ h => h) (by rfl) hS0 ?h29_2 ?r29_2
          case h29_2 => (intro u hu; (try dsimp only at hu); go_simp; first | done | with_reducible rfl)
          (try simp only [Act.put, tkS])
          refine upTo_tk (i := 3) (v := ?v29_3) rfl (by kernel_rfl) (fun _ _ _ h => h) (by rfl) hS0 ?h29_3 ?r29_3
          case h29_3 => (intro u hu; (try dsimp only at hu); go_simp; first | done | with_reducible rfl)
          (try simp only [Act.put, tkS])
          refine upTo_tk (i := 4) (v := ?v29_4) rfl (by kernel_rfl) (fun _ _ _ h => h) (by rfl) hS0 ?h29_4 ?r29_4
          case h29_4 => (intro u hu; (try dsimp only at hu); go_simp; first | done | with_reducible rfl)
          (try simp only [Act.put, tkS])
          refine upTo_tk (i := 5) (v := ?v29_5) rfl (by kernel_rfl) (fun _ _ _ h => h) (by rfl) hS0 ?h29_5 ?r29_5
          case h29_5 => (intro u hu; (try dsimp only at hu); go_simp; first | done | with_reducible rfl)
          (try simp only [Act.put, tkS])
          refine upTo_tk (i := 6) (v := ?v29_6) rfl (by kernel_rfl) (fun _ _ _ h => h) (by rfl) hS0 ?h29_6 ?r29_6
          case h29_6 => (intro u hu; (try dsimp only at hu); go_simp; first | done | with_reducible rfl)
          (try simp only [Act.put, tkS])
          refine upTo_tk (i := 7) (v := ?v29_7) rfl (by kernel_rfl) (fun _ _ _ h => h) (by rfl) hS0 ?h29_7 ?r29_7
          case h29_7 => (intro u hu; (try dsimp only at hu); go_simp; first | done | with_reducible rfl)
          (try simp only [Act.put, tkS])
          refine upTo_one (i := 8) (by kernel_rfl) rfl (fun K hK => ?_)
          go_simp
          refine (markN_any k _ hk0 (by omega)).mono ?_
          rintro e w2 ⟨rfl, hw2⟩
          have HB2 : Hid (Below wr.heap.size wr w2) := by show Below _ _ _; rw [← hw2]; exact (Below.refl _ wr).drew
          clear hw2
          have hc2 : ∀ p v, wr.cell? p = some v → w2.cell? p = some v := fun p v h => (HB2.out.cell (p := p) (World.block_lt_of_cell? wr p h)).trans h
          have HE2 : Hid (Owns1 w2 kdI k E) := HE.out.below HB2.out
          have q1 := hc2 _ _ b3
          have q2 := hc2 _ _ s0
          clear hc2
          refine hK.out _ _ (fun _ => ⟨q1, q2⟩) ?_
          clear hK K hS0
          (try simp only [Act.put, tkS])
          refine upTo_one (i := 9) (by kernel_rfl) rfl (fun K hK => ?_)
          go_simp
          refine (holdsI_true k E _ HE2.out).mono ?_
          rintro e w3 ⟨rfl, hb3⟩
          have HB3 : Hid (Below w2.heap.size w2 w3) := hb3
          have hc3 : ∀ p v, w2.cell? p = some v → w3.cell? p = some v := fun p v h => (HB3.out.cell (p := p) (World.block_lt_of_cell? w2 p h)).trans h
          have q3 := hc3 _ _ q1
          have q4 := hc3 _ _ q2
          clear hb3 hc3
          refine hK.out _ _ (fun _ => ⟨q3, q4⟩) ?_
          clear hK K
          (try simp only [Act.put, tkS])
          refine upTo_one (i := 10) (by kernel_rfl) rfl (fun K hK => ?_)
          go_simp
          refine hK.out _ _ (fun h => absurd rfl h) ?_
          clear hK K
          (try simp only [Act.put, tkS])
          refine upTo_done (by kernel_rfl) ?_
          clear b3 s0 q1 q2 q3 q4
          go_wp2
          go_roundw
          case rel => exact ⟨k + 1, by omega, by go_num, (HW.out.trans (HB2.out.mono HW.out.size)).trans (HB3.out.mono (Nat.le_trans HW.out.size HB2.out.size))⟩
          case measure => simp [intOf]; omega
        · have hlt' : ¬ (k : Int) < (l.i.length : Int) := by omega
          go_wp2
          go_loopw [7] (fun iv wr => ∃ k : Nat, k ≤ l.o.length ∧ iv = .int .i64 k ∧ Below w.heap.size w wr) (fun iv _ => l.o.length - (intOf iv).toNat)
          case atStart => exact ⟨0, Nat.zero_le _, rfl, HW.out⟩
          case round =>
            clear HW
            obtain ⟨k, hk, rfl, hbel⟩ := hrel
            have HW : Hid (Below w.heap.size w wr) := hbel
            have b4 := (HB.out.below hbel hwb).cell 4
            simp only [List.getElem?_cons_zero, List.getElem?_cons_succ] at b4
            clear hbel
            by_cases hlt : k < l.o.length
            · have hlt' : (k : Int) < (l.o.length : Int) := by omega
              have hk0 : (0 : Int) ≤ (k : Int) := by omega
              have HLr : Hid (Lists1 wr kdL l.oa l.oc l.o) := HL4.out.below HW.out
              obtain ⟨g, hg, s0⟩ := HLr.out.slot k hlt
              have HE : Hid (Owns1 wr kdL k l.o[k]) := HLr.out.each k _ (List.getElem?_eq_getElem hlt)
              obtain ⟨E, HEe⟩ := hex l.o[k]
              rw [← HEe.out] at s0 HE
              rw [hg] at b4
              have HG : Hid (l.oa = some ⟨g, 0, none⟩) := hg
              clear hg HLr HEe
              go_upto_region 16 with fail
              refine upTo_region (fun u : World => u.cell? ⟨wb, 4, none⟩ = some (.slice (some ⟨g, 0, none⟩) l.o.length l.oc) ∧ u.cell? ⟨g, k, none⟩ = some (.slice E.a E.sl.length E.c)) 10 11 rfl (by kernel_rfl) ?_
              have hS0 : (fun u : World => u.cell? ⟨wb, 4, none⟩ = some (.slice (some ⟨g, 0, none⟩) l.o.length l.oc) ∧ u.cell? ⟨g, k, none⟩ = some (.slice E.a E.sl.length E.c)) wr.drew := ⟨b4, s0⟩
              refine upTo_tk (i := 0) (v := ?v30_0) rfl (by kernel_rfl) (fun _ _ _ h => h) (by rfl) hS0 ?h30_0 ?r30_0
              case h30_0 => (intro u hu; (try dsimp only at hu); go_simp; first | done | with_reducible rfl)
              (try simp only [Act.put, tkS])
              refine upTo_tk (i := 1) (v := ?v30_1) rfl (by kernel_rfl) (fun _ _ _ h => h) (by rfl) hS0 ?h30_1 ?r30_1
              case h30_1 => (intro u hu; (try dsimp only at hu); go_simp; first | done | with_reducible rfl)
              (try simp only [Act.put, tkS])
              refine upTo_tk (i := 2) (v := ?v30_2) rfl (by kernel_rfl) (fun _ _ _ h => h) (by rfl) hS0 ?h30_2 ?r30_2
              case h30_2 => (intro u hu; (try dsimp only at hu); go_simp; first | done | with_reducible rfl)
              (try simp only [Act.put, tkS])
              refine upTo_tk (i := 3) (v := ?v30_3) rfl (by kernel_rfl) (fun _ _ _ h => h) (by rfl) hS0 ?h30_3 ?r30_3
              case h30_3 => (intro u hu; (try dsimp only at hu); go_simp; first | done | with_reducible rfl)
              (try simp only [Act.put, tkS])
              refine upTo_tk (i := 4) (v := ?v30_4) rfl (by kernel_rfl) (fun _ _ _ h => h) (by rfl) hS0 ?h30_4 ?r30_4
              case h30_4 => (intro u hu; (try dsimp only at hu); go_simp; first | done | with_reducible rfl)
              (try simp only [Act.put, tkS])
              refine upTo_tk (i := 5) (v := ?v30_5) rfl (by kernel_rfl) (fun _ _ _ h => h) (by rfl) hS0 ?h30_5 ?r30_5
              case h30_5 => (intro u hu; (try dsimp only at hu); go_simp; first | done | with_reducible rfl)
              (try simp only [Act.put, tkS])
              refine upTo_tk (i := 6) (v := ?v30_6) rfl (by kernel_rfl) (fun _ _ _ h => h) (by rfl) hS0 ?h30_6 ?r30_6
              case h30_6 => (intro u hu; (try dsimp only at hu); go_simp; first | done | with_reducible rfl)
              (try simp only [Act.put, tkS])
              refine upTo_tk (i := 7) (v := ?v30_7) rfl (by kernel_rfl) (fun _ _ _ h => h) (by rfl) hS0 ?h30_7 ?r30_7
              case h30_7 => (intro u hu; (try dsimp only at hu); go_simp; first | done | with_reducible rfl)
              (try simp only [Act.put, tkS])
              refine upTo_one (i := 8) (by kernel_rfl) rfl (fun K hK => ?_)
              go_simp
              refine (markN_any k _ hk0 (by omega)).mono ?_
              rintro e w2 ⟨rfl, hw2⟩
              have HB2 : Hid (Below wr.heap.size wr w2) := by show Below _ _ _; rw [← hw2]; exact (Below.refl _ wr).drew
              clear hw2
              have hc2 : ∀ p v, wr.cell? p = some v → w2.cell? p = some v := fun p v h => (HB2.out.cell (p := p) (World.block_lt_of_cell? wr p h)).trans h
              have HE2 : Hid (Owns1 w2 kdL k E) := HE.out.below HB2.out
              have q1 := hc2 _ _ b4
              have q2 := hc2 _ _ s0
              clear hc2
              refine hK.out _ _ (fun _ => ⟨q1, q2⟩) ?_
              clear hK K hS0
              (try simp only [Act.put, tkS])
              refine upTo_one (i := 9) (by kernel_rfl) rfl (fun K hK => ?_)
              go_simp
              refine (holdsL_true k E _ HE2.out).mono ?_
              rintro e w3 ⟨rfl, hb3⟩
              have HB3 : Hid (Below w2.heap.size w2 w3) := hb3
              have hc3 : ∀ p v, w2.cell? p = some v → w3.cell? p = some v := fun p v h => (HB3.out.cell (p := p) (World.block_lt_of_cell? w2 p h)).trans h
              have q3 := hc3 _ _ q1
              have q4 := hc3 _ _ q2
              clear hb3 hc3
              refine hK.out _ _ (fun _ => ⟨q3, q4⟩) ?_
              clear hK K
              (try simp only [Act.put, tkS])
              refine upTo_one (i := 10) (by kernel_rfl) rfl (fun K hK => ?_)
              go_simp
              refine hK.out _ _ (fun h => absurd rfl h) ?_
              clear hK K
              (try simp only [Act.put, tkS])
              refine upTo_done (by kernel_rfl) ?_
              clear b4 s0 q1 q2 q3 q4
              go_wp2
              go_roundw
              case rel => exact ⟨k + 1, by omega, by go_num, (HW.out.trans (HB2.out.mono HW.out.size)).trans (HB3.out.mono (Nat.le_trans HW.out.size HB2.out.size))⟩
              case measure => simp [intOf]; omega
            · have hlt' : ¬ (k : Int) < (l.o.length : Int) := by omega
              go_wp2
              go_ret
              exact ⟨rfl, HW.out⟩
end Go.Proofs.YtghcololkgeoeabGreat
