import Derived.Test.YtghcololkgeoeabGreatPartB0
import Derived.Test.YtghcololkgeoeabGreatPartP0
namespace Go.Proofs.YtghcololkgeoeabGreat
open Go.RowKit
set_option linter.unusedVariables false
set_option linter.unusedSimpArgs false
attribute [local go_sem ↓] Go.wp_at_zero Go.wp_at_succ

def kdE : Kd := ⟨106, 22, 30, 0, 5, fun i _ o v => (markEv i).vals[o]? = some v, fun _ => undef⟩
theorem own1_info : (Tryz.prog.info? 106).map (fun i => (i.zero, i.size, i.bytes)) = some (some (.agg #[.slice none 0 0]), 1, 24) := by kernel_rfl
set_option maxRecDepth 100000 in
set_option maxHeartbeats 16000000 in
theorem own1_any (wb : Nat) (xv rv iv ov : Value) (a : Option Addr) (c : Nat) (l : List E1) (sa : Option Addr) (sc : Nat) (L : List Ev) (w : World)
    (hB : Blk w wb 51 [xv, rv, .slice a l.length c, iv, ov]) (hL : Lists1 w kdE a c l) (hl : l.length ≤ 5000000000000) (hr : Row w 30 5 sa L.length sc (evs L)) (hs : L.length ≤ 1000)
    (d1 : bk sa ≠ some wb) (d2 : ∀ k, bk sa = some k → bk a ≠ some k ∧ some k ∉ fp1 l) (d3 : bk a ≠ some wb) (d4 : some wb ∉ fp1 l) (d5 : ∀ k, bk a = some k → some k ∉ fp1 l) :
    Calls Tryz.prog 19 #[.pointer (some ⟨wb, 0, none⟩), .slice sa L.length sc] w fun e w' => e = .returned (.tuple #[]) ∧ Owned1 kdE w w' wb 51 [xv, rv, .slice a l.length c, iv, ov] 2 a sa [] l := by
  obtain ⟨j0, hj0, hy0, hy1, hy2⟩ := info_parts Tryz.infoEv
  obtain ⟨e0, he0, hu0, hu1, hu2⟩ := info_parts own1_info
  have HB0 : Hid (Blk w wb 51 [xv, rv, .slice a l.length c, iv, ov]) := hB
  have HL : Hid (Lists1 w kdE a c l) := hL
  have HR : Hid (Row w 30 5 sa L.length sc (evs L)) := hr
  have HSl : Hid (∀ k, bk sa = some k → k < w.heap.size) := fun k e => hr.lt e
  have D1 : Hid (bk sa ≠ some wb) := d1
  have D2 : Hid (∀ k, bk sa = some k → bk a ≠ some k ∧ some k ∉ fp1 l) := d2
  have D3 : Hid (bk a ≠ some wb) := d3
  have D4 : Hid (some wb ∉ fp1 l) := d4
  have D5 : Hid (∀ k, bk a = some k → some k ∉ fp1 l) := d5
  have b2 := hB.cell 2
  simp only [List.getElem?_cons_zero, List.getElem?_cons_succ] at b2
  have hwb := hB.lt
  have HAL : Hid (∀ k, bk a = some k → k < w.heap.size) := fun k e => hL.row.lt e
  clear hB hL hr d1 d2 d3 d4 d5
  obtain ⟨EE, HEE⟩ := hex (markEv l.length)
  have HPh : Hid (∀ k : Nat, ∀ j v, (evs (List.replicate k EE))[j]? = some v → (kdE.six l.length []).φ (j % 5) v) := by
    intro k; show ∀ j v, _ → (markEv l.length).vals[_]? = _; rw [← HEE.out]; exact evs_phi EE k
  have HOne : Hid (∀ j v, (kdE.six l.length []).φ j v → v.oneCell' = true) := by
    intro j v hv
    exact Ev.one _ v (List.mem_of_getElem? hv)
  have hmk : ∀ u, Calls Tryz.prog 47 #[.int .i64 l.length] u fun e w' => e = .returned EE.agg ∧ Below u.heap.size u w' ∧ w'.heap.size = u.heap.size + 1 := by
    intro u; rw [HEE.out]; exact marked_any l.length u (by omega) (by omega)
  go_enter Tryz.func19, Tryz.ntmps19
  go_upto_region 1 with (go_at_call 47; refine (hmk _).mono ?_; rintro e w2 ⟨rfl, hb2, hsz2⟩; unfold Ev.agg)
  obtain ⟨w3, HW3⟩ := hex (w2.alloc (.cells EE.vals.toArray 30))
  have hw3 : w2.alloc (.cells #[.int .i64 EE.src, .int .i64 EE.seq, .int .i64 EE.ts, .int .i64 EE.kind, .int .i64 EE.val] 30) = w3 := HW3.out.symm
  rw [hw3]
  have HBw : Hid (Below w.heap.size w w3) := by show Below _ _ _; rw [HW3.out]; exact hb2.alloc (by omega) _
  obtain ⟨mb, HMb⟩ := hex (w.heap.size + 1)
  have HMB : Hid (mb = w.heap.size + 1) := HMb.out
  have HM3 : Hid (Blk w3 mb 30 EE.vals) := by show Blk _ _ _ _; rw [HW3.out, HMb.out, ← hsz2]; exact blk_alloc _ _ _
  rw [← HMb.out]
  clear hw3 HW3 hb2 HMb hsz2 b2 hmk
  have HB3 : Hid (Blk w3 wb 51 [xv, rv, .slice a l.length c, iv, ov]) := HB0.out.below HBw.out hwb
  have HL3 : Hid (Lists1 w3 kdE a c l) := HL.out.below HBw.out
  have HSL : Hid (∀ k, bk sa = some k → k < w3.heap.size) := fun k e => Nat.lt_of_lt_of_le (HSl.out k e) HBw.out.size
  have DV : Hid (∀ g ∈ ([] : List Nat), Blk w3 g kdE.ti [kdE.m l.length] ∧ g ≠ wb ∧ bk a ≠ some g ∧ bk sa ≠ some g) := fun g hg => by cases hg
  have HDw : Hid (¬ (bk sa = some wb ∨ bk a = some wb)) := fun e => e.elim (fun e => D1.out e) (fun e => D3.out e)
  have HDm : Hid (¬ (bk sa = some mb ∨ bk a = some mb)) := fun e => e.elim (fun e => by have := HSl.out _ e; have := HMB.out; omega) (fun e => by have := HAL.out _ e; have := HMB.out; omega)
  go_wp2
  go_loopw [5] (fun i wr => ∃ k : Nat, k ≤ L.length ∧ i = .int .i64 k ∧ Row wr 30 5 sa L.length sc (evs (List.replicate k EE ++ L.drop k)) ∧ Kept (fun b => bk sa = some b) w3 wr) (fun i _ => L.length - (intOf i).toNat)
  case atStart => exact ⟨0, Nat.zero_le _, rfl, by simpa using ownsRow_of_heap HR.out (fun k hk => HBw.out.block k hk), Kept.refl _ _⟩
  case round =>
    obtain ⟨k, hk, rfl, hrow, hkept⟩ := hrel
    have HRk : Hid (Row wr 30 5 sa L.length sc (evs (List.replicate k EE ++ L.drop k))) := hrow
    have HKwr : Hid (Kept (fun b => bk sa = some b) w3 wr) := hkept
    clear hrow hkept
    have HMr : Hid (Blk wr mb 30 EE.vals) := HM3.out.kept HKwr.out (fun e => HDm.out (Or.inl e))
    have m0 := HMr.out.cell 0
    have m1 := HMr.out.cell 1
    have m2 := HMr.out.cell 2
    have m3 := HMr.out.cell 3
    have m4 := HMr.out.cell 4
    simp only [Ev.vals, List.getElem?_cons_zero, List.getElem?_cons_succ] at m0 m1 m2 m3 m4
    by_cases hlt : k < L.length
    · have hlt' : (k : Int) < (L.length : Int) := by omega
      have hk0 : (0 : Int) ≤ (k : Int) := by omega
      have hll : (List.replicate k EE ++ L.drop k).length = L.length := by simp; omega
      have HRl : Hid (Row wr 30 5 sa (List.replicate k EE ++ L.drop k).length sc (evs (List.replicate k EE ++ L.drop k))) := by show Row _ _ _ _ _ _ _; rw [hll]; exact HRk.out
      obtain ⟨g, hg, hnc, x0, x1, x2, x3, x4⟩ := evRow_cells HRl.out k (by omega)
      have hfz : ∀ j, wr.frozen? ⟨g, j, none⟩ = false := by
        obtain ⟨g', hg', _, _, _, hf⟩ := HRk.out.form (by omega)
        rw [hg] at hg'
        simp only [Option.some.injEq, Addr.mk.injEq, and_true] at hg'
        rw [hg']; exact hf
      have f0 := hfz (k * 5)
      have f1 := hfz (k * 5 + 1)
      have f2 := hfz (k * 5 + 2)
      have f3 := hfz (k * 5 + 3)
      have f4 := hfz (k * 5 + 4)
      have hgm : g ≠ mb := fun e => HDm.out (Or.inl (by rw [hg, ← e]; rfl))
      have HG : Hid (sa = some ⟨g, 0, none⟩) := hg
      rw [hg]
      rw [hll] at hnc
      obtain ⟨Y, HY⟩ := hex ((List.replicate k EE ++ L.drop k)[k]'(by omega))
      rw [← HY.out] at x0 x1 x2 x3 x4
      clear hg hfz HY hll
      go_wp2
      go_roundw
      case rel =>
        refine ⟨k + 1, by omega, by go_num, ?_, ?_⟩
        · have := (row_setEv1 (k := k) (E := EE) (M := List.replicate k EE ++ L.drop k) (by have := HRk.out; rw [HG.out] at this; exact this) (by simp; omega))
          rw [rep_drop1 L EE k hlt] at this
          exact this
        · have hkk := HKwr.out
          rw [HG.out] at hkk
          exact kept_setEv1 hkk (fun _ => rfl)
      case measure => simp [intOf]; omega
    · obtain rfl : k = L.length := by omega
      have HJ0 : Hid ((kdE.six l.length []).J w3 ⟨sa, L.length, sc⟩ wr) := by
        refine ⟨HKwr.out, evs (List.replicate L.length EE), ?_, HPh.out _⟩
        have := HRk.out
        rw [List.drop_length, List.append_nil] at this
        exact this
      clear HRk
      have b2 := (HB3.out.kept HKwr.out (fun e => HDw.out (Or.inl e))).cell 2
      simp only [List.getElem?_cons_zero, List.getElem?_cons_succ] at b2
      have HS2 : Hid (∀ v : World, Kept (fun b => bk sa = some b ∨ bk a = some b) w3 v → (fun u : World => u.cell? ⟨wb, 2, none⟩ = some (.slice a l.length c) ∧ u.cell? ⟨mb, 0, none⟩ = some (.int .i64 EE.src) ∧ u.cell? ⟨mb, 1, none⟩ = some (.int .i64 EE.seq) ∧ u.cell? ⟨mb, 2, none⟩ = some (.int .i64 EE.ts) ∧ u.cell? ⟨mb, 3, none⟩ = some (.int .i64 EE.kind) ∧ u.cell? ⟨mb, 4, none⟩ = some (.int .i64 EE.val)) v) := by
        intro v hv
        have hB := HB3.out.kept hv HDw.out
        have hM := HM3.out.kept hv HDm.out
        exact ⟨hB.cell 2, hM.cell 0, hM.cell 1, hM.cell 2, hM.cell 3, hM.cell 4⟩
      have HS : Hid (∀ v : World, (kdE.six l.length []).J w3 ⟨sa, L.length, sc⟩ v → (fun u : World => u.cell? ⟨wb, 2, none⟩ = some (.slice a l.length c) ∧ u.cell? ⟨mb, 0, none⟩ = some (.int .i64 EE.src) ∧ u.cell? ⟨mb, 1, none⟩ = some (.int .i64 EE.seq) ∧ u.cell? ⟨mb, 2, none⟩ = some (.int .i64 EE.ts) ∧ u.cell? ⟨mb, 3, none⟩ = some (.int .i64 EE.kind) ∧ u.cell? ⟨mb, 4, none⟩ = some (.int .i64 EE.val)) v) := fun v hv => HS2.out v (hv.1.mono (fun k _ e => Or.inl e))
      go_upto_region 5 with fail
      refine upTo_region (fun u : World => u.cell? ⟨wb, 2, none⟩ = some (.slice a l.length c) ∧ u.cell? ⟨mb, 0, none⟩ = some (.int .i64 EE.src) ∧ u.cell? ⟨mb, 1, none⟩ = some (.int .i64 EE.seq) ∧ u.cell? ⟨mb, 2, none⟩ = some (.int .i64 EE.ts) ∧ u.cell? ⟨mb, 3, none⟩ = some (.int .i64 EE.kind) ∧ u.cell? ⟨mb, 4, none⟩ = some (.int .i64 EE.val)) 30 31 rfl (by kernel_rfl) ?_
      have hS0 : (fun u : World => u.cell? ⟨wb, 2, none⟩ = some (.slice a l.length c) ∧ u.cell? ⟨mb, 0, none⟩ = some (.int .i64 EE.src) ∧ u.cell? ⟨mb, 1, none⟩ = some (.int .i64 EE.seq) ∧ u.cell? ⟨mb, 2, none⟩ = some (.int .i64 EE.ts) ∧ u.cell? ⟨mb, 3, none⟩ = some (.int .i64 EE.kind) ∧ u.cell? ⟨mb, 4, none⟩ = some (.int .i64 EE.val)) wr.drew := HS.out _ (SixKd.jdrew HJ0.out)
      refine upTo_tk (i := 0) (v := ?v23_0) rfl (by kernel_rfl) (fun _ _ _ h => h) (by rfl) hS0 ?h23_0 ?r23_0
      case h23_0 => (intro u hu; (try dsimp only at hu); go_simp; first | done | with_reducible rfl)
      (try simp only [Act.put, tkS])
      refine upTo_tk (i := 1) (v := ?v23_1) rfl (by kernel_rfl) (fun _ _ _ h => h) (by rfl) hS0 ?h23_1 ?r23_1
      case h23_1 => (intro u hu; (try dsimp only at hu); go_simp; first | done | with_reducible rfl)
      (try simp only [Act.put, tkS])
      refine upTo_tk (i := 2) (v := ?v23_2) rfl (by kernel_rfl) (fun _ _ _ h => h) (by rfl) hS0 ?h23_2 ?r23_2
      case h23_2 => (intro u hu; (try dsimp only at hu); go_simp; first | done | with_reducible rfl)
      (try simp only [Act.put, tkS])
      refine upTo_tk (i := 3) (v := ?v23_3) rfl (by kernel_rfl) (fun _ _ _ h => h) (by rfl) hS0 ?h23_3 ?r23_3
      case h23_3 => (intro u hu; (try dsimp only at hu); go_simp; first | done | with_reducible rfl)
      (try simp only [Act.put, tkS])
      refine upTo_tk (i := 4) (v := ?v23_4) rfl (by kernel_rfl) (fun _ _ _ h => h) (by rfl) hS0 ?h23_4 ?r23_4
      case h23_4 => (intro u hu; (try dsimp only at hu); go_simp; first | done | with_reducible rfl)
      (try simp only [Act.put, tkS])
      refine upTo_tk (i := 5) (v := ?v23_5) rfl (by kernel_rfl) (fun _ _ _ h => h) (by rfl) hS0 ?h23_5 ?r23_5
      case h23_5 => (intro u hu; (try dsimp only at hu); go_simp; first | done | with_reducible rfl)
      (try simp only [Act.put, tkS])
      refine upTo_tk (i := 6) (v := ?v23_6) rfl (by kernel_rfl) (fun _ _ _ h => h) (by rfl) hS0 ?h23_6 ?r23_6
      case h23_6 => (intro u hu; (try dsimp only at hu); go_simp; first | done | with_reducible rfl)
      (try simp only [Act.put, tkS])
      refine upTo_tk (i := 7) (v := ?v23_7) rfl (by kernel_rfl) (fun _ _ _ h => h) (by rfl) hS0 ?h23_7 ?r23_7
      case h23_7 => (intro u hu; (try dsimp only at hu); go_simp; first | done | with_reducible rfl)
      (try simp only [Act.put, tkS])
      refine upTo_tk (i := 10) (v := ?v23_10) rfl (by kernel_rfl) (fun _ _ _ h => h) (by rfl) hS0 ?h23_10 ?r23_10
      case h23_10 => (intro u hu; (try dsimp only at hu); go_simp; first | done | with_reducible rfl)
      (try simp only [Act.put, tkS])
      refine upTo_tk (i := 11) (v := ?v23_11) rfl (by kernel_rfl) (fun _ _ _ h => h) (by rfl) hS0 ?h23_11 ?r23_11
      case h23_11 => (intro u hu; (try dsimp only at hu); go_simp; first | done | with_reducible rfl)
      (try simp only [Act.put, tkS])
      refine upTo_tk (i := 12) (v := ?v23_12) rfl (by kernel_rfl) (fun _ _ _ h => h) (by rfl) hS0 ?h23_12 ?r23_12
      case h23_12 => (intro u hu; (try dsimp only at hu); go_simp; first | done | with_reducible rfl)
      (try simp only [Act.put, tkS])
      refine upTo_tk (i := 15) (v := ?v23_15) rfl (by kernel_rfl) (fun _ _ _ h => h) (by rfl) hS0 ?h23_15 ?r23_15
      case h23_15 => (intro u hu; (try dsimp only at hu); go_simp; first | done | with_reducible rfl)
      (try simp only [Act.put, tkS])
      refine upTo_tk (i := 16) (v := ?v23_16) rfl (by kernel_rfl) (fun _ _ _ h => h) (by rfl) hS0 ?h23_16 ?r23_16
      case h23_16 => (intro u hu; (try dsimp only at hu); go_simp; first | done | with_reducible rfl)
      (try simp only [Act.put, tkS])
      refine upTo_tk (i := 17) (v := ?v23_17) rfl (by kernel_rfl) (fun _ _ _ h => h) (by rfl) hS0 ?h23_17 ?r23_17
      case h23_17 => (intro u hu; (try dsimp only at hu); go_simp; first | done | with_reducible rfl)
      (try simp only [Act.put, tkS])
      refine upTo_tk (i := 18) (v := ?v23_18) rfl (by kernel_rfl) (fun _ _ _ h => h) (by rfl) hS0 ?h23_18 ?r23_18
      case h23_18 => (intro u hu; (try dsimp only at hu); go_simp; first | done | with_reducible rfl)
      (try simp only [Act.put, tkS])
      refine upTo_tk (i := 19) (v := ?v23_19) rfl (by kernel_rfl) (fun _ _ _ h => h) (by rfl) hS0 ?h23_19 ?r23_19
      case h23_19 => (intro u hu; (try dsimp only at hu); go_simp; first | done | with_reducible rfl)
      (try simp only [Act.put, tkS])
      refine upTo_tk (i := 20) (v := ?v23_20) rfl (by kernel_rfl) (fun _ _ _ h => h) (by rfl) hS0 ?h23_20 ?r23_20
      case h23_20 => (intro u hu; (try dsimp only at hu); go_simp; first | done | with_reducible rfl)
      (try simp only [Act.put, tkS])
      refine upTo_tk (i := 21) (v := ?v23_21) rfl (by kernel_rfl) (fun _ _ _ h => h) (by rfl) hS0 ?h23_21 ?r23_21
      case h23_21 => (intro u hu; (try dsimp only at hu); go_simp; first | done | with_reducible rfl)
      (try simp only [Act.put, tkS])
      clear hS0
      have HJv : Hid ((kdE.six l.length []).J w3 ⟨sa, L.length, sc⟩ wr.drew) := SixKd.jdrew HJ0.out
      obtain ⟨v0, HV0⟩ := hex wr.drew
      rw [← HV0.out] at HJv
      rw [← HV0.out]
      clear HV0
      refine upTo_six 8 9 13 14 22 23 undef undef undef undef undef undef rfl rfl rfl rfl rfl rfl rfl rfl rfl rfl rfl rfl (by decide) (by decide) (by kernel_rfl) (by decide) (by rfl) ((kdE.six l.length []).J w3 ⟨sa, L.length, sc⟩) (kdE.six l.length []).T ((kdE.six l.length []).B 1) ((kdE.six l.length []).R w3 ⟨sa, L.length, sc⟩ 1) ((kdE.six l.length []).B 2) ((kdE.six l.length []).R w3 ⟨sa, L.length, sc⟩ 2) ((kdE.six l.length []).B 6) ((kdE.six l.length []).R w3 ⟨sa, L.length, sc⟩ 6) SixKd.trans (fun u hu => HS.out u hu) HJv.out ?sb ?fin
      case sb =>
        intro y1 z1 y2 z2 y3 z3 u hJ
        refine ⟨?_, ?_, ?_, ?_, ?_, ?_⟩
        · refine SixKd.build hJ 1 [.int .i64 EE.src, .int .i64 EE.seq, .int .i64 EE.ts, .int .i64 EE.kind, .int .i64 EE.val] rfl (by omega) (HPh.out 1) rfl ?_
          unfold six
          (try simp only [Act.put, tkS])
          go_simp
          first | done | with_reducible rfl | rfl
        · refine SixKd.build hJ 2 [.int .i64 EE.src, .int .i64 EE.seq, .int .i64 EE.ts, .int .i64 EE.kind, .int .i64 EE.val, .int .i64 EE.src, .int .i64 EE.seq, .int .i64 EE.ts, .int .i64 EE.kind, .int .i64 EE.val] rfl (by omega) (HPh.out 2) rfl ?_
          unfold six
          (try simp only [Act.put, tkS])
          go_simp
          first | done | with_reducible rfl | rfl
        · refine SixKd.build hJ 6 [.int .i64 EE.src, .int .i64 EE.seq, .int .i64 EE.ts, .int .i64 EE.kind, .int .i64 EE.val, .int .i64 EE.src, .int .i64 EE.seq, .int .i64 EE.ts, .int .i64 EE.kind, .int .i64 EE.val, .int .i64 EE.src, .int .i64 EE.seq, .int .i64 EE.ts, .int .i64 EE.kind, .int .i64 EE.val, .int .i64 EE.src, .int .i64 EE.seq, .int .i64 EE.ts, .int .i64 EE.kind, .int .i64 EE.val, .int .i64 EE.src, .int .i64 EE.seq, .int .i64 EE.ts, .int .i64 EE.kind, .int .i64 EE.val, .int .i64 EE.src, .int .i64 EE.seq, .int .i64 EE.ts, .int .i64 EE.kind, .int .i64 EE.val] rfl (by omega) (HPh.out 6) rfl ?_
          unfold six
          (try simp only [Act.put, tkS])
          go_simp
          first | done | with_reducible rfl | rfl
        · intro hy
          exact SixKd.appended hJ hy rfl (.tmp 28) (.tmp 30) 22 rfl 40 j0 _ Tryz.underlying22 hj0 hy0 hy1 hy2 rfl (Nat.zero_lt_succ _) (by decide) HOne.out (by unfold six; (try simp only [Act.put, tkS]); rfl) (by unfold six; (try simp only [Act.put, tkS]); rfl) (by omega) (by simp only; omega)
        · intro hy
          exact SixKd.appended hJ hy rfl (.tmp 32) (.tmp 35) 22 rfl 40 j0 _ Tryz.underlying22 hj0 hy0 hy1 hy2 rfl (Nat.zero_lt_succ _) (by decide) HOne.out (by unfold six; (try simp only [Act.put, tkS]); rfl) (by unfold six; (try simp only [Act.put, tkS]); rfl) (by omega) (by simp only; omega)
        · intro hy
          exact SixKd.appended hJ hy rfl (.tmp 37) (.tmp 44) 22 rfl 40 j0 _ Tryz.underlying22 hj0 hy0 hy1 hy2 rfl (Nat.zero_lt_succ _) (by decide) HOne.out (by unfold six; (try simp only [Act.put, tkS]); rfl) (by unfold six; (try simp only [Act.put, tkS]); rfl) (by omega) (by simp only; omega)
      case fin =>
        intro y1 z1 y2 z2 y3 z3 W hJ hB1 hR1 hB2 hR2 hB3 hR3
        obtain ⟨r1, e1, -⟩ := id hR1
        obtain ⟨r2, e2, -⟩ := id hR2
        obtain ⟨r3, e3, -⟩ := id hR3
        rw [e1] at hR1
        rw [e2] at hR2
        rw [e3] at hR3
        rw [e1, e2, e3]
        clear e1 e2 e3 hB1 hB2 hB3 HJ0 HJv
        have HJW : Hid ((kdE.six l.length []).J w3 ⟨sa, L.length, sc⟩ W) := hJ
        have HR1 : Hid ((kdE.six l.length []).R w3 ⟨sa, L.length, sc⟩ 1 r1.val W) := hR1
        have HR2 : Hid ((kdE.six l.length []).R w3 ⟨sa, L.length, sc⟩ 2 r2.val W) := hR2
        have HR3 : Hid ((kdE.six l.length []).R w3 ⟨sa, L.length, sc⟩ 6 r3.val W) := hR3
        have HKW : Hid (Kept (fun b => bk sa = some b) w3 W) := hJ.1
        clear hJ hR1 hR2 hR3
        unfold six Sl1.val
        (try simp only [Act.put, tkS])
        refine upTo_one (i := 24) (by kernel_rfl) rfl (fun K hK => ?_)
        go_simp
        refine hK.out _ _ (fun _ => HS2.out _ ((HKW.out.alloc _).mono (fun k _ e => Or.inl e))) ?_
        clear hK K
        (try simp only [Act.put, tkS])
        refine upTo_one (i := 25) (by kernel_rfl) rfl (fun K hK => ?_)
        go_simp
        refine hK.out _ _ (fun _ => HS2.out _ ((HKW.out.alloc _).mono (fun k _ e => Or.inl e))) ?_
        clear hK K
        (try simp only [Act.put, tkS])
        refine upTo_one (i := 26) (by kernel_rfl) rfl (fun K hK => ?_)
        go_simp
        refine hK.out _ _ (fun _ => HS2.out _ (((HKW.out.alloc _).alloc _).mono (fun k _ e => Or.inl e))) ?_
        clear hK K
        (try simp only [Act.put, tkS])
        have HO4 : Hid (((W.alloc (.cells #[.slice sa L.length sc, .slice r1.a r1.n r1.c, .slice r2.a r2.n r2.c, .slice r3.a r3.n r3.c] 22)).alloc (.cells #[.slice (some ⟨W.heap.size, 0, none⟩) 4 4] 106)).ownsRow 0 106 1 (.slice a l.length c) l.length (l.map E1.val)) := by
          show World.ownsRow _ _ _ _ _ _ _
          exact Row.kept (HL3.out.row) ((HKW.out.alloc _).alloc _) (fun k e f => (D2.out k f).1 e)
        refine upTo_one (i := 27) (by kernel_rfl) rfl (fun K hK => ?_)
        refine step_append_lies _ (by rfl) _ _ _ (by rfl) 0 106 e0 _ 1 24 Tryz.underlying47 he0 hu0 hu1 hu2 rfl (by omega) (.slice a l.length c) l.length (l.map E1.val) (by rfl) HO4.out
          ⟨W.heap.size + 1, 0, none⟩ 1 1 [.slice (some ⟨W.heap.size, 0, none⟩) 4 4] (by rfl) (by rfl) (news_new _ _ (by simp) [.slice (some ⟨W.heap.size, 0, none⟩) 4 4] 106) (by simp [Value.oneCell'])
          (by omega) (by unfold maxLen; omega) (by omega) (by omega) (W.heap.size + 2) (by simp) ?_
        intro gg cap w1 hown1 hgrow hat hlt1
        have HC : Hid (Kept (fun b => bk sa = some b ∨ bk a = some b) w3 w1) := (((HKW.out.alloc _).alloc _).mono (fun k _ e => Or.inl e)).grown hgrow (fun k _ e => Or.inr (by rw [bk_own] at e; exact e))
        have HB1 : Hid (Blk w1 wb 51 [xv, rv, .slice a l.length c, iv, ov]) := HB3.out.kept HC.out HDw.out
        have HFi : Hid (Owned1 kdE w3 (w1.setCell ⟨wb, 2, none⟩ (.slice (some ⟨gg, 0, none⟩) (l.length + 1) cap)) wb 51 [xv, rv, .slice a l.length c, iv, ov] 2 a sa [] l) := own1_close HB3.out HL3.out HSL.out D1.out D2.out D3.out D4.out D5.out DV.out HJW.out HR1.out HR2.out HR3.out (by omega) hown1 hgrow hat
        clear hown1 hgrow hat
        refine hK.out _ _ (fun _ => HS2.out _ HC.out) ?_
        clear hK K
        (try simp only [Act.put, tkS])
        refine upTo_one (i := 28) (by kernel_rfl) rfl (fun K hK => ?_)
        go_simp
        refine hK.out _ _ (fun _ => HS2.out _ HC.out) ?_
        clear hK K
        (try simp only [Act.put, tkS])
        refine upTo_one (i := 29) (by kernel_rfl) rfl (fun K hK => ?_)
        go_simp
        refine hK.out _ _ (fun _ => HS2.out _ HC.out) ?_
        clear hK K
        (try simp only [Act.put, tkS])
        have q5 := HB1.out.cell 2
        have q6 := HB1.out.frozen 2
        simp only [List.getElem?_cons_succ, List.getElem?_cons_zero] at q5
        refine upTo_one (i := 30) (by kernel_rfl) rfl (fun K hK => ?_)
        go_simp
        refine hK.out _ _ (fun h => absurd rfl h) ?_
        clear hK K
        (try simp only [Act.put, tkS])
        refine upTo_done (by kernel_rfl) ?_
        clear q5 q6
        go_wp2
        go_end0
        exact ⟨rfl, HFi.out.from (below_kept HBw.out _)⟩
end Go.Proofs.YtghcololkgeoeabGreat
namespace Go.Proofs.YtghcololkgeoeabGreat
open Go.RowKit
set_option linter.unusedVariables false
set_option linter.unusedSimpArgs false
attribute [local go_sem ↓] Go.wp_at_zero Go.wp_at_succ

def kdI : Kd := ⟨124, 36, 3, 3, 1, fun i _ _ v => v = .int .i64 (-7000 - (i : Int)), fun _ => undef⟩
theorem ownI_info : (Tryz.prog.info? 124).map (fun i => (i.zero, i.size, i.bytes)) = some (some (.agg #[.slice none 0 0]), 1, 24) := by kernel_rfl
theorem ownI_int : (Tryz.prog.info? 3).map (fun i => (i.zero, i.size, i.bytes)) = some (some (.int .i64 0), 1, 8) := by kernel_rfl
set_option maxRecDepth 100000 in
set_option maxHeartbeats 16000000 in
theorem ownI_any (wb : Nat) (xv rv ev ov : Value) (a : Option Addr) (c : Nat) (l : List E1) (sa : Option Addr) (sc : Nat) (L : List Value) (w : World)
    (hB : Blk w wb 51 [xv, rv, ev, .slice a l.length c, ov]) (hL : Lists1 w kdI a c l) (hl : l.length ≤ 5000000000000) (hr : Row w 3 1 sa L.length sc L) (hs : L.length ≤ 1000)
    (d1 : bk sa ≠ some wb) (d2 : ∀ k, bk sa = some k → bk a ≠ some k ∧ some k ∉ fp1 l) (d3 : bk a ≠ some wb) (d4 : some wb ∉ fp1 l) (d5 : ∀ k, bk a = some k → some k ∉ fp1 l) :
    Calls Tryz.prog 81 #[.pointer (some ⟨wb, 0, none⟩), .slice sa L.length sc] w fun e w' => e = .returned (.tuple #[]) ∧ Owned1 kdI w w' wb 51 [xv, rv, ev, .slice a l.length c, ov] 3 a sa [] l := by
  obtain ⟨j0, hj0, hy0, hy1, hy2⟩ := info_parts ownI_int
  obtain ⟨e0, he0, hu0, hu1, hu2⟩ := info_parts ownI_info
  have HB3 : Hid (Blk w wb 51 [xv, rv, ev, .slice a l.length c, ov]) := hB
  have HL3 : Hid (Lists1 w kdI a c l) := hL
  have HR : Hid (Row w 3 1 sa L.length sc L) := hr
  have HSL : Hid (∀ k, bk sa = some k → k < w.heap.size) := fun k e => hr.lt e
  have D1 : Hid (bk sa ≠ some wb) := d1
  have D2 : Hid (∀ k, bk sa = some k → bk a ≠ some k ∧ some k ∉ fp1 l) := d2
  have D3 : Hid (bk a ≠ some wb) := d3
  have D4 : Hid (some wb ∉ fp1 l) := d4
  have D5 : Hid (∀ k, bk a = some k → some k ∉ fp1 l) := d5
  have b2 := hB.cell 3
  simp only [List.getElem?_cons_zero, List.getElem?_cons_succ] at b2
  have hwb := hB.lt
  clear hB hL hr d1 d2 d3 d4 d5
  obtain ⟨EE, HEE⟩ := hex (-7000 - (l.length : Int))
  have HPh : Hid (∀ k : Nat, ∀ j v, (List.replicate k (Value.int .i64 EE))[j]? = some v → (kdI.six l.length []).φ (j % 1) v) := by
    intro k; rw [HEE.out]; exact rep_phi (φ := (kdI.six l.length []).φ) (fun o => rfl) k
  have HOne : Hid (∀ j v, (kdI.six l.length []).φ j v → v.oneCell' = true) := by
    intro j v hv
    have : v = .int .i64 (-7000 - (l.length : Int)) := hv
    rw [this]; rfl
  have DV : Hid (∀ g ∈ ([] : List Nat), Blk w g kdI.ti [kdI.m l.length] ∧ g ≠ wb ∧ bk a ≠ some g ∧ bk sa ≠ some g) := fun g hg => by cases hg
  have HDw : Hid (¬ (bk sa = some wb ∨ bk a = some wb)) := fun e => e.elim (fun e => D1.out e) (fun e => D3.out e)
  have hmk : ∀ u, Calls Tryz.prog 74 #[.int .i64 l.length] u fun e w' => e = .returned (.int .i64 EE) ∧ u = w' := by
    intro u; rw [HEE.out]; exact markN_any l.length u (by omega) (by omega)
  go_enter Tryz.func81, Tryz.ntmps81
  go_upto_region 1 with (go_at_call 74; refine (hmk _).mono ?_; rintro e w2 ⟨rfl, rfl⟩)
  clear hmk
  clear b2
  obtain ⟨w3, HW3⟩ := hex w
  rw [← HW3.out] at HB3 HL3 HR HSL DV hwb
  rw [← HW3.out]
  go_wp2
  go_loopw [5] (fun i wr => ∃ k : Nat, k ≤ L.length ∧ i = .int .i64 k ∧ Row wr 3 1 sa L.length sc (List.replicate k (Value.int .i64 EE) ++ L.drop k) ∧ Kept (fun b => bk sa = some b) w3 wr) (fun i _ => L.length - (intOf i).toNat)
  case atStart => exact ⟨0, Nat.zero_le _, rfl, by simpa using HR.out, Kept.refl _ _⟩
  case round =>
    obtain ⟨k, hk, rfl, hrow, hkept⟩ := hrel
    have HRk : Hid (Row wr 3 1 sa L.length sc (List.replicate k (Value.int .i64 EE) ++ L.drop k)) := hrow
    have HKwr : Hid (Kept (fun b => bk sa = some b) w3 wr) := hkept
    clear hrow hkept
    by_cases hlt : k < L.length
    · have hlt' : (k : Int) < (L.length : Int) := by omega
      have hk0 : (0 : Int) ≤ (k : Int) := by omega
      obtain ⟨g, hg, hnc, _, hcl, hfz⟩ := HRk.out.form (by omega)
      have x0 := hcl k (by omega)
      have f0 := hfz k
      have hx : (List.replicate k (Value.int .i64 EE) ++ L.drop k)[k]? = some (L[k]'hlt) := by rw [List.getElem?_append_right (by simp)]; simp
      rw [hx] at x0
      have HG : Hid (sa = some ⟨g, 0, none⟩) := hg
      rw [hg]
      clear hg hfz hcl hx
      go_wp2
      go_roundw
      case rel =>
        refine ⟨k + 1, by omega, by go_num, ?_, ?_⟩
        · have hh := HRk.out
          rw [HG.out] at hh
          have := hh.set k (.int .i64 EE)
          rw [rep_drop1 L (Value.int .i64 EE) k hlt] at this
          exact this
        · have hkk := HKwr.out
          rw [HG.out] at hkk
          exact hkk.setCell (fun _ => rfl) _
      case measure => simp [intOf]; omega
    · obtain rfl : k = L.length := by omega
      have HJ0 : Hid ((kdI.six l.length []).J w3 ⟨sa, L.length, sc⟩ wr) := by
        refine ⟨HKwr.out, List.replicate L.length (Value.int .i64 EE), ?_, HPh.out _⟩
        have := HRk.out
        rw [List.drop_length, List.append_nil] at this
        exact this
      clear HRk
      have b2 := (HB3.out.kept HKwr.out (fun e => HDw.out (Or.inl e))).cell 3
      simp only [List.getElem?_cons_zero, List.getElem?_cons_succ] at b2
      have HS2 : Hid (∀ v : World, Kept (fun b => bk sa = some b ∨ bk a = some b) w3 v → (fun u : World => u.cell? ⟨wb, 3, none⟩ = some (.slice a l.length c)) v) := by
        intro v hv
        exact (HB3.out.kept hv HDw.out).cell 3
      have HS : Hid (∀ v : World, (kdI.six l.length []).J w3 ⟨sa, L.length, sc⟩ v → (fun u : World => u.cell? ⟨wb, 3, none⟩ = some (.slice a l.length c)) v) := fun v hv => HS2.out v (hv.1.mono (fun k _ e => Or.inl e))
      go_upto_region 5 with fail
      refine upTo_region (fun u : World => u.cell? ⟨wb, 3, none⟩ = some (.slice a l.length c)) 30 31 rfl (by kernel_rfl) ?_
      have hS0 : (fun u : World => u.cell? ⟨wb, 3, none⟩ = some (.slice a l.length c)) wr.drew := HS.out _ (SixKd.jdrew HJ0.out)
      refine upTo_tk (i := 0) (v := ?v24_0) rfl (by kernel_rfl) (fun _ _ _ h => h) (by rfl) hS0 ?h24_0 ?r24_0
      case h24_0 => (intro u hu; (try dsimp only at hu); go_simp; first | done | with_reducible rfl)
      (try simp only [Act.put, tkS])
      refine upTo_tk (i := 1) (v := ?v24_1) rfl (by kernel_rfl) (fun _ _ _ h => h) (by rfl) hS0 ?h24_1 ?r24_1
      case h24_1 => (intro u hu; (try dsimp only at hu); go_simp; first | done | with_reducible rfl)
      (try simp only [Act.put, tkS])
      refine upTo_tk (i := 2) (v := ?v24_2) rfl (by kernel_rfl) (fun _ _ _ h => h) (by rfl) hS0 ?h24_2 ?r24_2
      case h24_2 => (intro u hu; (try dsimp only at hu); go_simp; first | done | with_reducible rfl)
      (try simp only [Act.put, tkS])
      refine upTo_tk (i := 3) (v := ?v24_3) rfl (by kernel_rfl) (fun _ _ _ h => h) (by rfl) hS0 ?h24_3 ?r24_3
      case h24_3 => (intro u hu; (try dsimp only at hu); go_simp; first | done | with_reducible rfl)
      (try simp only [Act.put, tkS])
      refine upTo_tk (i := 4) (v := ?v24_4) rfl (by kernel_rfl) (fun _ _ _ h => h) (by rfl) hS0 ?h24_4 ?r24_4
      case h24_4 => (intro u hu; (try dsimp only at hu); go_simp; first | done | with_reducible rfl)
      (try simp only [Act.put, tkS])
      refine upTo_tk (i := 5) (v := ?v24_5) rfl (by kernel_rfl) (fun _ _ _ h => h) (by rfl) hS0 ?h24_5 ?r24_5
      case h24_5 => (intro u hu; (try dsimp only at hu); go_simp; first | done | with_reducible rfl)
      (try simp only [Act.put, tkS])
      refine upTo_tk (i := 6) (v := ?v24_6) rfl (by kernel_rfl) (fun _ _ _ h => h) (by rfl) hS0 ?h24_6 ?r24_6
      case h24_6 => (intro u hu; (try dsimp only at hu); go_simp; first | done | with_reducible rfl)
      (try simp only [Act.put, tkS])
      refine upTo_tk (i := 7) (v := ?v24_7) rfl (by kernel_rfl) (fun _ _ _ h => h) (by rfl) hS0 ?h24_7 ?r24_7
      case h24_7 => (intro u hu; (try dsimp only at hu); go_simp; first | done | with_reducible rfl)
      (try simp only [Act.put, tkS])
      refine upTo_tk (i := 10) (v := ?v24_10) rfl (by kernel_rfl) (fun _ _ _ h => h) (by rfl) hS0 ?h24_10 ?r24_10
      case h24_10 => (intro u hu; (try dsimp only at hu); go_simp; first | done | with_reducible rfl)
      (try simp only [Act.put, tkS])
      refine upTo_tk (i := 11) (v := ?v24_11) rfl (by kernel_rfl) (fun _ _ _ h => h) (by rfl) hS0 ?h24_11 ?r24_11
      case h24_11 => (intro u hu; (try dsimp only at hu); go_simp; first | done | with_reducible rfl)
      (try simp only [Act.put, tkS])
      refine upTo_tk (i := 12) (v := ?v24_12) rfl (by kernel_rfl) (fun _ _ _ h => h) (by rfl) hS0 ?h24_12 ?r24_12
      case h24_12 => (intro u hu; (try dsimp only at hu); go_simp; first | done | with_reducible rfl)
      (try simp only [Act.put, tkS])
      refine upTo_tk (i := 15) (v := ?v24_15) rfl (by kernel_rfl) (fun _ _ _ h => h) (by rfl) hS0 ?h24_15 ?r24_15
      case h24_15 => (intro u hu; (try dsimp only at hu); go_simp; first | done | with_reducible rfl)
      (try simp only [Act.put, tkS])
      refine upTo_tk (i := 16) (v := ?v24_16) rfl (by kernel_rfl) (fun _ _ _ h => h) (by rfl) hS0 ?h24_16 ?r24_16
      case h24_16 => (intro u hu; (try dsimp only at hu); go_simp; first | done | with_reducible rfl)
      (try simp only [Act.put, tkS])
      refine upTo_tk (i := 17) (v := ?v24_17) rfl (by kernel_rfl) (fun _ _ _ h => h) (by rfl) hS0 ?h24_17 ?r24_17
      case h24_17 => (intro u hu; (try dsimp only at hu); go_simp; first | done | with_reducible rfl)
      (try simp only [Act.put, tkS])
      refine upTo_tk (i := 18) (v := ?v24_18) rfl (by kernel_rfl) (fun _ _ _ h => h) (by rfl) hS0 ?h24_18 ?r24_18
      case h24_18 => (intro u hu; (try dsimp only at hu); go_simp; first | done | with_reducible rfl)
      (try simp only [Act.put, tkS])
      refine upTo_tk (i := 19) (v := ?v24_19) rfl (by kernel_rfl) (fun _ _ _ h => h) (by rfl) hS0 ?h24_19 ?r24_19
      case h24_19 => (intro u hu; (try dsimp only at hu); go_simp; first | done | with_reducible rfl)
      (try simp only [Act.put, tkS])
      refine upTo_tk (i := 20) (v := ?v24_20) rfl (by kernel_rfl) (fun _ _ _ h => h) (by rfl) hS0 ?h24_20 ?r24_20
      case h24_20 => (intro u hu; (try dsimp only at hu); go_simp; first | done | with_reducible rfl)
      (try simp only [Act.put, tkS])
      refine upTo_tk (i := 21) (v := ?v24_21) rfl (by kernel_rfl) (fun _ _ _ h => h) (by rfl) hS0 ?h24_21 ?r24_21
      case h24_21 => (intro u hu; (try dsimp only at hu); go_simp; first | done | with_reducible rfl)
      (try simp only [Act.put, tkS])
      clear hS0
      have HJv : Hid ((kdI.six l.length []).J w3 ⟨sa, L.length, sc⟩ wr.drew) := SixKd.jdrew HJ0.out
      obtain ⟨v0, HV0⟩ := hex wr.drew
      rw [← HV0.out] at HJv
      rw [← HV0.out]
      clear HV0
      refine upTo_six 8 9 13 14 22 23 undef undef undef undef undef undef rfl rfl rfl rfl rfl rfl rfl rfl rfl rfl rfl rfl (by decide) (by decide) (by kernel_rfl) (by decide) (by rfl) ((kdI.six l.length []).J w3 ⟨sa, L.length, sc⟩) (kdI.six l.length []).T ((kdI.six l.length []).B 1) ((kdI.six l.length []).R w3 ⟨sa, L.length, sc⟩ 1) ((kdI.six l.length []).B 2) ((kdI.six l.length []).R w3 ⟨sa, L.length, sc⟩ 2) ((kdI.six l.length []).B 6) ((kdI.six l.length []).R w3 ⟨sa, L.length, sc⟩ 6) SixKd.trans (fun u hu => HS.out u hu) HJv.out ?sb ?fin
      case sb =>
        intro y1 z1 y2 z2 y3 z3 u hJ
        refine ⟨?_, ?_, ?_, ?_, ?_, ?_⟩
        · refine SixKd.build hJ 1 [.int .i64 EE] rfl (by omega) (HPh.out 1) rfl ?_
          unfold six
          (try simp only [Act.put, tkS])
          go_simp
          first | done | with_reducible rfl | rfl
        · refine SixKd.build hJ 2 [.int .i64 EE, .int .i64 EE] rfl (by omega) (HPh.out 2) rfl ?_
          unfold six
          (try simp only [Act.put, tkS])
          go_simp
          first | done | with_reducible rfl | rfl
        · refine SixKd.build hJ 6 [.int .i64 EE, .int .i64 EE, .int .i64 EE, .int .i64 EE, .int .i64 EE, .int .i64 EE] rfl (by omega) (HPh.out 6) rfl ?_
          unfold six
          (try simp only [Act.put, tkS])
          go_simp
          first | done | with_reducible rfl | rfl
        · intro hy
          exact SixKd.appended hJ hy rfl (.tmp 28) (.tmp 30) 36 rfl 8 j0 _ Tryz.underlying36 hj0 hy0 hy1 hy2 rfl (Nat.zero_lt_succ _) (by decide) HOne.out (by unfold six; (try simp only [Act.put, tkS]); rfl) (by unfold six; (try simp only [Act.put, tkS]); rfl) (by omega) (by simp only; omega)
        · intro hy
          exact SixKd.appended hJ hy rfl (.tmp 32) (.tmp 35) 36 rfl 8 j0 _ Tryz.underlying36 hj0 hy0 hy1 hy2 rfl (Nat.zero_lt_succ _) (by decide) HOne.out (by unfold six; (try simp only [Act.put, tkS]); rfl) (by unfold six; (try simp only [Act.put, tkS]); rfl) (by omega) (by simp only; omega)
        · intro hy
          exact SixKd.appended hJ hy rfl (.tmp 37) (.tmp 44) 36 rfl 8 j0 _ Tryz.underlying36 hj0 hy0 hy1 hy2 rfl (Nat.zero_lt_succ _) (by decide) HOne.out (by unfold six; (try simp only [Act.put, tkS]); rfl) (by unfold six; (try simp only [Act.put, tkS]); rfl) (by omega) (by simp only; omega)
      case fin =>
        intro y1 z1 y2 z2 y3 z3 W hJ hB1 hR1 hB2 hR2 hB3 hR3
        obtain ⟨r1, e1, -⟩ := id hR1
        obtain ⟨r2, e2, -⟩ := id hR2
        obtain ⟨r3, e3, -⟩ := id hR3
        rw [e1] at hR1
        rw [e2] at hR2
        rw [e3] at hR3
        rw [e1, e2, e3]
        clear e1 e2 e3 hB1 hB2 hB3 HJ0 HJv
        have HJW : Hid ((kdI.six l.length []).J w3 ⟨sa, L.length, sc⟩ W) := hJ
        have HR1 : Hid ((kdI.six l.length []).R w3 ⟨sa, L.length, sc⟩ 1 r1.val W) := hR1
        have HR2 : Hid ((kdI.six l.length []).R w3 ⟨sa, L.length, sc⟩ 2 r2.val W) := hR2
        have HR3 : Hid ((kdI.six l.length []).R w3 ⟨sa, L.length, sc⟩ 6 r3.val W) := hR3
        have HKW : Hid (Kept (fun b => bk sa = some b) w3 W) := hJ.1
        clear hJ hR1 hR2 hR3
        unfold six Sl1.val
        (try simp only [Act.put, tkS])
        refine upTo_one (i := 24) (by kernel_rfl) rfl (fun K hK => ?_)
        go_simp
        refine hK.out _ _ (fun _ => HS2.out _ ((HKW.out.alloc _).mono (fun k _ e => Or.inl e))) ?_
        clear hK K
        (try simp only [Act.put, tkS])
        refine upTo_one (i := 25) (by kernel_rfl) rfl (fun K hK => ?_)
        go_simp
        refine hK.out _ _ (fun _ => HS2.out _ ((HKW.out.alloc _).mono (fun k _ e => Or.inl e))) ?_
        clear hK K
        (try simp only [Act.put, tkS])
        refine upTo_one (i := 26) (by kernel_rfl) rfl (fun K hK => ?_)
        go_simp
        refine hK.out _ _ (fun _ => HS2.out _ (((HKW.out.alloc _).alloc _).mono (fun k _ e => Or.inl e))) ?_
        clear hK K
        (try simp only [Act.put, tkS])
        have HO4 : Hid (((W.alloc (.cells #[.slice sa L.length sc, .slice r1.a r1.n r1.c, .slice r2.a r2.n r2.c, .slice r3.a r3.n r3.c] 36)).alloc (.cells #[.slice (some ⟨W.heap.size, 0, none⟩) 4 4] 124)).ownsRow 0 124 1 (.slice a l.length c) l.length (l.map E1.val)) := by
          show World.ownsRow _ _ _ _ _ _ _
          exact Row.kept (HL3.out.row) ((HKW.out.alloc _).alloc _) (fun k e f => (D2.out k f).1 e)
        refine upTo_one (i := 27) (by kernel_rfl) rfl (fun K hK => ?_)
        refine step_append_lies _ (by rfl) _ _ _ (by rfl) 0 124 e0 _ 1 24 Tryz.underlying48 he0 hu0 hu1 hu2 rfl (by omega) (.slice a l.length c) l.length (l.map E1.val) (by rfl) HO4.out
          ⟨W.heap.size + 1, 0, none⟩ 1 1 [.slice (some ⟨W.heap.size, 0, none⟩) 4 4] (by rfl) (by rfl) (news_new _ _ (by simp) [.slice (some ⟨W.heap.size, 0, none⟩) 4 4] 124) (by simp [Value.oneCell'])
          (by omega) (by unfold maxLen; omega) (by omega) (by omega) (W.heap.size + 2) (by simp) ?_
        intro gg cap w1 hown1 hgrow hat hlt1
        have HC : Hid (Kept (fun b => bk sa = some b ∨ bk a = some b) w3 w1) := (((HKW.out.alloc _).alloc _).mono (fun k _ e => Or.inl e)).grown hgrow (fun k _ e => Or.inr (by rw [bk_own] at e; exact e))
        have HB1 : Hid (Blk w1 wb 51 [xv, rv, ev, .slice a l.length c, ov]) := HB3.out.kept HC.out HDw.out
        have HFi : Hid (Owned1 kdI w3 (w1.setCell ⟨wb, 3, none⟩ (.slice (some ⟨gg, 0, none⟩) (l.length + 1) cap)) wb 51 [xv, rv, ev, .slice a l.length c, ov] 3 a sa [] l) := own1_close HB3.out HL3.out HSL.out D1.out D2.out D3.out D4.out D5.out DV.out HJW.out HR1.out HR2.out HR3.out (by omega) hown1 hgrow hat
        clear hown1 hgrow hat
        refine hK.out _ _ (fun _ => HS2.out _ HC.out) ?_
        clear hK K
        (try simp only [Act.put, tkS])
        refine upTo_one (i := 28) (by kernel_rfl) rfl (fun K hK => ?_)
        go_simp
        refine hK.out _ _ (fun _ => HS2.out _ HC.out) ?_
        clear hK K
        (try simp only [Act.put, tkS])
        refine upTo_one (i := 29) (by kernel_rfl) rfl (fun K hK => ?_)
        go_simp
        refine hK.out _ _ (fun _ => HS2.out _ HC.out) ?_
        clear hK K
        (try simp only [Act.put, tkS])
        have q5 := HB1.out.cell 3
        have q6 := HB1.out.frozen 3
        simp only [List.getElem?_cons_succ, List.getElem?_cons_zero] at q5
        refine upTo_one (i := 30) (by kernel_rfl) rfl (fun K hK => ?_)
        go_simp
        refine hK.out _ _ (fun h => absurd rfl h) ?_
        clear hK K
        (try simp only [Act.put, tkS])
        refine upTo_done (by kernel_rfl) ?_
        clear q5 q6
        go_wp2
        go_end0
        rw [← HW3.out]
        exact ⟨rfl, HFi.out⟩
end Go.Proofs.YtghcololkgeoeabGreat
