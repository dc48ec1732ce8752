import Derived.Test.YthiabdpgieppoaaGreatRefH
namespace Go.Proofs.YthiabdpgieppoaaGreat
open Go.RowKit
set_option linter.unusedVariables false
set_option linter.unusedSimpArgs false
attribute [local go_sem ↓] Go.wp_at_zero Go.wp_at_succ

def srcAgg (inn idle : Bool) (m n l : Int) : Value := .agg #[.bool inn, .bool idle, .int .i64 m, .int .i64 n, .int .i64 l]
def z5 : List Value := [.bool false, .bool false, .int .i64 0, .int .i64 0, .int .i64 0]
theorem below_set5 {w : World} {b : Nat} {v0 v1 v2 v3 v4 : Value} : Below b w (((((w.setCell ⟨b, 0, none⟩ v0).setCell ⟨b, 1, none⟩ v1).setCell ⟨b, 2, none⟩ v2).setCell ⟨b, 3, none⟩ v3).setCell ⟨b, 4, none⟩ v4) := below_set3.trans below_set2

set_option maxHeartbeats 1000000 in
theorem rof_none (b : Nat) (R : Ref) (s : Int) (w : World) (hM : MemR w b R) (hs : s < 0 ∨ (R.srcs.length : Int) ≤ s) :
    Calls Tryz.prog 63 #[.pointer (some ⟨b, 0, none⟩), .int .i64 s] w fun e w' => e = .returned (.tuple #[srcAgg false false 0 0 0, .int .i64 3]) ∧ Below w.heap.size w w' := by
  have HD : Hid (decide (s < 0 ∨ (R.srcs.length : Int) ≤ s) = true) := by show _ = _; simpa using hs
  clear hs
  go_enter Tryz.func63, Tryz.ntmps63
  go_wp2_with (go_at_call 39; refine (rnone_any b R s _ (hM.alloc _)).mono ?_; rintro e w' ⟨rfl, rfl⟩; rw [HD.out])
  refine bodyPost_ret (v := .tuple #[srcAgg false false 0 0 0, .int .i64 3]) (by simp [results, Tryz.results63, go_sem, srcAgg]) rfl ⟨rfl, ?_⟩
  exact (Below.refl _ _).alloc (Nat.le_refl _) _

set_option maxRecDepth 100000 in
set_option maxHeartbeats 2000000 in
theorem rof_some (b : Nat) (R : Ref) (i : Nat) (w : World) (hM : MemR w b R) (hall : R.all.length ≤ 1000) (hi : i < R.srcs.length) :
    Calls Tryz.prog 63 #[.pointer (some ⟨b, 0, none⟩), .int .i64 i] w fun e w' => e = .returned (.tuple #[srcAgg R.srcs[i].inn (R.isIdle i) (R.mark i) (R.wait i).length (greatest R.srcs[i].seqs (-1)), .int .i64 0]) ∧ Below w.heap.size w w' := by
  have HD : Hid (decide ((i : Int) < 0 ∨ (R.srcs.length : Int) ≤ i) = false) := by show _ = _; simp; omega
  have HA : Hid (MemR (w.alloc (.cells z5.toArray 108)) b R) := hM.alloc _
  have HZ : Hid (Blk (w.alloc (.cells z5.toArray 108)) w.heap.size 108 z5) := blk_alloc _ _ _
  have hi' : (i : Int) < (R.srcs.length : Int) := by omega
  have hi00 : (0 : Int) ≤ (i : Int) := by omega
  go_enter Tryz.func63, Tryz.ntmps63
  go_upto_region 7 with (first
    | (go_at_call 39; refine (rnone_any b R _ _ HA.out).mono ?_; rintro e w' ⟨rfl, rfl⟩; rw [HD.out])
    | (go_at_call 52; refine (rwaiting_any b R i _ HA.out hall).mono ?_; rintro e w2 ⟨a, c, rfl, hown, hb2⟩; have HB2 : Hid (Below (w.alloc (.cells z5.toArray 108)).heap.size (w.alloc (.cells z5.toArray 108)) w2) := hb2; clear hb2 hown; have HM2 : Hid (MemR w2 b R) := HA.out.below HB2.out)
    | (go_at_call 51; refine (ridle_any b R i _ HM2.out hi).mono ?_; rintro e w3 ⟨rfl, nq, hq⟩; have HQ : Hid (w3 = w2.drewN nq) := hq; clear hq; have HM3 : Hid (MemR w3 b R) := by show MemR _ _ _; rw [HQ.out]; exact HM2.out.drewN nq)
    | (go_at_call 50; refine (rmark_any b R i _ HM3.out hi).mono ?_; rintro e w4 ⟨rfl, rfl⟩))
  have HB3 : Hid (Below w.heap.size w w3) := by
    show Below _ _ _
    rw [HQ.out]
    exact bdrewN (((Below.refl _ _).alloc (Nat.le_refl _) _).trans (HB2.out.mono (by simp))) nq
  have HZ3 : Hid (Blk w3 w.heap.size 108 z5) := by
    show Blk _ _ _ _
    rw [HQ.out]
    exact HZ.out.below (bdrewN HB2.out nq) (by simp)
  have c9 := HM3.out.cells.2.1
  have s0 := HM3.out.srcCell i 0 hi (by omega)
  have s3 := HM3.out.srcCell i 3 hi (by omega)
  have HQ3 : Hid (Row w3 3 1 R.srcs[i].qa R.srcs[i].seqs.length R.srcs[i].qc (ints R.srcs[i].seqs)) := HM3.out.sqs i _ (List.getElem?_eq_getElem hi)
  simp only [RSrc.vals, List.getElem?_cons_zero, List.getElem?_cons_succ, Nat.add_zero] at s0 s3
  have r0 := HZ3.out.cell 0
  have r1 := HZ3.out.cell 1
  have r2 := HZ3.out.cell 2
  have r3 := HZ3.out.cell 3
  have r4 := HZ3.out.cell 4
  have g0 := HZ3.out.frozen 0
  have g1 := HZ3.out.frozen 1
  have g2 := HZ3.out.frozen 2
  have g3 := HZ3.out.frozen 3
  have g4 := HZ3.out.frozen 4
  simp only [z5, List.getElem?_cons_zero, List.getElem?_cons_succ] at r0 r1 r2 r3 r4
  have hwl : (R.wait i).length ≤ 1000 := by
    have := List.length_filter_le (waits R.merged i) R.all
    unfold Ref.wait; omega
  go_wp2_with (go_at_call 78; refine (greatest_any _ _ _ _ _ HQ3.out).mono ?_; rintro e w5 ⟨rfl, rfl⟩)
  refine bodyPost_ret (v := .tuple #[srcAgg R.srcs[i].inn (R.isIdle i) (R.mark i) (R.wait i).length (greatest R.srcs[i].seqs (-1)), .int .i64 0]) (by simp [results, Tryz.results63, go_sem, srcAgg, r0, r1, r2, r3, r4]) rfl ⟨rfl, ?_⟩
  exact HB3.out.trans (below_set5)

theorem Evo.drewE {w w' : World} {b : Nat} {R R' : Ref} (h : Evo w b R w' R') : Evo w b R w'.drew R' := ⟨h.mem.drew, h.kept.drew, h.grow⟩
/-- the first k sources behind a tick -/
def ticked (n : Int) (r : RSrc) : RSrc := if r.inn then { r with sil := r.sil + n } else r
def tickTo (n : Int) (l : List RSrc) (k : Nat) : List RSrc := (l.take k).map (ticked n) ++ l.drop k
theorem tickTo_len (n : Int) (l : List RSrc) (k : Nat) : (tickTo n l k).length = l.length := by simp [tickTo]; omega
theorem tickTo_get (n : Int) (l : List RSrc) (k : Nat) (hk : k < l.length) : (tickTo n l k)[k]'(by rw [tickTo_len]; exact hk) = l[k] := by
  simp only [tickTo]
  rw [List.getElem_append_right (by simp; omega)]
  simp [Nat.min_eq_left (Nat.le_of_lt hk)]
theorem tickTo_set (n : Int) (l : List RSrc) (k : Nat) (hk : k < l.length) : tickTo n l (k + 1) = (tickTo n l k).set k (ticked n l[k]) := by
  simp only [tickTo]
  rw [List.set_append_right _ _ (by simp; omega)]
  simp only [List.length_map, List.length_take, Nat.min_eq_left (Nat.le_of_lt hk), Nat.sub_self]
  rw [take_succ' l k hk, List.map_append, List.append_assoc, List.drop_eq_getElem_cons hk]
  rfl
def Ref.ticks (R : Ref) (n : Int) : Ref := ({ R with srcs := tickTo n R.srcs R.srcs.length } : Ref).settled

set_option maxHeartbeats 400000 in
theorem rtick_bad (b : Nat) (n : Int) (w : World) (hn : n < 1 ∨ 1000 < n) :
    Calls Tryz.prog 23 #[.pointer (some ⟨b, 0, none⟩), .int .i64 n] w fun e w' => e = .returned (.int .i64 9) ∧ w = w' := by
  by_cases h1 : n < 1
  · clear hn
    go_enter Tryz.func23, Tryz.ntmps23
    go_wp2
    go_ret
    exact ⟨rfl, rfl⟩
  · have h2 : 1000 < n := by omega
    clear hn
    go_enter Tryz.func23, Tryz.ntmps23
    go_wp2
    go_ret
    exact ⟨rfl, rfl⟩

set_option maxRecDepth 100000 in
set_option maxHeartbeats 4000000 in
theorem rtick_ok (N b : Nat) (R : Ref) (n : Int) (w : World) (hM : MemR w b R) (hsane : Sane N R) (hN : N ≤ 8000000000000) (h1 : 1 ≤ n) (h2 : n ≤ 1000) :
    Calls Tryz.prog 23 #[.pointer (some ⟨b, 0, none⟩), .int .i64 n] w fun e w' => e = .returned (.int .i64 0) ∧ Evo w b R w' (R.ticks n) := by
  have h1' : ¬ n < 1 := by omega
  have h2' : ¬ 1000 < n := by omega
  have HSn : Hid (Sane N R) := hsane
  have hn6 := hsane.n
  clear hsane
  go_enter Tryz.func23, Tryz.ntmps23
  go_wp2
  go_loopw [5] (fun s wr => ∃ k : Nat, k ≤ R.srcs.length ∧ s = .int .i64 k ∧ Evo w b R wr { R with srcs := tickTo n R.srcs k }) (fun s _ => R.srcs.length - (intOf s).toNat)
  case atStart => exact ⟨0, Nat.zero_le _, rfl, by simpa [tickTo] using Evo.refl hM⟩
  case round =>
    obtain ⟨k, hk, rfl, hev⟩ := hrel
    obtain ⟨R1, HR1⟩ := hex ({ R with srcs := tickTo n R.srcs k } : Ref)
    have HE1 : Hid (Evo w b R wr R1) := by show Evo _ _ _ _ _; rw [HR1.out]; exact hev
    clear hev
    have hl1 : R1.srcs.length = R.srcs.length := by have := HR1.out; subst this; exact tickTo_len _ _ _
    have c9 := HE1.out.mem.cells.2.1
    by_cases hlt : k < R.srcs.length
    · have hi : k < R1.srcs.length := by omega
      have hi' : (k : Int) < (R1.srcs.length : Int) := by omega
      have hi00 : (0 : Int) ≤ (k : Int) := by omega
      have HG : Hid (R1.srcs[k] = R.srcs[k]) := by show _ = _; have := HR1.out; subst this; exact tickTo_get n R.srcs k hlt
      have s0 := HE1.out.mem.srcCell k 0 hi (by omega)
      have s1 := HE1.out.mem.srcCell k 1 hi (by omega)
      have f1 := HE1.out.mem.srcFrozen (k * 5 + 1) (by omega)
      rw [HG.out] at s0 s1
      simp only [RSrc.vals, List.getElem?_cons_zero, List.getElem?_cons_succ, Nat.add_zero] at s0 s1
      have hsil := HSn.out.sil k _ (List.getElem?_eq_getElem hlt)
      have HT : Hid (tickTo n R.srcs (k + 1) = (tickTo n R.srcs k).set k (ticked n R.srcs[k])) := tickTo_set n R.srcs k hlt
      cases hin : R.srcs[k].inn with
      | false =>
        rw [hin] at s0
        have HN : Hid (({ R with srcs := tickTo n R.srcs (k + 1) } : Ref) = R1) := by
          show _ = _
          rw [HT.out, HR1.out, set_self]
          rw [List.getElem?_eq_getElem (by rw [tickTo_len]; exact hlt), tickTo_get n R.srcs k hlt]
          simp [ticked, hin]
        go_wp2
        go_roundw
        case rel => exact ⟨k + 1, by omega, by go_num, by rw [HN.out]; exact HE1.out⟩
        case measure => simp [intOf]; omega
      | true =>
        rw [hin] at s0
        have hsum : IntKind.i64.wrap (R.srcs[k].sil + n) = R.srcs[k].sil + n := by rw [IntKind.wrap_i64]; omega
        have HN : Hid (Evo wr b R1 (wr.setCell ⟨R1.sg, k * 5 + 1, none⟩ (.int .i64 (R.srcs[k].sil + n))) { R with srcs := tickTo n R.srcs (k + 1) }) := by
          show Evo _ _ _ _ _
          have e := HE1.out.mem.setSrcE (i := k) { R.srcs[k] with sil := R.srcs[k].sil + n } hi 1 (by omega) (.int .i64 (R.srcs[k].sil + n)) (by rw [HG.out]; rfl) (by rw [HG.out]; exact ⟨rfl, rfl, rfl⟩) (by rw [HG.out]; exact ⟨rfl, rfl, rfl⟩)
          have e2 : ({ R with srcs := tickTo n R.srcs (k + 1) } : Ref) = { R1 with srcs := R1.srcs.set k { R.srcs[k] with sil := R.srcs[k].sil + n } } := by
            rw [HT.out, HR1.out]
            simp [ticked, hin]
          rw [e2]
          exact e
        obtain ⟨sil, hsl⟩ : ∃ x, x = R.srcs[k].sil := ⟨_, rfl⟩
        rw [← hsl] at s1 hsil hsum HN
        clear hsl HG
        go_upto_region 7 with fail
        refine upTo_region (fun u => u.cell? ⟨b, 9, none⟩ = some (.slice (some ⟨R1.sg, 0, none⟩) R1.srcs.length R1.sc) ∧ u.cell? ⟨R1.sg, k * 5 + 1, none⟩ = some (.int .i64 sil)) 17 18 rfl (by kernel_rfl) ?_
        have hS0 : (fun u : World => u.cell? ⟨b, 9, none⟩ = some (.slice (some ⟨R1.sg, 0, none⟩) R1.srcs.length R1.sc) ∧ u.cell? ⟨R1.sg, k * 5 + 1, none⟩ = some (.int .i64 sil)) wr.drew := ⟨c9, s1⟩
        refine upTo_take (i := 0) (v := ?v4_0) rfl (by kernel_rfl) (by kernel_rfl) (by kernel_rfl) (by kernel_rfl) (by rfl) (fun _ _ _ h => h) (by rfl) hS0 ?hy4_0 ?rest4_0
        case hy4_0 => (intro u hu; (try dsimp only at hu); go_simp; first | done | with_reducible rfl)
        (try simp only [Act.put, List.setIfInBounds_toArray, List.set_cons_zero, List.set_cons_succ, List.getElem_toArray, List.getElem_cons_succ, List.getElem_cons_zero])
        refine upTo_take (i := 1) (v := ?v4_1) rfl (by kernel_rfl) (by kernel_rfl) (by kernel_rfl) (by kernel_rfl) (by rfl) (fun _ _ _ h => h) (by rfl) hS0 ?hy4_1 ?rest4_1
        case hy4_1 => (intro u hu; (try dsimp only at hu); go_simp; first | done | with_reducible rfl)
        (try simp only [Act.put, List.setIfInBounds_toArray, List.set_cons_zero, List.set_cons_succ, List.getElem_toArray, List.getElem_cons_succ, List.getElem_cons_zero])
        refine upTo_take (i := 2) (v := ?v4_2) rfl (by kernel_rfl) (by kernel_rfl) (by kernel_rfl) (by kernel_rfl) (by rfl) (fun _ _ _ h => h) (by rfl) hS0 ?hy4_2 ?rest4_2
        case hy4_2 => (intro u hu; (try dsimp only at hu); go_simp; first | done | with_reducible rfl)
        (try simp only [Act.put, List.setIfInBounds_toArray, List.set_cons_zero, List.set_cons_succ, List.getElem_toArray, List.getElem_cons_succ, List.getElem_cons_zero])
        refine upTo_take (i := 3) (v := ?v4_3) rfl (by kernel_rfl) (by kernel_rfl) (by kernel_rfl) (by kernel_rfl) (by rfl) (fun _ _ _ h => h) (by rfl) hS0 ?hy4_3 ?rest4_3
        case hy4_3 => (intro u hu; (try dsimp only at hu); go_simp; first | done | with_reducible rfl)
        (try simp only [Act.put, List.setIfInBounds_toArray, List.set_cons_zero, List.set_cons_succ, List.getElem_toArray, List.getElem_cons_succ, List.getElem_cons_zero])
        refine upTo_take (i := 4) (v := ?v4_4) rfl (by kernel_rfl) (by kernel_rfl) (by kernel_rfl) (by kernel_rfl) (by rfl) (fun _ _ _ h => h) (by rfl) hS0 ?hy4_4 ?rest4_4
        case hy4_4 => (intro u hu; (try dsimp only at hu); go_simp; first | done | with_reducible rfl)
        (try simp only [Act.put, List.setIfInBounds_toArray, List.set_cons_zero, List.set_cons_succ, List.getElem_toArray, List.getElem_cons_succ, List.getElem_cons_zero])
        refine upTo_take (i := 5) (v := ?v4_5) rfl (by kernel_rfl) (by kernel_rfl) (by kernel_rfl) (by kernel_rfl) (by rfl) (fun _ _ _ h => h) (by rfl) hS0 ?hy4_5 ?rest4_5
        case hy4_5 => (intro u hu; (try dsimp only at hu); go_simp; first | done | with_reducible rfl)
        (try simp only [Act.put, List.setIfInBounds_toArray, List.set_cons_zero, List.set_cons_succ, List.getElem_toArray, List.getElem_cons_succ, List.getElem_cons_zero])
        refine upTo_take (i := 6) (v := ?v4_6) rfl (by kernel_rfl) (by kernel_rfl) (by kernel_rfl) (by kernel_rfl) (by rfl) (fun _ _ _ h => h) (by rfl) hS0 ?hy4_6 ?rest4_6
        case hy4_6 => (intro u hu; (try dsimp only at hu); go_simp; first | done | with_reducible rfl)
        (try simp only [Act.put, List.setIfInBounds_toArray, List.set_cons_zero, List.set_cons_succ, List.getElem_toArray, List.getElem_cons_succ, List.getElem_cons_zero])
        refine upTo_take (i := 7) (v := ?v4_7) rfl (by kernel_rfl) (by kernel_rfl) (by kernel_rfl) (by kernel_rfl) (by rfl) (fun _ _ _ h => h) (by rfl) hS0 ?hy4_7 ?rest4_7
        case hy4_7 => (intro u hu; (try dsimp only at hu); go_simp; first | done | with_reducible rfl)
        (try simp only [Act.put, List.setIfInBounds_toArray, List.set_cons_zero, List.set_cons_succ, List.getElem_toArray, List.getElem_cons_succ, List.getElem_cons_zero])
        refine upTo_take (i := 8) (v := ?v4_8) rfl (by kernel_rfl) (by kernel_rfl) (by kernel_rfl) (by kernel_rfl) (by rfl) (fun _ _ _ h => h) (by rfl) hS0 ?hy4_8 ?rest4_8
        case hy4_8 => (intro u hu; (try dsimp only at hu); go_simp; first | done | with_reducible rfl)
        (try simp only [Act.put, List.setIfInBounds_toArray, List.set_cons_zero, List.set_cons_succ, List.getElem_toArray, List.getElem_cons_succ, List.getElem_cons_zero])
        refine upTo_take (i := 9) (v := ?v4_9) rfl (by kernel_rfl) (by kernel_rfl) (by kernel_rfl) (by kernel_rfl) (by rfl) (fun _ _ _ h => h) (by rfl) hS0 ?hy4_9 ?rest4_9
        case hy4_9 => (intro u hu; (try dsimp only at hu); go_simp; first | done | with_reducible rfl)
        (try simp only [Act.put, List.setIfInBounds_toArray, List.set_cons_zero, List.set_cons_succ, List.getElem_toArray, List.getElem_cons_succ, List.getElem_cons_zero])
        refine upTo_take (i := 10) (v := ?v4_10) rfl (by kernel_rfl) (by kernel_rfl) (by kernel_rfl) (by kernel_rfl) (by rfl) (fun _ _ _ h => h) (by rfl) hS0 ?hy4_10 ?rest4_10
        case hy4_10 => (intro u hu; (try dsimp only at hu); go_simp; first | done | with_reducible rfl)
        (try simp only [Act.put, List.setIfInBounds_toArray, List.set_cons_zero, List.set_cons_succ, List.getElem_toArray, List.getElem_cons_succ, List.getElem_cons_zero])
        refine upTo_take (i := 11) (v := ?v4_11) rfl (by kernel_rfl) (by kernel_rfl) (by kernel_rfl) (by kernel_rfl) (by rfl) (fun _ _ _ h => h) (by rfl) hS0 ?hy4_11 ?rest4_11
        case hy4_11 => (intro u hu; (try dsimp only at hu); go_simp; first | done | with_reducible rfl)
        (try simp only [Act.put, List.setIfInBounds_toArray, List.set_cons_zero, List.set_cons_succ, List.getElem_toArray, List.getElem_cons_succ, List.getElem_cons_zero])
        refine upTo_take (i := 12) (v := ?v4_12) rfl (by kernel_rfl) (by kernel_rfl) (by kernel_rfl) (by kernel_rfl) (by rfl) (fun _ _ _ h => h) (by rfl) hS0 ?hy4_12 ?rest4_12
        case hy4_12 => (intro u hu; (try dsimp only at hu); go_simp; first | done | with_reducible rfl)
        (try simp only [Act.put, List.setIfInBounds_toArray, List.set_cons_zero, List.set_cons_succ, List.getElem_toArray, List.getElem_cons_succ, List.getElem_cons_zero])
        refine upTo_take (i := 13) (v := ?v4_13) rfl (by kernel_rfl) (by kernel_rfl) (by kernel_rfl) (by kernel_rfl) (by rfl) (fun _ _ _ h => h) (by rfl) hS0 ?hy4_13 ?rest4_13
        case hy4_13 => (intro u hu; (try dsimp only at hu); go_simp; first | done | with_reducible rfl)
        (try simp only [Act.put, List.setIfInBounds_toArray, List.set_cons_zero, List.set_cons_succ, List.getElem_toArray, List.getElem_cons_succ, List.getElem_cons_zero])
        refine upTo_take (i := 14) (v := ?v4_14) rfl (by kernel_rfl) (by kernel_rfl) (by kernel_rfl) (by kernel_rfl) (by rfl) (fun _ _ _ h => h) (by rfl) hS0 ?hy4_14 ?rest4_14
        case hy4_14 => (intro u hu; (try dsimp only at hu); go_simp; first | done | with_reducible rfl)
        (try simp only [Act.put, List.setIfInBounds_toArray, List.set_cons_zero, List.set_cons_succ, List.getElem_toArray, List.getElem_cons_succ, List.getElem_cons_zero])
        refine upTo_one (i := 15) (by kernel_rfl) rfl (fun K hK => ?_)
        go_simp
        refine hK.out _ _ (fun _ => ⟨c9, s1⟩) ?_
        clear hK K
        (try simp only [Act.put, List.setIfInBounds_toArray, List.set_cons_zero, List.set_cons_succ, List.getElem_toArray, List.getElem_cons_succ, List.getElem_cons_zero])
        refine upTo_one (i := 16) (by kernel_rfl) rfl (fun K hK => ?_)
        go_simp
        refine hK.out _ _ (fun _ => ⟨c9, s1⟩) ?_
        clear hK K
        (try simp only [Act.put, List.setIfInBounds_toArray, List.set_cons_zero, List.set_cons_succ, List.getElem_toArray, List.getElem_cons_succ, List.getElem_cons_zero])
        refine upTo_one (i := 17) (by kernel_rfl) rfl (fun K hK => ?_)
        go_simp
        refine hK.out _ _ (fun h => absurd rfl h) ?_
        clear hK K
        (try simp only [Act.put, List.setIfInBounds_toArray, List.set_cons_zero, List.set_cons_succ, List.getElem_toArray, List.getElem_cons_succ, List.getElem_cons_zero])
        refine upTo_done (by kernel_rfl) ?_
        go_wp2
        go_roundw
        case rel => exact ⟨k + 1, by omega, by go_num, (HE1.out.trans HN.out).drewE⟩
        case measure => simp [intOf]; omega
    · obtain rfl : k = R.srcs.length := by omega
      have HH : Hid (R1.all = R.all) := by show _ = _; rw [HR1.out]
      go_wp2_with (go_at_call 40; refine (rsettleE b R1 _ HE1.out.mem (by rw [HH.out]; have := HSn.out.all; omega) (by omega) (by rw [HH.out]; exact HSn.out.ts')).mono ?_; rintro e w9 ⟨rfl, hev⟩)
      go_ret
      exact ⟨rfl, by have := HE1.out.trans hev; rw [HR1.out] at this; exact this⟩
end Go.Proofs.YthiabdpgieppoaaGreat
