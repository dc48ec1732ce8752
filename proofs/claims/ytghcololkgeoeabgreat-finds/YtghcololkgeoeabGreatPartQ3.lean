import Derived.Test.YtghcololkgeoeabGreatPartD2
import Derived.Test.YtghcololkgeoeabGreatPartQ4
import Derived.Test.YtghcololkgeoeabGreatPartQ2
import Derived.Test.YtghcololkgeoeabGreatPartA0
import Derived.Test.YtghcololkgeoeabGreatPartD3
namespace Go.Proofs.YtghcololkgeoeabGreat
open Go.RowKit
set_option linter.unusedVariables false
set_option linter.unusedSimpArgs false
attribute [local go_sem ↓] Go.wp_at_zero Go.wp_at_succ
def NtOk (acc : List (Int × Int)) : Prop := (∀ p ∈ acc, 0 ≤ p.2) ∧ (acc[0]?.getD (0, 0)).2 = 0
theorem NtOk.snoc {acc : List (Int × Int)} {q : Int × Int} (h : NtOk acc) (hq : 0 ≤ q.2) (h0 : acc = [] → q.2 = 0) : NtOk (acc ++ [q]) := by
  refine ⟨fun p hp => ?_, ?_⟩
  · rw [List.mem_append, List.mem_singleton] at hp
    rcases hp with hp | rfl
    · exact h.1 p hp
    · exact hq
  · cases acc with
    | nil => exact h0 rfl
    | cons x r => have := h.2; simpa using this
theorem steps_nt : ∀ (n : Nat) (l : List UInt8) (acc : List (Int × Int)), l.length ≤ n → NtOk acc → NtOk (stepsOf acc l).1 := by
  intro n
  induction n with
  | zero =>
    intro l acc hl h
    cases l with
    | nil => simpa [stepsOf] using h
    | cons c r => simp at hl
  | succ n ih =>
    intro l acc hl h
    cases l with
    | nil => simpa [stepsOf] using h
    | cons c r =>
      simp only [List.length_cons] at hl
      rw [stepsOf_cons]
      split
      · exact ih r _ (by omega) (h.snoc (Int.le_refl _) (fun _ => rfl))
      · split
        · rename_i hc
          refine ih _ _ (by simp; omega) (h.snoc ?_ (fun e => ?_))
          · show 0 ≤ byteAt r 0
            unfold byteAt
            exact Int.natCast_nonneg _
          · have := hc.2.2.2; rw [e] at this; simp at this
        · exact h
theorem pat_nt (l : List UInt8) : NtOk (patSteps l) := steps_nt l.length l [] (Nat.le_refl _) ⟨fun p hp => by simp at hp, rfl⟩
theorem pat_win {l : List UInt8} (h : wholeP l) : 0 ≤ patWin l := by
  rcases h with rfl | ⟨_, _, hw⟩
  · simp [patWin, stepsOf, restOf, oneOf, numOf]
  · exact numOf_mono _ 0 (Int.le_refl _) hw.2.2.2.1
theorem pat_len {l : List UInt8} (h : wholeP l) : (patSteps l).length ≤ 3 := by
  rcases h with rfl | ⟨_, h3, _⟩
  · simp [patSteps, stepsOf]
  · exact h3
theorem both_find {N : Nat} {X : Eng} {R : Ref} (h : Both N X R) (h1 : 1 ≤ X.c.ps.length) : X.c.pq.dZ X.log X.log.length = X.c.pq.findL X.log := by
  have hc := h.sim.c
  have hw := h.good.pk.who
  rw [← hc] at hw
  refine dZ_find h1 (pat_len hw) (pat_win hw) (fun i hi => ?_)
  have hn : X.c.pq.nt 0 = 0 := (pat_nt X.c.pat.data.toList).2
  rw [hn]
  have e : evAt X.log i = X.log[i] := by unfold evAt; rw [List.getElem?_eq_getElem hi]; rfl
  rw [e]
  exact h.good.pk.kinds _ (h.sim.perm.mem_iff.1 (List.mem_append_left _ (List.getElem_mem hi)))
theorem both_kinds {N : Nat} {X : Eng} {R : Ref} (h : Both N X R) : ∀ i, i < X.log.length → (evAt X.log i).kind ≠ 0 := by
  intro i hi
  have e : evAt X.log i = X.log[i] := by unfold evAt; rw [List.getElem?_eq_getElem hi]; rfl
  rw [e]
  exact h.good.pk.kinds _ (h.sim.perm.mem_iff.1 (List.mem_append_left _ (List.getElem_mem hi)))
theorem both_ts {N : Nat} {X : Eng} {R : Ref} (h : Both N X R) : TsOk X.log := by
  intro e he
  have h1 := h.good.ts e (h.sim.perm.mem_iff.1 (List.mem_append_left _ he))
  have h2 := h.good.all
  omega
set_option maxRecDepth 100000 in
set_option maxHeartbeats 4000000 in
theorem rmatches_none (P : Pq) (rb : Nat) (sa : Option Addr) (sc : Nat) (ga : Option Addr) (gn gc : Nat) (w : World) (hp0 : w.cell? ⟨rb, 6, none⟩ = some (.slice sa 0 sc)) :
    Calls Tryz.prog 49 #[.pointer (some ⟨rb, 6, none⟩), .slice ga gn gc] w fun e w' => e = .returned (.tuple #[.slice none 0 0, .bool false]) ∧ w = w' := by
  by_cases hg : 0 < gn
  · have hg' : (0 : Int) < (gn : Int) := by omega
    go_enter Tryz.func49, Tryz.ntmps49
    go_wp2
    refine wp_loop_rounds 1 ?_
    rw [rounds_succ]
    go_wp2
    go_ret2
    exact ⟨rfl, rfl⟩
  · have hg' : ¬ (0 : Int) < (gn : Int) := by omega
    have hgd : decide ((0 : Int) < (gn : Int)) = false := by simpa using hg'
    go_enter Tryz.func49, Tryz.ntmps49
    go_wp2
    refine wp_loop_rounds 1 ?_
    rw [rounds_succ]
    go_wp2
    go_ret2
    exact ⟨rfl, rfl⟩
theorem rmatches_both {N : Nat} {X : Eng} {R : Ref} (h : Both N X R) (rb : Nat) (ga : Option Addr) (gc : Nat) (w : World) (hm : MemR w rb R) (hg : Row w 30 5 ga X.log.length gc (evs X.log)) :
    Calls Tryz.prog 49 #[.pointer (some ⟨rb, 6, none⟩), .slice ga X.log.length gc] w fun e w' => ∃ a c ms, e = .returned (.tuple #[.slice a (List.length ms) c, .bool (decide (100 < (X.c.pq.findL X.log).length))]) ∧ LsAt w' w.heap.size a c ms X.c.ps.length ((X.c.pq.findL X.log).take 100) ∧ Below w.heap.size w w' := by
  have hc := h.sim.c
  have hst : R.steps = X.c.ps := by rw [h.good.pk.st, ← hc]; rfl
  have hon : R.one = X.c.same := by rw [h.good.pk.one, ← hc]; rfl
  have hwi : R.win = X.c.win := by rw [h.good.pk.win, ← hc]; rfl
  have c6 := hm.eng.cell 6
  have c7 := hm.eng.cell 7
  have c8 := hm.eng.cell 8
  have e6 : R.vals[6]? = some (.slice R.pa R.steps.length R.pc) := rfl
  have e7 : R.vals[7]? = some (.bool R.one) := rfl
  have e8 : R.vals[8]? = some (.int .i64 R.win) := rfl
  rw [e6, hst] at c6
  rw [e7, hon] at c7
  rw [e8, hwi] at c8
  by_cases h1 : 1 ≤ X.c.ps.length
  · have hw := h.good.pk.who
    rw [← hc] at hw
    have := rmatches_some X.c.pq X.log X.c.ps.length rb R.pa R.pc ga gc w rfl h1 (pat_len hw) h.sane.log (both_ts h) (both_kinds h) (fun k => ?_) hm.eng.lt c6 c7 c8 (StAt.of_row (t := 134) (by have := hm.stp; rw [hst] at this; exact this)) (EvR.of_row hg)
    · rw [both_find h h1] at this
      exact this
    · have hnt := (pat_nt X.c.pat.data.toList).1
      show 0 ≤ (X.c.ps[k]?.getD (0, 0)).2
      cases hk : X.c.ps[k]? with
      | none => simp
      | some p => exact hnt p (List.mem_of_getElem? hk)
  · have h0 : X.c.ps.length = 0 := by omega
    have hf : X.c.pq.findL X.log = [] := by unfold Pq.findL; rw [if_pos (by exact h0)]
    rw [h0] at c6
    refine (rmatches_none X.c.pq rb R.pa R.pc ga X.log.length gc w c6).mono ?_
    rintro e w' ⟨rfl, rfl⟩
    refine ⟨none, 0, [], by rw [hf]; rfl, ?_, Below.refl _ _⟩
    rw [hf]
    exact ⟨Row.nil _ _ _, rfl, fun i m f hm => by simp at hm, fun i j k hi => by cases i <;> simp [bk] at hi, fun k hk => by simp [bk] at hk⟩
set_option maxRecDepth 100000 in
set_option maxHeartbeats 2000000 in
theorem sameInts_eq (f : List Nat) (n : Nat) (a a' : Option Addr) (c c' : Nat) (w : World) (hf : f.length = n) (h : Row w 3 1 a n c (natV f)) (h' : Row w 3 1 a' n c' (natV f)) (hl : n ≤ 100000) :
    Calls Tryz.prog 50 #[.slice a n c, .slice a' n c'] w fun e w' => e = .returned (.bool true) ∧ ∃ n, w' = w.drewN n := by
  have HR : Hid (Row w 3 1 a n c (natV f)) := h
  have HR' : Hid (Row w 3 1 a' n c' (natV f)) := h'
  have HF : Hid (f.length = n) := hf
  clear h h' hf
  go_enter Tryz.func50, Tryz.ntmps50
  go_wp2
  go_loopw [5] (fun i wr => ∃ (k m : Nat), k ≤ n ∧ i = .int .i64 k ∧ wr = w.drewN m) (fun i _ => n - (intOf i).toNat)
  case atStart => exact ⟨0, 0, Nat.zero_le _, rfl, rfl⟩
  case round =>
    obtain ⟨k, m, hk, rfl, hwr⟩ := hrel
    have HRr : Hid (Row wr 3 1 a n c (natV f)) := by show Row _ _ _ _ _ _ _; rw [hwr]; exact HR.out
    have HRr' : Hid (Row wr 3 1 a' n c' (natV f)) := by show Row _ _ _ _ _ _ _; rw [hwr]; exact HR'.out
    have HW : Hid (wr = w.drewN m) := hwr
    clear hwr
    by_cases hlt : k < n
    · have hlt' : (k : Int) < (n : Int) := by omega
      have hk0 : (0 : Int) ≤ (k : Int) := by omega
      have hkf : k < f.length := by rw [HF.out]; exact hlt
      obtain ⟨g, hg, hn1, _, hc, _⟩ := HRr.out.form (by omega)
      obtain ⟨g', hg', hn2, _, hc', _⟩ := HRr'.out.form (by omega)
      have x0 := hc k (by omega)
      have y0 := hc' k (by omega)
      have e : (natV f)[k]? = some (.int .i64 (f[k] : Nat)) := by simp [natV, List.getElem?_eq_getElem hkf]
      rw [e] at x0 y0
      obtain ⟨v, HV⟩ := hex f[k]
      rw [← HV.out] at x0 y0
      subst hg
      subst hg'
      clear hc hc' e HV
      go_wp2
      go_quiet (fail)
      go_wp2
      go_roundw
      case rel => exact ⟨k + 1, m + _, by omega, by go_num, by rw [HW.out, drewN2]⟩
      case measure => simp [intOf]; omega
    · have hlt' : ¬ (k : Int) < (n : Int) := by omega
      go_wp2
      go_ret
      exact ⟨rfl, m, HW.out⟩


set_option maxRecDepth 100000 in
set_option maxHeartbeats 8000000 in
theorem foundZ_true (N : Nat) (wb xb rb : Nat) (X : Eng) (R : Ref) (a : Option Addr) (c : Nat) (l : Lz) (w : World) (h : WInv w wb xb rb X R a c l) (hb : Both N X R) (hl : l.length ≤ 30000000000) :
    Calls Tryz.prog 21 #[.pointer (some ⟨wb, 0, none⟩)] w fun e w' => e = .returned (.bool true) ∧ ∃ l', WInv w' wb xb rb X R a c l' ∧ l'.length = l.length + 1 ∧ Kept (fun k => k = wb ∨ bk l.ia = some k ∨ bk l.oa = some k) w w' ∧ ∀ k, (bk l'.ia = some k ∨ bk l'.oa = some k) → (bk l.ia = some k ∨ bk l.oa = some k) ∨ w.heap.size ≤ k := by
  have hp3 : X.c.ps.length ≤ 3 := by
    have hw := hb.good.pk.who
    rw [← hb.sim.c] at hw
    exact pat_len hw
  obtain ⟨F, HF⟩ := hex ((X.c.pq.findL X.log).take 100)
  obtain ⟨mo, HMo⟩ := hex (decide (100 < (X.c.pq.findL X.log).length))
  obtain ⟨np, HNp⟩ := hex X.c.ps.length
  have hX : Calls Tryz.prog 48 #[.pointer (some ⟨xb, 0, none⟩)] w fun e w' => ∃ a c ms, e = .returned (.tuple #[.slice a (List.length ms) c, .bool mo]) ∧ LsAt w' w.heap.size a c ms np F ∧ Below w.heap.size w w' := by
    rw [HF.out, HMo.out, HNp.out]; exact xmatches_any xb X w h.mx hp3 hb.sane.log (both_ts hb)
  have HRl : Hid (∀ u, MemR u rb R → Calls Tryz.prog 18 #[.pointer (some ⟨rb, 0, none⟩)] u fun e w' => ∃ (ga : Option Addr) (gc : Nat), e = .returned (.slice ga X.log.length gc) ∧ Row w' 30 5 ga X.log.length gc (evs X.log) ∧ Below u.heap.size u w') := by
    intro u hu
    refine (rlog_any rb R u hu hb.all).mono ?_
    rintro e w' ⟨n, ga, gc, hbt, rfl, h1, h2⟩
    rw [sim_log hb.sim n hbt] at h1
    rw [sim_log hb.sim n hbt]
    exact ⟨ga, gc, rfl, toRow h1, h2⟩
  have HRm : Hid (∀ u (ga : Option Addr) (gc : Nat), MemR u rb R → Row u 30 5 ga X.log.length gc (evs X.log) → Calls Tryz.prog 49 #[.pointer (some ⟨rb, 6, none⟩), .slice ga X.log.length gc] u fun e w' => ∃ a c ms, e = .returned (.tuple #[.slice a (List.length ms) c, .bool mo]) ∧ LsAt w' u.heap.size a c ms np F ∧ Below u.heap.size u w') := by
    intro u ga gc hu hr
    rw [HF.out, HMo.out, HNp.out]; exact rmatches_both hb rb ga gc u hu hr
  have HFl : Hid (F.length ≤ 100) := by show _ ≤ _; rw [HF.out]; simp; omega
  have hnp : np ≤ 3 := by rw [HNp.out]; exact hp3
  have HI : Hid (WInv w wb xb rb X R a c l) := h
  have b0 := h.blk.cell 0
  simp only [List.getElem?_cons_zero, List.getElem?_cons_succ] at b0
  clear h hb hp3 HF HMo HNp
  go_enter Tryz.func21, Tryz.ntmps21
  go_upto_region 2 with (go_at_call 48; refine hX.mono ?_; rintro e w1 ⟨la, lc, ms, rfl, hls1, hb1⟩)
  have HL1 : Hid (LsAt w1 w.heap.size la lc ms np F) := hls1
  have HB1 : Hid (Below w.heap.size w w1) := hb1
  have HI1 : Hid (WInv w1 wb xb rb X R a c l) := HI.out.below hb1
  have HMl : Hid (ms.length = F.length) := hls1.len
  clear hls1 hb1 hX b0
  have b1 := HI1.out.blk.cell 1
  simp only [List.getElem?_cons_zero, List.getElem?_cons_succ] at b1
  refine upTo_region (fun u : World => u.cell? ⟨wb, 1, none⟩ = some (.pointer (some ⟨rb, 0, none⟩))) 17 17 rfl (by kernel_rfl) ?_
  have hS0 : (fun u : World => u.cell? ⟨wb, 1, none⟩ = some (.pointer (some ⟨rb, 0, none⟩))) w1.drew := b1
  refine upTo_tk2 (i := 0) (v := ?v51_0) rfl (by kernel_rfl) rfl (fun _ _ _ h => h) (by rfl) hS0 ?h51_0 ?r51_0
  case h51_0 => (intro u hu; (try dsimp only at hu); go_simp; first | done | with_reducible rfl)
  (try simp only [Act.put, tkS])
  refine upTo_tk2 (i := 1) (v := ?v51_1) rfl (by kernel_rfl) rfl (fun _ _ _ h => h) (by rfl) hS0 ?h51_1 ?r51_1
  case h51_1 => (intro u hu; (try dsimp only at hu); go_simp; first | done | with_reducible rfl)
  (try simp only [Act.put, tkS])
  refine upTo_tk2 (i := 2) (v := ?v51_2) rfl (by kernel_rfl) rfl (fun _ _ _ h => h) (by rfl) hS0 ?h51_2 ?r51_2
  case h51_2 => (intro u hu; (try dsimp only at hu); go_simp; first | done | with_reducible rfl)
  (try simp only [Act.put, tkS])
  refine upTo_tk2 (i := 3) (v := ?v51_3) rfl (by kernel_rfl) rfl (fun _ _ _ h => h) (by rfl) hS0 ?h51_3 ?r51_3
  case h51_3 => (intro u hu; (try dsimp only at hu); go_simp; first | done | with_reducible rfl)
  (try simp only [Act.put, tkS])
  refine upTo_tk2 (i := 4) (v := ?v51_4) rfl (by kernel_rfl) rfl (fun _ _ _ h => h) (by rfl) hS0 ?h51_4 ?r51_4
  case h51_4 => (intro u hu; (try dsimp only at hu); go_simp; first | done | with_reducible rfl)
  (try simp only [Act.put, tkS])
  refine upTo_tk2 (i := 5) (v := ?v51_5) rfl (by kernel_rfl) rfl (fun _ _ _ h => h) (by rfl) hS0 ?h51_5 ?r51_5
  case h51_5 => (intro u hu; (try dsimp only at hu); go_simp; first | done | with_reducible rfl)
  (try simp only [Act.put, tkS])
  refine upTo_tk2 (i := 6) (v := ?v51_6) rfl (by kernel_rfl) rfl (fun _ _ _ h => h) (by rfl) hS0 ?h51_6 ?r51_6
  case h51_6 => (intro u hu; (try dsimp only at hu); go_simp; first | done | with_reducible rfl)
  (try simp only [Act.put, tkS])
  refine upTo_tk2 (i := 7) (v := ?v51_7) rfl (by kernel_rfl) rfl (fun _ _ _ h => h) (by rfl) hS0 ?h51_7 ?r51_7
  case h51_7 => (intro u hu; (try dsimp only at hu); go_simp; first | done | with_reducible rfl)
  (try simp only [Act.put, tkS])
  refine upTo_tk2 (i := 8) (v := ?v51_8) rfl (by kernel_rfl) rfl (fun _ _ _ h => h) (by rfl) hS0 ?h51_8 ?r51_8
  case h51_8 => (intro u hu; (try dsimp only at hu); go_simp; first | done | with_reducible rfl)
  (try simp only [Act.put, tkS])
  refine upTo_tk2 (i := 9) (v := ?v51_9) rfl (by kernel_rfl) rfl (fun _ _ _ h => h) (by rfl) hS0 ?h51_9 ?r51_9
  case h51_9 => (intro u hu; (try dsimp only at hu); go_simp; first | done | with_reducible rfl)
  (try simp only [Act.put, tkS])
  clear hS0 b1
  refine upTo_one (i := 10) (by kernel_rfl) rfl (fun K hK => ?_)
  go_simp
  refine (HRl.out _ HI1.out.mr.drew).mono ?_
  rintro e w2 ⟨ga, gc, rfl, hr2, hb2⟩
  have HB2 : Hid (Below w1.heap.size w1 w2) := ⟨hb2.os, hb2.tape, hb2.output, hb2.size, hb2.block⟩
  have HR2 : Hid (Row w2 30 5 ga X.log.length gc (evs X.log)) := hr2
  have HI2 : Hid (WInv w2 wb xb rb X R a c l) := HI1.out.below HB2.out
  clear hr2 hb2
  refine hK.out _ _ (fun _ => HI2.out.blk.cell 1) ?_
  clear hK K
  (try simp only [Act.put, tkS])
  refine upTo_one (i := 11) (by kernel_rfl) rfl (fun K hK => ?_)
  go_simp
  refine (HRm.out _ ga gc HI2.out.mr HR2.out).mono ?_
  rintro e w3 ⟨ra, rc, mr, rfl, hls3, hb3⟩
  have HL3 : Hid (LsAt w3 w2.heap.size ra rc mr np F) := hls3
  have HB3 : Hid (Below w2.heap.size w2 w3) := hb3
  have HI3 : Hid (WInv w3 wb xb rb X R a c l) := HI2.out.below hb3
  have HL13 : Hid (LsAt w3 w.heap.size la lc ms np F) := (HL1.out.below HB2.out).below hb3
  have HMr : Hid (mr.length = F.length) := hls3.len
  clear hls3 hb3
  refine hK.out _ _ (fun _ => HI3.out.blk.cell 1) ?_
  clear hK K
  (try simp only [Act.put, tkS])
  have hS0 : (fun u : World => u.cell? ⟨wb, 1, none⟩ = some (.pointer (some ⟨rb, 0, none⟩))) w3 := HI3.out.blk.cell 1
  refine upTo_tk2 (i := 12) (v := ?v52_12) rfl (by kernel_rfl) rfl (fun _ _ _ h => h) (by rfl) hS0 ?h52_12 ?r52_12
  case h52_12 => (intro u hu; (try dsimp only at hu); go_simp; first | done | with_reducible rfl)
  (try simp only [Act.put, tkS])
  refine upTo_tk2 (i := 13) (v := ?v52_13) rfl (by kernel_rfl) rfl (fun _ _ _ h => h) (by rfl) hS0 ?h52_13 ?r52_13
  case h52_13 => (intro u hu; (try dsimp only at hu); go_simp; first | done | with_reducible rfl)
  (try simp only [Act.put, tkS])
  refine upTo_tk2 (i := 14) (v := ?v52_14) rfl (by kernel_rfl) rfl (fun _ _ _ h => h) (by rfl) hS0 ?h52_14 ?r52_14
  case h52_14 => (intro u hu; (try dsimp only at hu); go_simp; first | done | with_reducible rfl)
  (try simp only [Act.put, tkS])
  refine upTo_one (i := 15) (by kernel_rfl) rfl (fun K hK => ?_)
  go_simp
  refine hK.out _ _ (fun _ => HI3.out.blk.cell 1) ?_
  clear hK K
  (try simp only [Act.put, tkS])
  refine upTo_one (i := 16) (by kernel_rfl) rfl (fun K hK => ?_)
  go_simp
  refine hK.out _ _ (fun _ => HI3.out.blk.cell 1) ?_
  clear hK K
  (try simp only [Act.put, tkS])
  refine upTo_done (by kernel_rfl) ?_
  clear hS0
  obtain ⟨fl, HFL⟩ := hex F.length
  have hml : ms.length = fl := HMl.out.trans HFL.out.symm
  have hmr : mr.length = fl := HMr.out.trans HFL.out.symm
  have hfl : fl ≤ 100 := by rw [HFL.out]; exact HFl.out
  rw [hml, hmr]
  have HLL : Hid (ms.length = fl ∧ mr.length = fl) := ⟨hml, hmr⟩
  clear hml hmr
  go_wp2
  go_loopw [7] (fun iv wr => ∃ (i m : Nat), i ≤ fl ∧ iv = .int .i64 i ∧ wr = w3.drewN m) (fun iv _ => fl - (intOf iv).toNat)
  case atStart => exact ⟨0, 0, Nat.zero_le _, rfl, rfl⟩
  case round =>
    obtain ⟨i, m, hi, rfl, hwr⟩ := hrel
    have HBd : Hid (Below w3.heap.size w3 wr) := by show Below _ _ _; rw [hwr]; exact bdrewN (Below.refl _ _) m
    have HW : Hid (wr = w3.drewN m) := hwr
    clear hwr
    by_cases hlt : i < fl
    · have hlt' : (i : Int) < (fl : Int) := by omega
      have hi0 : (0 : Int) ≤ (i : Int) := by omega
      have HLa : Hid (LsAt wr w.heap.size la lc ms np F) := HL13.out.below HBd.out
      have HLb : Hid (LsAt wr w2.heap.size ra rc mr np F) := HL3.out.below HBd.out
      have him : i < ms.length := by rw [HLL.out.1]; exact hlt
      have hir : i < mr.length := by rw [HLL.out.2]; exact hlt
      have hif : i < F.length := by rw [← HMl.out]; exact him
      obtain ⟨g1, hg1, _, _, hc1, _⟩ := HLa.out.row.form (by omega)
      obtain ⟨g2, hg2, _, _, hc2, _⟩ := HLb.out.row.form (by omega)
      have x0 := hc1 i (by omega)
      have y0 := hc2 i (by omega)
      rw [List.getElem?_map, List.getElem?_eq_getElem him, Option.map_some] at x0
      rw [List.getElem?_map, List.getElem?_eq_getElem hir, Option.map_some] at y0
      have HE1 : Hid (F[i].length = np ∧ Row wr 3 1 (some ⟨ms[i].1, 0, none⟩) np ms[i].2 (natV F[i])) := HLa.out.each i _ _ (List.getElem?_eq_getElem him) (List.getElem?_eq_getElem hif)
      have HE2 : Hid (F[i].length = np ∧ Row wr 3 1 (some ⟨mr[i].1, 0, none⟩) np mr[i].2 (natV F[i])) := HLb.out.each i _ _ (List.getElem?_eq_getElem hir) (List.getElem?_eq_getElem hif)
      obtain ⟨m1, HM1⟩ := hex ms[i]
      obtain ⟨m2, HM2⟩ := hex mr[i]
      obtain ⟨f, HFi⟩ := hex F[i]
      rw [← HM1.out, ← HFi.out] at HE1
      rw [← HM2.out, ← HFi.out] at HE2
      rw [← HM1.out] at x0
      rw [← HM2.out] at y0
      rw [hg1, hg2]
      have HG12 : Hid (la = some ⟨g1, 0, none⟩ ∧ ra = some ⟨g2, 0, none⟩) := ⟨hg1, hg2⟩
      clear hg1 hg2 hc1 hc2 HM1 HM2 HFi HLa HLb
      go_upto_region 8 with fail
      refine upTo_region (fun u : World => u.cell? ⟨g1, i, none⟩ = some (.slice (some ⟨m1.1, 0, none⟩) np m1.2) ∧ u.cell? ⟨g2, i, none⟩ = some (.slice (some ⟨m2.1, 0, none⟩) np m2.2)) 10 10 rfl (by kernel_rfl) ?_
      have hS0 : (fun u : World => u.cell? ⟨g1, i, none⟩ = some (.slice (some ⟨m1.1, 0, none⟩) np m1.2) ∧ u.cell? ⟨g2, i, none⟩ = some (.slice (some ⟨m2.1, 0, none⟩) np m2.2)) wr.drew := ⟨x0, y0⟩
      refine upTo_tk2 (i := 0) (v := ?v53_0) rfl (by kernel_rfl) rfl (fun _ _ _ h => h) (by rfl) hS0 ?h53_0 ?r53_0
      case h53_0 => (intro u hu; (try dsimp only at hu); go_simp; first | done | with_reducible rfl)
      (try simp only [Act.put, tkS])
      refine upTo_tk2 (i := 1) (v := ?v53_1) rfl (by kernel_rfl) rfl (fun _ _ _ h => h) (by rfl) hS0 ?h53_1 ?r53_1
      case h53_1 => (intro u hu; (try dsimp only at hu); go_simp; first | done | with_reducible rfl)
      (try simp only [Act.put, tkS])
      refine upTo_tk2 (i := 2) (v := ?v53_2) rfl (by kernel_rfl) rfl (fun _ _ _ h => h) (by rfl) hS0 ?h53_2 ?r53_2
      case h53_2 => (intro u hu; (try dsimp only at hu); go_simp; first | done | with_reducible rfl)
      (try simp only [Act.put, tkS])
      refine upTo_tk2 (i := 3) (v := ?v53_3) rfl (by kernel_rfl) rfl (fun _ _ _ h => h) (by rfl) hS0 ?h53_3 ?r53_3
      case h53_3 => (intro u hu; (try dsimp only at hu); go_simp; first | done | with_reducible rfl)
      (try simp only [Act.put, tkS])
      refine upTo_tk2 (i := 4) (v := ?v53_4) rfl (by kernel_rfl) rfl (fun _ _ _ h => h) (by rfl) hS0 ?h53_4 ?r53_4
      case h53_4 => (intro u hu; (try dsimp only at hu); go_simp; first | done | with_reducible rfl)
      (try simp only [Act.put, tkS])
      refine upTo_tk2 (i := 5) (v := ?v53_5) rfl (by kernel_rfl) rfl (fun _ _ _ h => h) (by rfl) hS0 ?h53_5 ?r53_5
      case h53_5 => (intro u hu; (try dsimp only at hu); go_simp; first | done | with_reducible rfl)
      (try simp only [Act.put, tkS])
      refine upTo_tk2 (i := 6) (v := ?v53_6) rfl (by kernel_rfl) rfl (fun _ _ _ h => h) (by rfl) hS0 ?h53_6 ?r53_6
      case h53_6 => (intro u hu; (try dsimp only at hu); go_simp; first | done | with_reducible rfl)
      (try simp only [Act.put, tkS])
      refine upTo_tk2 (i := 7) (v := ?v53_7) rfl (by kernel_rfl) rfl (fun _ _ _ h => h) (by rfl) hS0 ?h53_7 ?r53_7
      case h53_7 => (intro u hu; (try dsimp only at hu); go_simp; first | done | with_reducible rfl)
      (try simp only [Act.put, tkS])
      clear hS0
      refine upTo_one (i := 8) (by kernel_rfl) rfl (fun K hK => ?_)
      go_simp
      refine (sameInts_eq f np (some ⟨m1.1, 0, none⟩) (some ⟨m2.1, 0, none⟩) m1.2 m2.2 wr.drew HE1.out.1 HE1.out.2.drew HE2.out.2.drew (by omega)).mono ?_
      rintro e w4 ⟨rfl, nq, hq⟩
      have HQ : Hid (w4 = wr.drew.drewN nq) := hq
      have z0 : (fun u : World => u.cell? ⟨g1, i, none⟩ = some (.slice (some ⟨m1.1, 0, none⟩) np m1.2) ∧ u.cell? ⟨g2, i, none⟩ = some (.slice (some ⟨m2.1, 0, none⟩) np m2.2)) w4 := by rw [hq]; exact ⟨x0, y0⟩
      clear hq
      refine hK.out _ _ (fun _ => z0) ?_
      clear hK K
      (try simp only [Act.put, tkS])
      refine upTo_one (i := 9) (by kernel_rfl) rfl (fun K hK => ?_)
      go_simp
      refine hK.out _ _ (fun _ => z0) ?_
      clear hK K
      (try simp only [Act.put, tkS])
      refine upTo_done (by kernel_rfl) ?_
      clear z0 x0 y0
      have HQ2 : Hid (∃ m', w4 = w3.drewN m') := ⟨m + (1 + nq), by rw [HQ.out, HW.out]; simp [World.drewN, World.drew, Nat.add_assoc]⟩
      go_wp2
      go_roundw
      case rel =>
        obtain ⟨m', hm'⟩ := HQ2.out
        exact ⟨i + 1, m', by omega, by go_num, hm'⟩
      case measure => simp [intOf]; omega
    · have hlt' : ¬ (i : Int) < (fl : Int) := by omega
      have HI4 : Hid (WInv wr wb xb rb X R a c l) := HI3.out.below HBd.out
      have HL4 : Hid (LsAt wr w.heap.size la lc ms np F) := HL13.out.below HBd.out
      have HB4 : Hid (Below w.heap.size w wr) := by
        have h1 := HB1.out
        have h2 := h1.trans (HB2.out.mono h1.size)
        have h3 := h2.trans (HB3.out.mono h2.size)
        exact h3.trans (HBd.out.mono h3.size)
      have HDl : Hid (OLd wr wb l.ia l.i l.oa l.o w.heap.size) := by
        have hi := HI.out
        have hz := hi.ls.zfp_lt
        refine ⟨HB4.out.size, hi.blk.lt, fun x hx => ?_, fun x hx => ⟨(hi.ls.di x hx).2.2.1, (hi.ls.di x hx).1, (hi.ls.di x hx).2.2.2⟩, fun x hx => ⟨(hi.ls.do_ x hx).2.1, (hi.ls.do_ x hx).2.2⟩⟩
        have hm : some x ∈ zfp l := by
          rcases hx with e | e | e | e
          · exact zfp_ia e
          · exact zfp_i e
          · exact zfp_oa e
          · exact zfp_o e
        exact ⟨hz x hm, fun e => hi.d4 (e ▸ hm)⟩
      have hol : Calls Tryz.prog 51 #[.pointer (some ⟨wb, 0, none⟩), .slice la fl lc] wr fun e w' => e = .returned (.tuple #[]) ∧ OwnedL wr w' wb (.pointer (some ⟨xb, 0, none⟩)) (.pointer (some ⟨rb, 0, none⟩)) (.slice a l.e.length c) l.ia l.i l.oa l.o w.heap.size ms.length := by
        have hnum := HI4.out.ls.num
        have hle : l.o.length ≤ 30000000000 := by unfold Lz.length at hl; omega
        have := ownL_any wb (.pointer (some ⟨xb, 0, none⟩)) (.pointer (some ⟨rb, 0, none⟩)) (.slice a l.e.length c) l.ia l.ic l.i l.oa l.oc l.o la lc ms np F w.heap.size wr HI4.out.blk HI4.out.ls.li HI4.out.ls.lo (by omega) (by omega) HL4.out hnp (by rw [HLL.out.1]; exact hfl) HDl.out
        rw [HLL.out.1] at this ⊢
        exact this
      go_wp2_with (go_at_call 51; refine hol.mono ?_; rintro e w5 ⟨rfl, hown⟩)
      go_ret
      have hHall : ∀ k, (k = wb ∨ bk a = some k ∨ some k ∈ zfp l ∨ some k ∈ X.fp xb ∨ some k ∈ R.fp rb) → k < w.heap.size := by
        have hi := HI.out
        rintro k (e | e | e | e | e)
        · rw [e]; exact hi.blk.lt
        · exact hi.ls.le.row.lt e
        · exact hi.ls.zfp_lt k e
        · exact hi.mx.fp_lt k e
        · exact hi.mr.fp_lt k e
      obtain ⟨l', hI', hlen, hK, hz⟩ := HI4.out.lists hHall (by rw [HLL.out.1]; exact hfl) hown
      have hs4 := HB4.out.size
      refine ⟨rfl, l', hI', hlen, (below_kept HB4.out _).trans' hK (fun k hk e => ?_), fun k e => (hz k e).imp id (fun f => by omega)⟩
      rcases e with e | e | e | e
      · exact Or.inl e
      · exact Or.inr (Or.inl e)
      · exact Or.inr (Or.inr e)
      · omega
set_option maxRecDepth 100000 in
set_option maxHeartbeats 2000000 in
theorem asks_found (A : Int) (E : Ev) (S : ByteArray) (N : Nat) (w0 w : World) (wb xb rb : Nat) (X : Eng) (R : Ref) (a : Option Addr) (c : Nat) (l : Lz) (h : PInv w0 w wb xb rb X R a c l) (hb : Both N X R) (hl : l.length ≤ 30000000000) :
    Calls Tryz.prog 6 #[.pointer (some ⟨wb, 0, none⟩), opVal 11 A E S] w fun e w' => e = .returned (.bool true) ∧ ∃ a' c' l', l'.length ≤ l.length + 1 ∧ PInv w0 w' wb xb rb X R a' c' l' := by
  obtain ⟨p0, HW1⟩ := hex (w.alloc (.cells (opCells 11 A E S).toArray 32))
  have HBp0 : Hid (Below w.heap.size w p0) := by show Below _ _ _; rw [HW1.out]; exact (Below.refl _ _).alloc (Nat.le_refl _) _
  have HIp0 : Hid (PInv w0 p0 wb xb rb X R a c l) := h.below HBp0.out
  obtain ⟨ob, HOb⟩ := hex w.heap.size
  have HOp0 : Hid (Blk p0 ob 32 (opCells 11 A E S)) := by show Blk _ _ _ _; rw [HW1.out, HOb.out]; exact blk_alloc _ _ _
  have hw1 : w.alloc (.cells #[.int .i64 11, .int .i64 A, .int .i64 E.src, .int .i64 E.seq, .int .i64 E.ts, .int .i64 E.kind, .int .i64 E.val, .string S] 32) = p0 := HW1.out.symm
  have hfo : Calls Tryz.prog 21 #[.pointer (some ⟨wb, 0, none⟩)] p0 fun e w' => e = .returned (.bool true) ∧ ∃ l', l'.length ≤ l.length + 1 ∧ PInv w0 w' wb xb rb X R a c l' := by
    refine (foundZ_true N wb xb rb X R a c l p0 HIp0.out.inv hb hl).mono ?_
    rintro e w' ⟨he, l', hI, hlen, hK, hz⟩
    exact ⟨he, l', Nat.le_of_eq hlen, HIp0.out.owned hI (hK.mono (fun k _ e => by rcases e with e | e | e <;> simp_all)) (fun k e => Or.inl e) hz⟩
  clear hb hl
  unfold opVal
  go_enter Tryz.func6, Tryz.ntmps6
  go_upto_region 1 with fail
  rw [← HOb.out]
  clear hw1 HW1 h
  have o0 := HOp0.out.cell 0
  simp only [opCells, List.getElem?_cons_zero, List.getElem?_cons_succ] at o0
  go_wp2_with (go_at_call 21; refine hfo.mono ?_; rintro e w' ⟨rfl, l', hl', hP⟩)
  go_ret
  exact ⟨rfl, a, c, l', hl', hP⟩
end Go.Proofs.YtghcololkgeoeabGreat
namespace Go.Proofs.YtghcololkgeoeabGreat
open Go.RowKit
set_option linter.unusedVariables false
set_option linter.unusedSimpArgs false
attribute [local go_sem ↓] Go.wp_at_zero Go.wp_at_succ
set_option maxRecDepth 100000 in
set_option maxHeartbeats 4000000 in
theorem does_found (N : Nat) (w0 w : World) (wb xb rb : Nat) (X : Eng) (R : Ref) (a : Option Addr) (c : Nat) (l : Lz) (A : Int) (E : Ev) (S : ByteArray) (h : PInv w0 w wb xb rb X R a c l) (hb : Both N X R) (hl : l.length ≤ 30000000000) :
    Calls Tryz.prog 7 #[.pointer (some ⟨wb, 0, none⟩), opVal 11 A E S] w fun e w' => e = .returned (.bool true) ∧ ∃ a' c' l', l'.length ≤ l.length + 1 ∧ PInv w0 w' wb xb rb X R a' c' l' := by
  have HAs : Hid (∀ u, PInv w0 u wb xb rb X R a c l → Calls Tryz.prog 6 #[.pointer (some ⟨wb, 0, none⟩), opVal 11 A E S] u fun e w' => e = .returned (.bool true) ∧ ∃ a' c' l', l'.length ≤ l.length + 1 ∧ PInv w0 w' wb xb rb X R a' c' l') := fun u hu => asks_found A E S N w0 u wb xb rb X R a c l hu hb hl
  clear hb hl
  obtain ⟨p0, HW1⟩ := hex (w.alloc (.cells (opCells 11 A E S).toArray 32))
  have HBp0 : Hid (Below w.heap.size w p0) := by show Below _ _ _; rw [HW1.out]; exact (Below.refl _ _).alloc (Nat.le_refl _) _
  have HIp0 : Hid (PInv w0 p0 wb xb rb X R a c l) := h.below HBp0.out
  obtain ⟨ob, HOb⟩ := hex w.heap.size
  have HOp0 : Hid (Blk p0 ob 32 (opCells 11 A E S)) := by show Blk _ _ _ _; rw [HW1.out, HOb.out]; exact blk_alloc _ _ _
  have HNx : Hid (some ob ∉ X.fp xb ∧ some ob ∉ R.fp rb) := ⟨fun e => by have := h.inv.mx.fp_lt _ e; have := HOb.out; omega, fun e => by have := h.inv.mr.fp_lt _ e; have := HOb.out; omega⟩
  have hw1 : w.alloc (.cells #[.int .i64 11, .int .i64 A, .int .i64 E.src, .int .i64 E.seq, .int .i64 E.ts, .int .i64 E.kind, .int .i64 E.val, .string S] 32) = p0 := HW1.out.symm
  unfold opVal
  go_enter Tryz.func7, Tryz.ntmps7
  go_upto_region 1 with fail
  rw [← HOb.out]
  clear hw1 HW1 h
  have o0 := HOp0.out.cell 0
  simp only [opCells, List.getElem?_cons_zero, List.getElem?_cons_succ] at o0
  have o1 := HOp0.out.cell 1
  have o2 := HOp0.out.cell 2
  have o3 := HOp0.out.cell 3
  have o4 := HOp0.out.cell 4
  have o5 := HOp0.out.cell 5
  have o6 := HOp0.out.cell 6
  have o7 := HOp0.out.cell 7
  simp only [opCells, List.getElem?_cons_zero, List.getElem?_cons_succ] at o1 o2 o3 o4 o5 o6 o7
  unfold opVal at HAs
  go_wp2_with (go_at_call 6; refine (HAs.out _ HIp0.out).mono ?_; rintro e w2 ⟨rfl, hres⟩)
  go_ret
  exact ⟨rfl, hres⟩
end Go.Proofs.YtghcololkgeoeabGreat
