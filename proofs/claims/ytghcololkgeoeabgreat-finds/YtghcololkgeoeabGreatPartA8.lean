import Derived.Test.YtghcololkgeoeabGreatPartA7
namespace Go.Proofs.YtghcololkgeoeabGreat
open Go.RowKit
set_option linter.unusedVariables false
set_option linter.unusedSimpArgs false
attribute [local go_sem ↓] Go.wp_at_zero Go.wp_at_succ


set_option maxRecDepth 100000 in
set_option maxHeartbeats 4000000 in
theorem rpush_wrong (b : Nat) (R : Ref) (i : Nat) (E : Ev) (w : World) (hM : MemR w b R) (hi : i < R.srcs.length) (hw : wrongOf R.srcs[i] E ≠ 0) :
    Calls Tryz.prog 27 #[.pointer (some ⟨b, 0, none⟩), .int .i64 i, E.agg] w fun e w' => e = .returned (.int .i64 (wrongOf R.srcs[i] E)) ∧ Below w.heap.size w w' := by
  have hw' : (wrongOf R.srcs[i] E != 0) = true := by simpa using hw
  generalize hW : wrongOf R.srcs[i] E = W at *
  have HW : Hid (wrongOf R.srcs[i] E = W) := hW
  clear hw hW
  have HA : ∀ o, MemR (w.alloc o) b R := fun o => hM.alloc o
  unfold Ev.agg
  go_enter Tryz.func27, Tryz.ntmps27
  go_wp2_with (go_at_call 63; refine (rwrong_some b R i E _ (HA _) hi).mono ?_; rintro e w2 ⟨rfl, hb2⟩; rw [HW.out])
  go_ret
  exact ⟨rfl, ((Below.refl _ _).alloc (Nat.le_refl _) _).trans (hb2.mono (by simp))⟩
set_option maxRecDepth 100000 in
set_option maxHeartbeats 1000000 in
theorem rpush_none (b : Nat) (R : Ref) (s : Int) (E : Ev) (w : World) (hM : MemR w b R) (hs : s < 0 ∨ (R.srcs.length : Int) ≤ s) :
    Calls Tryz.prog 27 #[.pointer (some ⟨b, 0, none⟩), .int .i64 s, E.agg] w fun e w' => e = .returned (.int .i64 3) ∧ Below w.heap.size w w' := by
  have HA : ∀ o, MemR (w.alloc o) b R := fun o => hM.alloc o
  unfold Ev.agg
  go_enter Tryz.func27, Tryz.ntmps27
  go_wp2_with (go_at_call 63; refine (rwrong_none b R s E _ (HA _) hs).mono ?_; rintro e w2 ⟨rfl, hb2⟩)
  go_ret
  exact ⟨rfl, ((Below.refl _ _).alloc (Nat.le_refl _) _).trans (hb2.mono (by simp))⟩

theorem push_close {R R1 RZ R5 R6 : Ref} {i : Nat} {E EE : Ev} {r1 : RSrc} {st late : Bool} {qa : Option Addr} {qc : Nat} (hi : i < R.srcs.length)
    (hr0 : r1 = { R.srcs[i] with sil := 0, marks := if R.isIdle i then R.srcs[i].marks ++ [R.merged] else R.srcs[i].marks, ma := r1.ma, mc := r1.mc }) (hR1 : R1 = { R with srcs := R.srcs.set i r1 }) (hi1 : i < R1.srcs.length)
    (hRZ : RZ = { R1 with srcs := R1.srcs.set i { R1.srcs[i] with seqs := R1.srcs[i].seqs ++ [EE.seq], qa := qa, qc := qc } }) (hpl : Placed RZ st EE R5) (hi5 : i < R5.srcs.length)
    (h6 : (late = true ∧ R6 = R5) ∨ (late = false ∧ ∃ ma mc, R6 = { R5 with srcs := R5.srcs.set i { R5.srcs[i] with marks := R5.srcs[i].marks ++ [EE.ts - R5.c.slack], ma := ma, mc := mc } }))
    (hEE : EE = R.taken i E) (hst : R.stays i E = st) (hlate : R.late i E = late) : PushOk R i E R6.settled := by
  have hseq : EE.seq = E.seq := by rw [hEE]; rfl
  have eR1 : R1.srcs[i] = r1 := by subst hR1; simp
  have eZ : RZ = { R with srcs := R.srcs.set i { r1 with seqs := r1.seqs ++ [E.seq], qa := qa, qc := qc } } := by
    rw [hRZ, eR1, hR1, hseq]
    simp [List.set_set]
  have e1 : r1.seqs = R.srcs[i].seqs := by rw [hr0]
  have e2 : r1.marks = R.touched i R.srcs[i] := by rw [hr0]; rfl
  have hsrc : ∀ ma mc (ms : List Int), ms = (if R.late i E then R.touched i R.srcs[i] else R.touched i R.srcs[i] ++ [(R.taken i E).ts - R.c.slack]) → ({ r1 with marks := ms, ma := ma, mc := mc, seqs := r1.seqs ++ [E.seq], qa := qa, qc := qc } : RSrc) = pushSrc R i E R.srcs[i] ma mc qa qc := by
    intro ma mc ms hms
    unfold pushSrc
    rw [hms, e1, hr0]
  rcases h6 with ⟨hl, e6⟩ | ⟨hl, ma, mc, e6⟩
  · refine ⟨hi, r1.ma, r1.mc, qa, qc, R5, ?_, by rw [e6]⟩
    rw [← hsrc r1.ma r1.mc r1.marks (by rw [hlate, hl]; simpa using e2), hst, ← hEE]
    rw [eZ] at hpl
    exact hpl
  · have hsl : R5.c = R.c ∧ R5.srcs = RZ.srcs := by
      rcases hpl with ⟨_, aa, ac, e⟩ | ⟨_, _, da, dc, e⟩ | ⟨_, _, e⟩
      · rw [e, eZ]; exact ⟨rfl, rfl⟩
      · rw [e, eZ]; exact ⟨rfl, rfl⟩
      · rw [e, eZ]; exact ⟨rfl, rfl⟩
    have e5 : R5.srcs[i] = { r1 with seqs := r1.seqs ++ [E.seq], qa := qa, qc := qc } := by
      have : R5.srcs[i]? = RZ.srcs[i]? := by rw [hsl.2]
      rw [List.getElem?_eq_getElem hi5, eZ] at this
      simpa [List.getElem?_set, hi] using this
    refine ⟨hi, ma, mc, qa, qc, R6, ?_, rfl⟩
    rw [← hsrc ma mc (r1.marks ++ [EE.ts - R.c.slack]) (by rw [hlate, hl, e2, hEE]; simp), hst, ← hEE]
    rw [e5, hsl.1, hsl.2, eZ] at e6
    simp only [List.set_set] at e6
    rw [eZ] at hpl
    rcases hpl with ⟨a, aa, ac, e⟩ | ⟨a, p, da, dc, e⟩ | ⟨a, p, e⟩
    · exact Or.inl ⟨a, aa, ac, by rw [e6, e]⟩
    · exact Or.inr (Or.inl ⟨a, p, da, dc, by rw [e6, e]⟩)
    · exact Or.inr (Or.inr ⟨a, p, by rw [e6, e]⟩)
theorem tEA {w w0 w1 : World} {b : Nat} {R : Ref} (h : MemR w b R) (hb0 : Below w.heap.size w w0) (hg : w0.grownBy w1 (Value.slice R.aa R.all.length R.ac).ownBlock) : Blk w1 b 58 R.vals ∧ Kept (fun k => some k ∈ R.fp b) w w1 := by
  rw [bk_own] at hg
  have K1 : Kept (fun k => bk R.aa = some k) w w1 := ((Kept.refl (fun k => bk R.aa = some k) w).below hb0).grown hg (fun k _ e => e)
  have B1 := h.but (j1 := 3) (j2 := 3) K1 rfl rfl (fun k e => Or.inl e)
  exact ⟨B1.eng (by omega) (by omega), K1.mono (fun k _ e => List.mem_of_getElem? (i := 3) (by rw [← e]; rfl))⟩
theorem tED {w w0 w1 : World} {b : Nat} {R : Ref} (h : MemR w b R) (hb0 : Below w.heap.size w w0) (hg : w0.grownBy w1 (Value.slice R.da R.aside.length R.dc).ownBlock) : Blk w1 b 58 R.vals ∧ Kept (fun k => some k ∈ R.fp b) w w1 := by
  rw [bk_own] at hg
  have K1 : Kept (fun k => bk R.da = some k) w w1 := ((Kept.refl (fun k => bk R.da = some k) w).below hb0).grown hg (fun k _ e => e)
  have B1 := h.but (j1 := 4) (j2 := 4) K1 rfl rfl (fun k e => Or.inl e)
  exact ⟨B1.eng (by omega) (by omega), K1.mono (fun k _ e => List.mem_of_getElem? (i := 4) (by rw [← e]; rfl))⟩
structure Mid (w wx : World) (b : Nat) (R : Ref) (E : Ev) : Prop where
  mem : MemR wx b R
  box : Blk wx w.heap.size 30 E.vals
  below : Below w.heap.size w wx
theorem Mid.drewN {w wx : World} {b : Nat} {R : Ref} {E : Ev} (h : Mid w wx b R E) (n : Nat) : Mid w (wx.drewN n) b R E := ⟨h.mem.drewN n, h.box, bdrewN h.below n⟩
theorem Mid.on {w wx wy : World} {b : Nat} {R : Ref} {E : Ev} (h : Mid w wx b R E) (hb : Below wx.heap.size wx wy) : Mid w wy b R E := ⟨h.mem.below hb, h.box.below hb h.box.lt, h.below.trans (hb.mono h.below.size)⟩
theorem Mid.set {w wx : World} {b : Nat} {R : Ref} {E : Ev} (h : Mid w wx b R E) (hlt : ∀ k, some k ∈ R.fp b → k < w.heap.size) (o : Nat) (v : Value) (E' : Ev) (he : E'.vals = E.vals.set o v) : Mid w (wx.setCell ⟨w.heap.size, o, none⟩ v) b R E' :=
  ⟨h.mem.kept ((Kept.refl (fun k => k = w.heap.size) wx).setCell (fun _ => rfl) v) (fun k hk e => by have := hlt k hk; omega), by rw [he]; exact h.box.set o v, h.below.setCell (p := ⟨w.heap.size, o, none⟩) (Nat.le_refl _) v⟩
theorem MemR.cfg {w : World} {b : Nat} {R : Ref} (h : MemR w b R) : w.cell? ⟨b, 1, none⟩ = some (.int .i64 R.c.slack) ∧ w.cell? ⟨b, 2, none⟩ = some (.int .i64 R.c.policy) ∧ w.cell? ⟨b, 3, none⟩ = some (.int .i64 R.c.room) := ⟨h.eng.cell 1, h.eng.cell 2, h.eng.cell 3⟩

set_option maxRecDepth 100000 in
set_option maxHeartbeats 8000000 in
theorem rpush_ok (N b : Nat) (R : Ref) (i : Nat) (E : Ev) (w : World) (hM : MemR w b R) (hsane : Sane N R) (hN : N ≤ 8000000000000) (hi : i < R.srcs.length) (hw : wrongOf R.srcs[i] E = 0) (hslack : 0 ≤ R.c.slack ∧ R.c.slack ≤ 1000) (hmg : R.merged ≤ 1099511627776 + 400) (hts : -1099511627776 ≤ E.ts ∧ E.ts ≤ 1099511627776) :
    Calls Tryz.prog 27 #[.pointer (some ⟨b, 0, none⟩), .int .i64 i, E.agg] w fun e w' => (R.full i E = true ∧ e = .returned (.int .i64 8) ∧ Below w.heap.size w w') ∨ (R.full i E = false ∧ e = .returned (.int .i64 0) ∧ ∃ R', PushOk R i E R' ∧ Evo w b R w' R') := by
  obtain ⟨i0, hi0, hz0, hz1, hz2⟩ := info_parts Tryz.infoInt
  obtain ⟨j0, hj0, hy0, hy1, hy2⟩ := info_parts Tryz.infoEv
  have HW : Hid (wrongOf R.srcs[i] E = 0) := hw
  clear hw
  have HA : Hid (Mid w (w.alloc (.cells E.vals.toArray 30)) b R E) := ⟨hM.alloc _, blk_alloc _ _ _, (Below.refl _ _).alloc (Nat.le_refl _) _⟩
  have hfl := hM.fp_lt
  have HF : Hid (∀ k, some k ∈ R.fp b → k < w.heap.size) := hfl
  have HSn : Hid (Sane N R) := hsane
  have hM0 : Hid (MemR w b R) := hM
  have HSlk : Hid (0 ≤ R.c.slack ∧ R.c.slack ≤ 1000) := hslack
  have HTs : Hid (∀ x, x = R.taken i E → -1099511627776 ≤ x.ts ∧ x.ts ≤ 1099511627776 + 400) := fun x hx => by
    subst hx
    unfold Ref.taken
    simp only
    split
    · rename_i hl
      have := hmg
      have : E.ts < R.merged := by unfold Ref.lifts at hl; simp at hl; exact hl.2
      have ht := hts
      omega
    · have ht := hts
      omega
  have hml := (hsane.marks i _ (List.getElem?_eq_getElem hi))
  have hall := hsane.all
  have hasd := hsane.aside
  have hi' : (i : Int) < (R.srcs.length : Int) := by omega
  have hi00 : (0 : Int) ≤ (i : Int) := by omega
  clear hsane hfl
  unfold Ev.agg
  go_enter Tryz.func27, Tryz.ntmps27
  go_upto_region 6 with (first
    | (go_at_call 63; refine (rwrong_some b R i E _ HA.out.mem hi).mono ?_; rintro e w2 ⟨rfl, hb2⟩; rw [HW.out]; have HM2 : Hid (Mid w w2 b R E) := HA.out.on hb2; clear hb2)
    | (go_at_call 44; refine (rmark_any b R i _ HM2.out.mem hi).mono ?_; rintro e w4 ⟨rfl, rfl⟩)
    | (go_at_call 43; refine (ridle_any b R i _ HM2.out.mem hi).mono ?_; rintro e w3 ⟨rfl, nq, hq⟩; have HM3 : Hid (Mid w w3 b R E) := (by rw [hq]; exact HM2.out.drewN nq : Mid w w3 b R E); clear hq))
  clear hM HA HM2 HW
  have c12 := HM3.out.mem.cells.2.2.2.2
  generalize hmk : R.mark i = mk at *
  generalize hid : R.isIdle i = idl at *
  go_cut [34] (fun c wx => c = .bool (idl && decide (mk < R.merged)) ∧ wx = w3)
  case first =>
    as_aux_lemma =>
      cases idl with
      | false =>
        go_wp2
        go_meet
        case rel => exact ⟨rfl, rfl⟩
      | true =>
        go_wp2
        go_meet
        case rel => exact ⟨by simp, rfl⟩
  case rest =>
    obtain ⟨rfl, rfl⟩ := hcut
    have HBd : Hid (R.bound i = if (idl && decide (mk < R.merged)) then R.merged else mk) := by show _ = _; unfold Ref.bound; rw [hmk, hid]
    generalize hB1 : (idl && decide (mk < R.merged)) = B1 at *
    go_upto_if 34 with fail
    go_cut [8] (fun m wx => m = .int .i64 (R.bound i) ∧ wx = wc)
    case first =>
      as_aux_lemma =>
        cases B1 with
        | false =>
          go_wp2
          go_meet
          case rel => exact ⟨by rw [HBd.out]; simp, rfl⟩
        | true =>
          go_wp2
          go_meet
          case rel => exact ⟨by rw [HBd.out]; simp, rfl⟩
    case rest =>
      obtain ⟨rfl, rfl⟩ := hcut
      clear hB1 HBd
      have HL : Hid (R.late i E = decide (E.ts < R.bound i)) := rfl
      generalize R.bound i = bd at *
      have e2 := HM3.out.box.cell 2
      have e0 := HM3.out.box.cell 0
      have e0f := HM3.out.box.frozen 0
      simp only [Ev.vals, List.getElem?_cons_zero, List.getElem?_cons_succ] at e0 e2
      go_upto_region 10 with fail
      have HM4 : Hid (Mid w (wc.setCell ⟨w.heap.size, 0, none⟩ (.int .i64 i)) b R { E with src := i }) := HM3.out.set HF.out 0 _ _ rfl
      clear e0 e2 e0f c12 HM3
      generalize wc.setCell ⟨w.heap.size, 0, none⟩ (.int .i64 i) = w4 at *
      generalize hlt : decide (E.ts < bd) = late at *
      have c12 := HM4.out.mem.cells.2.2.2.2
      obtain ⟨c1, c2, c3⟩ := HM4.out.mem.cfg
      have e2 := HM4.out.box.cell 2
      have e2f := HM4.out.box.frozen 2
      simp only [Ev.vals, List.getElem?_cons_zero, List.getElem?_cons_succ] at e2
      have HLf : Hid (R.lifts i E = (late && decide (R.c.policy = 2) && decide (E.ts < R.merged))) := by show _ = _; unfold Ref.lifts; rw [HL.out]
      have HSt : Hid (R.stays i E = (!late || decide (R.c.policy = 2))) := by show _ = _; unfold Ref.stays; rw [HL.out]
      go_cut [62] (fun c wx => c = .bool (R.lifts i E) ∧ Mid w wx b R { E with src := i })
      case first =>
        as_aux_lemma =>
          cases late with
          | false =>
            go_quiet (fail)
            go_wp2
            go_meet
            case rel => exact ⟨by rw [HLf.out]; rfl, HM4.out.drewN _⟩
          | true =>
            by_cases hp : R.c.policy = 2
            · have hp' : (R.c.policy == 2) = true := by simpa using hp
              have HP : Hid (R.c.policy = 2) := hp
              clear hp
              by_cases hm : E.ts < R.merged
              · go_quiet (fail)
                go_wp2
                go_meet
                case rel => exact ⟨congrArg Value.bool (by rw [HLf.out]; simp [HP.out, hm]), HM4.out.drewN _⟩
              · have hd : decide (E.ts < R.merged) = false := by simpa using hm
                go_quiet (fail)
                go_wp2
                go_meet
                case rel => exact ⟨congrArg Value.bool (by rw [HLf.out, hd]; simp), HM4.out.drewN _⟩
            · have hp' : (R.c.policy == 2) = false := by simpa using hp
              have HP : Hid (¬ R.c.policy = 2) := hp
              clear hp
              go_quiet (fail)
              go_wp2
              go_meet
              case rel => exact ⟨congrArg Value.bool (by rw [HLf.out]; simp [HP.out]), HM4.out.drewN _⟩
      case rest =>
        obtain ⟨rfl, hmid⟩ := hcut
        clear c12 c1 c2 c3 e2 e2f HM4 HLf
        have HM5 : Hid (Mid w wc b R { E with src := i }) := hmid
        clear hmid
        have c12 := HM5.out.mem.cells.2.2.2.2
        have e2 := HM5.out.box.cell 2
        have e2f := HM5.out.box.frozen 2
        simp only [Ev.vals, List.getElem?_cons_zero, List.getElem?_cons_succ] at e2
        have HTk : Hid (R.taken i E = { E with src := i, ts := if R.lifts i E then R.merged else E.ts }) := rfl
        generalize R.lifts i E = lf at *
        go_upto_if 62 with fail
        go_cut [] (fun wx => Mid w wx b R (R.taken i E))
        case first =>
          as_aux_lemma =>
            cases lf with
            | false =>
              go_wp2
              go_meet
              case rel => rw [HTk.out]; exact HM5.out
            | true =>
              go_wp2
              go_meet
              case rel => rw [HTk.out]; exact HM5.out.set HF.out 2 _ _ rfl
        case rest =>
          have HM6 : Hid (Mid w wc b R (R.taken i E)) := hcut
          clear hcut c12 e2 e2f HM5 HTk
          obtain ⟨c1, c2, c3⟩ := HM6.out.mem.cfg
          go_upto_region 12 with fail
          go_cut [11] (fun c wx => c = .bool (R.stays i E) ∧ wx = wc)
          case first =>
            as_aux_lemma =>
              cases late with
              | false =>
                go_wp2
                go_meet
                case rel => exact ⟨by rw [HSt.out]; rfl, rfl⟩
              | true =>
                go_wp2
                go_meet
                case rel => exact ⟨congrArg Value.bool (by rw [HSt.out]; by_cases hp : R.c.policy = 2 <;> simp [hp]), rfl⟩
          case rest =>
            obtain ⟨rfl, rfl⟩ := hcut
            have HFu : Hid (R.full i E = ((R.stays i E && (decide (R.c.room ≤ (R.wait i).length) || decide (200 ≤ R.all.length))) || (!R.stays i E && decide (R.c.policy = 1) && decide (200 ≤ R.aside.length)))) := rfl
            clear HSt
            generalize hst : R.stays i E = st at *
            go_upto_region 14 with (go_at_call 42; refine (rwaiting_any b R i _ HM6.out.mem (by omega)).mono ?_; rintro e w7 ⟨ra, rc, rfl, hown, hb7⟩; have HM7 : Hid (Mid w w7 b R (R.taken i E)) := HM6.out.on hb7; clear hown hb7)
            clear c1 c2 c3 HM6
            obtain ⟨c1, c2, c3⟩ := HM7.out.mem.cfg
            obtain ⟨_, _, c10, c11, _⟩ := HM7.out.mem.cells
            have hwl : (R.wait i).length ≤ 200 := by
              have := List.length_filter_le (waits R.merged i) R.all
              unfold Ref.wait; omega
            generalize (R.wait i).length = wn at *
            go_cut [119] (fun c wx => c = .bool (R.full i E) ∧ wx = w7)
            case first =>
              as_aux_lemma =>
                cases st with
                | false =>
                  by_cases hp : R.c.policy = 1
                  · have hp' : (R.c.policy == 1) = true := by simpa using hp
                    have HP : Hid (R.c.policy = 1) := hp
                    clear hp
                    go_wp2
                    go_meet
                    case rel => exact ⟨congrArg Value.bool (by rw [HFu.out]; simp [HP.out]; omega), rfl⟩
                  · have hp' : (R.c.policy == 1) = false := by simpa using hp
                    have HP : Hid (¬ R.c.policy = 1) := hp
                    clear hp
                    go_wp2
                    go_meet
                    case rel => exact ⟨congrArg Value.bool (by rw [HFu.out]; simp [HP.out]), rfl⟩
                | true =>
                  by_cases hr : R.c.room ≤ (wn : Int)
                  · go_wp2
                    go_meet
                    case rel => exact ⟨congrArg Value.bool (by rw [HFu.out]; simp [hr]), rfl⟩
                  · have hd : decide (R.c.room ≤ (wn : Int)) = false := by simpa using hr
                    by_cases ha : (200 : Int) ≤ (R.all.length : Int)
                    · go_wp2
                      go_meet
                      case rel => exact ⟨congrArg Value.bool (by rw [HFu.out, hd]; simp; omega), rfl⟩
                    · have hda : decide ((200 : Int) ≤ (R.all.length : Int)) = false := by simpa using ha
                      go_wp2
                      go_meet
                      case rel => exact ⟨congrArg Value.bool (by rw [HFu.out, hd]; simp; omega), rfl⟩
            case rest =>
              obtain ⟨rfl, rfl⟩ := hcut
              clear HFu
              generalize hfu : R.full i E = fu at *
              cases fu with
              | true =>
                go_wp2
                go_ret
                exact Or.inl ⟨hfu, rfl, HM7.out.below⟩
              | false =>
                clear c1 c2 c3 c10 c11
                obtain ⟨eb, heb⟩ := hex w.heap.size
                obtain ⟨EE, HEE⟩ := hex (R.taken i E)
                have HB7 : Hid (Blk wc eb 30 EE.vals) := by show Blk _ _ _ _; rw [heb.out, HEE.out]; exact HM7.out.box
                have HEv7 : Hid (Evo w b R wc R) := Evo.below hM0.out HM7.out.below
                have HM8 : Hid (MemR wc b R) := HM7.out.mem
                have heb7 : eb < wc.heap.size := HB7.out.lt
                have HF2 : Hid (∀ k, some k ∈ R.fp b → k < eb) := by show ∀ k, _; rw [heb.out]; exact HF.out
                have heb' := heb.out.symm
                rw [heb']
                clear heb' HM7 HF
                go_upto_region 17 with (go_at_call 64; refine (rtouch_any b R i _ HM8.out hi (by omega)).mono ?_; rintro e wq ⟨rfl, r1, hr1, hev1⟩; have HR0 : Hid (r1 = { R.srcs[i] with sil := 0, marks := if R.isIdle i then R.srcs[i].marks ++ [R.merged] else R.srcs[i].marks, ma := r1.ma, mc := r1.mc }) := hr1; have HE0 : Hid (Evo wc b R wq { R with srcs := R.srcs.set i r1 }) := hev1; clear hr1 hev1)
                obtain ⟨R1, HR1⟩ := hex ({ R with srcs := R.srcs.set i r1 } : Ref)
                have HE1 : Hid (Evo wc b R wq R1) := by show Evo _ _ _ _ _; rw [HR1.out]; exact HE0.out
                have HNe : Hid (¬ some eb ∈ R1.fp b) := fun hmem => by
                  rcases HE1.out.grow eb hmem with e | e
                  · have := HF2.out eb e; omega
                  · omega
                have HBx : Hid (Blk wq eb 30 EE.vals) := HB7.out.kept HE1.out.kept (fun e => by have := HF2.out eb e; omega)
                clear HE0
                have HH : Hid (MemR wq b R1) := HE1.out.mem
                have HX : Hid (i < R.srcs.length) := hi
                have hl1 : R1.srcs.length = R.srcs.length := by have := HR1.out; subst this; simp
                have hi : i < R1.srcs.length := by rw [hl1]; exact HX.out
                have hi' : (i : Int) < (R1.srcs.length : Int) := by omega
                have hml1 : R1.srcs[i].marks.length ≤ N + 1 ∧ R1.srcs[i].seqs.length ≤ N := by
                  have := HR1.out; subst this
                  have e : r1.marks.length ≤ N + 1 ∧ r1.seqs.length ≤ N := by
                    rw [HR0.out]; simp only
                    refine ⟨?_, hml.2⟩
                    split
                    · simp; exact hml.1
                    · omega
                  simpa using e
                clear hl1
                obtain ⟨hml1, hml2⟩ := hml1
                have e1 : wq.cell? ⟨eb, 1, none⟩ = some (.int .i64 EE.seq) := HBx.out.cell 1
                have c9 := HH.out.cells.2.1
                have s2 := HH.out.srcCell i 3 hi (by omega)
                simp only [RSrc.vals, List.getElem?_cons_succ, List.getElem?_cons_zero] at s2
                have HM : Hid (Row wq 3 1 R1.srcs[i].qa R1.srcs[i].seqs.length R1.srcs[i].qc (ints R1.srcs[i].seqs)) := HH.out.sqs i _ (List.getElem?_eq_getElem hi)
                refine upTo_region (fun u => u.cell? ⟨b, 9, none⟩ = some (.slice (some ⟨R1.sg, 0, none⟩) R1.srcs.length R1.sc) ∧ u.cell? ⟨eb, 1, none⟩ = some (.int .i64 EE.seq) ∧ u.cell? ⟨R1.sg, i * 5 + 3, none⟩ = some (.slice R1.srcs[i].qa R1.srcs[i].seqs.length R1.srcs[i].qc)) 19 20 rfl (by kernel_rfl) ?_
                have hS0 : (fun u : World => u.cell? ⟨b, 9, none⟩ = some (.slice (some ⟨R1.sg, 0, none⟩) R1.srcs.length R1.sc) ∧ u.cell? ⟨eb, 1, none⟩ = some (.int .i64 EE.seq) ∧ u.cell? ⟨R1.sg, i * 5 + 3, none⟩ = some (.slice R1.srcs[i].qa R1.srcs[i].seqs.length R1.srcs[i].qc)) wq.drew := ⟨c9, e1, s2⟩
                refine upTo_tk (i := 0) (v := ?v6_0) rfl (by kernel_rfl) (fun _ _ _ h => h) (by rfl) hS0 ?h6_0 ?r6_0
                case h6_0 => (intro u hu; (try dsimp only at hu); go_simp; first | done | with_reducible rfl)
                (try simp only [Act.put, tkS])
                refine upTo_tk (i := 1) (v := ?v6_1) rfl (by kernel_rfl) (fun _ _ _ h => h) (by rfl) hS0 ?h6_1 ?r6_1
                case h6_1 => (intro u hu; (try dsimp only at hu); go_simp; first | done | with_reducible rfl)
                (try simp only [Act.put, tkS])
                refine upTo_tk (i := 2) (v := ?v6_2) rfl (by kernel_rfl) (fun _ _ _ h => h) (by rfl) hS0 ?h6_2 ?r6_2
                case h6_2 => (intro u hu; (try dsimp only at hu); go_simp; first | done | with_reducible rfl)
                (try simp only [Act.put, tkS])
                refine upTo_tk (i := 3) (v := ?v6_3) rfl (by kernel_rfl) (fun _ _ _ h => h) (by rfl) hS0 ?h6_3 ?r6_3
                case h6_3 => (intro u hu; (try dsimp only at hu); go_simp; first | done | with_reducible rfl)
                (try simp only [Act.put, tkS])
                refine upTo_tk (i := 4) (v := ?v6_4) rfl (by kernel_rfl) (fun _ _ _ h => h) (by rfl) hS0 ?h6_4 ?r6_4
                case h6_4 => (intro u hu; (try dsimp only at hu); go_simp; first | done | with_reducible rfl)
                (try simp only [Act.put, tkS])
                refine upTo_tk (i := 5) (v := ?v6_5) rfl (by kernel_rfl) (fun _ _ _ h => h) (by rfl) hS0 ?h6_5 ?r6_5
                case h6_5 => (intro u hu; (try dsimp only at hu); go_simp; first | done | with_reducible rfl)
                (try simp only [Act.put, tkS])
                refine upTo_tk (i := 6) (v := ?v6_6) rfl (by kernel_rfl) (fun _ _ _ h => h) (by rfl) hS0 ?h6_6 ?r6_6
                case h6_6 => (intro u hu; (try dsimp only at hu); go_simp; first | done | with_reducible rfl)
                (try simp only [Act.put, tkS])
                refine upTo_tk (i := 7) (v := ?v6_7) rfl (by kernel_rfl) (fun _ _ _ h => h) (by rfl) hS0 ?h6_7 ?r6_7
                case h6_7 => (intro u hu; (try dsimp only at hu); go_simp; first | done | with_reducible rfl)
                (try simp only [Act.put, tkS])
                refine upTo_tk (i := 8) (v := ?v6_8) rfl (by kernel_rfl) (fun _ _ _ h => h) (by rfl) hS0 ?h6_8 ?r6_8
                case h6_8 => (intro u hu; (try dsimp only at hu); go_simp; first | done | with_reducible rfl)
                (try simp only [Act.put, tkS])
                refine upTo_tk (i := 9) (v := ?v6_9) rfl (by kernel_rfl) (fun _ _ _ h => h) (by rfl) hS0 ?h6_9 ?r6_9
                case h6_9 => (intro u hu; (try dsimp only at hu); go_simp; first | done | with_reducible rfl)
                (try simp only [Act.put, tkS])
                refine upTo_tk (i := 10) (v := ?v6_10) rfl (by kernel_rfl) (fun _ _ _ h => h) (by rfl) hS0 ?h6_10 ?r6_10
                case h6_10 => (intro u hu; (try dsimp only at hu); go_simp; first | done | with_reducible rfl)
                (try simp only [Act.put, tkS])
                refine upTo_tk (i := 11) (v := ?v6_11) rfl (by kernel_rfl) (fun _ _ _ h => h) (by rfl) hS0 ?h6_11 ?r6_11
                case h6_11 => (intro u hu; (try dsimp only at hu); go_simp; first | done | with_reducible rfl)
                (try simp only [Act.put, tkS])
                refine upTo_tk (i := 12) (v := ?v6_12) rfl (by kernel_rfl) (fun _ _ _ h => h) (by rfl) hS0 ?h6_12 ?r6_12
                case h6_12 => (intro u hu; (try dsimp only at hu); go_simp; first | done | with_reducible rfl)
                (try simp only [Act.put, tkS])
                refine upTo_tk (i := 13) (v := ?v6_13) rfl (by kernel_rfl) (fun _ _ _ h => h) (by rfl) hS0 ?h6_13 ?r6_13
                case h6_13 => (intro u hu; (try dsimp only at hu); go_simp; first | done | with_reducible rfl)
                (try simp only [Act.put, tkS])
                refine upTo_tk (i := 14) (v := ?v6_14) rfl (by kernel_rfl) (fun _ _ _ h => h) (by rfl) hS0 ?h6_14 ?r6_14
                case h6_14 => (intro u hu; (try dsimp only at hu); go_simp; first | done | with_reducible rfl)
                (try simp only [Act.put, tkS])
                refine upTo_one (i := 15) (by kernel_rfl) rfl (fun K hK => ?_)
                go_simp
                refine hK.out _ _ (fun _ => ⟨(HH.out.alloc _).cells.2.1, (HBx.out.alloc _).cell 1, by have := (HH.out.alloc (.cells #[.int .i64 EE.seq] 3)).srcCell i 3 hi (by omega); simpa [RSrc.vals] using this⟩) ?_
                clear hK K
                (try simp only [Act.put, tkS])
                refine upTo_one (i := 16) (by kernel_rfl) rfl (fun K hK => ?_)
                refine step_append_lies _ (by rfl) _ _ _ (by rfl) 0 3 i0 _ 1 8 Tryz.underlying36 hi0 hz0 hz1 hz2 rfl (by omega) (.slice R1.srcs[i].qa R1.srcs[i].seqs.length R1.srcs[i].qc) R1.srcs[i].seqs.length (ints R1.srcs[i].seqs) (by rfl) (ownsRow_of_heap HM.out (fun k hk => Below.heap_alloc _ _ _ hk)) ⟨wq.heap.size, 0, none⟩ 1 1 [.int .i64 EE.seq] (by rfl) (by rfl) (World.news_of_block (cs := #[.int .i64 EE.seq]) (t := 3) (fr := (0, 0)) (heap_alloc_new wq _)) (by simp [Value.oneCell']) (by omega) (by unfold maxLen; omega) (by omega) (by omega) (wq.heap.size + 1) (by simp) ?_
                intro gg cap w1 hown1 hgrow hat hlt1
                have hb0 : Below wq.heap.size wq (wq.alloc (.cells #[.int .i64 EE.seq] 3)).drew := ((Below.refl _ wq).alloc (Nat.le_refl _) _).drew
                obtain ⟨q0, q3, q4, qk⟩ := tQ HH.out hb0 hi hown1 hgrow hat
                refine hK.out _ _ (fun _ => ⟨q0.cell 9, (HBx.out.kept qk HNe.out).cell 1, q3⟩) ?_
                clear hK K hS0
                (try simp only [Act.put, tkS])
                refine upTo_one (i := 17) (by kernel_rfl) rfl (fun K hK => ?_)
                go_simp
                refine hK.out _ _ (fun _ => ⟨q0.cell 9, (HBx.out.kept qk HNe.out).cell 1, q3⟩) ?_
                clear hK K
                (try simp only [Act.put, tkS])
                refine upTo_one (i := 18) (by kernel_rfl) rfl (fun K hK => ?_)
                go_simp
                refine hK.out _ _ (fun _ => ⟨q0.cell 9, (HBx.out.kept qk HNe.out).cell 1, q3⟩) ?_
                clear hK K
                (try simp only [Act.put, tkS])
                refine upTo_one (i := 19) (by kernel_rfl) rfl (fun K hK => ?_)
                go_simp
                refine hK.out _ _ (fun h => absurd rfl h) ?_
                clear hK K
                (try simp only [Act.put, tkS])
                refine upTo_done (by kernel_rfl) ?_
                obtain ⟨RZ, HRZ⟩ := hex ({ R1 with srcs := R1.srcs.set i { R1.srcs[i] with seqs := R1.srcs[i].seqs ++ [EE.seq], qa := some ⟨gg, 0, none⟩, qc := cap } } : Ref)
                have HE2 : Hid (Evo wq b R1 (w1.setCell ⟨R1.sg, i * 5 + 3, none⟩ (.slice (some ⟨gg, 0, none⟩) (R1.srcs[i].seqs.length + 1) cap)) RZ) := by show Evo _ _ _ _ _; rw [HRZ.out]; exact HH.out.appSeqE hb0 hi hown1 hgrow hat
                clear q0 q3 q4 qk c9 s2 hown1 hgrow hat hlt1 hb0 HM
                generalize w1.setCell ⟨R1.sg, i * 5 + 3, none⟩ (.slice (some ⟨gg, 0, none⟩) (R1.srcs[i].seqs.length + 1) cap) = wz at *
                have HNz : Hid (¬ some eb ∈ RZ.fp b) := fun hmem => by
                  rcases HE2.out.grow eb hmem with e | e
                  · exact HNe.out e
                  · have := HBx.out.lt; omega
                have HBz : Hid (Blk wz eb 30 EE.vals) := HBx.out.kept HE2.out.kept HNe.out
                have HHz : Hid (MemR wz b RZ) := HE2.out.mem
                have hq : Hid (RZ.all = R.all ∧ RZ.aside = R.aside ∧ RZ.c = R.c ∧ RZ.merged = R.merged) := by
                  show _ ∧ _
                  have e2 := HRZ.out
                  have e1 := HR1.out
                  subst e1
                  subst e2
                  exact ⟨rfl, rfl, rfl, rfl⟩
                have hallz : RZ.all.length ≤ 200 := by rw [hq.out.1]; exact hall
                have hasdz : RZ.aside.length ≤ 200 := by rw [hq.out.2.1]; exact hasd
                clear HH HNe HBx e1
                go_upto_if 142 with fail
                go_cut [] (fun wx => ∃ R5, Placed RZ st EE R5 ∧ Evo wz b RZ wx R5)
                case first =>
                    have HH := HHz
                    have HBx := HBz
                    have HNe := HNz
                    cases st with
                    | true =>
                      go_upto_region 19 with fail
                      have cx : wz.cell? ⟨b, 10, none⟩ = some (.slice RZ.aa RZ.all.length RZ.ac) := HH.out.eng.cell 10
                      have HRow : Hid (Row wz 30 5 RZ.aa RZ.all.length RZ.ac (evs RZ.all)) := HH.out.all
                      refine upTo_region (fun u => u.cell? ⟨b, 10, none⟩ = some (.slice RZ.aa RZ.all.length RZ.ac) ∧ u.cell? ⟨eb, 0, none⟩ = some (.int .i64 EE.src) ∧ u.cell? ⟨eb, 1, none⟩ = some (.int .i64 EE.seq) ∧ u.cell? ⟨eb, 2, none⟩ = some (.int .i64 EE.ts) ∧ u.cell? ⟨eb, 3, none⟩ = some (.int .i64 EE.kind) ∧ u.cell? ⟨eb, 4, none⟩ = some (.int .i64 EE.val)) 10 11 rfl (by kernel_rfl) ?_
                      have hS0 : (fun u : World => u.cell? ⟨b, 10, none⟩ = some (.slice RZ.aa RZ.all.length RZ.ac) ∧ u.cell? ⟨eb, 0, none⟩ = some (.int .i64 EE.src) ∧ u.cell? ⟨eb, 1, none⟩ = some (.int .i64 EE.seq) ∧ u.cell? ⟨eb, 2, none⟩ = some (.int .i64 EE.ts) ∧ u.cell? ⟨eb, 3, none⟩ = some (.int .i64 EE.kind) ∧ u.cell? ⟨eb, 4, none⟩ = some (.int .i64 EE.val)) wz.drew := ⟨cx, HBx.out.cell 0, HBx.out.cell 1, HBx.out.cell 2, HBx.out.cell 3, HBx.out.cell 4⟩
                      refine upTo_tk (i := 0) (v := ?v7_0) rfl (by kernel_rfl) (fun _ _ _ h => h) (by rfl) hS0 ?h7_0 ?r7_0
                      case h7_0 => (intro u hu; (try dsimp only at hu); go_simp; first | done | with_reducible rfl)
                      (try simp only [Act.put, tkS])
                      refine upTo_tk (i := 1) (v := ?v7_1) rfl (by kernel_rfl) (fun _ _ _ h => h) (by rfl) hS0 ?h7_1 ?r7_1
                      case h7_1 => (intro u hu; (try dsimp only at hu); go_simp; first | done | with_reducible rfl)
                      (try simp only [Act.put, tkS])
                      refine upTo_tk (i := 2) (v := ?v7_2) rfl (by kernel_rfl) (fun _ _ _ h => h) (by rfl) hS0 ?h7_2 ?r7_2
                      case h7_2 => (intro u hu; (try dsimp only at hu); go_simp; first | done | with_reducible rfl)
                      (try simp only [Act.put, tkS])
                      refine upTo_tk (i := 3) (v := ?v7_3) rfl (by kernel_rfl) (fun _ _ _ h => h) (by rfl) hS0 ?h7_3 ?r7_3
                      case h7_3 => (intro u hu; (try dsimp only at hu); go_simp; first | done | with_reducible rfl)
                      (try simp only [Act.put, tkS])
                      refine upTo_tk (i := 4) (v := ?v7_4) rfl (by kernel_rfl) (fun _ _ _ h => h) (by rfl) hS0 ?h7_4 ?r7_4
                      case h7_4 => (intro u hu; (try dsimp only at hu); go_simp; first | done | with_reducible rfl)
                      (try simp only [Act.put, tkS])
                      refine upTo_tk (i := 5) (v := ?v7_5) rfl (by kernel_rfl) (fun _ _ _ h => h) (by rfl) hS0 ?h7_5 ?r7_5
                      case h7_5 => (intro u hu; (try dsimp only at hu); go_simp; first | done | with_reducible rfl)
                      (try simp only [Act.put, tkS])
                      refine upTo_one (i := 6) (by kernel_rfl) rfl (fun K hK => ?_)
                      go_simp
                      refine hK.out _ _ (fun _ => ⟨(HH.out.alloc _).eng.cell 10, (HBx.out.alloc _).cell 0, (HBx.out.alloc _).cell 1, (HBx.out.alloc _).cell 2, (HBx.out.alloc _).cell 3, (HBx.out.alloc _).cell 4⟩) ?_
                      clear hK K
                      (try simp only [Act.put, tkS])
                      refine upTo_one (i := 7) (by kernel_rfl) rfl (fun K hK => ?_)
                      refine step_append_lies _ (by rfl) _ _ _ (by rfl) 0 30 j0 _ 5 40 Tryz.underlying22 hj0 hy0 hy1 hy2 rfl (by omega) (.slice RZ.aa RZ.all.length RZ.ac) RZ.all.length (evs RZ.all) (by rfl) (ownsRow_of_heap HRow.out (fun k hk => Below.heap_alloc _ _ _ hk)) ⟨wz.heap.size, 0, none⟩ 1 1 EE.vals (by rfl) (by rfl) (World.news_of_block (cs := EE.vals.toArray) (t := 30) (fr := (0, 0)) (heap_alloc_new wz _)) (Ev.one EE) (by omega) (by unfold maxLen; omega) (by omega) (by omega) (wz.heap.size + 1) (by simp) ?_
                      intro gg cap w1 hown1 hgrow hat hlt1
                      have hb0 : Below wz.heap.size wz (wz.alloc (.cells EE.vals.toArray 30)).drew := ((Below.refl _ wz).alloc (Nat.le_refl _) _).drew
                      obtain ⟨q0, qk⟩ := tEA HH.out hb0 hgrow
                      have q4 := q0.frozen 10
                      have HB1 : Hid (Blk w1 eb 30 EE.vals) := HBx.out.kept qk HNe.out
                      refine hK.out _ _ (fun _ => ⟨q0.cell 10, HB1.out.cell 0, HB1.out.cell 1, HB1.out.cell 2, HB1.out.cell 3, HB1.out.cell 4⟩) ?_
                      clear hK K hS0
                      (try simp only [Act.put, tkS])
                      refine upTo_one (i := 8) (by kernel_rfl) rfl (fun K hK => ?_)
                      go_simp
                      refine hK.out _ _ (fun _ => ⟨q0.cell 10, HB1.out.cell 0, HB1.out.cell 1, HB1.out.cell 2, HB1.out.cell 3, HB1.out.cell 4⟩) ?_
                      clear hK K
                      (try simp only [Act.put, tkS])
                      refine upTo_one (i := 9) (by kernel_rfl) rfl (fun K hK => ?_)
                      go_simp
                      refine hK.out _ _ (fun _ => ⟨q0.cell 10, HB1.out.cell 0, HB1.out.cell 1, HB1.out.cell 2, HB1.out.cell 3, HB1.out.cell 4⟩) ?_
                      clear hK K
                      (try simp only [Act.put, tkS])
                      have q5 := q0.cell 10
                      simp only [Ref.vals, Cfg.vals, List.cons_append, List.nil_append, List.getElem?_cons_succ, List.getElem?_cons_zero] at q5
                      refine upTo_one (i := 10) (by kernel_rfl) rfl (fun K hK => ?_)
                      go_simp
                      refine hK.out _ _ (fun h => absurd rfl h) ?_
                      clear hK K
                      (try simp only [Act.put, tkS])
                      refine upTo_done (by kernel_rfl) ?_
                      obtain ⟨R5, HR5⟩ := hex ({ RZ with all := RZ.all ++ [EE], aa := some ⟨gg, 0, none⟩, ac := cap } : Ref)
                      have HE3 : Hid (Evo wz b RZ (w1.setCell ⟨b, 10, none⟩ (.slice (some ⟨gg, 0, none⟩) (RZ.all.length + 1) cap)) R5) := by show Evo _ _ _ _ _; rw [HR5.out]; exact HH.out.appAllE hb0 hown1 hgrow hat
                      clear q0 q4 q5 qk cx hown1 hgrow hat hlt1 hb0 HRow HB1
                      generalize w1.setCell ⟨b, 10, none⟩ (.slice (some ⟨gg, 0, none⟩) (RZ.all.length + 1) cap) = wy at *
                      go_wp2
                      go_meet
                      case rel => exact ⟨R5, Or.inl ⟨by simp, _, _, HR5.out⟩, HE3.out⟩
                    | false =>
                      have cp := HH.out.cfg.2.1
                      by_cases hp : RZ.c.policy = 1
                      · have hp' : (RZ.c.policy == 1) = true := by simpa using hp
                        have HP : Hid (RZ.c.policy = 1) := hp
                        clear hp
                        go_upto_region 21 with fail
                        have cx : wz.cell? ⟨b, 11, none⟩ = some (.slice RZ.da RZ.aside.length RZ.dc) := HH.out.eng.cell 11
                        have HRow : Hid (Row wz 30 5 RZ.da RZ.aside.length RZ.dc (evs RZ.aside)) := HH.out.asd
                        refine upTo_region (fun u => u.cell? ⟨b, 11, none⟩ = some (.slice RZ.da RZ.aside.length RZ.dc) ∧ u.cell? ⟨eb, 0, none⟩ = some (.int .i64 EE.src) ∧ u.cell? ⟨eb, 1, none⟩ = some (.int .i64 EE.seq) ∧ u.cell? ⟨eb, 2, none⟩ = some (.int .i64 EE.ts) ∧ u.cell? ⟨eb, 3, none⟩ = some (.int .i64 EE.kind) ∧ u.cell? ⟨eb, 4, none⟩ = some (.int .i64 EE.val)) 10 11 rfl (by kernel_rfl) ?_
                        have hS0 : (fun u : World => u.cell? ⟨b, 11, none⟩ = some (.slice RZ.da RZ.aside.length RZ.dc) ∧ u.cell? ⟨eb, 0, none⟩ = some (.int .i64 EE.src) ∧ u.cell? ⟨eb, 1, none⟩ = some (.int .i64 EE.seq) ∧ u.cell? ⟨eb, 2, none⟩ = some (.int .i64 EE.ts) ∧ u.cell? ⟨eb, 3, none⟩ = some (.int .i64 EE.kind) ∧ u.cell? ⟨eb, 4, none⟩ = some (.int .i64 EE.val)) wz.drew := ⟨cx, HBx.out.cell 0, HBx.out.cell 1, HBx.out.cell 2, HBx.out.cell 3, HBx.out.cell 4⟩
                        refine upTo_tk (i := 0) (v := ?v8_0) rfl (by kernel_rfl) (fun _ _ _ h => h) (by rfl) hS0 ?h8_0 ?r8_0
                        case h8_0 => (intro u hu; (try dsimp only at hu); go_simp; first | done | with_reducible rfl)
                        (try simp only [Act.put, tkS])
                        refine upTo_tk (i := 1) (v := ?v8_1) rfl (by kernel_rfl) (fun _ _ _ h => h) (by rfl) hS0 ?h8_1 ?r8_1
                        case h8_1 => (intro u hu; (try dsimp only at hu); go_simp; first | done | with_reducible rfl)
                        (try simp only [Act.put, tkS])
                        refine upTo_tk (i := 2) (v := ?v8_2) rfl (by kernel_rfl) (fun _ _ _ h => h) (by rfl) hS0 ?h8_2 ?r8_2
                        case h8_2 => (intro u hu; (try dsimp only at hu); go_simp; first | done | with_reducible rfl)
                        (try simp only [Act.put, tkS])
                        refine upTo_tk (i := 3) (v := ?v8_3) rfl (by kernel_rfl) (fun _ _ _ h => h) (by rfl) hS0 ?h8_3 ?r8_3
                        case h8_3 => (intro u hu; (try dsimp only at hu); go_simp; first | done | with_reducible rfl)
                        (try simp only [Act.put, tkS])
                        refine upTo_tk (i := 4) (v := ?v8_4) rfl (by kernel_rfl) (fun _ _ _ h => h) (by rfl) hS0 ?h8_4 ?r8_4
                        case h8_4 => (intro u hu; (try dsimp only at hu); go_simp; first | done | with_reducible rfl)
                        (try simp only [Act.put, tkS])
                        refine upTo_tk (i := 5) (v := ?v8_5) rfl (by kernel_rfl) (fun _ _ _ h => h) (by rfl) hS0 ?h8_5 ?r8_5
                        case h8_5 => (intro u hu; (try dsimp only at hu); go_simp; first | done | with_reducible rfl)
                        (try simp only [Act.put, tkS])
                        refine upTo_one (i := 6) (by kernel_rfl) rfl (fun K hK => ?_)
                        go_simp
                        refine hK.out _ _ (fun _ => ⟨(HH.out.alloc _).eng.cell 11, (HBx.out.alloc _).cell 0, (HBx.out.alloc _).cell 1, (HBx.out.alloc _).cell 2, (HBx.out.alloc _).cell 3, (HBx.out.alloc _).cell 4⟩) ?_
                        clear hK K
                        (try simp only [Act.put, tkS])
                        refine upTo_one (i := 7) (by kernel_rfl) rfl (fun K hK => ?_)
                        refine step_append_lies _ (by rfl) _ _ _ (by rfl) 0 30 j0 _ 5 40 Tryz.underlying22 hj0 hy0 hy1 hy2 rfl (by omega) (.slice RZ.da RZ.aside.length RZ.dc) RZ.aside.length (evs RZ.aside) (by rfl) (ownsRow_of_heap HRow.out (fun k hk => Below.heap_alloc _ _ _ hk)) ⟨wz.heap.size, 0, none⟩ 1 1 EE.vals (by rfl) (by rfl) (World.news_of_block (cs := EE.vals.toArray) (t := 30) (fr := (0, 0)) (heap_alloc_new wz _)) (Ev.one EE) (by omega) (by unfold maxLen; omega) (by omega) (by omega) (wz.heap.size + 1) (by simp) ?_
                        intro gg cap w1 hown1 hgrow hat hlt1
                        have hb0 : Below wz.heap.size wz (wz.alloc (.cells EE.vals.toArray 30)).drew := ((Below.refl _ wz).alloc (Nat.le_refl _) _).drew
                        obtain ⟨q0, qk⟩ := tED HH.out hb0 hgrow
                        have q4 := q0.frozen 11
                        have HB1 : Hid (Blk w1 eb 30 EE.vals) := HBx.out.kept qk HNe.out
                        refine hK.out _ _ (fun _ => ⟨q0.cell 11, HB1.out.cell 0, HB1.out.cell 1, HB1.out.cell 2, HB1.out.cell 3, HB1.out.cell 4⟩) ?_
                        clear hK K hS0
                        (try simp only [Act.put, tkS])
                        refine upTo_one (i := 8) (by kernel_rfl) rfl (fun K hK => ?_)
                        go_simp
                        refine hK.out _ _ (fun _ => ⟨q0.cell 11, HB1.out.cell 0, HB1.out.cell 1, HB1.out.cell 2, HB1.out.cell 3, HB1.out.cell 4⟩) ?_
                        clear hK K
                        (try simp only [Act.put, tkS])
                        refine upTo_one (i := 9) (by kernel_rfl) rfl (fun K hK => ?_)
                        go_simp
                        refine hK.out _ _ (fun _ => ⟨q0.cell 11, HB1.out.cell 0, HB1.out.cell 1, HB1.out.cell 2, HB1.out.cell 3, HB1.out.cell 4⟩) ?_
                        clear hK K
                        (try simp only [Act.put, tkS])
                        have q5 := q0.cell 11
                        simp only [Ref.vals, Cfg.vals, List.cons_append, List.nil_append, List.getElem?_cons_succ, List.getElem?_cons_zero] at q5
                        refine upTo_one (i := 10) (by kernel_rfl) rfl (fun K hK => ?_)
                        go_simp
                        refine hK.out _ _ (fun h => absurd rfl h) ?_
                        clear hK K
                        (try simp only [Act.put, tkS])
                        refine upTo_done (by kernel_rfl) ?_
                        obtain ⟨R5, HR5⟩ := hex ({ RZ with aside := RZ.aside ++ [EE], da := some ⟨gg, 0, none⟩, dc := cap } : Ref)
                        have HE3 : Hid (Evo wz b RZ (w1.setCell ⟨b, 11, none⟩ (.slice (some ⟨gg, 0, none⟩) (RZ.aside.length + 1) cap)) R5) := by show Evo _ _ _ _ _; rw [HR5.out]; exact HH.out.appAsideE hb0 hown1 hgrow hat
                        clear q0 q4 q5 qk cx hown1 hgrow hat hlt1 hb0 HRow HB1
                        generalize w1.setCell ⟨b, 11, none⟩ (.slice (some ⟨gg, 0, none⟩) (RZ.aside.length + 1) cap) = wy at *
                        go_wp2
                        go_meet
                        case rel => exact ⟨R5, Or.inr (Or.inl ⟨by simp, HP.out, _, _, HR5.out⟩), HE3.out⟩
                      · have hp' : (RZ.c.policy == 1) = false := by simpa using hp
                        have HP : Hid (¬ RZ.c.policy = 1) := hp
                        clear hp
                        go_wp2
                        go_meet
                        case rel => exact ⟨RZ, Or.inr (Or.inr ⟨by simp, HP.out, rfl⟩), Evo.refl HH.out⟩
                case rest =>
                  obtain ⟨R5, hpl, hev5⟩ := hcut
                  have HPl : Hid (Placed RZ st EE R5) := hpl
                  have HE5 : Hid (Evo wz b RZ wc R5) := hev5
                  clear hpl hev5
                  have HNc : Hid (¬ some eb ∈ R5.fp b) := fun hmem => by
                    rcases HE5.out.grow eb hmem with e | e
                    · exact HNz.out e
                    · have := HBz.out.lt; omega
                  have HBc : Hid (Blk wc eb 30 EE.vals) := HBz.out.kept HE5.out.kept HNz.out
                  have HHc : Hid (MemR wc b R5) := HE5.out.mem
                  have hq5 : Hid (R5.srcs = RZ.srcs ∧ R5.c = R.c ∧ R5.all.length ≤ 201 ∧ R5.srcs.length = R.srcs.length) := by
                    show _ ∧ _
                    have e0 : RZ.srcs.length = R.srcs.length := by
                      have e2 := HRZ.out
                      have e1 := HR1.out
                      subst e1
                      subst e2
                      simp
                    rcases HPl.out with ⟨_, aa, ac, e⟩ | ⟨_, _, da, dc, e⟩ | ⟨_, _, e⟩
                    · rw [e]; exact ⟨rfl, hq.out.2.2.1, by simp; exact hallz, e0⟩
                    · rw [e]; exact ⟨rfl, hq.out.2.2.1, by simp only; omega, e0⟩
                    · rw [e]; exact ⟨rfl, hq.out.2.2.1, by omega, e0⟩
                  have hi5 : i < R5.srcs.length := by rw [hq5.out.2.2.2]; exact HX.out
                  have hml5 : R5.srcs[i].marks.length ≤ N + 1 := by
                    have e : R5.srcs[i]? = RZ.srcs[i]? := by rw [hq5.out.1]
                    have e3 : RZ.srcs[i]? = some { R1.srcs[i] with seqs := R1.srcs[i].seqs ++ [EE.seq], qa := some ⟨gg, 0, none⟩, qc := cap } := by rw [HRZ.out]; simp [List.getElem?_set, hi]
                    rw [e3, List.getElem?_eq_getElem hi5, Option.some.injEq] at e
                    rw [e]; exact hml1
                  have hbd : -1099511627776 ≤ EE.ts ∧ EE.ts ≤ 1099511627776 + 400 := HTs.out EE HEE.out
                  have hslk : 0 ≤ R5.c.slack ∧ R5.c.slack ≤ 1000 := by rw [hq5.out.2.1]; exact HSlk.out
                  go_upto_if 170 with fail
                  go_cut [] (fun wx => ∃ R6, ((late = true ∧ R6 = R5) ∨ (late = false ∧ ∃ ma mc, R6 = { R5 with srcs := R5.srcs.set i { R5.srcs[i] with marks := R5.srcs[i].marks ++ [EE.ts - R5.c.slack], ma := ma, mc := mc } })) ∧ Evo wc b R5 wx R6)
                  case first =>
                    as_aux_lemma => -- NEW
                      have HH := HHc
                      have HBx := HBc
                      have HNe := HNc
                      cases late with
                      | true =>
                        go_wp2
                        go_meet
                        case rel => exact ⟨R5, Or.inl ⟨by simp, rfl⟩, Evo.refl HH.out⟩
                      | false =>
                        have hi : i < R5.srcs.length := hi5
                        have hi' : (i : Int) < (R5.srcs.length : Int) := by omega
                        have c1 := HH.out.cfg.1
                        have e2 : wc.cell? ⟨eb, 2, none⟩ = some (.int .i64 EE.ts) := HBx.out.cell 2
                        have hsub : IntKind.i64.wrap (EE.ts - R5.c.slack) = EE.ts - R5.c.slack := by rw [IntKind.wrap_i64]; omega
                        go_upto_region 23 with fail
                        have c9 := HH.out.cells.2.1
                        have s2 := HH.out.srcCell i 2 hi (by omega)
                        simp only [RSrc.vals, List.getElem?_cons_succ, List.getElem?_cons_zero] at s2
                        have HM : Hid (Row wc 3 1 R5.srcs[i].ma R5.srcs[i].marks.length R5.srcs[i].mc (ints R5.srcs[i].marks)) := HH.out.mrk i _ (List.getElem?_eq_getElem hi)
                        refine upTo_region (fun u => u.cell? ⟨b, 9, none⟩ = some (.slice (some ⟨R5.sg, 0, none⟩) R5.srcs.length R5.sc) ∧ u.cell? ⟨eb, 2, none⟩ = some (.int .i64 EE.ts) ∧ u.cell? ⟨b, 1, none⟩ = some (.int .i64 R5.c.slack) ∧ u.cell? ⟨R5.sg, i * 5 + 2, none⟩ = some (.slice R5.srcs[i].ma R5.srcs[i].marks.length R5.srcs[i].mc)) 25 26 rfl (by kernel_rfl) ?_
                        have hS0 : (fun u : World => u.cell? ⟨b, 9, none⟩ = some (.slice (some ⟨R5.sg, 0, none⟩) R5.srcs.length R5.sc) ∧ u.cell? ⟨eb, 2, none⟩ = some (.int .i64 EE.ts) ∧ u.cell? ⟨b, 1, none⟩ = some (.int .i64 R5.c.slack) ∧ u.cell? ⟨R5.sg, i * 5 + 2, none⟩ = some (.slice R5.srcs[i].ma R5.srcs[i].marks.length R5.srcs[i].mc)) wc.drew := ⟨c9, e2, c1, s2⟩
                        refine upTo_tk (i := 0) (v := ?v9_0) rfl (by kernel_rfl) (fun _ _ _ h => h) (by rfl) hS0 ?h9_0 ?r9_0
                        case h9_0 => (intro u hu; (try dsimp only at hu); go_simp; first | done | with_reducible rfl)
                        (try simp only [Act.put, tkS])
                        refine upTo_tk (i := 1) (v := ?v9_1) rfl (by kernel_rfl) (fun _ _ _ h => h) (by rfl) hS0 ?h9_1 ?r9_1
                        case h9_1 => (intro u hu; (try dsimp only at hu); go_simp; first | done | with_reducible rfl)
                        (try simp only [Act.put, tkS])
                        refine upTo_tk (i := 2) (v := ?v9_2) rfl (by kernel_rfl) (fun _ _ _ h => h) (by rfl) hS0 ?h9_2 ?r9_2
                        case h9_2 => (intro u hu; (try dsimp only at hu); go_simp; first | done | with_reducible rfl)
                        (try simp only [Act.put, tkS])
                        refine upTo_tk (i := 3) (v := ?v9_3) rfl (by kernel_rfl) (fun _ _ _ h => h) (by rfl) hS0 ?h9_3 ?r9_3
                        case h9_3 => (intro u hu; (try dsimp only at hu); go_simp; first | done | with_reducible rfl)
                        (try simp only [Act.put, tkS])
                        refine upTo_tk (i := 4) (v := ?v9_4) rfl (by kernel_rfl) (fun _ _ _ h => h) (by rfl) hS0 ?h9_4 ?r9_4
                        case h9_4 => (intro u hu; (try dsimp only at hu); go_simp; first | done | with_reducible rfl)
                        (try simp only [Act.put, tkS])
                        refine upTo_tk (i := 5) (v := ?v9_5) rfl (by kernel_rfl) (fun _ _ _ h => h) (by rfl) hS0 ?h9_5 ?r9_5
                        case h9_5 => (intro u hu; (try dsimp only at hu); go_simp; first | done | with_reducible rfl)
                        (try simp only [Act.put, tkS])
                        refine upTo_tk (i := 6) (v := ?v9_6) rfl (by kernel_rfl) (fun _ _ _ h => h) (by rfl) hS0 ?h9_6 ?r9_6
                        case h9_6 => (intro u hu; (try dsimp only at hu); go_simp; first | done | with_reducible rfl)
                        (try simp only [Act.put, tkS])
                        refine upTo_tk (i := 7) (v := ?v9_7) rfl (by kernel_rfl) (fun _ _ _ h => h) (by rfl) hS0 ?h9_7 ?r9_7
                        case h9_7 => (intro u hu; (try dsimp only at hu); go_simp; first | done | with_reducible rfl)
                        (try simp only [Act.put, tkS])
                        refine upTo_tk (i := 8) (v := ?v9_8) rfl (by kernel_rfl) (fun _ _ _ h => h) (by rfl) hS0 ?h9_8 ?r9_8
                        case h9_8 => (intro u hu; (try dsimp only at hu); go_simp; first | done | with_reducible rfl)
                        (try simp only [Act.put, tkS])
                        refine upTo_tk (i := 9) (v := ?v9_9) rfl (by kernel_rfl) (fun _ _ _ h => h) (by rfl) hS0 ?h9_9 ?r9_9
                        case h9_9 => (intro u hu; (try dsimp only at hu); go_simp; first | done | with_reducible rfl)
                        (try simp only [Act.put, tkS])
                        refine upTo_tk (i := 10) (v := ?v9_10) rfl (by kernel_rfl) (fun _ _ _ h => h) (by rfl) hS0 ?h9_10 ?r9_10
                        case h9_10 => (intro u hu; (try dsimp only at hu); go_simp; first | done | with_reducible rfl)
                        (try simp only [Act.put, tkS])
                        refine upTo_tk (i := 11) (v := ?v9_11) rfl (by kernel_rfl) (fun _ _ _ h => h) (by rfl) hS0 ?h9_11 ?r9_11
                        case h9_11 => (intro u hu; (try dsimp only at hu); go_simp; first | done | with_reducible rfl)
                        (try simp only [Act.put, tkS])
                        refine upTo_tk (i := 12) (v := ?v9_12) rfl (by kernel_rfl) (fun _ _ _ h => h) (by rfl) hS0 ?h9_12 ?r9_12
                        case h9_12 => (intro u hu; (try dsimp only at hu); go_simp; first | done | with_reducible rfl)
                        (try simp only [Act.put, tkS])
                        refine upTo_tk (i := 13) (v := ?v9_13) rfl (by kernel_rfl) (fun _ _ _ h => h) (by rfl) hS0 ?h9_13 ?r9_13
                        case h9_13 => (intro u hu; (try dsimp only at hu); go_simp; first | done | with_reducible rfl)
                        (try simp only [Act.put, tkS])
                        refine upTo_tk (i := 14) (v := ?v9_14) rfl (by kernel_rfl) (fun _ _ _ h => h) (by rfl) hS0 ?h9_14 ?r9_14
                        case h9_14 => (intro u hu; (try dsimp only at hu); go_simp; first | done | with_reducible rfl)
                        (try simp only [Act.put, tkS])
                        refine upTo_tk (i := 15) (v := ?v9_15) rfl (by kernel_rfl) (fun _ _ _ h => h) (by rfl) hS0 ?h9_15 ?r9_15
                        case h9_15 => (intro u hu; (try dsimp only at hu); go_simp; first | done | with_reducible rfl)
                        (try simp only [Act.put, tkS])
                        refine upTo_tk (i := 16) (v := ?v9_16) rfl (by kernel_rfl) (fun _ _ _ h => h) (by rfl) hS0 ?h9_16 ?r9_16
                        case h9_16 => (intro u hu; (try dsimp only at hu); go_simp; first | done | with_reducible rfl)
                        (try simp only [Act.put, tkS])
                        refine upTo_tk (i := 17) (v := ?v9_17) rfl (by kernel_rfl) (fun _ _ _ h => h) (by rfl) hS0 ?h9_17 ?r9_17
                        case h9_17 => (intro u hu; (try dsimp only at hu); go_simp; first | done | with_reducible rfl)
                        (try simp only [Act.put, tkS])
                        refine upTo_tk (i := 18) (v := ?v9_18) rfl (by kernel_rfl) (fun _ _ _ h => h) (by rfl) hS0 ?h9_18 ?r9_18
                        case h9_18 => (intro u hu; (try dsimp only at hu); go_simp; first | done | with_reducible rfl)
                        (try simp only [Act.put, tkS])
                        refine upTo_tk (i := 19) (v := ?v9_19) rfl (by kernel_rfl) (fun _ _ _ h => h) (by rfl) hS0 ?h9_19 ?r9_19
                        case h9_19 => (intro u hu; (try dsimp only at hu); go_simp; first | done | with_reducible rfl)
                        (try simp only [Act.put, tkS])
                        refine upTo_tk (i := 20) (v := ?v9_20) rfl (by kernel_rfl) (fun _ _ _ h => h) (by rfl) hS0 ?h9_20 ?r9_20
                        case h9_20 => (intro u hu; (try dsimp only at hu); go_simp; first | done | with_reducible rfl)
                        (try simp only [Act.put, tkS])
                        refine upTo_one (i := 21) (by kernel_rfl) rfl (fun K hK => ?_)
                        go_simp
                        refine hK.out _ _ (fun _ => ⟨(HH.out.alloc _).cells.2.1, (HBx.out.alloc _).cell 2, (HH.out.alloc _).cfg.1, by have := (HH.out.alloc (.cells #[.int .i64 (EE.ts - R5.c.slack)] 3)).srcCell i 2 hi (by omega); simpa [RSrc.vals] using this⟩) ?_
                        clear hK K
                        (try simp only [Act.put, tkS])
                        refine upTo_one (i := 22) (by kernel_rfl) rfl (fun K hK => ?_)
                        refine step_append_lies _ (by rfl) _ _ _ (by rfl) 0 3 i0 _ 1 8 Tryz.underlying36 hi0 hz0 hz1 hz2 rfl (by omega) (.slice R5.srcs[i].ma R5.srcs[i].marks.length R5.srcs[i].mc) R5.srcs[i].marks.length (ints R5.srcs[i].marks) (by rfl) (ownsRow_of_heap HM.out (fun k hk => Below.heap_alloc _ _ _ hk)) ⟨wc.heap.size, 0, none⟩ 1 1 [.int .i64 (EE.ts - R5.c.slack)] (by rfl) (by rfl) (World.news_of_block (cs := #[.int .i64 (EE.ts - R5.c.slack)]) (t := 3) (fr := (0, 0)) (heap_alloc_new wc _)) (by simp [Value.oneCell']) (by omega) (by unfold maxLen; omega) (by omega) (by omega) (wc.heap.size + 1) (by simp) ?_
                        intro gg cap w1 hown1 hgrow hat hlt1
                        have hb0 : Below wc.heap.size wc (wc.alloc (.cells #[.int .i64 (EE.ts - R5.c.slack)] 3)).drew := ((Below.refl _ wc).alloc (Nat.le_refl _) _).drew
                        obtain ⟨q0, q3, q4, qk⟩ := tS HH.out hb0 hi hown1 hgrow hat
                        refine hK.out _ _ (fun _ => ⟨q0.cell 9, (HBx.out.kept qk HNe.out).cell 2, q0.cell 1, q3⟩) ?_
                        clear hK K hS0
                        (try simp only [Act.put, tkS])
                        refine upTo_one (i := 23) (by kernel_rfl) rfl (fun K hK => ?_)
                        go_simp
                        refine hK.out _ _ (fun _ => ⟨q0.cell 9, (HBx.out.kept qk HNe.out).cell 2, q0.cell 1, q3⟩) ?_
                        clear hK K
                        (try simp only [Act.put, tkS])
                        refine upTo_one (i := 24) (by kernel_rfl) rfl (fun K hK => ?_)
                        go_simp
                        refine hK.out _ _ (fun _ => ⟨q0.cell 9, (HBx.out.kept qk HNe.out).cell 2, q0.cell 1, q3⟩) ?_
                        clear hK K
                        (try simp only [Act.put, tkS])
                        refine upTo_one (i := 25) (by kernel_rfl) rfl (fun K hK => ?_)
                        go_simp
                        refine hK.out _ _ (fun h => absurd rfl h) ?_
                        clear hK K
                        (try simp only [Act.put, tkS])
                        refine upTo_done (by kernel_rfl) ?_
                        obtain ⟨R6, HR6⟩ := hex ({ R5 with srcs := R5.srcs.set i { R5.srcs[i] with marks := R5.srcs[i].marks ++ [(EE.ts - R5.c.slack)], ma := some ⟨gg, 0, none⟩, mc := cap } } : Ref)
                        have HE6 : Hid (Evo wc b R5 (w1.setCell ⟨R5.sg, i * 5 + 2, none⟩ (.slice (some ⟨gg, 0, none⟩) (R5.srcs[i].marks.length + 1) cap)) R6) := by show Evo _ _ _ _ _; rw [HR6.out]; exact HH.out.appMarkE hb0 hi hown1 hgrow hat
                        clear q0 q3 q4 qk c9 s2 hown1 hgrow hat hlt1 hb0 HM
                        generalize w1.setCell ⟨R5.sg, i * 5 + 2, none⟩ (.slice (some ⟨gg, 0, none⟩) (R5.srcs[i].marks.length + 1) cap) = wy at *
                        go_wp2
                        go_meet
                        case rel => exact ⟨R6, Or.inr ⟨by simp, _, _, HR6.out⟩, HE6.out⟩
                  case rest =>
                    obtain ⟨R6, hmk6, hev6⟩ := hcut
                    have HE6 : Hid (Evo _ b R5 wc R6) := hev6
                    have HK6 : Hid ((late = true ∧ R6 = R5) ∨ (late = false ∧ ∃ ma mc, R6 = { R5 with srcs := R5.srcs.set i { R5.srcs[i] with marks := R5.srcs[i].marks ++ [EE.ts - R5.c.slack], ma := ma, mc := mc } })) := hmk6
                    clear hmk6 hev6
                    have HQ6 : Hid (R6.all.length ≤ 201 ∧ R6.srcs.length ≤ 6 ∧ ∀ x ∈ R6.all, -4398046511104 ≤ x.ts ∧ x.ts ≤ 4398046511104) := by
                      show _ ∧ _ ∧ _
                      have a6 : R6.all = R5.all ∧ R6.srcs.length = R5.srcs.length := by
                        rcases HK6.out with ⟨_, e⟩ | ⟨_, ma, mc, e⟩
                        · rw [e]; exact ⟨rfl, rfl⟩
                        · rw [e]; exact ⟨rfl, by simp⟩
                      refine ⟨by rw [a6.1]; exact hq5.out.2.2.1, by rw [a6.2, hq5.out.2.2.2]; exact HSn.out.n, ?_⟩
                      rw [a6.1]
                      have hts' := HSn.out.ts'
                      rcases HPl.out with ⟨_, aa, ac, e⟩ | ⟨_, _, da, dc, e⟩ | ⟨_, _, e⟩
                      · rw [e]
                        simp only
                        rw [hq.out.1]
                        intro x hx
                        rcases List.mem_append.1 hx with hx | hx
                        · exact hts' x hx
                        · simp only [List.mem_singleton] at hx; subst hx; omega
                      · rw [e]; simp only; rw [hq.out.1]; exact hts'
                      · rw [e, hq.out.1]; exact hts'
                    have HPo : Hid (PushOk R i E R6.settled) := push_close HX.out HR0.out HR1.out hi HRZ.out HPl.out hi5 HK6.out HEE.out hst HL.out
                    go_wp2_with (go_at_call 54; refine (rsettleE b R6 _ HE6.out.mem (by have := HQ6.out.1; omega) HQ6.out.2.1 HQ6.out.2.2).mono ?_; rintro e w9 ⟨rfl, hev⟩)
                    go_ret
                    exact Or.inr ⟨hfu, rfl, R6.settled, HPo.out, ((((HEv7.out.trans HE1.out).trans HE2.out).trans HE5.out).trans HE6.out).trans hev⟩
end Go.Proofs.YtghcololkgeoeabGreat
