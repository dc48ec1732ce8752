import Derived.Test.YtghcololkgeoeabGreatPartD4
import Derived.Test.YtghcololkgeoeabGreatPartF6
import Derived.Test.YtghcololkgeoeabGreatPartQ3
namespace Go.Proofs.YtghcololkgeoeabGreat
open Go.RowKit
set_option linter.unusedVariables false
set_option linter.unusedSimpArgs false
attribute [local go_sem ↓] Go.wp_at_zero Go.wp_at_succ

theorem does_any6 (N : Nat) (w0 w : World) (wb xb rb : Nat) (X : Eng) (R : Ref) (a : Option Addr) (c : Nat) (l : Lz) (o : OpR) (h : PInv w0 w wb xb rb X R a c l) (hb : Both N X R) (hN : N ≤ 400000000000) (hl : l.length ≤ 5000000000000) (hk : (1 ≤ o.k ∧ o.k ≤ 6) ∨ (7 ≤ o.k ∧ o.k ≤ 10)) :
    Calls Tryz.prog 7 #[.pointer (some ⟨wb, 0, none⟩), opVal o.k o.A o.E o.S] w fun e w' => e = .returned (.bool true) ∧ ∃ X' R' a' c' l', l'.length ≤ l.length + 1 ∧ PInv w0 w' wb xb rb X' R' a' c' l' ∧ Both (N + 5000) X' R' := by
  by_cases h6 : o.k = 6
  · obtain ⟨k, A, E, S⟩ := o
    simp only at h6 ⊢
    subst h6
    exact (does_feed N w0 w wb xb rb X R a c l A E S h hb hN).mono fun e w' ⟨he, X', R', hP, hB⟩ => ⟨he, X', R', a, c, l, Nat.le_succ _, hP, hB⟩
  · exact (does_any N w0 w wb xb rb X R a c l o h hb (by omega) hl (by omega)).mono fun e w' ⟨he, X', R', a', c', l', hl', hP, hB⟩ => ⟨he, X', R', a', c', l', hl', hP, hB.mono (by omega)⟩
theorem does_any7 (N : Nat) (w0 w : World) (wb xb rb : Nat) (X : Eng) (R : Ref) (a : Option Addr) (c : Nat) (l : Lz) (o : OpR) (h : PInv w0 w wb xb rb X R a c l) (hb : Both N X R) (hN : N ≤ 400000000000) (hl : l.length ≤ 30000000000) (hk : (1 ≤ o.k ∧ o.k ≤ 6) ∨ (7 ≤ o.k ∧ o.k ≤ 11)) :
    Calls Tryz.prog 7 #[.pointer (some ⟨wb, 0, none⟩), opVal o.k o.A o.E o.S] w fun e w' => e = .returned (.bool true) ∧ ∃ X' R' a' c' l', l'.length ≤ l.length + 1 ∧ PInv w0 w' wb xb rb X' R' a' c' l' ∧ Both (N + 5000) X' R' := by
  by_cases h11 : o.k = 11
  · obtain ⟨k, A, E, S⟩ := o
    simp only at h11 ⊢
    subst h11
    exact (does_found N w0 w wb xb rb X R a c l A E S h hb hl).mono fun e w' ⟨he, a', c', l', hl', hP⟩ => ⟨he, X, R, a', c', l', hl', hP, hb.mono (by omega)⟩
  · exact does_any6 N w0 w wb xb rb X R a c l o h hb hN (by omega) (by omega)
set_option maxRecDepth 100000 in
set_option maxHeartbeats 8000000 in
theorem plays7_walk (c : Cfg) (hs : c.pat.size ≤ maxLen) (sa : Option Addr) (sc : Nat) (ops : List OpR) (ka : Option Addr) (kc : Nat) (ks : List Int) (w : World) (hsc : Script w sa ops) (hkr : Row w 3 1 ka ks.length kc (ints ks)) (hks : ∀ k ∈ ks, (1 ≤ k ∧ k ≤ 6) ∨ k = 11) (hkl : ks.length ≤ 10) (hlen : ops.length ≤ 20000000) :
    Calls Tryz.prog 8 #[c.agg, .slice sa ops.length sc, .slice ka ks.length kc] w fun e w' => e = .returned (.bool true) ∧ Below w.heap.size w w' := by
  have HB0 : Hid (Below w.heap.size w (w.alloc (.cells c.vals.toArray 27))) := (Below.refl _ _).alloc (Nat.le_refl _) _
  have HSc : Hid (Script w sa ops) := hsc
  have HKr : Hid (Row w 3 1 ka ks.length kc (ints ks)) := hkr
  have HKs : Hid (∀ k ∈ ks, (1 ≤ k ∧ k ≤ 6) ∨ k = 11) := hks
  clear hsc hkr hks
  by_cases hok : c.ok
  · have HOK : Hid c.ok := hok
    clear hok
    have hbg : ∀ w', Below w.heap.size w w' → Calls Tryz.prog 5 #[.agg #[.int .i64 c.sources, .int .i64 c.slack, .int .i64 c.policy, .int .i64 c.room, .int .i64 c.idle, .string c.pat]] w' fun e w2 => ∃ wb xb rb X R, e = .returned (.tuple #[.pointer (some ⟨wb, 0, none⟩), .bool true]) ∧ PInv w w2 wb xb rb X R none 0 Lz.nil ∧ Both 0 X R := fun w' h => begun_p c w w' h HOK.out
    unfold Cfg.agg
    go_enter Tryz.func8, Tryz.ntmps8
    go_upto_region 4 with (go_at_call 5; refine (hbg _ HB0.out).mono ?_; rintro e w2 ⟨wb, xb, rb, X0, R0, rfl, hP, hBo⟩)
    have HP0 : Hid (PInv w w2 wb xb rb X0 R0 none 0 Lz.nil) := hP
    have HBo0 : Hid (Both 0 X0 R0) := hBo
    clear hP hBo hbg
    go_upto_region 5 with fail
    go_loopw [9] (fun i wr => ∃ (k : Nat) (X : Eng) (R : Ref) (a : Option Addr) (cc : Nat) (l : Lz), k ≤ ops.length ∧ i = .int .i64 k ∧ l.length ≤ k ∧ PInv w wr wb xb rb X R a cc l ∧ Both (5000 * k) X R) (fun i _ => ops.length - (intOf i).toNat)
    case atStart => exact ⟨0, X0, R0, none, 0, Lz.nil, Nat.zero_le _, rfl, Nat.le_refl _, HP0.out, HBo0.out⟩
    case round =>
      obtain ⟨k, X, R, a, cc, l, hk, rfl, hl, hP, hBo⟩ := hrel
      have HP : Hid (PInv w wr wb xb rb X R a cc l) := hP
      have HBo : Hid (Both (5000 * k) X R) := hBo
      clear hP hBo HP0 HBo0
      by_cases hlt : k < ops.length
      · have hlt' : (k : Int) < (ops.length : Int) := by omega
        have hk0 : (0 : Int) ≤ (k : Int) := by omega
        obtain ⟨sb, so, hsa, hcs⟩ := HSc.out k hlt
        have hsb : ∀ o, o < 8 → wr.cell? ⟨sb, so + k * 8 + o, none⟩ = ops[k].cells[o]? := by
          intro o ho
          have h1 := hcs o ho
          have h2 : ∃ v, ops[k].cells[o]? = some v := ⟨_, List.getElem?_eq_getElem (show o < ops[k].cells.length from ho)⟩
          obtain ⟨v, hv⟩ := h2
          rw [hv] at h1 ⊢
          exact (HP.out.bel.cell (p := ⟨sb, so + k * 8 + o, none⟩) (World.block_lt_of_cell? w _ h1)).trans h1
        obtain ⟨O, HO⟩ := hex ops[k]
        rw [← HO.out] at hsb
        have o0 := hsb 0 (by omega)
        have o1 := hsb 1 (by omega)
        have o2 := hsb 2 (by omega)
        have o3 := hsb 3 (by omega)
        have o4 := hsb 4 (by omega)
        have o5 := hsb 5 (by omega)
        have o6 := hsb 6 (by omega)
        have o7 := hsb 7 (by omega)
        simp only [OpR.cells, opCells, List.getElem?_cons_zero, List.getElem?_cons_succ, Nat.add_zero] at o0 o1 o2 o3 o4 o5 o6 o7
        clear hsb hcs
        rw [hsa]
        have HSA : Hid (sa = some ⟨sb, so, none⟩) := hsa
        clear hsa
        go_upto_region 8 with fail
        obtain ⟨p0, HW0⟩ := hex (wr.alloc (.cells O.cells.toArray 32))
        have hw0 : wr.alloc (.cells #[.int .i64 O.k, .int .i64 O.A, .int .i64 O.E.src, .int .i64 O.E.seq, .int .i64 O.E.ts, .int .i64 O.E.kind, .int .i64 O.E.val, .string O.S] 32) = p0 := HW0.out.symm
        rw [hw0]
        obtain ⟨ob, HOb⟩ := hex wr.heap.size
        have HL0 : Hid (Below wr.heap.size wr p0) := by show Below _ _ _; rw [HW0.out]; exact (Below.refl _ _).alloc (Nat.le_refl _) _
        have HO0 : Hid (Blk p0 ob 32 O.cells) := by show Blk _ _ _ _; rw [HW0.out, HOb.out]; exact blk_alloc _ _ _
        rw [← HOb.out]
        clear hw0 HW0 o0 o1 o2 o3 o4 o5 o6 o7
        have HPp : Hid (PInv w p0 wb xb rb X R a cc l) := HP.out.below HL0.out
        have o0 := HO0.out.cell 0
        simp only [OpR.cells, opCells, List.getElem?_cons_zero, List.getElem?_cons_succ] at o0
        by_cases h7 : 7 ≤ O.k
        · by_cases h10 : O.k ≤ 10
          · have hin0 : Hid (true = kindIn O.k (ks.take 0)) := by show _ = _; simp [kindIn, h7, h10]
            go_upto_region 10 with fail
            go_loopw [11, 12] (fun v j wx => ∃ (q m : Nat), q ≤ ks.length ∧ j = .int .i64 q ∧ v = .bool (kindIn O.k (ks.take q)) ∧ wx = p0.drewN m) (fun _ j _ => ks.length - (intOf j).toNat)
            case atStart => exact ⟨0, 0, Nat.zero_le _, rfl, by rw [← hin0.out], rfl⟩
            case round =>
              obtain ⟨q, m, hq, rfl, rfl, hwx⟩ := hrel
              have HWx : Hid (wr = p0.drewN m) := hwx
              clear hwx
              have o0x : wr.cell? ⟨ob, 0, none⟩ = some (.int .i64 O.k) := by rw [HWx.out]; exact o0
              by_cases hqt : q < ks.length
              · have hqt' : (q : Int) < (ks.length : Int) := by omega
                have hq0 : (0 : Int) ≤ (q : Int) := by omega
                obtain ⟨kb, hkb, _, _, hkc, _⟩ := HKr.out.form (by omega)
                have hkq := hkc q (by omega)
                rw [ints_get ks q hqt] at hkq
                have hkx : wr.cell? ⟨kb, q, none⟩ = some (.int .i64 ks[q]) := by
                  rw [HWx.out]
                  exact (HPp.out.bel.cell (p := ⟨kb, q, none⟩) (World.block_lt_of_cell? w _ hkq)).trans hkq
                have HKn : Hid (kindIn O.k (ks.take (q + 1)) = (kindIn O.k (ks.take q) || O.k == ks[q])) := kindIn_snoc O.k ks q hqt
                rw [hkb]
                clear hkq hkc
                obtain ⟨kq, HKq⟩ := hex ks[q]
                rw [← HKq.out] at hkx HKn
                generalize kindIn O.k (ks.take q) = t0 at *
                cases t0 with
                | true =>
                  go_wp2
                  go_quiet (fail)
                  go_wp2
                  go_roundw
                  case rel => exact ⟨q + 1, m + _, by omega, by go_num, by rw [HKn.out]; rfl, by rw [HWx.out, drewN2]⟩
                  case measure => simp [intOf]; omega
                | false =>
                  go_wp2
                  go_quiet (fail)
                  go_wp2
                  go_roundw
                  case rel => exact ⟨q + 1, m + _, by omega, by go_num, by rw [HKn.out]; rfl, by rw [HWx.out, drewN2]⟩
                  case measure => simp [intOf]; omega
              · obtain rfl : q = ks.length := by omega
                have HKf : Hid (kindIn O.k (ks.take ks.length) = kindIn O.k ks) := by show _ = _; rw [List.take_length]
                have HPx : Hid (PInv w wr wb xb rb X R a cc l) := by show PInv _ _ _ _ _ _ _ _ _ _; rw [HWx.out]; exact HPp.out.below (bdrewN (Below.refl _ _) m)
                have HOx : Hid (Blk wr ob 32 O.cells) := by show Blk _ _ _ _; rw [HWx.out]; exact HO0.out
                rw [HKf.out]
                cases hki : kindIn O.k ks with
                | false =>
                  go_wp2
                  go_roundw
                  case rel => exact ⟨k + 1, X, R, a, cc, l, by omega, by go_num, by omega, HPx.out, HBo.out.mono (by omega)⟩
                  case measure => simp [intOf]; omega
                | true =>
                  have HKk : Hid ((1 ≤ O.k ∧ O.k ≤ 6) ∨ (7 ≤ O.k ∧ O.k ≤ 11)) := by
                    show _ ∨ _
                    unfold kindIn at hki
                    rw [Bool.or_eq_true] at hki
                    rcases hki with hki | hki
                    · have hk2 : 7 ≤ O.k ∧ O.k ≤ 10 := by simpa using hki
                      omega
                    · rw [List.any_eq_true] at hki
                      obtain ⟨x, hx, he⟩ := hki
                      have he' : O.k = x := by simpa using he
                      have := HKs.out x hx
                      omega
                  clear hki HKf
                  have x0 := HOx.out.cell 0
                  have x1 := HOx.out.cell 1
                  have x2 := HOx.out.cell 2
                  have x3 := HOx.out.cell 3
                  have x4 := HOx.out.cell 4
                  have x5 := HOx.out.cell 5
                  have x6 := HOx.out.cell 6
                  have x7 := HOx.out.cell 7
                  simp only [OpR.cells, opCells, List.getElem?_cons_zero, List.getElem?_cons_succ] at x0 x1 x2 x3 x4 x5 x6 x7
                  have HD : Hid (Calls Tryz.prog 7 #[.pointer (some ⟨wb, 0, none⟩), .agg #[.int .i64 O.k, .int .i64 O.A, .int .i64 O.E.src, .int .i64 O.E.seq, .int .i64 O.E.ts, .int .i64 O.E.kind, .int .i64 O.E.val, .string O.S]] wr fun e w' => e = .returned (.bool true) ∧ ∃ X' R' a' c' l', l'.length ≤ l.length + 1 ∧ PInv w w' wb xb rb X' R' a' c' l' ∧ Both (5000 * k + 5000) X' R') := does_any7 (5000 * k) w wr wb xb rb X R a cc l O HPx.out HBo.out (by omega) (by omega) HKk.out
                  clear o0x
                  go_upto_region 17 with (go_at_call 7; refine HD.out.mono ?_; rintro e w5 ⟨rfl, X2, R2, a2, c2, l2, hl2, hP2, hB2⟩)
                  have HP2 : Hid (PInv w w5 wb xb rb X2 R2 a2 c2 l2) := hP2
                  have HB2 : Hid (Both (5000 * k + 5000) X2 R2) := hB2
                  clear hP2 hB2 HD x0 x1 x2 x3 x4 x5 x6 x7
                  go_wp2_with (go_at_call 34; refine (looksZ_true wb _ _ a2 c2 l2 _ HP2.out.inv.blk HP2.out.inv.ls (by omega)).mono ?_; rintro e w6 ⟨rfl, hb6⟩)
                  go_roundw
                  case rel => exact ⟨k + 1, X2, R2, a2, c2, l2, by omega, by go_num, by omega, HP2.out.below hb6, by have := HB2.out; rw [show 5000 * (k + 1) = 5000 * k + 5000 by omega]; exact this⟩
                  case measure => simp [intOf]; omega
          · have hin0 : Hid (false = kindIn O.k (ks.take 0)) := by show _ = _; simp [kindIn, h10]
            have d10 : decide (O.k ≤ 10) = false := by simpa using h10
            go_upto_region 10 with fail
            go_loopw [11, 12] (fun v j wx => ∃ (q m : Nat), q ≤ ks.length ∧ j = .int .i64 q ∧ v = .bool (kindIn O.k (ks.take q)) ∧ wx = p0.drewN m) (fun _ j _ => ks.length - (intOf j).toNat)
            case atStart => exact ⟨0, 0, Nat.zero_le _, rfl, by rw [← hin0.out], rfl⟩
            case round =>
              obtain ⟨q, m, hq, rfl, rfl, hwx⟩ := hrel
              have HWx : Hid (wr = p0.drewN m) := hwx
              clear hwx
              have o0x : wr.cell? ⟨ob, 0, none⟩ = some (.int .i64 O.k) := by rw [HWx.out]; exact o0
              by_cases hqt : q < ks.length
              · have hqt' : (q : Int) < (ks.length : Int) := by omega
                have hq0 : (0 : Int) ≤ (q : Int) := by omega
                obtain ⟨kb, hkb, _, _, hkc, _⟩ := HKr.out.form (by omega)
                have hkq := hkc q (by omega)
                rw [ints_get ks q hqt] at hkq
                have hkx : wr.cell? ⟨kb, q, none⟩ = some (.int .i64 ks[q]) := by
                  rw [HWx.out]
                  exact (HPp.out.bel.cell (p := ⟨kb, q, none⟩) (World.block_lt_of_cell? w _ hkq)).trans hkq
                have HKn : Hid (kindIn O.k (ks.take (q + 1)) = (kindIn O.k (ks.take q) || O.k == ks[q])) := kindIn_snoc O.k ks q hqt
                rw [hkb]
                clear hkq hkc
                obtain ⟨kq, HKq⟩ := hex ks[q]
                rw [← HKq.out] at hkx HKn
                generalize kindIn O.k (ks.take q) = t0 at *
                cases t0 with
                | true =>
                  go_wp2
                  go_quiet (fail)
                  go_wp2
                  go_roundw
                  case rel => exact ⟨q + 1, m + _, by omega, by go_num, by rw [HKn.out]; rfl, by rw [HWx.out, drewN2]⟩
                  case measure => simp [intOf]; omega
                | false =>
                  go_wp2
                  go_quiet (fail)
                  go_wp2
                  go_roundw
                  case rel => exact ⟨q + 1, m + _, by omega, by go_num, by rw [HKn.out]; rfl, by rw [HWx.out, drewN2]⟩
                  case measure => simp [intOf]; omega
              · obtain rfl : q = ks.length := by omega
                have HKf : Hid (kindIn O.k (ks.take ks.length) = kindIn O.k ks) := by show _ = _; rw [List.take_length]
                have HPx : Hid (PInv w wr wb xb rb X R a cc l) := by show PInv _ _ _ _ _ _ _ _ _ _; rw [HWx.out]; exact HPp.out.below (bdrewN (Below.refl _ _) m)
                have HOx : Hid (Blk wr ob 32 O.cells) := by show Blk _ _ _ _; rw [HWx.out]; exact HO0.out
                rw [HKf.out]
                cases hki : kindIn O.k ks with
                | false =>
                  go_wp2
                  go_roundw
                  case rel => exact ⟨k + 1, X, R, a, cc, l, by omega, by go_num, by omega, HPx.out, HBo.out.mono (by omega)⟩
                  case measure => simp [intOf]; omega
                | true =>
                  have HKk : Hid ((1 ≤ O.k ∧ O.k ≤ 6) ∨ (7 ≤ O.k ∧ O.k ≤ 11)) := by
                    show _ ∨ _
                    unfold kindIn at hki
                    rw [Bool.or_eq_true] at hki
                    rcases hki with hki | hki
                    · have hk2 : 7 ≤ O.k ∧ O.k ≤ 10 := by simpa using hki
                      omega
                    · rw [List.any_eq_true] at hki
                      obtain ⟨x, hx, he⟩ := hki
                      have he' : O.k = x := by simpa using he
                      have := HKs.out x hx
                      omega
                  clear hki HKf
                  have x0 := HOx.out.cell 0
                  have x1 := HOx.out.cell 1
                  have x2 := HOx.out.cell 2
                  have x3 := HOx.out.cell 3
                  have x4 := HOx.out.cell 4
                  have x5 := HOx.out.cell 5
                  have x6 := HOx.out.cell 6
                  have x7 := HOx.out.cell 7
                  simp only [OpR.cells, opCells, List.getElem?_cons_zero, List.getElem?_cons_succ] at x0 x1 x2 x3 x4 x5 x6 x7
                  have HD : Hid (Calls Tryz.prog 7 #[.pointer (some ⟨wb, 0, none⟩), .agg #[.int .i64 O.k, .int .i64 O.A, .int .i64 O.E.src, .int .i64 O.E.seq, .int .i64 O.E.ts, .int .i64 O.E.kind, .int .i64 O.E.val, .string O.S]] wr fun e w' => e = .returned (.bool true) ∧ ∃ X' R' a' c' l', l'.length ≤ l.length + 1 ∧ PInv w w' wb xb rb X' R' a' c' l' ∧ Both (5000 * k + 5000) X' R') := does_any7 (5000 * k) w wr wb xb rb X R a cc l O HPx.out HBo.out (by omega) (by omega) HKk.out
                  clear o0x
                  go_upto_region 17 with (go_at_call 7; refine HD.out.mono ?_; rintro e w5 ⟨rfl, X2, R2, a2, c2, l2, hl2, hP2, hB2⟩)
                  have HP2 : Hid (PInv w w5 wb xb rb X2 R2 a2 c2 l2) := hP2
                  have HB2 : Hid (Both (5000 * k + 5000) X2 R2) := hB2
                  clear hP2 hB2 HD x0 x1 x2 x3 x4 x5 x6 x7
                  go_wp2_with (go_at_call 34; refine (looksZ_true wb _ _ a2 c2 l2 _ HP2.out.inv.blk HP2.out.inv.ls (by omega)).mono ?_; rintro e w6 ⟨rfl, hb6⟩)
                  go_roundw
                  case rel => exact ⟨k + 1, X2, R2, a2, c2, l2, by omega, by go_num, by omega, HP2.out.below hb6, by have := HB2.out; rw [show 5000 * (k + 1) = 5000 * k + 5000 by omega]; exact this⟩
                  case measure => simp [intOf]; omega
        · have hin0 : Hid (false = kindIn O.k (ks.take 0)) := by show _ = _; simp [kindIn, h7]
          have d7 : decide (7 ≤ O.k) = false := by simpa using h7
          go_upto_region 10 with fail
          go_loopw [11, 12] (fun v j wx => ∃ (q m : Nat), q ≤ ks.length ∧ j = .int .i64 q ∧ v = .bool (kindIn O.k (ks.take q)) ∧ wx = p0.drewN m) (fun _ j _ => ks.length - (intOf j).toNat)
          case atStart => exact ⟨0, 0, Nat.zero_le _, rfl, by rw [← hin0.out], rfl⟩
          case round =>
            obtain ⟨q, m, hq, rfl, rfl, hwx⟩ := hrel
            have HWx : Hid (wr = p0.drewN m) := hwx
            clear hwx
            have o0x : wr.cell? ⟨ob, 0, none⟩ = some (.int .i64 O.k) := by rw [HWx.out]; exact o0
            by_cases hqt : q < ks.length
            · have hqt' : (q : Int) < (ks.length : Int) := by omega
              have hq0 : (0 : Int) ≤ (q : Int) := by omega
              obtain ⟨kb, hkb, _, _, hkc, _⟩ := HKr.out.form (by omega)
              have hkq := hkc q (by omega)
              rw [ints_get ks q hqt] at hkq
              have hkx : wr.cell? ⟨kb, q, none⟩ = some (.int .i64 ks[q]) := by
                rw [HWx.out]
                exact (HPp.out.bel.cell (p := ⟨kb, q, none⟩) (World.block_lt_of_cell? w _ hkq)).trans hkq
              have HKn : Hid (kindIn O.k (ks.take (q + 1)) = (kindIn O.k (ks.take q) || O.k == ks[q])) := kindIn_snoc O.k ks q hqt
              rw [hkb]
              clear hkq hkc
              obtain ⟨kq, HKq⟩ := hex ks[q]
              rw [← HKq.out] at hkx HKn
              generalize kindIn O.k (ks.take q) = t0 at *
              cases t0 with
              | true =>
                go_wp2
                go_quiet (fail)
                go_wp2
                go_roundw
                case rel => exact ⟨q + 1, m + _, by omega, by go_num, by rw [HKn.out]; rfl, by rw [HWx.out, drewN2]⟩
                case measure => simp [intOf]; omega
              | false =>
                go_wp2
                go_quiet (fail)
                go_wp2
                go_roundw
                case rel => exact ⟨q + 1, m + _, by omega, by go_num, by rw [HKn.out]; rfl, by rw [HWx.out, drewN2]⟩
                case measure => simp [intOf]; omega
            · obtain rfl : q = ks.length := by omega
              have HKf : Hid (kindIn O.k (ks.take ks.length) = kindIn O.k ks) := by show _ = _; rw [List.take_length]
              have HPx : Hid (PInv w wr wb xb rb X R a cc l) := by show PInv _ _ _ _ _ _ _ _ _ _; rw [HWx.out]; exact HPp.out.below (bdrewN (Below.refl _ _) m)
              have HOx : Hid (Blk wr ob 32 O.cells) := by show Blk _ _ _ _; rw [HWx.out]; exact HO0.out
              rw [HKf.out]
              cases hki : kindIn O.k ks with
              | false =>
                go_wp2
                go_roundw
                case rel => exact ⟨k + 1, X, R, a, cc, l, by omega, by go_num, by omega, HPx.out, HBo.out.mono (by omega)⟩
                case measure => simp [intOf]; omega
              | true =>
                have HKk : Hid ((1 ≤ O.k ∧ O.k ≤ 6) ∨ (7 ≤ O.k ∧ O.k ≤ 11)) := by
                  show _ ∨ _
                  unfold kindIn at hki
                  rw [Bool.or_eq_true] at hki
                  rcases hki with hki | hki
                  · have hk2 : 7 ≤ O.k ∧ O.k ≤ 10 := by simpa using hki
                    omega
                  · rw [List.any_eq_true] at hki
                    obtain ⟨x, hx, he⟩ := hki
                    have he' : O.k = x := by simpa using he
                    have := HKs.out x hx
                    omega
                clear hki HKf
                have x0 := HOx.out.cell 0
                have x1 := HOx.out.cell 1
                have x2 := HOx.out.cell 2
                have x3 := HOx.out.cell 3
                have x4 := HOx.out.cell 4
                have x5 := HOx.out.cell 5
                have x6 := HOx.out.cell 6
                have x7 := HOx.out.cell 7
                simp only [OpR.cells, opCells, List.getElem?_cons_zero, List.getElem?_cons_succ] at x0 x1 x2 x3 x4 x5 x6 x7
                have HD : Hid (Calls Tryz.prog 7 #[.pointer (some ⟨wb, 0, none⟩), .agg #[.int .i64 O.k, .int .i64 O.A, .int .i64 O.E.src, .int .i64 O.E.seq, .int .i64 O.E.ts, .int .i64 O.E.kind, .int .i64 O.E.val, .string O.S]] wr fun e w' => e = .returned (.bool true) ∧ ∃ X' R' a' c' l', l'.length ≤ l.length + 1 ∧ PInv w w' wb xb rb X' R' a' c' l' ∧ Both (5000 * k + 5000) X' R') := does_any7 (5000 * k) w wr wb xb rb X R a cc l O HPx.out HBo.out (by omega) (by omega) HKk.out
                clear o0x
                go_upto_region 17 with (go_at_call 7; refine HD.out.mono ?_; rintro e w5 ⟨rfl, X2, R2, a2, c2, l2, hl2, hP2, hB2⟩)
                have HP2 : Hid (PInv w w5 wb xb rb X2 R2 a2 c2 l2) := hP2
                have HB2 : Hid (Both (5000 * k + 5000) X2 R2) := hB2
                clear hP2 hB2 HD x0 x1 x2 x3 x4 x5 x6 x7
                go_wp2_with (go_at_call 34; refine (looksZ_true wb _ _ a2 c2 l2 _ HP2.out.inv.blk HP2.out.inv.ls (by omega)).mono ?_; rintro e w6 ⟨rfl, hb6⟩)
                go_roundw
                case rel => exact ⟨k + 1, X2, R2, a2, c2, l2, by omega, by go_num, by omega, HP2.out.below hb6, by have := HB2.out; rw [show 5000 * (k + 1) = 5000 * k + 5000 by omega]; exact this⟩
                case measure => simp [intOf]; omega
      · obtain rfl : k = ops.length := by omega
        go_wp2
        go_ret
        exact ⟨rfl, HP.out.bel⟩
  · have hbg : ∀ w', Calls Tryz.prog 5 #[.agg #[.int .i64 c.sources, .int .i64 c.slack, .int .i64 c.policy, .int .i64 c.room, .int .i64 c.idle, .string c.pat]] w' fun e w2 => e = .returned (.tuple #[.pointer none, .bool true]) ∧ Below w'.heap.size w' w2 := fun w' => begun_bad c w' hs hok
    clear hok
    unfold Cfg.agg
    go_enter Tryz.func8, Tryz.ntmps8
    go_wp2_with (go_at_call 5; refine (hbg _).mono ?_; rintro e w2 ⟨rfl, hb2⟩)
    go_ret
    exact ⟨rfl, HB0.out.trans (hb2.mono (by simp))⟩
end Go.Proofs.YtghcololkgeoeabGreat
