import Derived.Test.YtghcololkgeoeabGreatPartA1
namespace Go.Proofs.YtghcololkgeoeabGreat
open Go.RowKit
open Classical
set_option linter.unusedVariables false
set_option linter.unusedSimpArgs false
attribute [local go_sem ↓] Go.wp_at_zero Go.wp_at_succ
set_option maxRecDepth 100000 in
set_option maxHeartbeats 4000000 in
theorem whole_any (s : ByteArray) (w : World) (hs : s.size ≤ 100) :
    Calls Tryz.prog 38 #[.string s] w (WholeIs s.data.toList w) := by
  obtain ⟨i0, hi0, hz0, hz1, hz2⟩ := info_parts Tryz.infoStep
  by_cases he : s.size = 0
  · have he' : s.toList.isEmpty = true := by rw [ByteArray.toList_eq, bytes_nil he]; rfl
    have hn : s.data.toList = [] := bytes_nil he
    have hw : wholeP s.data.toList := Or.inl hn
    have es : stepsOf [] s.data.toList = ([], []) := by rw [hn, stepsOf]
    go_enter Tryz.func38, Tryz.ntmps38
    go_wp2
    refine bodyPost_ret (v := .tuple #[.agg #[.slice none 0 0, .bool false, .int .i64 0], .bool true]) (by simp [results, Tryz.results38, go_sem]) rfl ⟨none, 0, 0, false, 0, by simp [hw], ?_, fun _ => ⟨?_, ?_, ?_, ?_⟩⟩
    · exact (((Below.refl _ _).alloc (Nat.le_refl _) _).alloc (by simp) _)
    · rw [patSteps, es]; exact World.ownsRow_nil _ _ _ _
    · simp [patSteps, es]
    · simp [patOne, es, oneOf]
    · simp [patWin, es, restOf, oneOf, numOf]
  · have he' : s.toList.isEmpty = false := by rw [ByteArray.toList_eq]; exact bytes_cons he
    go_enter Tryz.func38, Tryz.ntmps38
    go_upto_block 0 with fail
    go_cut [5] (fun i wc => ∃ (k : Nat) (ac : List (Int × Int)) (a : Option Addr) (c : Nat), i = .int .i64 k ∧ k ≤ s.size ∧ Hid (stepsOf [] s.data.toList = (ac, s.data.toList.drop k)) ∧ WRel w wc ac a c false 0)
    case first =>
      go_wp2_with fail
      go_loopw [5] (fun i wc => ∃ (k : Nat) (ac : List (Int × Int)) (a : Option Addr) (c : Nat), i = .int .i64 k ∧ k ≤ s.size ∧ ac.length ≤ k ∧ Hid (stepsOf [] s.data.toList = stepsOf ac (s.data.toList.drop k)) ∧ WRel w wc ac a c false 0) (fun i _ => s.size - (intOf i).toNat)
      case atStart =>
        refine ⟨0, [], none, 0, rfl, Nat.zero_le _, Nat.le_refl _, rfl, ?_, ?_, ?_, ?_⟩
        · exact (blk_alloc _ _ _).alloc _
        · have := blk_alloc (w.alloc (.cells z3.toArray 55)) z3 55
          simpa [z3] using this
        · exact World.ownsRow_nil _ _ _ _
        · exact ((Below.refl _ _).alloc (Nat.le_refl _) _).alloc (by simp) _
      case round =>
        obtain ⟨k, ac, a, c, rfl, hk, hak, HS, hrel⟩ := hrel
        have hpat := hrel.pat
        have p0 := hpat.cell 0
        have q0 := hpat.frozen 0
        simp only [List.getElem?_cons_zero] at p0
        have hsz := hrel.size
        have HR : Hid (WRel w wr ac a c false 0) := hrel
        have HO : Hid (wr.ownsRow (w.heap.size + 2) 134 2 (.slice a ac.length c) ac.length (flat ac)) := hrel.own
        have hp := hpat
        clear hrel hpat
        have n1 : (Value.slice a ac.length c).ownBlock ≠ some (w.heap.size + 1) := fun e => by have := HO.out.lt _ e; omega
        have tn0 : (k : Int).toNat = k := by omega
        have tn1 : ((k : Int) + 1).toNat = k + 1 := by omega
        have tn2 : ((k : Int) + 2).toNat = k + 2 := by omega
        by_cases hlt : k < s.size
        · cases hcap : capAt s.data.toList k with
          | true =>
            have HC : Hid (capAt s.data.toList k = true) := hcap
            have hi1 : (k : Int) < (s.size : Int) := by omega
            have hi2 : (0 : Int) ≤ (k : Int) := by omega
            have hca : ∀ o, (wr.alloc o).cell? ⟨w.heap.size + 1, 0, none⟩ = some (.slice a ac.length c) := fun o => (bS (hp.alloc o)).1
            have hw1 : IntKind.i64.wrap (s[k].toNat : Int) = (s[k].toNat : Int) := wrapB _
            go_wp2_with (go_at_call 78; refine (capital_at s _ _ (by omega) (by omega) (by omega)).mono ?_; rintro e w' ⟨rfl, rfl⟩; simp only [tn0, tn1, tn2, hcap])
            go_region_law
              ((refine step_append_lies _ (by rfl) _ _ _ (by rfl) (w.heap.size + 2) 134 i0 _ 2 16 Tryz.underlying53 hi0 hz0 hz1 hz2 rfl (by omega) (.slice a ac.length c) ac.length (flat ac) (by rfl) ((HO.out.alloc _).drew)
                      ⟨wr.heap.size, 0, none⟩ 1 1 [.int .i64 (s[k].toNat : Int), .int .i64 0] (by rfl) (by rfl) (World.news_of_block (cs := #[.int .i64 (s[k].toNat : Int), .int .i64 0]) (t := 134) (fr := (0, 0)) (heap_alloc_new wr _)) (by simp [Value.oneCell'])
                      (by omega) (by unfold maxLen; omega) (by omega) (by simp; omega) (wr.heap.size + 1) (by simp) ?_; intro gg cap w1 hown1 hgrow hat hlt1; have hc1 := bS ((hp.alloc _).drew.grown hgrow n1)))
            all_goals go_wp2
            all_goals go_roundw
            all_goals first
              | (case rel => exact ⟨k + 1, ac ++ [((s[k].toNat : Int), 0)], some ⟨gg, 0, none⟩, cap, by go_num, by omega, by simp; omega, HS.out.trans (steps_cap hlt HC.out), HR.out.app hown1 hgrow⟩)
              | (case measure => simp [intOf]; omega)
          | false =>
            have HC : Hid (capAt s.data.toList k = false) := hcap
            by_cases hbar : (s[k].toNat : Int) = 33 ∧ capAt s.data.toList (k + 1) = true ∧ capAt s.data.toList (k + 2) = true ∧ 0 < ac.length
            · have HB : Hid ((s[k].toNat : Int) = 33 ∧ capAt s.data.toList (k + 1) = true ∧ capAt s.data.toList (k + 2) = true ∧ 0 < ac.length) := hbar
              obtain ⟨b33, cp1, cp2, hac⟩ := hbar
              have l1 := capAt_true_lt cp1
              have l2 := capAt_true_lt cp2
              have hi1 : (k : Int) + 1 < (s.size : Int) := by omega
              have hi2 : (0 : Int) ≤ (k : Int) + 1 := by omega
              have hi3 : (k : Int) + 2 < (s.size : Int) := by omega
              have hi4 : (0 : Int) ≤ (k : Int) + 2 := by omega
              have hca : ∀ o, (wr.alloc o).cell? ⟨w.heap.size + 1, 0, none⟩ = some (.slice a ac.length c) := fun o => (bS (hp.alloc o)).1
              have hw3 : IntKind.i64.wrap ((k : Int) + 1) = (k : Int) + 1 := by rw [IntKind.wrap_i64]; omega
              have hw4 : IntKind.i64.wrap ((k : Int) + 2) = (k : Int) + 2 := by rw [IntKind.wrap_i64]; omega
              have hw1 : IntKind.i64.wrap (s[k + 1].toNat : Int) = (s[k + 1].toNat : Int) := wrapB _
              have hw2 : IntKind.i64.wrap (s[k + 2].toNat : Int) = (s[k + 2].toNat : Int) := wrapB _
              go_wp2_with (go_at_call 78; refine (capital_at s _ _ (by omega) (by omega) (by omega)).mono ?_; rintro e w' ⟨rfl, rfl⟩; simp only [tn0, tn1, tn2, hcap, cp1, cp2])
              go_region_law
                ((refine step_append_lies _ (by rfl) _ _ _ (by rfl) (w.heap.size + 2) 134 i0 _ 2 16 Tryz.underlying53 hi0 hz0 hz1 hz2 rfl (by omega) (.slice a ac.length c) ac.length (flat ac) (by rfl) ((HO.out.alloc _).drew)
                      ⟨wr.heap.size, 0, none⟩ 1 1 [.int .i64 (s[k + 2].toNat : Int), .int .i64 (s[k + 1].toNat : Int)] (by rfl) (by rfl) (World.news_of_block (cs := #[.int .i64 (s[k + 2].toNat : Int), .int .i64 (s[k + 1].toNat : Int)]) (t := 134) (fr := (0, 0)) (heap_alloc_new wr _)) (by simp [Value.oneCell'])
                      (by omega) (by unfold maxLen; omega) (by omega) (by simp; omega) (wr.heap.size + 1) (by simp) ?_; intro gg cap w1 hown1 hgrow hat hlt1; have hc1 := bS ((hp.alloc _).drew.grown hgrow n1)))
              all_goals go_wp2
              all_goals go_roundw
              all_goals first
                | (case rel => exact ⟨k + 3, ac ++ [((s[k + 2].toNat : Int), (s[k + 1].toNat : Int))], some ⟨gg, 0, none⟩, cap, by go_num, by omega, by simp; omega, HS.out.trans (steps_bar' hlt HC.out HB.out l1 l2), HR.out.app hown1 hgrow⟩)
                | (case measure => simp [intOf]; omega)
            · have HN : Hid (¬ ((s[k].toNat : Int) = 33 ∧ capAt s.data.toList (k + 1) = true ∧ capAt s.data.toList (k + 2) = true ∧ 0 < ac.length)) := hbar
              clear hbar
              by_cases b33 : (s[k].toNat : Int) = 33
              · cases cp1 : capAt s.data.toList (k + 1) with
                | false =>
                  go_wp2_with (go_at_call 78; refine (capital_at s _ _ (by omega) (by omega) (by omega)).mono ?_; rintro e w' ⟨rfl, rfl⟩; try simp only [tn0, tn1, tn2, hcap, cp1])
                  go_meet
                  case rel => exact ⟨k, ac, a, c, rfl, by omega, HS.out.trans (steps_stop hlt HC.out HN.out), HR.out⟩

                | true =>
                  cases cp2 : capAt s.data.toList (k + 2) with
                  | false =>
                    go_wp2_with (go_at_call 78; refine (capital_at s _ _ (by omega) (by omega) (by omega)).mono ?_; rintro e w' ⟨rfl, rfl⟩; try simp only [tn0, tn1, tn2, hcap, cp1, cp2])
                    go_meet
                    case rel => exact ⟨k, ac, a, c, rfl, by omega, HS.out.trans (steps_stop hlt HC.out HN.out), HR.out⟩

                  | true =>
                    have hac : ac.length = 0 := by
                      have := HN.out
                      simp only [b33, cp1, cp2, true_and] at this
                      omega
                    have hac' : ¬ (0 : Int) < (ac.length : Int) := by omega
                    go_wp2_with (go_at_call 78; refine (capital_at s _ _ (by omega) (by omega) (by omega)).mono ?_; rintro e w' ⟨rfl, rfl⟩; try simp only [tn0, tn1, tn2, hcap, cp1, cp2])
                    go_meet
                    case rel => exact ⟨k, ac, a, c, rfl, by omega, HS.out.trans (steps_stop hlt HC.out HN.out), HR.out⟩

              · have e33 : ((s[k].toNat : Int) == 33) = false := by simpa using b33
                go_wp2_with (go_at_call 78; refine (capital_at s _ _ (by omega) (by omega) (by omega)).mono ?_; rintro e w' ⟨rfl, rfl⟩; try simp only [tn0, tn1, tn2, hcap, hcap])
                go_meet
                case rel => exact ⟨k, ac, a, c, rfl, by omega, HS.out.trans (steps_stop hlt HC.out HN.out), HR.out⟩

        · go_wp2
          go_meet
          case rel => exact ⟨k, ac, a, c, rfl, by omega, HS.out.trans (steps_end hlt), HR.out⟩
    case rest =>
      obtain ⟨k, ac, a, c, rfl, hk, HS, hrel⟩ := hcut
      go_upto_region 16 with fail
      have HT0 : Hid ((s.extract k s.size).data.toList = s.data.toList.drop k) := Lib.extract_to_end s k
      have hts0 : (s.extract k s.size).size = s.size - k := by simp
      generalize s.extract k s.size = t at *
      have hts : t.size ≤ 100 := by omega
      have HR0 : Hid (WRel w wc ac a c false 0) := hrel
      clear hts0 hrel
      by_cases h1 : 0 < t.size
      · by_cases h61 : (t[0].toNat : Int) = 61
        · have hone : oneOf (s.data.toList.drop k) = true := by rw [← HT0.out, oneOf, byteAt_lt t 0 h1]; simp [h61, h1]
          have e61 : ((t[0].toNat : Int) == 61) = true := by simpa using h61
          have q1 := HR0.out.pat.cell 1
          have q1f := HR0.out.pat.frozen 1
          simp at q1
          go_upto_region 19 with fail
          have HT2 : Hid ((t.extract 1 t.size).data.toList = restOf (s.data.toList.drop k)) := by show _ = _; rw [Lib.extract_to_end, restOf, if_pos hone, HT0.out]
          have hts2 : (t.extract 1 t.size).size ≤ 100 := by simp; omega
          have HR : Hid (WRel w (wc.setCell ⟨w.heap.size + 1, 1, none⟩ (.bool true)) ac a c true 0) := HR0.out.one
          have HO : Hid (oneOf (s.data.toList.drop k) = true) := hone
          clear hone q1 q1f e61
          generalize wc.setCell ⟨w.heap.size + 1, 1, none⟩ (.bool true) = wx at *
          generalize t.extract 1 t.size = t2 at *
          -- TAIL: the world wx, the text t2, one o
          have hp := HR.out.pat
          have hr := HR.out.res
          have hsz := HR.out.size
          have p0 := hp.cell 0
          have p1 := hp.cell 1
          have p2 := hp.cell 2
          have p2f := hp.frozen 2
          have r0 := hr.cell 0
          have r1 := hr.cell 1
          have r2 := hr.cell 2
          have r0f := hr.frozen 0
          have r1f := hr.frozen 1
          have r2f := hr.frozen 2
          simp [z3] at p0 p1 p2 r0 r1 r2
          have hfin : ∀ (x y z : Value), Below w.heap.size w (((wx.setCell ⟨w.heap.size, 0, none⟩ x).setCell ⟨w.heap.size, 1, none⟩ y).setCell ⟨w.heap.size, 2, none⟩ z) := fun x y z => HR.out.below.trans below_set3
          by_cases g1 : ac.length < 1
          · have hno : decide (wholeP s.data.toList) = false := by simpa using whole_no he HS.out (Or.inl (by omega))
            have g1' : (ac.length : Int) < 1 := by omega
            go_wp2
            refine bodyPost_ret (v := .tuple #[.agg #[.slice a ac.length c, .bool true, .int .i64 0], .bool false]) (by simp [results, Tryz.results38, go_sem, r0, r1, r2]) rfl ⟨a, ac.length, c, true, 0, by rw [hno], hfin _ _ _, fun hw => absurd hw (by simpa using hno)⟩
          · by_cases g2 : 3 < ac.length
            · have hno : decide (wholeP s.data.toList) = false := by simpa using whole_no he HS.out (Or.inl (by omega))
              have g1' : ¬ (ac.length : Int) < 1 := by omega
              have g2' : 3 < (ac.length : Int) := by omega
              go_wp2
              refine bodyPost_ret (v := .tuple #[.agg #[.slice a ac.length c, .bool true, .int .i64 0], .bool false]) (by simp [results, Tryz.results38, go_sem, r0, r1, r2]) rfl ⟨a, ac.length, c, true, 0, by rw [hno], hfin _ _ _, fun hw => absurd hw (by simpa using hno)⟩
            · have g1' : ¬ (ac.length : Int) < 1 := by omega
              have g2' : ¬ 3 < (ac.length : Int) := by omega
              by_cases g3 : t2.size < 2
              · have hno : decide (wholeP s.data.toList) = false := by simpa using whole_no he HS.out (Or.inr (fun hw => by unfold winB at hw; rw [← HT2.out] at hw; simp at hw; omega))
                have g3' : (t2.size : Int) < 2 := by omega
                go_wp2
                refine bodyPost_ret (v := .tuple #[.agg #[.slice a ac.length c, .bool true, .int .i64 0], .bool false]) (by simp [results, Tryz.results38, go_sem, r0, r1, r2]) rfl ⟨a, ac.length, c, true, 0, by rw [hno], hfin _ _ _, fun hw => absurd hw (by simpa using hno)⟩
              · have g3' : ¬ (t2.size : Int) < 2 := by omega
                have g30 : 0 < t2.size := by omega
                by_cases g4 : (t2[0].toNat : Int) = 64
                · have g4' : ((t2[0].toNat : Int) != 64) = false := by simpa using g4
                  by_cases g5 : 14 < t2.size
                  · have hno : decide (wholeP s.data.toList) = false := by simpa using whole_no he HS.out (Or.inr (fun hw => by unfold winB at hw; rw [← HT2.out] at hw; simp at hw; omega))
                    have g5' : 14 < (t2.size : Int) := by omega
                    go_wp2
                    refine bodyPost_ret (v := .tuple #[.agg #[.slice a ac.length c, .bool true, .int .i64 0], .bool false]) (by simp [results, Tryz.results38, go_sem, r0, r1, r2]) rfl ⟨a, ac.length, c, true, 0, by rw [hno], hfin _ _ _, fun hw => absurd hw (by simpa using hno)⟩
                  · have g5' : ¬ 14 < (t2.size : Int) := by omega
                    have HB64 : Hid (byteAt t2.data.toList 0 = 64) := (byteAt_lt t2 0 g30).trans g4
                    go_wp2
                    clear p0 p1 p2 p2f r0 r1 r2 r0f r1f r2f hp hr hfin
                    go_loopw [10] (fun i wr => ∃ (j : Nat) (win : Int), i = .int .i64 j ∧ 1 ≤ j ∧ j ≤ t2.size ∧ Hid (DigRel t2 j win) ∧ WRel w wr ac a c true win) (fun i _ => t2.size - (intOf i).toNat)
                    case atStart => exact ⟨1, 0, rfl, by omega, by omega, digs_start _, HR.out⟩
                    case round =>
                      obtain ⟨j, win, rfl, hj1, hj2, HD, hrel⟩ := hrel
                      have HRj : Hid (WRel w wr ac a c true win) := hrel
                      clear hrel
                      obtain ⟨wb1, wb2⟩ := digs_bd HD.out (by omega)
                      have hp := HRj.out.pat
                      have hr := HRj.out.res
                      have p0 := hp.cell 0
                      have p1 := hp.cell 1
                      have p2 := hp.cell 2
                      have p2f := hp.frozen 2
                      have r0 := hr.cell 0
                      have r1 := hr.cell 1
                      have r2 := hr.cell 2
                      have r0f := hr.frozen 0
                      have r1f := hr.frozen 1
                      have r2f := hr.frozen 2
                      simp [z3] at p0 p1 p2 r0 r1 r2
                      have hfin : ∀ (x y z : Value), Below w.heap.size w (((wr.setCell ⟨w.heap.size, 0, none⟩ x).setCell ⟨w.heap.size, 1, none⟩ y).setCell ⟨w.heap.size, 2, none⟩ z) := fun x y z => HRj.out.below.trans below_set3
                      clear hp hr
                      by_cases hlt : j < t2.size
                      · have hlt' : (j : Int) < (t2.size : Int) := by omega
                        have hj0 : (0 : Int) ≤ (j : Int) := by omega
                        by_cases hdig : 48 ≤ (t2[j].toNat : Int) ∧ (t2[j].toNat : Int) ≤ 57
                        · obtain ⟨hd1, hd2⟩ := hdig
                          go_wp2
                          go_region
                          all_goals go_wp2
                          go_roundw
                          case rel => exact ⟨j + 1, 10 * win + ((t2[j].toNat : Int) - 48), by go_num, by omega, by omega, digs_step HD.out hj1 hlt hd1 hd2, HRj.out.win.drew⟩
                          case measure => simp [intOf]; omega
                        · have hno : decide (wholeP s.data.toList) = false := by simpa using whole_no he HS.out (Or.inr (HT2.out ▸ digs_no hj1 hlt hdig))
                          by_cases hd1 : 48 ≤ (t2[j].toNat : Int)
                          · have hd2 : ¬ (t2[j].toNat : Int) ≤ 57 := fun h => hdig ⟨hd1, h⟩
                            clear hdig
                            go_wp2
                            refine bodyPost_ret (v := .tuple #[.agg #[.slice a ac.length c, .bool true, .int .i64 win], .bool false]) (by simp [results, Tryz.results38, go_sem, r0, r1, r2]) rfl ⟨a, ac.length, c, true, win, by rw [hno], hfin _ _ _, fun hw => absurd hw (by simpa using hno)⟩
                          · clear hdig
                            go_wp2
                            refine bodyPost_ret (v := .tuple #[.agg #[.slice a ac.length c, .bool true, .int .i64 win], .bool false]) (by simp [results, Tryz.results38, go_sem, r0, r1, r2]) rfl ⟨a, ac.length, c, true, win, by rw [hno], hfin _ _ _, fun hw => absurd hw (by simpa using hno)⟩
                      · go_wp2
                        go_region
                        all_goals go_wp2
                        obtain rfl : j = t2.size := by omega
                        have hend := digs_end HD.out (by omega) (by omega) HB64.out
                        have hiff : wholeP s.data.toList ↔ win ≤ 1099511627776 := by
                          rw [← hend.1]
                          exact ⟨fun hw => by by_cases hv : winB t2.data.toList; · exact hv
                                              · exact absurd hw (whole_no he HS.out (Or.inr (HT2.out ▸ hv))), fun hv => whole_yes HS.out (by omega) (by omega) (HT2.out ▸ hv)⟩
                        refine bodyPost_ret (v := .tuple #[.agg #[.slice a ac.length c, .bool true, .int .i64 win], .bool (decide (win ≤ 1099511627776))]) (by simp [results, Tryz.results38, go_sem, r0, r1, r2]) rfl ⟨a, ac.length, c, true, win, by simp only [hiff], (hfin _ _ _).drew, fun hw => ⟨?_, ?_, ?_, ?_⟩⟩
                        · rw [patSteps, HS.out]; exact HRj.out.owned (set3_other _ _ _ _ _)
                        · rw [patSteps, HS.out]
                        · rw [patOne, HS.out]; exact HO.out.symm
                        · rw [patWin, HS.out]; show win = numOf 0 ((restOf (s.data.toList.drop k)).drop 1); rw [← HT2.out]; exact hend.2
                · have g4' : ((t2[0].toNat : Int) != 64) = true := by simpa using g4
                  have hno : decide (wholeP s.data.toList) = false := by simpa using whole_no he HS.out (Or.inr (fun hw => by unfold winB at hw; rw [← HT2.out, byteAt_lt t2 0 g30] at hw; exact g4 hw.2.1))
                  go_wp2
                  refine bodyPost_ret (v := .tuple #[.agg #[.slice a ac.length c, .bool true, .int .i64 0], .bool false]) (by simp [results, Tryz.results38, go_sem, r0, r1, r2]) rfl ⟨a, ac.length, c, true, 0, by rw [hno], hfin _ _ _, fun hw => absurd hw (by simpa using hno)⟩

        · have hone : oneOf (s.data.toList.drop k) = false := by rw [← HT0.out, oneOf, byteAt_lt t 0 h1]; simp [h61]
          have HT2 : Hid (t.data.toList = restOf (s.data.toList.drop k)) := by show _ = _; rw [restOf, hone, HT0.out]; simp
          have e61 : ((t[0].toNat : Int) == 61) = false := by simpa using h61
          have HR := HR0
          have HO : Hid (oneOf (s.data.toList.drop k) = false) := hone
          clear hone
          -- TAIL: the world wx, the text t2, one o
          have hp := HR.out.pat
          have hr := HR.out.res
          have hsz := HR.out.size
          have p0 := hp.cell 0
          have p1 := hp.cell 1
          have p2 := hp.cell 2
          have p2f := hp.frozen 2
          have r0 := hr.cell 0
          have r1 := hr.cell 1
          have r2 := hr.cell 2
          have r0f := hr.frozen 0
          have r1f := hr.frozen 1
          have r2f := hr.frozen 2
          simp [z3] at p0 p1 p2 r0 r1 r2
          have hfin : ∀ (x y z : Value), Below w.heap.size w (((wc.setCell ⟨w.heap.size, 0, none⟩ x).setCell ⟨w.heap.size, 1, none⟩ y).setCell ⟨w.heap.size, 2, none⟩ z) := fun x y z => HR.out.below.trans below_set3
          by_cases g1 : ac.length < 1
          · have hno : decide (wholeP s.data.toList) = false := by simpa using whole_no he HS.out (Or.inl (by omega))
            have g1' : (ac.length : Int) < 1 := by omega
            go_wp2
            refine bodyPost_ret (v := .tuple #[.agg #[.slice a ac.length c, .bool false, .int .i64 0], .bool false]) (by simp [results, Tryz.results38, go_sem, r0, r1, r2]) rfl ⟨a, ac.length, c, false, 0, by rw [hno], hfin _ _ _, fun hw => absurd hw (by simpa using hno)⟩
          · by_cases g2 : 3 < ac.length
            · have hno : decide (wholeP s.data.toList) = false := by simpa using whole_no he HS.out (Or.inl (by omega))
              have g1' : ¬ (ac.length : Int) < 1 := by omega
              have g2' : 3 < (ac.length : Int) := by omega
              go_wp2
              refine bodyPost_ret (v := .tuple #[.agg #[.slice a ac.length c, .bool false, .int .i64 0], .bool false]) (by simp [results, Tryz.results38, go_sem, r0, r1, r2]) rfl ⟨a, ac.length, c, false, 0, by rw [hno], hfin _ _ _, fun hw => absurd hw (by simpa using hno)⟩
            · have g1' : ¬ (ac.length : Int) < 1 := by omega
              have g2' : ¬ 3 < (ac.length : Int) := by omega
              by_cases g3 : t.size < 2
              · have hno : decide (wholeP s.data.toList) = false := by simpa using whole_no he HS.out (Or.inr (fun hw => by unfold winB at hw; rw [← HT2.out] at hw; simp at hw; omega))
                have g3' : (t.size : Int) < 2 := by omega
                go_wp2
                refine bodyPost_ret (v := .tuple #[.agg #[.slice a ac.length c, .bool false, .int .i64 0], .bool false]) (by simp [results, Tryz.results38, go_sem, r0, r1, r2]) rfl ⟨a, ac.length, c, false, 0, by rw [hno], hfin _ _ _, fun hw => absurd hw (by simpa using hno)⟩
              · have g3' : ¬ (t.size : Int) < 2 := by omega
                have g30 : 0 < t.size := by omega
                by_cases g4 : (t[0].toNat : Int) = 64
                · have g4' : ((t[0].toNat : Int) != 64) = false := by simpa using g4
                  by_cases g5 : 14 < t.size
                  · have hno : decide (wholeP s.data.toList) = false := by simpa using whole_no he HS.out (Or.inr (fun hw => by unfold winB at hw; rw [← HT2.out] at hw; simp at hw; omega))
                    have g5' : 14 < (t.size : Int) := by omega
                    go_wp2
                    refine bodyPost_ret (v := .tuple #[.agg #[.slice a ac.length c, .bool false, .int .i64 0], .bool false]) (by simp [results, Tryz.results38, go_sem, r0, r1, r2]) rfl ⟨a, ac.length, c, false, 0, by rw [hno], hfin _ _ _, fun hw => absurd hw (by simpa using hno)⟩
                  · have g5' : ¬ 14 < (t.size : Int) := by omega
                    have HB64 : Hid (byteAt t.data.toList 0 = 64) := (byteAt_lt t 0 g30).trans g4
                    go_wp2
                    clear p0 p1 p2 p2f r0 r1 r2 r0f r1f r2f hp hr hfin
                    go_loopw [10] (fun i wr => ∃ (j : Nat) (win : Int), i = .int .i64 j ∧ 1 ≤ j ∧ j ≤ t.size ∧ Hid (DigRel t j win) ∧ WRel w wr ac a c false win) (fun i _ => t.size - (intOf i).toNat)
                    case atStart => exact ⟨1, 0, rfl, by omega, by omega, digs_start _, HR.out⟩
                    case round =>
                      obtain ⟨j, win, rfl, hj1, hj2, HD, hrel⟩ := hrel
                      have HRj : Hid (WRel w wr ac a c false win) := hrel
                      clear hrel
                      obtain ⟨wb1, wb2⟩ := digs_bd HD.out (by omega)
                      have hp := HRj.out.pat
                      have hr := HRj.out.res
                      have p0 := hp.cell 0
                      have p1 := hp.cell 1
                      have p2 := hp.cell 2
                      have p2f := hp.frozen 2
                      have r0 := hr.cell 0
                      have r1 := hr.cell 1
                      have r2 := hr.cell 2
                      have r0f := hr.frozen 0
                      have r1f := hr.frozen 1
                      have r2f := hr.frozen 2
                      simp [z3] at p0 p1 p2 r0 r1 r2
                      have hfin : ∀ (x y z : Value), Below w.heap.size w (((wr.setCell ⟨w.heap.size, 0, none⟩ x).setCell ⟨w.heap.size, 1, none⟩ y).setCell ⟨w.heap.size, 2, none⟩ z) := fun x y z => HRj.out.below.trans below_set3
                      clear hp hr
                      by_cases hlt : j < t.size
                      · have hlt' : (j : Int) < (t.size : Int) := by omega
                        have hj0 : (0 : Int) ≤ (j : Int) := by omega
                        by_cases hdig : 48 ≤ (t[j].toNat : Int) ∧ (t[j].toNat : Int) ≤ 57
                        · obtain ⟨hd1, hd2⟩ := hdig
                          go_wp2
                          go_region
                          all_goals go_wp2
                          go_roundw
                          case rel => exact ⟨j + 1, 10 * win + ((t[j].toNat : Int) - 48), by go_num, by omega, by omega, digs_step HD.out hj1 hlt hd1 hd2, HRj.out.win.drew⟩
                          case measure => simp [intOf]; omega
                        · have hno : decide (wholeP s.data.toList) = false := by simpa using whole_no he HS.out (Or.inr (HT2.out ▸ digs_no hj1 hlt hdig))
                          by_cases hd1 : 48 ≤ (t[j].toNat : Int)
                          · have hd2 : ¬ (t[j].toNat : Int) ≤ 57 := fun h => hdig ⟨hd1, h⟩
                            clear hdig
                            go_wp2
                            refine bodyPost_ret (v := .tuple #[.agg #[.slice a ac.length c, .bool false, .int .i64 win], .bool false]) (by simp [results, Tryz.results38, go_sem, r0, r1, r2]) rfl ⟨a, ac.length, c, false, win, by rw [hno], hfin _ _ _, fun hw => absurd hw (by simpa using hno)⟩
                          · clear hdig
                            go_wp2
                            refine bodyPost_ret (v := .tuple #[.agg #[.slice a ac.length c, .bool false, .int .i64 win], .bool false]) (by simp [results, Tryz.results38, go_sem, r0, r1, r2]) rfl ⟨a, ac.length, c, false, win, by rw [hno], hfin _ _ _, fun hw => absurd hw (by simpa using hno)⟩
                      · go_wp2
                        go_region
                        all_goals go_wp2
                        obtain rfl : j = t.size := by omega
                        have hend := digs_end HD.out (by omega) (by omega) HB64.out
                        have hiff : wholeP s.data.toList ↔ win ≤ 1099511627776 := by
                          rw [← hend.1]
                          exact ⟨fun hw => by by_cases hv : winB t.data.toList; · exact hv
                                              · exact absurd hw (whole_no he HS.out (Or.inr (HT2.out ▸ hv))), fun hv => whole_yes HS.out (by omega) (by omega) (HT2.out ▸ hv)⟩
                        refine bodyPost_ret (v := .tuple #[.agg #[.slice a ac.length c, .bool false, .int .i64 win], .bool (decide (win ≤ 1099511627776))]) (by simp [results, Tryz.results38, go_sem, r0, r1, r2]) rfl ⟨a, ac.length, c, false, win, by simp only [hiff], (hfin _ _ _).drew, fun hw => ⟨?_, ?_, ?_, ?_⟩⟩
                        · rw [patSteps, HS.out]; exact HRj.out.owned (set3_other _ _ _ _ _)
                        · rw [patSteps, HS.out]
                        · rw [patOne, HS.out]; exact HO.out.symm
                        · rw [patWin, HS.out]; show win = numOf 0 ((restOf (s.data.toList.drop k)).drop 1); rw [← HT2.out]; exact hend.2
                · have g4' : ((t[0].toNat : Int) != 64) = true := by simpa using g4
                  have hno : decide (wholeP s.data.toList) = false := by simpa using whole_no he HS.out (Or.inr (fun hw => by unfold winB at hw; rw [← HT2.out, byteAt_lt t 0 g30] at hw; exact g4 hw.2.1))
                  go_wp2
                  refine bodyPost_ret (v := .tuple #[.agg #[.slice a ac.length c, .bool false, .int .i64 0], .bool false]) (by simp [results, Tryz.results38, go_sem, r0, r1, r2]) rfl ⟨a, ac.length, c, false, 0, by rw [hno], hfin _ _ _, fun hw => absurd hw (by simpa using hno)⟩

      · have hone : oneOf (s.data.toList.drop k) = false := by rw [← HT0.out, bytes_nil (s := t) (by omega)]; simp [oneOf]
        have HT2 : Hid (t.data.toList = restOf (s.data.toList.drop k)) := by show _ = _; rw [restOf, hone, HT0.out]; simp
        have hno : decide (wholeP s.data.toList) = false := by simpa using whole_no he HS.out (Or.inr (fun hw => by unfold winB at hw; rw [← HT2.out] at hw; simp at hw; omega))
        have hp := HR0.out.pat
        have hr := HR0.out.res
        have p0 := hp.cell 0
        have p1 := hp.cell 1
        have p2 := hp.cell 2
        have r0 := hr.cell 0
        have r1 := hr.cell 1
        have r2 := hr.cell 2
        have r0f := hr.frozen 0
        have r1f := hr.frozen 1
        have r2f := hr.frozen 2
        simp [z3] at p0 p1 p2 r0 r1 r2
        have hfin : ∀ (x y z : Value), Below w.heap.size w (((wc.setCell ⟨w.heap.size, 0, none⟩ x).setCell ⟨w.heap.size, 1, none⟩ y).setCell ⟨w.heap.size, 2, none⟩ z) := fun x y z => HR0.out.below.trans below_set3
        have z1 : ¬ (0 : Int) < (t.size : Int) := by omega
        by_cases g1 : ac.length < 1
        · have g1' : (ac.length : Int) < 1 := by omega
          go_wp2
          refine bodyPost_ret (v := .tuple #[.agg #[.slice a ac.length c, .bool false, .int .i64 0], .bool false]) (by simp [results, Tryz.results38, go_sem, r0, r1, r2]) rfl ⟨a, ac.length, c, false, 0, by rw [hno], hfin _ _ _, fun hw => absurd hw (by simpa using hno)⟩
        · have g1' : ¬ (ac.length : Int) < 1 := by omega
          by_cases g2 : 3 < ac.length
          · have g2' : 3 < (ac.length : Int) := by omega
            go_wp2
            refine bodyPost_ret (v := .tuple #[.agg #[.slice a ac.length c, .bool false, .int .i64 0], .bool false]) (by simp [results, Tryz.results38, go_sem, r0, r1, r2]) rfl ⟨a, ac.length, c, false, 0, by rw [hno], hfin _ _ _, fun hw => absurd hw (by simpa using hno)⟩
          · have g2' : ¬ 3 < (ac.length : Int) := by omega
            go_wp2
            refine bodyPost_ret (v := .tuple #[.agg #[.slice a ac.length c, .bool false, .int .i64 0], .bool false]) (by simp [results, Tryz.results38, go_sem, r0, r1, r2]) rfl ⟨a, ac.length, c, false, 0, by rw [hno], hfin _ _ _, fun hw => absurd hw (by simpa using hno)⟩
end Go.Proofs.YtghcololkgeoeabGreat
