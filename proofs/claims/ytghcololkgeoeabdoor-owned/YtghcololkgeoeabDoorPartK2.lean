import Derived.Test.YtghcololkgeoeabDoorPartK1
namespace Go.Proofs.YtghcololkgeoeabDoor
open Go.RowKit
set_option linter.unusedVariables false
set_option linter.unusedSimpArgs false
attribute [local go_sem ↓] Go.wp_at_zero Go.wp_at_succ

def cf6 (r : RawC) (room idle : Int) (s : ByteArray) : List Value := [.int .i64 (1 + pk r.sources 6), .int .i64 (pk r.slack 1001), .int .i64 (pk r.policy 3), .int .i64 room, .int .i64 idle, .string s]
theorem bel_drew {w w1 : World} (h : Below w.drew.heap.size w.drew w1) : Below w.heap.size w w1 := ⟨h.os, h.tape, h.output, h.size, h.block⟩
def z6 : List Value := [.int .i64 0, .int .i64 0, .int .i64 0, .int .i64 0, .int .i64 0, .string { data := #[] }]
set_option maxRecDepth 100000 in
set_option maxHeartbeats 4000000 in
theorem config_any (r : RawC) (w : World) (hr : r.ok) (htab : ∀ u, Below w.heap.size w u → tab10 u) :
    Calls Tryd.prog 6 #[.agg #[.int .i64 r.sources, .int .i64 r.slack, .int .i64 r.policy, .int .i64 r.room, .int .i64 r.idle, .int .i64 r.pattern]] w fun e w' => e = .returned (.agg #[.int .i64 r.cfg.sources, .int .i64 r.cfg.slack, .int .i64 r.cfg.policy, .int .i64 r.cfg.room, .int .i64 r.cfg.idle, .string r.cfg.pat]) ∧ Below w.heap.size w w' := by
  obtain ⟨q1, q2, q3, q4, q5, q6⟩ := hr
  have hp1 : ∀ u, Calls Tryd.prog 10 #[.int .i64 r.sources, .int .i64 6] u fun e w' => e = .returned (.int .i64 (pk r.sources 6)) ∧ u = w' := fun u => pick_any _ _ u q1 (by omega) (by omega)
  have hp2 : ∀ u, Calls Tryd.prog 10 #[.int .i64 r.slack, .int .i64 1001] u fun e w' => e = .returned (.int .i64 (pk r.slack 1001)) ∧ u = w' := fun u => pick_any _ _ u q2 (by omega) (by omega)
  have hp3 : ∀ u, Calls Tryd.prog 10 #[.int .i64 r.policy, .int .i64 3] u fun e w' => e = .returned (.int .i64 (pk r.policy 3)) ∧ u = w' := fun u => pick_any _ _ u q3 (by omega) (by omega)
  have hp4 : ∀ u, Calls Tryd.prog 10 #[.int .i64 r.room, .int .i64 32] u fun e w' => e = .returned (.int .i64 (pk r.room 32)) ∧ u = w' := fun u => pick_any _ _ u q4 (by omega) (by omega)
  have hp5 : ∀ u, Calls Tryd.prog 10 #[.int .i64 r.idle, .int .i64 1001] u fun e w' => e = .returned (.int .i64 (pk r.idle 1001)) ∧ u = w' := fun u => pick_any _ _ u q5 (by omega) (by omega)
  have h1 := pk_range (c := r.sources) (n := 6) (by omega)
  have h4 := pk_range (c := r.room) (n := 32) (by omega)
  have w1' : IntKind.i64.wrap (1 + pk r.sources 6) = 1 + pk r.sources 6 := by rw [IntKind.wrap_i64]; omega
  have w4' : IntKind.i64.wrap (1 + pk r.room 32) = 1 + pk r.room 32 := by rw [IntKind.wrap_i64]; omega
  have HT : Hid (∀ u, Below w.heap.size w u → tab10 u) := htab
  clear htab
  go_enter Tryd.func6, Tryd.ntmps6
  go_upto_region 1 with fail
  obtain ⟨w1, HW1⟩ := hex ((w.alloc (.cells r.vals.toArray 23)).alloc (.cells z6.toArray 26))
  have hw1 : (w.alloc (.cells #[.int .i64 r.sources, .int .i64 r.slack, .int .i64 r.policy, .int .i64 r.room, .int .i64 r.idle, .int .i64 r.pattern] 23)).alloc (.cells #[.int .i64 0, .int .i64 0, .int .i64 0, .int .i64 0, .int .i64 0, .string { data := #[] }] 26) = w1 := HW1.out.symm
  rw [hw1]
  obtain ⟨rb, HRb⟩ := hex w.heap.size
  obtain ⟨sb, HSb⟩ := hex (w.heap.size + 1)
  have HBr : Hid (Blk w1 rb 23 r.vals) := by show Blk _ _ _ _; rw [HW1.out, HRb.out]; exact (blk_alloc _ _ _).alloc _
  have HBs : Hid (Blk w1 sb 26 z6) := by show Blk _ _ _ _; rw [HW1.out, HSb.out]; have := blk_alloc (w.alloc (.cells r.vals.toArray 23)) z6 26; simpa using this
  have HB1 : Hid (Below w.heap.size w w1) := by show Below _ _ _; rw [HW1.out]; exact ((Below.refl _ _).alloc (Nat.le_refl _) _).alloc (by simp) _
  have hz1 : w1.heap.size = w.heap.size + 2 := by rw [HW1.out]; simp
  have HZ1 : Hid (w1.heap.size = w.heap.size + 2) := hz1
  rw [← HSb.out, ← HRb.out]
  clear hw1 HW1 hz1
  have c0 := HBr.out.cell 0
  have c1 := HBr.out.cell 1
  have c2 := HBr.out.cell 2
  simp only [RawC.vals, List.getElem?_cons_zero, List.getElem?_cons_succ] at c0 c1 c2
  have HSS : Hid (∀ v : World, Below w1.heap.size w1 v → (fun u : World => u.cell? ⟨rb, 0, none⟩ = some (.int .i64 r.sources) ∧ u.cell? ⟨rb, 1, none⟩ = some (.int .i64 r.slack) ∧ u.cell? ⟨rb, 2, none⟩ = some (.int .i64 r.policy)) v) := fun v hv => ⟨(hv.cell (p := ⟨rb, 0, none⟩) HBr.out.lt).trans c0, (hv.cell (p := ⟨rb, 1, none⟩) HBr.out.lt).trans c1, (hv.cell (p := ⟨rb, 2, none⟩) HBr.out.lt).trans c2⟩
  refine upTo_region (fun u : World => u.cell? ⟨rb, 0, none⟩ = some (.int .i64 r.sources) ∧ u.cell? ⟨rb, 1, none⟩ = some (.int .i64 r.slack) ∧ u.cell? ⟨rb, 2, none⟩ = some (.int .i64 r.policy)) 12 13 rfl (by kernel_rfl) ?_
  have hS0 : (fun u : World => u.cell? ⟨rb, 0, none⟩ = some (.int .i64 r.sources) ∧ u.cell? ⟨rb, 1, none⟩ = some (.int .i64 r.slack) ∧ u.cell? ⟨rb, 2, none⟩ = some (.int .i64 r.policy)) w1.drew := HSS.out _ ((Below.refl _ _).drew)
  refine upTo_take (i := 0) (v := ?v17_0) rfl (by kernel_rfl) (by kernel_rfl) (by kernel_rfl) (by kernel_rfl) (by rfl) (fun _ _ _ h => h) (by rfl) hS0 ?hy17_0 ?rest17_0
  case hy17_0 => (intro u hu; (try dsimp only at hu); go_simp; first | done | with_reducible rfl)
  (try simp only [Act.put, List.setIfInBounds_toArray, List.set_cons_zero, List.set_cons_succ, List.getElem_toArray, List.getElem_cons_succ, List.getElem_cons_zero])
  refine upTo_take (i := 1) (v := ?v17_1) rfl (by kernel_rfl) (by kernel_rfl) (by kernel_rfl) (by kernel_rfl) (by rfl) (fun _ _ _ h => h) (by rfl) hS0 ?hy17_1 ?rest17_1
  case hy17_1 => (intro u hu; (try dsimp only at hu); go_simp; first | done | with_reducible rfl)
  (try simp only [Act.put, List.setIfInBounds_toArray, List.set_cons_zero, List.set_cons_succ, List.getElem_toArray, List.getElem_cons_succ, List.getElem_cons_zero])
  refine upTo_take (i := 4) (v := ?v17_4) rfl (by kernel_rfl) (by kernel_rfl) (by kernel_rfl) (by kernel_rfl) (by rfl) (fun _ _ _ h => h) (by rfl) hS0 ?hy17_4 ?rest17_4
  case hy17_4 => (intro u hu; (try dsimp only at hu); go_simp; first | done | with_reducible rfl)
  (try simp only [Act.put, List.setIfInBounds_toArray, List.set_cons_zero, List.set_cons_succ, List.getElem_toArray, List.getElem_cons_succ, List.getElem_cons_zero])
  refine upTo_take (i := 5) (v := ?v17_5) rfl (by kernel_rfl) (by kernel_rfl) (by kernel_rfl) (by kernel_rfl) (by rfl) (fun _ _ _ h => h) (by rfl) hS0 ?hy17_5 ?rest17_5
  case hy17_5 => (intro u hu; (try dsimp only at hu); go_simp; first | done | with_reducible rfl)
  (try simp only [Act.put, List.setIfInBounds_toArray, List.set_cons_zero, List.set_cons_succ, List.getElem_toArray, List.getElem_cons_succ, List.getElem_cons_zero])
  refine upTo_take (i := 7) (v := ?v17_7) rfl (by kernel_rfl) (by kernel_rfl) (by kernel_rfl) (by kernel_rfl) (by rfl) (fun _ _ _ h => h) (by rfl) hS0 ?hy17_7 ?rest17_7
  case hy17_7 => (intro u hu; (try dsimp only at hu); go_simp; first | done | with_reducible rfl)
  (try simp only [Act.put, List.setIfInBounds_toArray, List.set_cons_zero, List.set_cons_succ, List.getElem_toArray, List.getElem_cons_succ, List.getElem_cons_zero])
  refine upTo_take (i := 8) (v := ?v17_8) rfl (by kernel_rfl) (by kernel_rfl) (by kernel_rfl) (by kernel_rfl) (by rfl) (fun _ _ _ h => h) (by rfl) hS0 ?hy17_8 ?rest17_8
  case hy17_8 => (intro u hu; (try dsimp only at hu); go_simp; first | done | with_reducible rfl)
  (try simp only [Act.put, List.setIfInBounds_toArray, List.set_cons_zero, List.set_cons_succ, List.getElem_toArray, List.getElem_cons_succ, List.getElem_cons_zero])
  clear hS0
  refine upTo_two (i := 2) (j := 11) (by kernel_rfl) rfl rfl (fun K hK => ?_) (fun K hK => ?_)
  · skip
    go_simp
    refine (hp1 _).mono ?_
    rintro e wv ⟨rfl, rfl⟩
    refine hK.out _ _ (fun _ => HSS.out _ ((Below.refl _ w1).drew)) ?_
    clear hK K
    (try simp only [Act.put, List.setIfInBounds_toArray, List.set_cons_zero, List.set_cons_succ, List.getElem_toArray, List.getElem_cons_succ, List.getElem_cons_zero])
    have hS0 : (fun u : World => u.cell? ⟨rb, 0, none⟩ = some (.int .i64 r.sources) ∧ u.cell? ⟨rb, 1, none⟩ = some (.int .i64 r.slack) ∧ u.cell? ⟨rb, 2, none⟩ = some (.int .i64 r.policy)) (w1.drew) := HSS.out _ ((Below.refl _ w1).drew)
    refine upTo_take (i := 3) (v := ?v18_3) rfl (by kernel_rfl) (by kernel_rfl) (by kernel_rfl) (by kernel_rfl) (by rfl) (fun _ _ _ h => h) (by rfl) hS0 ?hy18_3 ?rest18_3
    case hy18_3 => (intro u hu; (try dsimp only at hu); go_simp; first | done | with_reducible rfl)
    (try simp only [Act.put, List.setIfInBounds_toArray, List.set_cons_zero, List.set_cons_succ, List.getElem_toArray, List.getElem_cons_succ, List.getElem_cons_zero])
    clear hS0
    refine upTo_two (i := 6) (j := 11) (by kernel_rfl) rfl rfl (fun K hK => ?_) (fun K hK => ?_)
    · skip
      go_simp
      refine (hp2 _).mono ?_
      rintro e wv ⟨rfl, rfl⟩
      refine hK.out _ _ (fun _ => HSS.out _ ((Below.refl _ w1).drew)) ?_
      clear hK K
      (try simp only [Act.put, List.setIfInBounds_toArray, List.set_cons_zero, List.set_cons_succ, List.getElem_toArray, List.getElem_cons_succ, List.getElem_cons_zero])
      refine upTo_two (i := 9) (j := 11) (by kernel_rfl) rfl rfl (fun K hK => ?_) (fun K hK => ?_)
      · skip
        go_simp
        refine (hp3 _).mono ?_
        rintro e wv ⟨rfl, rfl⟩
        refine hK.out _ _ (fun _ => HSS.out _ ((Below.refl _ w1).drew)) ?_
        clear hK K
        (try simp only [Act.put, List.setIfInBounds_toArray, List.set_cons_zero, List.set_cons_succ, List.getElem_toArray, List.getElem_cons_succ, List.getElem_cons_zero])
        have hS0 : (fun u : World => u.cell? ⟨rb, 0, none⟩ = some (.int .i64 r.sources) ∧ u.cell? ⟨rb, 1, none⟩ = some (.int .i64 r.slack) ∧ u.cell? ⟨rb, 2, none⟩ = some (.int .i64 r.policy)) (w1.drew) := HSS.out _ ((Below.refl _ w1).drew)
        refine upTo_take (i := 10) (v := ?v19_10) rfl (by kernel_rfl) (by kernel_rfl) (by kernel_rfl) (by kernel_rfl) (by rfl) (fun _ _ _ h => h) (by rfl) hS0 ?hy19_10 ?rest19_10
        case hy19_10 => (intro u hu; (try dsimp only at hu); go_simp; first | done | with_reducible rfl)
        (try simp only [Act.put, List.setIfInBounds_toArray, List.set_cons_zero, List.set_cons_succ, List.getElem_toArray, List.getElem_cons_succ, List.getElem_cons_zero])
        clear hS0
        refine upTo_one (i := 11) (by kernel_rfl) rfl (fun K hK => ?_)
        go_simp
        refine hK.out _ _ (fun _ => HSS.out _ (((Below.refl _ w1).alloc (Nat.le_refl _) _).drew)) ?_
        clear hK K
        (try simp only [Act.put, List.setIfInBounds_toArray, List.set_cons_zero, List.set_cons_succ, List.getElem_toArray, List.getElem_cons_succ, List.getElem_cons_zero])
        refine upTo_one (i := 12) (by kernel_rfl) rfl (fun K hK => ?_)
        go_simp
        refine hK.out _ _ (fun h => absurd rfl h) ?_
        clear hK K
        (try simp only [Act.put, List.setIfInBounds_toArray, List.set_cons_zero, List.set_cons_succ, List.getElem_toArray, List.getElem_cons_succ, List.getElem_cons_zero])
        refine upTo_done (by kernel_rfl) ?_
        obtain ⟨w2, HW2⟩ := hex (w1.alloc (.cells (cf6 r 0 0 ByteArray.empty).toArray 26))
        have hw2 : w1.alloc (.cells #[.int .i64 (1 + pk r.sources 6), .int .i64 (pk r.slack 1001), .int .i64 (pk r.policy 3), .int .i64 0, .int .i64 0, .string { data := #[] }] 26) = w2 := HW2.out.symm
        rw [hw2]
        obtain ⟨cb, HCb⟩ := hex w1.heap.size
        have HC2 : Hid (Blk w2 cb 26 (cf6 r 0 0 ByteArray.empty)) := by show Blk _ _ _ _; rw [HW2.out, HCb.out]; exact blk_alloc _ _ _
        have HR2 : Hid (Blk w2 rb 23 r.vals) := by show Blk _ _ _ _; rw [HW2.out]; exact HBr.out.alloc _
        have HS2 : Hid (Blk w2 sb 26 z6) := by show Blk _ _ _ _; rw [HW2.out]; exact HBs.out.alloc _
        have HB2 : Hid (Below w.heap.size w w2) := by show Below _ _ _; rw [HW2.out]; exact HB1.out.alloc (by have := HZ1.out; omega) _
        have HNe : Hid (rb < cb ∧ sb < cb ∧ rb < sb ∧ w.heap.size ≤ rb) := by show _ ∧ _; have := HZ1.out; have := HRb.out; have := HSb.out; have := HCb.out; omega
        rw [← HCb.out]
        clear hw2 HW2 HSS HCb HBr HBs HB1 HZ1 HRb HSb c0 c1 c2
        have d3 := HR2.out.cell 3
        have d4 := HR2.out.cell 4
        have d5 := HR2.out.cell 5
        simp only [RawC.vals, List.getElem?_cons_zero, List.getElem?_cons_succ] at d3 d4 d5
        have e3 := HC2.out.cell 3
        have e4 := HC2.out.cell 4
        simp only [cf6, List.getElem?_cons_zero, List.getElem?_cons_succ] at e3 e4
        have f3 := HC2.out.frozen 3
        have f4 := HC2.out.frozen 4
        have hrc : rb ≠ cb := by have := HNe.out; omega
        have HC3 : Hid (Blk ((w2.setCell ⟨cb, 3, none⟩ (.int .i64 (1 + pk r.room 32))).setCell ⟨cb, 4, none⟩ (.int .i64 (pk r.idle 1001))) cb 26 (cf6 r (1 + pk r.room 32) (pk r.idle 1001) ByteArray.empty)) := (HC2.out.set 3 (.int .i64 (1 + pk r.room 32))).set 4 (.int .i64 (pk r.idle 1001))
        have HR3 : Hid (Blk ((w2.setCell ⟨cb, 3, none⟩ (.int .i64 (1 + pk r.room 32))).setCell ⟨cb, 4, none⟩ (.int .i64 (pk r.idle 1001))) rb 23 r.vals) := (HR2.out.other (by simp only; have := HNe.out; omega) _).other (by simp only; have := HNe.out; omega) _
        have HS3 : Hid (Blk ((w2.setCell ⟨cb, 3, none⟩ (.int .i64 (1 + pk r.room 32))).setCell ⟨cb, 4, none⟩ (.int .i64 (pk r.idle 1001))) sb 26 z6) := (HS2.out.other (by simp only; have := HNe.out; omega) _).other (by simp only; have := HNe.out; omega) _
        have HB3 : Hid (Below w.heap.size w ((w2.setCell ⟨cb, 3, none⟩ (.int .i64 (1 + pk r.room 32))).setCell ⟨cb, 4, none⟩ (.int .i64 (pk r.idle 1001)))) := (HB2.out.setCell (p := ⟨cb, 3, none⟩) (by simp only; have := HNe.out; omega) _).setCell (p := ⟨cb, 4, none⟩) (by simp only; have := HNe.out; omega) _
        go_upto_region 3 with (go_at_call 10; refine (hp4 _).mono ?_; rintro e w' ⟨rfl, rfl⟩)
        go_upto_region 4 with (go_at_call 10; refine (hp5 _).mono ?_; rintro e w' ⟨rfl, rfl⟩)
        clear d3 d4 d5 e3 e4 f3 f4 HC2 HR2 HS2 HB2
        generalize (w2.setCell ⟨cb, 3, none⟩ (.int .i64 (1 + pk r.room 32))).setCell ⟨cb, 4, none⟩ (.int .i64 (pk r.idle 1001)) = w3 at *
        have d5 := HR3.out.cell 5
        simp only [RawC.vals, List.getElem?_cons_zero, List.getElem?_cons_succ] at d5
        go_upto_region 5 with (first
          | (go_at_call 7; refine (pattern_any r.pattern _ q6).mono ?_; rintro e w5 ⟨ka, kc, na, nc, rfl, hpo⟩)
          | (go_at_call 24; refine (text_any r.pattern ka kc na nc _ hpo.rk hpo.rn (fun u hu => HT.out u ((HB3.out.trans ((bel_drew hpo.bel).mono HB3.out.size)).trans (hu.mono (Nat.le_trans HB3.out.size (bel_drew hpo.bel).size))))).mono ?_; rintro e w6 ⟨rfl, htx⟩; have HP5 : Hid (Below w3.heap.size w3 w5) := bel_drew hpo.bel; have HP6 : Hid (Below w3.heap.size w3 w6) := HP5.out.trans (htx.mono HP5.out.size); have HC6 : Hid (Blk w6 cb 26 (cf6 r (1 + pk r.room 32) (pk r.idle 1001) ByteArray.empty)) := HC3.out.below HP6.out HC3.out.lt; have e5 := HC6.out.cell 5; have f5 := HC6.out.frozen 5; simp only [cf6, List.getElem?_cons_zero, List.getElem?_cons_succ] at e5))
        have HC7 : Hid (Blk (w6.setCell ⟨cb, 5, none⟩ (.string ⟨(patText r.pattern).toArray⟩)) cb 26 (cf6 r (1 + pk r.room 32) (pk r.idle 1001) ⟨(patText r.pattern).toArray⟩)) := HC6.out.set 5 (.string ⟨(patText r.pattern).toArray⟩)
        have HS7 : Hid (Blk (w6.setCell ⟨cb, 5, none⟩ (.string ⟨(patText r.pattern).toArray⟩)) sb 26 z6) := (HS3.out.below HP6.out HS3.out.lt).other (by simp only; have := HNe.out; omega) _
        have HB7 : Hid (Below w.heap.size w (w6.setCell ⟨cb, 5, none⟩ (.string ⟨(patText r.pattern).toArray⟩))) := (HB3.out.trans (HP6.out.mono HB3.out.size)).setCell (p := ⟨cb, 5, none⟩) (by simp only; have := HNe.out; omega) _
        clear e5 f5 HC6 HP6 HP5 htx hpo d5
        generalize w6.setCell ⟨cb, 5, none⟩ (.string ⟨(patText r.pattern).toArray⟩) = w7 at *
        have e0 := HC7.out.cell 0
        have e1 := HC7.out.cell 1
        have e2 := HC7.out.cell 2
        have e3 := HC7.out.cell 3
        have e4 := HC7.out.cell 4
        have e5 := HC7.out.cell 5
        simp only [cf6, List.getElem?_cons_zero, List.getElem?_cons_succ] at e0 e1 e2 e3 e4 e5
        have s0 := HS7.out.cell 0
        have s1 := HS7.out.cell 1
        have s2 := HS7.out.cell 2
        have s3 := HS7.out.cell 3
        have s4 := HS7.out.cell 4
        have s5 := HS7.out.cell 5
        simp only [z6, List.getElem?_cons_zero, List.getElem?_cons_succ] at s0 s1 s2 s3 s4 s5
        have g0 := HS7.out.frozen 0
        have g1 := HS7.out.frozen 1
        have g2 := HS7.out.frozen 2
        have g3 := HS7.out.frozen 3
        have g4 := HS7.out.frozen 4
        have g5 := HS7.out.frozen 5
        go_wp2
        refine bodyPost_ret (v := .agg #[.int .i64 (1 + pk r.sources 6), .int .i64 (pk r.slack 1001), .int .i64 (pk r.policy 3), .int .i64 (1 + pk r.room 32), .int .i64 (pk r.idle 1001), .string ⟨(patText r.pattern).toArray⟩]) (by simp [results, Tryd.results6, go_sem, s0, s1, s2, s3, s4, s5]) rfl ⟨rfl, ?_⟩
        have hsw : w.heap.size ≤ sb := by have := HNe.out; omega
        exact (((((HB7.out.setCell (p := ⟨sb, 0, none⟩) hsw _).setCell (p := ⟨sb, 1, none⟩) hsw _).setCell (p := ⟨sb, 2, none⟩) hsw _).setCell (p := ⟨sb, 3, none⟩) hsw _).setCell (p := ⟨sb, 4, none⟩) hsw _).setCell (p := ⟨sb, 5, none⟩) hsw _
      · skip
        go_simp
        refine hK.out _ _ (fun _ => HSS.out _ (((Below.refl _ w1).alloc (Nat.le_refl _) _).drew)) ?_
        clear hK K
        (try simp only [Act.put, List.setIfInBounds_toArray, List.set_cons_zero, List.set_cons_succ, List.getElem_toArray, List.getElem_cons_succ, List.getElem_cons_zero])
        refine upTo_one (i := 9) (by kernel_rfl) rfl (fun K hK => ?_)
        go_simp
        refine (hp3 _).mono ?_
        rintro e wv ⟨rfl, rfl⟩
        refine hK.out _ _ (fun _ => HSS.out _ (((Below.refl _ w1).alloc (Nat.le_refl _) _).drew)) ?_
        clear hK K
        (try simp only [Act.put, List.setIfInBounds_toArray, List.set_cons_zero, List.set_cons_succ, List.getElem_toArray, List.getElem_cons_succ, List.getElem_cons_zero])
        have hS0 : (fun u : World => u.cell? ⟨rb, 0, none⟩ = some (.int .i64 r.sources) ∧ u.cell? ⟨rb, 1, none⟩ = some (.int .i64 r.slack) ∧ u.cell? ⟨rb, 2, none⟩ = some (.int .i64 r.policy)) ((w1.alloc (.cells #[.int .i64 0, .int .i64 0, .int .i64 0, .int .i64 0, .int .i64 0, .string { data := #[] }] 26)).drew) := HSS.out _ (((Below.refl _ w1).alloc (Nat.le_refl _) _).drew)
        refine upTo_take (i := 10) (v := ?v20_10) rfl (by kernel_rfl) (by kernel_rfl) (by kernel_rfl) (by kernel_rfl) (by rfl) (fun _ _ _ h => h) (by rfl) hS0 ?hy20_10 ?rest20_10
        case hy20_10 => (intro u hu; (try dsimp only at hu); go_simp; first | done | with_reducible rfl)
        (try simp only [Act.put, List.setIfInBounds_toArray, List.set_cons_zero, List.set_cons_succ, List.getElem_toArray, List.getElem_cons_succ, List.getElem_cons_zero])
        clear hS0
        refine upTo_one (i := 12) (by kernel_rfl) rfl (fun K hK => ?_)
        go_simp
        refine hK.out _ _ (fun h => absurd rfl h) ?_
        clear hK K
        (try simp only [Act.put, List.setIfInBounds_toArray, List.set_cons_zero, List.set_cons_succ, List.getElem_toArray, List.getElem_cons_succ, List.getElem_cons_zero])
        refine upTo_done (by kernel_rfl) ?_
        obtain ⟨w2, HW2⟩ := hex (w1.alloc (.cells (cf6 r 0 0 ByteArray.empty).toArray 26))
        have hw2 : w1.alloc (.cells #[.int .i64 (1 + pk r.sources 6), .int .i64 (pk r.slack 1001), .int .i64 (pk r.policy 3), .int .i64 0, .int .i64 0, .string { data := #[] }] 26) = w2 := HW2.out.symm
        rw [hw2]
        obtain ⟨cb, HCb⟩ := hex w1.heap.size
        have HC2 : Hid (Blk w2 cb 26 (cf6 r 0 0 ByteArray.empty)) := by show Blk _ _ _ _; rw [HW2.out, HCb.out]; exact blk_alloc _ _ _
        have HR2 : Hid (Blk w2 rb 23 r.vals) := by show Blk _ _ _ _; rw [HW2.out]; exact HBr.out.alloc _
        have HS2 : Hid (Blk w2 sb 26 z6) := by show Blk _ _ _ _; rw [HW2.out]; exact HBs.out.alloc _
        have HB2 : Hid (Below w.heap.size w w2) := by show Below _ _ _; rw [HW2.out]; exact HB1.out.alloc (by have := HZ1.out; omega) _
        have HNe : Hid (rb < cb ∧ sb < cb ∧ rb < sb ∧ w.heap.size ≤ rb) := by show _ ∧ _; have := HZ1.out; have := HRb.out; have := HSb.out; have := HCb.out; omega
        rw [← HCb.out]
        clear hw2 HW2 HSS HCb HBr HBs HB1 HZ1 HRb HSb c0 c1 c2
        have d3 := HR2.out.cell 3
        have d4 := HR2.out.cell 4
        have d5 := HR2.out.cell 5
        simp only [RawC.vals, List.getElem?_cons_zero, List.getElem?_cons_succ] at d3 d4 d5
        have e3 := HC2.out.cell 3
        have e4 := HC2.out.cell 4
        simp only [cf6, List.getElem?_cons_zero, List.getElem?_cons_succ] at e3 e4
        have f3 := HC2.out.frozen 3
        have f4 := HC2.out.frozen 4
        have hrc : rb ≠ cb := by have := HNe.out; omega
        have HC3 : Hid (Blk ((w2.setCell ⟨cb, 3, none⟩ (.int .i64 (1 + pk r.room 32))).setCell ⟨cb, 4, none⟩ (.int .i64 (pk r.idle 1001))) cb 26 (cf6 r (1 + pk r.room 32) (pk r.idle 1001) ByteArray.empty)) := (HC2.out.set 3 (.int .i64 (1 + pk r.room 32))).set 4 (.int .i64 (pk r.idle 1001))
        have HR3 : Hid (Blk ((w2.setCell ⟨cb, 3, none⟩ (.int .i64 (1 + pk r.room 32))).setCell ⟨cb, 4, none⟩ (.int .i64 (pk r.idle 1001))) rb 23 r.vals) := (HR2.out.other (by simp only; have := HNe.out; omega) _).other (by simp only; have := HNe.out; omega) _
        have HS3 : Hid (Blk ((w2.setCell ⟨cb, 3, none⟩ (.int .i64 (1 + pk r.room 32))).setCell ⟨cb, 4, none⟩ (.int .i64 (pk r.idle 1001))) sb 26 z6) := (HS2.out.other (by simp only; have := HNe.out; omega) _).other (by simp only; have := HNe.out; omega) _
        have HB3 : Hid (Below w.heap.size w ((w2.setCell ⟨cb, 3, none⟩ (.int .i64 (1 + pk r.room 32))).setCell ⟨cb, 4, none⟩ (.int .i64 (pk r.idle 1001)))) := (HB2.out.setCell (p := ⟨cb, 3, none⟩) (by simp only; have := HNe.out; omega) _).setCell (p := ⟨cb, 4, none⟩) (by simp only; have := HNe.out; omega) _
        go_upto_region 3 with (go_at_call 10; refine (hp4 _).mono ?_; rintro e w' ⟨rfl, rfl⟩)
        go_upto_region 4 with (go_at_call 10; refine (hp5 _).mono ?_; rintro e w' ⟨rfl, rfl⟩)
        clear d3 d4 d5 e3 e4 f3 f4 HC2 HR2 HS2 HB2
        generalize (w2.setCell ⟨cb, 3, none⟩ (.int .i64 (1 + pk r.room 32))).setCell ⟨cb, 4, none⟩ (.int .i64 (pk r.idle 1001)) = w3 at *
        have d5 := HR3.out.cell 5
        simp only [RawC.vals, List.getElem?_cons_zero, List.getElem?_cons_succ] at d5
        go_upto_region 5 with (first
          | (go_at_call 7; refine (pattern_any r.pattern _ q6).mono ?_; rintro e w5 ⟨ka, kc, na, nc, rfl, hpo⟩)
          | (go_at_call 24; refine (text_any r.pattern ka kc na nc _ hpo.rk hpo.rn (fun u hu => HT.out u ((HB3.out.trans ((bel_drew hpo.bel).mono HB3.out.size)).trans (hu.mono (Nat.le_trans HB3.out.size (bel_drew hpo.bel).size))))).mono ?_; rintro e w6 ⟨rfl, htx⟩; have HP5 : Hid (Below w3.heap.size w3 w5) := bel_drew hpo.bel; have HP6 : Hid (Below w3.heap.size w3 w6) := HP5.out.trans (htx.mono HP5.out.size); have HC6 : Hid (Blk w6 cb 26 (cf6 r (1 + pk r.room 32) (pk r.idle 1001) ByteArray.empty)) := HC3.out.below HP6.out HC3.out.lt; have e5 := HC6.out.cell 5; have f5 := HC6.out.frozen 5; simp only [cf6, List.getElem?_cons_zero, List.getElem?_cons_succ] at e5))
        have HC7 : Hid (Blk (w6.setCell ⟨cb, 5, none⟩ (.string ⟨(patText r.pattern).toArray⟩)) cb 26 (cf6 r (1 + pk r.room 32) (pk r.idle 1001) ⟨(patText r.pattern).toArray⟩)) := HC6.out.set 5 (.string ⟨(patText r.pattern).toArray⟩)
        have HS7 : Hid (Blk (w6.setCell ⟨cb, 5, none⟩ (.string ⟨(patText r.pattern).toArray⟩)) sb 26 z6) := (HS3.out.below HP6.out HS3.out.lt).other (by simp only; have := HNe.out; omega) _
        have HB7 : Hid (Below w.heap.size w (w6.setCell ⟨cb, 5, none⟩ (.string ⟨(patText r.pattern).toArray⟩))) := (HB3.out.trans (HP6.out.mono HB3.out.size)).setCell (p := ⟨cb, 5, none⟩) (by simp only; have := HNe.out; omega) _
        clear e5 f5 HC6 HP6 HP5 htx hpo d5
        generalize w6.setCell ⟨cb, 5, none⟩ (.string ⟨(patText r.pattern).toArray⟩) = w7 at *
        have e0 := HC7.out.cell 0
        have e1 := HC7.out.cell 1
        have e2 := HC7.out.cell 2
        have e3 := HC7.out.cell 3
        have e4 := HC7.out.cell 4
        have e5 := HC7.out.cell 5
        simp only [cf6, List.getElem?_cons_zero, List.getElem?_cons_succ] at e0 e1 e2 e3 e4 e5
        have s0 := HS7.out.cell 0
        have s1 := HS7.out.cell 1
        have s2 := HS7.out.cell 2
        have s3 := HS7.out.cell 3
        have s4 := HS7.out.cell 4
        have s5 := HS7.out.cell 5
        simp only [z6, List.getElem?_cons_zero, List.getElem?_cons_succ] at s0 s1 s2 s3 s4 s5
        have g0 := HS7.out.frozen 0
        have g1 := HS7.out.frozen 1
        have g2 := HS7.out.frozen 2
        have g3 := HS7.out.frozen 3
        have g4 := HS7.out.frozen 4
        have g5 := HS7.out.frozen 5
        go_wp2
        refine bodyPost_ret (v := .agg #[.int .i64 (1 + pk r.sources 6), .int .i64 (pk r.slack 1001), .int .i64 (pk r.policy 3), .int .i64 (1 + pk r.room 32), .int .i64 (pk r.idle 1001), .string ⟨(patText r.pattern).toArray⟩]) (by simp [results, Tryd.results6, go_sem, s0, s1, s2, s3, s4, s5]) rfl ⟨rfl, ?_⟩
        have hsw : w.heap.size ≤ sb := by have := HNe.out; omega
        exact (((((HB7.out.setCell (p := ⟨sb, 0, none⟩) hsw _).setCell (p := ⟨sb, 1, none⟩) hsw _).setCell (p := ⟨sb, 2, none⟩) hsw _).setCell (p := ⟨sb, 3, none⟩) hsw _).setCell (p := ⟨sb, 4, none⟩) hsw _).setCell (p := ⟨sb, 5, none⟩) hsw _
    · skip
      go_simp
      refine hK.out _ _ (fun _ => HSS.out _ (((Below.refl _ w1).alloc (Nat.le_refl _) _).drew)) ?_
      clear hK K
      (try simp only [Act.put, List.setIfInBounds_toArray, List.set_cons_zero, List.set_cons_succ, List.getElem_toArray, List.getElem_cons_succ, List.getElem_cons_zero])
      refine upTo_one (i := 6) (by kernel_rfl) rfl (fun K hK => ?_)
      go_simp
      refine (hp2 _).mono ?_
      rintro e wv ⟨rfl, rfl⟩
      refine hK.out _ _ (fun _ => HSS.out _ (((Below.refl _ w1).alloc (Nat.le_refl _) _).drew)) ?_
      clear hK K
      (try simp only [Act.put, List.setIfInBounds_toArray, List.set_cons_zero, List.set_cons_succ, List.getElem_toArray, List.getElem_cons_succ, List.getElem_cons_zero])
      refine upTo_one (i := 9) (by kernel_rfl) rfl (fun K hK => ?_)
      go_simp
      refine (hp3 _).mono ?_
      rintro e wv ⟨rfl, rfl⟩
      refine hK.out _ _ (fun _ => HSS.out _ (((Below.refl _ w1).alloc (Nat.le_refl _) _).drew)) ?_
      clear hK K
      (try simp only [Act.put, List.setIfInBounds_toArray, List.set_cons_zero, List.set_cons_succ, List.getElem_toArray, List.getElem_cons_succ, List.getElem_cons_zero])
      have hS0 : (fun u : World => u.cell? ⟨rb, 0, none⟩ = some (.int .i64 r.sources) ∧ u.cell? ⟨rb, 1, none⟩ = some (.int .i64 r.slack) ∧ u.cell? ⟨rb, 2, none⟩ = some (.int .i64 r.policy)) ((w1.alloc (.cells #[.int .i64 0, .int .i64 0, .int .i64 0, .int .i64 0, .int .i64 0, .string { data := #[] }] 26)).drew) := HSS.out _ (((Below.refl _ w1).alloc (Nat.le_refl _) _).drew)
      refine upTo_take (i := 10) (v := ?v21_10) rfl (by kernel_rfl) (by kernel_rfl) (by kernel_rfl) (by kernel_rfl) (by rfl) (fun _ _ _ h => h) (by rfl) hS0 ?hy21_10 ?rest21_10
      case hy21_10 => (intro u hu; (try dsimp only at hu); go_simp; first | done | with_reducible rfl)
      (try simp only [Act.put, List.setIfInBounds_toArray, List.set_cons_zero, List.set_cons_succ, List.getElem_toArray, List.getElem_cons_succ, List.getElem_cons_zero])
      clear hS0
      refine upTo_one (i := 12) (by kernel_rfl) rfl (fun K hK => ?_)
      go_simp
      refine hK.out _ _ (fun h => absurd rfl h) ?_
      clear hK K
      (try simp only [Act.put, List.setIfInBounds_toArray, List.set_cons_zero, List.set_cons_succ, List.getElem_toArray, List.getElem_cons_succ, List.getElem_cons_zero])
      refine upTo_done (by kernel_rfl) ?_
      obtain ⟨w2, HW2⟩ := hex (w1.alloc (.cells (cf6 r 0 0 ByteArray.empty).toArray 26))
      have hw2 : w1.alloc (.cells #[.int .i64 (1 + pk r.sources 6), .int .i64 (pk r.slack 1001), .int .i64 (pk r.policy 3), .int .i64 0, .int .i64 0, .string { data := #[] }] 26) = w2 := HW2.out.symm
      rw [hw2]
      obtain ⟨cb, HCb⟩ := hex w1.heap.size
      have HC2 : Hid (Blk w2 cb 26 (cf6 r 0 0 ByteArray.empty)) := by show Blk _ _ _ _; rw [HW2.out, HCb.out]; exact blk_alloc _ _ _
      have HR2 : Hid (Blk w2 rb 23 r.vals) := by show Blk _ _ _ _; rw [HW2.out]; exact HBr.out.alloc _
      have HS2 : Hid (Blk w2 sb 26 z6) := by show Blk _ _ _ _; rw [HW2.out]; exact HBs.out.alloc _
      have HB2 : Hid (Below w.heap.size w w2) := by show Below _ _ _; rw [HW2.out]; exact HB1.out.alloc (by have := HZ1.out; omega) _
      have HNe : Hid (rb < cb ∧ sb < cb ∧ rb < sb ∧ w.heap.size ≤ rb) := by show _ ∧ _; have := HZ1.out; have := HRb.out; have := HSb.out; have := HCb.out; omega
      rw [← HCb.out]
      clear hw2 HW2 HSS HCb HBr HBs HB1 HZ1 HRb HSb c0 c1 c2
      have d3 := HR2.out.cell 3
      have d4 := HR2.out.cell 4
      have d5 := HR2.out.cell 5
      simp only [RawC.vals, List.getElem?_cons_zero, List.getElem?_cons_succ] at d3 d4 d5
      have e3 := HC2.out.cell 3
      have e4 := HC2.out.cell 4
      simp only [cf6, List.getElem?_cons_zero, List.getElem?_cons_succ] at e3 e4
      have f3 := HC2.out.frozen 3
      have f4 := HC2.out.frozen 4
      have hrc : rb ≠ cb := by have := HNe.out; omega
      have HC3 : Hid (Blk ((w2.setCell ⟨cb, 3, none⟩ (.int .i64 (1 + pk r.room 32))).setCell ⟨cb, 4, none⟩ (.int .i64 (pk r.idle 1001))) cb 26 (cf6 r (1 + pk r.room 32) (pk r.idle 1001) ByteArray.empty)) := (HC2.out.set 3 (.int .i64 (1 + pk r.room 32))).set 4 (.int .i64 (pk r.idle 1001))
      have HR3 : Hid (Blk ((w2.setCell ⟨cb, 3, none⟩ (.int .i64 (1 + pk r.room 32))).setCell ⟨cb, 4, none⟩ (.int .i64 (pk r.idle 1001))) rb 23 r.vals) := (HR2.out.other (by simp only; have := HNe.out; omega) _).other (by simp only; have := HNe.out; omega) _
      have HS3 : Hid (Blk ((w2.setCell ⟨cb, 3, none⟩ (.int .i64 (1 + pk r.room 32))).setCell ⟨cb, 4, none⟩ (.int .i64 (pk r.idle 1001))) sb 26 z6) := (HS2.out.other (by simp only; have := HNe.out; omega) _).other (by simp only; have := HNe.out; omega) _
      have HB3 : Hid (Below w.heap.size w ((w2.setCell ⟨cb, 3, none⟩ (.int .i64 (1 + pk r.room 32))).setCell ⟨cb, 4, none⟩ (.int .i64 (pk r.idle 1001)))) := (HB2.out.setCell (p := ⟨cb, 3, none⟩) (by simp only; have := HNe.out; omega) _).setCell (p := ⟨cb, 4, none⟩) (by simp only; have := HNe.out; omega) _
      go_upto_region 3 with (go_at_call 10; refine (hp4 _).mono ?_; rintro e w' ⟨rfl, rfl⟩)
      go_upto_region 4 with (go_at_call 10; refine (hp5 _).mono ?_; rintro e w' ⟨rfl, rfl⟩)
      clear d3 d4 d5 e3 e4 f3 f4 HC2 HR2 HS2 HB2
      generalize (w2.setCell ⟨cb, 3, none⟩ (.int .i64 (1 + pk r.room 32))).setCell ⟨cb, 4, none⟩ (.int .i64 (pk r.idle 1001)) = w3 at *
      have d5 := HR3.out.cell 5
      simp only [RawC.vals, List.getElem?_cons_zero, List.getElem?_cons_succ] at d5
      go_upto_region 5 with (first
        | (go_at_call 7; refine (pattern_any r.pattern _ q6).mono ?_; rintro e w5 ⟨ka, kc, na, nc, rfl, hpo⟩)
        | (go_at_call 24; refine (text_any r.pattern ka kc na nc _ hpo.rk hpo.rn (fun u hu => HT.out u ((HB3.out.trans ((bel_drew hpo.bel).mono HB3.out.size)).trans (hu.mono (Nat.le_trans HB3.out.size (bel_drew hpo.bel).size))))).mono ?_; rintro e w6 ⟨rfl, htx⟩; have HP5 : Hid (Below w3.heap.size w3 w5) := bel_drew hpo.bel; have HP6 : Hid (Below w3.heap.size w3 w6) := HP5.out.trans (htx.mono HP5.out.size); have HC6 : Hid (Blk w6 cb 26 (cf6 r (1 + pk r.room 32) (pk r.idle 1001) ByteArray.empty)) := HC3.out.below HP6.out HC3.out.lt; have e5 := HC6.out.cell 5; have f5 := HC6.out.frozen 5; simp only [cf6, List.getElem?_cons_zero, List.getElem?_cons_succ] at e5))
      have HC7 : Hid (Blk (w6.setCell ⟨cb, 5, none⟩ (.string ⟨(patText r.pattern).toArray⟩)) cb 26 (cf6 r (1 + pk r.room 32) (pk r.idle 1001) ⟨(patText r.pattern).toArray⟩)) := HC6.out.set 5 (.string ⟨(patText r.pattern).toArray⟩)
      have HS7 : Hid (Blk (w6.setCell ⟨cb, 5, none⟩ (.string ⟨(patText r.pattern).toArray⟩)) sb 26 z6) := (HS3.out.below HP6.out HS3.out.lt).other (by simp only; have := HNe.out; omega) _
      have HB7 : Hid (Below w.heap.size w (w6.setCell ⟨cb, 5, none⟩ (.string ⟨(patText r.pattern).toArray⟩))) := (HB3.out.trans (HP6.out.mono HB3.out.size)).setCell (p := ⟨cb, 5, none⟩) (by simp only; have := HNe.out; omega) _
      clear e5 f5 HC6 HP6 HP5 htx hpo d5
      generalize w6.setCell ⟨cb, 5, none⟩ (.string ⟨(patText r.pattern).toArray⟩) = w7 at *
      have e0 := HC7.out.cell 0
      have e1 := HC7.out.cell 1
      have e2 := HC7.out.cell 2
      have e3 := HC7.out.cell 3
      have e4 := HC7.out.cell 4
      have e5 := HC7.out.cell 5
      simp only [cf6, List.getElem?_cons_zero, List.getElem?_cons_succ] at e0 e1 e2 e3 e4 e5
      have s0 := HS7.out.cell 0
      have s1 := HS7.out.cell 1
      have s2 := HS7.out.cell 2
      have s3 := HS7.out.cell 3
      have s4 := HS7.out.cell 4
      have s5 := HS7.out.cell 5
      simp only [z6, List.getElem?_cons_zero, List.getElem?_cons_succ] at s0 s1 s2 s3 s4 s5
      have g0 := HS7.out.frozen 0
      have g1 := HS7.out.frozen 1
      have g2 := HS7.out.frozen 2
      have g3 := HS7.out.frozen 3
      have g4 := HS7.out.frozen 4
      have g5 := HS7.out.frozen 5
      go_wp2
      refine bodyPost_ret (v := .agg #[.int .i64 (1 + pk r.sources 6), .int .i64 (pk r.slack 1001), .int .i64 (pk r.policy 3), .int .i64 (1 + pk r.room 32), .int .i64 (pk r.idle 1001), .string ⟨(patText r.pattern).toArray⟩]) (by simp [results, Tryd.results6, go_sem, s0, s1, s2, s3, s4, s5]) rfl ⟨rfl, ?_⟩
      have hsw : w.heap.size ≤ sb := by have := HNe.out; omega
      exact (((((HB7.out.setCell (p := ⟨sb, 0, none⟩) hsw _).setCell (p := ⟨sb, 1, none⟩) hsw _).setCell (p := ⟨sb, 2, none⟩) hsw _).setCell (p := ⟨sb, 3, none⟩) hsw _).setCell (p := ⟨sb, 4, none⟩) hsw _).setCell (p := ⟨sb, 5, none⟩) hsw _
  · skip
    go_simp
    refine hK.out _ _ (fun _ => HSS.out _ (((Below.refl _ w1).alloc (Nat.le_refl _) _).drew)) ?_
    clear hK K
    (try simp only [Act.put, List.setIfInBounds_toArray, List.set_cons_zero, List.set_cons_succ, List.getElem_toArray, List.getElem_cons_succ, List.getElem_cons_zero])
    refine upTo_one (i := 2) (by kernel_rfl) rfl (fun K hK => ?_)
    go_simp
    refine (hp1 _).mono ?_
    rintro e wv ⟨rfl, rfl⟩
    refine hK.out _ _ (fun _ => HSS.out _ (((Below.refl _ w1).alloc (Nat.le_refl _) _).drew)) ?_
    clear hK K
    (try simp only [Act.put, List.setIfInBounds_toArray, List.set_cons_zero, List.set_cons_succ, List.getElem_toArray, List.getElem_cons_succ, List.getElem_cons_zero])
    have hS0 : (fun u : World => u.cell? ⟨rb, 0, none⟩ = some (.int .i64 r.sources) ∧ u.cell? ⟨rb, 1, none⟩ = some (.int .i64 r.slack) ∧ u.cell? ⟨rb, 2, none⟩ = some (.int .i64 r.policy)) ((w1.alloc (.cells #[.int .i64 0, .int .i64 0, .int .i64 0, .int .i64 0, .int .i64 0, .string { data := #[] }] 26)).drew) := HSS.out _ (((Below.refl _ w1).alloc (Nat.le_refl _) _).drew)
    refine upTo_take (i := 3) (v := ?v22_3) rfl (by kernel_rfl) (by kernel_rfl) (by kernel_rfl) (by kernel_rfl) (by rfl) (fun _ _ _ h => h) (by rfl) hS0 ?hy22_3 ?rest22_3
    case hy22_3 => (intro u hu; (try dsimp only at hu); go_simp; first | done | with_reducible rfl)
    (try simp only [Act.put, List.setIfInBounds_toArray, List.set_cons_zero, List.set_cons_succ, List.getElem_toArray, List.getElem_cons_succ, List.getElem_cons_zero])
    clear hS0
    refine upTo_one (i := 6) (by kernel_rfl) rfl (fun K hK => ?_)
    go_simp
    refine (hp2 _).mono ?_
    rintro e wv ⟨rfl, rfl⟩
    refine hK.out _ _ (fun _ => HSS.out _ (((Below.refl _ w1).alloc (Nat.le_refl _) _).drew)) ?_
    clear hK K
    (try simp only [Act.put, List.setIfInBounds_toArray, List.set_cons_zero, List.set_cons_succ, List.getElem_toArray, List.getElem_cons_succ, List.getElem_cons_zero])
    refine upTo_one (i := 9) (by kernel_rfl) rfl (fun K hK => ?_)
    go_simp
    refine (hp3 _).mono ?_
    rintro e wv ⟨rfl, rfl⟩
    refine hK.out _ _ (fun _ => HSS.out _ (((Below.refl _ w1).alloc (Nat.le_refl _) _).drew)) ?_
    clear hK K
    (try simp only [Act.put, List.setIfInBounds_toArray, List.set_cons_zero, List.set_cons_succ, List.getElem_toArray, List.getElem_cons_succ, List.getElem_cons_zero])
    have hS0 : (fun u : World => u.cell? ⟨rb, 0, none⟩ = some (.int .i64 r.sources) ∧ u.cell? ⟨rb, 1, none⟩ = some (.int .i64 r.slack) ∧ u.cell? ⟨rb, 2, none⟩ = some (.int .i64 r.policy)) ((w1.alloc (.cells #[.int .i64 0, .int .i64 0, .int .i64 0, .int .i64 0, .int .i64 0, .string { data := #[] }] 26)).drew) := HSS.out _ (((Below.refl _ w1).alloc (Nat.le_refl _) _).drew)
    refine upTo_take (i := 10) (v := ?v23_10) rfl (by kernel_rfl) (by kernel_rfl) (by kernel_rfl) (by kernel_rfl) (by rfl) (fun _ _ _ h => h) (by rfl) hS0 ?hy23_10 ?rest23_10
    case hy23_10 => (intro u hu; (try dsimp only at hu); go_simp; first | done | with_reducible rfl)
    (try simp only [Act.put, List.setIfInBounds_toArray, List.set_cons_zero, List.set_cons_succ, List.getElem_toArray, List.getElem_cons_succ, List.getElem_cons_zero])
    clear hS0
    refine upTo_one (i := 12) (by kernel_rfl) rfl (fun K hK => ?_)
    go_simp
    refine hK.out _ _ (fun h => absurd rfl h) ?_
    clear hK K
    (try simp only [Act.put, List.setIfInBounds_toArray, List.set_cons_zero, List.set_cons_succ, List.getElem_toArray, List.getElem_cons_succ, List.getElem_cons_zero])
    refine upTo_done (by kernel_rfl) ?_
    obtain ⟨w2, HW2⟩ := hex (w1.alloc (.cells (cf6 r 0 0 ByteArray.empty).toArray 26))
    have hw2 : w1.alloc (.cells #[.int .i64 (1 + pk r.sources 6), .int .i64 (pk r.slack 1001), .int .i64 (pk r.policy 3), .int .i64 0, .int .i64 0, .string { data := #[] }] 26) = w2 := HW2.out.symm
    rw [hw2]
    obtain ⟨cb, HCb⟩ := hex w1.heap.size
    have HC2 : Hid (Blk w2 cb 26 (cf6 r 0 0 ByteArray.empty)) := by show Blk _ _ _ _; rw [HW2.out, HCb.out]; exact blk_alloc _ _ _
    have HR2 : Hid (Blk w2 rb 23 r.vals) := by show Blk _ _ _ _; rw [HW2.out]; exact HBr.out.alloc _
    have HS2 : Hid (Blk w2 sb 26 z6) := by show Blk _ _ _ _; rw [HW2.out]; exact HBs.out.alloc _
    have HB2 : Hid (Below w.heap.size w w2) := by show Below _ _ _; rw [HW2.out]; exact HB1.out.alloc (by have := HZ1.out; omega) _
    have HNe : Hid (rb < cb ∧ sb < cb ∧ rb < sb ∧ w.heap.size ≤ rb) := by show _ ∧ _; have := HZ1.out; have := HRb.out; have := HSb.out; have := HCb.out; omega
    rw [← HCb.out]
    clear hw2 HW2 HSS HCb HBr HBs HB1 HZ1 HRb HSb c0 c1 c2
    have d3 := HR2.out.cell 3
    have d4 := HR2.out.cell 4
    have d5 := HR2.out.cell 5
    simp only [RawC.vals, List.getElem?_cons_zero, List.getElem?_cons_succ] at d3 d4 d5
    have e3 := HC2.out.cell 3
    have e4 := HC2.out.cell 4
    simp only [cf6, List.getElem?_cons_zero, List.getElem?_cons_succ] at e3 e4
    have f3 := HC2.out.frozen 3
    have f4 := HC2.out.frozen 4
    have hrc : rb ≠ cb := by have := HNe.out; omega
    have HC3 : Hid (Blk ((w2.setCell ⟨cb, 3, none⟩ (.int .i64 (1 + pk r.room 32))).setCell ⟨cb, 4, none⟩ (.int .i64 (pk r.idle 1001))) cb 26 (cf6 r (1 + pk r.room 32) (pk r.idle 1001) ByteArray.empty)) := (HC2.out.set 3 (.int .i64 (1 + pk r.room 32))).set 4 (.int .i64 (pk r.idle 1001))
    have HR3 : Hid (Blk ((w2.setCell ⟨cb, 3, none⟩ (.int .i64 (1 + pk r.room 32))).setCell ⟨cb, 4, none⟩ (.int .i64 (pk r.idle 1001))) rb 23 r.vals) := (HR2.out.other (by simp only; have := HNe.out; omega) _).other (by simp only; have := HNe.out; omega) _
    have HS3 : Hid (Blk ((w2.setCell ⟨cb, 3, none⟩ (.int .i64 (1 + pk r.room 32))).setCell ⟨cb, 4, none⟩ (.int .i64 (pk r.idle 1001))) sb 26 z6) := (HS2.out.other (by simp only; have := HNe.out; omega) _).other (by simp only; have := HNe.out; omega) _
    have HB3 : Hid (Below w.heap.size w ((w2.setCell ⟨cb, 3, none⟩ (.int .i64 (1 + pk r.room 32))).setCell ⟨cb, 4, none⟩ (.int .i64 (pk r.idle 1001)))) := (HB2.out.setCell (p := ⟨cb, 3, none⟩) (by simp only; have := HNe.out; omega) _).setCell (p := ⟨cb, 4, none⟩) (by simp only; have := HNe.out; omega) _
    go_upto_region 3 with (go_at_call 10; refine (hp4 _).mono ?_; rintro e w' ⟨rfl, rfl⟩)
    go_upto_region 4 with (go_at_call 10; refine (hp5 _).mono ?_; rintro e w' ⟨rfl, rfl⟩)
    clear d3 d4 d5 e3 e4 f3 f4 HC2 HR2 HS2 HB2
    generalize (w2.setCell ⟨cb, 3, none⟩ (.int .i64 (1 + pk r.room 32))).setCell ⟨cb, 4, none⟩ (.int .i64 (pk r.idle 1001)) = w3 at *
    have d5 := HR3.out.cell 5
    simp only [RawC.vals, List.getElem?_cons_zero, List.getElem?_cons_succ] at d5
    go_upto_region 5 with (first
      | (go_at_call 7; refine (pattern_any r.pattern _ q6).mono ?_; rintro e w5 ⟨ka, kc, na, nc, rfl, hpo⟩)
      | (go_at_call 24; refine (text_any r.pattern ka kc na nc _ hpo.rk hpo.rn (fun u hu => HT.out u ((HB3.out.trans ((bel_drew hpo.bel).mono HB3.out.size)).trans (hu.mono (Nat.le_trans HB3.out.size (bel_drew hpo.bel).size))))).mono ?_; rintro e w6 ⟨rfl, htx⟩; have HP5 : Hid (Below w3.heap.size w3 w5) := bel_drew hpo.bel; have HP6 : Hid (Below w3.heap.size w3 w6) := HP5.out.trans (htx.mono HP5.out.size); have HC6 : Hid (Blk w6 cb 26 (cf6 r (1 + pk r.room 32) (pk r.idle 1001) ByteArray.empty)) := HC3.out.below HP6.out HC3.out.lt; have e5 := HC6.out.cell 5; have f5 := HC6.out.frozen 5; simp only [cf6, List.getElem?_cons_zero, List.getElem?_cons_succ] at e5))
    have HC7 : Hid (Blk (w6.setCell ⟨cb, 5, none⟩ (.string ⟨(patText r.pattern).toArray⟩)) cb 26 (cf6 r (1 + pk r.room 32) (pk r.idle 1001) ⟨(patText r.pattern).toArray⟩)) := HC6.out.set 5 (.string ⟨(patText r.pattern).toArray⟩)
    have HS7 : Hid (Blk (w6.setCell ⟨cb, 5, none⟩ (.string ⟨(patText r.pattern).toArray⟩)) sb 26 z6) := (HS3.out.below HP6.out HS3.out.lt).other (by simp only; have := HNe.out; omega) _
    have HB7 : Hid (Below w.heap.size w (w6.setCell ⟨cb, 5, none⟩ (.string ⟨(patText r.pattern).toArray⟩))) := (HB3.out.trans (HP6.out.mono HB3.out.size)).setCell (p := ⟨cb, 5, none⟩) (by simp only; have := HNe.out; omega) _
    clear e5 f5 HC6 HP6 HP5 htx hpo d5
    generalize w6.setCell ⟨cb, 5, none⟩ (.string ⟨(patText r.pattern).toArray⟩) = w7 at *
    have e0 := HC7.out.cell 0
    have e1 := HC7.out.cell 1
    have e2 := HC7.out.cell 2
    have e3 := HC7.out.cell 3
    have e4 := HC7.out.cell 4
    have e5 := HC7.out.cell 5
    simp only [cf6, List.getElem?_cons_zero, List.getElem?_cons_succ] at e0 e1 e2 e3 e4 e5
    have s0 := HS7.out.cell 0
    have s1 := HS7.out.cell 1
    have s2 := HS7.out.cell 2
    have s3 := HS7.out.cell 3
    have s4 := HS7.out.cell 4
    have s5 := HS7.out.cell 5
    simp only [z6, List.getElem?_cons_zero, List.getElem?_cons_succ] at s0 s1 s2 s3 s4 s5
    have g0 := HS7.out.frozen 0
    have g1 := HS7.out.frozen 1
    have g2 := HS7.out.frozen 2
    have g3 := HS7.out.frozen 3
    have g4 := HS7.out.frozen 4
    have g5 := HS7.out.frozen 5
    go_wp2
    refine bodyPost_ret (v := .agg #[.int .i64 (1 + pk r.sources 6), .int .i64 (pk r.slack 1001), .int .i64 (pk r.policy 3), .int .i64 (1 + pk r.room 32), .int .i64 (pk r.idle 1001), .string ⟨(patText r.pattern).toArray⟩]) (by simp [results, Tryd.results6, go_sem, s0, s1, s2, s3, s4, s5]) rfl ⟨rfl, ?_⟩
    have hsw : w.heap.size ≤ sb := by have := HNe.out; omega
    exact (((((HB7.out.setCell (p := ⟨sb, 0, none⟩) hsw _).setCell (p := ⟨sb, 1, none⟩) hsw _).setCell (p := ⟨sb, 2, none⟩) hsw _).setCell (p := ⟨sb, 3, none⟩) hsw _).setCell (p := ⟨sb, 4, none⟩) hsw _).setCell (p := ⟨sb, 5, none⟩) hsw _
end Go.Proofs.YtghcololkgeoeabDoor
