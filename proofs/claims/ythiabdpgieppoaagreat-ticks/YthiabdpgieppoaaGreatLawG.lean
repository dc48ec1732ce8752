import Derived.Test.YthiabdpgieppoaaGreatLawF
namespace Go.Proofs.YthiabdpgieppoaaGreat
open Go.RowKit
set_option linter.unusedVariables false
set_option linter.unusedSimpArgs false
attribute [local go_sem ↓] Go.wp_at_zero Go.wp_at_succ

/-- a step of a script -/
def opVal (k A : Int) (E : Ev) (S : ByteArray) : Value := .agg #[.int .i64 k, .int .i64 A, .int .i64 E.src, .int .i64 E.seq, .int .i64 E.ts, .int .i64 E.kind, .int .i64 E.val, .string S]
def opCells (k A : Int) (E : Ev) (S : ByteArray) : List Value := [.int .i64 k, .int .i64 A, .int .i64 E.src, .int .i64 E.seq, .int .i64 E.ts, .int .i64 E.kind, .int .i64 E.val, .string S]
/-- what is told of a source -/
structure Told where
  inn : Bool
  idle : Bool
  mark : Int
  n : Int
  last : Int
  err : Int
def Told.cells (T : Told) : List Value := [.bool T.inn, .bool T.idle, .int .i64 T.mark, .int .i64 T.n, .int .i64 T.last]
def Eng.tell (X : Eng) (s : Int) : Told := if s < 0 then ⟨false, false, 0, 0, 0, 3⟩ else match X.srcs[s.toNat]? with | some p => ⟨p.inn, p.idle, p.mark, X.waitOf s, p.last, 0⟩ | none => ⟨false, false, 0, 0, 0, 3⟩
def Ref.tell (R : Ref) (s : Int) : Told := if s < 0 then ⟨false, false, 0, 0, 0, 3⟩ else match R.srcs[s.toNat]? with | some r => ⟨r.inn, R.isIdle s.toNat, R.mark s.toNat, (R.wait s).length, greatest r.seqs (-1), 0⟩ | none => ⟨false, false, 0, 0, 0, 3⟩
theorem tell_same {X : Eng} {R : Ref} (h : Sim X R) (s : Int) : X.tell s = R.tell s := by
  unfold Eng.tell Ref.tell
  by_cases hs : s < 0
  · rw [if_pos hs, if_pos hs]
  · rw [if_neg hs, if_neg hs]
    by_cases hl : s.toNat < R.srcs.length
    · obtain ⟨p, r, hp, hr⟩ := sim_get h hl
      rw [hp, hr]
      simp only
      have q := h.src _ p r hp hr
      obtain ⟨_, hm⟩ := sim_active h hp hr
      have hid : R.isIdle s.toNat = p.idle := by unfold Ref.isIdle; rw [hr]; exact q.idle.symm
      have hw := sim_waitOf h s (by omega)
      unfold Eng.waitOf
      rw [hw, q.inn, hid, hm, q.last]
    · have hn := h.n
      rw [List.getElem?_eq_none (by omega), List.getElem?_eq_none (by omega)]
theorem xsource_any (b : Nat) (X : Eng) (s : Int) (hs : SaneX X) (w : World) (h : MemX w b X) :
    Calls Tryz.prog 62 #[.pointer (some ⟨b, 0, none⟩), .int .i64 s] w fun e w' => e = .returned (.tuple #[srcAgg (X.tell s).inn (X.tell s).idle (X.tell s).mark (X.tell s).n (X.tell s).last, .int .i64 (X.tell s).err]) ∧ Below w.heap.size w w' := by
  unfold Eng.tell
  by_cases h0 : s < 0
  · rw [if_pos h0]; exact xsource_none b X s w h (Or.inl h0)
  · rw [if_neg h0]
    by_cases hl : s.toNat < X.srcs.length
    · rw [List.getElem?_eq_getElem hl]
      have := xsource_some b X s.toNat w h hs hl
      rw [show ((s.toNat : Nat) : Int) = s by omega] at this
      exact this
    · rw [List.getElem?_eq_none (by omega)]
      exact xsource_none b X s w h (Or.inr (by omega))
theorem rof_any (b : Nat) (R : Ref) (s : Int) (hall : R.all.length ≤ 1000) (w : World) (h : MemR w b R) :
    Calls Tryz.prog 63 #[.pointer (some ⟨b, 0, none⟩), .int .i64 s] w fun e w' => e = .returned (.tuple #[srcAgg (R.tell s).inn (R.tell s).idle (R.tell s).mark (R.tell s).n (R.tell s).last, .int .i64 (R.tell s).err]) ∧ Below w.heap.size w w' := by
  unfold Ref.tell
  by_cases h0 : s < 0
  · rw [if_pos h0]; exact rof_none b R s w h (Or.inl h0)
  · rw [if_neg h0]
    by_cases hl : s.toNat < R.srcs.length
    · rw [List.getElem?_eq_getElem hl]
      have := rof_some b R s.toNat w h hall hl
      rw [show ((s.toNat : Nat) : Int) = s by omega] at this
      exact this
    · rw [List.getElem?_eq_none (by omega)]
      exact rof_none b R s w h (Or.inr (by omega))
set_option maxRecDepth 100000 in
set_option maxHeartbeats 2000000 in
theorem asks_mark (wb xb rb : Nat) (X : Eng) (R : Ref) (a : Option Addr) (c : Nat) (l : List El) (A : Int) (E : Ev) (S : ByteArray) (w : World) (h : WInv w wb xb rb X R a c l) (hm : X.merged = R.merged) :
    Calls Tryz.prog 26 #[.pointer (some ⟨wb, 0, none⟩), opVal 7 A E S] w fun e w' => e = .returned (.bool true) ∧ Below w.heap.size w w' := by
  obtain ⟨p0, HW1⟩ := hex (w.alloc (.cells (opCells 7 A E S).toArray 34))
  have HBp0 : Hid (Below w.heap.size w p0) := by show Below _ _ _; rw [HW1.out]; exact (Below.refl _ _).alloc (Nat.le_refl _) _
  have HIp0 : Hid (WInv p0 wb xb rb X R a c l) := h.below HBp0.out
  obtain ⟨ob, HOb⟩ := hex w.heap.size
  have HOp0 : Hid (Blk p0 ob 34 (opCells 7 A E S)) := by show Blk _ _ _ _; rw [HW1.out, HOb.out]; exact blk_alloc _ _ _
  have hw1 : w.alloc (.cells #[.int .i64 7, .int .i64 A, .int .i64 E.src, .int .i64 E.seq, .int .i64 E.ts, .int .i64 E.kind, .int .i64 E.val, .string S] 34) = p0 := HW1.out.symm
  unfold opVal
  go_enter Tryz.func26, Tryz.ntmps26
  go_upto_region 1 with fail
  rw [← HOb.out]
  clear hw1 HW1 h
  have o0 := HOp0.out.cell 0
  have b0 := HIp0.out.blk.cell 0
  have b1 := HIp0.out.blk.cell 1
  simp only [opCells, List.getElem?_cons_zero, List.getElem?_cons_succ] at o0 b0 b1
  have r12 := HIp0.out.mr.cells.2.2.2.2
  rw [← hm] at r12
  clear hm
  go_wp2_with (go_at_call 61; refine (xmark_any xb X _ HIp0.out.mx).mono ?_; rintro e w' ⟨rfl, rfl⟩)
  go_ret
  exact ⟨rfl, HBp0.out⟩
set_option maxRecDepth 100000 in
set_option maxHeartbeats 8000000 in
theorem asks_source (wb xb rb : Nat) (X : Eng) (R : Ref) (a : Option Addr) (c : Nat) (l : List El) (A : Int) (E : Ev) (S : ByteArray) (w : World) (h : WInv w wb xb rb X R a c l) (hs : SaneX X) (hall : R.all.length ≤ 1000) (ht : X.tell A = R.tell A) :
    Calls Tryz.prog 26 #[.pointer (some ⟨wb, 0, none⟩), opVal 8 A E S] w fun e w' => e = .returned (.bool true) ∧ Below w.heap.size w w' := by
  obtain ⟨T, HT⟩ := hex (X.tell A)
  have hX : ∀ (w : World), MemX w xb X → Calls Tryz.prog 62 #[.pointer (some ⟨xb, 0, none⟩), .int .i64 A] w fun e w' => e = .returned (.tuple #[srcAgg T.inn T.idle T.mark T.n T.last, .int .i64 T.err]) ∧ Below w.heap.size w w' := by
    rw [HT.out]; exact fun w => xsource_any xb X A hs w
  have hR : ∀ (w : World), MemR w rb R → Calls Tryz.prog 63 #[.pointer (some ⟨rb, 0, none⟩), .int .i64 A] w fun e w' => e = .returned (.tuple #[srcAgg T.inn T.idle T.mark T.n T.last, .int .i64 T.err]) ∧ Below w.heap.size w w' := by
    rw [HT.out, ht]; exact fun w => rof_any rb R A hall w
  clear ht HT hs hall
  obtain ⟨p0, HW1⟩ := hex (w.alloc (.cells (opCells 8 A E S).toArray 34))
  have HBp0 : Hid (Below w.heap.size w p0) := by show Below _ _ _; rw [HW1.out]; exact (Below.refl _ _).alloc (Nat.le_refl _) _
  have HIp0 : Hid (WInv p0 wb xb rb X R a c l) := h.below HBp0.out
  obtain ⟨ob, HOb⟩ := hex w.heap.size
  have HOp0 : Hid (Blk p0 ob 34 (opCells 8 A E S)) := by show Blk _ _ _ _; rw [HW1.out, HOb.out]; exact blk_alloc _ _ _
  have hw1 : w.alloc (.cells #[.int .i64 8, .int .i64 A, .int .i64 E.src, .int .i64 E.seq, .int .i64 E.ts, .int .i64 E.kind, .int .i64 E.val, .string S] 34) = p0 := HW1.out.symm
  unfold opVal
  go_enter Tryz.func26, Tryz.ntmps26
  go_upto_region 1 with fail
  rw [← HOb.out]
  clear hw1 HW1 h
  have o0 := HOp0.out.cell 0
  have b0 := HIp0.out.blk.cell 0
  have b1 := HIp0.out.blk.cell 1
  simp only [opCells, List.getElem?_cons_zero, List.getElem?_cons_succ] at o0 b0 b1
  go_upto_region 6 with fail
  clear o0 b0 b1
  have bp := HIp0.out.blk.cell 0
  have op := HOp0.out.cell 1
  simp only [opCells, List.getElem?_cons_zero, List.getElem?_cons_succ] at bp op
  refine upTo_region (fun u : World => u.cell? ⟨wb, 0, none⟩ = some (.pointer (some ⟨xb, 0, none⟩)) ∧ u.cell? ⟨ob, 1, none⟩ = some (.int .i64 A)) 12 13 rfl (by kernel_rfl) ?_
  have hS0 : (fun u : World => u.cell? ⟨wb, 0, none⟩ = some (.pointer (some ⟨xb, 0, none⟩)) ∧ u.cell? ⟨ob, 1, none⟩ = some (.int .i64 A)) p0.drew := ⟨bp, op⟩
  refine upTo_take (i := 0) (v := ?v1_0) rfl (by kernel_rfl) (by kernel_rfl) (by kernel_rfl) (by kernel_rfl) (by rfl) (fun _ _ _ h => h) (by rfl) hS0 ?hy1_0 ?rest1_0
  case hy1_0 => (intro u hu; (try dsimp only at hu); go_simp; first | done | with_reducible rfl)
  (try simp only [Act.put, List.setIfInBounds_toArray, List.set_cons_zero, List.set_cons_succ, List.getElem_toArray, List.getElem_cons_succ, List.getElem_cons_zero])
  refine upTo_take (i := 1) (v := ?v1_1) rfl (by kernel_rfl) (by kernel_rfl) (by kernel_rfl) (by kernel_rfl) (by rfl) (fun _ _ _ h => h) (by rfl) hS0 ?hy1_1 ?rest1_1
  case hy1_1 => (intro u hu; (try dsimp only at hu); go_simp; first | done | with_reducible rfl)
  (try simp only [Act.put, List.setIfInBounds_toArray, List.set_cons_zero, List.set_cons_succ, List.getElem_toArray, List.getElem_cons_succ, List.getElem_cons_zero])
  refine upTo_take (i := 2) (v := ?v1_2) rfl (by kernel_rfl) (by kernel_rfl) (by kernel_rfl) (by kernel_rfl) (by rfl) (fun _ _ _ h => h) (by rfl) hS0 ?hy1_2 ?rest1_2
  case hy1_2 => (intro u hu; (try dsimp only at hu); go_simp; first | done | with_reducible rfl)
  (try simp only [Act.put, List.setIfInBounds_toArray, List.set_cons_zero, List.set_cons_succ, List.getElem_toArray, List.getElem_cons_succ, List.getElem_cons_zero])
  refine upTo_take (i := 3) (v := ?v1_3) rfl (by kernel_rfl) (by kernel_rfl) (by kernel_rfl) (by kernel_rfl) (by rfl) (fun _ _ _ h => h) (by rfl) hS0 ?hy1_3 ?rest1_3
  case hy1_3 => (intro u hu; (try dsimp only at hu); go_simp; first | done | with_reducible rfl)
  (try simp only [Act.put, List.setIfInBounds_toArray, List.set_cons_zero, List.set_cons_succ, List.getElem_toArray, List.getElem_cons_succ, List.getElem_cons_zero])
  refine upTo_take (i := 4) (v := ?v1_4) rfl (by kernel_rfl) (by kernel_rfl) (by kernel_rfl) (by kernel_rfl) (by rfl) (fun _ _ _ h => h) (by rfl) hS0 ?hy1_4 ?rest1_4
  case hy1_4 => (intro u hu; (try dsimp only at hu); go_simp; first | done | with_reducible rfl)
  (try simp only [Act.put, List.setIfInBounds_toArray, List.set_cons_zero, List.set_cons_succ, List.getElem_toArray, List.getElem_cons_succ, List.getElem_cons_zero])
  refine upTo_take (i := 5) (v := ?v1_5) rfl (by kernel_rfl) (by kernel_rfl) (by kernel_rfl) (by kernel_rfl) (by rfl) (fun _ _ _ h => h) (by rfl) hS0 ?hy1_5 ?rest1_5
  case hy1_5 => (intro u hu; (try dsimp only at hu); go_simp; first | done | with_reducible rfl)
  (try simp only [Act.put, List.setIfInBounds_toArray, List.set_cons_zero, List.set_cons_succ, List.getElem_toArray, List.getElem_cons_succ, List.getElem_cons_zero])
  clear hS0 bp op
  have HSx : Hid (∀ v : World, Below p0.heap.size p0 v → (fun u : World => u.cell? ⟨wb, 0, none⟩ = some (.pointer (some ⟨xb, 0, none⟩)) ∧ u.cell? ⟨ob, 1, none⟩ = some (.int .i64 A)) v) := by
    intro v hv
    exact ⟨(HIp0.out.below hv).blk.cell 0, (HOp0.out.below hv HOp0.out.lt).cell 1⟩
  refine upTo_two (i := 6) (j := 10) (by kernel_rfl) rfl rfl (fun K hK => ?_) (fun K hK => ?_)
  · skip
    go_simp
    refine (hX _ (HIp0.out.mx.drew)).mono ?_
    rintro e up ⟨rfl, hb2⟩
    have HB2 : Hid (Below p0.heap.size p0 up) := ⟨hb2.os, hb2.tape, hb2.output, hb2.size, hb2.block⟩
    clear hb2
    refine hK.out _ _ (fun _ => HSx.out _ HB2.out) ?_
    clear hK K
    unfold srcAgg
    (try simp only [Act.put, List.setIfInBounds_toArray, List.set_cons_zero, List.set_cons_succ, List.getElem_toArray, List.getElem_cons_succ, List.getElem_cons_zero])
    have hS0 : (fun u : World => u.cell? ⟨wb, 0, none⟩ = some (.pointer (some ⟨xb, 0, none⟩)) ∧ u.cell? ⟨ob, 1, none⟩ = some (.int .i64 A)) up := HSx.out _ HB2.out
    refine upTo_take (i := 7) (v := ?v2_7) rfl (by kernel_rfl) (by kernel_rfl) (by kernel_rfl) (by kernel_rfl) (by rfl) (fun _ _ _ h => h) (by rfl) hS0 ?hy2_7 ?rest2_7
    case hy2_7 => (intro u hu; (try dsimp only at hu); go_simp; first | done | with_reducible rfl)
    (try simp only [Act.put, List.setIfInBounds_toArray, List.set_cons_zero, List.set_cons_succ, List.getElem_toArray, List.getElem_cons_succ, List.getElem_cons_zero])
    refine upTo_take (i := 8) (v := ?v2_8) rfl (by kernel_rfl) (by kernel_rfl) (by kernel_rfl) (by kernel_rfl) (by rfl) (fun _ _ _ h => h) (by rfl) hS0 ?hy2_8 ?rest2_8
    case hy2_8 => (intro u hu; (try dsimp only at hu); go_simp; first | done | with_reducible rfl)
    (try simp only [Act.put, List.setIfInBounds_toArray, List.set_cons_zero, List.set_cons_succ, List.getElem_toArray, List.getElem_cons_succ, List.getElem_cons_zero])
    refine upTo_take (i := 9) (v := ?v2_9) rfl (by kernel_rfl) (by kernel_rfl) (by kernel_rfl) (by kernel_rfl) (by rfl) (fun _ _ _ h => h) (by rfl) hS0 ?hy2_9 ?rest2_9
    case hy2_9 => (intro u hu; (try dsimp only at hu); go_simp; first | done | with_reducible rfl)
    (try simp only [Act.put, List.setIfInBounds_toArray, List.set_cons_zero, List.set_cons_succ, List.getElem_toArray, List.getElem_cons_succ, List.getElem_cons_zero])
    clear hS0
    refine upTo_one (i := 10) (by kernel_rfl) rfl (fun K hK => ?_)
    go_simp
    refine hK.out _ _ (fun _ => HSx.out _ (HB2.out.alloc HB2.out.size _)) ?_
    clear hK K
    (try simp only [Act.put, List.setIfInBounds_toArray, List.set_cons_zero, List.set_cons_succ, List.getElem_toArray, List.getElem_cons_succ, List.getElem_cons_zero])
    refine upTo_one (i := 11) (by kernel_rfl) rfl (fun K hK => ?_)
    go_simp
    refine hK.out _ _ (fun _ => HSx.out _ (HB2.out.alloc HB2.out.size _)) ?_
    clear hK K
    (try simp only [Act.put, List.setIfInBounds_toArray, List.set_cons_zero, List.set_cons_succ, List.getElem_toArray, List.getElem_cons_succ, List.getElem_cons_zero])
    refine upTo_one (i := 12) (by kernel_rfl) rfl (fun K hK => ?_)
    go_simp
    refine hK.out _ _ (fun h => absurd rfl h) ?_
    clear hK K
    (try simp only [Act.put, List.setIfInBounds_toArray, List.set_cons_zero, List.set_cons_succ, List.getElem_toArray, List.getElem_cons_succ, List.getElem_cons_zero])
    refine upTo_done (by kernel_rfl) ?_
    obtain ⟨p, HV⟩ := hex (up.alloc (.cells T.cells.toArray 108))
    have hv : up.alloc (.cells #[.bool T.inn, .bool T.idle, .int .i64 T.mark, .int .i64 T.n, .int .i64 T.last] 108) = p := HV.out.symm
    rw [hv]
    obtain ⟨sbp, HSb⟩ := hex up.heap.size
    have HSp : Hid (Blk p sbp 108 T.cells) := by show Blk _ _ _ _; rw [HV.out, HSb.out]; exact blk_alloc _ _ _
    have HLp : Hid (Below p0.heap.size p0 p) := by show Below _ _ _; rw [HV.out]; exact HB2.out.alloc HB2.out.size _
    rw [← HSb.out]
    clear hv HV HSb HB2 HSx
    have HIp : Hid (WInv p wb xb rb X R a c l) := HIp0.out.below HLp.out
    have HOp : Hid (Blk p ob 34 (opCells 8 A E S)) := HOp0.out.below HLp.out HOp0.out.lt
    have HBp : Hid (Below w.heap.size w p) := HBp0.out.trans (HLp.out.mono HBp0.out.size)
    go_upto_region 7 with fail
    have bq := HIp.out.blk.cell 1
    have oq := HOp.out.cell 1
    simp only [opCells, List.getElem?_cons_zero, List.getElem?_cons_succ] at bq oq
    refine upTo_region (fun u : World => u.cell? ⟨wb, 1, none⟩ = some (.pointer (some ⟨rb, 0, none⟩)) ∧ u.cell? ⟨ob, 1, none⟩ = some (.int .i64 A)) 12 13 rfl (by kernel_rfl) ?_
    have hS0 : (fun u : World => u.cell? ⟨wb, 1, none⟩ = some (.pointer (some ⟨rb, 0, none⟩)) ∧ u.cell? ⟨ob, 1, none⟩ = some (.int .i64 A)) p.drew := ⟨bq, oq⟩
    refine upTo_take (i := 0) (v := ?v3_0) rfl (by kernel_rfl) (by kernel_rfl) (by kernel_rfl) (by kernel_rfl) (by rfl) (fun _ _ _ h => h) (by rfl) hS0 ?hy3_0 ?rest3_0
    case hy3_0 => (intro u hu; (try dsimp only at hu); go_simp; first | done | with_reducible rfl)
    (try simp only [Act.put, List.setIfInBounds_toArray, List.set_cons_zero, List.set_cons_succ, List.getElem_toArray, List.getElem_cons_succ, List.getElem_cons_zero])
    refine upTo_take (i := 1) (v := ?v3_1) rfl (by kernel_rfl) (by kernel_rfl) (by kernel_rfl) (by kernel_rfl) (by rfl) (fun _ _ _ h => h) (by rfl) hS0 ?hy3_1 ?rest3_1
    case hy3_1 => (intro u hu; (try dsimp only at hu); go_simp; first | done | with_reducible rfl)
    (try simp only [Act.put, List.setIfInBounds_toArray, List.set_cons_zero, List.set_cons_succ, List.getElem_toArray, List.getElem_cons_succ, List.getElem_cons_zero])
    refine upTo_take (i := 2) (v := ?v3_2) rfl (by kernel_rfl) (by kernel_rfl) (by kernel_rfl) (by kernel_rfl) (by rfl) (fun _ _ _ h => h) (by rfl) hS0 ?hy3_2 ?rest3_2
    case hy3_2 => (intro u hu; (try dsimp only at hu); go_simp; first | done | with_reducible rfl)
    (try simp only [Act.put, List.setIfInBounds_toArray, List.set_cons_zero, List.set_cons_succ, List.getElem_toArray, List.getElem_cons_succ, List.getElem_cons_zero])
    refine upTo_take (i := 3) (v := ?v3_3) rfl (by kernel_rfl) (by kernel_rfl) (by kernel_rfl) (by kernel_rfl) (by rfl) (fun _ _ _ h => h) (by rfl) hS0 ?hy3_3 ?rest3_3
    case hy3_3 => (intro u hu; (try dsimp only at hu); go_simp; first | done | with_reducible rfl)
    (try simp only [Act.put, List.setIfInBounds_toArray, List.set_cons_zero, List.set_cons_succ, List.getElem_toArray, List.getElem_cons_succ, List.getElem_cons_zero])
    refine upTo_take (i := 4) (v := ?v3_4) rfl (by kernel_rfl) (by kernel_rfl) (by kernel_rfl) (by kernel_rfl) (by rfl) (fun _ _ _ h => h) (by rfl) hS0 ?hy3_4 ?rest3_4
    case hy3_4 => (intro u hu; (try dsimp only at hu); go_simp; first | done | with_reducible rfl)
    (try simp only [Act.put, List.setIfInBounds_toArray, List.set_cons_zero, List.set_cons_succ, List.getElem_toArray, List.getElem_cons_succ, List.getElem_cons_zero])
    refine upTo_take (i := 5) (v := ?v3_5) rfl (by kernel_rfl) (by kernel_rfl) (by kernel_rfl) (by kernel_rfl) (by rfl) (fun _ _ _ h => h) (by rfl) hS0 ?hy3_5 ?rest3_5
    case hy3_5 => (intro u hu; (try dsimp only at hu); go_simp; first | done | with_reducible rfl)
    (try simp only [Act.put, List.setIfInBounds_toArray, List.set_cons_zero, List.set_cons_succ, List.getElem_toArray, List.getElem_cons_succ, List.getElem_cons_zero])
    clear hS0 bq oq
    have HSx : Hid (∀ v : World, Below p.heap.size p v → (fun u : World => u.cell? ⟨wb, 1, none⟩ = some (.pointer (some ⟨rb, 0, none⟩)) ∧ u.cell? ⟨ob, 1, none⟩ = some (.int .i64 A)) v) := by
      intro v hv
      exact ⟨(HIp.out.below hv).blk.cell 1, (HOp.out.below hv HOp.out.lt).cell 1⟩
    refine upTo_two (i := 6) (j := 10) (by kernel_rfl) rfl rfl (fun K hK => ?_) (fun K hK => ?_)
    · skip
      go_simp
      refine (hR _ (HIp.out.mr.drew)).mono ?_
      rintro e uq ⟨rfl, hb2⟩
      have HB2 : Hid (Below p.heap.size p uq) := ⟨hb2.os, hb2.tape, hb2.output, hb2.size, hb2.block⟩
      clear hb2
      refine hK.out _ _ (fun _ => HSx.out _ HB2.out) ?_
      clear hK K
      unfold srcAgg
      (try simp only [Act.put, List.setIfInBounds_toArray, List.set_cons_zero, List.set_cons_succ, List.getElem_toArray, List.getElem_cons_succ, List.getElem_cons_zero])
      have hS0 : (fun u : World => u.cell? ⟨wb, 1, none⟩ = some (.pointer (some ⟨rb, 0, none⟩)) ∧ u.cell? ⟨ob, 1, none⟩ = some (.int .i64 A)) uq := HSx.out _ HB2.out
      refine upTo_take (i := 7) (v := ?v4_7) rfl (by kernel_rfl) (by kernel_rfl) (by kernel_rfl) (by kernel_rfl) (by rfl) (fun _ _ _ h => h) (by rfl) hS0 ?hy4_7 ?rest4_7
      case hy4_7 => (intro u hu; (try dsimp only at hu); go_simp; first | done | with_reducible rfl)
      (try simp only [Act.put, List.setIfInBounds_toArray, List.set_cons_zero, List.set_cons_succ, List.getElem_toArray, List.getElem_cons_succ, List.getElem_cons_zero])
      refine upTo_take (i := 8) (v := ?v4_8) rfl (by kernel_rfl) (by kernel_rfl) (by kernel_rfl) (by kernel_rfl) (by rfl) (fun _ _ _ h => h) (by rfl) hS0 ?hy4_8 ?rest4_8
      case hy4_8 => (intro u hu; (try dsimp only at hu); go_simp; first | done | with_reducible rfl)
      (try simp only [Act.put, List.setIfInBounds_toArray, List.set_cons_zero, List.set_cons_succ, List.getElem_toArray, List.getElem_cons_succ, List.getElem_cons_zero])
      refine upTo_take (i := 9) (v := ?v4_9) rfl (by kernel_rfl) (by kernel_rfl) (by kernel_rfl) (by kernel_rfl) (by rfl) (fun _ _ _ h => h) (by rfl) hS0 ?hy4_9 ?rest4_9
      case hy4_9 => (intro u hu; (try dsimp only at hu); go_simp; first | done | with_reducible rfl)
      (try simp only [Act.put, List.setIfInBounds_toArray, List.set_cons_zero, List.set_cons_succ, List.getElem_toArray, List.getElem_cons_succ, List.getElem_cons_zero])
      clear hS0
      refine upTo_one (i := 10) (by kernel_rfl) rfl (fun K hK => ?_)
      go_simp
      refine hK.out _ _ (fun _ => HSx.out _ (HB2.out.alloc HB2.out.size _)) ?_
      clear hK K
      (try simp only [Act.put, List.setIfInBounds_toArray, List.set_cons_zero, List.set_cons_succ, List.getElem_toArray, List.getElem_cons_succ, List.getElem_cons_zero])
      refine upTo_one (i := 11) (by kernel_rfl) rfl (fun K hK => ?_)
      go_simp
      refine hK.out _ _ (fun _ => HSx.out _ (HB2.out.alloc HB2.out.size _)) ?_
      clear hK K
      (try simp only [Act.put, List.setIfInBounds_toArray, List.set_cons_zero, List.set_cons_succ, List.getElem_toArray, List.getElem_cons_succ, List.getElem_cons_zero])
      refine upTo_one (i := 12) (by kernel_rfl) rfl (fun K hK => ?_)
      go_simp
      refine hK.out _ _ (fun h => absurd rfl h) ?_
      clear hK K
      (try simp only [Act.put, List.setIfInBounds_toArray, List.set_cons_zero, List.set_cons_succ, List.getElem_toArray, List.getElem_cons_succ, List.getElem_cons_zero])
      refine upTo_done (by kernel_rfl) ?_
      obtain ⟨q, HV⟩ := hex (uq.alloc (.cells T.cells.toArray 108))
      have hv : uq.alloc (.cells #[.bool T.inn, .bool T.idle, .int .i64 T.mark, .int .i64 T.n, .int .i64 T.last] 108) = q := HV.out.symm
      rw [hv]
      obtain ⟨sbq, HSb⟩ := hex uq.heap.size
      have HSq : Hid (Blk q sbq 108 T.cells) := by show Blk _ _ _ _; rw [HV.out, HSb.out]; exact blk_alloc _ _ _
      have HLq : Hid (Below p.heap.size p q) := by show Below _ _ _; rw [HV.out]; exact HB2.out.alloc HB2.out.size _
      rw [← HSb.out]
      clear hv HV HSb HB2 HSx
      have HIq : Hid (WInv q wb xb rb X R a c l) := HIp.out.below HLq.out
      have HOq : Hid (Blk q ob 34 (opCells 8 A E S)) := HOp.out.below HLq.out HOp.out.lt
      have HBq : Hid (Below w.heap.size w q) := HBp.out.trans (HLq.out.mono HBp.out.size)
      have HSx6 : Hid (Blk q sbp 108 T.cells) := HSp.out.below HLq.out HSp.out.lt
      have x0 := HSx6.out.cell 0
      have x1 := HSx6.out.cell 1
      have x2 := HSx6.out.cell 2
      have x3 := HSx6.out.cell 3
      have x4 := HSx6.out.cell 4
      have y0 := HSq.out.cell 0
      have y1 := HSq.out.cell 1
      have y2 := HSq.out.cell 2
      have y3 := HSq.out.cell 3
      have y4 := HSq.out.cell 4
      simp only [Told.cells, List.getElem?_cons_zero, List.getElem?_cons_succ] at x0 x1 x2 x3 x4 y0 y1 y2 y3 y4
      go_wp2_with (go_at_call 13; refine (num_any _ _).mono ?_; rintro e w' ⟨rfl, rfl⟩)
      go_ret
      exact ⟨rfl, HBq.out⟩
    · skip
      go_simp
      refine hK.out _ _ (fun _ => HSx.out _ (((Below.refl _ p).alloc (Nat.le_refl _) _).drew)) ?_
      clear hK K
      (try simp only [Act.put, List.setIfInBounds_toArray, List.set_cons_zero, List.set_cons_succ, List.getElem_toArray, List.getElem_cons_succ, List.getElem_cons_zero])
      obtain ⟨zq, HZ⟩ := hex (p.drew.alloc (.cells z5.toArray 108))
      have hz : p.drew.alloc (.cells #[.bool false, .bool false, .int .i64 0, .int .i64 0, .int .i64 0] 108) = zq := HZ.out.symm
      (try rw [hz])
      have hz' : (p.alloc (.cells #[.bool false, .bool false, .int .i64 0, .int .i64 0, .int .i64 0] 108)).drew = zq := HZ.out.symm
      (try rw [hz'])
      obtain ⟨sbq, HSb⟩ := hex p.heap.size
      have HBz : Hid (Below p.heap.size p zq) := by show Below _ _ _; rw [HZ.out]; exact (((Below.refl _ p).drew).alloc (Nat.le_refl _) _)
      have HZ5 : Hid (Blk zq sbq 108 z5) := by show Blk _ _ _ _; rw [HZ.out, HSb.out]; exact blk_alloc _ _ _
      (try rw [← HSb.out])
      clear hz hz' HZ
      refine upTo_one (i := 6) (by kernel_rfl) rfl (fun K hK => ?_)
      go_simp
      refine (hR _ (HIp.out.mr.below HBz.out)).mono ?_
      rintro e uq ⟨rfl, hb2⟩
      have HB2 : Hid (Below p.heap.size p uq) := HBz.out.trans (hb2.mono HBz.out.size)
      have HZ2 : Hid (Blk uq sbq 108 z5) := HZ5.out.below hb2 HZ5.out.lt
      clear hb2
      refine hK.out _ _ (fun _ => HSx.out _ HB2.out) ?_
      clear hK K
      unfold srcAgg
      (try simp only [Act.put, List.setIfInBounds_toArray, List.set_cons_zero, List.set_cons_succ, List.getElem_toArray, List.getElem_cons_succ, List.getElem_cons_zero])
      have hS0 : (fun u : World => u.cell? ⟨wb, 1, none⟩ = some (.pointer (some ⟨rb, 0, none⟩)) ∧ u.cell? ⟨ob, 1, none⟩ = some (.int .i64 A)) uq := HSx.out _ HB2.out
      refine upTo_take (i := 7) (v := ?v5_7) rfl (by kernel_rfl) (by kernel_rfl) (by kernel_rfl) (by kernel_rfl) (by rfl) (fun _ _ _ h => h) (by rfl) hS0 ?hy5_7 ?rest5_7
      case hy5_7 => (intro u hu; (try dsimp only at hu); go_simp; first | done | with_reducible rfl)
      (try simp only [Act.put, List.setIfInBounds_toArray, List.set_cons_zero, List.set_cons_succ, List.getElem_toArray, List.getElem_cons_succ, List.getElem_cons_zero])
      refine upTo_take (i := 8) (v := ?v5_8) rfl (by kernel_rfl) (by kernel_rfl) (by kernel_rfl) (by kernel_rfl) (by rfl) (fun _ _ _ h => h) (by rfl) hS0 ?hy5_8 ?rest5_8
      case hy5_8 => (intro u hu; (try dsimp only at hu); go_simp; first | done | with_reducible rfl)
      (try simp only [Act.put, List.setIfInBounds_toArray, List.set_cons_zero, List.set_cons_succ, List.getElem_toArray, List.getElem_cons_succ, List.getElem_cons_zero])
      refine upTo_take (i := 9) (v := ?v5_9) rfl (by kernel_rfl) (by kernel_rfl) (by kernel_rfl) (by kernel_rfl) (by rfl) (fun _ _ _ h => h) (by rfl) hS0 ?hy5_9 ?rest5_9
      case hy5_9 => (intro u hu; (try dsimp only at hu); go_simp; first | done | with_reducible rfl)
      (try simp only [Act.put, List.setIfInBounds_toArray, List.set_cons_zero, List.set_cons_succ, List.getElem_toArray, List.getElem_cons_succ, List.getElem_cons_zero])
      clear hS0
      have hsx : sbq = p.heap.size := HSb.out
      have HSX : Hid (sbq = p.heap.size) := hsx
      clear hsx
      have r0 := HZ2.out.cell 0
      have r1 := HZ2.out.cell 1
      have r2 := HZ2.out.cell 2
      have r3 := HZ2.out.cell 3
      have r4 := HZ2.out.cell 4
      have g0 := HZ2.out.frozen 0
      have g1 := HZ2.out.frozen 1
      have g2 := HZ2.out.frozen 2
      have g3 := HZ2.out.frozen 3
      have g4 := HZ2.out.frozen 4
      simp only [z5, List.getElem?_cons_zero, List.getElem?_cons_succ] at r0 r1 r2 r3 r4
      have HBs : Hid (Below p.heap.size p (((((uq.setCell ⟨sbq, 0, none⟩ (.bool T.inn)).setCell ⟨sbq, 1, none⟩ (.bool T.idle)).setCell ⟨sbq, 2, none⟩ (.int .i64 T.mark)).setCell ⟨sbq, 3, none⟩ (.int .i64 T.n)).setCell ⟨sbq, 4, none⟩ (.int .i64 T.last))) := by show Below _ _ _; have := HSX.out; subst this; exact HB2.out.trans below_set5
      refine upTo_one (i := 11) (by kernel_rfl) rfl (fun K hK => ?_)
      go_simp
      refine hK.out _ _ (fun _ => HSx.out _ HBs.out) ?_
      clear hK K
      (try simp only [Act.put, List.setIfInBounds_toArray, List.set_cons_zero, List.set_cons_succ, List.getElem_toArray, List.getElem_cons_succ, List.getElem_cons_zero])
      refine upTo_one (i := 12) (by kernel_rfl) rfl (fun K hK => ?_)
      go_simp
      refine hK.out _ _ (fun h => absurd rfl h) ?_
      clear hK K
      (try simp only [Act.put, List.setIfInBounds_toArray, List.set_cons_zero, List.set_cons_succ, List.getElem_toArray, List.getElem_cons_succ, List.getElem_cons_zero])
      refine upTo_done (by kernel_rfl) ?_
      obtain ⟨q, HV⟩ := hex (((((uq.setCell ⟨sbq, 0, none⟩ (.bool T.inn)).setCell ⟨sbq, 1, none⟩ (.bool T.idle)).setCell ⟨sbq, 2, none⟩ (.int .i64 T.mark)).setCell ⟨sbq, 3, none⟩ (.int .i64 T.n)).setCell ⟨sbq, 4, none⟩ (.int .i64 T.last))
      rw [← HV.out]
      have HSq : Hid (Blk q sbq 108 T.cells) := by
        show Blk _ _ _ _
        rw [HV.out]
        have := ((((HZ2.out.set 0 (.bool T.inn)).set 1 (.bool T.idle)).set 2 (.int .i64 T.mark)).set 3 (.int .i64 T.n)).set 4 (.int .i64 T.last)
        simpa [z5, Told.cells] using this
      have HLq : Hid (Below p.heap.size p q) := by show Below _ _ _; rw [HV.out]; exact HBs.out
      clear HV HBs r0 r1 r2 r3 r4 g0 g1 g2 g3 g4 HZ2 HZ5 HBz HSX HSb HSx HB2
      have HIq : Hid (WInv q wb xb rb X R a c l) := HIp.out.below HLq.out
      have HOq : Hid (Blk q ob 34 (opCells 8 A E S)) := HOp.out.below HLq.out HOp.out.lt
      have HBq : Hid (Below w.heap.size w q) := HBp.out.trans (HLq.out.mono HBp.out.size)
      have HSx6 : Hid (Blk q sbp 108 T.cells) := HSp.out.below HLq.out HSp.out.lt
      have x0 := HSx6.out.cell 0
      have x1 := HSx6.out.cell 1
      have x2 := HSx6.out.cell 2
      have x3 := HSx6.out.cell 3
      have x4 := HSx6.out.cell 4
      have y0 := HSq.out.cell 0
      have y1 := HSq.out.cell 1
      have y2 := HSq.out.cell 2
      have y3 := HSq.out.cell 3
      have y4 := HSq.out.cell 4
      simp only [Told.cells, List.getElem?_cons_zero, List.getElem?_cons_succ] at x0 x1 x2 x3 x4 y0 y1 y2 y3 y4
      go_wp2_with (go_at_call 13; refine (num_any _ _).mono ?_; rintro e w' ⟨rfl, rfl⟩)
      go_ret
      exact ⟨rfl, HBq.out⟩
  · skip
    go_simp
    refine hK.out _ _ (fun _ => HSx.out _ (((Below.refl _ p0).alloc (Nat.le_refl _) _).drew)) ?_
    clear hK K
    (try simp only [Act.put, List.setIfInBounds_toArray, List.set_cons_zero, List.set_cons_succ, List.getElem_toArray, List.getElem_cons_succ, List.getElem_cons_zero])
    obtain ⟨zp, HZ⟩ := hex (p0.drew.alloc (.cells z5.toArray 108))
    have hz : p0.drew.alloc (.cells #[.bool false, .bool false, .int .i64 0, .int .i64 0, .int .i64 0] 108) = zp := HZ.out.symm
    (try rw [hz])
    have hz' : (p0.alloc (.cells #[.bool false, .bool false, .int .i64 0, .int .i64 0, .int .i64 0] 108)).drew = zp := HZ.out.symm
    (try rw [hz'])
    obtain ⟨sbp, HSb⟩ := hex p0.heap.size
    have HBz : Hid (Below p0.heap.size p0 zp) := by show Below _ _ _; rw [HZ.out]; exact (((Below.refl _ p0).drew).alloc (Nat.le_refl _) _)
    have HZ5 : Hid (Blk zp sbp 108 z5) := by show Blk _ _ _ _; rw [HZ.out, HSb.out]; exact blk_alloc _ _ _
    (try rw [← HSb.out])
    clear hz hz' HZ
    refine upTo_one (i := 6) (by kernel_rfl) rfl (fun K hK => ?_)
    go_simp
    refine (hX _ (HIp0.out.mx.below HBz.out)).mono ?_
    rintro e up ⟨rfl, hb2⟩
    have HB2 : Hid (Below p0.heap.size p0 up) := HBz.out.trans (hb2.mono HBz.out.size)
    have HZ2 : Hid (Blk up sbp 108 z5) := HZ5.out.below hb2 HZ5.out.lt
    clear hb2
    refine hK.out _ _ (fun _ => HSx.out _ HB2.out) ?_
    clear hK K
    unfold srcAgg
    (try simp only [Act.put, List.setIfInBounds_toArray, List.set_cons_zero, List.set_cons_succ, List.getElem_toArray, List.getElem_cons_succ, List.getElem_cons_zero])
    have hS0 : (fun u : World => u.cell? ⟨wb, 0, none⟩ = some (.pointer (some ⟨xb, 0, none⟩)) ∧ u.cell? ⟨ob, 1, none⟩ = some (.int .i64 A)) up := HSx.out _ HB2.out
    refine upTo_take (i := 7) (v := ?v6_7) rfl (by kernel_rfl) (by kernel_rfl) (by kernel_rfl) (by kernel_rfl) (by rfl) (fun _ _ _ h => h) (by rfl) hS0 ?hy6_7 ?rest6_7
    case hy6_7 => (intro u hu; (try dsimp only at hu); go_simp; first | done | with_reducible rfl)
    (try simp only [Act.put, List.setIfInBounds_toArray, List.set_cons_zero, List.set_cons_succ, List.getElem_toArray, List.getElem_cons_succ, List.getElem_cons_zero])
    refine upTo_take (i := 8) (v := ?v6_8) rfl (by kernel_rfl) (by kernel_rfl) (by kernel_rfl) (by kernel_rfl) (by rfl) (fun _ _ _ h => h) (by rfl) hS0 ?hy6_8 ?rest6_8
    case hy6_8 => (intro u hu; (try dsimp only at hu); go_simp; first | done | with_reducible rfl)
    (try simp only [Act.put, List.setIfInBounds_toArray, List.set_cons_zero, List.set_cons_succ, List.getElem_toArray, List.getElem_cons_succ, List.getElem_cons_zero])
    refine upTo_take (i := 9) (v := ?v6_9) rfl (by kernel_rfl) (by kernel_rfl) (by kernel_rfl) (by kernel_rfl) (by rfl) (fun _ _ _ h => h) (by rfl) hS0 ?hy6_9 ?rest6_9
    case hy6_9 => (intro u hu; (try dsimp only at hu); go_simp; first | done | with_reducible rfl)
    (try simp only [Act.put, List.setIfInBounds_toArray, List.set_cons_zero, List.set_cons_succ, List.getElem_toArray, List.getElem_cons_succ, List.getElem_cons_zero])
    clear hS0
    have hsx : sbp = p0.heap.size := HSb.out
    have HSX : Hid (sbp = p0.heap.size) := hsx
    clear hsx
    have r0 := HZ2.out.cell 0
    have r1 := HZ2.out.cell 1
    have r2 := HZ2.out.cell 2
    have r3 := HZ2.out.cell 3
    have r4 := HZ2.out.cell 4
    have g0 := HZ2.out.frozen 0
    have g1 := HZ2.out.frozen 1
    have g2 := HZ2.out.frozen 2
    have g3 := HZ2.out.frozen 3
    have g4 := HZ2.out.frozen 4
    simp only [z5, List.getElem?_cons_zero, List.getElem?_cons_succ] at r0 r1 r2 r3 r4
    have HBs : Hid (Below p0.heap.size p0 (((((up.setCell ⟨sbp, 0, none⟩ (.bool T.inn)).setCell ⟨sbp, 1, none⟩ (.bool T.idle)).setCell ⟨sbp, 2, none⟩ (.int .i64 T.mark)).setCell ⟨sbp, 3, none⟩ (.int .i64 T.n)).setCell ⟨sbp, 4, none⟩ (.int .i64 T.last))) := by show Below _ _ _; have := HSX.out; subst this; exact HB2.out.trans below_set5
    refine upTo_one (i := 11) (by kernel_rfl) rfl (fun K hK => ?_)
    go_simp
    refine hK.out _ _ (fun _ => HSx.out _ HBs.out) ?_
    clear hK K
    (try simp only [Act.put, List.setIfInBounds_toArray, List.set_cons_zero, List.set_cons_succ, List.getElem_toArray, List.getElem_cons_succ, List.getElem_cons_zero])
    refine upTo_one (i := 12) (by kernel_rfl) rfl (fun K hK => ?_)
    go_simp
    refine hK.out _ _ (fun h => absurd rfl h) ?_
    clear hK K
    (try simp only [Act.put, List.setIfInBounds_toArray, List.set_cons_zero, List.set_cons_succ, List.getElem_toArray, List.getElem_cons_succ, List.getElem_cons_zero])
    refine upTo_done (by kernel_rfl) ?_
    obtain ⟨p, HV⟩ := hex (((((up.setCell ⟨sbp, 0, none⟩ (.bool T.inn)).setCell ⟨sbp, 1, none⟩ (.bool T.idle)).setCell ⟨sbp, 2, none⟩ (.int .i64 T.mark)).setCell ⟨sbp, 3, none⟩ (.int .i64 T.n)).setCell ⟨sbp, 4, none⟩ (.int .i64 T.last))
    rw [← HV.out]
    have HSp : Hid (Blk p sbp 108 T.cells) := by
      show Blk _ _ _ _
      rw [HV.out]
      have := ((((HZ2.out.set 0 (.bool T.inn)).set 1 (.bool T.idle)).set 2 (.int .i64 T.mark)).set 3 (.int .i64 T.n)).set 4 (.int .i64 T.last)
      simpa [z5, Told.cells] using this
    have HLp : Hid (Below p0.heap.size p0 p) := by show Below _ _ _; rw [HV.out]; exact HBs.out
    clear HV HBs r0 r1 r2 r3 r4 g0 g1 g2 g3 g4 HZ2 HZ5 HBz HSX HSb HSx HB2
    have HIp : Hid (WInv p wb xb rb X R a c l) := HIp0.out.below HLp.out
    have HOp : Hid (Blk p ob 34 (opCells 8 A E S)) := HOp0.out.below HLp.out HOp0.out.lt
    have HBp : Hid (Below w.heap.size w p) := HBp0.out.trans (HLp.out.mono HBp0.out.size)
    go_upto_region 7 with fail
    have bq := HIp.out.blk.cell 1
    have oq := HOp.out.cell 1
    simp only [opCells, List.getElem?_cons_zero, List.getElem?_cons_succ] at bq oq
    refine upTo_region (fun u : World => u.cell? ⟨wb, 1, none⟩ = some (.pointer (some ⟨rb, 0, none⟩)) ∧ u.cell? ⟨ob, 1, none⟩ = some (.int .i64 A)) 12 13 rfl (by kernel_rfl) ?_
    have hS0 : (fun u : World => u.cell? ⟨wb, 1, none⟩ = some (.pointer (some ⟨rb, 0, none⟩)) ∧ u.cell? ⟨ob, 1, none⟩ = some (.int .i64 A)) p.drew := ⟨bq, oq⟩
    refine upTo_take (i := 0) (v := ?v7_0) rfl (by kernel_rfl) (by kernel_rfl) (by kernel_rfl) (by kernel_rfl) (by rfl) (fun _ _ _ h => h) (by rfl) hS0 ?hy7_0 ?rest7_0
    case hy7_0 => (intro u hu; (try dsimp only at hu); go_simp; first | done | with_reducible rfl)
    (try simp only [Act.put, List.setIfInBounds_toArray, List.set_cons_zero, List.set_cons_succ, List.getElem_toArray, List.getElem_cons_succ, List.getElem_cons_zero])
    refine upTo_take (i := 1) (v := ?v7_1) rfl (by kernel_rfl) (by kernel_rfl) (by kernel_rfl) (by kernel_rfl) (by rfl) (fun _ _ _ h => h) (by rfl) hS0 ?hy7_1 ?rest7_1
    case hy7_1 => (intro u hu; (try dsimp only at hu); go_simp; first | done | with_reducible rfl)
    (try simp only [Act.put, List.setIfInBounds_toArray, List.set_cons_zero, List.set_cons_succ, List.getElem_toArray, List.getElem_cons_succ, List.getElem_cons_zero])
    refine upTo_take (i := 2) (v := ?v7_2) rfl (by kernel_rfl) (by kernel_rfl) (by kernel_rfl) (by kernel_rfl) (by rfl) (fun _ _ _ h => h) (by rfl) hS0 ?hy7_2 ?rest7_2
    case hy7_2 => (intro u hu; (try dsimp only at hu); go_simp; first | done | with_reducible rfl)
    (try simp only [Act.put, List.setIfInBounds_toArray, List.set_cons_zero, List.set_cons_succ, List.getElem_toArray, List.getElem_cons_succ, List.getElem_cons_zero])
    refine upTo_take (i := 3) (v := ?v7_3) rfl (by kernel_rfl) (by kernel_rfl) (by kernel_rfl) (by kernel_rfl) (by rfl) (fun _ _ _ h => h) (by rfl) hS0 ?hy7_3 ?rest7_3
    case hy7_3 => (intro u hu; (try dsimp only at hu); go_simp; first | done | with_reducible rfl)
    (try simp only [Act.put, List.setIfInBounds_toArray, List.set_cons_zero, List.set_cons_succ, List.getElem_toArray, List.getElem_cons_succ, List.getElem_cons_zero])
    refine upTo_take (i := 4) (v := ?v7_4) rfl (by kernel_rfl) (by kernel_rfl) (by kernel_rfl) (by kernel_rfl) (by rfl) (fun _ _ _ h => h) (by rfl) hS0 ?hy7_4 ?rest7_4
    case hy7_4 => (intro u hu; (try dsimp only at hu); go_simp; first | done | with_reducible rfl)
    (try simp only [Act.put, List.setIfInBounds_toArray, List.set_cons_zero, List.set_cons_succ, List.getElem_toArray, List.getElem_cons_succ, List.getElem_cons_zero])
    refine upTo_take (i := 5) (v := ?v7_5) rfl (by kernel_rfl) (by kernel_rfl) (by kernel_rfl) (by kernel_rfl) (by rfl) (fun _ _ _ h => h) (by rfl) hS0 ?hy7_5 ?rest7_5
    case hy7_5 => (intro u hu; (try dsimp only at hu); go_simp; first | done | with_reducible rfl)
    (try simp only [Act.put, List.setIfInBounds_toArray, List.set_cons_zero, List.set_cons_succ, List.getElem_toArray, List.getElem_cons_succ, List.getElem_cons_zero])
    clear hS0 bq oq
    have HSx : Hid (∀ v : World, Below p.heap.size p v → (fun u : World => u.cell? ⟨wb, 1, none⟩ = some (.pointer (some ⟨rb, 0, none⟩)) ∧ u.cell? ⟨ob, 1, none⟩ = some (.int .i64 A)) v) := by
      intro v hv
      exact ⟨(HIp.out.below hv).blk.cell 1, (HOp.out.below hv HOp.out.lt).cell 1⟩
    refine upTo_two (i := 6) (j := 10) (by kernel_rfl) rfl rfl (fun K hK => ?_) (fun K hK => ?_)
    · skip
      go_simp
      refine (hR _ (HIp.out.mr.drew)).mono ?_
      rintro e uq ⟨rfl, hb2⟩
      have HB2 : Hid (Below p.heap.size p uq) := ⟨hb2.os, hb2.tape, hb2.output, hb2.size, hb2.block⟩
      clear hb2
      refine hK.out _ _ (fun _ => HSx.out _ HB2.out) ?_
      clear hK K
      unfold srcAgg
      (try simp only [Act.put, List.setIfInBounds_toArray, List.set_cons_zero, List.set_cons_succ, List.getElem_toArray, List.getElem_cons_succ, List.getElem_cons_zero])
      have hS0 : (fun u : World => u.cell? ⟨wb, 1, none⟩ = some (.pointer (some ⟨rb, 0, none⟩)) ∧ u.cell? ⟨ob, 1, none⟩ = some (.int .i64 A)) uq := HSx.out _ HB2.out
      refine upTo_take (i := 7) (v := ?v8_7) rfl (by kernel_rfl) (by kernel_rfl) (by kernel_rfl) (by kernel_rfl) (by rfl) (fun _ _ _ h => h) (by rfl) hS0 ?hy8_7 ?rest8_7
      case hy8_7 => (intro u hu; (try dsimp only at hu); go_simp; first | done | with_reducible rfl)
      (try simp only [Act.put, List.setIfInBounds_toArray, List.set_cons_zero, List.set_cons_succ, List.getElem_toArray, List.getElem_cons_succ, List.getElem_cons_zero])
      refine upTo_take (i := 8) (v := ?v8_8) rfl (by kernel_rfl) (by kernel_rfl) (by kernel_rfl) (by kernel_rfl) (by rfl) (fun _ _ _ h => h) (by rfl) hS0 ?hy8_8 ?rest8_8
      case hy8_8 => (intro u hu; (try dsimp only at hu); go_simp; first | done | with_reducible rfl)
      (try simp only [Act.put, List.setIfInBounds_toArray, List.set_cons_zero, List.set_cons_succ, List.getElem_toArray, List.getElem_cons_succ, List.getElem_cons_zero])
      refine upTo_take (i := 9) (v := ?v8_9) rfl (by kernel_rfl) (by kernel_rfl) (by kernel_rfl) (by kernel_rfl) (by rfl) (fun _ _ _ h => h) (by rfl) hS0 ?hy8_9 ?rest8_9
      case hy8_9 => (intro u hu; (try dsimp only at hu); go_simp; first | done | with_reducible rfl)
      (try simp only [Act.put, List.setIfInBounds_toArray, List.set_cons_zero, List.set_cons_succ, List.getElem_toArray, List.getElem_cons_succ, List.getElem_cons_zero])
      clear hS0
      refine upTo_one (i := 10) (by kernel_rfl) rfl (fun K hK => ?_)
      go_simp
      refine hK.out _ _ (fun _ => HSx.out _ (HB2.out.alloc HB2.out.size _)) ?_
      clear hK K
      (try simp only [Act.put, List.setIfInBounds_toArray, List.set_cons_zero, List.set_cons_succ, List.getElem_toArray, List.getElem_cons_succ, List.getElem_cons_zero])
      refine upTo_one (i := 11) (by kernel_rfl) rfl (fun K hK => ?_)
      go_simp
      refine hK.out _ _ (fun _ => HSx.out _ (HB2.out.alloc HB2.out.size _)) ?_
      clear hK K
      (try simp only [Act.put, List.setIfInBounds_toArray, List.set_cons_zero, List.set_cons_succ, List.getElem_toArray, List.getElem_cons_succ, List.getElem_cons_zero])
      refine upTo_one (i := 12) (by kernel_rfl) rfl (fun K hK => ?_)
      go_simp
      refine hK.out _ _ (fun h => absurd rfl h) ?_
      clear hK K
      (try simp only [Act.put, List.setIfInBounds_toArray, List.set_cons_zero, List.set_cons_succ, List.getElem_toArray, List.getElem_cons_succ, List.getElem_cons_zero])
      refine upTo_done (by kernel_rfl) ?_
      obtain ⟨q, HV⟩ := hex (uq.alloc (.cells T.cells.toArray 108))
      have hv : uq.alloc (.cells #[.bool T.inn, .bool T.idle, .int .i64 T.mark, .int .i64 T.n, .int .i64 T.last] 108) = q := HV.out.symm
      rw [hv]
      obtain ⟨sbq, HSb⟩ := hex uq.heap.size
      have HSq : Hid (Blk q sbq 108 T.cells) := by show Blk _ _ _ _; rw [HV.out, HSb.out]; exact blk_alloc _ _ _
      have HLq : Hid (Below p.heap.size p q) := by show Below _ _ _; rw [HV.out]; exact HB2.out.alloc HB2.out.size _
      rw [← HSb.out]
      clear hv HV HSb HB2 HSx
      have HIq : Hid (WInv q wb xb rb X R a c l) := HIp.out.below HLq.out
      have HOq : Hid (Blk q ob 34 (opCells 8 A E S)) := HOp.out.below HLq.out HOp.out.lt
      have HBq : Hid (Below w.heap.size w q) := HBp.out.trans (HLq.out.mono HBp.out.size)
      have HSx6 : Hid (Blk q sbp 108 T.cells) := HSp.out.below HLq.out HSp.out.lt
      have x0 := HSx6.out.cell 0
      have x1 := HSx6.out.cell 1
      have x2 := HSx6.out.cell 2
      have x3 := HSx6.out.cell 3
      have x4 := HSx6.out.cell 4
      have y0 := HSq.out.cell 0
      have y1 := HSq.out.cell 1
      have y2 := HSq.out.cell 2
      have y3 := HSq.out.cell 3
      have y4 := HSq.out.cell 4
      simp only [Told.cells, List.getElem?_cons_zero, List.getElem?_cons_succ] at x0 x1 x2 x3 x4 y0 y1 y2 y3 y4
      go_wp2_with (go_at_call 13; refine (num_any _ _).mono ?_; rintro e w' ⟨rfl, rfl⟩)
      go_ret
      exact ⟨rfl, HBq.out⟩
    · skip
      go_simp
      refine hK.out _ _ (fun _ => HSx.out _ (((Below.refl _ p).alloc (Nat.le_refl _) _).drew)) ?_
      clear hK K
      (try simp only [Act.put, List.setIfInBounds_toArray, List.set_cons_zero, List.set_cons_succ, List.getElem_toArray, List.getElem_cons_succ, List.getElem_cons_zero])
      obtain ⟨zq, HZ⟩ := hex (p.drew.alloc (.cells z5.toArray 108))
      have hz : p.drew.alloc (.cells #[.bool false, .bool false, .int .i64 0, .int .i64 0, .int .i64 0] 108) = zq := HZ.out.symm
      (try rw [hz])
      have hz' : (p.alloc (.cells #[.bool false, .bool false, .int .i64 0, .int .i64 0, .int .i64 0] 108)).drew = zq := HZ.out.symm
      (try rw [hz'])
      obtain ⟨sbq, HSb⟩ := hex p.heap.size
      have HBz : Hid (Below p.heap.size p zq) := by show Below _ _ _; rw [HZ.out]; exact (((Below.refl _ p).drew).alloc (Nat.le_refl _) _)
      have HZ5 : Hid (Blk zq sbq 108 z5) := by show Blk _ _ _ _; rw [HZ.out, HSb.out]; exact blk_alloc _ _ _
      (try rw [← HSb.out])
      clear hz hz' HZ
      refine upTo_one (i := 6) (by kernel_rfl) rfl (fun K hK => ?_)
      go_simp
      refine (hR _ (HIp.out.mr.below HBz.out)).mono ?_
      rintro e uq ⟨rfl, hb2⟩
      have HB2 : Hid (Below p.heap.size p uq) := HBz.out.trans (hb2.mono HBz.out.size)
      have HZ2 : Hid (Blk uq sbq 108 z5) := HZ5.out.below hb2 HZ5.out.lt
      clear hb2
      refine hK.out _ _ (fun _ => HSx.out _ HB2.out) ?_
      clear hK K
      unfold srcAgg
      (try simp only [Act.put, List.setIfInBounds_toArray, List.set_cons_zero, List.set_cons_succ, List.getElem_toArray, List.getElem_cons_succ, List.getElem_cons_zero])
      have hS0 : (fun u : World => u.cell? ⟨wb, 1, none⟩ = some (.pointer (some ⟨rb, 0, none⟩)) ∧ u.cell? ⟨ob, 1, none⟩ = some (.int .i64 A)) uq := HSx.out _ HB2.out
      refine upTo_take (i := 7) (v := ?v9_7) rfl (by kernel_rfl) (by kernel_rfl) (by kernel_rfl) (by kernel_rfl) (by rfl) (fun _ _ _ h => h) (by rfl) hS0 ?hy9_7 ?rest9_7
      case hy9_7 => (intro u hu; (try dsimp only at hu); go_simp; first | done | with_reducible rfl)
      (try simp only [Act.put, List.setIfInBounds_toArray, List.set_cons_zero, List.set_cons_succ, List.getElem_toArray, List.getElem_cons_succ, List.getElem_cons_zero])
      refine upTo_take (i := 8) (v := ?v9_8) rfl (by kernel_rfl) (by kernel_rfl) (by kernel_rfl) (by kernel_rfl) (by rfl) (fun _ _ _ h => h) (by rfl) hS0 ?hy9_8 ?rest9_8
      case hy9_8 => (intro u hu; (try dsimp only at hu); go_simp; first | done | with_reducible rfl)
      (try simp only [Act.put, List.setIfInBounds_toArray, List.set_cons_zero, List.set_cons_succ, List.getElem_toArray, List.getElem_cons_succ, List.getElem_cons_zero])
      refine upTo_take (i := 9) (v := ?v9_9) rfl (by kernel_rfl) (by kernel_rfl) (by kernel_rfl) (by kernel_rfl) (by rfl) (fun _ _ _ h => h) (by rfl) hS0 ?hy9_9 ?rest9_9
      case hy9_9 => (intro u hu; (try dsimp only at hu); go_simp; first | done | with_reducible rfl)
      (try simp only [Act.put, List.setIfInBounds_toArray, List.set_cons_zero, List.set_cons_succ, List.getElem_toArray, List.getElem_cons_succ, List.getElem_cons_zero])
      clear hS0
      have hsx : sbq = p.heap.size := HSb.out
      have HSX : Hid (sbq = p.heap.size) := hsx
      clear hsx
      have r0 := HZ2.out.cell 0
      have r1 := HZ2.out.cell 1
      have r2 := HZ2.out.cell 2
      have r3 := HZ2.out.cell 3
      have r4 := HZ2.out.cell 4
      have g0 := HZ2.out.frozen 0
      have g1 := HZ2.out.frozen 1
      have g2 := HZ2.out.frozen 2
      have g3 := HZ2.out.frozen 3
      have g4 := HZ2.out.frozen 4
      simp only [z5, List.getElem?_cons_zero, List.getElem?_cons_succ] at r0 r1 r2 r3 r4
      have HBs : Hid (Below p.heap.size p (((((uq.setCell ⟨sbq, 0, none⟩ (.bool T.inn)).setCell ⟨sbq, 1, none⟩ (.bool T.idle)).setCell ⟨sbq, 2, none⟩ (.int .i64 T.mark)).setCell ⟨sbq, 3, none⟩ (.int .i64 T.n)).setCell ⟨sbq, 4, none⟩ (.int .i64 T.last))) := by show Below _ _ _; have := HSX.out; subst this; exact HB2.out.trans below_set5
      refine upTo_one (i := 11) (by kernel_rfl) rfl (fun K hK => ?_)
      go_simp
      refine hK.out _ _ (fun _ => HSx.out _ HBs.out) ?_
      clear hK K
      (try simp only [Act.put, List.setIfInBounds_toArray, List.set_cons_zero, List.set_cons_succ, List.getElem_toArray, List.getElem_cons_succ, List.getElem_cons_zero])
      refine upTo_one (i := 12) (by kernel_rfl) rfl (fun K hK => ?_)
      go_simp
      refine hK.out _ _ (fun h => absurd rfl h) ?_
      clear hK K
      (try simp only [Act.put, List.setIfInBounds_toArray, List.set_cons_zero, List.set_cons_succ, List.getElem_toArray, List.getElem_cons_succ, List.getElem_cons_zero])
      refine upTo_done (by kernel_rfl) ?_
      obtain ⟨q, HV⟩ := hex (((((uq.setCell ⟨sbq, 0, none⟩ (.bool T.inn)).setCell ⟨sbq, 1, none⟩ (.bool T.idle)).setCell ⟨sbq, 2, none⟩ (.int .i64 T.mark)).setCell ⟨sbq, 3, none⟩ (.int .i64 T.n)).setCell ⟨sbq, 4, none⟩ (.int .i64 T.last))
      rw [← HV.out]
      have HSq : Hid (Blk q sbq 108 T.cells) := by
        show Blk _ _ _ _
        rw [HV.out]
        have := ((((HZ2.out.set 0 (.bool T.inn)).set 1 (.bool T.idle)).set 2 (.int .i64 T.mark)).set 3 (.int .i64 T.n)).set 4 (.int .i64 T.last)
        simpa [z5, Told.cells] using this
      have HLq : Hid (Below p.heap.size p q) := by show Below _ _ _; rw [HV.out]; exact HBs.out
      clear HV HBs r0 r1 r2 r3 r4 g0 g1 g2 g3 g4 HZ2 HZ5 HBz HSX HSb HSx HB2
      have HIq : Hid (WInv q wb xb rb X R a c l) := HIp.out.below HLq.out
      have HOq : Hid (Blk q ob 34 (opCells 8 A E S)) := HOp.out.below HLq.out HOp.out.lt
      have HBq : Hid (Below w.heap.size w q) := HBp.out.trans (HLq.out.mono HBp.out.size)
      have HSx6 : Hid (Blk q sbp 108 T.cells) := HSp.out.below HLq.out HSp.out.lt
      have x0 := HSx6.out.cell 0
      have x1 := HSx6.out.cell 1
      have x2 := HSx6.out.cell 2
      have x3 := HSx6.out.cell 3
      have x4 := HSx6.out.cell 4
      have y0 := HSq.out.cell 0
      have y1 := HSq.out.cell 1
      have y2 := HSq.out.cell 2
      have y3 := HSq.out.cell 3
      have y4 := HSq.out.cell 4
      simp only [Told.cells, List.getElem?_cons_zero, List.getElem?_cons_succ] at x0 x1 x2 x3 x4 y0 y1 y2 y3 y4
      go_wp2_with (go_at_call 13; refine (num_any _ _).mono ?_; rintro e w' ⟨rfl, rfl⟩)
      go_ret
      exact ⟨rfl, HBq.out⟩
set_option maxRecDepth 100000 in
set_option maxHeartbeats 4000000 in
theorem asks_log (wb xb rb : Nat) (X : Eng) (R : Ref) (a : Option Addr) (c : Nat) (l : List El) (A : Int) (E : Ev) (S : ByteArray) (w : World) (h : WInv w wb xb rb X R a c l) (hs : SaneX X) (hall : R.all.length ≤ 1000) (hsim : Sim X R) (hl : l.length ≤ 5000000000000) :
    Calls Tryz.prog 26 #[.pointer (some ⟨wb, 0, none⟩), opVal 9 A E S] w fun e w' => e = .returned (.bool true) ∧ ∃ a' c' E', WInv w' wb xb rb X R a' c' (l ++ [E']) ∧ Kept (fun k => k = wb ∨ bk a = some k) w w' ∧ (∀ k, bk a' = some k → bk a = some k ∨ w.heap.size ≤ k) := by
  have hlen := hs.log
  obtain ⟨p0, HW1⟩ := hex (w.alloc (.cells (opCells 9 A E S).toArray 34))
  have HBp0 : Hid (Below w.heap.size w p0) := by show Below _ _ _; rw [HW1.out]; exact (Below.refl _ _).alloc (Nat.le_refl _) _
  have HIp0 : Hid (WInv p0 wb xb rb X R a c l) := h.below HBp0.out
  obtain ⟨ob, HOb⟩ := hex w.heap.size
  have HOp0 : Hid (Blk p0 ob 34 (opCells 9 A E S)) := by show Blk _ _ _ _; rw [HW1.out, HOb.out]; exact blk_alloc _ _ _
  have hw1 : w.alloc (.cells #[.int .i64 9, .int .i64 A, .int .i64 E.src, .int .i64 E.seq, .int .i64 E.ts, .int .i64 E.kind, .int .i64 E.val, .string S] 34) = p0 := HW1.out.symm
  unfold opVal
  go_enter Tryz.func26, Tryz.ntmps26
  go_upto_region 1 with fail
  rw [← HOb.out]
  clear hw1 HW1 h
  have o0 := HOp0.out.cell 0
  have b0 := HIp0.out.blk.cell 0
  have b1 := HIp0.out.blk.cell 1
  simp only [opCells, List.getElem?_cons_zero, List.getElem?_cons_succ] at o0 b0 b1
  clear hs
  obtain ⟨L, HLL⟩ := hex X.log
  have hX : Hid (∀ (w : World), MemX w xb X → Calls Tryz.prog 64 #[.pointer (some ⟨xb, 0, none⟩)] w fun e w' => ∃ (a : Option Addr) (c : Nat), e = .returned (.slice a L.length c) ∧ w'.ownsRow w.heap.size 32 5 (.slice a L.length c) L.length (evs L) ∧ Below w.heap.size w w') := by
    intro w h; rw [HLL.out]; exact xlog_any xb X w h hlen
  rw [← HLL.out] at hlen
  have hR : Hid (∀ (w : World), MemR w rb R → Calls Tryz.prog 66 #[.pointer (some ⟨rb, 0, none⟩)] w fun e w' => ∃ (a : Option Addr) (c : Nat), e = .returned (.slice a L.length c) ∧ w'.ownsRow w.heap.size 32 5 (.slice a L.length c) L.length (evs L) ∧ Below w.heap.size w w') := by
    intro w h
    refine (rlog_any rb R w h hall).mono ?_
    rintro e w' ⟨n, a, c, hb, rfl, h1, h2⟩
    rw [sim_log hsim n hb, ← HLL.out] at h1
    rw [sim_log hsim n hb, ← HLL.out]
    exact ⟨a, c, rfl, h1, h2⟩
  clear hsim
  go_upto_region 11 with (go_at_call 64; refine (hX.out _ HIp0.out.mx).mono ?_; rintro e p1 ⟨sa, sc, rfl, hrow, hb1⟩)
  have HB1 : Hid (Below p0.heap.size p0 p1) := hb1
  have HR1 : Hid (p1.ownsRow p0.heap.size 32 5 (.slice sa L.length sc) L.length (evs L)) := hrow
  have HI1 : Hid (WInv p1 wb xb rb X R a c l) := HIp0.out.below HB1.out
  clear hb1 hrow b0 b1
  have b1 := HI1.out.blk.cell 1
  simp only [List.getElem?_cons_zero, List.getElem?_cons_succ] at b1
  go_upto_region 12 with (first
    | (go_at_call 66; refine (hR.out _ HI1.out.mr).mono ?_; rintro e p2 ⟨ra, rc, rfl, hrow2, hb2⟩; have HB2 : Hid (Below p1.heap.size p1 p2) := hb2; have HR2 : Hid (Row p2 32 5 ra L.length rc (evs L)) := toRow hrow2; have HR1' : Hid (Row p2 32 5 sa L.length sc (evs L)) := ownsRow_of_heap (toRow HR1.out) (fun k hk => HB2.out.block k hk); clear hrow2 hb2)
    | (go_at_call 65; refine (sameEvents_eq L sa ra sc rc _ HR1'.out HR2.out (by omega)).mono ?_; rintro e p3 ⟨rfl, nq, hq⟩; have HQ : Hid (p3 = p2.drewN nq) := hq; clear hq))
  have HB3 : Hid (Below p1.heap.size p1 p3) := by show Below _ _ _; rw [HQ.out]; exact bdrewN HB2.out nq
  have HI3 : Hid (WInv p3 wb xb rb X R a c l) := HI1.out.below HB3.out
  have HR3 : Hid (Row p3 32 5 sa L.length sc (evs L)) := ownsRow_of_heap (toRow HR1.out) (fun k hk => HB3.out.block k hk)
  have HFr : Hid (∀ k, bk sa = some k → p0.heap.size ≤ k) := fun k e => (HR1.out.lt k (by rw [bk_own]; exact e)).1
  have hwl := HIp0.out.blk.lt
  go_wp2_with (go_at_call 67; refine (own_any wb _ _ a c l sa sc L _ HI3.out.blk HI3.out.ls hl HR3.out hlen (fun e => by have := HFr.out _ e; omega) (fun k e => ⟨fun f => by have := HIp0.out.ls.row.lt f; have := HFr.out _ e; omega, fun f => by have := HIp0.out.ls.lfp_lt k f; have := HFr.out _ e; omega⟩) HI3.out.d3 HI3.out.d4 HI3.out.d5).mono ?_; rintro e p4 ⟨rfl, hown⟩)
  go_ret
  have hz0 := HBp0.out.size
  have hz1 := HB1.out.size
  have hz3 := HB3.out.size
  obtain ⟨a', c', E', hI, hkp, ha'⟩ := HI3.out.own (fun k e => ⟨by have := HFr.out _ e; omega, fun f => by have := HIp0.out.mx.fp_lt k f; have := HFr.out _ e; omega, fun f => by have := HIp0.out.mr.fp_lt k f; have := HFr.out _ e; omega⟩) hown
  refine ⟨rfl, a', c', E', hI, ?_, ?_⟩
  · refine (below_kept ((HBp0.out.trans (HB1.out.mono hz0)).trans (HB3.out.mono (by omega))) _).trans' hkp (fun i hi e => ?_)
    rcases e with e | e | e
    · exact Or.inl e
    · exact Or.inr e
    · have := HFr.out i e; omega
  · intro k hk
    rcases ha' k hk with e | e
    · exact Or.inl e
    · right; omega
set_option maxRecDepth 100000 in
set_option maxHeartbeats 4000000 in
theorem asks_late (wb xb rb : Nat) (X : Eng) (R : Ref) (a : Option Addr) (c : Nat) (l : List El) (A : Int) (E : Ev) (S : ByteArray) (w : World) (h : WInv w wb xb rb X R a c l) (hs : SaneX X) (hlt : X.late = R.aside) (hl : l.length ≤ 5000000000000) :
    Calls Tryz.prog 26 #[.pointer (some ⟨wb, 0, none⟩), opVal 10 A E S] w fun e w' => e = .returned (.bool true) ∧ ∃ a' c' E', WInv w' wb xb rb X R a' c' (l ++ [E']) ∧ Kept (fun k => k = wb ∨ bk a = some k) w w' ∧ (∀ k, bk a' = some k → bk a = some k ∨ w.heap.size ≤ k) := by
  have hlen := hs.late
  obtain ⟨p0, HW1⟩ := hex (w.alloc (.cells (opCells 10 A E S).toArray 34))
  have HBp0 : Hid (Below w.heap.size w p0) := by show Below _ _ _; rw [HW1.out]; exact (Below.refl _ _).alloc (Nat.le_refl _) _
  have HIp0 : Hid (WInv p0 wb xb rb X R a c l) := h.below HBp0.out
  obtain ⟨ob, HOb⟩ := hex w.heap.size
  have HOp0 : Hid (Blk p0 ob 34 (opCells 10 A E S)) := by show Blk _ _ _ _; rw [HW1.out, HOb.out]; exact blk_alloc _ _ _
  have hw1 : w.alloc (.cells #[.int .i64 10, .int .i64 A, .int .i64 E.src, .int .i64 E.seq, .int .i64 E.ts, .int .i64 E.kind, .int .i64 E.val, .string S] 34) = p0 := HW1.out.symm
  unfold opVal
  go_enter Tryz.func26, Tryz.ntmps26
  go_upto_region 1 with fail
  rw [← HOb.out]
  clear hw1 HW1 h
  have o0 := HOp0.out.cell 0
  have b0 := HIp0.out.blk.cell 0
  have b1 := HIp0.out.blk.cell 1
  simp only [opCells, List.getElem?_cons_zero, List.getElem?_cons_succ] at o0 b0 b1
  clear hs
  obtain ⟨L, HLL⟩ := hex X.late
  have hX : Hid (∀ (w : World), MemX w xb X → Calls Tryz.prog 68 #[.pointer (some ⟨xb, 0, none⟩)] w fun e w' => ∃ (a : Option Addr) (c : Nat), e = .returned (.slice a L.length c) ∧ w'.ownsRow w.heap.size 32 5 (.slice a L.length c) L.length (evs L) ∧ Below w.heap.size w w') := by
    intro w h; rw [HLL.out]; exact xlate_any xb X w h hlen
  rw [← HLL.out] at hlen
  go_upto_region 16 with (go_at_call 68; refine (hX.out _ HIp0.out.mx).mono ?_; rintro e p1 ⟨sa, sc, rfl, hrow, hb1⟩)
  have HB1 : Hid (Below p0.heap.size p0 p1) := hb1
  have HR1 : Hid (p1.ownsRow p0.heap.size 32 5 (.slice sa L.length sc) L.length (evs L)) := hrow
  have HI1 : Hid (WInv p1 wb xb rb X R a c l) := HIp0.out.below HB1.out
  clear hb1 hrow b0 b1
  have b1 := HI1.out.blk.cell 1
  simp only [List.getElem?_cons_zero, List.getElem?_cons_succ] at b1
  have hla : R.aside = L := by rw [HLL.out]; exact hlt.symm
  have r11 := HI1.out.mr.cells.2.2.2.1
  rw [hla] at r11
  have HR2 : Hid (Row p1 32 5 R.da L.length R.dc (evs L)) := by show Row _ _ _ _ _ _ _; have := HI1.out.mr.asd; rw [hla] at this; exact this
  clear hla hlt
  go_upto_region 17 with (go_at_call 65; refine (sameEvents_eq L sa R.da sc R.dc _ (toRow HR1.out) HR2.out (by omega)).mono ?_; rintro e p3 ⟨rfl, nq, hq⟩; have HQ : Hid (p3 = p1.drewN nq) := hq; clear hq)
  have HB3 : Hid (Below p1.heap.size p1 p3) := by show Below _ _ _; rw [HQ.out]; exact bdrewN (Below.refl _ _) nq
  have HI3 : Hid (WInv p3 wb xb rb X R a c l) := HI1.out.below HB3.out
  have HR3 : Hid (Row p3 32 5 sa L.length sc (evs L)) := ownsRow_of_heap (toRow HR1.out) (fun k hk => HB3.out.block k hk)
  have HFr : Hid (∀ k, bk sa = some k → p0.heap.size ≤ k) := fun k e => (HR1.out.lt k (by rw [bk_own]; exact e)).1
  have hwl := HIp0.out.blk.lt
  go_wp2_with (go_at_call 67; refine (own_any wb _ _ a c l sa sc L _ HI3.out.blk HI3.out.ls hl HR3.out hlen (fun e => by have := HFr.out _ e; omega) (fun k e => ⟨fun f => by have := HIp0.out.ls.row.lt f; have := HFr.out _ e; omega, fun f => by have := HIp0.out.ls.lfp_lt k f; have := HFr.out _ e; omega⟩) HI3.out.d3 HI3.out.d4 HI3.out.d5).mono ?_; rintro e p4 ⟨rfl, hown⟩)
  go_ret
  have hz0 := HBp0.out.size
  have hz1 := HB1.out.size
  have hz3 := HB3.out.size
  obtain ⟨a', c', E', hI, hkp, ha'⟩ := HI3.out.own (fun k e => ⟨by have := HFr.out _ e; omega, fun f => by have := HIp0.out.mx.fp_lt k f; have := HFr.out _ e; omega, fun f => by have := HIp0.out.mr.fp_lt k f; have := HFr.out _ e; omega⟩) hown
  refine ⟨rfl, a', c', E', hI, ?_, ?_⟩
  · refine (below_kept ((HBp0.out.trans (HB1.out.mono hz0)).trans (HB3.out.mono (by omega))) _).trans' hkp (fun i hi e => ?_)
    rcases e with e | e | e
    · exact Or.inl e
    · exact Or.inr e
    · have := HFr.out i e; omega
  · intro k hk
    rcases ha' k hk with e | e
    · exact Or.inl e
    · right; omega
end Go.Proofs.YthiabdpgieppoaaGreat
