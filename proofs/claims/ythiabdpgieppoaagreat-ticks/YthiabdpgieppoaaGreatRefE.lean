import Derived.Test.YthiabdpgieppoaaGreatRefD
import Derived.Test.YthiabdpgieppoaaGreatOrd
namespace Go.Proofs.YthiabdpgieppoaaGreat
open Go.RowKit
set_option linter.unusedVariables false
set_option linter.unusedSimpArgs false
attribute [local go_sem ↓] Go.wp_at_zero Go.wp_at_succ

/-- the cells that an append to a source's row reads -/
theorem kS {w : World} {b : Nat} {R : Ref} (h : Blk w b 93 R.vals) : w.cell? ⟨b, 9, none⟩ = some (.slice (some ⟨R.sg, 0, none⟩) R.srcs.length R.sc) ∧ w.cell? ⟨b, 12, none⟩ = some (.int .i64 R.merged) := ⟨h.cell 9, h.cell 12⟩

/-- behind the append: the sources' row can be written -/
theorem tS {w w1 : World} {b : Nat} {R : Ref} {i g cap : Nat} {x : Value} {w0 : World} (h : MemR w b R) (hb0 : Below w.heap.size w w0) (hi : i < R.srcs.length)
    (hown : w1.ownsRow 0 3 1 (.slice (some ⟨g, 0, none⟩) (R.srcs[i].marks.length + 1) cap) (R.srcs[i].marks.length + 1) (ints R.srcs[i].marks ++ [x]))
    (hg : w0.grownBy w1 (Value.slice R.srcs[i].ma R.srcs[i].marks.length R.srcs[i].mc).ownBlock) (hat : (Value.slice R.srcs[i].ma R.srcs[i].marks.length R.srcs[i].mc).ownBlock = some g ∨ g = w.heap.size + 1) :
    Blk w1 b 93 R.vals ∧ w1.cell? ⟨R.sg, i * 5 + 2, none⟩ = some (.slice R.srcs[i].ma R.srcs[i].marks.length R.srcs[i].mc) ∧ w1.frozen? ⟨R.sg, i * 5 + 2, none⟩ = false ∧ Kept (fun k => some k ∈ R.fp b) w w1 := by
  rw [bk_own] at hg
  have K1 : Kept (fun k => bk R.srcs[i].ma = some k) w w1 := ((Kept.refl (fun k => bk R.srcs[i].ma = some k) w).below hb0).grown hg (fun k _ e => e)
  have B1 := h.but (j1 := 5 + 2 * i) (j2 := 5 + 2 * i) K1 (fp_src hi).1 (fp_src hi).1 (fun k e => Or.inl e)
  obtain ⟨g', hg', _, _, hc, hf⟩ := (B1.src (by omega) (by omega)).form (by omega)
  simp only [Option.some.injEq, Addr.mk.injEq, and_true] at hg'
  refine ⟨B1.eng (by omega) (by omega), ?_, ?_, K1.mono (fun k _ e => List.mem_of_getElem? ((fp_src hi).1.trans (by rw [e])))⟩
  · rw [hg', hc _ (by omega), flatMap_get _ 5 RSrc.len _ i 2 (by omega) hi]; rfl
  · rw [hg']; exact hf _
/-- behind the append: the sources' row can be written -/
theorem tQ {w w1 : World} {b : Nat} {R : Ref} {i g cap : Nat} {x : Value} {w0 : World} (h : MemR w b R) (hb0 : Below w.heap.size w w0) (hi : i < R.srcs.length)
    (hown : w1.ownsRow 0 3 1 (.slice (some ⟨g, 0, none⟩) (R.srcs[i].seqs.length + 1) cap) (R.srcs[i].seqs.length + 1) (ints R.srcs[i].seqs ++ [x]))
    (hg : w0.grownBy w1 (Value.slice R.srcs[i].qa R.srcs[i].seqs.length R.srcs[i].qc).ownBlock) (hat : (Value.slice R.srcs[i].qa R.srcs[i].seqs.length R.srcs[i].qc).ownBlock = some g ∨ g = w.heap.size + 1) :
    Blk w1 b 93 R.vals ∧ w1.cell? ⟨R.sg, i * 5 + 3, none⟩ = some (.slice R.srcs[i].qa R.srcs[i].seqs.length R.srcs[i].qc) ∧ w1.frozen? ⟨R.sg, i * 5 + 3, none⟩ = false ∧ Kept (fun k => some k ∈ R.fp b) w w1 := by
  rw [bk_own] at hg
  have K1 : Kept (fun k => bk R.srcs[i].qa = some k) w w1 := ((Kept.refl (fun k => bk R.srcs[i].qa = some k) w).below hb0).grown hg (fun k _ e => e)
  have B1 := h.but (j1 := 6 + 2 * i) (j2 := 6 + 2 * i) K1 (fp_src hi).2 (fp_src hi).2 (fun k e => Or.inl e)
  obtain ⟨g', hg', _, _, hc, hf⟩ := (B1.src (by omega) (by omega)).form (by omega)
  simp only [Option.some.injEq, Addr.mk.injEq, and_true] at hg'
  refine ⟨B1.eng (by omega) (by omega), ?_, ?_, K1.mono (fun k _ e => List.mem_of_getElem? ((fp_src hi).2.trans (by rw [e])))⟩
  · rw [hg', hc _ (by omega), flatMap_get _ 5 RSrc.len _ i 3 (by omega) hi]; rfl
  · rw [hg']; exact hf _

/-- the answers' shape: the error, the engine behind -/
def JoinR (R : Ref) (s : Int) : Int := if s < 0 ∨ (R.srcs.length : Int) ≤ s then 3 else if (match R.srcs[s.toNat]? with | some r => r.inn | none => false) then 4 else 0

set_option maxRecDepth 100000 in
set_option maxHeartbeats 4000000 in
theorem rtouch_any (b : Nat) (R : Ref) (i : Nat) (w : World) (hM : MemR w b R) (hi : i < R.srcs.length) (hml : R.srcs[i].marks.length ≤ 9000000000000) :
    Calls Tryz.prog 53 #[.pointer (some ⟨b, 0, none⟩), .int .i64 i] w fun e w' => e = .returned (.tuple #[]) ∧
      ∃ r' : RSrc, r' = { R.srcs[i] with sil := 0, marks := if R.isIdle i then R.srcs[i].marks ++ [R.merged] else R.srcs[i].marks, ma := r'.ma, mc := r'.mc } ∧
        Evo w b R w' { R with srcs := R.srcs.set i r' } := by
  obtain ⟨i0, hi0, hz0, hz1, hz2⟩ := info_parts Tryz.infoInt
  obtain ⟨_, c9, _, _, c12⟩ := hM.cells
  have s1 := hM.srcCell i 1 hi (by omega)
  have s2 := hM.srcCell i 2 hi (by omega)
  simp only [RSrc.vals, List.getElem?_cons_succ, List.getElem?_cons_zero] at s1 s2
  have f1 := hM.srcFrozen (i * 5 + 1) (by omega)
  have f2 := hM.srcFrozen (i * 5 + 2) (by omega)
  have hi' : (i : Int) < (R.srcs.length : Int) := by omega
  have hi00 : (0 : Int) ≤ (i : Int) := by omega
  have hsg : R.sg < w.heap.size := hM.src.lt (a := some ⟨R.sg, 0, none⟩) rfl
  have hbl : b < w.heap.size := hM.eng.lt
  cases hid : R.isIdle i with
  | false =>
    go_enter Tryz.func53, Tryz.ntmps53
    go_wp2_with (go_at_call 51; refine (ridle_any b R i _ hM hi).mono ?_; rintro e w' ⟨rfl, nq, rfl⟩; rw [hid])
    go_end0
    exact ⟨rfl, { R.srcs[i] with sil := 0 }, rfl, (Evo.below hM (bdrewN (Below.refl _ _) nq)).trans ((hM.drewN nq).setSrcE { R.srcs[i] with sil := 0 } hi 1 (by omega) (.int .i64 0) rfl ⟨rfl, rfl, rfl⟩ ⟨rfl, rfl, rfl⟩)⟩
  | true =>
    go_enter Tryz.func53, Tryz.ntmps53
    go_upto_region 2 with (go_at_call 51; refine (ridle_any b R i _ hM hi).mono ?_; rintro e wq ⟨rfl, nq, hq⟩; have HQ : Hid (wq = w.drewN nq) := hq; clear hq; rw [hid])
    have hMq : MemR wq b R := by rw [HQ.out]; exact hM.drewN nq
    have HKq : Hid (Evo w b R wq R) := by show Evo w b R wq R; rw [HQ.out]; exact Evo.below hM (bdrewN (Below.refl _ _) nq)
    clear HQ hM c9 c12 s1 s2 f1 f2 hsg hbl
    obtain ⟨_, c9, _, _, c12⟩ := hMq.cells
    have s1 := hMq.srcCell i 1 hi (by omega)
    have s2 := hMq.srcCell i 2 hi (by omega)
    simp only [RSrc.vals, List.getElem?_cons_succ, List.getElem?_cons_zero] at s1 s2
    have HM : Hid (Row wq 3 1 R.srcs[i].ma R.srcs[i].marks.length R.srcs[i].mc (ints R.srcs[i].marks)) := hMq.mrk i _ (List.getElem?_eq_getElem hi)
    have HH : Hid (MemR wq b R) := hMq
    clear hMq
    refine upTo_region (fun u => u.cell? ⟨b, 9, none⟩ = some (.slice (some ⟨R.sg, 0, none⟩) R.srcs.length R.sc) ∧ u.cell? ⟨b, 12, none⟩ = some (.int .i64 R.merged) ∧ u.cell? ⟨R.sg, i * 5 + 2, none⟩ = some (.slice R.srcs[i].ma R.srcs[i].marks.length R.srcs[i].mc)) 21 22 rfl (by kernel_rfl) ?_
    have hS0 : (fun u : World => u.cell? ⟨b, 9, none⟩ = some (.slice (some ⟨R.sg, 0, none⟩) R.srcs.length R.sc) ∧ u.cell? ⟨b, 12, none⟩ = some (.int .i64 R.merged) ∧ u.cell? ⟨R.sg, i * 5 + 2, none⟩ = some (.slice R.srcs[i].ma R.srcs[i].marks.length R.srcs[i].mc)) wq.drew := ⟨c9, c12, s2⟩
    refine upTo_take (i := 0) (v := ?v1_0) rfl (by kernel_rfl) (by kernel_rfl) (by kernel_rfl) (by kernel_rfl) (by rfl) (fun _ _ _ h => h) (by rfl) hS0 ?hy1_0 ?rest1_0
    case hy1_0 => (intro u hu; (try dsimp only at hu); go_simp; first | done | with_reducible rfl)
    (try simp only [Act.put, List.setIfInBounds_toArray, List.set_cons_zero, List.set_cons_succ, List.getElem_toArray, List.getElem_cons_succ, List.getElem_cons_zero])
    refine upTo_take (i := 1) (v := ?v1_1) rfl (by kernel_rfl) (by kernel_rfl) (by kernel_rfl) (by kernel_rfl) (by rfl) (fun _ _ _ h => h) (by rfl) hS0 ?hy1_1 ?rest1_1
    case hy1_1 => (intro u hu; (try dsimp only at hu); go_simp; first | done | with_reducible rfl)
    (try simp only [Act.put, List.setIfInBounds_toArray, List.set_cons_zero, List.set_cons_succ, List.getElem_toArray, List.getElem_cons_succ, List.getElem_cons_zero])
    refine upTo_take (i := 2) (v := ?v1_2) rfl (by kernel_rfl) (by kernel_rfl) (by kernel_rfl) (by kernel_rfl) (by rfl) (fun _ _ _ h => h) (by rfl) hS0 ?hy1_2 ?rest1_2
    case hy1_2 => (intro u hu; (try dsimp only at hu); go_simp; first | done | with_reducible rfl)
    (try simp only [Act.put, List.setIfInBounds_toArray, List.set_cons_zero, List.set_cons_succ, List.getElem_toArray, List.getElem_cons_succ, List.getElem_cons_zero])
    refine upTo_take (i := 3) (v := ?v1_3) rfl (by kernel_rfl) (by kernel_rfl) (by kernel_rfl) (by kernel_rfl) (by rfl) (fun _ _ _ h => h) (by rfl) hS0 ?hy1_3 ?rest1_3
    case hy1_3 => (intro u hu; (try dsimp only at hu); go_simp; first | done | with_reducible rfl)
    (try simp only [Act.put, List.setIfInBounds_toArray, List.set_cons_zero, List.set_cons_succ, List.getElem_toArray, List.getElem_cons_succ, List.getElem_cons_zero])
    refine upTo_take (i := 4) (v := ?v1_4) rfl (by kernel_rfl) (by kernel_rfl) (by kernel_rfl) (by kernel_rfl) (by rfl) (fun _ _ _ h => h) (by rfl) hS0 ?hy1_4 ?rest1_4
    case hy1_4 => (intro u hu; (try dsimp only at hu); go_simp; first | done | with_reducible rfl)
    (try simp only [Act.put, List.setIfInBounds_toArray, List.set_cons_zero, List.set_cons_succ, List.getElem_toArray, List.getElem_cons_succ, List.getElem_cons_zero])
    refine upTo_take (i := 5) (v := ?v1_5) rfl (by kernel_rfl) (by kernel_rfl) (by kernel_rfl) (by kernel_rfl) (by rfl) (fun _ _ _ h => h) (by rfl) hS0 ?hy1_5 ?rest1_5
    case hy1_5 => (intro u hu; (try dsimp only at hu); go_simp; first | done | with_reducible rfl)
    (try simp only [Act.put, List.setIfInBounds_toArray, List.set_cons_zero, List.set_cons_succ, List.getElem_toArray, List.getElem_cons_succ, List.getElem_cons_zero])
    refine upTo_take (i := 6) (v := ?v1_6) rfl (by kernel_rfl) (by kernel_rfl) (by kernel_rfl) (by kernel_rfl) (by rfl) (fun _ _ _ h => h) (by rfl) hS0 ?hy1_6 ?rest1_6
    case hy1_6 => (intro u hu; (try dsimp only at hu); go_simp; first | done | with_reducible rfl)
    (try simp only [Act.put, List.setIfInBounds_toArray, List.set_cons_zero, List.set_cons_succ, List.getElem_toArray, List.getElem_cons_succ, List.getElem_cons_zero])
    refine upTo_take (i := 7) (v := ?v1_7) rfl (by kernel_rfl) (by kernel_rfl) (by kernel_rfl) (by kernel_rfl) (by rfl) (fun _ _ _ h => h) (by rfl) hS0 ?hy1_7 ?rest1_7
    case hy1_7 => (intro u hu; (try dsimp only at hu); go_simp; first | done | with_reducible rfl)
    (try simp only [Act.put, List.setIfInBounds_toArray, List.set_cons_zero, List.set_cons_succ, List.getElem_toArray, List.getElem_cons_succ, List.getElem_cons_zero])
    refine upTo_take (i := 8) (v := ?v1_8) rfl (by kernel_rfl) (by kernel_rfl) (by kernel_rfl) (by kernel_rfl) (by rfl) (fun _ _ _ h => h) (by rfl) hS0 ?hy1_8 ?rest1_8
    case hy1_8 => (intro u hu; (try dsimp only at hu); go_simp; first | done | with_reducible rfl)
    (try simp only [Act.put, List.setIfInBounds_toArray, List.set_cons_zero, List.set_cons_succ, List.getElem_toArray, List.getElem_cons_succ, List.getElem_cons_zero])
    refine upTo_take (i := 9) (v := ?v1_9) rfl (by kernel_rfl) (by kernel_rfl) (by kernel_rfl) (by kernel_rfl) (by rfl) (fun _ _ _ h => h) (by rfl) hS0 ?hy1_9 ?rest1_9
    case hy1_9 => (intro u hu; (try dsimp only at hu); go_simp; first | done | with_reducible rfl)
    (try simp only [Act.put, List.setIfInBounds_toArray, List.set_cons_zero, List.set_cons_succ, List.getElem_toArray, List.getElem_cons_succ, List.getElem_cons_zero])
    refine upTo_take (i := 10) (v := ?v1_10) rfl (by kernel_rfl) (by kernel_rfl) (by kernel_rfl) (by kernel_rfl) (by rfl) (fun _ _ _ h => h) (by rfl) hS0 ?hy1_10 ?rest1_10
    case hy1_10 => (intro u hu; (try dsimp only at hu); go_simp; first | done | with_reducible rfl)
    (try simp only [Act.put, List.setIfInBounds_toArray, List.set_cons_zero, List.set_cons_succ, List.getElem_toArray, List.getElem_cons_succ, List.getElem_cons_zero])
    refine upTo_take (i := 11) (v := ?v1_11) rfl (by kernel_rfl) (by kernel_rfl) (by kernel_rfl) (by kernel_rfl) (by rfl) (fun _ _ _ h => h) (by rfl) hS0 ?hy1_11 ?rest1_11
    case hy1_11 => (intro u hu; (try dsimp only at hu); go_simp; first | done | with_reducible rfl)
    (try simp only [Act.put, List.setIfInBounds_toArray, List.set_cons_zero, List.set_cons_succ, List.getElem_toArray, List.getElem_cons_succ, List.getElem_cons_zero])
    refine upTo_take (i := 12) (v := ?v1_12) rfl (by kernel_rfl) (by kernel_rfl) (by kernel_rfl) (by kernel_rfl) (by rfl) (fun _ _ _ h => h) (by rfl) hS0 ?hy1_12 ?rest1_12
    case hy1_12 => (intro u hu; (try dsimp only at hu); go_simp; first | done | with_reducible rfl)
    (try simp only [Act.put, List.setIfInBounds_toArray, List.set_cons_zero, List.set_cons_succ, List.getElem_toArray, List.getElem_cons_succ, List.getElem_cons_zero])
    refine upTo_take (i := 13) (v := ?v1_13) rfl (by kernel_rfl) (by kernel_rfl) (by kernel_rfl) (by kernel_rfl) (by rfl) (fun _ _ _ h => h) (by rfl) hS0 ?hy1_13 ?rest1_13
    case hy1_13 => (intro u hu; (try dsimp only at hu); go_simp; first | done | with_reducible rfl)
    (try simp only [Act.put, List.setIfInBounds_toArray, List.set_cons_zero, List.set_cons_succ, List.getElem_toArray, List.getElem_cons_succ, List.getElem_cons_zero])
    refine upTo_take (i := 14) (v := ?v1_14) rfl (by kernel_rfl) (by kernel_rfl) (by kernel_rfl) (by kernel_rfl) (by rfl) (fun _ _ _ h => h) (by rfl) hS0 ?hy1_14 ?rest1_14
    case hy1_14 => (intro u hu; (try dsimp only at hu); go_simp; first | done | with_reducible rfl)
    (try simp only [Act.put, List.setIfInBounds_toArray, List.set_cons_zero, List.set_cons_succ, List.getElem_toArray, List.getElem_cons_succ, List.getElem_cons_zero])
    refine upTo_take (i := 15) (v := ?v1_15) rfl (by kernel_rfl) (by kernel_rfl) (by kernel_rfl) (by kernel_rfl) (by rfl) (fun _ _ _ h => h) (by rfl) hS0 ?hy1_15 ?rest1_15
    case hy1_15 => (intro u hu; (try dsimp only at hu); go_simp; first | done | with_reducible rfl)
    (try simp only [Act.put, List.setIfInBounds_toArray, List.set_cons_zero, List.set_cons_succ, List.getElem_toArray, List.getElem_cons_succ, List.getElem_cons_zero])
    refine upTo_take (i := 16) (v := ?v1_16) rfl (by kernel_rfl) (by kernel_rfl) (by kernel_rfl) (by kernel_rfl) (by rfl) (fun _ _ _ h => h) (by rfl) hS0 ?hy1_16 ?rest1_16
    case hy1_16 => (intro u hu; (try dsimp only at hu); go_simp; first | done | with_reducible rfl)
    (try simp only [Act.put, List.setIfInBounds_toArray, List.set_cons_zero, List.set_cons_succ, List.getElem_toArray, List.getElem_cons_succ, List.getElem_cons_zero])
    refine upTo_one (i := 17) (by kernel_rfl) rfl (fun K hK => ?_)
    go_simp
    refine hK.out _ _ (fun _ => ⟨(HH.out.alloc _).cells.2.1, (HH.out.alloc _).cells.2.2.2.2, by have := (HH.out.alloc (.cells #[.int .i64 R.merged] 3)).srcCell i 2 hi (by omega); simpa [RSrc.vals] using this⟩) ?_
    clear hK K
    (try simp only [Act.put, List.setIfInBounds_toArray, List.set_cons_zero, List.set_cons_succ, List.getElem_toArray, List.getElem_cons_succ, List.getElem_cons_zero])
    refine upTo_one (i := 18) (by kernel_rfl) rfl (fun K hK => ?_)
    refine step_append_lies _ (by rfl) _ _ _ (by rfl) 0 3 i0 _ 1 8 Tryz.underlying26 hi0 hz0 hz1 hz2 rfl (by omega) (.slice R.srcs[i].ma R.srcs[i].marks.length R.srcs[i].mc) R.srcs[i].marks.length (ints R.srcs[i].marks) (by rfl) (ownsRow_of_heap HM.out (fun k hk => Below.heap_alloc _ _ _ hk))
      ⟨wq.heap.size, 0, none⟩ 1 1 [.int .i64 R.merged] (by rfl) (by rfl) (World.news_of_block (cs := #[.int .i64 R.merged]) (t := 3) (fr := (0, 0)) (heap_alloc_new wq _)) (by simp [Value.oneCell'])
      (by omega) (by unfold maxLen; omega) (by omega) (by omega) (wq.heap.size + 1) (by simp) ?_
    intro gg cap w1 hown1 hgrow hat hlt1
    have hb0 : Below wq.heap.size wq (wq.alloc (.cells #[.int .i64 R.merged] 3)).drew := ((Below.refl _ wq).alloc (Nat.le_refl _) _).drew
    obtain ⟨q0, q3, q4, qk⟩ := tS HH.out hb0 hi hown1 hgrow hat
    have q1 := q0.cell 9
    have q2 := q0.cell 12
    refine hK.out _ _ (fun _ => ⟨q1, q2, q3⟩) ?_
    clear hK K hS0
    (try simp only [Act.put, List.setIfInBounds_toArray, List.set_cons_zero, List.set_cons_succ, List.getElem_toArray, List.getElem_cons_succ, List.getElem_cons_zero])
    refine upTo_one (i := 19) (by kernel_rfl) rfl (fun K hK => ?_)
    go_simp
    refine hK.out _ _ (fun _ => ⟨q1, q2, q3⟩) ?_
    clear hK K
    (try simp only [Act.put, List.setIfInBounds_toArray, List.set_cons_zero, List.set_cons_succ, List.getElem_toArray, List.getElem_cons_succ, List.getElem_cons_zero])
    refine upTo_one (i := 20) (by kernel_rfl) rfl (fun K hK => ?_)
    go_simp
    refine hK.out _ _ (fun _ => ⟨q1, q2, q3⟩) ?_
    clear hK K
    (try simp only [Act.put, List.setIfInBounds_toArray, List.set_cons_zero, List.set_cons_succ, List.getElem_toArray, List.getElem_cons_succ, List.getElem_cons_zero])
    refine upTo_one (i := 21) (by kernel_rfl) rfl (fun K hK => ?_)
    go_simp
    refine hK.out _ _ (fun h => absurd rfl h) ?_
    clear hK K
    (try simp only [Act.put, List.setIfInBounds_toArray, List.set_cons_zero, List.set_cons_succ, List.getElem_toArray, List.getElem_cons_succ, List.getElem_cons_zero])
    refine upTo_done (by kernel_rfl) ?_
    have HE2 : Hid (Evo wq b R (w1.setCell ⟨R.sg, i * 5 + 2, none⟩ (.slice (some ⟨gg, 0, none⟩) (R.srcs[i].marks.length + 1) cap)) { R with srcs := R.srcs.set i { R.srcs[i] with marks := R.srcs[i].marks ++ [R.merged], ma := some ⟨gg, 0, none⟩, mc := cap } }) := HH.out.appMarkE hb0 hi hown1 hgrow hat
    clear q0 qk q1 q2 q3 q4 c9 c12 s1 s2
    generalize w1.setCell ⟨R.sg, i * 5 + 2, none⟩ (.slice (some ⟨gg, 0, none⟩) (R.srcs[i].marks.length + 1) cap) = wz at *
    have hi2 : i < (R.srcs.set i { R.srcs[i] with marks := R.srcs[i].marks ++ [R.merged], ma := some ⟨gg, 0, none⟩, mc := cap }).length := by rw [List.length_set]; exact hi
    obtain ⟨_, c9, _, _, c12⟩ := HE2.out.mem.cells
    have s1 := HE2.out.mem.srcCell i 1 hi2 (by omega)
    have f1 := HE2.out.mem.srcFrozen (i * 5 + 1) (Nat.lt_of_le_of_lt (Nat.zero_le _) hi2)
    simp only [RSrc.vals, List.getElem?_cons_succ, List.getElem?_cons_zero, List.getElem_set_self, List.length_set] at s1 f1 c9
    go_wp2
    go_end0
    have := HE2.out.mem.setSrcE (i := i) { R.srcs[i] with sil := 0, marks := R.srcs[i].marks ++ [R.merged], ma := some ⟨gg, 0, none⟩, mc := cap } hi2 1 (by omega) (.int .i64 0) (by simp [RSrc.vals]) (by simp) (by simp)
    simp only [List.set_set] at this
    exact ⟨rfl, { R.srcs[i] with sil := 0, marks := R.srcs[i].marks ++ [R.merged], ma := some ⟨gg, 0, none⟩, mc := cap }, rfl, (HKq.out.trans HE2.out).trans this⟩
end Go.Proofs.YthiabdpgieppoaaGreat
