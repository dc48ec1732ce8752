import Derived.Test.YtghcololkgeoeabGreatPartC4
import Derived.Test.YtghcololkgeoeabGreatPartF2
import Derived.Lib.SlBytesRow
import Derived.Lib.BufferRead
namespace Go.Proofs.YtghcololkgeoeabGreat
open Go.RowKit
set_option linter.unusedVariables false
set_option linter.unusedSimpArgs false
attribute [local go_sem ↓] Go.wp_at_zero Go.wp_at_succ

theorem Tryz.infoU8 : (Tryz.prog.info? 5).map (fun i => (i.zero, i.size, i.bytes)) = some (some (.int .u8 0), 1, 1) := by kernel_rfl
theorem bytesV_snoc (l : List UInt8) (x : UInt8) : bytesV (l ++ [x]) = bytesV l ++ [.int .u8 x.toNat] := by simp [bytesV]
theorem tL {w w1 : World} {b : Nat} {X : Eng} {i g cap : Nat} {w0 : World} (h : MemX w b X) (hb0 : Below w.heap.size w w0) (hi : i < X.srcs.length)
    (hg : w0.grownBy w1 (Value.slice X.srcs[i].la X.srcs[i].line.length X.srcs[i].lc).ownBlock) (hat : (Value.slice X.srcs[i].la X.srcs[i].line.length X.srcs[i].lc).ownBlock = some g ∨ g = w.heap.size + 1) :
    Blk w1 b 88 X.vals ∧ w1.cell? ⟨X.sg, i * 6 + 5, none⟩ = some (.slice X.srcs[i].la X.srcs[i].line.length X.srcs[i].lc) ∧ w1.frozen? ⟨X.sg, i * 6 + 5, none⟩ = false := by
  obtain ⟨_, _, B1, _, _⟩ := xapp (j := 6 + i) (cap := cap) h hb0 (xfp_src hi) (by omega) hg hat
  obtain ⟨g', hg', _, _, hc, hf⟩ := (B1.src (by omega) (by omega)).form (by omega)
  simp only [Option.some.injEq, Addr.mk.injEq, and_true] at hg'
  refine ⟨B1.eng (by omega) (by omega), ?_, ?_⟩
  · rw [hg', hc _ (by omega), flatMap_get _ 6 PSrc.len _ i 5 (by omega) hi]; rfl
  · rw [hg']; exact hf _
theorem MemX.appLineE {w w1 : World} {b : Nat} {X : Eng} {i g cap : Nat} {x : UInt8} {w0 : World} (h : MemX w b X) (hb0 : Below w.heap.size w w0) (hi : i < X.srcs.length)
    (hown : w1.ownsRow 0 5 1 (.slice (some ⟨g, 0, none⟩) (X.srcs[i].line.length + 1) cap) (X.srcs[i].line.length + 1) (bytesV X.srcs[i].line ++ [.int .u8 x.toNat]))
    (hg : w0.grownBy w1 (Value.slice X.srcs[i].la X.srcs[i].line.length X.srcs[i].lc).ownBlock) (hat : (Value.slice X.srcs[i].la X.srcs[i].line.length X.srcs[i].lc).ownBlock = some g ∨ g = w.heap.size + 1) :
    EvoX w b X (w1.setCell ⟨X.sg, i * 6 + 5, none⟩ (.slice (some ⟨g, 0, none⟩) (X.srcs[i].line.length + 1) cap)) { X with srcs := X.srcs.set i { X.srcs[i] with line := X.srcs[i].line ++ [x], la := some ⟨g, 0, none⟩, lc := cap } } := by
  obtain ⟨hne, K1, B1, hpd, hgr⟩ := xapp (j := 6 + i) (cap := cap) h hb0 (xfp_src hi) (by omega) hg hat
  have hsg : X.sg < w.heap.size := h.src.lt (a := some ⟨X.sg, 0, none⟩) rfl
  have hgs : g ≠ X.sg := by
    intro e
    rcases hat with hat | hat
    · rw [bk_own] at hat
      exact h.dis.ne (i := 1) (j := 6 + i) rfl (xfp_src hi) (by omega) (by rw [hat, e])
    · omega
  have K : Kept (fun k => some k ∈ X.fp b) w (w1.setCell ⟨X.sg, i * 6 + 5, none⟩ (.slice (some ⟨g, 0, none⟩) (X.srcs[i].line.length + 1) cap)) := K1.setCell (fun _ => by simp [Eng.fp]) _
  have hn : ∀ j k, (X.fp b)[j]? = some (some k) → j ≠ 1 → k ≠ X.sg := fun j k hj h0 e => h0 (h.dis j 1 k hj (by rw [e]; rfl))
  have hfp : ({ X with srcs := X.srcs.set i { X.srcs[i] with line := X.srcs[i].line ++ [x], la := some ⟨g, 0, none⟩, lc := cap } } : Eng).fp b = (X.fp b).set (6 + i) (some g) := xfp_set_src _
  refine ⟨⟨?_, ?_, Row.other (B1.wt (by omega) (by omega)) (fun e => hn 2 X.sg (by rw [← e]; rfl) (by omega) rfl) _, Row.other (B1.lg (by omega) (by omega)) (fun e => hn 3 X.sg (by rw [← e]; rfl) (by omega) rfl) _, Row.other (B1.lt (by omega) (by omega)) (fun e => hn 4 X.sg (by rw [← e]; rfl) (by omega) rfl) _, Row.other (B1.pt (by omega) (by omega)) (fun e => hn 5 X.sg (by rw [← e]; rfl) (by omega) rfl) _, ?_, by rw [hfp]; exact hpd⟩, K, fun k hk => by rw [hfp] at hk; exact hgr k hk⟩
  · have hb : b ≠ X.sg := hn 0 b rfl (by omega)
    have := (B1.eng (by omega) (by omega)).kept ((Kept.refl (fun k => k = X.sg) w1).setCell (b := X.sg) (o := i * 6 + 5) (fun _ => rfl) (.slice (some ⟨g, 0, none⟩) (X.srcs[i].line.length + 1) cap)) hb
    unfold Eng.vals at *
    simpa using this
  · refine xsrcs_set _ hi 5 (by omega) _ ?_ (B1.src (by omega) (by omega))
    simp [PSrc.vals]
  · intro j r hr
    rcases set_get hr with ⟨e, rfl⟩ | ⟨hne, hr⟩
    · simp only [bytesV_snoc, List.length_append, List.length_cons, List.length_nil]
      exact (Row.other (a := some ⟨g, 0, none⟩) hown (by simp [bk]; exact hgs) _)
    · have hj : j < X.srcs.length := (List.getElem?_eq_some_iff.1 hr).1
      have hpe : X.srcs[j] = r := (List.getElem?_eq_some_iff.1 hr).2
      refine Row.other (B1.ln j r hr (by omega) (by omega)) (fun e => hn (6 + j) X.sg ?_ (by omega) rfl) _
      rw [xfp_src hj, hpe, e]
theorem MemX.noLineE {w : World} {b : Nat} {X : Eng} {i : Nat} (h : MemX w b X) (hi : i < X.srcs.length) :
    EvoX w b X (w.setCell ⟨X.sg, i * 6 + 5, none⟩ (.slice none 0 0)) { X with srcs := X.srcs.set i { X.srcs[i] with line := [], la := none, lc := 0 } } := by
  have K : Kept (fun k => k = X.sg) w (w.setCell ⟨X.sg, i * 6 + 5, none⟩ (.slice none 0 0)) := (Kept.refl (fun k => k = X.sg) w).setCell (fun _ => rfl) _
  have B := h.but (j1 := 1) (j2 := 1) K rfl rfl (fun k e => Or.inl (by rw [e]))
  have hfp : ({ X with srcs := X.srcs.set i { X.srcs[i] with line := [], la := none, lc := 0 } } : Eng).fp b = (X.fp b).set (6 + i) none := xfp_set_src _
  refine ⟨⟨?_, xsrcs_set _ hi 5 (by omega) _ (by simp [PSrc.vals]) h.src, B.wt (by omega) (by omega), B.lg (by omega) (by omega), B.lt (by omega) (by omega), B.pt (by omega) (by omega), ?_, ?_⟩, K.mono (fun k _ e => by subst e; simp [Eng.fp]), fun k hk => ?_⟩
  · have := B.eng (by omega) (by omega)
    unfold Eng.vals at *
    simpa using this
  · intro j r hr
    rcases set_get hr with ⟨e, rfl⟩ | ⟨_, hr⟩
    · exact Row.nil _ _ _
    · exact B.ln j r hr (by omega) (by omega)
  · rw [hfp]
    intro a c k ha hc
    rw [List.getElem?_set] at ha hc
    split at ha
    · split at ha <;> simp at ha
    · split at hc
      · split at hc <;> simp at hc
      · exact h.dis a c k ha hc
  · rw [hfp] at hk
    rcases List.mem_or_eq_of_mem_set hk with e | e
    · exact Or.inl e
    · cases e

def PSrc.keeps (p : PSrc) (x : UInt8) (la : Option Addr) (lc : Nat) : PSrc := { p with line := if p.line.length ≤ 40 then p.line ++ [x] else p.line, la := la, lc := lc }
set_option maxRecDepth 100000 in
set_option maxHeartbeats 4000000 in
theorem xkeep_any (b : Nat) (X : Eng) (i : Nat) (x : UInt8) (w : World) (h : MemX w b X) (hi : i < X.srcs.length) :
    Calls Tryz.prog 69 #[.pointer (some ⟨b, 0, none⟩), .int .i64 i, .int .u8 x.toNat] w fun e w' => e = .returned (.tuple #[]) ∧ ∃ la lc, EvoX w b X w' { X with srcs := X.srcs.set i (X.srcs[i].keeps x la lc) } := by
  obtain ⟨i0, hi0, hz0, hz1, hz2⟩ := info_parts Tryz.infoU8
  obtain ⟨_, _, _, _, c6, _⟩ := h.cells
  have s5 := h.srcCell i 5 hi (by omega)
  simp only [PSrc.vals, List.getElem?_cons_zero, List.getElem?_cons_succ] at s5
  have hi' : (i : Int) < (X.srcs.length : Int) := by omega
  have hi00 : (0 : Int) ≤ (i : Int) := by omega
  have HH : Hid (MemX w b X) := h
  clear h
  by_cases h40 : (X.srcs[i].line.length : Int) ≤ 40
  · have HM0 : Hid (Row w 5 1 X.srcs[i].la X.srcs[i].line.length X.srcs[i].lc (bytesV X.srcs[i].line)) := HH.out.ln i _ (List.getElem?_eq_getElem hi)
    have hln : X.srcs[i].line.length ≤ 40 := by omega
    go_enter Tryz.func69, Tryz.ntmps69
    go_upto_region 1 with fail
    refine upTo_region (fun u => u.cell? ⟨b, 9, none⟩ = some (.slice (some ⟨X.sg, 0, none⟩) X.srcs.length X.sc) ∧ u.cell? ⟨X.sg, i * 6 + 5, none⟩ = some (.slice X.srcs[i].la X.srcs[i].line.length X.srcs[i].lc)) 18 19 rfl (by kernel_rfl) ?_
    have hS0 : (fun u : World => u.cell? ⟨b, 9, none⟩ = some (.slice (some ⟨X.sg, 0, none⟩) X.srcs.length X.sc) ∧ u.cell? ⟨X.sg, i * 6 + 5, none⟩ = some (.slice X.srcs[i].la X.srcs[i].line.length X.srcs[i].lc)) w.drew := ⟨c6, s5⟩
    refine upTo_tk (i := 0) (v := ?v54_0) rfl (by kernel_rfl) (fun _ _ _ h => h) (by rfl) hS0 ?h54_0 ?r54_0
    case h54_0 => (intro u hu; (try dsimp only at hu); go_simp; first | done | with_reducible rfl)
    (try simp only [Act.put, tkS])
    refine upTo_tk (i := 1) (v := ?v54_1) rfl (by kernel_rfl) (fun _ _ _ h => h) (by rfl) hS0 ?h54_1 ?r54_1
    case h54_1 => (intro u hu; (try dsimp only at hu); go_simp; first | done | with_reducible rfl)
    (try simp only [Act.put, tkS])
    refine upTo_tk (i := 2) (v := ?v54_2) rfl (by kernel_rfl) (fun _ _ _ h => h) (by rfl) hS0 ?h54_2 ?r54_2
    case h54_2 => (intro u hu; (try dsimp only at hu); go_simp; first | done | with_reducible rfl)
    (try simp only [Act.put, tkS])
    refine upTo_tk (i := 3) (v := ?v54_3) rfl (by kernel_rfl) (fun _ _ _ h => h) (by rfl) hS0 ?h54_3 ?r54_3
    case h54_3 => (intro u hu; (try dsimp only at hu); go_simp; first | done | with_reducible rfl)
    (try simp only [Act.put, tkS])
    refine upTo_tk (i := 4) (v := ?v54_4) rfl (by kernel_rfl) (fun _ _ _ h => h) (by rfl) hS0 ?h54_4 ?r54_4
    case h54_4 => (intro u hu; (try dsimp only at hu); go_simp; first | done | with_reducible rfl)
    (try simp only [Act.put, tkS])
    refine upTo_tk (i := 5) (v := ?v54_5) rfl (by kernel_rfl) (fun _ _ _ h => h) (by rfl) hS0 ?h54_5 ?r54_5
    case h54_5 => (intro u hu; (try dsimp only at hu); go_simp; first | done | with_reducible rfl)
    (try simp only [Act.put, tkS])
    refine upTo_tk (i := 6) (v := ?v54_6) rfl (by kernel_rfl) (fun _ _ _ h => h) (by rfl) hS0 ?h54_6 ?r54_6
    case h54_6 => (intro u hu; (try dsimp only at hu); go_simp; first | done | with_reducible rfl)
    (try simp only [Act.put, tkS])
    refine upTo_tk (i := 7) (v := ?v54_7) rfl (by kernel_rfl) (fun _ _ _ h => h) (by rfl) hS0 ?h54_7 ?r54_7
    case h54_7 => (intro u hu; (try dsimp only at hu); go_simp; first | done | with_reducible rfl)
    (try simp only [Act.put, tkS])
    refine upTo_tk (i := 8) (v := ?v54_8) rfl (by kernel_rfl) (fun _ _ _ h => h) (by rfl) hS0 ?h54_8 ?r54_8
    case h54_8 => (intro u hu; (try dsimp only at hu); go_simp; first | done | with_reducible rfl)
    (try simp only [Act.put, tkS])
    refine upTo_tk (i := 9) (v := ?v54_9) rfl (by kernel_rfl) (fun _ _ _ h => h) (by rfl) hS0 ?h54_9 ?r54_9
    case h54_9 => (intro u hu; (try dsimp only at hu); go_simp; first | done | with_reducible rfl)
    (try simp only [Act.put, tkS])
    refine upTo_tk (i := 10) (v := ?v54_10) rfl (by kernel_rfl) (fun _ _ _ h => h) (by rfl) hS0 ?h54_10 ?r54_10
    case h54_10 => (intro u hu; (try dsimp only at hu); go_simp; first | done | with_reducible rfl)
    (try simp only [Act.put, tkS])
    refine upTo_tk (i := 11) (v := ?v54_11) rfl (by kernel_rfl) (fun _ _ _ h => h) (by rfl) hS0 ?h54_11 ?r54_11
    case h54_11 => (intro u hu; (try dsimp only at hu); go_simp; first | done | with_reducible rfl)
    (try simp only [Act.put, tkS])
    refine upTo_tk (i := 12) (v := ?v54_12) rfl (by kernel_rfl) (fun _ _ _ h => h) (by rfl) hS0 ?h54_12 ?r54_12
    case h54_12 => (intro u hu; (try dsimp only at hu); go_simp; first | done | with_reducible rfl)
    (try simp only [Act.put, tkS])
    refine upTo_tk (i := 13) (v := ?v54_13) rfl (by kernel_rfl) (fun _ _ _ h => h) (by rfl) hS0 ?h54_13 ?r54_13
    case h54_13 => (intro u hu; (try dsimp only at hu); go_simp; first | done | with_reducible rfl)
    (try simp only [Act.put, tkS])
    refine upTo_one (i := 14) (by kernel_rfl) rfl (fun K hK => ?_)
    go_simp
    refine hK.out _ _ (fun _ => ⟨(HH.out.alloc _).cells.2.2.2.2.1, by have := (HH.out.alloc (.cells #[.int .u8 x.toNat] 5)).srcCell i 5 hi (by omega); simpa [PSrc.vals] using this⟩) ?_
    clear hK K
    (try simp only [Act.put, tkS])
    refine upTo_one (i := 15) (by kernel_rfl) rfl (fun K hK => ?_)
    refine step_append_lies _ (by rfl) _ _ _ (by rfl) 0 5 i0 _ 1 1 Tryz.underlying89 hi0 hz0 hz1 hz2 rfl (by omega) (.slice X.srcs[i].la X.srcs[i].line.length X.srcs[i].lc) X.srcs[i].line.length (bytesV X.srcs[i].line) (by rfl) (ownsRow_of_heap HM0.out (fun k hk => Below.heap_alloc _ _ _ hk)) ⟨w.heap.size, 0, none⟩ 1 1 [.int .u8 x.toNat] (by rfl) (by rfl) (World.news_of_block (cs := #[.int .u8 x.toNat]) (t := 5) (fr := (0, 0)) (heap_alloc_new w _)) (by simp [Value.oneCell']) (by omega) (by unfold maxLen; omega) (by omega) (by omega) (w.heap.size + 1) (by simp) ?_
    intro gg cap w1 hown1 hgrow hat hlt1
    have hb0 : Below w.heap.size w (w.alloc (.cells #[.int .u8 x.toNat] 5)).drew := ((Below.refl _ w).alloc (Nat.le_refl _) _).drew
    obtain ⟨q0, q3, q4⟩ := tL (cap := cap) HH.out hb0 hi hgrow hat
    refine hK.out _ _ (fun _ => ⟨q0.cell 9, q3⟩) ?_
    clear hK K hS0
    (try simp only [Act.put, tkS])
    refine upTo_one (i := 16) (by kernel_rfl) rfl (fun K hK => ?_)
    go_simp
    refine hK.out _ _ (fun _ => ⟨q0.cell 9, q3⟩) ?_
    clear hK K
    (try simp only [Act.put, tkS])
    refine upTo_one (i := 17) (by kernel_rfl) rfl (fun K hK => ?_)
    go_simp
    refine hK.out _ _ (fun _ => ⟨q0.cell 9, q3⟩) ?_
    clear hK K
    (try simp only [Act.put, tkS])
    refine upTo_one (i := 18) (by kernel_rfl) rfl (fun K hK => ?_)
    go_simp
    refine hK.out _ _ (fun h => absurd rfl h) ?_
    clear hK K
    (try simp only [Act.put, tkS])
    refine upTo_done (by kernel_rfl) ?_
    have HE2 : Hid (EvoX w b X (w1.setCell ⟨X.sg, i * 6 + 5, none⟩ (.slice (some ⟨gg, 0, none⟩) (X.srcs[i].line.length + 1) cap)) { X with srcs := X.srcs.set i (X.srcs[i].keeps x (some ⟨gg, 0, none⟩) cap) }) := by
      show EvoX _ _ _ _ _
      unfold PSrc.keeps
      rw [if_pos hln]
      exact HH.out.appLineE hb0 hi hown1 hgrow hat
    clear q0 q3 q4 c6 s5 hown1 hgrow hat hlt1 hb0 HM0
    generalize w1.setCell ⟨X.sg, i * 6 + 5, none⟩ (.slice (some ⟨gg, 0, none⟩) (X.srcs[i].line.length + 1) cap) = wz at *
    go_wp2
    go_end0
    exact ⟨rfl, _, _, HE2.out⟩
  · have HZ : Hid (X.srcs.set i (X.srcs[i].keeps x X.srcs[i].la X.srcs[i].lc) = X.srcs) := by
      show _ = _
      have e : X.srcs[i].keeps x X.srcs[i].la X.srcs[i].lc = X.srcs[i] := by unfold PSrc.keeps; rw [if_neg (by omega)]
      rw [e, set_self (List.getElem?_eq_getElem hi)]
    go_enter Tryz.func69, Tryz.ntmps69
    go_wp2
    go_end0
    refine ⟨rfl, X.srcs[i].la, X.srcs[i].lc, ?_⟩
    rw [HZ.out]
    exact EvoX.refl HH.out
end Go.Proofs.YtghcololkgeoeabGreat
namespace Go.Proofs.YtghcololkgeoeabGreat
open Go.RowKit
set_option linter.unusedVariables false
set_option linter.unusedSimpArgs false
attribute [local go_sem ↓] Go.wp_at_zero Go.wp_at_succ

structure FedN where
  good : Int
  refused : Int
  bad : Int
def FedN.vals (f : FedN) : List Value := [.int .i64 f.good, .int .i64 f.refused, .int .i64 f.bad]
def FedN.agg (f : FedN) : Value := .agg #[.int .i64 f.good, .int .i64 f.refused, .int .i64 f.bad]
def fedOf (z : Int) : FedN := if z = 0 then ⟨1, 0, 0⟩ else ⟨0, 1, 0⟩
theorem yanswered_any (z : Int) (w : World) :
    Calls Tryz.prog 87 #[.int .i64 z] w fun e w' => e = .returned (fedOf z).agg ∧ Below w.heap.size w w' := by
  unfold fedOf FedN.agg
  by_cases hz : z = 0
  · subst hz
    go_enter Tryz.func87, Tryz.ntmps87
    go_wp2
    refine bodyPost_ret (v := .agg #[.int .i64 1, .int .i64 0, .int .i64 0]) (by simp [results, Tryz.results87, go_sem]) rfl ⟨rfl, ?_⟩
    exact (Below.refl _ _).alloc (Nat.le_refl _) _
  · have hb : (z != 0) = true := by simpa using hz
    rw [if_neg hz]
    clear hz
    go_enter Tryz.func87, Tryz.ntmps87
    go_wp2
    refine bodyPost_ret (v := .agg #[.int .i64 0, .int .i64 1, .int .i64 0]) (by simp [results, Tryz.results87, go_sem]) rfl ⟨rfl, ?_⟩
    exact (Below.refl _ _).alloc (Nat.le_refl _) _
theorem conv_line {w : World} {a : Option Addr} {c : Nat} {l : List UInt8} (h : Row w 5 1 a l.length c (bytesV l)) :
    (convert 89 9 (.slice a l.length c)).run Tryz.prog w = .ok (.string ⟨l.toArray⟩) w := by
  rcases h.2 with ⟨e, h0⟩ | ⟨g, cap, cur, hv, hb, hg, hnc, hcm, _⟩
  · have hl : l = [] := List.length_eq_zero_iff.1 h0
    subst hl
    simp only [Value.slice.injEq] at e
    obtain ⟨rfl, _, rfl⟩ := e
    exact Lib.run_convert_nil_bytes w _ _ 5 _ Tryz.underlying89 Tryz.underlying5 Tryz.underlying9
  · simp only [Value.slice.injEq, true_and] at hv
    obtain ⟨rfl, rfl⟩ := hv
    have hc : Lib.Bytes w g 0 ⟨l.toArray⟩ := fun i hi => by
      have hi' : i < l.length := hi
      have := World.ownsRow.cellAt h i (by omega)
      rw [Nat.zero_add, this]
      simp only [bytesV, List.getElem?_map, List.getElem?_eq_getElem hi', Option.map_some]
      rfl
    exact Lib.run_convert_whole w _ 5 _ Tryz.underlying89 Tryz.underlying5 Tryz.underlying9 g 0 ⟨l.toArray⟩ hc c
def Eng.noLine (X : Eng) (i : Nat) : Eng := match X.srcs[i]? with | some p => { X with srcs := X.srcs.set i { p with line := [], la := none, lc := 0 } } | none => X
theorem noLine_at {X : Eng} {i : Nat} (hi : i < X.srcs.length) : X.noLine i = { X with srcs := X.srcs.set i { X.srcs[i] with line := [], la := none, lc := 0 } } := by
  unfold Eng.noLine
  rw [List.getElem?_eq_getElem hi]
structure Side (w : World) (b : Nat) (X : Eng) (rb : Nat) (f : FedN) : Prop where
  blk : Blk w rb 75 f.vals
  off : ¬ some rb ∈ X.fp b
theorem Side.evo {w w' : World} {b : Nat} {X Y : Eng} {rb : Nat} {f : FedN} (h : Side w b X rb f) (he : EvoX w b X w' Y) : Side w' b Y rb f :=
  ⟨h.blk.kept he.kept h.off, fun e => by
    rcases he.grow rb e with e | e
    · exact h.off e
    · have := h.blk.lt; omega⟩
theorem Side.below {w w' : World} {b : Nat} {X : Eng} {rb : Nat} {f : FedN} (h : Side w b X rb f) (hb : Below w.heap.size w w') : Side w' b X rb f := ⟨h.blk.kept (below_kept hb (fun _ => False)) (fun e => e), h.off⟩
theorem EvoX.belowE {w w1 w' : World} {b : Nat} {X Y : Eng} (h : EvoX w b X w1 Y) (hb : Below w1.heap.size w1 w') : EvoX w b X w' Y := h.trans (EvoX.below h.mem hb)
theorem EvoX.out {w w' : World} {b : Nat} {X Y : Eng} (h : EvoX w b X w' Y) {rb o : Nat} (hr : w.heap.size ≤ rb) (hn : ¬ some rb ∈ Y.fp b) (v : Value) : EvoX w b X (w'.setCell ⟨rb, o, none⟩ v) Y :=
  h.side ((Kept.refl (fun k => k = rb) w').setCell (fun _ => rfl) v) (fun k e => by subst e; exact ⟨hn, hr⟩)
set_option maxRecDepth 100000 in
set_option maxHeartbeats 4000000 in
theorem xtake_any (b : Nat) (X : Eng) (i : Nat) (w : World) (h : MemX w b X) (hi : i < X.srcs.length) (S : Said) (hS : S = readOf X.srcs[i].line) (hk : S.k = 0 ∨ S.k = 1 ∨ S.k = 2) (Φ : FedN → Eng → Prop)
    (h0 : S.k = 0 → Φ ⟨0, 0, 1⟩ (X.noLine i))
    (h1 : S.k = 1 → ∀ u, MemX u b (X.noLine i) → Calls Tryz.prog 26 #[.pointer (some ⟨b, 0, none⟩), .int .i64 i, S.E.agg] u fun e w' => ∃ z Y, e = .returned (.int .i64 z) ∧ Φ (fedOf z) Y ∧ EvoX u b (X.noLine i) w' Y)
    (h2 : S.k = 2 → ∀ u, MemX u b (X.noLine i) → Calls Tryz.prog 28 #[.pointer (some ⟨b, 0, none⟩), .int .i64 i, .int .i64 S.t] u fun e w' => ∃ z Y, e = .returned (.int .i64 z) ∧ Φ (fedOf z) Y ∧ EvoX u b (X.noLine i) w' Y) :
    Calls Tryz.prog 70 #[.pointer (some ⟨b, 0, none⟩), .int .i64 i] w fun e w' => ∃ f Y, e = .returned (.agg #[.int .i64 (FedN.good f), .int .i64 (FedN.refused f), .int .i64 (FedN.bad f)]) ∧ Φ f Y ∧ EvoX w b X w' Y := by
  obtain ⟨w1, HW1⟩ := hex (w.alloc (.cells #[.int .i64 0, .int .i64 0, .int .i64 0] 75))
  obtain ⟨rb, HRb⟩ := hex w.heap.size
  have HM1 : Hid (MemX w1 b X) := by show MemX _ _ _; rw [HW1.out]; exact h.alloc _
  have HE1 : Hid (EvoX w b X w1 X) := by show EvoX _ _ _ _ _; rw [HW1.out]; exact EvoX.below h ((Below.refl _ _).alloc (Nat.le_refl _) _)
  have HS1 : Hid (Side w1 b X rb ⟨0, 0, 0⟩) := by
    refine ⟨?_, fun e => ?_⟩
    · rw [HW1.out, HRb.out]; exact blk_alloc _ _ _
    · have := h.fp_lt _ e; have := HRb.out; omega
  have HRw : Hid (w.heap.size ≤ rb) := by show _ ≤ _; rw [HRb.out]; exact Nat.le_refl _
  have kc : (convert 89 9 (.slice X.srcs[i].la X.srcs[i].line.length X.srcs[i].lc)).run Tryz.prog w1 = .ok (.string ⟨X.srcs[i].line.toArray⟩) w1 := conv_line (HM1.out.ln i _ (List.getElem?_eq_getElem hi))
  have hrd : ∀ u, Calls Tryz.prog 86 #[.string ⟨X.srcs[i].line.toArray⟩] u fun e w' => e = .returned (.agg #[.int .i64 S.k, .int .i64 S.E.src, .int .i64 S.E.seq, .int .i64 S.E.ts, .int .i64 S.E.kind, .int .i64 S.E.val, .int .i64 S.t]) ∧ Below u.heap.size u w' := fun u => by rw [hS]; exact yread_any ⟨X.srcs[i].line.toArray⟩ u
  clear hS
  obtain ⟨_, _, _, _, c6, _⟩ := HM1.out.cells
  have s5 := HM1.out.srcCell i 5 hi (by omega)
  simp only [PSrc.vals, List.getElem?_cons_zero, List.getElem?_cons_succ] at s5
  have hi' : (i : Int) < (X.srcs.length : Int) := by omega
  have hi00 : (0 : Int) ≤ (i : Int) := by omega
  obtain ⟨X0, HX0⟩ := hex (X.noLine i)
  rw [← HX0.out] at h0 h1 h2
  have HX0' : Hid (X0 = { X with srcs := X.srcs.set i { X.srcs[i] with line := [], la := none, lc := 0 } }) := HX0.out.trans (noLine_at hi)
  clear h
  go_enter Tryz.func70, Tryz.ntmps70
  go_upto_region 1 with fail
  have hw1 : w.alloc (.cells #[.int .i64 0, .int .i64 0, .int .i64 0] 75) = w1 := HW1.out.symm
  rw [hw1, ← HRb.out]
  clear hw1 HW1
  go_upto_region 2 with (go_at_call 86; refine (hrd _).mono ?_; rintro e w2 ⟨rfl, hb2⟩)
  obtain ⟨w3, HW3⟩ := hex (w2.alloc (.cells S.cells.toArray 140))
  have hw3 : w2.alloc (.cells #[.int .i64 S.k, .int .i64 S.E.src, .int .i64 S.E.seq, .int .i64 S.E.ts, .int .i64 S.E.kind, .int .i64 S.E.val, .int .i64 S.t] 140) = w3 := HW3.out.symm
  rw [hw3]
  obtain ⟨lb, HLb⟩ := hex w2.heap.size
  rw [← HLb.out]
  have HB3 : Hid (Below w1.heap.size w1 w3) := by show Below _ _ _; rw [HW3.out]; exact hb2.alloc hb2.size _
  have HC3 : Hid (Blk w3 lb 140 S.cells) := by show Blk _ _ _ _; rw [HW3.out, HLb.out]; exact blk_alloc _ _ _
  have HLo : Hid (¬ some lb ∈ X.fp b) := fun e => by have := HM1.out.fp_lt _ e; have := hb2.size; have := HLb.out; omega
  have HLw : Hid (w.heap.size ≤ lb) := by show _ ≤ _; have := HE1.out.kept.size; have := hb2.size; have := HLb.out; omega
  clear hw3 HW3 HLb hb2 c6 s5 kc hrd
  have HE3 : Hid (EvoX w b X w3 X) := HE1.out.belowE HB3.out
  have HS3 : Hid (Side w3 b X rb ⟨0, 0, 0⟩) := HS1.out.below HB3.out
  obtain ⟨_, _, _, _, c6, _⟩ := HE3.out.mem.cells
  have f5 := HE3.out.mem.srcFrozen (i * 6 + 5) (by omega)
  have s5 := HE3.out.mem.srcCell i 5 hi (by omega)
  simp only [PSrc.vals, List.getElem?_cons_zero, List.getElem?_cons_succ] at s5
  go_upto_region 3 with fail
  obtain ⟨w4, HW4⟩ := hex (w3.setCell ⟨X.sg, i * 6 + 5, none⟩ (.slice none 0 0))
  rw [← HW4.out]
  have HN4 : Hid (EvoX w3 b X w4 X0) := by show EvoX _ _ _ _ _; rw [HW4.out, HX0'.out]; exact HE3.out.mem.noLineE hi
  have HE4 : Hid (EvoX w b X w4 X0) := HE3.out.trans HN4.out
  have HS4 : Hid (Side w4 b X0 rb ⟨0, 0, 0⟩) := HS3.out.evo HN4.out
  have HC4 : Hid (Blk w4 lb 140 S.cells) := HC3.out.kept HN4.out.kept HLo.out
  clear c6 s5 f5 HW4 HC3 HS3 HS1 HE1 HM1
  have x0 := HC4.out.cell 0
  have x1 := HC4.out.cell 1
  have x2 := HC4.out.cell 2
  have x3 := HC4.out.cell 3
  have x4 := HC4.out.cell 4
  have x5 := HC4.out.cell 5
  have x6 := HC4.out.cell 6
  simp only [Said.cells, lineCells, List.getElem?_cons_zero, List.getElem?_cons_succ] at x0 x1 x2 x3 x4 x5 x6
  have han : ∀ z u, Calls Tryz.prog 87 #[.int .i64 z] u fun e w' => e = .returned (.agg #[.int .i64 (fedOf z).good, .int .i64 (fedOf z).refused, .int .i64 (fedOf z).bad]) ∧ Below u.heap.size u w' := fun z u => yanswered_any z u
  rcases hk with hk | hk | hk
  · rw [hk] at x0
    have z0 := HS4.out.blk.cell 0
    have y0 := HS4.out.blk.frozen 0
    have z1 := HS4.out.blk.cell 1
    have y1 := HS4.out.blk.frozen 1
    have z2 := HS4.out.blk.cell 2
    have y2 := HS4.out.blk.frozen 2
    simp only [FedN.vals, List.getElem?_cons_zero, List.getElem?_cons_succ] at z0 z1 z2
    have HP : Hid (Φ ⟨0, 0, 1⟩ X0) := h0 hk
    go_wp2
    refine bodyPost_ret (v := .agg #[.int .i64 0, .int .i64 0, .int .i64 1]) (by simp [results, Tryz.results70, go_sem, z0, z1, z2]) rfl ⟨⟨0, 0, 1⟩, X0, rfl, HP.out, ?_⟩
    exact ((HE4.out.out HRw.out HS4.out.off _).out HRw.out HS4.out.off _).out HRw.out HS4.out.off _
  · rw [hk] at x0
    have HP := h1 hk
    unfold Ev.agg at HP
    go_wp2_with (first
      | (go_at_call 26; refine (HP _ HE4.out.mem).mono ?_; rintro e w5 ⟨z, Y, rfl, hph, hev⟩; have HPh : Hid (Φ (fedOf z) Y) := hph; have HE5 : Hid (EvoX w4 b X0 w5 Y) := hev; clear hph hev)
      | (go_at_call 87; refine (han z _).mono ?_; rintro e w6 ⟨rfl, hb6⟩; have HS6 : Hid (Side w6 b Y rb ⟨0, 0, 0⟩) := (HS4.out.evo HE5.out).below hb6; have HE6 : Hid (EvoX w b X w6 Y) := (HE4.out.trans HE5.out).belowE hb6; clear hb6; have z0 := HS6.out.blk.cell 0; have y0 := HS6.out.blk.frozen 0; have z1 := HS6.out.blk.cell 1; have y1 := HS6.out.blk.frozen 1; have z2 := HS6.out.blk.cell 2; have y2 := HS6.out.blk.frozen 2; simp only [FedN.vals, List.getElem?_cons_zero, List.getElem?_cons_succ] at z0 z1 z2))
    refine bodyPost_ret (v := .agg #[.int .i64 (fedOf z).good, .int .i64 (fedOf z).refused, .int .i64 (fedOf z).bad]) (by simp [results, Tryz.results70, go_sem, z0, z1, z2]) rfl ⟨fedOf z, Y, rfl, HPh.out, ?_⟩
    exact ((HE6.out.out HRw.out HS6.out.off _).out HRw.out HS6.out.off _).out HRw.out HS6.out.off _
  · rw [hk] at x0
    have HP := h2 hk
    go_wp2_with (first
      | (go_at_call 28; refine (HP _ HE4.out.mem).mono ?_; rintro e w5 ⟨z, Y, rfl, hph, hev⟩; have HPh : Hid (Φ (fedOf z) Y) := hph; have HE5 : Hid (EvoX w4 b X0 w5 Y) := hev; clear hph hev)
      | (go_at_call 87; refine (han z _).mono ?_; rintro e w6 ⟨rfl, hb6⟩; have HS6 : Hid (Side w6 b Y rb ⟨0, 0, 0⟩) := (HS4.out.evo HE5.out).below hb6; have HE6 : Hid (EvoX w b X w6 Y) := (HE4.out.trans HE5.out).belowE hb6; clear hb6; have z0 := HS6.out.blk.cell 0; have y0 := HS6.out.blk.frozen 0; have z1 := HS6.out.blk.cell 1; have y1 := HS6.out.blk.frozen 1; have z2 := HS6.out.blk.cell 2; have y2 := HS6.out.blk.frozen 2; simp only [FedN.vals, List.getElem?_cons_zero, List.getElem?_cons_succ] at z0 z1 z2))
    refine bodyPost_ret (v := .agg #[.int .i64 (fedOf z).good, .int .i64 (fedOf z).refused, .int .i64 (fedOf z).bad]) (by simp [results, Tryz.results70, go_sem, z0, z1, z2]) rfl ⟨fedOf z, Y, rfl, HPh.out, ?_⟩
    exact ((HE6.out.out HRw.out HS6.out.off _).out HRw.out HS6.out.off _).out HRw.out HS6.out.off _
end Go.Proofs.YtghcololkgeoeabGreat
namespace Go.Proofs.YtghcololkgeoeabGreat
open Go.RowKit
set_option linter.unusedVariables false
set_option linter.unusedSimpArgs false
attribute [local go_sem ↓] Go.wp_at_zero Go.wp_at_succ

def FedN.plus (f g : FedN) : FedN := ⟨f.good + g.good, f.refused + g.refused, f.bad + g.bad⟩
set_option maxRecDepth 100000 in
set_option maxHeartbeats 1000000 in
theorem xfeed_long (b : Nat) (A : Int) (s : ByteArray) (w : World) (hs : 2000 < s.size) :
    Calls Tryz.prog 32 #[.pointer (some ⟨b, 0, none⟩), .int .i64 A, .string s] w fun e w' => e = .returned (.tuple #[.agg #[.int .i64 0, .int .i64 0, .int .i64 0], .int .i64 9]) ∧ Below w.heap.size w w' := by
  have hs' : (2000 : Int) < (s.size : Int) := by omega
  go_enter Tryz.func32, Tryz.ntmps32
  go_wp2
  refine bodyPost_ret (v := .tuple #[.agg #[.int .i64 0, .int .i64 0, .int .i64 0], .int .i64 9]) (by simp [results, Tryz.results32, go_sem]) rfl ⟨rfl, ?_⟩
  exact (Below.refl _ _).alloc (Nat.le_refl _) _
set_option maxRecDepth 100000 in
set_option maxHeartbeats 1000000 in
theorem xfeed_none (b : Nat) (X : Eng) (A : Int) (s : ByteArray) (w : World) (h : MemX w b X) (hs : s.size ≤ 2000) (hA : A < 0 ∨ (X.srcs.length : Int) ≤ A) :
    Calls Tryz.prog 32 #[.pointer (some ⟨b, 0, none⟩), .int .i64 A, .string s] w fun e w' => e = .returned (.tuple #[.agg #[.int .i64 0, .int .i64 0, .int .i64 0], .int .i64 3]) ∧ Below w.heap.size w w' := by
  have hs' : ¬ ((2000 : Int) < (s.size : Int)) := by omega
  have HD : Hid (decide (0 ≤ A ∧ A < (X.srcs.length : Int)) = false) := by show _ = _; simp; omega
  have H : Hid (MemX w b X) := h
  clear hA h
  go_enter Tryz.func32, Tryz.ntmps32
  go_wp2_with (go_at_call 39; refine (xhas_any b X A _ (H.out.alloc _)).mono ?_; rintro e w' ⟨rfl, rfl⟩; rw [HD.out])
  refine bodyPost_ret (v := .tuple #[.agg #[.int .i64 0, .int .i64 0, .int .i64 0], .int .i64 3]) (by simp [results, Tryz.results32, go_sem]) rfl ⟨rfl, ?_⟩
  exact (Below.refl _ _).alloc (Nat.le_refl _) _
structure FeedK (w wr : World) (b : Nat) (X Y : Eng) (rb fb : Nat) (f : FedN) : Prop where
  evo : EvoX w b X wr Y
  res : Side wr b Y rb ⟨0, 0, 0⟩
  box : Side wr b Y fb f
theorem FeedK.step {w wr w' : World} {b : Nat} {X Y Z : Eng} {rb fb : Nat} {f : FedN} (h : FeedK w wr b X Y rb fb f) (he : EvoX wr b Y w' Z) : FeedK w w' b X Z rb fb f :=
  ⟨h.evo.trans he, h.res.evo he, h.box.evo he⟩
theorem FeedK.add {w wr : World} {b : Nat} {X Y : Eng} {rb fb : Nat} {f : FedN} (h : FeedK w wr b X Y rb fb f) (hrf : rb ≠ fb) (hf : w.heap.size ≤ fb) (g : FedN) :
    FeedK w (((wr.setCell ⟨fb, 0, none⟩ (.int .i64 (f.good + g.good))).setCell ⟨fb, 1, none⟩ (.int .i64 (f.refused + g.refused))).setCell ⟨fb, 2, none⟩ (.int .i64 (f.bad + g.bad))) b X Y rb fb (f.plus g) := by
  refine ⟨((h.evo.out hf h.box.off _).out hf h.box.off _).out hf h.box.off _, ⟨?_, h.res.off⟩, ⟨?_, h.box.off⟩⟩
  · exact h.res.blk.kept ((((Kept.refl (fun k => k = fb) wr).setCell (fun _ => rfl) _).setCell (fun _ => rfl) _).setCell (fun _ => rfl) _) hrf
  · exact ((h.box.blk.set 0 (.int .i64 (f.good + g.good))).set 1 (.int .i64 (f.refused + g.refused))).set 2 (.int .i64 (f.bad + g.bad))
set_option maxRecDepth 100000 in
set_option maxHeartbeats 4000000 in
theorem xfeed_ok (b : Nat) (X : Eng) (i : Nat) (s : ByteArray) (w : World) (h : MemX w b X) (hs : s.size ≤ 2000) (hi : i < X.srcs.length) (Inv : Nat → FedN → Eng → Prop)
    (h0 : Inv 0 ⟨0, 0, 0⟩ X) (hn : ∀ k f Y, Inv k f Y → Y.srcs.length = X.srcs.length)
    (hr : ∀ k f Y, Inv k f Y → (0 ≤ f.good ∧ f.good ≤ 2000) ∧ (0 ≤ f.refused ∧ f.refused ≤ 2000) ∧ (0 ≤ f.bad ∧ f.bad ≤ 2000))
    (hkeep : ∀ k (hk : k < s.size) f Y (hl : i < Y.srcs.length), Inv k f Y → s[k] ≠ 10 → ∀ la lc, Inv (k + 1) f { Y with srcs := Y.srcs.set i (Y.srcs[i].keeps s[k] la lc) })
    (htake : ∀ k (hk : k < s.size) f Y, Inv k f Y → s[k] = 10 → ∀ u, MemX u b Y → Calls Tryz.prog 70 #[.pointer (some ⟨b, 0, none⟩), .int .i64 i] u fun e w' => ∃ g Z, e = .returned (.agg #[.int .i64 (FedN.good g), .int .i64 (FedN.refused g), .int .i64 (FedN.bad g)]) ∧ Inv (k + 1) (f.plus g) Z ∧ EvoX u b Y w' Z) :
    Calls Tryz.prog 32 #[.pointer (some ⟨b, 0, none⟩), .int .i64 i, .string s] w fun e w' => ∃ f Y, e = .returned (.tuple #[.agg #[.int .i64 (FedN.good f), .int .i64 (FedN.refused f), .int .i64 (FedN.bad f)], .int .i64 0]) ∧ Inv s.size f Y ∧ EvoX w b X w' Y := by
  have hs' : ¬ ((2000 : Int) < (s.size : Int)) := by omega
  have HD : Hid (decide (0 ≤ (i : Int) ∧ (i : Int) < (X.srcs.length : Int)) = true) := by show _ = _; simp; omega
  have H : Hid (MemX w b X) := h
  have HI0 : Hid (Inv 0 ⟨0, 0, 0⟩ X) := h0
  have HIn : Hid (∀ k f Y, Inv k f Y → Y.srcs.length = X.srcs.length) := hn
  have HIr : Hid (∀ k f Y, Inv k f Y → (0 ≤ f.good ∧ f.good ≤ 2000) ∧ (0 ≤ f.refused ∧ f.refused ≤ 2000) ∧ (0 ≤ f.bad ∧ f.bad ≤ 2000)) := hr
  have HKp : Hid (∀ k (hk : k < s.size) f Y (hl : i < Y.srcs.length), Inv k f Y → s[k] ≠ 10 → ∀ la lc, Inv (k + 1) f { Y with srcs := Y.srcs.set i (Y.srcs[i].keeps s[k] la lc) }) := hkeep
  have HTk : Hid (∀ k (hk : k < s.size) f Y, Inv k f Y → s[k] = 10 → ∀ u, MemX u b Y → Calls Tryz.prog 70 #[.pointer (some ⟨b, 0, none⟩), .int .i64 i] u fun e w' => ∃ g Z, e = .returned (.agg #[.int .i64 (FedN.good g), .int .i64 (FedN.refused g), .int .i64 (FedN.bad g)]) ∧ Inv (k + 1) (f.plus g) Z ∧ EvoX u b Y w' Z) := htake
  clear h h0 hn hr hkeep htake
  obtain ⟨w2, HW2⟩ := hex ((w.alloc (.cells #[.int .i64 0, .int .i64 0, .int .i64 0] 75)).alloc (.cells #[.int .i64 0, .int .i64 0, .int .i64 0] 75))
  obtain ⟨rb, HRb⟩ := hex w.heap.size
  obtain ⟨fb, HFb⟩ := hex (w.heap.size + 1)
  have hrf : rb ≠ fb := by rw [HRb.out, HFb.out]; omega
  have HRw : Hid (w.heap.size ≤ rb ∧ w.heap.size ≤ fb) := by show _ ∧ _; rw [HRb.out, HFb.out]; omega
  have HK2 : Hid (FeedK w w2 b X X rb fb ⟨0, 0, 0⟩) := by
    refine ⟨?_, ⟨?_, fun e => ?_⟩, ⟨?_, fun e => ?_⟩⟩
    · rw [HW2.out]; exact EvoX.below H.out (((Below.refl _ _).alloc (Nat.le_refl _) _).alloc (by simp) _)
    · rw [HW2.out, HRb.out]; exact (blk_alloc _ _ _).alloc _
    · have := H.out.fp_lt _ e; have := HRb.out; omega
    · rw [HW2.out, HFb.out]; have := blk_alloc (w.alloc (.cells #[.int .i64 0, .int .i64 0, .int .i64 0] 75)) [.int .i64 0, .int .i64 0, .int .i64 0] 75; simpa [FedN.vals] using this
    · have := H.out.fp_lt _ e; have := HFb.out; omega
  go_enter Tryz.func32, Tryz.ntmps32
  go_upto_region 6 with (go_at_call 39; refine (xhas_any b X i _ (H.out.alloc _)).mono ?_; rintro e w' ⟨rfl, rfl⟩; rw [HD.out])
  have hw2 : (w.alloc (.cells #[.int .i64 0, .int .i64 0, .int .i64 0] 75)).alloc (.cells #[.int .i64 0, .int .i64 0, .int .i64 0] 75) = w2 := HW2.out.symm
  rw [hw2, ← HFb.out, ← HRb.out]
  clear hw2 HW2
  go_upto_region 7 with fail
  go_loopw [9] (fun v wr => ∃ (k : Nat) (f : FedN) (Y : Eng), k ≤ s.size ∧ v = .int .i64 k ∧ Inv k f Y ∧ FeedK w wr b X Y rb fb f) (fun v _ => s.size - (intOf v).toNat)
  case atStart => exact ⟨0, ⟨0, 0, 0⟩, X, Nat.zero_le _, rfl, HI0.out, HK2.out⟩
  case round =>
    obtain ⟨k, f, Y, hk, rfl, hinv, hfk⟩ := hrel
    have HV : Hid (Inv k f Y) := hinv
    have HF : Hid (FeedK w wr b X Y rb fb f) := hfk
    have hl : i < Y.srcs.length := by rw [HIn.out k f Y hinv]; exact hi
    clear hinv hfk
    by_cases hlt : k < s.size
    · have hlt' : (k : Int) < (s.size : Int) := by omega
      have hk0 : (0 : Int) ≤ (k : Int) := by omega
      by_cases hc : s[k] = 10
      · have hcb : (s[k].toNat : Int) = 10 := by rw [hc]; rfl
        have HT := HTk.out k hlt f Y HV.out hc
        go_upto_region 12 with (go_at_call 70; refine (HT _ HF.out.evo.mem).mono ?_; rintro e w3 ⟨g, Z, rfl, hiv, hev⟩)
        have HV3 : Hid (Inv (k + 1) (f.plus g) Z) := hiv
        have HF3 : Hid (FeedK w w3 b X Z rb fb f) := HF.out.step hev
        clear hiv hev HT
        obtain ⟨w4, HW4⟩ := hex (w3.alloc (.cells g.vals.toArray 75))
        have hw4 : w3.alloc (.cells #[.int .i64 g.good, .int .i64 g.refused, .int .i64 g.bad] 75) = w4 := HW4.out.symm
        obtain ⟨ob, HOb⟩ := hex w3.heap.size
        rw [hw4, ← HOb.out]
        have HF4 : Hid (FeedK w w4 b X Z rb fb f) := by
          show FeedK _ _ _ _ _ _ _ _
          rw [HW4.out]
          exact HF3.out.step (EvoX.below HF3.out.evo.mem ((Below.refl _ _).alloc (Nat.le_refl _) _))
        have HB4 : Hid (Blk w4 ob 75 g.vals) := by show Blk _ _ _ _; rw [HW4.out, HOb.out]; exact blk_alloc _ _ _
        have hfo : fb ≠ ob := by have := HF3.out.box.blk.lt; have := HOb.out; omega
        clear hw4 HW4 HOb
        have x0 := HF4.out.box.blk.cell 0
        have u0 := HF4.out.box.blk.frozen 0
        have x1 := HF4.out.box.blk.cell 1
        have u1 := HF4.out.box.blk.frozen 1
        have x2 := HF4.out.box.blk.cell 2
        have u2 := HF4.out.box.blk.frozen 2
        have z0 := HB4.out.cell 0
        have z1 := HB4.out.cell 1
        have z2 := HB4.out.cell 2
        simp only [FedN.vals, List.getElem?_cons_zero, List.getElem?_cons_succ] at z0 z1 z2 x0 x1 x2
        have hrg := HIr.out _ _ _ HV3.out
        simp only [FedN.plus] at hrg
        go_wp2
        exact ⟨⟨k + 1, f.plus g, Z, by omega, by simp, HV3.out, HF4.out.add hrf HRw.out.2 g⟩, by simp [intOf]; omega⟩
      · have hcb : ((s[k].toNat : Int) != 10) = true := by
          simp only [bne_iff_ne, ne_eq]
          intro e
          have e' : s[k].toNat = 10 := by omega
          exact hc (UInt8.toNat_inj.1 (by rw [e']; rfl))
        go_wp2_with (go_at_call 69; refine (xkeep_any b Y i s[k] _ HF.out.evo.mem hl).mono ?_; rintro e w3 ⟨rfl, la, lc, hev⟩)
        exact ⟨⟨k + 1, f, _, by omega, by simp, HKp.out k hlt f Y hl HV.out hc la lc, HF.out.step hev⟩, by simp [intOf]; omega⟩
    · obtain rfl : k = s.size := by omega
      have z0 := HF.out.res.blk.cell 0
      have y0 := HF.out.res.blk.frozen 0
      have z1 := HF.out.res.blk.cell 1
      have y1 := HF.out.res.blk.frozen 1
      have z2 := HF.out.res.blk.cell 2
      have y2 := HF.out.res.blk.frozen 2
      have x0 := HF.out.box.blk.cell 0
      have x1 := HF.out.box.blk.cell 1
      have x2 := HF.out.box.blk.cell 2
      simp only [FedN.vals, List.getElem?_cons_zero, List.getElem?_cons_succ] at z0 z1 z2 x0 x1 x2
      go_wp2
      refine bodyPost_ret (v := .tuple #[.agg #[.int .i64 f.good, .int .i64 f.refused, .int .i64 f.bad], .int .i64 0]) (by simp [results, Tryz.results32, go_sem, z0, z1, z2]) rfl ⟨f, Y, rfl, HV.out, ?_⟩
      exact ((HF.out.evo.out HRw.out.1 HF.out.res.off _).out HRw.out.1 HF.out.res.off _).out HRw.out.1 HF.out.res.off _
end Go.Proofs.YtghcololkgeoeabGreat
