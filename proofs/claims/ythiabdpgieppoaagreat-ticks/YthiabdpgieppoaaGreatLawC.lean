import Derived.Test.YthiabdpgieppoaaGreatLawB
namespace Go.Proofs.YthiabdpgieppoaaGreat
open Go.RowKit
set_option linter.unusedVariables false
set_option linter.unusedSimpArgs false
attribute [local go_sem ↓] Go.wp_at_zero Go.wp_at_succ

/-- one entry of the world's lists of events -/
structure El where
  a : Option Addr
  c : Nat
  sl : List Sl
def El.val (e : El) : Value := .slice e.a e.sl.length e.c
/-- the lists of events that came out -/
structure Lists (w : World) (a : Option Addr) (c : Nat) (l : List El) : Prop where
  row : Row w 64 1 a l.length c (l.map El.val)
  each : ∀ (i : Nat) e, l[i]? = some e → Owns w e.a e.c e.sl (markEv i)
theorem Lists.heap {w w' : World} {a : Option Addr} {c : Nat} {l : List El} (h : Lists w a c l) (hk : ∀ k, k < w.heap.size → w'.heap[k]? = w.heap[k]?) : Lists w' a c l :=
  ⟨ownsRow_of_heap h.row hk, fun i e he => (h.each i e he).heap hk⟩
theorem Lists.slot {w : World} {a : Option Addr} {c : Nat} {l : List El} (h : Lists w a c l) (k : Nat) (hk : k < l.length) : ∃ g, a = some ⟨g, 0, none⟩ ∧ w.cell? ⟨g, k, none⟩ = some (.slice l[k].a l[k].sl.length l[k].c) := by
  obtain ⟨g, e, _, _, hc, _⟩ := h.row.form (by omega)
  exact ⟨g, e, by rw [hc k (by omega)]; simp [El.val, hk]⟩

set_option maxRecDepth 100000 in
set_option maxHeartbeats 4000000 in
theorem looks_true (wb : Nat) (xv rv : Value) (a : Option Addr) (c : Nat) (l : List El) (w : World) (hB : Blk w wb 49 [xv, rv, .slice a l.length c, .slice none 0 0, .slice none 0 0]) (h : Lists w a c l) (hl : l.length ≤ 9000000000000) :
    Calls Tryz.prog 9 #[.pointer (some ⟨wb, 0, none⟩)] w fun e w' => e = .returned (.bool true) ∧ Below w.heap.size w w' := by
  have HL : Hid (Lists w a c l) := h
  have HB : Hid (Blk w wb 49 [xv, rv, .slice a l.length c, .slice none 0 0, .slice none 0 0]) := hB
  have hwb := hB.lt
  clear h hB
  go_enter Tryz.func9, Tryz.ntmps9
  go_wp2
  go_loopw [3] (fun i wr => ∃ k : Nat, k ≤ l.length ∧ i = .int .i64 k ∧ Below w.heap.size w wr) (fun i _ => l.length - (intOf i).toNat)
  case atStart => exact ⟨0, Nat.zero_le _, rfl, Below.refl _ _⟩
  case round =>
    obtain ⟨k, hk, rfl, hbel⟩ := hrel
    have HLr : Hid (Lists wr a c l) := HL.out.heap (fun k hk => hbel.block k hk)
    have HBr : Hid (Blk wr wb 49 [xv, rv, .slice a l.length c, .slice none 0 0, .slice none 0 0]) := HB.out.below hbel hwb
    have b2 := HBr.out.cell 2
    have b3 := HBr.out.cell 3
    have b4 := HBr.out.cell 4
    simp only [List.getElem?_cons_zero, List.getElem?_cons_succ] at b2 b3 b4
    by_cases hlt : k < l.length
    · have hlt' : (k : Int) < (l.length : Int) := by omega
      have hk0 : (0 : Int) ≤ (k : Int) := by omega
      obtain ⟨g, hg, s0⟩ := HLr.out.slot k hlt
      have HE : Hid (Owns wr l[k].a l[k].c l[k].sl (markEv k)) := HLr.out.each k _ (List.getElem?_eq_getElem hlt)
      obtain ⟨E, HEe⟩ := hex l[k]
      rw [← HEe.out] at s0 HE
      have b2' := b2
      rw [hg] at b2'
      have HG : Hid (a = some ⟨g, 0, none⟩) := hg
      clear hg b2
      go_upto_region 4 with fail
      refine upTo_region (fun u => u.cell? ⟨wb, 2, none⟩ = some (.slice (some ⟨g, 0, none⟩) l.length c) ∧ u.cell? ⟨g, k, none⟩ = some (.slice E.a E.sl.length E.c)) 10 11 rfl (by kernel_rfl) ?_
      have hS0 : (fun u : World => u.cell? ⟨wb, 2, none⟩ = some (.slice (some ⟨g, 0, none⟩) l.length c) ∧ u.cell? ⟨g, k, none⟩ = some (.slice E.a E.sl.length E.c)) wr.drew := ⟨b2', s0⟩
      refine upTo_take (i := 0) (v := ?v3_0) rfl (by kernel_rfl) (by kernel_rfl) (by kernel_rfl) (by kernel_rfl) (by rfl) (fun _ _ _ h => h) (by rfl) hS0 ?hy3_0 ?rest3_0
      case hy3_0 => (intro u hu; (try dsimp only at hu); go_simp; first | done | with_reducible rfl)
      (try simp only [Act.put, List.setIfInBounds_toArray, List.set_cons_zero, List.set_cons_succ, List.getElem_toArray, List.getElem_cons_succ, List.getElem_cons_zero])
      refine upTo_take (i := 1) (v := ?v3_1) rfl (by kernel_rfl) (by kernel_rfl) (by kernel_rfl) (by kernel_rfl) (by rfl) (fun _ _ _ h => h) (by rfl) hS0 ?hy3_1 ?rest3_1
      case hy3_1 => (intro u hu; (try dsimp only at hu); go_simp; first | done | with_reducible rfl)
      (try simp only [Act.put, List.setIfInBounds_toArray, List.set_cons_zero, List.set_cons_succ, List.getElem_toArray, List.getElem_cons_succ, List.getElem_cons_zero])
      refine upTo_take (i := 2) (v := ?v3_2) rfl (by kernel_rfl) (by kernel_rfl) (by kernel_rfl) (by kernel_rfl) (by rfl) (fun _ _ _ h => h) (by rfl) hS0 ?hy3_2 ?rest3_2
      case hy3_2 => (intro u hu; (try dsimp only at hu); go_simp; first | done | with_reducible rfl)
      (try simp only [Act.put, List.setIfInBounds_toArray, List.set_cons_zero, List.set_cons_succ, List.getElem_toArray, List.getElem_cons_succ, List.getElem_cons_zero])
      refine upTo_take (i := 3) (v := ?v3_3) rfl (by kernel_rfl) (by kernel_rfl) (by kernel_rfl) (by kernel_rfl) (by rfl) (fun _ _ _ h => h) (by rfl) hS0 ?hy3_3 ?rest3_3
      case hy3_3 => (intro u hu; (try dsimp only at hu); go_simp; first | done | with_reducible rfl)
      (try simp only [Act.put, List.setIfInBounds_toArray, List.set_cons_zero, List.set_cons_succ, List.getElem_toArray, List.getElem_cons_succ, List.getElem_cons_zero])
      refine upTo_take (i := 4) (v := ?v3_4) rfl (by kernel_rfl) (by kernel_rfl) (by kernel_rfl) (by kernel_rfl) (by rfl) (fun _ _ _ h => h) (by rfl) hS0 ?hy3_4 ?rest3_4
      case hy3_4 => (intro u hu; (try dsimp only at hu); go_simp; first | done | with_reducible rfl)
      (try simp only [Act.put, List.setIfInBounds_toArray, List.set_cons_zero, List.set_cons_succ, List.getElem_toArray, List.getElem_cons_succ, List.getElem_cons_zero])
      refine upTo_take (i := 5) (v := ?v3_5) rfl (by kernel_rfl) (by kernel_rfl) (by kernel_rfl) (by kernel_rfl) (by rfl) (fun _ _ _ h => h) (by rfl) hS0 ?hy3_5 ?rest3_5
      case hy3_5 => (intro u hu; (try dsimp only at hu); go_simp; first | done | with_reducible rfl)
      (try simp only [Act.put, List.setIfInBounds_toArray, List.set_cons_zero, List.set_cons_succ, List.getElem_toArray, List.getElem_cons_succ, List.getElem_cons_zero])
      refine upTo_take (i := 6) (v := ?v3_6) rfl (by kernel_rfl) (by kernel_rfl) (by kernel_rfl) (by kernel_rfl) (by rfl) (fun _ _ _ h => h) (by rfl) hS0 ?hy3_6 ?rest3_6
      case hy3_6 => (intro u hu; (try dsimp only at hu); go_simp; first | done | with_reducible rfl)
      (try simp only [Act.put, List.setIfInBounds_toArray, List.set_cons_zero, List.set_cons_succ, List.getElem_toArray, List.getElem_cons_succ, List.getElem_cons_zero])
      refine upTo_take (i := 7) (v := ?v3_7) rfl (by kernel_rfl) (by kernel_rfl) (by kernel_rfl) (by kernel_rfl) (by rfl) (fun _ _ _ h => h) (by rfl) hS0 ?hy3_7 ?rest3_7
      case hy3_7 => (intro u hu; (try dsimp only at hu); go_simp; first | done | with_reducible rfl)
      (try simp only [Act.put, List.setIfInBounds_toArray, List.set_cons_zero, List.set_cons_succ, List.getElem_toArray, List.getElem_cons_succ, List.getElem_cons_zero])
      refine upTo_one (i := 8) (by kernel_rfl) rfl (fun K hK => ?_)
      go_simp
      refine (marked_any k _ hk0 (by omega)).mono ?_
      rintro e w2 ⟨rfl, hb2, _⟩
      have HB2 : Hid (Below wr.heap.size wr w2) := ⟨hb2.os, hb2.tape, hb2.output, hb2.size, hb2.block⟩
      have hc2 : ∀ p v, wr.cell? p = some v → w2.cell? p = some v := fun p v h => (HB2.out.cell (p := p) (World.block_lt_of_cell? wr p h)).trans h
      have HE2 : Hid (Owns w2 E.a E.c E.sl (markEv k)) := HE.out.heap (fun k hk => HB2.out.block k hk)
      have q1 := hc2 _ _ b2'
      have q2 := hc2 _ _ s0
      clear hb2 hc2
      refine hK.out _ _ (fun _ => ⟨q1, q2⟩) ?_
      clear hK K hS0
      (try simp only [Act.put, List.setIfInBounds_toArray, List.set_cons_zero, List.set_cons_succ, List.getElem_toArray, List.getElem_cons_succ, List.getElem_cons_zero])
      refine upTo_one (i := 9) (by kernel_rfl) rfl (fun K hK => ?_)
      unfold Ev.agg
      go_simp
      refine (holds_true E.a E.c E.sl (markEv k) _ HE2.out).mono ?_
      rintro e w3 ⟨rfl, hb3⟩
      have HB3 : Hid (Below w2.heap.size w2 w3) := hb3
      have hc3 : ∀ p v, w2.cell? p = some v → w3.cell? p = some v := fun p v h => (HB3.out.cell (p := p) (World.block_lt_of_cell? w2 p h)).trans h
      have q3 := hc3 _ _ q1
      have q4 := hc3 _ _ q2
      clear hb3 hc3
      refine hK.out _ _ (fun _ => ⟨q3, q4⟩) ?_
      clear hK K
      (try simp only [Act.put, List.setIfInBounds_toArray, List.set_cons_zero, List.set_cons_succ, List.getElem_toArray, List.getElem_cons_succ, List.getElem_cons_zero])
      refine upTo_one (i := 10) (by kernel_rfl) rfl (fun K hK => ?_)
      go_simp
      refine hK.out _ _ (fun h => absurd rfl h) ?_
      clear hK K
      (try simp only [Act.put, List.setIfInBounds_toArray, List.set_cons_zero, List.set_cons_succ, List.getElem_toArray, List.getElem_cons_succ, List.getElem_cons_zero])
      refine upTo_done (by kernel_rfl) ?_
      clear b2' s0 q1 q2 q3 q4 b3 b4
      go_wp2
      go_roundw
      case rel => exact ⟨k + 1, by omega, by go_num, (hbel.trans (HB2.out.mono hbel.size)).trans (HB3.out.mono (Nat.le_trans hbel.size HB2.out.size))⟩
      case measure => simp [intOf]; omega
    · go_wp2
      refine wp_loop_rounds 1 ?_
      rw [rounds_succ]
      go_wp2
      refine wp_loop_rounds 1 ?_
      rw [rounds_succ]
      go_wp2
      go_ret
      exact ⟨rfl, hbel⟩
end Go.Proofs.YthiabdpgieppoaaGreat
