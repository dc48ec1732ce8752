import Derived.Test.YtghcololkgeoeabGreatPartA9
import Derived.Deep.RegionLawGrows
namespace Go.Proofs.YtghcololkgeoeabGreat
open Go.RowKit
set_option linter.unusedVariables false
set_option linter.unusedSimpArgs false
attribute [local go_sem ↓] Go.wp_at_zero Go.wp_at_succ

theorem drewN2 (w : World) (n m : Nat) : (w.drewN n).drewN m = w.drewN (n + m) := by simp [World.drewN, Nat.add_assoc]
set_option maxRecDepth 100000 in
set_option maxHeartbeats 2000000 in
theorem sameEvents_eq (l : List Ev) (a a' : Option Addr) (c c' : Nat) (w : World) (h : Row w 30 5 a l.length c (evs l)) (h' : Row w 30 5 a' l.length c' (evs l)) (hl : l.length ≤ 100000) :
    Calls Tryz.prog 17 #[.slice a l.length c, .slice a' l.length c'] w fun e w' => e = .returned (.bool true) ∧ ∃ n, w' = w.drewN n := by
  have HR : Hid (Row w 30 5 a l.length c (evs l)) := h
  have HR' : Hid (Row w 30 5 a' l.length c' (evs l)) := h'
  clear h h'
  go_enter Tryz.func17, Tryz.ntmps17
  go_wp2
  go_loopw [5] (fun i wr => ∃ (k n : Nat), k ≤ l.length ∧ i = .int .i64 k ∧ wr = w.drewN n) (fun i _ => l.length - (intOf i).toNat)
  case atStart => exact ⟨0, 0, Nat.zero_le _, rfl, rfl⟩
  case round =>
    obtain ⟨k, n, hk, rfl, hwr⟩ := hrel
    have HRr : Hid (Row wr 30 5 a l.length c (evs l)) := by show Row _ _ _ _ _ _ _; rw [hwr]; exact HR.out
    have HRr' : Hid (Row wr 30 5 a' l.length c' (evs l)) := by show Row _ _ _ _ _ _ _; rw [hwr]; exact HR'.out
    have HW : Hid (wr = w.drewN n) := hwr
    clear hwr
    by_cases hlt : k < l.length
    · have hlt' : (k : Int) < (l.length : Int) := by omega
      have hk0 : (0 : Int) ≤ (k : Int) := by omega
      obtain ⟨g, hg, _, x0, x1, x2, x3, x4⟩ := evRow_cells HRr.out k hlt
      obtain ⟨g', hg', _, y0, y1, y2, y3, y4⟩ := evRow_cells HRr'.out k hlt
      obtain ⟨E, HE⟩ := hex l[k]
      rw [← HE.out] at x0 x1 x2 x3 x4 y0 y1 y2 y3 y4
      subst hg
      subst hg'
      go_wp2
      go_quiet (fail)
      go_wp2
      go_roundw
      case rel => exact ⟨k + 1, n + _, by omega, by go_num, by rw [HW.out, drewN2]⟩
      case measure => simp [intOf]; omega
    · go_wp2
      go_ret
      exact ⟨rfl, n, HW.out⟩

set_option maxHeartbeats 400000 in
theorem markN_any (i : Int) (w : World) (h0 : 0 ≤ i) (h1 : i ≤ 9000000000000000) : Calls Tryz.prog 74 #[.int .i64 i] w fun e w' => e = .returned (.int .i64 (-7000 - i)) ∧ w = w' := by
  go_enter Tryz.func74, Tryz.ntmps74
  go_wp2
  go_ret
  exact ⟨rfl, rfl⟩
def markEv (i : Int) : Ev := ⟨-7000 - i, -7000 - i, -7000 - i, -7000 - i, -7000 - i⟩
set_option maxHeartbeats 400000 in
theorem marked_any (i : Int) (w : World) (h0 : 0 ≤ i) (h1 : i ≤ 9000000000000000) : Calls Tryz.prog 47 #[.int .i64 i] w fun e w' => e = .returned (markEv i).agg ∧ Below w.heap.size w w' ∧ w'.heap.size = w.heap.size + 1 := by
  go_enter Tryz.func47, Tryz.ntmps47
  go_wp2_with (go_at_call 74; refine (markN_any _ _ h0 h1).mono ?_; rintro e w' ⟨rfl, rfl⟩)
  refine bodyPost_ret (v := (markEv i).agg) (by simp [results, Tryz.results47, go_sem, markEv, Ev.agg]) rfl ⟨rfl, (Below.refl _ _).alloc (Nat.le_refl _) _, by simp⟩
theorem kept_toBelow {S : Nat → Prop} {w a b : World} (hb : Below w.heap.size w a) (k : Kept S a b) (hS : ∀ i, S i → w.heap.size ≤ i) : Below w.heap.size w b :=
  ⟨k.os.trans hb.os, k.tape.trans hb.tape, k.output.trans hb.output, Nat.le_trans hb.size k.size, fun i hi => (k.block i (Nat.lt_of_lt_of_le hi hb.size) (fun e => by have := hS i e; omega)).trans (hb.block i hi)⟩
end Go.Proofs.YtghcololkgeoeabGreat
namespace Go.Proofs.YtghcololkgeoeabGreat
open Go.RowKit
set_option linter.unusedVariables false
set_option linter.unusedSimpArgs false
attribute [local go_sem ↓] Go.wp_at_zero Go.wp_at_succ

end Go.Proofs.YtghcololkgeoeabGreat
namespace Go.Proofs.YtghcololkgeoeabGreat
open Go.RowKit
set_option linter.unusedVariables false
set_option linter.unusedSimpArgs false
attribute [local go_sem ↓] Go.wp_at_zero Go.wp_at_succ

end Go.Proofs.YtghcololkgeoeabGreat
namespace Go.Proofs.YtghcololkgeoeabGreat
open Go.RowKit
set_option linter.unusedVariables false
set_option linter.unusedSimpArgs false

section
variable {P : Program} {ops : Array Oper} {Q : Exit → Act → World → Prop} {md : Region.Mode} {S : World → Prop} {t : Nat}
theorem upTo_two {i j : Nat} {oi oj : Oper} {fuel : Nat} {listed : Array Bool} {a : Act} {w : World} (hr : Region.ready md ops listed = [i, j]) (hoi : ops[i]? = some oi) (hoj : ops[j]? = some oj)
    (hi : ∀ K : Act → World → Prop, Shut (∀ b v, (i ≠ t → S v) → UpTo P md ops Q S t fuel (listed.setIfInBounds i true) b v → K b v) → if Region.wanted oi (yielded ops a.tmps) = true then Oper.wp P oi a w K Q else K (a.put oi.dst undef) w)
    (hj : ∀ K : Act → World → Prop, Shut (∀ b v, (j ≠ t → S v) → UpTo P md ops Q S t fuel (listed.setIfInBounds j true) b v → K b v) → if Region.wanted oj (yielded ops a.tmps) = true then Oper.wp P oj a w K Q else K (a.put oj.dst undef) w) : UpTo P md ops Q S t (fuel + 1) listed a w := by
  refine ⟨fun e => absurd (hr ▸ e) (by simp), ?_⟩
  rw [hr]
  intro k hk
  simp only [List.mem_cons, List.not_mem_nil, or_false] at hk
  rcases hk with rfl | rfl
  · exact wpOp_step hoi (fun K hK => hi K (fun b v h1 h2 => hK b v ⟨h1, h2⟩))
  · exact wpOp_step hoj (fun K hK => hj K (fun b v h1 h2 => hK b v ⟨h1, h2⟩))
end

theorem evs_set (M : List Ev) (k : Nat) (hk : k < M.length) (E : Ev) : (((((evs M).set (k * 5 + 0) (.int .i64 E.src)).set (k * 5 + 1) (.int .i64 E.seq)).set (k * 5 + 2) (.int .i64 E.ts)).set (k * 5 + 3) (.int .i64 E.kind)).set (k * 5 + 4) (.int .i64 E.val) = evs (M.set k E) := by
  unfold evs
  rw [flatMap_set Ev.vals 5 Ev.len M k 0 (by omega) hk _ { M[k] with src := E.src } rfl,
    flatMap_set Ev.vals 5 Ev.len _ k 1 (by omega) (by simpa using hk) _ { M[k] with src := E.src, seq := E.seq } (by simp [Ev.vals]), List.set_set,
    flatMap_set Ev.vals 5 Ev.len _ k 2 (by omega) (by simpa using hk) _ { M[k] with src := E.src, seq := E.seq, ts := E.ts } (by simp [Ev.vals]), List.set_set,
    flatMap_set Ev.vals 5 Ev.len _ k 3 (by omega) (by simpa using hk) _ { M[k] with src := E.src, seq := E.seq, ts := E.ts, kind := E.kind } (by simp [Ev.vals]), List.set_set,
    flatMap_set Ev.vals 5 Ev.len _ k 4 (by omega) (by simpa using hk) _ E (by simp [Ev.vals]), List.set_set]
def setEv (w : World) (g k : Nat) (E : Ev) : World := ((((w.setCell ⟨g, k * 5, none⟩ (.int .i64 E.src)).setCell ⟨g, k * 5 + 1, none⟩ (.int .i64 E.seq)).setCell ⟨g, k * 5 + 2, none⟩ (.int .i64 E.ts)).setCell ⟨g, k * 5 + 3, none⟩ (.int .i64 E.kind)).setCell ⟨g, k * 5 + 4, none⟩ (.int .i64 E.val)
theorem Row.setEv {w : World} {t : TypeId} {g n c k : Nat} {M : List Ev} {E : Ev} (h : Row w t 5 (some ⟨g, 0, none⟩) n c (evs M)) (hk : k < M.length) : Row (setEv w g k E) t 5 (some ⟨g, 0, none⟩) n c (evs (M.set k E)) := by
  rw [← evs_set M k hk E]
  exact ((((h.set (k * 5) _).set (k * 5 + 1) _).set (k * 5 + 2) _).set (k * 5 + 3) _).set (k * 5 + 4) _
theorem kept_setEv {S : Nat → Prop} {a w : World} {g k : Nat} {E : Ev} (h : Kept S a w) (hS : g < a.heap.size → S g) : Kept S a (setEv w g k E) :=
  ((((h.setCell hS _).setCell hS _).setCell hS _).setCell hS _).setCell hS _
end Go.Proofs.YtghcololkgeoeabGreat
