import Derived.Test.YtghcololkgeoeabDoorPartM0
namespace Go.Proofs.YtghcololkgeoeabDoor
open Go.RowKit
set_option linter.unusedVariables false
set_option linter.unusedSimpArgs false
attribute [local go_sem ↓] Go.wp_at_zero Go.wp_at_succ

theorem Two.more {w wr : World} {b b' : Nat} {bs : List (Nat × TypeId × List Value)} {X Y : Eng} (h : Two w wr b b' bs X Y) (t : TypeId) (l : List Value) : Two w (wr.alloc (.cells l.toArray t)) b b' ((wr.heap.size, t, l) :: bs) X Y := by
  have h' := h.below ((Below.refl _ wr).alloc (Nat.le_refl _) (.cells l.toArray t))
  refine ⟨h'.mx, h'.my, h'.dis, h'.bel, h'.fx, h'.fy, ?_, ?_, ?_⟩
  · intro x hx
    rcases List.mem_cons.1 hx with rfl | hx
    · exact blk_alloc _ _ _
    · exact h'.bx x hx
  · intro x hx
    rcases List.mem_cons.1 hx with rfl | hx
    · intro e; have := h.mx.fp_lt _ e; exact Nat.lt_irrefl _ this
    · exact h'.nx x hx
  · intro x hx
    rcases List.mem_cons.1 hx with rfl | hx
    · intro e; have := h.my.fp_lt _ e; exact Nat.lt_irrefl _ this
    · exact h'.ny x hx
theorem Two.less {w wr : World} {b b' : Nat} {bs bs' : List (Nat × TypeId × List Value)} {X Y : Eng} (h : Two w wr b b' bs X Y) (hs : ∀ x ∈ bs', x ∈ bs) : Two w wr b b' bs' X Y :=
  ⟨h.mx, h.my, h.dis, h.bel, h.fx, h.fy, fun x hx => h.bx x (hs x hx), fun x hx => h.nx x (hs x hx), fun x hx => h.ny x (hs x hx)⟩
theorem Twin.len {P : Nat → Prop} {X Y : Eng} (h : Twin P X Y) : X.srcs.length = Y.srcs.length := by obtain ⟨⟨N, R, h1, h2⟩, _⟩ := h; rw [h1.sim.n, h2.sim.n]
theorem Twin.weak {P Q : Nat → Prop} {X Y : Eng} (h : Twin P X Y) (hq : ∀ j, Q j → P j) : Twin Q X Y := ⟨h.lk, fun j p q hj => h.ln j p q (hq j hj)⟩
theorem ends_zero {l : List UInt8} (h : ends l = 0) : ∀ c ∈ l, c ≠ 10 := by
  intro c hc e
  unfold ends at h
  have := List.length_eq_zero_iff.1 h
  rw [List.filter_eq_nil_iff] at this
  exact this c hc (by simp [e])
def longB : ByteArray := ⟨(List.replicate 2001 (0 : UInt8)).toArray⟩
theorem longB_size : longB.size = 2001 := by show (List.replicate 2001 (0 : UInt8)).toArray.size = 2001; rw [List.size_toArray, List.length_replicate]
/-- a text of 2001 bytes is made -/
theorem long_made (w : World) : ∃ w', (Instr.makeSlice 90 (.int .i64 2001) (.int .i64 2001)).run Tryd.prog w = .ok (.slice (some ⟨w.heap.size, 0, none⟩) 2001 2001) w' ∧ (convert 90 9 (.slice (some ⟨w.heap.size, 0, none⟩) 2001 2001)).run Tryd.prog w' = .ok (.string longB) w' ∧ Below w.heap.size w w' := by
  obtain ⟨i0, hi0, hz0, hz1, hz2⟩ := info_parts Tryd.infoU8
  obtain ⟨w', h1, h2, h3⟩ := run_makeSlice_full (P := Tryd.prog) w 0 90 5 i0 (.int .u8 0) 1 Tryd.underlying90 hi0 hz0 hz1 .i64 .i64 2001 (by omega) (by rw [hz2]; omega) (by unfold maxLen; omega) (Nat.zero_le _)
  refine ⟨w', h1, ?_, (Below.refl _ w).grown h3 (Nat.le_refl _) (fun k e => by simp at e)⟩
  have e : (madeCells (Value.int .u8 0).cells (2001 * 1)).toList = bytesV (List.replicate 2001 0) := by
    rw [show (Value.int IntKind.u8 0).cells = #[Value.int .u8 0] from rfl, toList_madeCells_one, Nat.mul_one]
    unfold bytesV
    rw [List.map_replicate]
    rfl
  rw [e] at h2
  have hl : (List.replicate 2001 (0 : UInt8)).length = 2001 := List.length_replicate
  have := conv_line (a := some ⟨w.heap.size, 0, none⟩) (c := 2001) (l := List.replicate 2001 0) (by rw [hl]; exact h2)
  rw [hl] at this
  exact this
end Go.Proofs.YtghcololkgeoeabDoor
