import Derived.Test.YtghcololkgeoeabDoorPartD0
import Derived.Test.YtghcololkgeoeabDoorPartC2
namespace Go.Proofs.YtghcololkgeoeabDoor
open Go.RowKit
set_option linter.unusedVariables false
set_option linter.unusedSimpArgs false

/-- the bounds of the program's engine follow -/
theorem saneX_of {X : Eng} {R : Ref} {N : Nat} (s : Sim X R) (g : Good N R) : SaneX X := by
  have hl := s.perm.length_eq
  have ga := g.all
  simp only [List.length_append] at hl
  refine ⟨by have := s.n; have := g.srcs; have := g.fits; omega, by omega, by omega, by have := g.aside; rw [s.late]; omega, fun e he => ?_⟩
  have := g.ts e (s.perm.mem_iff.1 (by simp [he]))
  omega
end Go.Proofs.YtghcololkgeoeabDoor
namespace Go.Proofs.YtghcololkgeoeabDoor
open Go.RowKit
set_option linter.unusedVariables false
set_option linter.unusedSimpArgs false
attribute [local go_sem ↓] Go.wp_at_zero Go.wp_at_succ

/-- a step of a script -/
def opVal (k A : Int) (E : Ev) (S : ByteArray) : Value := .agg #[.int .i64 k, .int .i64 A, .int .i64 E.src, .int .i64 E.seq, .int .i64 E.ts, .int .i64 E.kind, .int .i64 E.val, .string S]
def opCells (k A : Int) (E : Ev) (S : ByteArray) : List Value := [.int .i64 k, .int .i64 A, .int .i64 E.src, .int .i64 E.seq, .int .i64 E.ts, .int .i64 E.kind, .int .i64 E.val, .string S]
/-- what is told of a source -/
structure Told where
  inn : Bool
  idle : Bool
  mark : Int
  n : Int
  last : Int
  err : Int
def Told.cells (T : Told) : List Value := [.bool T.inn, .bool T.idle, .int .i64 T.mark, .int .i64 T.n, .int .i64 T.last]
def Eng.tell (X : Eng) (s : Int) : Told := if s < 0 then ⟨false, false, 0, 0, 0, 3⟩ else match X.srcs[s.toNat]? with | some p => ⟨p.inn, p.idle, p.mark, X.waitOf s, p.last, 0⟩ | none => ⟨false, false, 0, 0, 0, 3⟩
def Ref.tell (R : Ref) (s : Int) : Told := if s < 0 then ⟨false, false, 0, 0, 0, 3⟩ else match R.srcs[s.toNat]? with | some r => ⟨r.inn, R.isIdle s.toNat, R.mark s.toNat, (R.wait s).length, greatest r.seqs (-1), 0⟩ | none => ⟨false, false, 0, 0, 0, 3⟩
theorem tell_same {X : Eng} {R : Ref} (h : Sim X R) (s : Int) : X.tell s = R.tell s := by
  unfold Eng.tell Ref.tell
  by_cases hs : s < 0
  · rw [if_pos hs, if_pos hs]
  · rw [if_neg hs, if_neg hs]
    by_cases hl : s.toNat < R.srcs.length
    · obtain ⟨p, r, hp, hr⟩ := sim_get h hl
      rw [hp, hr]
      simp only
      have q := h.src _ p r hp hr
      obtain ⟨_, hm⟩ := sim_active h hp hr
      have hid : R.isIdle s.toNat = p.idle := by unfold Ref.isIdle; rw [hr]; exact q.idle.symm
      have hw := sim_waitOf h s (by omega)
      unfold Eng.waitOf
      rw [hw, q.inn, hid, hm, q.last]
    · have hn := h.n
      rw [List.getElem?_eq_none (by omega), List.getElem?_eq_none (by omega)]
theorem xsource_any (b : Nat) (X : Eng) (s : Int) (hs : SaneX X) (w : World) (h : MemX w b X) :
    Calls Tryd.prog 26 #[.pointer (some ⟨b, 0, none⟩), .int .i64 s] w fun e w' => e = .returned (.tuple #[srcAgg (X.tell s).inn (X.tell s).idle (X.tell s).mark (X.tell s).n (X.tell s).last, .int .i64 (X.tell s).err]) ∧ Below w.heap.size w w' := by
  unfold Eng.tell
  by_cases h0 : s < 0
  · rw [if_pos h0]; exact xsource_none b X s w h (Or.inl h0)
  · rw [if_neg h0]
    by_cases hl : s.toNat < X.srcs.length
    · rw [List.getElem?_eq_getElem hl]
      have := xsource_some b X s.toNat w h hs hl
      rw [show ((s.toNat : Nat) : Int) = s by omega] at this
      exact this
    · rw [List.getElem?_eq_none (by omega)]
      exact xsource_none b X s w h (Or.inr (by omega))
end Go.Proofs.YtghcololkgeoeabDoor
