import Derived.Test.YtghcololkgeoeabDoorPartA6
namespace Go.Proofs.YtghcololkgeoeabDoor
open Go.RowKit
set_option linter.unusedVariables false
set_option linter.unusedSimpArgs false
attribute [local go_sem ↓] Go.wp_at_zero Go.wp_at_succ

def Ev.agg (e : Ev) : Value := .agg #[.int .i64 e.src, .int .i64 e.seq, .int .i64 e.ts, .int .i64 e.kind, .int .i64 e.val]
/-- may an event's number, kind and value not be? -/
def badB (e : Ev) : Bool := decide (e.seq < 0) || decide (1099511627776 < e.seq) || decide (e.kind < 65) || decide (90 < e.kind) || beyondB e.val
/-- what is wrong with an event of a source that there is -/
def wrongOf (r : RSrc) (e : Ev) : Int := if r.inn = false then 4 else if badB e = true then 5 else if beyondB e.ts = true then 6 else if e.seq ≤ greatest r.seqs (-1) then 7 else 0

end Go.Proofs.YtghcololkgeoeabDoor
namespace Go.Proofs.YtghcololkgeoeabDoor
open Go.RowKit
set_option linter.unusedVariables false
set_option linter.unusedSimpArgs false
attribute [local go_sem ↓] Go.wp_at_zero Go.wp_at_succ

def srcAgg (inn idle : Bool) (m n l : Int) : Value := .agg #[.bool inn, .bool idle, .int .i64 m, .int .i64 n, .int .i64 l]
def z5 : List Value := [.bool false, .bool false, .int .i64 0, .int .i64 0, .int .i64 0]
theorem below_set5 {w : World} {b : Nat} {v0 v1 v2 v3 v4 : Value} : Below b w (((((w.setCell ⟨b, 0, none⟩ v0).setCell ⟨b, 1, none⟩ v1).setCell ⟨b, 2, none⟩ v2).setCell ⟨b, 3, none⟩ v3).setCell ⟨b, 4, none⟩ v4) := below_set3.trans below_set2

/-- the first k sources behind a tick -/
def ticked (n : Int) (r : RSrc) : RSrc := if r.inn then { r with sil := r.sil + n } else r
def tickTo (n : Int) (l : List RSrc) (k : Nat) : List RSrc := (l.take k).map (ticked n) ++ l.drop k
theorem tickTo_len (n : Int) (l : List RSrc) (k : Nat) : (tickTo n l k).length = l.length := by simp [tickTo]; omega
theorem tickTo_get (n : Int) (l : List RSrc) (k : Nat) (hk : k < l.length) : (tickTo n l k)[k]'(by rw [tickTo_len]; exact hk) = l[k] := by
  simp only [tickTo]
  rw [List.getElem_append_right (by simp; omega)]
  simp [Nat.min_eq_left (Nat.le_of_lt hk)]
theorem tickTo_set (n : Int) (l : List RSrc) (k : Nat) (hk : k < l.length) : tickTo n l (k + 1) = (tickTo n l k).set k (ticked n l[k]) := by
  simp only [tickTo]
  rw [List.set_append_right _ _ (by simp; omega)]
  simp only [List.length_map, List.length_take, Nat.min_eq_left (Nat.le_of_lt hk), Nat.sub_self]
  rw [take_succ' l k hk, List.map_append, List.append_assoc, List.drop_eq_getElem_cons hk]
  rfl
def Ref.ticks (R : Ref) (n : Int) : Ref := ({ R with srcs := tickTo n R.srcs R.srcs.length } : Ref).settled

end Go.Proofs.YtghcololkgeoeabDoor
namespace Go.Proofs.YtghcololkgeoeabDoor
open Go.RowKit
set_option linter.unusedVariables false
set_option linter.unusedSimpArgs false

/-- Push, step by step: what the document's engine makes of an event of a source that may send it -/
def Ref.bound (R : Ref) (i : Nat) : Int := if (R.isIdle i && decide (R.mark i < R.merged)) then R.merged else R.mark i
def Ref.late (R : Ref) (i : Nat) (e : Ev) : Bool := decide (e.ts < R.bound i)
def Ref.lifts (R : Ref) (i : Nat) (e : Ev) : Bool := R.late i e && decide (R.c.policy = 2) && decide (e.ts < R.merged)
def Ref.stays (R : Ref) (i : Nat) (e : Ev) : Bool := !R.late i e || decide (R.c.policy = 2)
def Ref.taken (R : Ref) (i : Nat) (e : Ev) : Ev := { e with src := i, ts := if R.lifts i e then R.merged else e.ts }
def Ref.full (R : Ref) (i : Nat) (e : Ev) : Bool := (R.stays i e && (decide (R.c.room ≤ (R.wait i).length) || decide (200 ≤ R.all.length))) || (!R.stays i e && decide (R.c.policy = 1) && decide (200 ≤ R.aside.length))
/-- where the event goes -/
def Placed (P : Ref) (st : Bool) (E : Ev) (Q : Ref) : Prop := (st = true ∧ ∃ aa ac, Q = { P with all := P.all ++ [E], aa := aa, ac := ac }) ∨ (st = false ∧ P.c.policy = 1 ∧ ∃ da dc, Q = { P with aside := P.aside ++ [E], da := da, dc := dc }) ∨ (st = false ∧ P.c.policy ≠ 1 ∧ Q = P)
/-- the source behind Push -/
def pushSrc (R : Ref) (i : Nat) (E : Ev) (r : RSrc) (ma : Option Addr) (mc : Nat) (qa : Option Addr) (qc : Nat) : RSrc := { r with sil := 0, marks := if R.late i E then R.touched i r else R.touched i r ++ [(R.taken i E).ts - R.c.slack], ma := ma, mc := mc, seqs := r.seqs ++ [E.seq], qa := qa, qc := qc }
def PushOk (R : Ref) (i : Nat) (E : Ev) (R' : Ref) : Prop := ∃ hi : i < R.srcs.length, ∃ ma mc qa qc R5, Placed { R with srcs := R.srcs.set i (pushSrc R i E R.srcs[i] ma mc qa qc) } (R.stays i E) (R.taken i E) R5 ∧ R' = R5.settled
end Go.Proofs.YtghcololkgeoeabDoor
