import Derived.Test.YthiabdpgieppoaaGreatRefI
namespace Go.Proofs.YthiabdpgieppoaaGreat
open Go.RowKit
set_option linter.unusedVariables false
set_option linter.unusedSimpArgs false

/-- Push, step by step: what the document's engine makes of an event of a source that may send it -/
def Ref.bound (R : Ref) (i : Nat) : Int := if (R.isIdle i && decide (R.mark i < R.merged)) then R.merged else R.mark i
def Ref.late (R : Ref) (i : Nat) (e : Ev) : Bool := decide (e.ts < R.bound i)
def Ref.lifts (R : Ref) (i : Nat) (e : Ev) : Bool := R.late i e && decide (R.c.policy = 2) && decide (e.ts < R.merged)
def Ref.stays (R : Ref) (i : Nat) (e : Ev) : Bool := !R.late i e || decide (R.c.policy = 2)
def Ref.taken (R : Ref) (i : Nat) (e : Ev) : Ev := { e with src := i, ts := if R.lifts i e then R.merged else e.ts }
def Ref.full (R : Ref) (i : Nat) (e : Ev) : Bool := (R.stays i e && (decide (R.c.room ≤ (R.wait i).length) || decide (200 ≤ R.all.length))) || (!R.stays i e && decide (R.c.policy = 1) && decide (200 ≤ R.aside.length))
/-- where the event goes -/
def Placed (P : Ref) (st : Bool) (E : Ev) (Q : Ref) : Prop := (st = true ∧ ∃ aa ac, Q = { P with all := P.all ++ [E], aa := aa, ac := ac }) ∨ (st = false ∧ P.c.policy = 1 ∧ ∃ da dc, Q = { P with aside := P.aside ++ [E], da := da, dc := dc }) ∨ (st = false ∧ P.c.policy ≠ 1 ∧ Q = P)
/-- the source behind Push -/
def pushSrc (R : Ref) (i : Nat) (E : Ev) (r : RSrc) (ma : Option Addr) (mc : Nat) (qa : Option Addr) (qc : Nat) : RSrc := { r with sil := 0, marks := if R.late i E then R.touched i r else R.touched i r ++ [(R.taken i E).ts - R.c.slack], ma := ma, mc := mc, seqs := r.seqs ++ [E.seq], qa := qa, qc := qc }
def PushOk (R : Ref) (i : Nat) (E : Ev) (R' : Ref) : Prop := ∃ hi : i < R.srcs.length, ∃ ma mc qa qc R5, Placed { R with srcs := R.srcs.set i (pushSrc R i E R.srcs[i] ma mc qa qc) } (R.stays i E) (R.taken i E) R5 ∧ R' = R5.settled
end Go.Proofs.YthiabdpgieppoaaGreat
