import Derived.Test.YthiabdpgieppoaaRefF
namespace Go.Proofs.Ythiabdpgieppoaa
open Go.RowKit
set_option linter.unusedVariables false
set_option linter.unusedSimpArgs false
attribute [local go_sem ↓] Go.wp_at_zero Go.wp_at_succ

def LeaveOk (R : Ref) (i : Nat) (R' : Ref) : Prop := ∃ hi : i < R.srcs.length, R' = ({ R with srcs := R.srcs.set i { R.srcs[i] with inn := false } } : Ref).settled
/-- a source behind a touch -/
def Ref.touched (R : Ref) (i : Nat) (r : RSrc) : List Int := if R.isIdle i then r.marks ++ [R.merged] else r.marks
def PunctOk (R : Ref) (i : Nat) (ts : Int) (R' : Ref) : Prop := ∃ hi : i < R.srcs.length, ∃ r' : RSrc, r' = { R.srcs[i] with sil := 0, marks := R.touched i R.srcs[i] ++ [ts], ma := r'.ma, mc := r'.mc } ∧ R' = ({ R with srcs := R.srcs.set i r' } : Ref).settled

end Go.Proofs.Ythiabdpgieppoaa
