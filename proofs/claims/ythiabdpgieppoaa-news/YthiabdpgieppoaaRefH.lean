import Derived.Test.YthiabdpgieppoaaRefG
namespace Go.Proofs.Ythiabdpgieppoaa
open Go.RowKit
set_option linter.unusedVariables false
set_option linter.unusedSimpArgs false
attribute [local go_sem ↓] Go.wp_at_zero Go.wp_at_succ

def Ev.agg (e : Ev) : Value := .agg #[.int .i64 e.src, .int .i64 e.seq, .int .i64 e.ts, .int .i64 e.kind, .int .i64 e.val]
/-- may an event's number, kind and value not be? -/
def badB (e : Ev) : Bool := decide (e.seq < 0) || decide (1099511627776 < e.seq) || decide (e.kind < 65) || decide (90 < e.kind) || beyondB e.val
/-- what is wrong with an event of a source that there is -/
def wrongOf (r : RSrc) (e : Ev) : Int := if r.inn = false then 4 else if badB e = true then 5 else if beyondB e.ts = true then 6 else if e.seq ≤ greatest r.seqs (-1) then 7 else 0

end Go.Proofs.Ythiabdpgieppoaa
