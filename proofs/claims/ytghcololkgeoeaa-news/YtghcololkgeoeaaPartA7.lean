import Derived.Test.YtghcololkgeoeaaPartA6
namespace Go.Proofs.Ytghcololkgeoeaa
open Go.RowKit
set_option linter.unusedVariables false
set_option linter.unusedSimpArgs false
attribute [local go_sem ↓] Go.wp_at_zero Go.wp_at_succ

def Ev.agg (e : Ev) : Value := .agg #[.int .i64 e.src, .int .i64 e.seq, .int .i64 e.ts, .int .i64 e.kind, .int .i64 e.val]
/-- may an event's number, kind and value not be? -/
def badB (e : Ev) : Bool := decide (e.seq < 0) || decide (1099511627776 < e.seq) || decide (e.kind < 65) || decide (90 < e.kind) || beyondB e.val
/-- what is wrong with an event of a source that there is -/
def wrongOf (r : RSrc) (e : Ev) : Int := if r.inn = false then 4 else if badB e = true then 5 else if beyondB e.ts = true then 6 else if e.seq ≤ greatest r.seqs (-1) then 7 else 0

end Go.Proofs.Ytghcololkgeoeaa
namespace Go.Proofs.Ytghcololkgeoeaa
open Go.RowKit
set_option linter.unusedVariables false
set_option linter.unusedSimpArgs false
attribute [local go_sem ↓] Go.wp_at_zero Go.wp_at_succ

def srcAgg (inn idle : Bool) (m n l : Int) : Value := .agg #[.bool inn, .bool idle, .int .i64 m, .int .i64 n, .int .i64 l]
def z5 : List Value := [.bool false, .bool false, .int .i64 0, .int .i64 0, .int .i64 0]
theorem below_set5 {w : World} {b : Nat} {v0 v1 v2 v3 v4 : Value} : Below b w (((((w.setCell ⟨b, 0, none⟩ v0).setCell ⟨b, 1, none⟩ v1).setCell ⟨b, 2, none⟩ v2).setCell ⟨b, 3, none⟩ v3).setCell ⟨b, 4, none⟩ v4) := below_set3.trans below_set2

set_option maxHeartbeats 1000000 in
theorem rof_none (b : Nat) (R : Ref) (s : Int) (w : World) (hM : MemR w b R) (hs : s < 0 ∨ (R.srcs.length : Int) ≤ s) :
    Calls Try.prog 18 #[.pointer (some ⟨b, 0, none⟩), .int .i64 s] w fun e w' => e = .returned (.tuple #[srcAgg false false 0 0 0, .int .i64 3]) ∧ Below w.heap.size w w' := by
  have HD : Hid (decide (s < 0 ∨ (R.srcs.length : Int) ≤ s) = true) := by show _ = _; simpa using hs
  clear hs
  go_enter Try.func18, Try.ntmps18
  go_wp2_with (go_at_call 32; refine (rnone_any b R s _ (hM.alloc _)).mono ?_; rintro e w' ⟨rfl, rfl⟩; rw [HD.out])
  refine bodyPost_ret (v := .tuple #[srcAgg false false 0 0 0, .int .i64 3]) (by simp [results, Try.results18, go_sem, srcAgg]) rfl ⟨rfl, ?_⟩
  exact (Below.refl _ _).alloc (Nat.le_refl _) _

set_option maxRecDepth 100000 in
set_option maxHeartbeats 2000000 in
theorem rof_some (b : Nat) (R : Ref) (i : Nat) (w : World) (hM : MemR w b R) (hall : R.all.length ≤ 1000) (hi : i < R.srcs.length) :
    Calls Try.prog 18 #[.pointer (some ⟨b, 0, none⟩), .int .i64 i] w fun e w' => e = .returned (.tuple #[srcAgg R.srcs[i].inn (R.isIdle i) (R.mark i) (R.wait i).length (greatest R.srcs[i].seqs (-1)), .int .i64 0]) ∧ Below w.heap.size w w' := by
  have HD : Hid (decide ((i : Int) < 0 ∨ (R.srcs.length : Int) ≤ i) = false) := by show _ = _; simp; omega
  have HA : Hid (MemR (w.alloc (.cells z5.toArray 63)) b R) := hM.alloc _
  have HZ : Hid (Blk (w.alloc (.cells z5.toArray 63)) w.heap.size 63 z5) := blk_alloc _ _ _
  have hi' : (i : Int) < (R.srcs.length : Int) := by omega
  have hi00 : (0 : Int) ≤ (i : Int) := by omega
  go_enter Try.func18, Try.ntmps18
  go_upto_region 7 with (first
    | (go_at_call 32; refine (rnone_any b R _ _ HA.out).mono ?_; rintro e w' ⟨rfl, rfl⟩; rw [HD.out])
    | (go_at_call 33; refine (rwaiting_any b R i _ HA.out hall).mono ?_; rintro e w2 ⟨a, c, rfl, hown, hb2⟩; have HB2 : Hid (Below (w.alloc (.cells z5.toArray 63)).heap.size (w.alloc (.cells z5.toArray 63)) w2) := hb2; clear hb2 hown; have HM2 : Hid (MemR w2 b R) := HA.out.below HB2.out)
    | (go_at_call 34; refine (ridle_any b R i _ HM2.out hi).mono ?_; rintro e w3 ⟨rfl, nq, hq⟩; have HQ : Hid (w3 = w2.drewN nq) := hq; clear hq; have HM3 : Hid (MemR w3 b R) := by show MemR _ _ _; rw [HQ.out]; exact HM2.out.drewN nq)
    | (go_at_call 35; refine (rmark_any b R i _ HM3.out hi).mono ?_; rintro e w4 ⟨rfl, rfl⟩))
  have HB3 : Hid (Below w.heap.size w w3) := by
    show Below _ _ _
    rw [HQ.out]
    exact bdrewN (((Below.refl _ _).alloc (Nat.le_refl _) _).trans (HB2.out.mono (by simp))) nq
  have HZ3 : Hid (Blk w3 w.heap.size 63 z5) := by
    show Blk _ _ _ _
    rw [HQ.out]
    exact HZ.out.below (bdrewN HB2.out nq) (by simp)
  have c9 := HM3.out.cells.2.1
  have s0 := HM3.out.srcCell i 0 hi (by omega)
  have s3 := HM3.out.srcCell i 3 hi (by omega)
  have HQ3 : Hid (Row w3 3 1 R.srcs[i].qa R.srcs[i].seqs.length R.srcs[i].qc (ints R.srcs[i].seqs)) := HM3.out.sqs i _ (List.getElem?_eq_getElem hi)
  simp only [RSrc.vals, List.getElem?_cons_zero, List.getElem?_cons_succ, Nat.add_zero] at s0 s3
  have r0 := HZ3.out.cell 0
  have r1 := HZ3.out.cell 1
  have r2 := HZ3.out.cell 2
  have r3 := HZ3.out.cell 3
  have r4 := HZ3.out.cell 4
  have g0 := HZ3.out.frozen 0
  have g1 := HZ3.out.frozen 1
  have g2 := HZ3.out.frozen 2
  have g3 := HZ3.out.frozen 3
  have g4 := HZ3.out.frozen 4
  simp only [z5, List.getElem?_cons_zero, List.getElem?_cons_succ] at r0 r1 r2 r3 r4
  have hwl : (R.wait i).length ≤ 1000 := by
    have := List.length_filter_le (waits R.merged i) R.all
    unfold Ref.wait; omega
  go_wp2_with (go_at_call 36; refine (greatest_any _ _ _ _ _ HQ3.out).mono ?_; rintro e w5 ⟨rfl, rfl⟩)
  refine bodyPost_ret (v := .tuple #[srcAgg R.srcs[i].inn (R.isIdle i) (R.mark i) (R.wait i).length (greatest R.srcs[i].seqs (-1)), .int .i64 0]) (by simp [results, Try.results18, go_sem, srcAgg, r0, r1, r2, r3, r4]) rfl ⟨rfl, ?_⟩
  exact HB3.out.trans (below_set5)

theorem Evo.drewE {w w' : World} {b : Nat} {R R' : Ref} (h : Evo w b R w' R') : Evo w b R w'.drew R' := ⟨h.mem.drew, h.kept.drew, h.grow⟩
/-- the first k sources behind a tick -/
def ticked (n : Int) (r : RSrc) : RSrc := if r.inn then { r with sil := r.sil + n } else r
def tickTo (n : Int) (l : List RSrc) (k : Nat) : List RSrc := (l.take k).map (ticked n) ++ l.drop k
theorem tickTo_len (n : Int) (l : List RSrc) (k : Nat) : (tickTo n l k).length = l.length := by simp [tickTo]; omega
theorem tickTo_get (n : Int) (l : List RSrc) (k : Nat) (hk : k < l.length) : (tickTo n l k)[k]'(by rw [tickTo_len]; exact hk) = l[k] := by
  simp only [tickTo]
  rw [List.getElem_append_right (by simp; omega)]
  simp [Nat.min_eq_left (Nat.le_of_lt hk)]
theorem tickTo_set (n : Int) (l : List RSrc) (k : Nat) (hk : k < l.length) : tickTo n l (k + 1) = (tickTo n l k).set k (ticked n l[k]) := by
  simp only [tickTo]
  rw [List.set_append_right _ _ (by simp; omega)]
  simp only [List.length_map, List.length_take, Nat.min_eq_left (Nat.le_of_lt hk), Nat.sub_self]
  rw [take_succ' l k hk, List.map_append, List.append_assoc, List.drop_eq_getElem_cons hk]
  rfl
def Ref.ticks (R : Ref) (n : Int) : Ref := ({ R with srcs := tickTo n R.srcs R.srcs.length } : Ref).settled

end Go.Proofs.Ytghcololkgeoeaa
namespace Go.Proofs.Ytghcololkgeoeaa
open Go.RowKit
set_option linter.unusedVariables false
set_option linter.unusedSimpArgs false

/-- Push, step by step: what the document's engine makes of an event of a source that may send it -/
def Ref.bound (R : Ref) (i : Nat) : Int := if (R.isIdle i && decide (R.mark i < R.merged)) then R.merged else R.mark i
def Ref.late (R : Ref) (i : Nat) (e : Ev) : Bool := decide (e.ts < R.bound i)
def Ref.lifts (R : Ref) (i : Nat) (e : Ev) : Bool := R.late i e && decide (R.c.policy = 2) && decide (e.ts < R.merged)
def Ref.stays (R : Ref) (i : Nat) (e : Ev) : Bool := !R.late i e || decide (R.c.policy = 2)
def Ref.taken (R : Ref) (i : Nat) (e : Ev) : Ev := { e with src := i, ts := if R.lifts i e then R.merged else e.ts }
def Ref.full (R : Ref) (i : Nat) (e : Ev) : Bool := (R.stays i e && (decide (R.c.room ≤ (R.wait i).length) || decide (200 ≤ R.all.length))) || (!R.stays i e && decide (R.c.policy = 1) && decide (200 ≤ R.aside.length))
/-- where the event goes -/
def Placed (P : Ref) (st : Bool) (E : Ev) (Q : Ref) : Prop := (st = true ∧ ∃ aa ac, Q = { P with all := P.all ++ [E], aa := aa, ac := ac }) ∨ (st = false ∧ P.c.policy = 1 ∧ ∃ da dc, Q = { P with aside := P.aside ++ [E], da := da, dc := dc }) ∨ (st = false ∧ P.c.policy ≠ 1 ∧ Q = P)
/-- the source behind Push -/
def pushSrc (R : Ref) (i : Nat) (E : Ev) (r : RSrc) (ma : Option Addr) (mc : Nat) (qa : Option Addr) (qc : Nat) : RSrc := { r with sil := 0, marks := if R.late i E then R.touched i r else R.touched i r ++ [(R.taken i E).ts - R.c.slack], ma := ma, mc := mc, seqs := r.seqs ++ [E.seq], qa := qa, qc := qc }
def PushOk (R : Ref) (i : Nat) (E : Ev) (R' : Ref) : Prop := ∃ hi : i < R.srcs.length, ∃ ma mc qa qc R5, Placed { R with srcs := R.srcs.set i (pushSrc R i E R.srcs[i] ma mc qa qc) } (R.stays i E) (R.taken i E) R5 ∧ R' = R5.settled
end Go.Proofs.Ytghcololkgeoeaa
