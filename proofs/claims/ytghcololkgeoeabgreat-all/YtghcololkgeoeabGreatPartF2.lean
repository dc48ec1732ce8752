import Derived.Test.YtghcololkgeoeabGreatPartF1
import Derived.Test.YtghcololkgeoeabGreatPartF0
namespace Go.Proofs.YtghcololkgeoeabGreat
open Go.RowKit
set_option linter.unusedVariables false
set_option linter.unusedSimpArgs false
attribute [local go_sem ↓] Go.wp_at_zero Go.wp_at_succ
def yP3 (l : List UInt8) (r : Rdr) : Int × Rdr := Rdr.number l (Rdr.pass l 32 (Rdr.pass l 69 r))
def yP5 (l : List UInt8) (r : Rdr) : Int × Rdr := Rdr.number l (Rdr.pass l 32 (yP3 l r).2)
def yP7 (l : List UInt8) (r : Rdr) : Int × Rdr := Rdr.kind l (Rdr.pass l 32 (yP5 l r).2)
def yP9 (l : List UInt8) (r : Rdr) : Int × Rdr := Rdr.number l (Rdr.pass l 32 (yP7 l r).2)
def yEv (l : List UInt8) (r : Rdr) : Ev := ⟨0, (yP3 l r).1, (yP5 l r).1, (yP7 l r).1, (yP9 l r).1⟩
set_option maxRecDepth 100000 in
set_option maxHeartbeats 4000000 in
theorem ypush_any (b : Nat) (s : ByteArray) (r : Rdr) (w : World) (h : RdB w b s r) (hs : s.size ≤ 100) (hp : r.pos ≤ s.size) :
    Calls Tryz.prog 107 #[.pointer (some ⟨b, 0, none⟩)] w fun e w' => e = .returned (lineAgg 1 (yEv s.data.toList r) 0) ∧ RdE w b s w' (yP9 s.data.toList r).2 := by
  have hlen : s.data.toList.length = s.size := rfl
  obtain ⟨q1, Hq1⟩ := hexY (Rdr.pass s.data.toList 69 r)
  obtain ⟨q2, Hq2⟩ := hexY (Rdr.pass s.data.toList 32 q1)
  obtain ⟨q3, Hq3⟩ := hexY (Rdr.number s.data.toList q2)
  obtain ⟨q4, Hq4⟩ := hexY (Rdr.pass s.data.toList 32 q3.2)
  obtain ⟨q5, Hq5⟩ := hexY (Rdr.number s.data.toList q4)
  obtain ⟨q6, Hq6⟩ := hexY (Rdr.pass s.data.toList 32 q5.2)
  obtain ⟨q7, Hq7⟩ := hexY (Rdr.kind s.data.toList q6)
  obtain ⟨q8, Hq8⟩ := hexY (Rdr.pass s.data.toList 32 q7.2)
  obtain ⟨q9, Hq9⟩ := hexY (Rdr.number s.data.toList q8)
  have HY : Hid (yEv s.data.toList r = ⟨0, q3.1, q5.1, q7.1, q9.1⟩ ∧ (yP9 s.data.toList r).2 = q9.2) := by
    show _ ∧ _
    have e3 : yP3 s.data.toList r = q3 := by unfold yP3; rw [Hq3.out, Hq2.out, Hq1.out]
    have e5 : yP5 s.data.toList r = q5 := by unfold yP5; rw [e3, Hq5.out, Hq4.out]
    have e7 : yP7 s.data.toList r = q7 := by unfold yP7; rw [e5, Hq7.out, Hq6.out]
    have e9 : yP9 s.data.toList r = q9 := by unfold yP9; rw [e7, Hq9.out, Hq8.out]
    unfold yEv
    rw [e3, e5, e7, e9]
    exact ⟨rfl, rfl⟩
  rw [HY.out.1, HY.out.2]
  have hp1 : q1.pos ≤ s.size := by rw [Hq1.out]; exact pass_pos (by omega) hp
  have hp2 : q2.pos ≤ s.size := by rw [Hq2.out]; exact pass_pos (by omega) hp1
  have hp3 : q3.2.pos ≤ s.size := by rw [Hq3.out]; exact number_pos hp2
  have hp4 : q4.pos ≤ s.size := by rw [Hq4.out]; exact pass_pos (by omega) hp3
  have hp5 : q5.2.pos ≤ s.size := by rw [Hq5.out]; exact number_pos hp4
  have hp6 : q6.pos ≤ s.size := by rw [Hq6.out]; exact pass_pos (by omega) hp5
  have hp7 : q7.2.pos ≤ s.size := by rw [Hq7.out]; exact kind_pos hp6
  have hp8 : q8.pos ≤ s.size := by rw [Hq8.out]; exact pass_pos (by omega) hp7
  have hp9 : q9.2.pos ≤ s.size := by rw [Hq9.out]; exact number_pos hp8
  have hbl := h.lt
  have HB : Hid (RdB w b s r) := h
  obtain ⟨w0, HW0⟩ := hexY ((w.alloc (.cells (lineCells 0 zE 0).toArray 140)).alloc (.cells zE.vals.toArray 30))
  obtain ⟨rb, HRb⟩ := hexY w.heap.size
  obtain ⟨eb, HEb⟩ := hexY (w.heap.size + 1)
  have HE0 : Hid (RdE w b s w0 r) := by show RdE _ _ _ _ _; rw [HW0.out]; exact ((RdE.refl HB.out).allocE _).allocE _
  have HL0 : Hid (Blk w0 rb 140 (lineCells 0 zE 0)) := by show Blk _ _ _ _; rw [HW0.out, HRb.out]; exact (blk_alloc _ _ _).alloc _
  have HX0 : Hid (Blk w0 eb 30 [.int .i64 0, .int .i64 0, .int .i64 0, .int .i64 0, .int .i64 0]) := by show Blk _ _ _ _; rw [HW0.out, HEb.out]; have := blk_alloc (w.alloc (.cells (lineCells 0 zE 0).toArray 140)) zE.vals 30; simpa [zE, Ev.vals] using this
  have hrb : rb ≠ b := by rw [HRb.out]; omega
  have heb : eb ≠ b := by rw [HEb.out]; omega
  have her : rb ≠ eb := by rw [HEb.out, HRb.out]; omega
  have HRw : Hid (w.heap.size ≤ rb ∧ w.heap.size ≤ eb) := by show _ ∧ _; rw [HRb.out, HEb.out]; omega
  clear h
  go_enter Tryz.func107, Tryz.ntmps107
  go_upto_region 2 with fail
  have hw0 : (w.alloc (.cells #[.int .i64 0, .int .i64 0, .int .i64 0, .int .i64 0, .int .i64 0, .int .i64 0, .int .i64 0] 140)).alloc (.cells #[.int .i64 0, .int .i64 0, .int .i64 0, .int .i64 0, .int .i64 0] 30) = w0 := HW0.out.symm
  rw [hw0, ← HEb.out, ← HRb.out]
  clear hw0 HW0
  have hc0 : Calls Tryz.prog 111 #[.pointer (some ⟨b, 0, none⟩), .int .u8 69] w0 fun e w' => e = .returned (.tuple #[]) ∧ RdE w0 b s w' q1 := by rw [Hq1.out]; exact ypass_any b s r 69 w0 HE0.out.mem hs hp (by omega)
  go_upto_region 3 with (go_at_call 111; refine hc0.mono ?_; rintro e w1 ⟨rfl, hev⟩)
  have HE1 : Hid (RdE w b s w1 q1) := HE0.out.trans hev
  have HL1 : Hid (Blk w1 rb 140 (lineCells 0 zE 0)) := hev.blk HL0.out hrb
  have HX1 : Hid (Blk w1 eb 30 [.int .i64 0, .int .i64 0, .int .i64 0, .int .i64 0, .int .i64 0]) := hev.blk HX0.out heb
  clear hev hc0
  have hc1 : Calls Tryz.prog 111 #[.pointer (some ⟨b, 0, none⟩), .int .u8 32] w1 fun e w' => e = .returned (.tuple #[]) ∧ RdE w1 b s w' q2 := by rw [Hq2.out]; exact ypass_any b s q1 32 w1 HE1.out.mem hs hp1 (by omega)
  go_upto_region 4 with (go_at_call 111; refine hc1.mono ?_; rintro e w2 ⟨rfl, hev⟩)
  have HE2 : Hid (RdE w b s w2 q2) := HE1.out.trans hev
  have HL2 : Hid (Blk w2 rb 140 (lineCells 0 zE 0)) := hev.blk HL1.out hrb
  have HX2 : Hid (Blk w2 eb 30 [.int .i64 0, .int .i64 0, .int .i64 0, .int .i64 0, .int .i64 0]) := hev.blk HX1.out heb
  clear hev hc1
  have hc2 : Calls Tryz.prog 112 #[.pointer (some ⟨b, 0, none⟩)] w2 fun e w' => e = .returned (.int .i64 q3.1) ∧ RdE w2 b s w' q3.2 := by rw [Hq3.out]; exact ynumber_any b s q2 w2 HE2.out.mem hs hp2
  go_upto_region 4 with fail
  have gx2 : Hid (∀ w', RdE w2 b s w' q3.2 → Blk w' eb 30 [.int .i64 0, .int .i64 0, .int .i64 0, .int .i64 0, .int .i64 0]) := fun w' he => he.blk HX2.out heb
  go_upto_region 5 with (go_at_call 112; refine hc2.mono ?_; rintro e v2 ⟨rfl, hev⟩; have hxx := gx2.out _ hev; have cx := hxx.cell 1; have fx := hxx.frozen 1; simp only [List.getElem?_cons_zero, List.getElem?_cons_succ] at cx)
  obtain ⟨w3, HV⟩ := hexY (v2.setCell ⟨eb, 1, none⟩ (.int .i64 q3.1))
  rw [← HV.out]
  have HE3 : Hid (RdE w b s w3 q3.2) := by show RdE _ _ _ _ _; rw [HV.out]; exact (HE2.out.trans hev).setOther HRw.out.2 heb _
  have HL3 : Hid (Blk w3 rb 140 (lineCells 0 zE 0)) := by show Blk _ _ _ _; rw [HV.out]; exact (hev.blk HL2.out hrb).other (by simp only; exact her.symm) _
  have HX3 : Hid (Blk w3 eb 30 [.int .i64 0, .int .i64 q3.1, .int .i64 0, .int .i64 0, .int .i64 0]) := by show Blk _ _ _ _; rw [HV.out]; have := hxx.set 1 (.int .i64 q3.1); simpa using this
  clear hev hc2 gx2 hxx cx fx HV
  have hc3 : Calls Tryz.prog 111 #[.pointer (some ⟨b, 0, none⟩), .int .u8 32] w3 fun e w' => e = .returned (.tuple #[]) ∧ RdE w3 b s w' q4 := by rw [Hq4.out]; exact ypass_any b s q3.2 32 w3 HE3.out.mem hs hp3 (by omega)
  go_upto_region 6 with (go_at_call 111; refine hc3.mono ?_; rintro e w4 ⟨rfl, hev⟩)
  have HE4 : Hid (RdE w b s w4 q4) := HE3.out.trans hev
  have HL4 : Hid (Blk w4 rb 140 (lineCells 0 zE 0)) := hev.blk HL3.out hrb
  have HX4 : Hid (Blk w4 eb 30 [.int .i64 0, .int .i64 q3.1, .int .i64 0, .int .i64 0, .int .i64 0]) := hev.blk HX3.out heb
  clear hev hc3
  have hc4 : Calls Tryz.prog 112 #[.pointer (some ⟨b, 0, none⟩)] w4 fun e w' => e = .returned (.int .i64 q5.1) ∧ RdE w4 b s w' q5.2 := by rw [Hq5.out]; exact ynumber_any b s q4 w4 HE4.out.mem hs hp4
  go_upto_region 6 with fail
  have gx4 : Hid (∀ w', RdE w4 b s w' q5.2 → Blk w' eb 30 [.int .i64 0, .int .i64 q3.1, .int .i64 0, .int .i64 0, .int .i64 0]) := fun w' he => he.blk HX4.out heb
  go_upto_region 7 with (go_at_call 112; refine hc4.mono ?_; rintro e v4 ⟨rfl, hev⟩; have hxx := gx4.out _ hev; have cx := hxx.cell 2; have fx := hxx.frozen 2; simp only [List.getElem?_cons_zero, List.getElem?_cons_succ] at cx)
  obtain ⟨w5, HV⟩ := hexY (v4.setCell ⟨eb, 2, none⟩ (.int .i64 q5.1))
  rw [← HV.out]
  have HE5 : Hid (RdE w b s w5 q5.2) := by show RdE _ _ _ _ _; rw [HV.out]; exact (HE4.out.trans hev).setOther HRw.out.2 heb _
  have HL5 : Hid (Blk w5 rb 140 (lineCells 0 zE 0)) := by show Blk _ _ _ _; rw [HV.out]; exact (hev.blk HL4.out hrb).other (by simp only; exact her.symm) _
  have HX5 : Hid (Blk w5 eb 30 [.int .i64 0, .int .i64 q3.1, .int .i64 q5.1, .int .i64 0, .int .i64 0]) := by show Blk _ _ _ _; rw [HV.out]; have := hxx.set 2 (.int .i64 q5.1); simpa using this
  clear hev hc4 gx4 hxx cx fx HV
  have hc5 : Calls Tryz.prog 111 #[.pointer (some ⟨b, 0, none⟩), .int .u8 32] w5 fun e w' => e = .returned (.tuple #[]) ∧ RdE w5 b s w' q6 := by rw [Hq6.out]; exact ypass_any b s q5.2 32 w5 HE5.out.mem hs hp5 (by omega)
  go_upto_region 8 with (go_at_call 111; refine hc5.mono ?_; rintro e w6 ⟨rfl, hev⟩)
  have HE6 : Hid (RdE w b s w6 q6) := HE5.out.trans hev
  have HL6 : Hid (Blk w6 rb 140 (lineCells 0 zE 0)) := hev.blk HL5.out hrb
  have HX6 : Hid (Blk w6 eb 30 [.int .i64 0, .int .i64 q3.1, .int .i64 q5.1, .int .i64 0, .int .i64 0]) := hev.blk HX5.out heb
  clear hev hc5
  have hc6 : Calls Tryz.prog 113 #[.pointer (some ⟨b, 0, none⟩)] w6 fun e w' => e = .returned (.int .i64 q7.1) ∧ RdE w6 b s w' q7.2 := by rw [Hq7.out]; exact ykind_any b s q6 w6 HE6.out.mem hs hp6
  go_upto_region 8 with fail
  have gx6 : Hid (∀ w', RdE w6 b s w' q7.2 → Blk w' eb 30 [.int .i64 0, .int .i64 q3.1, .int .i64 q5.1, .int .i64 0, .int .i64 0]) := fun w' he => he.blk HX6.out heb
  go_upto_region 9 with (go_at_call 113; refine hc6.mono ?_; rintro e v6 ⟨rfl, hev⟩; have hxx := gx6.out _ hev; have cx := hxx.cell 3; have fx := hxx.frozen 3; simp only [List.getElem?_cons_zero, List.getElem?_cons_succ] at cx)
  obtain ⟨w7, HV⟩ := hexY (v6.setCell ⟨eb, 3, none⟩ (.int .i64 q7.1))
  rw [← HV.out]
  have HE7 : Hid (RdE w b s w7 q7.2) := by show RdE _ _ _ _ _; rw [HV.out]; exact (HE6.out.trans hev).setOther HRw.out.2 heb _
  have HL7 : Hid (Blk w7 rb 140 (lineCells 0 zE 0)) := by show Blk _ _ _ _; rw [HV.out]; exact (hev.blk HL6.out hrb).other (by simp only; exact her.symm) _
  have HX7 : Hid (Blk w7 eb 30 [.int .i64 0, .int .i64 q3.1, .int .i64 q5.1, .int .i64 q7.1, .int .i64 0]) := by show Blk _ _ _ _; rw [HV.out]; have := hxx.set 3 (.int .i64 q7.1); simpa using this
  clear hev hc6 gx6 hxx cx fx HV
  have hc7 : Calls Tryz.prog 111 #[.pointer (some ⟨b, 0, none⟩), .int .u8 32] w7 fun e w' => e = .returned (.tuple #[]) ∧ RdE w7 b s w' q8 := by rw [Hq8.out]; exact ypass_any b s q7.2 32 w7 HE7.out.mem hs hp7 (by omega)
  go_upto_region 10 with (go_at_call 111; refine hc7.mono ?_; rintro e w8 ⟨rfl, hev⟩)
  have HE8 : Hid (RdE w b s w8 q8) := HE7.out.trans hev
  have HL8 : Hid (Blk w8 rb 140 (lineCells 0 zE 0)) := hev.blk HL7.out hrb
  have HX8 : Hid (Blk w8 eb 30 [.int .i64 0, .int .i64 q3.1, .int .i64 q5.1, .int .i64 q7.1, .int .i64 0]) := hev.blk HX7.out heb
  clear hev hc7
  have hc8 : Calls Tryz.prog 112 #[.pointer (some ⟨b, 0, none⟩)] w8 fun e w' => e = .returned (.int .i64 q9.1) ∧ RdE w8 b s w' q9.2 := by rw [Hq9.out]; exact ynumber_any b s q8 w8 HE8.out.mem hs hp8
  go_upto_region 10 with fail
  have gx8 : Hid (∀ w', RdE w8 b s w' q9.2 → Blk w' eb 30 [.int .i64 0, .int .i64 q3.1, .int .i64 q5.1, .int .i64 q7.1, .int .i64 0]) := fun w' he => he.blk HX8.out heb
  go_upto_region 11 with (go_at_call 112; refine hc8.mono ?_; rintro e v8 ⟨rfl, hev⟩; have hxx := gx8.out _ hev; have cx := hxx.cell 4; have fx := hxx.frozen 4; simp only [List.getElem?_cons_zero, List.getElem?_cons_succ] at cx)
  obtain ⟨w9, HV⟩ := hexY (v8.setCell ⟨eb, 4, none⟩ (.int .i64 q9.1))
  rw [← HV.out]
  have HE9 : Hid (RdE w b s w9 q9.2) := by show RdE _ _ _ _ _; rw [HV.out]; exact (HE8.out.trans hev).setOther HRw.out.2 heb _
  have HL9 : Hid (Blk w9 rb 140 (lineCells 0 zE 0)) := by show Blk _ _ _ _; rw [HV.out]; exact (hev.blk HL8.out hrb).other (by simp only; exact her.symm) _
  have HX9 : Hid (Blk w9 eb 30 [.int .i64 0, .int .i64 q3.1, .int .i64 q5.1, .int .i64 q7.1, .int .i64 q9.1]) := by show Blk _ _ _ _; rw [HV.out]; have := hxx.set 4 (.int .i64 q9.1); simpa using this
  clear hev hc8 gx8 hxx cx fx HV
  have z0 := HL9.out.cell 0
  have y0 := HL9.out.frozen 0
  have z1 := HL9.out.cell 1
  have y1 := HL9.out.frozen 1
  have z2 := HL9.out.cell 2
  have y2 := HL9.out.frozen 2
  have z3 := HL9.out.cell 3
  have y3 := HL9.out.frozen 3
  have z4 := HL9.out.cell 4
  have y4 := HL9.out.frozen 4
  have z5' := HL9.out.cell 5
  have y5 := HL9.out.frozen 5
  have z6 := HL9.out.cell 6
  have y6 := HL9.out.frozen 6
  have x0 := HX9.out.cell 0
  have x1 := HX9.out.cell 1
  have x2 := HX9.out.cell 2
  have x3 := HX9.out.cell 3
  have x4 := HX9.out.cell 4
  simp only [lineCells, zE, List.getElem?_cons_zero, List.getElem?_cons_succ] at z0 z1 z2 z3 z4 z5' z6 x0 x1 x2 x3 x4
  go_wp2
  refine bodyPost_ret (v := lineAgg 1 ⟨0, q3.1, q5.1, q7.1, q9.1⟩ 0) (by simp [results, Tryz.results107, go_sem, lineAgg, z0, z1, z2, z3, z4, z5', z6]) rfl ⟨rfl, ?_⟩
  exact ((((((HE9.out.setOther HRw.out.1 hrb _).setOther HRw.out.1 hrb _).setOther HRw.out.1 hrb _).setOther HRw.out.1 hrb _).setOther HRw.out.1 hrb _).setOther HRw.out.1 hrb _).setOther HRw.out.1 hrb _
end Go.Proofs.YtghcololkgeoeabGreat
namespace Go.Proofs.YtghcololkgeoeabGreat
open Go.RowKit
set_option linter.unusedVariables false
set_option linter.unusedSimpArgs false
attribute [local go_sem ↓] Go.wp_at_zero Go.wp_at_succ

def yPu (l : List UInt8) (r : Rdr) : Int × Rdr := Rdr.number l (Rdr.pass l 32 (Rdr.pass l 80 r))
structure Said where
  k : Int
  E : Ev
  t : Int
def Said.agg (a : Said) : Value := lineAgg a.k a.E a.t
def Said.cells (a : Said) : List Value := lineCells a.k a.E a.t
def yLine (l : List UInt8) (r : Rdr) : Said × Rdr := if nx l r.pos = 80 then (⟨2, zE, (yPu l r).1⟩, (yPu l r).2) else (⟨1, yEv l r, 0⟩, (yP9 l r).2)
def zSaid : Said := ⟨0, zE, 0⟩
def readOf (l : List UInt8) : Said := if 40 < l.length then zSaid else if (yLine l ⟨0, false⟩).2.bad = true ∨ (yLine l ⟨0, false⟩).2.pos < l.length then zSaid else (yLine l ⟨0, false⟩).1
theorem yP9_pos {l : List UInt8} {r : Rdr} (h : r.pos ≤ l.length) : (yP9 l r).2.pos ≤ l.length :=
  number_pos (pass_pos (by omega) (kind_pos (pass_pos (by omega) (number_pos (pass_pos (by omega) (number_pos (pass_pos (by omega) (pass_pos (by omega) h))))))))
set_option maxRecDepth 100000 in
set_option maxHeartbeats 2000000 in
theorem yline_any (b : Nat) (s : ByteArray) (r : Rdr) (w : World) (h : RdB w b s r) (hs : s.size ≤ 100) (hp : r.pos ≤ s.size) :
    Calls Tryz.prog 98 #[.pointer (some ⟨b, 0, none⟩)] w fun e w' => e = .returned (yLine s.data.toList r).1.agg ∧ RdE w b s w' (yLine s.data.toList r).2 := by
  have hbl := h.lt
  have HB : Hid (RdB w b s r) := h
  obtain ⟨w1, HW1⟩ := hexY (w.alloc (.cells (lineCells 0 zE 0).toArray 140))
  have hw1 : w.alloc (.cells #[.int .i64 0, .int .i64 0, .int .i64 0, .int .i64 0, .int .i64 0, .int .i64 0, .int .i64 0] 140) = w1 := HW1.out.symm
  obtain ⟨rb, HRb⟩ := hexY w.heap.size
  have HE1 : Hid (RdE w b s w1 r) := by show RdE _ _ _ _ _; rw [HW1.out]; exact (RdE.refl HB.out).allocE _
  have HL1 : Hid (Blk w1 rb 140 (lineCells 0 zE 0)) := by show Blk _ _ _ _; rw [HW1.out, HRb.out]; exact blk_alloc _ _ _
  have hrb : rb ≠ b := by rw [HRb.out]; omega
  have HRw : Hid (w.heap.size ≤ rb) := by show _ ≤ _; rw [HRb.out]; exact Nat.le_refl _
  clear h
  have HY : Hid (yLine s.data.toList r = if nx s.data.toList r.pos = 80 then (⟨2, zE, (yPu s.data.toList r).1⟩, (yPu s.data.toList r).2) else (⟨1, yEv s.data.toList r, 0⟩, (yP9 s.data.toList r).2)) := rfl
  obtain ⟨x, HX⟩ := hexY (nx s.data.toList r.pos)
  have hnx : ∀ u, RdB u b s r → Calls Tryz.prog 105 #[.pointer (some ⟨b, 0, none⟩)] u fun e w' => e = .returned (.int .u8 x) ∧ ∃ n, w' = u.drewN n := fun u hu => by rw [HX.out]; exact ynext_any b s r u hu hs hp
  rw [← HX.out] at HY
  obtain ⟨Q, HQ⟩ := hexY (yLine s.data.toList r)
  rw [← HQ.out] at HY ⊢
  by_cases hx : x = 80
  · have hpu : ∀ u, RdB u b s r → Calls Tryz.prog 106 #[.pointer (some ⟨b, 0, none⟩)] u fun e w' => e = .returned (lineAgg Q.1.k Q.1.E Q.1.t) ∧ RdE u b s w' Q.2 := fun u hu => by
      rw [HY.out, if_pos hx]; exact ypunct_any b s r u hu hs hp
    subst hx
    unfold Said.agg
    unfold lineAgg at hpu ⊢
    go_enter Tryz.func98, Tryz.ntmps98
    go_upto_region 1 with fail
    rw [← HRb.out]
    clear hw1 HW1
    go_upto_region 2 with (go_at_call 105; refine (hnx _ HE1.out.mem).mono ?_; rintro e w2 ⟨rfl, nq, rfl⟩)
    have gx : Hid (∀ w', RdE (w1.drewN nq) b s w' Q.2 → Blk w' rb 140 (lineCells 0 zE 0)) := fun w' he => he.blk HL1.out hrb
    go_wp2_with (go_at_call 106; refine (hpu _ (HE1.out.drewN nq).mem).mono ?_; rintro e w3 ⟨rfl, hev⟩; have hxx := gx.out _ hev; have z0 := hxx.cell 0; have y0 := hxx.frozen 0; have z1 := hxx.cell 1; have y1 := hxx.frozen 1; have z2 := hxx.cell 2; have y2 := hxx.frozen 2; have z3 := hxx.cell 3; have y3 := hxx.frozen 3; have z4 := hxx.cell 4; have y4 := hxx.frozen 4; have z5' := hxx.cell 5; have y5 := hxx.frozen 5; have z6 := hxx.cell 6; have y6 := hxx.frozen 6; simp only [lineCells, zE, List.getElem?_cons_zero, List.getElem?_cons_succ] at z0 z1 z2 z3 z4 z5' z6)
    refine bodyPost_ret (v := .agg #[.int .i64 Q.1.k, .int .i64 Q.1.E.src, .int .i64 Q.1.E.seq, .int .i64 Q.1.E.ts, .int .i64 Q.1.E.kind, .int .i64 Q.1.E.val, .int .i64 Q.1.t]) (by simp [results, Tryz.results98, go_sem, z0, z1, z2, z3, z4, z5', z6]) rfl ⟨rfl, ?_⟩
    exact ((((((((HE1.out.drewN nq).trans hev).setOther HRw.out hrb _).setOther HRw.out hrb _).setOther HRw.out hrb _).setOther HRw.out hrb _).setOther HRw.out hrb _).setOther HRw.out hrb _).setOther HRw.out hrb _
  · have hpu : ∀ u, RdB u b s r → Calls Tryz.prog 107 #[.pointer (some ⟨b, 0, none⟩)] u fun e w' => e = .returned (lineAgg Q.1.k Q.1.E Q.1.t) ∧ RdE u b s w' Q.2 := fun u hu => by
      rw [HY.out, if_neg hx]; exact ypush_any b s r u hu hs hp
    have hne : ((x : Int) == 80) = false := by simp; omega
    unfold Said.agg
    unfold lineAgg at hpu ⊢
    go_enter Tryz.func98, Tryz.ntmps98
    go_upto_region 1 with fail
    rw [← HRb.out]
    clear hw1 HW1
    go_upto_region 3 with (go_at_call 105; refine (hnx _ HE1.out.mem).mono ?_; rintro e w2 ⟨rfl, nq, rfl⟩)
    have gx : Hid (∀ w', RdE (w1.drewN nq) b s w' Q.2 → Blk w' rb 140 (lineCells 0 zE 0)) := fun w' he => he.blk HL1.out hrb
    go_wp2_with (go_at_call 107; refine (hpu _ (HE1.out.drewN nq).mem).mono ?_; rintro e w3 ⟨rfl, hev⟩; have hxx := gx.out _ hev; have z0 := hxx.cell 0; have y0 := hxx.frozen 0; have z1 := hxx.cell 1; have y1 := hxx.frozen 1; have z2 := hxx.cell 2; have y2 := hxx.frozen 2; have z3 := hxx.cell 3; have y3 := hxx.frozen 3; have z4 := hxx.cell 4; have y4 := hxx.frozen 4; have z5' := hxx.cell 5; have y5 := hxx.frozen 5; have z6 := hxx.cell 6; have y6 := hxx.frozen 6; simp only [lineCells, zE, List.getElem?_cons_zero, List.getElem?_cons_succ] at z0 z1 z2 z3 z4 z5' z6)
    refine bodyPost_ret (v := .agg #[.int .i64 Q.1.k, .int .i64 Q.1.E.src, .int .i64 Q.1.E.seq, .int .i64 Q.1.E.ts, .int .i64 Q.1.E.kind, .int .i64 Q.1.E.val, .int .i64 Q.1.t]) (by simp [results, Tryz.results98, go_sem, z0, z1, z2, z3, z4, z5', z6]) rfl ⟨rfl, ?_⟩
    exact ((((((((HE1.out.drewN nq).trans hev).setOther HRw.out hrb _).setOther HRw.out hrb _).setOther HRw.out hrb _).setOther HRw.out hrb _).setOther HRw.out hrb _).setOther HRw.out hrb _).setOther HRw.out hrb _
end Go.Proofs.YtghcololkgeoeabGreat
namespace Go.Proofs.YtghcololkgeoeabGreat
open Go.RowKit
set_option linter.unusedVariables false
set_option linter.unusedSimpArgs false
attribute [local go_sem ↓] Go.wp_at_zero Go.wp_at_succ

theorem RdE.toBelow {w w1 w' : World} {b : Nat} {s : ByteArray} {r : Rdr} (h : RdE w1 b s w' r) (hb : Below w.heap.size w w1) (hn : w.heap.size ≤ b) : Below w.heap.size w w' :=
  ⟨h.os.trans hb.os, h.tape.trans hb.tape, h.output.trans hb.output, Nat.le_trans hb.size h.size, fun k hk => (h.block k (Nat.lt_of_lt_of_le hk hb.size) (by omega)).trans (hb.block k hk)⟩
theorem below_set7 {w : World} {b : Nat} {v0 v1 v2 v3 v4 v5 v6 : Value} {B : Nat} {a : World} (h : Below B a w) (hb : B ≤ b) : Below B a (((((((w.setCell ⟨b, 0, none⟩ v0).setCell ⟨b, 1, none⟩ v1).setCell ⟨b, 2, none⟩ v2).setCell ⟨b, 3, none⟩ v3).setCell ⟨b, 4, none⟩ v4).setCell ⟨b, 5, none⟩ v5).setCell ⟨b, 6, none⟩ v6) :=
  ((((((h.setCell hb _).setCell hb _).setCell hb _).setCell hb _).setCell hb _).setCell hb _).setCell hb _
set_option maxRecDepth 100000 in
set_option maxHeartbeats 2000000 in
theorem yread_any (s : ByteArray) (w : World) :
    Calls Tryz.prog 86 #[.string s] w fun e w' => e = .returned (readOf s.data.toList).agg ∧ Below w.heap.size w w' := by
  have hlen : s.data.toList.length = s.size := rfl
  have HR : Hid (readOf s.data.toList = if 40 < s.data.toList.length then zSaid else if (yLine s.data.toList ⟨0, false⟩).2.bad = true ∨ (yLine s.data.toList ⟨0, false⟩).2.pos < s.data.toList.length then zSaid else (yLine s.data.toList ⟨0, false⟩).1) := rfl
  by_cases h40 : (40 : Int) < (s.size : Int)
  · have HZ : Hid (readOf s.data.toList = zSaid) := by show _ = _; rw [HR.out, if_pos (by omega)]
    rw [HZ.out]
    unfold Said.agg zSaid lineAgg zE
    go_enter Tryz.func86, Tryz.ntmps86
    go_wp2
    refine bodyPost_ret (v := .agg #[.int .i64 0, .int .i64 0, .int .i64 0, .int .i64 0, .int .i64 0, .int .i64 0, .int .i64 0]) (by simp [results, Tryz.results86, go_sem]) rfl ⟨rfl, ?_⟩
    exact (Below.refl _ _).alloc (Nat.le_refl _) _
  · have hs : s.size ≤ 40 := by omega
    obtain ⟨Q, HQ⟩ := hexY (yLine s.data.toList ⟨0, false⟩)
    have hpos : Hid (Q.2.pos ≤ s.size) := by
      show _ ≤ _
      rw [HQ.out]
      unfold yLine
      split
      · exact number_pos (pass_pos (by omega) (pass_pos (by omega) (Nat.zero_le _)))
      · exact yP9_pos (Nat.zero_le _)
    rw [← HQ.out] at HR
    obtain ⟨F, HF⟩ := hexY (readOf s.data.toList)
    rw [← HF.out] at HR ⊢
    obtain ⟨w2, HW2⟩ := hexY ((w.alloc (.cells (lineCells 0 zE 0).toArray 140)).alloc (.cells #[.string s, .int .i64 0, .bool false] 155))
    obtain ⟨rb, HRb⟩ := hexY w.heap.size
    obtain ⟨db, HDb⟩ := hexY (w.heap.size + 1)
    have HD2 : Hid (RdB w2 db s ⟨0, false⟩) := by show RdB _ _ _ _; rw [HW2.out, HDb.out]; have := blk_alloc (w.alloc (.cells (lineCells 0 zE 0).toArray 140)) [.string s, .int .i64 0, .bool false] 155; simpa [RdB] using this
    have HL2 : Hid (Blk w2 rb 140 (lineCells 0 zE 0)) := by show Blk _ _ _ _; rw [HW2.out, HRb.out]; exact (blk_alloc _ _ _).alloc _
    have HB2 : Hid (Below w.heap.size w w2) := by show Below _ _ _; rw [HW2.out]; exact ((Below.refl _ _).alloc (Nat.le_refl _) _).alloc (by simp) _
    have hrd : rb ≠ db := by rw [HRb.out, HDb.out]; omega
    have HRw : Hid (w.heap.size ≤ rb ∧ w.heap.size ≤ db) := by show _ ∧ _; rw [HRb.out, HDb.out]; omega
    have hln : ∀ u, RdB u db s ⟨0, false⟩ → Calls Tryz.prog 98 #[.pointer (some ⟨db, 0, none⟩)] u fun e w' => e = .returned (.agg #[.int .i64 Q.1.k, .int .i64 Q.1.E.src, .int .i64 Q.1.E.seq, .int .i64 Q.1.E.ts, .int .i64 Q.1.E.kind, .int .i64 Q.1.E.val, .int .i64 Q.1.t]) ∧ RdE u db s w' Q.2 := fun u hu => by rw [HQ.out]; exact yline_any db s ⟨0, false⟩ u hu (by omega) (Nat.zero_le _)
    unfold Said.agg lineAgg
    go_enter Tryz.func86, Tryz.ntmps86
    go_upto_region 4 with fail
    have hw2 : (w.alloc (.cells #[.int .i64 0, .int .i64 0, .int .i64 0, .int .i64 0, .int .i64 0, .int .i64 0, .int .i64 0] 140)).alloc (.cells #[.string s, .int .i64 0, .bool false] 155) = w2 := HW2.out.symm
    rw [hw2, ← HDb.out, ← HRb.out]
    clear hw2 HW2
    go_upto_region 5 with (go_at_call 98; refine (hln _ HD2.out).mono ?_; rintro e w3 ⟨rfl, hev⟩)
    have HE3 : Hid (RdE w2 db s w3 Q.2) := hev
    clear hev hln
    obtain ⟨w4, HW4⟩ := hexY (w3.alloc (.cells Q.1.cells.toArray 140))
    have hw4 : w3.alloc (.cells #[.int .i64 Q.1.k, .int .i64 Q.1.E.src, .int .i64 Q.1.E.seq, .int .i64 Q.1.E.ts, .int .i64 Q.1.E.kind, .int .i64 Q.1.E.val, .int .i64 Q.1.t] 140) = w4 := HW4.out.symm
    rw [hw4]
    obtain ⟨lb, HLb⟩ := hexY w3.heap.size
    have HE4 : Hid (RdE w2 db s w4 Q.2) := by show RdE _ _ _ _ _; rw [HW4.out]; exact HE3.out.allocE _
    have HL4 : Hid (Blk w4 rb 140 (lineCells 0 zE 0)) := HE4.out.blk HL2.out hrd
    have HC4 : Hid (Blk w4 lb 140 Q.1.cells) := by show Blk _ _ _ _; rw [HW4.out, HLb.out]; exact blk_alloc _ _ _
    have hlr : lb ≠ rb := by rw [HLb.out]; have := (HE3.out.blk HL2.out hrd).lt; omega
    have HB4 : Hid (Below w.heap.size w w4) := HE4.out.toBelow HB2.out HRw.out.2
    rw [← HLb.out]
    clear hw4 HW4 HLb
    have d1 := HE4.out.mem.cell 1
    have d2 := HE4.out.mem.cell 2
    have z0 := HL4.out.cell 0
    have y0 := HL4.out.frozen 0
    have z1 := HL4.out.cell 1
    have y1 := HL4.out.frozen 1
    have z2 := HL4.out.cell 2
    have y2 := HL4.out.frozen 2
    have z3 := HL4.out.cell 3
    have y3 := HL4.out.frozen 3
    have z4 := HL4.out.cell 4
    have y4 := HL4.out.frozen 4
    have z5' := HL4.out.cell 5
    have y5 := HL4.out.frozen 5
    have z6 := HL4.out.cell 6
    have y6 := HL4.out.frozen 6
    have x0 := HC4.out.cell 0
    have x1 := HC4.out.cell 1
    have x2 := HC4.out.cell 2
    have x3 := HC4.out.cell 3
    have x4 := HC4.out.cell 4
    have x5 := HC4.out.cell 5
    have x6 := HC4.out.cell 6
    simp only [Said.cells, lineCells, zE, List.getElem?_cons_zero, List.getElem?_cons_succ] at z0 z1 z2 z3 z4 z5' z6 x0 x1 x2 x3 x4 x5 x6
    simp only [List.getElem?_cons_zero, List.getElem?_cons_succ] at d1 d2
    cases hb : Q.2.bad with
    | true =>
      have HZ : Hid (F = zSaid) := by show _ = _; rw [HR.out, if_neg (by omega), if_pos (Or.inl hb)]
      rw [hb] at d2
      go_wp2
      rw [HZ.out]
      refine bodyPost_ret (v := .agg #[.int .i64 0, .int .i64 0, .int .i64 0, .int .i64 0, .int .i64 0, .int .i64 0, .int .i64 0]) (by simp [results, Tryz.results86, go_sem, z0, z1, z2, z3, z4, z5', z6]) rfl ⟨rfl, ?_⟩
      exact below_set7 HB4.out HRw.out.1
    | false =>
      rw [hb] at d2
      by_cases hq : (Q.2.pos : Int) < (s.size : Int)
      · have HZ : Hid (F = zSaid) := by show _ = _; rw [HR.out, if_neg (by omega), if_pos (Or.inr (by omega))]
        go_wp2
        rw [HZ.out]
        refine bodyPost_ret (v := .agg #[.int .i64 0, .int .i64 0, .int .i64 0, .int .i64 0, .int .i64 0, .int .i64 0, .int .i64 0]) (by simp [results, Tryz.results86, go_sem, z0, z1, z2, z3, z4, z5', z6]) rfl ⟨rfl, ?_⟩
        exact below_set7 HB4.out HRw.out.1
      · have HZ : Hid (F = Q.1) := by
          show _ = _
          rw [HR.out, if_neg (by omega), if_neg]
          rintro (h | h)
          · rw [hb] at h; cases h
          · omega
        have dq : decide ((Q.2.pos : Int) < (s.size : Int)) = false := by simpa using hq
        go_wp2
        rw [HZ.out]
        refine bodyPost_ret (v := .agg #[.int .i64 Q.1.k, .int .i64 Q.1.E.src, .int .i64 Q.1.E.seq, .int .i64 Q.1.E.ts, .int .i64 Q.1.E.kind, .int .i64 Q.1.E.val, .int .i64 Q.1.t]) (by simp [results, Tryz.results86, go_sem, z0, z1, z2, z3, z4, z5', z6]) rfl ⟨rfl, ?_⟩
        exact below_set7 HB4.out HRw.out.1
end Go.Proofs.YtghcololkgeoeabGreat
namespace Go.Proofs.YtghcololkgeoeabGreat
open Go.RowKit
set_option linter.unusedVariables false
set_option linter.unusedSimpArgs false

def rPush (l : List UInt8) : Ev := ⟨0, (r3 l).1, (r5 l).1, (r7 l).1, (r9 l).1⟩
def Dead (l : List UInt8) (r : Rdr) : Prop := r.bad = true ∨ (r.pos < l.length ∧ 48 ≤ nx l r.pos ∧ nx l r.pos ≤ 57)
theorem pass_bad {l : List UInt8} {b : Nat} {r : Rdr} (h : r.bad = true) : (Rdr.pass l b r).bad = true := by unfold Rdr.pass; split <;> simp [h]
theorem kind_bad {l : List UInt8} {r : Rdr} (h : r.bad = true) : (Rdr.kind l r).2.bad = true := by unfold Rdr.kind; split <;> simp [h]
theorem number_bad {l : List UInt8} {r : Rdr} (h : r.bad = true) : (Rdr.number l r).2.bad = true := by unfold Rdr.number; split <;> simp [Rdr.digits, h]
theorem dead_pass {l : List UInt8} {r : Rdr} (h : Dead l r) : (Rdr.pass l 32 r).bad = true := by
  rcases h with h | ⟨_, h1, h2⟩
  · exact pass_bad h
  · unfold Rdr.pass; rw [if_neg (by omega)]
theorem dead_end {l : List UInt8} {r : Rdr} (h : Dead l r) : ¬ (r.bad = false ∧ l.length ≤ r.pos) := by
  rintro ⟨h1, h2⟩
  rcases h with h | ⟨h, _⟩
  · rw [h1] at h; cases h
  · omega
theorem pass_good {l : List UInt8} {b i : Nat} (h : nx l i = b) : Rdr.pass l b ⟨i, false⟩ = ⟨i + 1, false⟩ := by unfold Rdr.pass; rw [if_pos h]
theorem pass_off {l : List UInt8} {b i : Nat} (h : nx l i ≠ b) : (Rdr.pass l b ⟨i, false⟩).bad = true := by unfold Rdr.pass; rw [if_neg h]
theorem digits_spec (l : List UInt8) (j : Nat) (hj : j ≤ l.length) :
    ((1 ≤ digLen (l.drop j) ∧ digLen (l.drop j) ≤ 13) → Rdr.digits l ⟨j, false⟩ = (numOf 0 ((l.drop j).take (digLen (l.drop j))), ⟨j + digLen (l.drop j), false⟩) ∧ j + digLen (l.drop j) ≤ l.length) ∧
    ((digLen (l.drop j) < 1 ∨ 13 < digLen (l.drop j)) → Dead l (Rdr.digits l ⟨j, false⟩).2) := by
  have hm : ((l.drop j).takeWhile isDig).length ≤ (l.drop j).length := (List.takeWhile_prefix isDig).length_le
  rw [List.length_drop] at hm
  refine ⟨fun ⟨h1, h2⟩ => ?_, fun h => ?_⟩
  · have hk : dig13 (l.drop j) = digLen (l.drop j) := by unfold dig13 digLen at *; omega
    unfold Rdr.digits
    rw [hk]
    have h0 : (digLen (l.drop j) == 0) = false := by simp; omega
    simp only [h0, Bool.or_false, true_and]
    unfold digLen at *; omega
  · rcases h with h | h
    · left
      have hk : dig13 (l.drop j) = 0 := by unfold dig13; unfold digLen at h; omega
      unfold Rdr.digits
      rw [hk]; simp
    · right
      have hk : dig13 (l.drop j) = 13 := by unfold dig13; unfold digLen at h; omega
      have hlen : 14 ≤ ((l.drop j).takeWhile isDig).length := by unfold digLen at h; omega
      have hpos : j + 13 < l.length := by omega
      unfold Rdr.digits
      rw [hk]
      simp only
      refine ⟨hpos, ?_⟩
      have hp : ((l.drop j).takeWhile isDig)[13]? = (l.drop j)[13]? := by
        obtain ⟨t, ht⟩ := List.takeWhile_prefix (l := l.drop j) isDig
        have h9 : (((l.drop j).takeWhile isDig) ++ t)[13]? = ((l.drop j).takeWhile isDig)[13]? := List.getElem?_append_left (by omega)
        rw [← h9, ht]
      have h13 : 13 < ((l.drop j).takeWhile isDig).length := by omega
      have hall := List.all_takeWhile (p := isDig) (l := l.drop j)
      rw [List.all_eq_true] at hall
      have hd := hall _ (List.getElem_mem h13)
      rw [List.getElem?_eq_getElem h13, List.getElem?_drop] at hp
      unfold nx
      rw [← hp]
      simp only [Option.getD_some]
      simpa [isDig] using hd
theorem number_spec (l : List UInt8) (i : Nat) (hi : i ≤ l.length) :
    (0 ≤ (numAt l i).2 → Rdr.number l ⟨i, false⟩ = ((numAt l i).1, ⟨(numAt l i).2.toNat, false⟩) ∧ (numAt l i).2 ≤ l.length) ∧ ((numAt l i).2 < 0 → Dead l (Rdr.number l ⟨i, false⟩).2) := by
  unfold numAt Rdr.number
  simp only
  by_cases hn : nx l i = 45
  · have hlt : i < l.length := nx_lt (by omega)
    have hb : byteAt l i = 45 := by rw [nx_byte, hn]; rfl
    have hneg : (decide (i < l.length) && decide (byteAt l i = 45)) = true := by simp [hlt, hb]
    rw [hneg, if_pos hn]
    simp only [if_true]
    obtain ⟨d1, d2⟩ := digits_spec l (i + 1) (by omega)
    by_cases hk : digLen (l.drop (i + 1)) < 1 ∨ 13 < digLen (l.drop (i + 1))
    · rw [if_pos hk]
      exact ⟨fun h => by simp at h, fun _ => d2 hk⟩
    · rw [if_neg hk]
      obtain ⟨e1, e2⟩ := d1 (by omega)
      refine ⟨fun _ => ⟨?_, by simp only; omega⟩, fun h => by simp only at h; omega⟩
      rw [e1]
      simp only [Prod.mk.injEq, true_and]
      congr 1
  · have hneg : (decide (i < l.length) && decide (byteAt l i = 45)) = false := by
      have : ¬ (byteAt l i = 45) := by rw [nx_byte]; omega
      simp [this]
    rw [hneg, if_neg hn]
    simp only [Bool.false_eq_true, if_false]
    obtain ⟨d1, d2⟩ := digits_spec l i hi
    by_cases hk : digLen (l.drop i) < 1 ∨ 13 < digLen (l.drop i)
    · rw [if_pos hk]
      exact ⟨fun h => by simp at h, fun _ => d2 hk⟩
    · rw [if_neg hk]
      obtain ⟨e1, e2⟩ := d1 (by omega)
      refine ⟨fun _ => ⟨?_, by simp only; omega⟩, fun h => by simp only at h; omega⟩
      rw [e1]
      simp only [Prod.mk.injEq, true_and]
      congr 1
theorem blank_spec (l : List UInt8) (i : Int) (hi : 0 ≤ i) : (0 ≤ blankAt l i → Rdr.pass l 32 ⟨i.toNat, false⟩ = ⟨(blankAt l i).toNat, false⟩ ∧ blankAt l i ≤ l.length) ∧ (blankAt l i < 0 → (Rdr.pass l 32 ⟨i.toNat, false⟩).bad = true) := by
  unfold blankAt
  rw [nx_byte]
  split
  · rename_i h
    refine ⟨fun h => by omega, fun _ => pass_off ?_⟩
    rcases h with h | h | h
    · omega
    · rw [nx_end (by omega)]; omega
    · omega
  · rename_i h
    refine ⟨fun _ => ⟨?_, by omega⟩, fun h => by omega⟩
    rw [pass_good (by omega)]
    congr 1
    omega
theorem head_two (l : List UInt8) (a : UInt8) (ha : a ≠ 0) : (l.take 2 == [a, 32]) = true ↔ nx l 0 = a.toNat ∧ nx l 1 = 32 := by
  unfold nx
  rcases l with _ | ⟨x, _ | ⟨y, l⟩⟩
  · simp
  · simp
  · simp only [List.take_succ_cons, List.take_zero, List.getElem?_cons_zero, List.getElem?_cons_succ, Option.getD_some, beq_iff_eq, List.cons.injEq, and_true]
    constructor
    · rintro ⟨rfl, rfl⟩; exact ⟨rfl, rfl⟩
    · rintro ⟨h1, h2⟩
      exact ⟨UInt8.toNat_inj.1 h1, UInt8.toNat_inj.1 h2⟩
theorem rPunct_spec (l : List UInt8) : (((rPunct l).2.bad = false ∧ l.length ≤ (rPunct l).2.pos) ↔ (punctOf l).2 = true) ∧ ((punctOf l).2 = true → (rPunct l).1 = (punctOf l).1) := by
  unfold punctOf
  by_cases hh : (l.take 2 == [80, 32]) = true
  · rw [if_pos hh]
    obtain ⟨h0, h1⟩ := (head_two l 80 (by decide)).1 hh
    have h0' : nx l 0 = 80 := h0
    have hl : 2 ≤ l.length := by have := nx_lt (l := l) (i := 1) (by omega); omega
    have hr : Rdr.pass l 32 (Rdr.pass l 80 ⟨0, false⟩) = ⟨2, false⟩ := by rw [pass_good h0', pass_good h1]
    obtain ⟨n1, n2⟩ := number_spec l 2 hl
    unfold rPunct
    rw [hr]
    simp only [decide_eq_true_eq]
    by_cases hn : 0 ≤ (numAt l 2).2
    · obtain ⟨e1, e2⟩ := n1 hn
      rw [e1]
      refine ⟨⟨fun h => by have := h.2; simp only at this; omega, fun h => ⟨rfl, by simp only; omega⟩⟩, fun _ => rfl⟩
    · have hd := dead_end (n2 (by omega))
      exact ⟨⟨fun h => absurd h hd, fun h => by omega⟩, fun h => by omega⟩
  · rw [if_neg hh]
    have hb : (Rdr.pass l 32 (Rdr.pass l 80 ⟨0, false⟩)).bad = true := by
      by_cases h0 : nx l 0 = 80
      · rw [pass_good h0]
        refine pass_off (fun h1 => hh ((head_two l 80 (by decide)).2 ⟨h0, h1⟩))
      · exact pass_bad (pass_off h0)
    have := number_bad (l := l) hb
    unfold rPunct
    simp [this]
theorem rPush_spec (l : List UInt8) : (((r9 l).2.bad = false ∧ l.length ≤ (r9 l).2.pos) ↔ isEv l = true) ∧ (isEv l = true → rPush l = evOf l) := by
  have out : ∀ {P : Prop}, isEv l = false → (r9 l).2.bad = true ∨ Dead l (r9 l).2 → (((r9 l).2.bad = false ∧ l.length ≤ (r9 l).2.pos) ↔ isEv l = true) ∧ (isEv l = true → rPush l = evOf l) := by
    intro _ h1 h2
    have h3 : Dead l (r9 l).2 := h2.elim (fun h => Or.inl h) id
    refine ⟨⟨fun h => absurd h (dead_end h3), fun h => by rw [h1] at h; cases h⟩, fun h => by rw [h1] at h; cases h⟩
  have b9 : (r7 l).2.bad = true → (r9 l).2.bad = true := fun h => number_bad (pass_bad h)
  have b7 : (Rdr.pass l 32 (r5 l).2).bad = true → (r9 l).2.bad = true := fun h => b9 (kind_bad h)
  have b5 : (Rdr.pass l 32 (r3 l).2).bad = true → (r9 l).2.bad = true := fun h => b7 (pass_bad (number_bad h))
  by_cases hh : (l.take 2 == [69, 32]) = true
  · obtain ⟨h0, h1⟩ := (head_two l 69 (by decide)).1 hh
    have h0' : nx l 0 = 69 := h0
    have hl : 2 ≤ l.length := by have := nx_lt (l := l) (i := 1) (by omega); omega
    have hr : Rdr.pass l 32 (Rdr.pass l 69 ⟨0, false⟩) = ⟨2, false⟩ := by rw [pass_good h0', pass_good h1]
    have e3 : r3 l = Rdr.number l ⟨2, false⟩ := by unfold r3; rw [hr]
    obtain ⟨n1, n2⟩ := number_spec l 2 hl
    by_cases hn : 0 ≤ (numAt l 2).2
    · obtain ⟨f1, f2⟩ := n1 hn
      rw [f1] at e3
      obtain ⟨p1, p2⟩ := blank_spec l (numAt l 2).2 hn
      by_cases hp1 : 0 ≤ evP1 l
      · obtain ⟨q1, q2⟩ := p1 hp1
        have e4 : Rdr.pass l 32 (r3 l).2 = ⟨(evP1 l).toNat, false⟩ := by rw [e3]; exact q1
        have e5 : r5 l = Rdr.number l ⟨(evP1 l).toNat, false⟩ := by unfold r5; rw [e4]
        have q2' : evP1 l ≤ l.length := q2
        obtain ⟨n3, n4⟩ := number_spec l (evP1 l).toNat (by omega)
        by_cases hn2 : 0 ≤ (numAt l (evP1 l).toNat).2
        · obtain ⟨f3, f4⟩ := n3 hn2
          rw [f3] at e5
          obtain ⟨p3, p4⟩ := blank_spec l (numAt l (evP1 l).toNat).2 hn2
          by_cases hp2 : 0 ≤ evP2 l
          · obtain ⟨q3, q4⟩ := p3 hp2
            have e6 : Rdr.pass l 32 (r5 l).2 = ⟨(evP2 l).toNat, false⟩ := by rw [e5]; exact q3
            have q4' : evP2 l ≤ l.length := q4
            have e7 : r7 l = Rdr.kind l ⟨(evP2 l).toNat, false⟩ := by unfold r7; rw [e6]
            by_cases hk : nx l (evP2 l).toNat < 65 ∨ 90 < nx l (evP2 l).toNat
            · refine out (P := True) ?_ (Or.inl (b9 ?_))
              · unfold isEv
                rw [nx_byte]
                rcases hk with hk | hk
                · have : (nx l (evP2 l).toNat : Int) < 65 := by omega
                  simp [this]
                · have : (90 : Int) < (nx l (evP2 l).toNat : Int) := by omega
                  simp [this]
              · rw [e7]; unfold Rdr.kind; rw [if_pos hk]
            · have hlt : (evP2 l).toNat < l.length := nx_lt (by omega)
              have e7' : r7 l = ((nx l (evP2 l).toNat : Int), ⟨(evP2 l).toNat + 1, false⟩) := by rw [e7]; unfold Rdr.kind; rw [if_neg hk]
              have hcast : (evP2 l).toNat + 1 = (evP2 l + 1).toNat := by omega
              obtain ⟨p5, p6⟩ := blank_spec l (evP2 l + 1) (by omega)
              by_cases hp3 : 0 ≤ evP3 l
              · obtain ⟨q5, q6⟩ := p5 hp3
                have e8 : Rdr.pass l 32 (r7 l).2 = ⟨(evP3 l).toNat, false⟩ := by rw [e7']; simp only; rw [hcast]; exact q5
                have q6' : evP3 l ≤ l.length := q6
                have e9 : r9 l = Rdr.number l ⟨(evP3 l).toNat, false⟩ := by unfold r9; rw [e8]
                obtain ⟨n5, n6⟩ := number_spec l (evP3 l).toNat (by omega)
                have hiff : isEv l = decide ((numAt l (evP3 l).toNat).2 = (l.length : Int)) := by
                  unfold isEv
                  rw [hh, nx_byte]
                  have a1 : ¬ evP1 l < 0 := by omega
                  have a2 : ¬ evP2 l < 0 := by omega
                  have a3 : ¬ (l.length : Int) ≤ evP2 l := by omega
                  have a4 : ¬ (nx l (evP2 l).toNat : Int) < 65 := by omega
                  have a5 : ¬ (90 : Int) < (nx l (evP2 l).toNat : Int) := by omega
                  have a6 : ¬ evP3 l < 0 := by omega
                  simp only [a1, a2, a3, a4, a5, a6, decide_false, Bool.not_false, Bool.and_true, Bool.true_and]
                by_cases hn3 : 0 ≤ (numAt l (evP3 l).toNat).2
                · obtain ⟨f5, f6⟩ := n5 hn3
                  rw [f5] at e9
                  rw [hiff, e9]
                  simp only [decide_eq_true_eq]
                  refine ⟨⟨fun h => by have := h.2; omega, fun h => ⟨trivial, by omega⟩⟩, fun h => ?_⟩
                  unfold rPush evOf
                  rw [e3, e5, e7', e9, nx_byte]
                · refine out (P := True) ?_ (Or.inr (by rw [e9]; exact n6 (by omega)))
                  rw [hiff]; simp; omega
              · refine out (P := True) ?_ (Or.inl (number_bad ?_))
                · unfold isEv
                  have : evP3 l < 0 := by omega
                  simp [this]
                · rw [e7']; simp only; rw [hcast]; exact p6 (show blankAt l (evP2 l + 1) < 0 by unfold evP3 at hp3; omega)
          · refine out (P := True) ?_ (Or.inl (b7 ?_))
            · unfold isEv
              have : evP2 l < 0 := by omega
              simp [this]
            · rw [e5]; exact p4 (by unfold evP2 at hp2; omega)
        · have hneg : evP2 l < 0 := by unfold evP2 blankAt; rw [if_pos (Or.inl (by omega))]; omega
          refine out (P := True) ?_ (Or.inl (b7 (dead_pass ?_)))
          · unfold isEv; simp [hneg]
          · rw [e5]; exact n4 (by omega)
      · refine out (P := True) ?_ (Or.inl (b5 ?_))
        · unfold isEv
          have : evP1 l < 0 := by omega
          simp [this]
        · rw [e3]; exact p2 (by unfold evP1 at hp1; omega)
    · have hneg : evP1 l < 0 := by unfold evP1 blankAt; rw [if_pos (Or.inl (by omega))]; omega
      refine out (P := True) ?_ (Or.inl (b5 (dead_pass ?_)))
      · unfold isEv; simp [hneg]
      · rw [e3]; exact n2 (by omega)
  · have hb : (Rdr.pass l 32 (Rdr.pass l 69 ⟨0, false⟩)).bad = true := by
      by_cases h0 : nx l 0 = 69
      · rw [pass_good h0]
        refine pass_off (fun h1 => hh ((head_two l 69 (by decide)).2 ⟨h0, h1⟩))
      · exact pass_bad (pass_off h0)
    refine out (P := True) ?_ (Or.inl (b5 (pass_bad (number_bad hb))))
    unfold isEv
    have : (l.take 2 == [69, 32]) = false := by simpa using hh
    rw [this]; simp
theorem ev_not_punct (l : List UInt8) : (nx l 0 = 80 → isEv l = false) ∧ (nx l 0 ≠ 80 → (punctOf l).2 = false) := by
  refine ⟨fun h => ?_, fun h => ?_⟩
  · cases hb : (l.take 2 == [69, 32]) with
    | true => have := ((head_two l 69 (by decide)).1 hb).1; rw [h] at this; exact absurd this (by decide)
    | false => unfold isEv; rw [hb]; simp
  · unfold punctOf
    cases hb : (l.take 2 == [80, 32]) with
    | true => have := ((head_two l 80 (by decide)).1 hb).1; exact absurd this h
    | false => simp
end Go.Proofs.YtghcololkgeoeabGreat
namespace Go.Proofs.YtghcololkgeoeabGreat
open Go.RowKit
set_option linter.unusedVariables false
set_option linter.unusedSimpArgs false

theorem yPu_r (l : List UInt8) : yPu l ⟨0, false⟩ = rPunct l := rfl
theorem yP9_r (l : List UInt8) : yP9 l ⟨0, false⟩ = r9 l := rfl
theorem yEv_r (l : List UInt8) : yEv l ⟨0, false⟩ = rPush l := rfl
theorem readOf_ev {l : List UInt8} (hl : l.length ≤ 40) (he : isEv l = true) : readOf l = ⟨1, evOf l, 0⟩ := by
  have h80 : nx l 0 ≠ 80 := fun e => by rw [(ev_not_punct l).1 e] at he; cases he
  have hy : yLine l ⟨0, false⟩ = (⟨1, rPush l, 0⟩, (r9 l).2) := by
    unfold yLine
    rw [if_neg h80, yP9_r, yEv_r]
  obtain ⟨h1, h2⟩ := rPush_spec l
  obtain ⟨h3, h4⟩ := h1.2 he
  unfold readOf
  rw [if_neg (by omega), hy]
  simp only
  rw [if_neg (by rw [h3]; simp; omega), h2 he]
theorem readOf_punct {l : List UInt8} (hl : l.length ≤ 40) (hp : (punctOf l).2 = true) : readOf l = ⟨2, zE, (punctOf l).1⟩ := by
  have h80 : nx l 0 = 80 := Classical.byContradiction fun e => by rw [(ev_not_punct l).2 e] at hp; cases hp
  have hy : yLine l ⟨0, false⟩ = (⟨2, zE, (rPunct l).1⟩, (rPunct l).2) := by
    unfold yLine
    rw [if_pos h80, yPu_r]
  obtain ⟨h1, h2⟩ := rPunct_spec l
  obtain ⟨h3, h4⟩ := h1.2 hp
  unfold readOf
  rw [if_neg (by omega), hy]
  simp only
  rw [if_neg (by rw [h3]; simp; omega), h2 hp]
theorem readOf_bad {l : List UInt8} (h : 40 < l.length ∨ (isEv l = false ∧ (punctOf l).2 = false)) : readOf l = zSaid := by
  unfold readOf
  by_cases h40 : 40 < l.length
  · rw [if_pos h40]
  · rw [if_neg h40]
    have hb := h.resolve_left h40
    rw [if_pos]
    unfold yLine
    by_cases h80 : nx l 0 = 80
    · rw [if_pos h80, yPu_r]
      simp only
      have n : ¬ ((rPunct l).2.bad = false ∧ l.length ≤ (rPunct l).2.pos) := fun e => by have := (rPunct_spec l).1.1 e; rw [hb.2] at this; cases this
      cases hh : (rPunct l).2.bad with
      | true => exact Or.inl rfl
      | false => exact Or.inr (Nat.lt_of_not_le fun e => n ⟨hh, e⟩)
    · rw [if_neg h80, yP9_r]
      simp only
      have n : ¬ ((r9 l).2.bad = false ∧ l.length ≤ (r9 l).2.pos) := fun e => by have := (rPush_spec l).1.1 e; rw [hb.1] at this; cases this
      cases hh : (r9 l).2.bad with
      | true => exact Or.inl rfl
      | false => exact Or.inr (Nat.lt_of_not_le fun e => n ⟨hh, e⟩)
theorem readOf_kind (l : List UInt8) : (readOf l).k = 0 ∨ (readOf l).k = 1 ∨ (readOf l).k = 2 := by
  by_cases h : 40 < l.length ∨ (isEv l = false ∧ (punctOf l).2 = false)
  · rw [readOf_bad h]; exact Or.inl rfl
  · cases he : isEv l with
    | true => rw [readOf_ev (by omega) he]; exact Or.inr (Or.inl rfl)
    | false =>
      cases hp : (punctOf l).2 with
      | true => rw [readOf_punct (by omega) hp]; exact Or.inr (Or.inr rfl)
      | false => exact absurd (Or.inr ⟨he, hp⟩) h
end Go.Proofs.YtghcololkgeoeabGreat
