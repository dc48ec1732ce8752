import Derived.Test.YtghcololkgeoeabGreatPartA0
import Derived.Test.YtghcololkgeoeabGreatPartA1
import Derived.Deep.RegionHeld3
import Derived.Deep.RegionLaw
import Derived.Deep.AppendLies
import Derived.Deep.CutBlock
import Derived.Deep.DeepCutAuto
import Derived.Deep.DrawnRows
import Derived.Lib.IndexBytes
import Derived.Deep.QuietTactic
import Derived.BigQuiet
import Derived.Test.YtghcololkgeoeabGreatPartA3
namespace Go.Proofs.YtghcololkgeoeabGreat
open Go.RowKit
set_option linter.unusedVariables false
set_option linter.unusedSimpArgs false

def nx (l : List UInt8) (i : Nat) : Nat := (l[i]?.getD 0).toNat
theorem nx_byte (l : List UInt8) (i : Nat) : byteAt l i = (nx l i : Int) := rfl
theorem nx_end {l : List UInt8} {i : Nat} (h : l.length ≤ i) : nx l i = 0 := by unfold nx; rw [List.getElem?_eq_none h]; rfl
theorem nx_lt {l : List UInt8} {i : Nat} (h : nx l i ≠ 0) : i < l.length := by
  rcases Nat.lt_or_ge i l.length with h1 | h1
  · exact h1
  · exact absurd (nx_end h1) h
structure Rdr where
  pos : Nat
  bad : Bool
def Rdr.pass (l : List UInt8) (b : Nat) (r : Rdr) : Rdr := if nx l r.pos = b then ⟨r.pos + 1, r.bad⟩ else ⟨r.pos, true⟩
def Rdr.kind (l : List UInt8) (r : Rdr) : Int × Rdr := if nx l r.pos < 65 ∨ 90 < nx l r.pos then (0, ⟨r.pos, true⟩) else ((nx l r.pos : Int), ⟨r.pos + 1, r.bad⟩)
def dig13 (L : List UInt8) : Nat := min 13 (L.takeWhile isDig).length
def Rdr.digits (l : List UInt8) (r : Rdr) : Int × Rdr := (numOf 0 ((l.drop r.pos).take (dig13 (l.drop r.pos))), ⟨r.pos + dig13 (l.drop r.pos), r.bad || dig13 (l.drop r.pos) == 0⟩)
def Rdr.number (l : List UInt8) (r : Rdr) : Int × Rdr := if nx l r.pos = 45 then (-(Rdr.digits l ⟨r.pos + 1, r.bad⟩).1, (Rdr.digits l ⟨r.pos + 1, r.bad⟩).2) else Rdr.digits l r
def rPunct (l : List UInt8) : Int × Rdr := Rdr.number l (Rdr.pass l 32 (Rdr.pass l 80 ⟨0, false⟩))
def r3 (l : List UInt8) : Int × Rdr := Rdr.number l (Rdr.pass l 32 (Rdr.pass l 69 ⟨0, false⟩))
def r5 (l : List UInt8) : Int × Rdr := Rdr.number l (Rdr.pass l 32 (r3 l).2)
def r7 (l : List UInt8) : Int × Rdr := Rdr.kind l (Rdr.pass l 32 (r5 l).2)
def r9 (l : List UInt8) : Int × Rdr := Rdr.number l (Rdr.pass l 32 (r7 l).2)
end Go.Proofs.YtghcololkgeoeabGreat
namespace Go.Proofs.YtghcololkgeoeabGreat
open Go.RowKit
set_option linter.unusedVariables false
set_option linter.unusedSimpArgs false
attribute [local go_sem ↓] Go.wp_at_zero Go.wp_at_succ

def RdB (w : World) (b : Nat) (s : ByteArray) (r : Rdr) : Prop := Blk w b 155 [.string s, .int .i64 r.pos, .bool r.bad]
theorem rdRet8 {a b : Int} (h : a = b) : Ending.returned (.int .u8 a) = .returned (.int .u8 b) := by rw [h]
theorem rdRet {a b : Int} (h : a = b) : Ending.returned (.int .i64 a) = .returned (.int .i64 b) := by rw [h]
theorem hexY {α : Type} (a : α) : ∃ x, Hid (x = a) := ⟨a, rfl⟩
theorem nx_get (s : ByteArray) (i : Nat) (h : i < s.size) : nx s.data.toList i = s[i].toNat := by
  unfold nx
  have h' : i < s.data.toList.length := h
  rw [List.getElem?_eq_getElem h']
  rfl
theorem nx_u8 (l : List UInt8) (i : Nat) : nx l i < 256 := by
  unfold nx
  exact UInt8.toNat_lt _
set_option maxRecDepth 100000 in
set_option maxHeartbeats 1000000 in
theorem ynext_any (b : Nat) (s : ByteArray) (r : Rdr) (w : World) (h : RdB w b s r) (hs : s.size ≤ 100) (hp : r.pos ≤ s.size) :
    Calls Tryz.prog 105 #[.pointer (some ⟨b, 0, none⟩)] w fun e w' => e = .returned (.int .u8 (nx s.data.toList r.pos)) ∧ ∃ n, w' = w.drewN n := by
  have c0 := h.cell 0
  have c1 := h.cell 1
  simp only [List.getElem?_cons_zero, List.getElem?_cons_succ] at c0 c1
  by_cases hlt : r.pos < s.size
  · have hlt' : (r.pos : Int) < (s.size : Int) := by omega
    have hp0 : (0 : Int) ≤ (r.pos : Int) := by omega
    have HX : Hid (nx s.data.toList r.pos = s[r.pos].toNat) := nx_get s r.pos hlt
    go_enter Tryz.func105, Tryz.ntmps105
    go_wp2
    go_quiet (fail)
    go_wp2
    go_quiet (fail)
    go_wp2
    go_ret
    exact ⟨rdRet8 (by rw [HX.out]), _, by rw [World.drewN_drewN]⟩
  · have hge : (s.size : Int) ≤ (r.pos : Int) := by omega
    have HX : Hid (nx s.data.toList r.pos = 0) := nx_end (by have : s.data.toList.length = s.size := rfl; omega)
    go_enter Tryz.func105, Tryz.ntmps105
    go_wp2
    go_quiet (fail)
    go_wp2
    go_ret
    exact ⟨rdRet8 (by rw [HX.out]; rfl), _, rfl⟩
structure RdE (w : World) (b : Nat) (s : ByteArray) (w' : World) (r' : Rdr) : Prop where
  mem : RdB w' b s r'
  os : w'.os = w.os
  tape : w'.tape = w.tape
  output : w'.output = w.output
  size : w.heap.size ≤ w'.heap.size
  block : ∀ k, k < w.heap.size → k ≠ b → w'.heap[k]? = w.heap[k]?
theorem RdE.refl {w : World} {b : Nat} {s : ByteArray} {r : Rdr} (h : RdB w b s r) : RdE w b s w r := ⟨h, rfl, rfl, rfl, Nat.le_refl _, fun _ _ _ => rfl⟩
theorem RdE.drewN {w w' : World} {b : Nat} {s : ByteArray} {r' : Rdr} (h : RdE w b s w' r') (n : Nat) : RdE w b s (w'.drewN n) r' := ⟨h.mem, h.os, h.tape, h.output, h.size, h.block⟩
theorem RdE.trans {w w1 w2 : World} {b : Nat} {s : ByteArray} {r1 r2 : Rdr} (h : RdE w b s w1 r1) (g : RdE w1 b s w2 r2) : RdE w b s w2 r2 :=
  ⟨g.mem, g.os.trans h.os, g.tape.trans h.tape, g.output.trans h.output, Nat.le_trans h.size g.size, fun k hk hn => (g.block k (Nat.lt_of_lt_of_le hk h.size) hn).trans (h.block k hk hn)⟩
theorem RdE.pos {w w' : World} {b : Nat} {s : ByteArray} {r r' : Rdr} (h : RdE w b s w' r) (p : Nat) (hr : r' = ⟨p, r.bad⟩) : RdE w b s (w'.setCell ⟨b, 1, none⟩ (.int .i64 p)) r' := by
  subst hr
  refine ⟨?_, h.os, h.tape, h.output, by simpa [World.setCell] using h.size, fun k hk hn => ?_⟩
  · have := h.mem.set 1 (.int .i64 p); simpa [RdB] using this
  · rw [Below.heap_setCell _ _ _ _ hn]; exact h.block k hk hn
theorem RdE.spoil {w w' : World} {b : Nat} {s : ByteArray} {r r' : Rdr} (h : RdE w b s w' r) (hr : r' = ⟨r.pos, true⟩) : RdE w b s (w'.setCell ⟨b, 2, none⟩ (.bool true)) r' := by
  subst hr
  refine ⟨?_, h.os, h.tape, h.output, by simpa [World.setCell] using h.size, fun k hk hn => ?_⟩
  · have := h.mem.set 2 (.bool true); simpa [RdB] using this
  · rw [Below.heap_setCell _ _ _ _ hn]; exact h.block k hk hn
set_option maxRecDepth 100000 in
set_option maxHeartbeats 1000000 in
theorem ypass_any (b : Nat) (s : ByteArray) (r : Rdr) (c : Nat) (w : World) (h : RdB w b s r) (hs : s.size ≤ 100) (hp : r.pos ≤ s.size) (hc : c < 256) :
    Calls Tryz.prog 111 #[.pointer (some ⟨b, 0, none⟩), .int .u8 c] w fun e w' => e = .returned (.tuple #[]) ∧ RdE w b s w' (Rdr.pass s.data.toList c r) := by
  have H : Hid (RdB w b s r) := h
  have c1 := h.cell 1
  have c2 := h.cell 2
  have f1 := h.frozen 1
  have f2 := h.frozen 2
  simp only [List.getElem?_cons_zero, List.getElem?_cons_succ] at c1 c2
  clear h
  by_cases he : nx s.data.toList r.pos = c
  · have HN : Hid ((nx s.data.toList r.pos : Int) = (c : Int)) := by show _ = _; omega
    have HP : Hid (Rdr.pass s.data.toList c r = ⟨r.pos + 1, r.bad⟩) := by show _ = _; unfold Rdr.pass; rw [if_pos he]
    clear he
    go_enter Tryz.func111, Tryz.ntmps111
    go_wp2_with (go_at_call 105; refine (ynext_any b s r _ H.out hs hp).mono ?_; rintro e w2 ⟨rfl, nq, rfl⟩; rw [HN.out])
    go_end0
    exact ⟨rfl, ((RdE.refl H.out).drewN nq).pos (r.pos + 1) HP.out⟩
  · have HP : Hid (Rdr.pass s.data.toList c r = ⟨r.pos, true⟩) := by show _ = _; unfold Rdr.pass; rw [if_neg he]
    have hne : ((nx s.data.toList r.pos : Int) != (c : Int)) = true := by simp; omega
    clear he
    go_enter Tryz.func111, Tryz.ntmps111
    go_wp2_with (go_at_call 105; refine (ynext_any b s r _ H.out hs hp).mono ?_; rintro e w2 ⟨rfl, nq, rfl⟩)
    exact bodyPost_ret (results_none rfl _ _ _) rfl ⟨rfl, ((RdE.refl H.out).drewN nq).spoil HP.out⟩
set_option maxRecDepth 100000 in
set_option maxHeartbeats 1000000 in
theorem ykind_any (b : Nat) (s : ByteArray) (r : Rdr) (w : World) (h : RdB w b s r) (hs : s.size ≤ 100) (hp : r.pos ≤ s.size) :
    Calls Tryz.prog 113 #[.pointer (some ⟨b, 0, none⟩)] w fun e w' => e = .returned (.int .i64 (Rdr.kind s.data.toList r).1) ∧ RdE w b s w' (Rdr.kind s.data.toList r).2 := by
  have H : Hid (RdB w b s r) := h
  have c1 := h.cell 1
  have c2 := h.cell 2
  have f1 := h.frozen 1
  have f2 := h.frozen 2
  simp only [List.getElem?_cons_zero, List.getElem?_cons_succ] at c1 c2
  clear h
  have hb := nx_u8 s.data.toList r.pos
  have HK : Hid (Rdr.kind s.data.toList r = if nx s.data.toList r.pos < 65 ∨ 90 < nx s.data.toList r.pos then (0, ⟨r.pos, true⟩) else ((nx s.data.toList r.pos : Int), ⟨r.pos + 1, r.bad⟩)) := rfl
  obtain ⟨x, HX⟩ := hexY (nx s.data.toList r.pos)
  have hnx : ∀ u, RdB u b s r → Calls Tryz.prog 105 #[.pointer (some ⟨b, 0, none⟩)] u fun e w' => e = .returned (.int .u8 x) ∧ ∃ n, w' = u.drewN n := fun u hu => by rw [HX.out]; exact ynext_any b s r u hu hs hp
  rw [← HX.out] at HK hb
  have hw : IntKind.i64.wrap (x : Int) = (x : Int) := by rw [IntKind.wrap_i64]; omega
  by_cases h1 : (x : Int) < 65
  · have HR : Hid (Rdr.kind s.data.toList r = (0, ⟨r.pos, true⟩)) := by show _ = _; rw [HK.out, if_pos (Or.inl (by omega))]
    go_enter Tryz.func113, Tryz.ntmps113
    go_wp2_with (go_at_call 105; refine (hnx _ H.out).mono ?_; rintro e w2 ⟨rfl, nq, rfl⟩)
    go_ret
    exact ⟨rdRet (by rw [HR.out]), ((RdE.refl H.out).drewN nq).spoil (by rw [HR.out])⟩
  · have d1 : decide ((x : Int) < 65) = false := by simpa using h1
    by_cases h2 : (90 : Int) < (x : Int)
    · have HR : Hid (Rdr.kind s.data.toList r = (0, ⟨r.pos, true⟩)) := by show _ = _; rw [HK.out, if_pos (Or.inr (by omega))]
      go_enter Tryz.func113, Tryz.ntmps113
      go_wp2_with (go_at_call 105; refine (hnx _ H.out).mono ?_; rintro e w2 ⟨rfl, nq, rfl⟩)
      go_ret
      exact ⟨rdRet (by rw [HR.out]), ((RdE.refl H.out).drewN nq).spoil (by rw [HR.out])⟩
    · have d2 : decide ((90 : Int) < (x : Int)) = false := by simpa using h2
      have HR : Hid (Rdr.kind s.data.toList r = ((x : Int), ⟨r.pos + 1, r.bad⟩)) := by show _ = _; rw [HK.out, if_neg (by omega)]
      go_enter Tryz.func113, Tryz.ntmps113
      go_wp2_with (go_at_call 105; refine (hnx _ H.out).mono ?_; rintro e w2 ⟨rfl, nq, rfl⟩)
      go_ret
      exact ⟨rdRet (by rw [HR.out]), ((RdE.refl H.out).drewN nq).pos (r.pos + 1) (by rw [HR.out])⟩
end Go.Proofs.YtghcololkgeoeabGreat
namespace Go.Proofs.YtghcololkgeoeabGreat
open Go.RowKit
set_option linter.unusedVariables false
set_option linter.unusedSimpArgs false
attribute [local go_sem ↓] Go.wp_at_zero Go.wp_at_succ

theorem tw_more {L : List UInt8} {k : Nat} {c : UInt8} (h : k ≤ (L.takeWhile isDig).length) (hc : L[k]? = some c) (hd : isDig c = true) : k + 1 ≤ (L.takeWhile isDig).length := by
  induction L generalizing k with
  | nil => simp at hc
  | cons a L ih =>
    rw [List.takeWhile_cons] at h ⊢
    cases k with
    | zero =>
      simp only [List.getElem?_cons_zero, Option.some.injEq] at hc
      subst hc
      rw [if_pos hd]; simp
    | succ k =>
      split at h
      · rename_i ha
        rw [if_pos ha]
        simp only [List.length_cons] at h ⊢
        simp only [List.getElem?_cons_succ] at hc
        have := ih (k := k) (by omega) hc
        omega
      · simp at h
theorem tw_end {L : List UInt8} {k : Nat} (h : k ≤ (L.takeWhile isDig).length) (hc : ∀ c, L[k]? = some c → isDig c = false) : (L.takeWhile isDig).length = k := by
  induction L generalizing k with
  | nil => simp at h ⊢; omega
  | cons a L ih =>
    rw [List.takeWhile_cons] at h ⊢
    cases k with
    | zero =>
      have := hc a (by simp)
      rw [if_neg (by simp [this])]; rfl
    | succ k =>
      split at h
      · rename_i ha
        rw [if_pos ha]
        simp only [List.length_cons] at h ⊢
        rw [ih (k := k) (by omega) (fun c h' => hc c (by simpa using h'))]
      · simp at h
theorem numOf_snocY (v : Int) (l : List UInt8) (c : UInt8) : numOf v (l ++ [c]) = 10 * numOf v l + ((c.toNat : Int) - 48) := by unfold numOf; rw [List.foldl_append]; rfl
def posAt (w : World) (b : Nat) : Nat := match w.cell? ⟨b, 1, none⟩ with | some (.int _ p) => p.toNat | _ => 0
theorem posAt_is {w : World} {b : Nat} {s : ByteArray} {r : Rdr} (h : RdB w b s r) : posAt w b = r.pos := by
  have := h.cell 1
  simp only [List.getElem?_cons_zero, List.getElem?_cons_succ] at this
  unfold posAt
  rw [this]
  simp
structure DigK (w wr : World) (b : Nat) (s : ByteArray) (r : Rdr) (k p : Nat) (n : Int) : Prop where
  k13 : k ≤ 13
  at_ : p = r.pos + k
  tw : k ≤ ((s.data.toList.drop r.pos).takeWhile isDig).length
  num : n = numOf 0 ((s.data.toList.drop r.pos).take k)
  n0 : 0 ≤ n
  n1 : n < (10 : Int) ^ k
  evo : RdE w b s wr ⟨p, r.bad⟩
theorem DigK.step {w wr w' : World} {b : Nat} {s : ByteArray} {r : Rdr} {k p : Nat} {n : Int} (h : DigK w wr b s r k p n) (hk : k < 13) {x : Nat} (hx : x = nx s.data.toList p) (h1 : 48 ≤ x) (h2 : x ≤ 57) (he : RdE w b s w' ⟨p + 1, r.bad⟩) : DigK w w' b s r (k + 1) (p + 1) (10 * n + ((x : Int) - 48)) := by
  have hlt : p < s.data.toList.length := nx_lt (by rw [← hx]; omega)
  obtain ⟨c, hc⟩ : ∃ c, s.data.toList[p]? = some c := ⟨_, List.getElem?_eq_getElem hlt⟩
  have hcx : c.toNat = x := by rw [hx]; unfold nx; rw [hc]; rfl
  have hdk : (s.data.toList.drop r.pos)[k]? = some c := by rw [List.getElem?_drop, ← h.at_]; exact hc
  have hd : isDig c = true := by simp only [isDig, decide_eq_true_eq]; omega
  have hkl : k < (s.data.toList.drop r.pos).length := (List.getElem?_eq_some_iff.1 hdk).1
  have hgk : (s.data.toList.drop r.pos)[k] = c := (List.getElem?_eq_some_iff.1 hdk).2
  have h0 := h.n0
  have h9 := h.n1
  refine ⟨by omega, by rw [h.at_]; omega, tw_more h.tw hdk hd, ?_, by omega, ?_, he⟩
  · rw [List.take_succ_eq_append_getElem hkl, hgk, numOf_snocY, ← h.num, hcx]
  · rw [Int.pow_succ]; omega
theorem DigK.fin {w wr : World} {b : Nat} {s : ByteArray} {r : Rdr} {k p : Nat} {n : Int} (h : DigK w wr b s r k p n) {x : Nat} (hx : x = nx s.data.toList p) (hc : k = 13 ∨ ¬ (48 ≤ x ∧ x ≤ 57)) : Rdr.digits s.data.toList r = (n, ⟨p, r.bad || k == 0⟩) := by
  have hd : dig13 (s.data.toList.drop r.pos) = k := by
    unfold dig13
    have ht := h.tw
    have hk := h.k13
    rcases hc with hc | hc
    · omega
    · rw [tw_end ht (fun c hc' => ?_)]
      · omega
      · rw [List.getElem?_drop, ← h.at_] at hc'
        have : x = c.toNat := by rw [hx]; unfold nx; rw [hc']; rfl
        simp only [isDig, decide_eq_false_iff_not]
        rw [← this]; exact hc
  unfold Rdr.digits
  rw [hd, ← h.num, ← h.at_]
set_option maxRecDepth 100000 in
set_option maxHeartbeats 4000000 in
theorem ydigits_any (b : Nat) (s : ByteArray) (r : Rdr) (w : World) (h : RdB w b s r) (hs : s.size ≤ 100) (hp : r.pos ≤ s.size) :
    Calls Tryz.prog 115 #[.pointer (some ⟨b, 0, none⟩)] w fun e w' => e = .returned (.int .i64 (Rdr.digits s.data.toList r).1) ∧ RdE w b s w' (Rdr.digits s.data.toList r).2 ∧ 0 ≤ (Rdr.digits s.data.toList r).1 ∧ (Rdr.digits s.data.toList r).1 < 10000000000000 := by
  have hlen : s.data.toList.length = s.size := rfl
  have H : Hid (RdB w b s r) := h
  have c1 := h.cell 1
  simp only [List.getElem?_cons_zero, List.getElem?_cons_succ] at c1
  clear h
  obtain ⟨f0, HF0⟩ := hexY r.pos
  rw [← HF0.out] at c1
  go_enter Tryz.func115, Tryz.ntmps115
  go_upto_region 4 with (go_at_call 105; refine (ynext_any b s r _ H.out hs hp).mono ?_; rintro e w2 ⟨rfl, nq, hq⟩; have HQ : Hid (w2 = w.drewN nq) := hq; clear hq)
  have HE0 : Hid (RdE w b s w2 r) := by show RdE _ _ _ _ _; rw [HQ.out]; exact (RdE.refl H.out).drewN nq
  clear HQ c1
  go_loopw [4, 5] (fun n x wr => ∃ (k p : Nat) (v : Int), n = .int .i64 v ∧ x = .int .u8 (nx s.data.toList p) ∧ DigK w wr b s r k p v) (fun _ _ wr => r.pos + 13 - posAt wr b)
  case atStart => exact ⟨0, r.pos, 0, rfl, rfl, ⟨by omega, rfl, by omega, by simp [numOf], by omega, by decide, HE0.out⟩⟩
  case round =>
    obtain ⟨k, p, v, rfl, rfl, hk⟩ := hrel
    have HK : Hid (DigK w wr b s r k p v) := hk
    have hk13 := hk.k13
    have hv0 := hk.n0
    have hat : p = f0 + k := by rw [HF0.out]; exact hk.at_
    have hps : f0 ≤ 100 := by rw [HF0.out]; omega
    have hv1 : v < 10000000000000 := by
      have h1 := hk.n1
      have h3 : (10 : Nat) ^ k ≤ 10 ^ 13 := Nat.pow_le_pow_right (by omega) hk13
      have h2 : (10 : Int) ^ k ≤ 10 ^ 13 := by
        have := Int.ofNat_le.2 h3
        simpa using this
      have h4 : (10 : Int) ^ 13 = 10000000000000 := by decide
      omega
    clear hk HE0
    have c1 := HK.out.evo.mem.cell 1
    have c2 := HK.out.evo.mem.cell 2
    have f1 := HK.out.evo.mem.frozen 1
    have f2 := HK.out.evo.mem.frozen 2
    simp only [List.getElem?_cons_zero, List.getElem?_cons_succ] at c1 c2
    have hxb := nx_u8 s.data.toList p
    obtain ⟨x, HX⟩ := hexY (nx s.data.toList p)
    rw [← HX.out] at hxb ⊢
    have hsub : (p : Int) - (f0 : Int) = (k : Int) := by omega
    have HPos : Hid (posAt wr b = p) := posAt_is HK.out.evo.mem
    have HAt : Hid (p = f0 + k) := hat
    clear hat
    have HV : Hid (0 ≤ v ∧ v < 10000000000000) := ⟨hv0, hv1⟩
    by_cases h1 : (48 : Int) ≤ (x : Int)
    · by_cases h2 : (x : Int) ≤ 57
      · by_cases h3 : (k : Int) < 13
        · have hlt : p < s.size := by rw [← hlen]; exact nx_lt (by rw [← HX.out]; omega)
          have hnp : p + 1 ≤ s.size := by omega
          have hw8 : IntKind.u8.wrap ((x : Int) - 48) = (x : Int) - 48 := by rw [IntKind.wrap_u8]; omega
          have hw64 : IntKind.i64.wrap ((x : Int) - 48) = (x : Int) - 48 := by rw [IntKind.wrap_i64]; omega
          have hm10 : IntKind.i64.wrap (10 * v) = 10 * v := by rw [IntKind.wrap_i64]; omega
          have hadd : IntKind.i64.wrap (10 * v + ((x : Int) - 48)) = 10 * v + ((x : Int) - 48) := by rw [IntKind.wrap_i64]; omega
          go_upto_region 7 with fail
          have HE1 : Hid (RdE w b s (wr.setCell ⟨b, 1, none⟩ (.int .i64 ((p : Int) + 1))) ⟨p + 1, r.bad⟩) := HK.out.evo.pos (p + 1) rfl
          clear c1 c2 f1 f2
          generalize wr.setCell ⟨b, 1, none⟩ (.int .i64 ((p : Int) + 1)) = w5 at *
          have hnx : ∀ u, RdB u b s ⟨p + 1, r.bad⟩ → Calls Tryz.prog 105 #[.pointer (some ⟨b, 0, none⟩)] u fun e w' => e = .returned (.int .u8 (nx s.data.toList (p + 1))) ∧ ∃ n, w' = u.drewN n := fun u hu => ynext_any b s ⟨p + 1, r.bad⟩ u hu hs hnp
          go_wp2_with (go_at_call 105; refine (hnx _ HE1.out.mem).mono ?_; rintro e w6 ⟨rfl, nq, rfl⟩)
          go_roundw
          case rel => exact ⟨k + 1, p + 1, _, rfl, rfl, HK.out.step (by omega) HX.out (by omega) (by omega) (HE1.out.drewN nq)⟩
          case measure =>
            have e1 : posAt (w5.drewN nq) b = p + 1 := posAt_is (HE1.out.drewN nq).mem
            have e2 := HPos.out
            have e3 := HAt.out
            have e4 := HF0.out
            rw [e1, e2]; omega
        · have hk' : k = 13 := by omega
          have HFin : Hid (Rdr.digits s.data.toList r = (v, ⟨p, r.bad || k == 0⟩)) := HK.out.fin HX.out (Or.inl hk')
          have d3 : decide ((k : Int) < 13) = false := by simpa using h3
          have hpf : ((p : Int) == (f0 : Int)) = false := by have := HAt.out; simp; omega
          go_wp2
          go_ret
          rw [HFin.out]
          have hz : (k == 0) = false := by simp; omega
          exact ⟨rfl, by simp only [hz, Bool.or_false]; exact HK.out.evo, HV.out⟩
      · have HFin : Hid (Rdr.digits s.data.toList r = (v, ⟨p, r.bad || k == 0⟩)) := HK.out.fin HX.out (Or.inr (by omega))
        have d2 : decide ((x : Int) ≤ 57) = false := by simpa using h2
        by_cases hk0 : k = 0
        · have hpf : (p : Int) = (f0 : Int) := by have := HAt.out; omega
          go_wp2
          go_ret
          rw [HFin.out]
          exact ⟨rfl, HK.out.evo.spoil (by simp [hk0]), HV.out⟩
        · have hpf : ((p : Int) == (f0 : Int)) = false := by have := HAt.out; simp; omega
          go_wp2
          go_ret
          rw [HFin.out]
          have hz : (k == 0) = false := by simp; omega
          exact ⟨rfl, by simp only [hz, Bool.or_false]; exact HK.out.evo, HV.out⟩
    · have HFin : Hid (Rdr.digits s.data.toList r = (v, ⟨p, r.bad || k == 0⟩)) := HK.out.fin HX.out (Or.inr (by omega))
      have d1 : decide ((48 : Int) ≤ (x : Int)) = false := by simpa using h1
      by_cases hk0 : k = 0
      · have hpf : (p : Int) = (f0 : Int) := by have := HAt.out; omega
        go_wp2
        go_ret
        rw [HFin.out]
        exact ⟨rfl, HK.out.evo.spoil (by simp [hk0]), HV.out⟩
      · have hpf : ((p : Int) == (f0 : Int)) = false := by have := HAt.out; simp; omega
        go_wp2
        go_ret
        rw [HFin.out]
        have hz : (k == 0) = false := by simp; omega
        exact ⟨rfl, by simp only [hz, Bool.or_false]; exact HK.out.evo, HV.out⟩
end Go.Proofs.YtghcololkgeoeabGreat
namespace Go.Proofs.YtghcololkgeoeabGreat
open Go.RowKit
set_option linter.unusedVariables false
set_option linter.unusedSimpArgs false
attribute [local go_sem ↓] Go.wp_at_zero Go.wp_at_succ

theorem pass_pos {l : List UInt8} {c : Nat} {r : Rdr} (hc : c ≠ 0) (h : r.pos ≤ l.length) : (Rdr.pass l c r).pos ≤ l.length := by
  unfold Rdr.pass
  split
  · rename_i he
    have := nx_lt (l := l) (i := r.pos) (by omega)
    simp only; omega
  · exact h
theorem digits_pos {l : List UInt8} {r : Rdr} (h : r.pos ≤ l.length) : (Rdr.digits l r).2.pos ≤ l.length := by
  unfold Rdr.digits dig13
  have hm : ((l.drop r.pos).takeWhile isDig).length ≤ (l.drop r.pos).length := (List.takeWhile_prefix isDig).length_le
  rw [List.length_drop] at hm
  simp only; omega
theorem number_pos {l : List UInt8} {r : Rdr} (h : r.pos ≤ l.length) : (Rdr.number l r).2.pos ≤ l.length := by
  unfold Rdr.number
  split
  · rename_i he
    have := nx_lt (l := l) (i := r.pos) (by omega)
    exact digits_pos (r := ⟨r.pos + 1, r.bad⟩) (by simp only; omega)
  · exact digits_pos h
theorem kind_pos {l : List UInt8} {r : Rdr} (h : r.pos ≤ l.length) : (Rdr.kind l r).2.pos ≤ l.length := by
  unfold Rdr.kind
  split
  · exact h
  · have := nx_lt (l := l) (i := r.pos) (by omega)
    simp only; omega
set_option maxRecDepth 100000 in
set_option maxHeartbeats 2000000 in
theorem ynumber_any (b : Nat) (s : ByteArray) (r : Rdr) (w : World) (h : RdB w b s r) (hs : s.size ≤ 100) (hp : r.pos ≤ s.size) :
    Calls Tryz.prog 112 #[.pointer (some ⟨b, 0, none⟩)] w fun e w' => e = .returned (.int .i64 (Rdr.number s.data.toList r).1) ∧ RdE w b s w' (Rdr.number s.data.toList r).2 := by
  have hlen : s.data.toList.length = s.size := rfl
  have H : Hid (RdB w b s r) := h
  have c1 := h.cell 1
  have f1 := h.frozen 1
  simp only [List.getElem?_cons_zero, List.getElem?_cons_succ] at c1
  clear h
  have HK : Hid (Rdr.number s.data.toList r = if nx s.data.toList r.pos = 45 then (-(Rdr.digits s.data.toList ⟨r.pos + 1, r.bad⟩).1, (Rdr.digits s.data.toList ⟨r.pos + 1, r.bad⟩).2) else Rdr.digits s.data.toList r) := rfl
  obtain ⟨x, HX⟩ := hexY (nx s.data.toList r.pos)
  have hnx : ∀ u, RdB u b s r → Calls Tryz.prog 105 #[.pointer (some ⟨b, 0, none⟩)] u fun e w' => e = .returned (.int .u8 x) ∧ ∃ n, w' = u.drewN n := fun u hu => by rw [HX.out]; exact ynext_any b s r u hu hs hp
  rw [← HX.out] at HK
  obtain ⟨P, HP⟩ := hexY r.pos
  by_cases hx : x = 45
  · have HR : Hid (Rdr.number s.data.toList r = (-(Rdr.digits s.data.toList ⟨r.pos + 1, r.bad⟩).1, (Rdr.digits s.data.toList ⟨r.pos + 1, r.bad⟩).2)) := by show _ = _; rw [HK.out, if_pos hx]
    have hlt : r.pos + 1 ≤ s.size := by have := nx_lt (l := s.data.toList) (i := r.pos) (by rw [← HX.out]; omega); omega
    subst hx
    rw [← HP.out] at c1
    go_enter Tryz.func112, Tryz.ntmps112
    have hP100 : P ≤ 100 := by rw [HP.out]; omega
    go_upto_region 4 with (go_at_call 105; refine (hnx _ H.out).mono ?_; rintro e w2 ⟨rfl, nq, rfl⟩)
    have HE1 : Hid (RdE w b s ((w.drewN nq).setCell ⟨b, 1, none⟩ (.int .i64 ((P : Int) + 1))) ⟨r.pos + 1, r.bad⟩) := by
      have := ((RdE.refl H.out).drewN nq).pos (r' := ⟨r.pos + 1, r.bad⟩) (r.pos + 1) rfl
      rw [HP.out]; exact this
    clear c1 f1
    obtain ⟨w5, HW5⟩ := hexY ((w.drewN nq).setCell ⟨b, 1, none⟩ (.int .i64 ((P : Int) + 1)))
    rw [← HW5.out] at HE1
    have hw5 : (w.setCell ⟨b, 1, none⟩ (.int .i64 ((P : Int) + 1))).drewN nq = w5 := HW5.out.symm
    first | rw [hw5] | rw [← HW5.out]
    clear HW5 hw5
    obtain ⟨q, HQ⟩ := hexY (Rdr.digits s.data.toList ⟨r.pos + 1, r.bad⟩)
    have hdg : ∀ u, RdB u b s ⟨r.pos + 1, r.bad⟩ → Calls Tryz.prog 115 #[.pointer (some ⟨b, 0, none⟩)] u fun e w' => e = .returned (.int .i64 q.1) ∧ RdE u b s w' q.2 ∧ 0 ≤ q.1 ∧ q.1 < 10000000000000 := fun u hu => by rw [HQ.out]; exact ydigits_any b s ⟨r.pos + 1, r.bad⟩ u hu hs hlt
    rw [← HQ.out] at HR
    go_wp2_with (go_at_call 115; refine (hdg _ HE1.out.mem).mono ?_; rintro e w6 ⟨rfl, hev, hq0, hq1⟩)
    go_ret
    exact ⟨rdRet (by rw [HR.out]), by rw [HR.out]; exact HE1.out.trans hev⟩
  · have HR : Hid (Rdr.number s.data.toList r = Rdr.digits s.data.toList r) := by show _ = _; rw [HK.out, if_neg hx]
    have hne : ((x : Int) != 45) = true := by simp; omega
    go_enter Tryz.func112, Tryz.ntmps112
    go_wp2_with (first
      | (go_at_call 105; refine (hnx _ H.out).mono ?_; rintro e w2 ⟨rfl, nq, rfl⟩)
      | (go_at_call 115; refine (ydigits_any b s r _ ((RdE.refl H.out).drewN nq).mem hs hp).mono ?_; rintro e w6 ⟨rfl, hev, _⟩))
    go_ret
    rw [HR.out]
    exact ⟨rfl, ((RdE.refl H.out).drewN nq).trans hev⟩
end Go.Proofs.YtghcololkgeoeabGreat
namespace Go.Proofs.YtghcololkgeoeabGreat
open Go.RowKit
set_option linter.unusedVariables false
set_option linter.unusedSimpArgs false
attribute [local go_sem ↓] Go.wp_at_zero Go.wp_at_succ

def lineCells (k : Int) (E : Ev) (t : Int) : List Value := [.int .i64 k, .int .i64 E.src, .int .i64 E.seq, .int .i64 E.ts, .int .i64 E.kind, .int .i64 E.val, .int .i64 t]
def lineAgg (k : Int) (E : Ev) (t : Int) : Value := .agg #[.int .i64 k, .int .i64 E.src, .int .i64 E.seq, .int .i64 E.ts, .int .i64 E.kind, .int .i64 E.val, .int .i64 t]
def zE : Ev := ⟨0, 0, 0, 0, 0⟩
theorem RdE.allocE {w w' : World} {b : Nat} {s : ByteArray} {r : Rdr} (h : RdE w b s w' r) (o : Obj) : RdE w b s (w'.alloc o) r :=
  ⟨h.mem.alloc o, h.os, h.tape, h.output, by simpa using Nat.le_succ_of_le h.size, fun k hk hn => (Below.heap_alloc _ _ _ (Nat.lt_of_lt_of_le hk h.size)).trans (h.block k hk hn)⟩
theorem RdE.setOther {w w' : World} {b c o : Nat} {s : ByteArray} {r : Rdr} (h : RdE w b s w' r) (hc : w.heap.size ≤ c) (hb : c ≠ b) (v : Value) : RdE w b s (w'.setCell ⟨c, o, none⟩ v) r :=
  ⟨h.mem.other (by simp only; exact hb) v, h.os, h.tape, h.output, by simpa [World.setCell] using h.size, fun k hk hn => (Below.heap_setCell _ _ _ _ (by simp only; omega)).trans (h.block k hk hn)⟩
theorem RdE.blk {w w' : World} {b c : Nat} {s : ByteArray} {r : Rdr} {t : TypeId} {l : List Value} (h : RdE w b s w' r) (hl : Blk w c t l) (hc : c ≠ b) : Blk w' c t l := by
  have hlt := hl.lt
  unfold Blk at *
  rw [h.block c hlt hc]; exact hl
set_option maxRecDepth 100000 in
set_option maxHeartbeats 2000000 in
theorem ypunct_any (b : Nat) (s : ByteArray) (r : Rdr) (w : World) (h : RdB w b s r) (hs : s.size ≤ 100) (hp : r.pos ≤ s.size) :
    Calls Tryz.prog 106 #[.pointer (some ⟨b, 0, none⟩)] w fun e w' => e = .returned (lineAgg 2 zE (Rdr.number s.data.toList (Rdr.pass s.data.toList 32 (Rdr.pass s.data.toList 80 r))).1) ∧ RdE w b s w' (Rdr.number s.data.toList (Rdr.pass s.data.toList 32 (Rdr.pass s.data.toList 80 r))).2 := by
  have hlen : s.data.toList.length = s.size := rfl
  obtain ⟨q1, HQ1⟩ := hexY (Rdr.pass s.data.toList 80 r)
  obtain ⟨q2, HQ2⟩ := hexY (Rdr.pass s.data.toList 32 q1)
  obtain ⟨q3, HQ3⟩ := hexY (Rdr.number s.data.toList q2)
  rw [← HQ1.out, ← HQ2.out, ← HQ3.out]
  have hp1 : q1.pos ≤ s.size := by rw [HQ1.out]; exact pass_pos (by omega) hp
  have hp2 : q2.pos ≤ s.size := by rw [HQ2.out]; exact pass_pos (by omega) hp1
  have hbl := h.lt
  have HB : Hid (RdB w b s r) := h
  obtain ⟨w1, HW1⟩ := hexY (w.alloc (.cells (lineCells 0 zE 0).toArray 140))
  have hw1 : w.alloc (.cells #[.int .i64 0, .int .i64 0, .int .i64 0, .int .i64 0, .int .i64 0, .int .i64 0, .int .i64 0] 140) = w1 := HW1.out.symm
  obtain ⟨rb, HRb⟩ := hexY w.heap.size
  have HE1 : Hid (RdE w b s w1 r) := by show RdE _ _ _ _ _; rw [HW1.out]; exact (RdE.refl HB.out).allocE _
  have HL1 : Hid (Blk w1 rb 140 (lineCells 0 zE 0)) := by show Blk _ _ _ _; rw [HW1.out, HRb.out]; exact blk_alloc _ _ _
  have hrb : rb ≠ b := by rw [HRb.out]; omega
  have HRw : Hid (w.heap.size ≤ rb) := by show _ ≤ _; rw [HRb.out]; exact Nat.le_refl _
  clear h
  go_enter Tryz.func106, Tryz.ntmps106
  go_upto_region 1 with fail
  rw [← HRb.out]
  clear hw1 HW1
  have h80 : ∀ u, RdB u b s r → Calls Tryz.prog 111 #[.pointer (some ⟨b, 0, none⟩), .int .u8 80] u fun e w' => e = .returned (.tuple #[]) ∧ RdE u b s w' q1 := fun u hu => by rw [HQ1.out]; exact ypass_any b s r 80 u hu hs hp (by omega)
  have h32 : ∀ u, RdB u b s q1 → Calls Tryz.prog 111 #[.pointer (some ⟨b, 0, none⟩), .int .u8 32] u fun e w' => e = .returned (.tuple #[]) ∧ RdE u b s w' q2 := fun u hu => by rw [HQ2.out]; exact ypass_any b s q1 32 u hu hs hp1 (by omega)
  have hnm : ∀ u, RdB u b s q2 → Calls Tryz.prog 112 #[.pointer (some ⟨b, 0, none⟩)] u fun e w' => e = .returned (.int .i64 q3.1) ∧ RdE u b s w' q3.2 := fun u hu => by rw [HQ3.out]; exact ynumber_any b s q2 u hu hs hp2
  go_upto_region 2 with (go_at_call 111; refine (h80 _ HE1.out.mem).mono ?_; rintro e w2 ⟨rfl, hev2⟩)
  have HE2 : Hid (RdE w1 b s w2 q1) := hev2
  clear hev2 h80
  go_upto_region 3 with (go_at_call 111; refine (h32 _ HE2.out.mem).mono ?_; rintro e w3 ⟨rfl, hev3⟩)
  have HE3 : Hid (RdE w2 b s w3 q2) := hev3
  clear hev3 h32
  go_upto_region 4 with (go_at_call 112; refine (hnm _ HE3.out.mem).mono ?_; rintro e w4 ⟨rfl, hev4⟩)
  have HE4 : Hid (RdE w3 b s w4 q3.2) := hev4
  clear hev4 hnm
  have HT : Hid (RdE w1 b s w4 q3.2) := (HE2.out.trans HE3.out).trans HE4.out
  have HL4 : Hid (Blk w4 rb 140 (lineCells 0 zE 0)) := HT.out.blk HL1.out hrb
  have z0 := HL4.out.cell 0
  have y0 := HL4.out.frozen 0
  have z1 := HL4.out.cell 1
  have y1 := HL4.out.frozen 1
  have z2 := HL4.out.cell 2
  have y2 := HL4.out.frozen 2
  have z3 := HL4.out.cell 3
  have y3 := HL4.out.frozen 3
  have z4 := HL4.out.cell 4
  have y4 := HL4.out.frozen 4
  have z5' := HL4.out.cell 5
  have y5 := HL4.out.frozen 5
  have z6 := HL4.out.cell 6
  have y6 := HL4.out.frozen 6
  simp only [lineCells, zE, List.getElem?_cons_zero, List.getElem?_cons_succ] at z0 z1 z2 z3 z4 z5' z6
  go_wp2
  refine bodyPost_ret (v := lineAgg 2 zE q3.1) (by simp [results, Tryz.results106, go_sem, lineAgg, zE, z0, z1, z2, z3, z4, z5', z6]) rfl ⟨rfl, ?_⟩
  exact (((((((HE1.out.trans HT.out).setOther HRw.out hrb _).setOther HRw.out hrb _).setOther HRw.out hrb _).setOther HRw.out hrb _).setOther HRw.out hrb _).setOther HRw.out hrb _).setOther HRw.out hrb _
end Go.Proofs.YtghcololkgeoeabGreat
