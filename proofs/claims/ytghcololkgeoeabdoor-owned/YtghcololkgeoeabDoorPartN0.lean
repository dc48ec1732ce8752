import Derived.Test.YtghcololkgeoeabDoorPartC0
import Derived.Test.YtghcololkgeoeabDoorPartB0
import Derived.Deep.QuietTactic
import Derived.BigQuiet
namespace Go.Proofs.YtghcololkgeoeabDoor
open Go.RowKit
set_option linter.unusedVariables false
set_option linter.unusedSimpArgs false

/-! ### what a pattern finds -/
structure Pq where
  st : List (Int × Int)
  sm : Bool
  wn : Int
def Cfg.pq (c : Cfg) : Pq := ⟨c.ps, c.same, c.win⟩
def evAt (l : List Ev) (p : Nat) : Ev := l[p]?.getD ⟨0, 0, 0, 0, 0⟩
def Pq.kd (P : Pq) (k : Nat) : Int := (P.st[k]?.getD (0, 0)).1
def Pq.nt (P : Pq) (k : Nat) : Int := (P.st[k]?.getD (0, 0)).2
def Pq.cnt (P : Pq) (l : List Ev) (z p : Nat) : Bool := !P.sm || decide ((evAt l p).val = (evAt l z).val)
def Pq.bar (P : Pq) (l : List Ev) (z k p : Nat) : Bool := decide ((evAt l p).kind = P.nt k) && P.cnt l z p
def Pq.fits (P : Pq) (l : List Ev) (z least k p : Nat) : Bool :=
  decide ((evAt l p).kind = P.kd k) && (!(decide (k = 0) && decide (P.wn < (evAt l z).ts - (evAt l p).ts))) && (!(decide (k + 2 = P.st.length) && decide (p < least))) && P.cnt l z p
def near (bar : Nat → Bool) : Nat → Nat
  | 0 => 0
  | p + 1 => if bar (p + 1) then p + 1 else near bar p
def sweep (f : Nat → List (List Nat)) (bar : Nat → Bool) : List Nat → List (List Nat)
  | [] => []
  | p :: ps => f p ++ (if bar p then [] else sweep f bar ps)
def Pq.layL (P : Pq) (l : List Ev) (z least : Nat) : Nat → List Nat → Nat → List (List Nat)
  | 0, pre, _ => [pre ++ [z]]
  | m + 1, pre, fr => sweep (fun p => if P.fits l z least pre.length p then P.layL l z least m (pre ++ [p]) (p + 1) else []) (fun p => P.bar l z pre.length p) (List.range' fr (z - fr))
def Pq.endL (P : Pq) (l : List Ev) (z : Nat) : List (List Nat) :=
  if (evAt l z).kind = P.kd (P.st.length - 1) then P.layL l z (near (P.bar l z (P.st.length - 1)) (z - 1)) (P.st.length - 1) [] 0 else []
def Pq.findL (P : Pq) (l : List Ev) : List (List Nat) := if P.st.length = 0 then [] else (List.range l.length).flatMap (P.endL l)

/-- what is kept of a list of matches -/
def Res (S : List (List Nat)) (F : List (List Nat)) (more : Bool) : Prop := F = S.take 100 ∧ more = decide (100 < S.length)
theorem Res.stop {S F : List (List Nat)} (h : Res S F true) (T : List (List Nat)) : Res (S ++ T) F true := by
  obtain ⟨h1, h2⟩ := h
  have hl : 100 < S.length := of_decide_eq_true h2.symm
  refine ⟨by rw [h1, List.take_append_of_le_length (by omega)], ?_⟩
  rw [List.length_append, decide_eq_true (by omega)]
theorem Res.add {S F : List (List Nat)} {b : Bool} (h : Res S F b) (x : List Nat) (hl : F.length < 100) : Res (S ++ [x]) (F ++ [x]) b ∧ b = false := by
  obtain ⟨h1, h2⟩ := h
  have hS : S.length < 100 := by
    rw [h1, List.length_take] at hl; omega
  have hb : b = false := by rw [h2]; exact decide_eq_false (by omega)
  refine ⟨⟨?_, ?_⟩, hb⟩
  · rw [h1, List.take_of_length_le (by omega), List.take_of_length_le (by rw [List.length_append]; simp; omega)]
  · rw [hb, List.length_append]; exact (decide_eq_false (by simp; omega)).symm
theorem Res.full {S F : List (List Nat)} {b : Bool} (h : Res S F b) (x : List Nat) (hl : 100 ≤ F.length) : Res (S ++ [x]) F true := by
  obtain ⟨h1, h2⟩ := h
  have hS : 100 ≤ S.length := by
    rw [h1, List.length_take] at hl; omega
  refine ⟨by rw [h1, List.take_append_of_le_length hS], ?_⟩
  rw [List.length_append, decide_eq_true (by simp; omega)]
theorem Res.len {S F : List (List Nat)} {b : Bool} (h : Res S F b) : F.length ≤ 100 := by rw [h.1, List.length_take]; omega
theorem range'_succ {fr z : Nat} (h : fr < z) : List.range' fr (z - fr) = fr :: List.range' (fr + 1) (z - (fr + 1)) := by
  rw [show z - fr = (z - (fr + 1)) + 1 by omega, List.range'_succ]
theorem range'_done {fr z : Nat} (h : z ≤ fr) : List.range' fr (z - fr) = [] := by rw [show z - fr = 0 by omega]; rfl

/-! ### where a search lies -/
def natV (l : List Nat) : List Value := l.map (fun (x : Nat) => Value.int .i64 (x : Int))
/-- a list of lists of places, each in a block of its own -/
structure LsAt (w : World) (H : Nat) (a : Option Addr) (c : Nat) (ms : List (Nat × Nat)) (n : Nat) (F : List (List Nat)) : Prop where
  row : Row w 28 1 a ms.length c (ms.map fun m => Value.slice (some ⟨m.1, 0, none⟩) n m.2)
  len : ms.length = F.length
  each : ∀ (i : Nat) m f, ms[i]? = some m → F[i]? = some f → f.length = n ∧ Row w 3 1 (some ⟨m.1, 0, none⟩) n m.2 (natV f)
  dis : PD (bk a :: ms.map fun m => some m.1)
  up : ∀ k, some k ∈ (bk a :: ms.map fun m => some m.1) → H ≤ k
structure Sq where
  pb : Nat
  pcap : Nat
  z : Nat
  least : Nat
  pls : List Nat
  fa : Option Addr
  fc : Nat
  ms : List (Nat × Nat)
  F : List (List Nat)
  more : Bool
def sqV (P : Pq) (pa : Option Addr) (pc : Nat) (ga : Option Addr) (gc nl : Nat) (Q : Sq) : List Value :=
  [.slice pa P.st.length pc, .bool P.sm, .int .i64 P.wn, .slice ga nl gc, .int .i64 Q.z, .int .i64 Q.least, .slice (some ⟨Q.pb, 0, none⟩) P.st.length Q.pcap, .slice Q.fa Q.ms.length Q.fc, .bool Q.more]
def StAt (w : World) (a : Option Addr) (st : List (Int × Int)) : Prop := ∀ (k : Nat), k < st.length → ∃ g, a = some ⟨g, 0, none⟩ ∧ g < w.heap.size ∧ w.cell? ⟨g, k * 2, none⟩ = some (.int .i64 (st[k]?.getD (0, 0)).1) ∧ w.cell? ⟨g, k * 2 + 1, none⟩ = some (.int .i64 (st[k]?.getD (0, 0)).2)
def EvC (w : World) (a : Option Addr) (l : List Ev) : Prop := ∀ (k : Nat), k < l.length → ∃ g, a = some ⟨g, 0, none⟩ ∧ g < w.heap.size ∧ w.cell? ⟨g, k * 5 + 2, none⟩ = some (.int .i64 (evAt l k).ts) ∧ w.cell? ⟨g, k * 5 + 3, none⟩ = some (.int .i64 (evAt l k).kind) ∧ w.cell? ⟨g, k * 5 + 4, none⟩ = some (.int .i64 (evAt l k).val)
theorem StAt.below {w w' : World} {a : Option Addr} {st : List (Int × Int)} (h : StAt w a st) (hb : Below w.heap.size w w') : StAt w' a st := by
  intro k hk
  obtain ⟨g, ha, hg, c0, c1⟩ := h k hk
  exact ⟨g, ha, Nat.lt_of_lt_of_le hg hb.size, (hb.cell (p := ⟨g, k * 2, none⟩) hg).trans c0, (hb.cell (p := ⟨g, k * 2 + 1, none⟩) hg).trans c1⟩
theorem EvC.below {w w' : World} {a : Option Addr} {l : List Ev} (h : EvC w a l) (hb : Below w.heap.size w w') : EvC w' a l := by
  intro k hk
  obtain ⟨g, ha, hg, c0, c1, c2⟩ := h k hk
  exact ⟨g, ha, Nat.lt_of_lt_of_le hg hb.size, (hb.cell (p := ⟨g, k * 5 + 2, none⟩) hg).trans c0, (hb.cell (p := ⟨g, k * 5 + 3, none⟩) hg).trans c1, (hb.cell (p := ⟨g, k * 5 + 4, none⟩) hg).trans c2⟩
theorem StAt.of_row {w : World} {a : Option Addr} {st : List (Int × Int)} {c : Nat} {t : TypeId} (h : Row w t 2 a st.length c (flat st)) : StAt w a st := by
  intro k hk
  obtain ⟨g, hg, _, _, hc, _⟩ := h.form (by omega)
  have hf : ∀ x : Int × Int, ([.int .i64 x.1, .int .i64 x.2] : List Value).length = 2 := fun _ => rfl
  refine ⟨g, hg, h.lt (by rw [hg]; rfl), ?_, ?_⟩
  · have := hc (k * 2 + 0) (by omega)
    rw [flat, flatMap_get _ 2 hf st k 0 (by omega) hk] at this
    rw [show k * 2 = k * 2 + 0 by omega, this, List.getElem?_eq_getElem hk]; rfl
  · have := hc (k * 2 + 1) (by omega)
    rw [flat, flatMap_get _ 2 hf st k 1 (by omega) hk] at this
    rw [this, List.getElem?_eq_getElem hk]; rfl
theorem EvC.of_row {w : World} {a : Option Addr} {l : List Ev} {c : Nat} {t : TypeId} (h : Row w t 5 a l.length c (evs l)) : EvC w a l := by
  intro k hk
  obtain ⟨g, hg, _, _, hc, _⟩ := h.form (by omega)
  refine ⟨g, hg, h.lt (by rw [hg]; rfl), ?_, ?_, ?_⟩
  · have := hc (k * 5 + 2) (by omega)
    rw [evs, flatMap_get _ 5 Ev.len l k 2 (by omega) hk] at this
    rw [this]; unfold evAt; rw [List.getElem?_eq_getElem hk]; rfl
  · have := hc (k * 5 + 3) (by omega)
    rw [evs, flatMap_get _ 5 Ev.len l k 3 (by omega) hk] at this
    rw [this]; unfold evAt; rw [List.getElem?_eq_getElem hk]; rfl
  · have := hc (k * 5 + 4) (by omega)
    rw [evs, flatMap_get _ 5 Ev.len l k 4 (by omega) hk] at this
    rw [this]; unfold evAt; rw [List.getElem?_eq_getElem hk]; rfl
structure MemS (w0 w : World) (sb : Nat) (P : Pq) (pa : Option Addr) (pc : Nat) (ga : Option Addr) (gc : Nat) (l : List Ev) (Q : Sq) : Prop where
  bel : Below w0.heap.size w0 w
  st : StAt w0 pa P.st
  ev : EvC w0 ga l
  box : Blk w sb 108 (sqV P pa pc ga gc l.length Q)
  up : w0.heap.size ≤ sb ∧ w0.heap.size ≤ Q.pb ∧ sb ≠ Q.pb
  pls : Row w 3 1 (some ⟨Q.pb, 0, none⟩) P.st.length Q.pcap (natV Q.pls)
  plen : Q.pls.length = P.st.length
  lst : LsAt w w0.heap.size Q.fa Q.fc Q.ms P.st.length Q.F
  off : ∀ k, some k ∈ (bk Q.fa :: Q.ms.map fun m => some m.1) → k ≠ sb ∧ k ≠ Q.pb
theorem LsAt.kept {S : Nat → Prop} {w w' : World} {H : Nat} {a : Option Addr} {c : Nat} {ms : List (Nat × Nat)} {n : Nat} {F : List (List Nat)} (h : LsAt w H a c ms n F) (hk : Kept S w w') (hn : ∀ k, some k ∈ (bk a :: ms.map fun m => some m.1) → ¬ S k) : LsAt w' H a c ms n F := by
  refine ⟨h.row.kept hk (fun k e => hn k (by simp [e])), h.len, ?_, h.dis, h.up⟩
  intro i m f hm hf
  obtain ⟨h1, h2⟩ := h.each i m f hm hf
  refine ⟨h1, h2.kept hk (fun k e => hn k ?_)⟩
  have e : m.1 = k := by simpa [bk] using e
  simp only [List.mem_cons, List.mem_map]
  exact Or.inr ⟨m, List.mem_of_getElem? hm, by rw [e]⟩
theorem MemS.drewN {w0 w : World} {sb : Nat} {P : Pq} {pa : Option Addr} {pc : Nat} {ga : Option Addr} {gc : Nat} {l : List Ev} {Q : Sq} (h : MemS w0 w sb P pa pc ga gc l Q) (n : Nat) : MemS w0 (w.drewN n) sb P pa pc ga gc l Q :=
  ⟨⟨h.bel.os, h.bel.tape, h.bel.output, h.bel.size, h.bel.block⟩, h.st, h.ev, h.box, h.up, h.pls, h.plen, h.lst.kept ((Kept.refl (fun _ => False) w).drewN n) (fun _ _ e => e), h.off⟩
theorem MemS.cells {w0 w : World} {sb : Nat} {P : Pq} {pa : Option Addr} {pc : Nat} {ga : Option Addr} {gc : Nat} {l : List Ev} {Q : Sq} (h : MemS w0 w sb P pa pc ga gc l Q) : w.cell? ⟨sb, 0, none⟩ = some (.slice pa P.st.length pc) ∧ w.cell? ⟨sb, 1, none⟩ = some (.bool P.sm) ∧ w.cell? ⟨sb, 2, none⟩ = some (.int .i64 P.wn) ∧ w.cell? ⟨sb, 3, none⟩ = some (.slice ga l.length gc) ∧ w.cell? ⟨sb, 4, none⟩ = some (.int .i64 Q.z) ∧ w.cell? ⟨sb, 5, none⟩ = some (.int .i64 Q.least) ∧ w.cell? ⟨sb, 6, none⟩ = some (.slice (some ⟨Q.pb, 0, none⟩) P.st.length Q.pcap) ∧ w.cell? ⟨sb, 7, none⟩ = some (.slice Q.fa Q.ms.length Q.fc) ∧ w.cell? ⟨sb, 8, none⟩ = some (.bool Q.more) :=
  ⟨h.box.cell 0, h.box.cell 1, h.box.cell 2, h.box.cell 3, h.box.cell 4, h.box.cell 5, h.box.cell 6, h.box.cell 7, h.box.cell 8⟩
end Go.Proofs.YtghcololkgeoeabDoor
namespace Go.Proofs.YtghcololkgeoeabDoor
open Go.RowKit
set_option linter.unusedVariables false
set_option linter.unusedSimpArgs false
attribute [local go_sem ↓] Go.wp_at_zero Go.wp_at_succ
set_option maxRecDepth 100000 in
set_option maxHeartbeats 2000000 in
theorem counts_any (sb : Nat) (P : Pq) (pa : Option Addr) (pc : Nat) (ga : Option Addr) (gc : Nat) (l : List Ev) (Q : Sq) (w0 w : World) (h : MemS w0 w sb P pa pc ga gc l Q) (p : Nat) (hp : p < l.length) (hz : Q.z < l.length) :
    Calls Tryd.prog 93 #[.pointer (some ⟨sb, 0, none⟩), .int .i64 p] w fun e w' => e = .returned (.bool (P.cnt l Q.z p)) ∧ ∃ n, w' = w.drewN n := by
  have hp' : (p : Int) < (l.length : Int) := by omega
  have hz' : (Q.z : Int) < (l.length : Int) := by omega
  have hp0 : (0 : Int) ≤ (p : Int) := by omega
  have hz0 : (0 : Int) ≤ (Q.z : Int) := by omega
  obtain ⟨s0, s1, s2, s3, s4, s5, s6, s7, s8⟩ := h.cells
  obtain ⟨g, hg, _, _, _, x4⟩ := (h.ev.below h.bel) p hp
  obtain ⟨g', hg', _, _, _, y4⟩ := (h.ev.below h.bel) Q.z hz
  subst hg
  simp only [Option.some.injEq, Addr.mk.injEq, and_true] at hg'
  subst hg'
  obtain ⟨v, HV⟩ := hex (evAt l p).val
  obtain ⟨u, HU⟩ := hex (evAt l Q.z).val
  obtain ⟨cv, HC⟩ := hex (P.cnt l Q.z p)
  rw [← HC.out]
  rw [← HV.out] at x4
  rw [← HU.out] at y4
  clear h hp hz
  cases hs : P.sm with
  | false =>
    rw [hs] at s1
    have HR : Hid (cv = true) := by show _ = _; rw [HC.out]; unfold Pq.cnt; rw [hs]; rfl
    clear hs
    go_enter Tryd.func93, Tryd.ntmps93
    go_wp2
    go_quiet (fail)
    go_wp2
    go_ret
    exact ⟨by rw [HR.out]; rfl, _, rfl⟩
  | true =>
    rw [hs] at s1
    have HR : Hid (cv = (v == u)) := by show _ = _; rw [HC.out]; unfold Pq.cnt; rw [hs, ← HV.out, ← HU.out]; simp; rfl
    clear hs
    go_enter Tryd.func93, Tryd.ntmps93
    go_wp2
    go_quiet (fail)
    go_wp2
    go_ret
    exact ⟨by rw [HR.out]; rfl, _, rfl⟩
set_option maxRecDepth 100000 in
set_option maxHeartbeats 2000000 in
theorem barred_any (sb : Nat) (P : Pq) (pa : Option Addr) (pc : Nat) (ga : Option Addr) (gc : Nat) (l : List Ev) (Q : Sq) (w0 w : World) (h : MemS w0 w sb P pa pc ga gc l Q) (k p : Nat) (hk : k < P.st.length) (hp : p < l.length) (hz : Q.z < l.length) :
    Calls Tryd.prog 81 #[.pointer (some ⟨sb, 0, none⟩), .int .i64 k, .int .i64 p] w fun e w' => e = .returned (.bool (P.bar l Q.z k p)) ∧ ∃ n, w' = w.drewN n := by
  have hct : ∀ m, Calls Tryd.prog 93 #[.pointer (some ⟨sb, 0, none⟩), .int .i64 p] (w.drewN m) fun e w' => e = .returned (.bool (P.cnt l Q.z p)) ∧ ∃ n, w' = (w.drewN m).drewN n := fun m => counts_any sb P pa pc ga gc l Q w0 _ (h.drewN m) p hp hz
  have hp' : (p : Int) < (l.length : Int) := by omega
  have hp0 : (0 : Int) ≤ (p : Int) := by omega
  have hk' : (k : Int) < (P.st.length : Int) := by omega
  have hk0 : (0 : Int) ≤ (k : Int) := by omega
  obtain ⟨s0, s1, s2, s3, s4, s5, s6, s7, s8⟩ := h.cells
  obtain ⟨g, hg, _, _, x3, _⟩ := (h.ev.below h.bel) p hp
  obtain ⟨g', hg', _, y0, y1⟩ := (h.st.below h.bel) k hk
  subst hg
  subst hg'
  obtain ⟨v, HV⟩ := hex (evAt l p).kind
  obtain ⟨u, HU⟩ := hex (P.nt k)
  obtain ⟨cv, HC⟩ := hex (P.cnt l Q.z p)
  obtain ⟨bv, HB⟩ := hex (P.bar l Q.z k p)
  change w.cell? ⟨g', k * 2 + 1, none⟩ = some (.int .i64 (P.nt k)) at y1
  rw [← HB.out]
  rw [← HV.out] at x3
  rw [← HU.out] at y1
  rw [← HC.out] at hct
  clear h hp hz hk y0
  by_cases hvu : v = u
  · have HR : Hid (bv = cv) := by show _ = _; rw [HB.out]; unfold Pq.bar; rw [← HV.out, ← HU.out, ← HC.out, hvu]; simp
    have hb : (v == u) = true := by simp [hvu]
    subst hvu
    go_enter Tryd.func81, Tryd.ntmps81
    go_wp2
    go_quiet (first | (go_at_call 93; refine Calls.quiet_of (hct _)))
    go_wp2
    go_ret
    exact ⟨by rw [HR.out]; rfl, _, rfl⟩
  · have HR : Hid (bv = false) := by show _ = _; rw [HB.out]; unfold Pq.bar; rw [← HV.out, ← HU.out, ← HC.out]; simp [hvu]
    have hb : (v == u) = false := by simp [hvu]
    go_enter Tryd.func81, Tryd.ntmps81
    go_wp2
    go_quiet (first | (go_at_call 93; refine Calls.quiet_of (hct _)))
    go_wp2
    go_ret
    exact ⟨by rw [HR.out]; rfl, _, rfl⟩
set_option maxRecDepth 100000 in
set_option maxHeartbeats 2000000 in
theorem fits_any (sb : Nat) (P : Pq) (pa : Option Addr) (pc : Nat) (ga : Option Addr) (gc : Nat) (l : List Ev) (Q : Sq) (w0 w : World) (h : MemS w0 w sb P pa pc ga gc l Q) (k p : Nat) (hk : k < P.st.length) (h3 : P.st.length ≤ 3) (hp : p < l.length) (hz : Q.z < l.length) (hts : ∀ i, i < l.length → -4398046511104 ≤ (evAt l i).ts ∧ (evAt l i).ts ≤ 4398046511104) :
    Calls Tryd.prog 83 #[.pointer (some ⟨sb, 0, none⟩), .int .i64 k, .int .i64 p] w fun e w' => e = .returned (.bool (P.fits l Q.z Q.least k p)) ∧ ∃ n, w' = w.drewN n := by
  have hct : ∀ m, Calls Tryd.prog 93 #[.pointer (some ⟨sb, 0, none⟩), .int .i64 p] (w.drewN m) fun e w' => e = .returned (.bool (P.cnt l Q.z p)) ∧ ∃ n, w' = w.drewN n := fun m => (counts_any sb P pa pc ga gc l Q w0 _ (h.drewN m) p hp hz).mono fun e w' ⟨he, n, hw⟩ => ⟨he, m + n, by rw [hw, drewN2]⟩
  have hp' : (p : Int) < (l.length : Int) := by omega
  have hp0 : (0 : Int) ≤ (p : Int) := by omega
  have hz' : (Q.z : Int) < (l.length : Int) := by omega
  have hz0 : (0 : Int) ≤ (Q.z : Int) := by omega
  have hk' : (k : Int) < (P.st.length : Int) := by omega
  have hk0 : (0 : Int) ≤ (k : Int) := by omega
  obtain ⟨s0, s1, s2, s3, s4, s5, s6, s7, s8⟩ := h.cells
  obtain ⟨g, hg, _, x2, x3, _⟩ := (h.ev.below h.bel) p hp
  obtain ⟨g2, hg2, _, z2, _, _⟩ := (h.ev.below h.bel) Q.z hz
  obtain ⟨g', hg', _, y0, y1⟩ := (h.st.below h.bel) k hk
  subst hg
  simp only [Option.some.injEq, Addr.mk.injEq, and_true] at hg2
  subst hg2
  subst hg'
  have t1 := hts p hp
  have t2 := hts Q.z hz
  obtain ⟨v, HV⟩ := hex (evAt l p).kind
  obtain ⟨u, HU⟩ := hex (P.kd k)
  obtain ⟨tp, HTp⟩ := hex (evAt l p).ts
  obtain ⟨tz, HTz⟩ := hex (evAt l Q.z).ts
  obtain ⟨cv, HC⟩ := hex (P.cnt l Q.z p)
  obtain ⟨fv, HF⟩ := hex (P.fits l Q.z Q.least k p)
  obtain ⟨n, HN⟩ := hex P.st.length
  obtain ⟨le, HL⟩ := hex Q.least
  obtain ⟨wn, HW⟩ := hex P.wn
  change w.cell? ⟨g', k * 2, none⟩ = some (.int .i64 (P.kd k)) at y0
  rw [← HF.out]
  rw [← HV.out] at x3
  rw [← HU.out] at y0
  rw [← HC.out] at hct
  rw [← HTp.out] at x2 t1
  rw [← HTz.out] at z2 t2
  rw [← HN.out] at s0 s6 hk' h3 hk
  rw [← HL.out] at s5
  rw [← HW.out] at s2
  have hsub : IntKind.i64.wrap (tz - tp) = tz - tp := by rw [IntKind.wrap_i64]; omega
  have hn2 : IntKind.i64.wrap ((n : Int) - 2) = (n : Int) - 2 := by rw [IntKind.wrap_i64]; omega
  have HFE : Hid (fv = (decide (v = u) && (!(decide (k = 0) && decide (wn < tz - tp))) && (!(decide (k + 2 = n) && decide (p < le))) && cv)) := by
    show _ = _
    rw [HF.out]; unfold Pq.fits; rw [← HV.out, ← HU.out, ← HTp.out, ← HTz.out, ← HC.out, ← HN.out, ← HL.out, ← HW.out]
  clear h hp hz y1 hts s1 HF HC
  by_cases hvu : v = u
  · have hb : (v != u) = false := by simp [hvu]
    subst hvu
    by_cases hk00 : k = 0
    · subst hk00
      by_cases hwn : wn < tz - tp
      · have HR : Hid (fv = false) := by show _ = _; rw [HFE.out]; simp [hwn]
        go_enter Tryd.func83, Tryd.ntmps83
        go_wp2
        go_quiet (fail)
        go_wp2
        go_quiet (fail)
        go_wp2
        go_ret
        first | exact ⟨by rw [HR.out]; rfl, _, rfl⟩ | exact ⟨by rw [HR.out]; rfl, _, drewN2 _ _ _⟩
      · have HA : Hid (fv = ((!(decide (0 + 2 = n) && decide (p < le))) && cv)) := by show _ = _; rw [HFE.out]; simp [hwn]
        have hwb : decide (wn < tz - tp) = false := by simp [hwn]
        by_cases hkn : 0 + 2 = n
        · by_cases hpl : p < le
          · have HR : Hid (fv = false) := by show _ = _; rw [HA.out]; simp [hkn, hpl]
            have hpl' : (p : Int) < (le : Int) := by omega
            have hke : ((0 : Int) == (n : Int) - 2) = true := by rw [beq_iff_eq]; omega
            go_enter Tryd.func83, Tryd.ntmps83
            go_wp2
            go_quiet (fail)
            go_wp2
            go_quiet (fail)
            go_wp2
            go_ret
            first | exact ⟨by rw [HR.out]; rfl, _, rfl⟩ | exact ⟨by rw [HR.out]; rfl, _, drewN2 _ _ _⟩
          · have HR : Hid (fv = cv) := by show _ = _; rw [HA.out]; simp [hkn, hpl]
            have hpl' : ¬ (p : Int) < (le : Int) := by omega
            have hke : ((0 : Int) == (n : Int) - 2) = true := by rw [beq_iff_eq]; omega
            go_enter Tryd.func83, Tryd.ntmps83
            go_wp2
            go_quiet (fail)
            go_wp2
            go_quiet (fail)
            go_wp2_with (go_at_call 93; refine (hct _).mono ?_; rintro e w' ⟨rfl, m, rfl⟩)
            go_ret
            first | exact ⟨by rw [HR.out]; rfl, _, rfl⟩ | exact ⟨by rw [HR.out]; rfl, _, drewN2 _ _ _⟩
        · have HR : Hid (fv = cv) := by show _ = _; rw [HA.out]; simp [hkn]
          have hke : ((0 : Int) == (n : Int) - 2) = false := by rw [beq_eq_false_iff_ne]; omega
          go_enter Tryd.func83, Tryd.ntmps83
          go_wp2
          go_quiet (fail)
          go_wp2
          go_quiet (fail)
          go_wp2_with (go_at_call 93; refine (hct _).mono ?_; rintro e w' ⟨rfl, m, rfl⟩)
          go_ret
          first | exact ⟨by rw [HR.out]; rfl, _, rfl⟩ | exact ⟨by rw [HR.out]; rfl, _, drewN2 _ _ _⟩
    · have hkb : ((k : Int) == 0) = false := by rw [beq_eq_false_iff_ne]; omega
      have HA : Hid (fv = ((!(decide (k + 2 = n) && decide (p < le))) && cv)) := by show _ = _; rw [HFE.out]; simp [hk00]
      by_cases hkn : k + 2 = n
      · by_cases hpl : p < le
        · have HR : Hid (fv = false) := by show _ = _; rw [HA.out]; simp [hkn, hpl]
          have hpl' : (p : Int) < (le : Int) := by omega
          have hke : ((k : Int) == (n : Int) - 2) = true := by rw [beq_iff_eq]; omega
          go_enter Tryd.func83, Tryd.ntmps83
          go_wp2
          go_quiet (fail)
          go_wp2
          go_quiet (fail)
          go_wp2
          go_ret
          first | exact ⟨by rw [HR.out]; rfl, _, rfl⟩ | exact ⟨by rw [HR.out]; rfl, _, drewN2 _ _ _⟩
        · have HR : Hid (fv = cv) := by show _ = _; rw [HA.out]; simp [hkn, hpl]
          have hpl' : ¬ (p : Int) < (le : Int) := by omega
          have hke : ((k : Int) == (n : Int) - 2) = true := by rw [beq_iff_eq]; omega
          go_enter Tryd.func83, Tryd.ntmps83
          go_wp2
          go_quiet (fail)
          go_wp2
          go_quiet (fail)
          go_wp2_with (go_at_call 93; refine (hct _).mono ?_; rintro e w' ⟨rfl, m, rfl⟩)
          go_ret
          first | exact ⟨by rw [HR.out]; rfl, _, rfl⟩ | exact ⟨by rw [HR.out]; rfl, _, drewN2 _ _ _⟩
      · have HR : Hid (fv = cv) := by show _ = _; rw [HA.out]; simp [hkn]
        have hke : ((k : Int) == (n : Int) - 2) = false := by rw [beq_eq_false_iff_ne]; omega
        go_enter Tryd.func83, Tryd.ntmps83
        go_wp2
        go_quiet (fail)
        go_wp2
        go_quiet (fail)
        go_wp2_with (go_at_call 93; refine (hct _).mono ?_; rintro e w' ⟨rfl, m, rfl⟩)
        go_ret
        first | exact ⟨by rw [HR.out]; rfl, _, rfl⟩ | exact ⟨by rw [HR.out]; rfl, _, drewN2 _ _ _⟩
  · have HR : Hid (fv = false) := by show _ = _; rw [HFE.out]; simp [hvu]
    have hb : (v != u) = true := by simp [hvu]
    go_enter Tryd.func83, Tryd.ntmps83
    go_wp2
    go_quiet (fail)
    go_wp2
    go_ret
    first | exact ⟨by rw [HR.out]; rfl, _, rfl⟩ | exact ⟨by rw [HR.out]; rfl, _, drewN2 _ _ _⟩
end Go.Proofs.YtghcololkgeoeabDoor
