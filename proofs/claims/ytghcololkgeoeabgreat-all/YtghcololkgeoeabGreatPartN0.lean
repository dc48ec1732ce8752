import Derived.Test.YtghcololkgeoeabGreatPartC0
import Derived.Test.YtghcololkgeoeabGreatPartB0
import Derived.Deep.QuietTactic
import Derived.BigQuiet
namespace Go.Proofs.YtghcololkgeoeabGreat
open Go.RowKit
set_option linter.unusedVariables false
set_option linter.unusedSimpArgs false

structure Pq where
  st : List (Int × Int)
  sm : Bool
  wn : Int
def Cfg.pq (c : Cfg) : Pq := ⟨c.ps, c.same, c.win⟩
def evAt (l : List Ev) (p : Nat) : Ev := l[p]?.getD ⟨0, 0, 0, 0, 0⟩
def Pq.kd (P : Pq) (k : Nat) : Int := (P.st[k]?.getD (0, 0)).1
def Pq.nt (P : Pq) (k : Nat) : Int := (P.st[k]?.getD (0, 0)).2
def Pq.cnt (P : Pq) (l : List Ev) (z p : Nat) : Bool := !P.sm || decide ((evAt l p).val = (evAt l z).val)
def Pq.bar (P : Pq) (l : List Ev) (z k p : Nat) : Bool := decide ((evAt l p).kind = P.nt k) && P.cnt l z p
def Pq.fits (P : Pq) (l : List Ev) (z least k p : Nat) : Bool :=
  decide ((evAt l p).kind = P.kd k) && (!(decide (k = 0) && decide (P.wn < (evAt l z).ts - (evAt l p).ts))) && (!(decide (k + 2 = P.st.length) && decide (p < least))) && P.cnt l z p
def near (bar : Nat → Bool) : Nat → Nat
  | 0 => 0
  | p + 1 => if bar (p + 1) then p + 1 else near bar p
def sweep (f : Nat → List (List Nat)) (bar : Nat → Bool) : List Nat → List (List Nat)
  | [] => []
  | p :: ps => f p ++ (if bar p then [] else sweep f bar ps)
def Pq.layL (P : Pq) (l : List Ev) (z least : Nat) : Nat → List Nat → Nat → List (List Nat)
  | 0, pre, _ => [pre ++ [z]]
  | m + 1, pre, fr => sweep (fun p => if P.fits l z least pre.length p then P.layL l z least m (pre ++ [p]) (p + 1) else []) (fun p => P.bar l z pre.length p) (List.range' fr (z - fr))
def Pq.endL (P : Pq) (l : List Ev) (z : Nat) : List (List Nat) :=
  if (evAt l z).kind = P.kd (P.st.length - 1) then P.layL l z (near (P.bar l z (P.st.length - 1)) (z - 1)) (P.st.length - 1) [] 0 else []
def Pq.findL (P : Pq) (l : List Ev) : List (List Nat) := if P.st.length = 0 then [] else (List.range l.length).flatMap (P.endL l)

def Res (S : List (List Nat)) (F : List (List Nat)) (more : Bool) : Prop := F = S.take 100 ∧ more = decide (100 < S.length)
theorem Res.stop {S F : List (List Nat)} (h : Res S F true) (T : List (List Nat)) : Res (S ++ T) F true := by
  obtain ⟨h1, h2⟩ := h
  have hl : 100 < S.length := of_decide_eq_true h2.symm
  refine ⟨by rw [h1, List.take_append_of_le_length (by omega)], ?_⟩
  rw [List.length_append, decide_eq_true (by omega)]
theorem Res.add {S F : List (List Nat)} {b : Bool} (h : Res S F b) (x : List Nat) (hl : F.length < 100) : Res (S ++ [x]) (F ++ [x]) b ∧ b = false := by
  obtain ⟨h1, h2⟩ := h
  have hS : S.length < 100 := by
    rw [h1, List.length_take] at hl; omega
  have hb : b = false := by rw [h2]; exact decide_eq_false (by omega)
  refine ⟨⟨?_, ?_⟩, hb⟩
  · rw [h1, List.take_of_length_le (by omega), List.take_of_length_le (by rw [List.length_append]; simp; omega)]
  · rw [hb, List.length_append]; exact (decide_eq_false (by simp; omega)).symm
theorem Res.full {S F : List (List Nat)} {b : Bool} (h : Res S F b) (x : List Nat) (hl : 100 ≤ F.length) : Res (S ++ [x]) F true := by
  obtain ⟨h1, h2⟩ := h
  have hS : 100 ≤ S.length := by
    rw [h1, List.length_take] at hl; omega
  refine ⟨by rw [h1, List.take_append_of_le_length hS], ?_⟩
  rw [List.length_append, decide_eq_true (by simp; omega)]
theorem Res.len {S F : List (List Nat)} {b : Bool} (h : Res S F b) : F.length ≤ 100 := by rw [h.1, List.length_take]; omega
theorem range'_succ {fr z : Nat} (h : fr < z) : List.range' fr (z - fr) = fr :: List.range' (fr + 1) (z - (fr + 1)) := by
  rw [show z - fr = (z - (fr + 1)) + 1 by omega, List.range'_succ]
theorem range'_done {fr z : Nat} (h : z ≤ fr) : List.range' fr (z - fr) = [] := by rw [show z - fr = 0 by omega]; rfl

def natV (l : List Nat) : List Value := l.map (fun (x : Nat) => Value.int .i64 (x : Int))
structure LsAt (w : World) (H : Nat) (a : Option Addr) (c : Nat) (ms : List (Nat × Nat)) (n : Nat) (F : List (List Nat)) : Prop where
  row : Row w 36 1 a ms.length c (ms.map fun m => Value.slice (some ⟨m.1, 0, none⟩) n m.2)
  len : ms.length = F.length
  each : ∀ (i : Nat) m f, ms[i]? = some m → F[i]? = some f → f.length = n ∧ Row w 3 1 (some ⟨m.1, 0, none⟩) n m.2 (natV f)
  dis : PD (bk a :: ms.map fun m => some m.1)
  up : ∀ k, some k ∈ (bk a :: ms.map fun m => some m.1) → H ≤ k
structure Sq where
  pb : Nat
  pcap : Nat
  z : Nat
  least : Nat
  pls : List Nat
  fa : Option Addr
  fc : Nat
  ms : List (Nat × Nat)
  F : List (List Nat)
  more : Bool
def sqV (P : Pq) (pa : Option Addr) (pc : Nat) (ga : Option Addr) (gc nl : Nat) (Q : Sq) : List Value :=
  [.slice pa P.st.length pc, .bool P.sm, .int .i64 P.wn, .slice ga nl gc, .int .i64 Q.z, .int .i64 Q.least, .slice (some ⟨Q.pb, 0, none⟩) P.st.length Q.pcap, .slice Q.fa Q.ms.length Q.fc, .bool Q.more]
def StAt (w : World) (a : Option Addr) (st : List (Int × Int)) : Prop := ∀ (k : Nat), k < st.length → ∃ g, a = some ⟨g, 0, none⟩ ∧ g < w.heap.size ∧ w.cell? ⟨g, k * 2, none⟩ = some (.int .i64 (st[k]?.getD (0, 0)).1) ∧ w.cell? ⟨g, k * 2 + 1, none⟩ = some (.int .i64 (st[k]?.getD (0, 0)).2)
def EvC (w : World) (a : Option Addr) (l : List Ev) : Prop := ∀ (k : Nat), k < l.length → ∃ g, a = some ⟨g, 0, none⟩ ∧ g < w.heap.size ∧ w.cell? ⟨g, k * 5 + 2, none⟩ = some (.int .i64 (evAt l k).ts) ∧ w.cell? ⟨g, k * 5 + 3, none⟩ = some (.int .i64 (evAt l k).kind) ∧ w.cell? ⟨g, k * 5 + 4, none⟩ = some (.int .i64 (evAt l k).val)
theorem StAt.below {w w' : World} {a : Option Addr} {st : List (Int × Int)} (h : StAt w a st) (hb : Below w.heap.size w w') : StAt w' a st := by
  intro k hk
  obtain ⟨g, ha, hg, c0, c1⟩ := h k hk
  exact ⟨g, ha, Nat.lt_of_lt_of_le hg hb.size, (hb.cell (p := ⟨g, k * 2, none⟩) hg).trans c0, (hb.cell (p := ⟨g, k * 2 + 1, none⟩) hg).trans c1⟩
theorem EvC.below {w w' : World} {a : Option Addr} {l : List Ev} (h : EvC w a l) (hb : Below w.heap.size w w') : EvC w' a l := by
  intro k hk
  obtain ⟨g, ha, hg, c0, c1, c2⟩ := h k hk
  exact ⟨g, ha, Nat.lt_of_lt_of_le hg hb.size, (hb.cell (p := ⟨g, k * 5 + 2, none⟩) hg).trans c0, (hb.cell (p := ⟨g, k * 5 + 3, none⟩) hg).trans c1, (hb.cell (p := ⟨g, k * 5 + 4, none⟩) hg).trans c2⟩
theorem StAt.of_row {w : World} {a : Option Addr} {st : List (Int × Int)} {c : Nat} {t : TypeId} (h : Row w t 2 a st.length c (flat st)) : StAt w a st := by
  intro k hk
  obtain ⟨g, hg, _, _, hc, _⟩ := h.form (by omega)
  have hf : ∀ x : Int × Int, ([.int .i64 x.1, .int .i64 x.2] : List Value).length = 2 := fun _ => rfl
  refine ⟨g, hg, h.lt (by rw [hg]; rfl), ?_, ?_⟩
  · have := hc (k * 2 + 0) (by omega)
    rw [flat, flatMap_get _ 2 hf st k 0 (by omega) hk] at this
    rw [show k * 2 = k * 2 + 0 by omega, this, List.getElem?_eq_getElem hk]; rfl
  · have := hc (k * 2 + 1) (by omega)
    rw [flat, flatMap_get _ 2 hf st k 1 (by omega) hk] at this
    rw [this, List.getElem?_eq_getElem hk]; rfl
theorem EvC.of_row {w : World} {a : Option Addr} {l : List Ev} {c : Nat} {t : TypeId} (h : Row w t 5 a l.length c (evs l)) : EvC w a l := by
  intro k hk
  obtain ⟨g, hg, _, _, hc, _⟩ := h.form (by omega)
  refine ⟨g, hg, h.lt (by rw [hg]; rfl), ?_, ?_, ?_⟩
  · have := hc (k * 5 + 2) (by omega)
    rw [evs, flatMap_get _ 5 Ev.len l k 2 (by omega) hk] at this
    rw [this]; unfold evAt; rw [List.getElem?_eq_getElem hk]; rfl
  · have := hc (k * 5 + 3) (by omega)
    rw [evs, flatMap_get _ 5 Ev.len l k 3 (by omega) hk] at this
    rw [this]; unfold evAt; rw [List.getElem?_eq_getElem hk]; rfl
  · have := hc (k * 5 + 4) (by omega)
    rw [evs, flatMap_get _ 5 Ev.len l k 4 (by omega) hk] at this
    rw [this]; unfold evAt; rw [List.getElem?_eq_getElem hk]; rfl
structure MemS (w0 w : World) (sb : Nat) (P : Pq) (pa : Option Addr) (pc : Nat) (ga : Option Addr) (gc : Nat) (l : List Ev) (Q : Sq) : Prop where
  bel : Below w0.heap.size w0 w
  st : StAt w0 pa P.st
  ev : EvC w0 ga l
  box : Blk w sb 150 (sqV P pa pc ga gc l.length Q)
  up : w0.heap.size ≤ sb ∧ w0.heap.size ≤ Q.pb ∧ sb ≠ Q.pb
  pls : Row w 3 1 (some ⟨Q.pb, 0, none⟩) P.st.length Q.pcap (natV Q.pls)
  plen : Q.pls.length = P.st.length
  lst : LsAt w w0.heap.size Q.fa Q.fc Q.ms P.st.length Q.F
  off : ∀ k, some k ∈ (bk Q.fa :: Q.ms.map fun m => some m.1) → k ≠ sb ∧ k ≠ Q.pb
theorem LsAt.kept {S : Nat → Prop} {w w' : World} {H : Nat} {a : Option Addr} {c : Nat} {ms : List (Nat × Nat)} {n : Nat} {F : List (List Nat)} (h : LsAt w H a c ms n F) (hk : Kept S w w') (hn : ∀ k, some k ∈ (bk a :: ms.map fun m => some m.1) → ¬ S k) : LsAt w' H a c ms n F := by
  refine ⟨h.row.kept hk (fun k e => hn k (by simp [e])), h.len, ?_, h.dis, h.up⟩
  intro i m f hm hf
  obtain ⟨h1, h2⟩ := h.each i m f hm hf
  refine ⟨h1, h2.kept hk (fun k e => hn k ?_)⟩
  have e : m.1 = k := by simpa [bk] using e
  simp only [List.mem_cons, List.mem_map]
  exact Or.inr ⟨m, List.mem_of_getElem? hm, by rw [e]⟩
theorem MemS.drewN {w0 w : World} {sb : Nat} {P : Pq} {pa : Option Addr} {pc : Nat} {ga : Option Addr} {gc : Nat} {l : List Ev} {Q : Sq} (h : MemS w0 w sb P pa pc ga gc l Q) (n : Nat) : MemS w0 (w.drewN n) sb P pa pc ga gc l Q :=
  ⟨⟨h.bel.os, h.bel.tape, h.bel.output, h.bel.size, h.bel.block⟩, h.st, h.ev, h.box, h.up, h.pls, h.plen, h.lst.kept ((Kept.refl (fun _ => False) w).drewN n) (fun _ _ e => e), h.off⟩
theorem MemS.cells {w0 w : World} {sb : Nat} {P : Pq} {pa : Option Addr} {pc : Nat} {ga : Option Addr} {gc : Nat} {l : List Ev} {Q : Sq} (h : MemS w0 w sb P pa pc ga gc l Q) : w.cell? ⟨sb, 0, none⟩ = some (.slice pa P.st.length pc) ∧ w.cell? ⟨sb, 1, none⟩ = some (.bool P.sm) ∧ w.cell? ⟨sb, 2, none⟩ = some (.int .i64 P.wn) ∧ w.cell? ⟨sb, 3, none⟩ = some (.slice ga l.length gc) ∧ w.cell? ⟨sb, 4, none⟩ = some (.int .i64 Q.z) ∧ w.cell? ⟨sb, 5, none⟩ = some (.int .i64 Q.least) ∧ w.cell? ⟨sb, 6, none⟩ = some (.slice (some ⟨Q.pb, 0, none⟩) P.st.length Q.pcap) ∧ w.cell? ⟨sb, 7, none⟩ = some (.slice Q.fa Q.ms.length Q.fc) ∧ w.cell? ⟨sb, 8, none⟩ = some (.bool Q.more) :=
  ⟨h.box.cell 0, h.box.cell 1, h.box.cell 2, h.box.cell 3, h.box.cell 4, h.box.cell 5, h.box.cell 6, h.box.cell 7, h.box.cell 8⟩
end Go.Proofs.YtghcololkgeoeabGreat
namespace Go.Proofs.YtghcololkgeoeabGreat
set_option linter.unusedVariables false
set_option linter.unusedSimpArgs false

def Pq.M (P : Pq) (l : List Ev) (at_ : List Nat) : Prop :=
  (evAt l (at_.getLastD 0)).ts - (evAt l (at_.headD 0)).ts ≤ P.wn ∧
  (∀ k p, at_[k]? = some p → (evAt l p).kind = P.kd k ∧ (P.sm = true → (evAt l p).val = (evAt l (at_.headD 0)).val)) ∧
  (∀ k p q, at_[k]? = some p → at_[k + 1]? = some q → p < q ∧ ∀ i, p < i → i < q → ¬ ((evAt l i).kind = P.nt (k + 1) ∧ (P.sm = true → (evAt l i).val = (evAt l (at_.headD 0)).val)))
theorem near_spec (bar : Nat → Bool) : ∀ (m p : Nat), near bar m ≤ p ↔ ∀ i, p < i → i ≤ m → bar i = false := by
  intro m
  induction m with
  | zero => intro p; simp [near]; intro i h1 h2; omega
  | succ m ih =>
    intro p
    unfold near
    cases hb : bar (m + 1) with
    | true =>
      rw [if_pos rfl]
      constructor
      · intro h i h1 h2; omega
      · intro h
        apply Nat.le_of_not_lt
        intro hc
        have := h (m + 1) (by omega) (by omega)
        rw [hb] at this; cases this
    | false =>
      rw [if_neg (by simp), ih]
      constructor
      · intro h i h1 h2
        by_cases e : i = m + 1
        · rw [e]; exact hb
        · exact h i h1 (by omega)
      · intro h i h1 h2; exact h i h1 (by omega)
open Classical in
theorem sweep_flat (f : Nat → List (List Nat)) (bar : Nat → Bool) : ∀ (m s : Nat), sweep f bar (List.range' s m) = (List.range' s m).flatMap (fun b => if (∀ i, s ≤ i → i < b → bar i = false) then f b else []) := by
  intro m
  induction m with
  | zero => intro s; rfl
  | succ m ih =>
    intro s
    rw [List.range'_succ, List.flatMap_cons, sweep, if_pos (fun i h1 h2 => by omega)]
    congr 1
    cases hb : bar s with
    | true =>
      rw [if_pos rfl]
      symm
      rw [List.flatMap_eq_nil_iff]
      intro b hb'
      rw [List.mem_range'_1] at hb'
      rw [if_neg]
      intro h
      have := h s (Nat.le_refl _) (by omega)
      rw [hb] at this; cases this
    | false =>
      rw [if_neg (by simp), ih]
      have : ∀ (L : List Nat), (∀ b ∈ L, s + 1 ≤ b) → L.flatMap (fun b => if (∀ i, s + 1 ≤ i → i < b → bar i = false) then f b else []) = L.flatMap (fun b => if (∀ i, s ≤ i → i < b → bar i = false) then f b else []) := by
        intro L hL
        induction L with
        | nil => rfl
        | cons b L ih =>
          rw [List.flatMap_cons, List.flatMap_cons, ih (fun b hb => hL b (by simp [hb]))]
          congr 1
          have : (∀ i, s + 1 ≤ i → i < b → bar i = false) ↔ (∀ i, s ≤ i → i < b → bar i = false) := by
            constructor
            · intro h i h1 h2
              by_cases e : i = s
              · rw [e]; exact hb
              · exact h i (by omega) h2
            · intro h i h1 h2; exact h i (by omega) h2
          by_cases hc : ∀ i, s + 1 ≤ i → i < b → bar i = false
          · rw [if_pos hc, if_pos (this.1 hc)]
          · rw [if_neg hc, if_neg (fun h => hc (this.2 h))]
      exact this _ (fun b hb => by rw [List.mem_range'_1] at hb; omega)
open Classical in
noncomputable def Pq.bruteZ (P : Pq) (l : List Ev) (z : Nat) : List (List Nat) :=
  (List.range' 0 (z + 1)).flatMap fun a => (List.range' a (z + 1 - a)).flatMap fun b =>
    if P.st.length = 1 then (if a = z ∧ b = a ∧ P.M l [z] then [[z]] else [])
    else if P.st.length = 2 then (if b = a ∧ a < z ∧ P.M l [a, z] then [[a, z]] else [])
    else (if a < b ∧ b < z ∧ P.M l [a, b, z] then [[a, b, z]] else [])
theorem flatMap_congr' {α : Type} {L : List α} {f g : α → List (List Nat)} (h : ∀ a ∈ L, f a = g a) : L.flatMap f = L.flatMap g := by
  induction L with
  | nil => rfl
  | cons a L ih => rw [List.flatMap_cons, List.flatMap_cons, h a (by simp), ih (fun b hb => h b (by simp [hb]))]
theorem flatMap_one {f : Nat → List (List Nat)} {s m p : Nat} (hp : s ≤ p ∧ p < s + m) (h : ∀ a, s ≤ a → a < s + m → a ≠ p → f a = []) : (List.range' s m).flatMap f = f p := by
  induction m generalizing s with
  | zero => omega
  | succ m ih =>
    rw [List.range'_succ, List.flatMap_cons]
    by_cases e : s = p
    · subst e
      have : (List.range' (s + 1) m).flatMap f = [] := by
        rw [List.flatMap_eq_nil_iff]
        intro b hb
        rw [List.mem_range'_1] at hb
        exact h b (by omega) (by omega) (by omega)
      rw [this, List.append_nil]
    · rw [h s (Nat.le_refl _) (by omega) e, List.nil_append]
      exact ih (by omega) (fun a h1 h2 h3 => h a (by omega) (by omega) h3)
theorem flatMap_cut {f : Nat → List (List Nat)} {s m k : Nat} (hk : k ≤ m) (h : ∀ a, s + k ≤ a → a < s + m → f a = []) : (List.range' s m).flatMap f = (List.range' s k).flatMap f := by
  rw [show m = k + (m - k) by omega, ← List.range'_append_1, List.flatMap_append]
  have : (List.range' (s + k) (m - k)).flatMap f = [] := by
    rw [List.flatMap_eq_nil_iff]
    intro b hb
    rw [List.mem_range'_1] at hb
    exact h b (by omega) (by omega)
  rw [this, List.append_nil]
theorem flatMap_skip {f : Nat → List (List Nat)} {s m k : Nat} (hk : k ≤ m) (h : ∀ a, s ≤ a → a < s + k → f a = []) : (List.range' s m).flatMap f = (List.range' (s + k) (m - k)).flatMap f := by
  conv => lhs; rw [show m = k + (m - k) by omega, ← List.range'_append_1, List.flatMap_append]
  have : (List.range' s k).flatMap f = [] := by
    rw [List.flatMap_eq_nil_iff]
    intro b hb
    rw [List.mem_range'_1] at hb
    exact h b (by omega) (by omega)
  rw [this, List.nil_append]
theorem cnt_iff {P : Pq} {l : List Ev} {z p : Nat} : P.cnt l z p = true ↔ (P.sm = true → (evAt l p).val = (evAt l z).val) := by
  unfold Pq.cnt
  cases P.sm <;> simp
theorem bar_iff {P : Pq} {l : List Ev} {z k p : Nat} : P.bar l z k p = false ↔ ¬ ((evAt l p).kind = P.nt k ∧ (P.sm = true → (evAt l p).val = (evAt l z).val)) := by
  unfold Pq.bar
  rw [← cnt_iff]
  cases P.cnt l z p <;> simp
theorem fits_iff {P : Pq} {l : List Ev} {z least k p : Nat} : P.fits l z least k p = true ↔ ((evAt l p).kind = P.kd k ∧ (k = 0 → (evAt l z).ts - (evAt l p).ts ≤ P.wn) ∧ (k + 2 = P.st.length → least ≤ p) ∧ (P.sm = true → (evAt l p).val = (evAt l z).val)) := by
  unfold Pq.fits
  rw [← cnt_iff]
  simp only [Bool.and_eq_true, decide_eq_true_eq, Bool.not_eq_true', Bool.and_eq_false_iff, decide_eq_false_iff_not, Int.not_lt, Nat.not_lt]
  constructor
  · rintro ⟨⟨⟨h1, h2⟩, h3⟩, h4⟩
    refine ⟨h1, fun e => ?_, fun e => ?_, h4⟩
    · rcases h2 with h2 | h2
      · exact absurd e h2
      · exact h2
    · rcases h3 with h3 | h3
      · exact absurd e h3
      · exact h3
  · rintro ⟨h1, h2, h3, h4⟩
    refine ⟨⟨⟨h1, ?_⟩, ?_⟩, h4⟩
    · by_cases e : k = 0
      · exact Or.inr (h2 e)
      · exact Or.inl e
    · by_cases e : k + 2 = P.st.length
      · exact Or.inr (h3 e)
      · exact Or.inl e
theorem M1 {P : Pq} {l : List Ev} {z : Nat} (hw : 0 ≤ P.wn) : P.M l [z] ↔ (evAt l z).kind = P.kd 0 := by
  unfold Pq.M
  constructor
  · intro h; exact (h.2.1 0 z rfl).1
  · intro h
    refine ⟨by simp; exact hw, ?_, ?_⟩
    · intro k p hk
      cases k with
      | zero => simp at hk; subst hk; exact ⟨h, fun _ => by simp⟩
      | succ k => simp at hk
    · intro k p q h1 h2
      simp at h2
theorem M2 {P : Pq} {l : List Ev} {a z : Nat} : P.M l [a, z] ↔ (evAt l z).ts - (evAt l a).ts ≤ P.wn ∧ (evAt l a).kind = P.kd 0 ∧ (evAt l z).kind = P.kd 1 ∧ (P.sm = true → (evAt l a).val = (evAt l z).val) ∧ a < z ∧ ∀ i, a < i → i < z → P.bar l z 1 i = false := by
  unfold Pq.M
  constructor
  · rintro ⟨h1, h2, h3⟩
    have k0 := h2 0 a rfl
    have k1 := h2 1 z rfl
    have k2 := h3 0 a z rfl rfl
    have hv : P.sm = true → (evAt l a).val = (evAt l z).val := fun e => (k1.2 e).symm
    refine ⟨h1, k0.1, k1.1, hv, k2.1, fun i i1 i2 => ?_⟩
    rw [bar_iff]
    intro h
    exact k2.2 i i1 i2 ⟨h.1, fun e => (h.2 e).trans (hv e).symm⟩
  · rintro ⟨h1, h2, h3, h4, h5, h6⟩
    refine ⟨h1, ?_, ?_⟩
    · intro k p hk
      match k with
      | 0 => simp at hk; subst hk; exact ⟨h2, fun _ => rfl⟩
      | 1 => simp at hk; subst hk; exact ⟨h3, fun e => (h4 e).symm⟩
      | k + 2 => simp at hk
    · intro k p q hk hq
      match k with
      | 0 =>
        simp at hk hq
        subst hk; subst hq
        refine ⟨h5, fun i i1 i2 h => ?_⟩
        exact (bar_iff.1 (h6 i i1 i2)) ⟨h.1, fun e => (h.2 e).trans (h4 e)⟩
      | k + 1 => simp at hq
theorem M3 {P : Pq} {l : List Ev} {a b z : Nat} : P.M l [a, b, z] ↔ (evAt l z).ts - (evAt l a).ts ≤ P.wn ∧ (evAt l a).kind = P.kd 0 ∧ (evAt l b).kind = P.kd 1 ∧ (evAt l z).kind = P.kd 2 ∧ (P.sm = true → (evAt l a).val = (evAt l z).val) ∧ (P.sm = true → (evAt l b).val = (evAt l z).val) ∧ a < b ∧ (∀ i, a < i → i < b → P.bar l z 1 i = false) ∧ b < z ∧ (∀ i, b < i → i < z → P.bar l z 2 i = false) := by
  unfold Pq.M
  constructor
  · rintro ⟨h1, h2, h3⟩
    have k0 := h2 0 a rfl
    have k1 := h2 1 b rfl
    have k2 := h2 2 z rfl
    have m1 := h3 0 a b rfl rfl
    have m2 := h3 1 b z rfl rfl
    have hv : P.sm = true → (evAt l a).val = (evAt l z).val := fun e => (k2.2 e).symm
    refine ⟨h1, k0.1, k1.1, k2.1, hv, fun e => (k1.2 e).trans (hv e), m1.1, fun i i1 i2 => ?_, m2.1, fun i i1 i2 => ?_⟩
    · rw [bar_iff]
      intro h
      exact m1.2 i i1 i2 ⟨h.1, fun e => (h.2 e).trans (hv e).symm⟩
    · rw [bar_iff]
      intro h
      exact m2.2 i i1 i2 ⟨h.1, fun e => (h.2 e).trans (hv e).symm⟩
  · rintro ⟨h1, h2, h3, h3', h4, h4', h5, h6, h7, h8⟩
    refine ⟨h1, ?_, ?_⟩
    · intro k p hk
      match k with
      | 0 => simp at hk; subst hk; exact ⟨h2, fun _ => rfl⟩
      | 1 => simp at hk; subst hk; exact ⟨h3, fun e => (h4' e).trans (h4 e).symm⟩
      | 2 => simp at hk; subst hk; exact ⟨h3', fun e => (h4 e).symm⟩
      | k + 3 => simp at hk
    · intro k p q hk hq
      match k with
      | 0 =>
        simp at hk hq
        subst hk; subst hq
        refine ⟨h5, fun i i1 i2 h => ?_⟩
        exact (bar_iff.1 (h6 i i1 i2)) ⟨h.1, fun e => (h.2 e).trans (h4 e)⟩
      | 1 =>
        simp at hk hq
        subst hk; subst hq
        refine ⟨h7, fun i i1 i2 h => ?_⟩
        exact (bar_iff.1 (h8 i i1 i2)) ⟨h.1, fun e => (h.2 e).trans (h4 e)⟩
      | k + 2 => simp at hq
theorem bar0 {P : Pq} {l : List Ev} {z p : Nat} (h0 : ∀ p, p < z → (evAt l p).kind ≠ P.nt 0) (hp : p < z) : P.bar l z 0 p = false := by
  rw [bar_iff]; intro h; exact h0 p hp h.1
open Classical in
theorem endL_brute {P : Pq} {l : List Ev} {z : Nat} (hn : 1 ≤ P.st.length ∧ P.st.length ≤ 3) (hw : 0 ≤ P.wn) (h0 : ∀ p, p < z → (evAt l p).kind ≠ P.nt 0) : P.endL l z = P.bruteZ l z := by
  unfold Pq.endL Pq.bruteZ
  obtain h | h | h : P.st.length = 1 ∨ P.st.length = 2 ∨ P.st.length = 3 := by omega
  · simp only [h, Nat.sub_self, if_true]
    rw [flatMap_one (p := z) (by omega) (fun a h1 h2 h3 => by rw [List.flatMap_eq_nil_iff]; intro b _; rw [if_neg (fun e => h3 e.1)])]
    rw [flatMap_one (p := z) (by omega) (fun a h1 h2 h3 => by rw [if_neg (fun e => h3 e.2.1)])]
    rw [M1 hw]
    by_cases hk : (evAt l z).kind = P.kd 0
    · rw [if_pos hk, if_pos ⟨rfl, rfl, hk⟩]; rfl
    · rw [if_neg hk, if_neg (fun e => hk e.2.2)]
  · simp only [h, if_true, if_neg (show ¬ (2 : Nat) = 1 by omega), show (2 : Nat) - 1 = 1 from rfl]
    rw [flatMap_cut (k := z) (by omega) (fun a h1 h2 => by rw [List.flatMap_eq_nil_iff]; intro b _; rw [if_neg (fun e => by omega)])]
    by_cases hk : (evAt l z).kind = P.kd 1
    · rw [if_pos hk]
      show sweep _ _ (List.range' 0 (z - 0)) = _
      rw [sweep_flat]
      refine flatMap_congr' (fun a ha => ?_)
      rw [List.mem_range'_1] at ha
      rw [if_pos (show ∀ i, 0 ≤ i → i < a → P.bar l z ([] : List Nat).length i = false from fun i h1 h2 => bar0 h0 (by omega))]
      rw [flatMap_one (p := a) (by omega) (fun b h1 h2 h3 => by rw [if_neg (fun e => h3 e.1)])]
      have : P.fits l z (near (P.bar l z 1) (z - 1)) ([] : List Nat).length a = true ↔ (a = a ∧ a < z ∧ P.M l [a, z]) := by
        rw [fits_iff, M2, near_spec]
        constructor
        · rintro ⟨i1, i2, i3, i4⟩
          exact ⟨rfl, by omega, i2 rfl, i1, hk, i4, by omega, fun i j1 j2 => i3 h.symm i j1 (by omega)⟩
        · rintro ⟨_, _, i2, i1, _, i4, _, i3⟩
          exact ⟨i1, fun _ => i2, fun _ i j1 j2 => i3 i j1 (by omega), i4⟩
      by_cases hf : P.fits l z (near (P.bar l z 1) (z - 1)) ([] : List Nat).length a = true
      · rw [if_pos hf, if_pos (this.1 hf)]; rfl
      · rw [if_neg hf, if_neg (fun e => hf (this.2 e))]
    · rw [if_neg hk]
      symm
      rw [List.flatMap_eq_nil_iff]; intro a _
      rw [List.flatMap_eq_nil_iff]; intro b _
      rw [if_neg (fun e => hk (M2.1 e.2.2).2.2.1)]
  · simp only [h, if_neg (show ¬ (3 : Nat) = 1 by omega), if_neg (show ¬ (3 : Nat) = 2 by omega), show (3 : Nat) - 1 = 2 from rfl]
    rw [flatMap_cut (k := z) (by omega) (fun a h1 h2 => by rw [List.flatMap_eq_nil_iff]; intro b hb; rw [List.mem_range'_1] at hb; rw [if_neg (fun e => by omega)])]
    by_cases hk : (evAt l z).kind = P.kd 2
    · rw [if_pos hk]
      show sweep _ _ (List.range' 0 (z - 0)) = _
      rw [sweep_flat]
      refine flatMap_congr' (fun a ha => ?_)
      rw [List.mem_range'_1] at ha
      rw [if_pos (show ∀ i, 0 ≤ i → i < a → P.bar l z ([] : List Nat).length i = false from fun i h1 h2 => bar0 h0 (by omega))]
      rw [show z + 1 - a = 1 + (z - a) by omega, flatMap_skip (k := 1) (by omega) (fun b h1 h2 => by rw [if_neg (fun e => by omega)])]
      rw [show 1 + (z - a) - 1 = z - a by omega, flatMap_cut (k := z - (a + 1)) (by omega) (fun b h1 h2 => by rw [if_neg (fun e => by omega)])]
      by_cases hf : P.fits l z (near (P.bar l z 2) (z - 1)) ([] : List Nat).length a = true
      · rw [if_pos hf]
        show sweep _ _ (List.range' (a + 1) (z - (a + 1))) = _
        rw [sweep_flat]
        refine flatMap_congr' (fun b hb => ?_)
        rw [List.mem_range'_1] at hb
        have hf' := fits_iff.1 hf
        have : ((∀ i, a + 1 ≤ i → i < b → P.bar l z ([] ++ [a] : List Nat).length i = false) ∧ P.fits l z (near (P.bar l z 2) (z - 1)) ([] ++ [a] : List Nat).length b = true) ↔ (a < b ∧ b < z ∧ P.M l [a, b, z]) := by
          rw [fits_iff, M3, near_spec]
          constructor
          · rintro ⟨i0, i1, i2, i3, i4⟩
            exact ⟨by omega, by omega, hf'.2.1 rfl, hf'.1, i1, hk, hf'.2.2.2, i4, by omega, fun i j1 j2 => i0 i (by omega) j2, by omega, fun i j1 j2 => i3 h.symm i j1 (by omega)⟩
          · rintro ⟨_, _, _, _, i1, _, _, i4, _, i0, _, i3⟩
            exact ⟨fun i j1 j2 => i0 i (by omega) j2, i1, fun e => by simp at e, fun _ i j1 j2 => i3 i j1 (by omega), i4⟩
        by_cases hb1 : ∀ i, a + 1 ≤ i → i < b → P.bar l z ([] ++ [a] : List Nat).length i = false
        · rw [if_pos hb1]
          by_cases hb2 : P.fits l z (near (P.bar l z 2) (z - 1)) ([] ++ [a] : List Nat).length b = true
          · rw [if_pos hb2, if_pos (this.1 ⟨hb1, hb2⟩)]; rfl
          · rw [if_neg hb2, if_neg (fun e => hb2 (this.2 e).2)]
        · rw [if_neg hb1, if_neg (fun e => hb1 (this.2 e).1)]
      · rw [if_neg hf]
        symm
        rw [List.flatMap_eq_nil_iff]; intro b _
        rw [if_neg]
        intro e
        have m := M3.1 e.2.2
        exact hf (fits_iff.2 ⟨m.2.1, fun _ => m.1, fun e => by simp at e; omega, m.2.2.2.2.1⟩)
    · rw [if_neg hk]
      symm
      rw [List.flatMap_eq_nil_iff]; intro a _
      rw [List.flatMap_eq_nil_iff]; intro b _
      rw [if_neg (fun e => hk (M3.1 e.2.2).2.2.2.1)]
end Go.Proofs.YtghcololkgeoeabGreat
namespace Go.Proofs.YtghcololkgeoeabGreat
open Go.RowKit
set_option linter.unusedVariables false
set_option linter.unusedSimpArgs false
attribute [local go_sem ↓] Go.wp_at_zero Go.wp_at_succ
set_option maxRecDepth 100000 in
set_option maxHeartbeats 2000000 in
theorem counts_any (sb : Nat) (P : Pq) (pa : Option Addr) (pc : Nat) (ga : Option Addr) (gc : Nat) (l : List Ev) (Q : Sq) (w0 w : World) (h : MemS w0 w sb P pa pc ga gc l Q) (p : Nat) (hp : p < l.length) (hz : Q.z < l.length) :
    Calls Tryz.prog 114 #[.pointer (some ⟨sb, 0, none⟩), .int .i64 p] w fun e w' => e = .returned (.bool (P.cnt l Q.z p)) ∧ ∃ n, w' = w.drewN n := by
  have hp' : (p : Int) < (l.length : Int) := by omega
  have hz' : (Q.z : Int) < (l.length : Int) := by omega
  have hp0 : (0 : Int) ≤ (p : Int) := by omega
  have hz0 : (0 : Int) ≤ (Q.z : Int) := by omega
  obtain ⟨s0, s1, s2, s3, s4, s5, s6, s7, s8⟩ := h.cells
  obtain ⟨g, hg, _, _, _, x4⟩ := (h.ev.below h.bel) p hp
  obtain ⟨g', hg', _, _, _, y4⟩ := (h.ev.below h.bel) Q.z hz
  subst hg
  simp only [Option.some.injEq, Addr.mk.injEq, and_true] at hg'
  subst hg'
  obtain ⟨v, HV⟩ := hex (evAt l p).val
  obtain ⟨u, HU⟩ := hex (evAt l Q.z).val
  obtain ⟨cv, HC⟩ := hex (P.cnt l Q.z p)
  rw [← HC.out]
  rw [← HV.out] at x4
  rw [← HU.out] at y4
  clear h hp hz
  cases hs : P.sm with
  | false =>
    rw [hs] at s1
    have HR : Hid (cv = true) := by show _ = _; rw [HC.out]; unfold Pq.cnt; rw [hs]; rfl
    clear hs
    go_enter Tryz.func114, Tryz.ntmps114
    go_wp2
    go_quiet (fail)
    go_wp2
    go_ret
    exact ⟨by rw [HR.out]; rfl, _, rfl⟩
  | true =>
    rw [hs] at s1
    have HR : Hid (cv = (v == u)) := by show _ = _; rw [HC.out]; unfold Pq.cnt; rw [hs, ← HV.out, ← HU.out]; simp; rfl
    clear hs
    go_enter Tryz.func114, Tryz.ntmps114
    go_wp2
    go_quiet (fail)
    go_wp2
    go_ret
    exact ⟨by rw [HR.out]; rfl, _, rfl⟩
set_option maxRecDepth 100000 in
set_option maxHeartbeats 2000000 in
theorem barred_any (sb : Nat) (P : Pq) (pa : Option Addr) (pc : Nat) (ga : Option Addr) (gc : Nat) (l : List Ev) (Q : Sq) (w0 w : World) (h : MemS w0 w sb P pa pc ga gc l Q) (k p : Nat) (hk : k < P.st.length) (hp : p < l.length) (hz : Q.z < l.length) :
    Calls Tryz.prog 108 #[.pointer (some ⟨sb, 0, none⟩), .int .i64 k, .int .i64 p] w fun e w' => e = .returned (.bool (P.bar l Q.z k p)) ∧ ∃ n, w' = w.drewN n := by
  have hct : ∀ m, Calls Tryz.prog 114 #[.pointer (some ⟨sb, 0, none⟩), .int .i64 p] (w.drewN m) fun e w' => e = .returned (.bool (P.cnt l Q.z p)) ∧ ∃ n, w' = (w.drewN m).drewN n := fun m => counts_any sb P pa pc ga gc l Q w0 _ (h.drewN m) p hp hz
  have hp' : (p : Int) < (l.length : Int) := by omega
  have hp0 : (0 : Int) ≤ (p : Int) := by omega
  have hk' : (k : Int) < (P.st.length : Int) := by omega
  have hk0 : (0 : Int) ≤ (k : Int) := by omega
  obtain ⟨s0, s1, s2, s3, s4, s5, s6, s7, s8⟩ := h.cells
  obtain ⟨g, hg, _, _, x3, _⟩ := (h.ev.below h.bel) p hp
  obtain ⟨g', hg', _, y0, y1⟩ := (h.st.below h.bel) k hk
  subst hg
  subst hg'
  obtain ⟨v, HV⟩ := hex (evAt l p).kind
  obtain ⟨u, HU⟩ := hex (P.nt k)
  obtain ⟨cv, HC⟩ := hex (P.cnt l Q.z p)
  obtain ⟨bv, HB⟩ := hex (P.bar l Q.z k p)
  change w.cell? ⟨g', k * 2 + 1, none⟩ = some (.int .i64 (P.nt k)) at y1
  rw [← HB.out]
  rw [← HV.out] at x3
  rw [← HU.out] at y1
  rw [← HC.out] at hct
  clear h hp hz hk y0
  by_cases hvu : v = u
  · have HR : Hid (bv = cv) := by show _ = _; rw [HB.out]; unfold Pq.bar; rw [← HV.out, ← HU.out, ← HC.out, hvu]; simp
    have hb : (v == u) = true := by simp [hvu]
    subst hvu
    go_enter Tryz.func108, Tryz.ntmps108
    go_wp2
    go_quiet (first | (go_at_call 114; refine Calls.quiet_of (hct _)))
    go_wp2
    go_ret
    exact ⟨by rw [HR.out]; rfl, _, rfl⟩
  · have HR : Hid (bv = false) := by show _ = _; rw [HB.out]; unfold Pq.bar; rw [← HV.out, ← HU.out, ← HC.out]; simp [hvu]
    have hb : (v == u) = false := by simp [hvu]
    go_enter Tryz.func108, Tryz.ntmps108
    go_wp2
    go_quiet (first | (go_at_call 114; refine Calls.quiet_of (hct _)))
    go_wp2
    go_ret
    exact ⟨by rw [HR.out]; rfl, _, rfl⟩
set_option maxRecDepth 100000 in
set_option maxHeartbeats 2000000 in
theorem fits_any (sb : Nat) (P : Pq) (pa : Option Addr) (pc : Nat) (ga : Option Addr) (gc : Nat) (l : List Ev) (Q : Sq) (w0 w : World) (h : MemS w0 w sb P pa pc ga gc l Q) (k p : Nat) (hk : k < P.st.length) (h3 : P.st.length ≤ 3) (hp : p < l.length) (hz : Q.z < l.length) (hts : ∀ i, i < l.length → -4398046511104 ≤ (evAt l i).ts ∧ (evAt l i).ts ≤ 4398046511104) :
    Calls Tryz.prog 110 #[.pointer (some ⟨sb, 0, none⟩), .int .i64 k, .int .i64 p] w fun e w' => e = .returned (.bool (P.fits l Q.z Q.least k p)) ∧ ∃ n, w' = w.drewN n := by
  have hct : ∀ m, Calls Tryz.prog 114 #[.pointer (some ⟨sb, 0, none⟩), .int .i64 p] (w.drewN m) fun e w' => e = .returned (.bool (P.cnt l Q.z p)) ∧ ∃ n, w' = w.drewN n := fun m => (counts_any sb P pa pc ga gc l Q w0 _ (h.drewN m) p hp hz).mono fun e w' ⟨he, n, hw⟩ => ⟨he, m + n, by rw [hw, drewN2]⟩
  have hp' : (p : Int) < (l.length : Int) := by omega
  have hp0 : (0 : Int) ≤ (p : Int) := by omega
  have hz' : (Q.z : Int) < (l.length : Int) := by omega
  have hz0 : (0 : Int) ≤ (Q.z : Int) := by omega
  have hk' : (k : Int) < (P.st.length : Int) := by omega
  have hk0 : (0 : Int) ≤ (k : Int) := by omega
  obtain ⟨s0, s1, s2, s3, s4, s5, s6, s7, s8⟩ := h.cells
  obtain ⟨g, hg, _, x2, x3, _⟩ := (h.ev.below h.bel) p hp
  obtain ⟨g2, hg2, _, z2, _, _⟩ := (h.ev.below h.bel) Q.z hz
  obtain ⟨g', hg', _, y0, y1⟩ := (h.st.below h.bel) k hk
  subst hg
  simp only [Option.some.injEq, Addr.mk.injEq, and_true] at hg2
  subst hg2
  subst hg'
  have t1 := hts p hp
  have t2 := hts Q.z hz
  obtain ⟨v, HV⟩ := hex (evAt l p).kind
  obtain ⟨u, HU⟩ := hex (P.kd k)
  obtain ⟨tp, HTp⟩ := hex (evAt l p).ts
  obtain ⟨tz, HTz⟩ := hex (evAt l Q.z).ts
  obtain ⟨cv, HC⟩ := hex (P.cnt l Q.z p)
  obtain ⟨fv, HF⟩ := hex (P.fits l Q.z Q.least k p)
  obtain ⟨n, HN⟩ := hex P.st.length
  obtain ⟨le, HL⟩ := hex Q.least
  obtain ⟨wn, HW⟩ := hex P.wn
  change w.cell? ⟨g', k * 2, none⟩ = some (.int .i64 (P.kd k)) at y0
  rw [← HF.out]
  rw [← HV.out] at x3
  rw [← HU.out] at y0
  rw [← HC.out] at hct
  rw [← HTp.out] at x2 t1
  rw [← HTz.out] at z2 t2
  rw [← HN.out] at s0 s6 hk' h3 hk
  rw [← HL.out] at s5
  rw [← HW.out] at s2
  have hsub : IntKind.i64.wrap (tz - tp) = tz - tp := by rw [IntKind.wrap_i64]; omega
  have hn2 : IntKind.i64.wrap ((n : Int) - 2) = (n : Int) - 2 := by rw [IntKind.wrap_i64]; omega
  have HFE : Hid (fv = (decide (v = u) && (!(decide (k = 0) && decide (wn < tz - tp))) && (!(decide (k + 2 = n) && decide (p < le))) && cv)) := by
    show _ = _
    rw [HF.out]; unfold Pq.fits; rw [← HV.out, ← HU.out, ← HTp.out, ← HTz.out, ← HC.out, ← HN.out, ← HL.out, ← HW.out]
  clear h hp hz y1 hts s1 HF HC
  by_cases hvu : v = u
  · have hb : (v != u) = false := by simp [hvu]
    subst hvu
    by_cases hk00 : k = 0
    · subst hk00
      by_cases hwn : wn < tz - tp
      · have HR : Hid (fv = false) := by show _ = _; rw [HFE.out]; simp [hwn]
        go_enter Tryz.func110, Tryz.ntmps110
        go_wp2
        go_quiet (fail)
        go_wp2
        go_quiet (fail)
        go_wp2
        go_ret
        first | exact ⟨by rw [HR.out]; rfl, _, rfl⟩ | exact ⟨by rw [HR.out]; rfl, _, drewN2 _ _ _⟩
      · have HA : Hid (fv = ((!(decide (0 + 2 = n) && decide (p < le))) && cv)) := by show _ = _; rw [HFE.out]; simp [hwn]
        have hwb : decide (wn < tz - tp) = false := by simp [hwn]
        by_cases hkn : 0 + 2 = n
        · by_cases hpl : p < le
          · have HR : Hid (fv = false) := by show _ = _; rw [HA.out]; simp [hkn, hpl]
            have hpl' : (p : Int) < (le : Int) := by omega
            have hke : ((0 : Int) == (n : Int) - 2) = true := by rw [beq_iff_eq]; omega
            go_enter Tryz.func110, Tryz.ntmps110
            go_wp2
            go_quiet (fail)
            go_wp2
            go_quiet (fail)
            go_wp2
            go_ret
            first | exact ⟨by rw [HR.out]; rfl, _, rfl⟩ | exact ⟨by rw [HR.out]; rfl, _, drewN2 _ _ _⟩
          · have HR : Hid (fv = cv) := by show _ = _; rw [HA.out]; simp [hkn, hpl]
            have hpl' : ¬ (p : Int) < (le : Int) := by omega
            have hke : ((0 : Int) == (n : Int) - 2) = true := by rw [beq_iff_eq]; omega
            go_enter Tryz.func110, Tryz.ntmps110
            go_wp2
            go_quiet (fail)
            go_wp2
            go_quiet (fail)
            go_wp2_with (go_at_call 114; refine (hct _).mono ?_; rintro e w' ⟨rfl, m, rfl⟩)
            go_ret
            first | exact ⟨by rw [HR.out]; rfl, _, rfl⟩ | exact ⟨by rw [HR.out]; rfl, _, drewN2 _ _ _⟩
        · have HR : Hid (fv = cv) := by show _ = _; rw [HA.out]; simp [hkn]
          have hke : ((0 : Int) == (n : Int) - 2) = false := by rw [beq_eq_false_iff_ne]; omega
          go_enter Tryz.func110, Tryz.ntmps110
          go_wp2
          go_quiet (fail)
          go_wp2
          go_quiet (fail)
          go_wp2_with (go_at_call 114; refine (hct _).mono ?_; rintro e w' ⟨rfl, m, rfl⟩)
          go_ret
          first | exact ⟨by rw [HR.out]; rfl, _, rfl⟩ | exact ⟨by rw [HR.out]; rfl, _, drewN2 _ _ _⟩
    · have hkb : ((k : Int) == 0) = false := by rw [beq_eq_false_iff_ne]; omega
      have HA : Hid (fv = ((!(decide (k + 2 = n) && decide (p < le))) && cv)) := by show _ = _; rw [HFE.out]; simp [hk00]
      by_cases hkn : k + 2 = n
      · by_cases hpl : p < le
        · have HR : Hid (fv = false) := by show _ = _; rw [HA.out]; simp [hkn, hpl]
          have hpl' : (p : Int) < (le : Int) := by omega
          have hke : ((k : Int) == (n : Int) - 2) = true := by rw [beq_iff_eq]; omega
          go_enter Tryz.func110, Tryz.ntmps110
          go_wp2
          go_quiet (fail)
          go_wp2
          go_quiet (fail)
          go_wp2
          go_ret
          first | exact ⟨by rw [HR.out]; rfl, _, rfl⟩ | exact ⟨by rw [HR.out]; rfl, _, drewN2 _ _ _⟩
        · have HR : Hid (fv = cv) := by show _ = _; rw [HA.out]; simp [hkn, hpl]
          have hpl' : ¬ (p : Int) < (le : Int) := by omega
          have hke : ((k : Int) == (n : Int) - 2) = true := by rw [beq_iff_eq]; omega
          go_enter Tryz.func110, Tryz.ntmps110
          go_wp2
          go_quiet (fail)
          go_wp2
          go_quiet (fail)
          go_wp2_with (go_at_call 114; refine (hct _).mono ?_; rintro e w' ⟨rfl, m, rfl⟩)
          go_ret
          first | exact ⟨by rw [HR.out]; rfl, _, rfl⟩ | exact ⟨by rw [HR.out]; rfl, _, drewN2 _ _ _⟩
      · have HR : Hid (fv = cv) := by show _ = _; rw [HA.out]; simp [hkn]
        have hke : ((k : Int) == (n : Int) - 2) = false := by rw [beq_eq_false_iff_ne]; omega
        go_enter Tryz.func110, Tryz.ntmps110
        go_wp2
        go_quiet (fail)
        go_wp2
        go_quiet (fail)
        go_wp2_with (go_at_call 114; refine (hct _).mono ?_; rintro e w' ⟨rfl, m, rfl⟩)
        go_ret
        first | exact ⟨by rw [HR.out]; rfl, _, rfl⟩ | exact ⟨by rw [HR.out]; rfl, _, drewN2 _ _ _⟩
  · have HR : Hid (fv = false) := by show _ = _; rw [HFE.out]; simp [hvu]
    have hb : (v != u) = true := by simp [hvu]
    go_enter Tryz.func110, Tryz.ntmps110
    go_wp2
    go_quiet (fail)
    go_wp2
    go_ret
    first | exact ⟨by rw [HR.out]; rfl, _, rfl⟩ | exact ⟨by rw [HR.out]; rfl, _, drewN2 _ _ _⟩
end Go.Proofs.YtghcololkgeoeabGreat
