import Derived.Test.YtghcololkgeoeabGreatPartA9
import Derived.Deep.RegionLawGrows
namespace Go.Proofs.YtghcololkgeoeabGreat
open Go.RowKit
set_option linter.unusedVariables false
set_option linter.unusedSimpArgs false
attribute [local go_sem ↓] Go.wp_at_zero Go.wp_at_succ

theorem drewN2 (w : World) (n m : Nat) : (w.drewN n).drewN m = w.drewN (n + m) := by simp [World.drewN, Nat.add_assoc]
set_option maxRecDepth 100000 in
set_option maxHeartbeats 2000000 in
theorem sameEvents_eq (l : List Ev) (a a' : Option Addr) (c c' : Nat) (w : World) (h : Row w 30 5 a l.length c (evs l)) (h' : Row w 30 5 a' l.length c' (evs l)) (hl : l.length ≤ 100000) :
    Calls Tryz.prog 17 #[.slice a l.length c, .slice a' l.length c'] w fun e w' => e = .returned (.bool true) ∧ ∃ n, w' = w.drewN n := by
  have HR : Hid (Row w 30 5 a l.length c (evs l)) := h
  have HR' : Hid (Row w 30 5 a' l.length c' (evs l)) := h'
  clear h h'
  go_enter Tryz.func17, Tryz.ntmps17
  go_wp2
  go_loopw [5] (fun i wr => ∃ (k n : Nat), k ≤ l.length ∧ i = .int .i64 k ∧ wr = w.drewN n) (fun i _ => l.length - (intOf i).toNat)
  case atStart => exact ⟨0, 0, Nat.zero_le _, rfl, rfl⟩
  case round =>
    obtain ⟨k, n, hk, rfl, hwr⟩ := hrel
    have HRr : Hid (Row wr 30 5 a l.length c (evs l)) := by show Row _ _ _ _ _ _ _; rw [hwr]; exact HR.out
    have HRr' : Hid (Row wr 30 5 a' l.length c' (evs l)) := by show Row _ _ _ _ _ _ _; rw [hwr]; exact HR'.out
    have HW : Hid (wr = w.drewN n) := hwr
    clear hwr
    by_cases hlt : k < l.length
    · have hlt' : (k : Int) < (l.length : Int) := by omega
      have hk0 : (0 : Int) ≤ (k : Int) := by omega
      obtain ⟨g, hg, _, x0, x1, x2, x3, x4⟩ := evRow_cells HRr.out k hlt
      obtain ⟨g', hg', _, y0, y1, y2, y3, y4⟩ := evRow_cells HRr'.out k hlt
      obtain ⟨E, HE⟩ := hex l[k]
      rw [← HE.out] at x0 x1 x2 x3 x4 y0 y1 y2 y3 y4
      subst hg
      subst hg'
      go_wp2
      go_quiet (fail)
      go_wp2
      go_roundw
      case rel => exact ⟨k + 1, n + _, by omega, by go_num, by rw [HW.out, drewN2]⟩
      case measure => simp [intOf]; omega
    · go_wp2
      go_ret
      exact ⟨rfl, n, HW.out⟩

set_option maxHeartbeats 400000 in
theorem markN_any (i : Int) (w : World) (h0 : 0 ≤ i) (h1 : i ≤ 9000000000000000) : Calls Tryz.prog 74 #[.int .i64 i] w fun e w' => e = .returned (.int .i64 (-7000 - i)) ∧ w = w' := by
  go_enter Tryz.func74, Tryz.ntmps74
  go_wp2
  go_ret
  exact ⟨rfl, rfl⟩
def markEv (i : Int) : Ev := ⟨-7000 - i, -7000 - i, -7000 - i, -7000 - i, -7000 - i⟩
set_option maxHeartbeats 400000 in
theorem marked_any (i : Int) (w : World) (h0 : 0 ≤ i) (h1 : i ≤ 9000000000000000) : Calls Tryz.prog 47 #[.int .i64 i] w fun e w' => e = .returned (markEv i).agg ∧ Below w.heap.size w w' ∧ w'.heap.size = w.heap.size + 1 := by
  go_enter Tryz.func47, Tryz.ntmps47
  go_wp2_with (go_at_call 74; refine (markN_any _ _ h0 h1).mono ?_; rintro e w' ⟨rfl, rfl⟩)
  refine bodyPost_ret (v := (markEv i).agg) (by simp [results, Tryz.results47, go_sem, markEv, Ev.agg]) rfl ⟨rfl, (Below.refl _ _).alloc (Nat.le_refl _) _, by simp⟩
theorem kept_toBelow {S : Nat → Prop} {w a b : World} (hb : Below w.heap.size w a) (k : Kept S a b) (hS : ∀ i, S i → w.heap.size ≤ i) : Below w.heap.size w b :=
  ⟨k.os.trans hb.os, k.tape.trans hb.tape, k.output.trans hb.output, Nat.le_trans hb.size k.size, fun i hi => (k.block i (Nat.lt_of_lt_of_le hi hb.size) (fun e => by have := hS i e; omega)).trans (hb.block i hi)⟩
end Go.Proofs.YtghcololkgeoeabGreat
namespace Go.Proofs.YtghcololkgeoeabGreat
open Go.RowKit
set_option linter.unusedVariables false
set_option linter.unusedSimpArgs false
attribute [local go_sem ↓] Go.wp_at_zero Go.wp_at_succ

structure Sl where
  a : Option Addr
  n : Nat
  c : Nat
def Sl.val (s : Sl) : Value := .slice s.a s.n s.c
structure Owns (w : World) (a : Option Addr) (c : Nat) (sl : List Sl) (m : Ev) : Prop where
  row : Row w 22 1 a sl.length c (sl.map Sl.val)
  len : sl.length ≤ 1000
  each : ∀ s ∈ sl, Row w 30 5 s.a s.n s.c (evs (List.replicate s.n m)) ∧ s.n ≤ 100000
theorem Owns.heap {w w' : World} {a : Option Addr} {c : Nat} {sl : List Sl} {m : Ev} (h : Owns w a c sl m) (hk : ∀ k, k < w.heap.size → w'.heap[k]? = w.heap[k]?) : Owns w' a c sl m :=
  ⟨ownsRow_of_heap h.row hk, h.len, fun s hs => ⟨ownsRow_of_heap (h.each s hs).1 hk, (h.each s hs).2⟩⟩
theorem Owns.slot {w : World} {a : Option Addr} {c : Nat} {sl : List Sl} {m : Ev} (h : Owns w a c sl m) (k : Nat) (hk : k < sl.length) : ∃ g, a = some ⟨g, 0, none⟩ ∧ w.cell? ⟨g, k, none⟩ = some (.slice sl[k].a sl[k].n sl[k].c) := by
  obtain ⟨g, e, _, _, hc, _⟩ := h.row.form (by omega)
  exact ⟨g, e, by rw [hc k (by omega)]; simp [Sl.val, hk]⟩

end Go.Proofs.YtghcololkgeoeabGreat
namespace Go.Proofs.YtghcololkgeoeabGreat
open Go.RowKit
set_option linter.unusedVariables false
set_option linter.unusedSimpArgs false
attribute [local go_sem ↓] Go.wp_at_zero Go.wp_at_succ

structure El where
  a : Option Addr
  c : Nat
  sl : List Sl
def El.val (e : El) : Value := .slice e.a e.sl.length e.c
structure Lists (w : World) (a : Option Addr) (c : Nat) (l : List El) : Prop where
  row : Row w 106 1 a l.length c (l.map El.val)
  each : ∀ (i : Nat) e, l[i]? = some e → Owns w e.a e.c e.sl (markEv i)
theorem Lists.heap {w w' : World} {a : Option Addr} {c : Nat} {l : List El} (h : Lists w a c l) (hk : ∀ k, k < w.heap.size → w'.heap[k]? = w.heap[k]?) : Lists w' a c l :=
  ⟨ownsRow_of_heap h.row hk, fun i e he => (h.each i e he).heap hk⟩
theorem Lists.slot {w : World} {a : Option Addr} {c : Nat} {l : List El} (h : Lists w a c l) (k : Nat) (hk : k < l.length) : ∃ g, a = some ⟨g, 0, none⟩ ∧ w.cell? ⟨g, k, none⟩ = some (.slice l[k].a l[k].sl.length l[k].c) := by
  obtain ⟨g, e, _, _, hc, _⟩ := h.row.form (by omega)
  exact ⟨g, e, by rw [hc k (by omega)]; simp [El.val, hk]⟩

end Go.Proofs.YtghcololkgeoeabGreat
namespace Go.Proofs.YtghcololkgeoeabGreat
open Go.RowKit
set_option linter.unusedVariables false
set_option linter.unusedSimpArgs false

theorem evs_rep_get (m : Ev) (n j : Nat) (hj : j < n * 5) : (evs (List.replicate n m))[j]? = m.vals[j % 5]? := by
  have h := flatMap_get Ev.vals 5 Ev.len (List.replicate n m) (j / 5) (j % 5) (Nat.mod_lt _ (by omega)) (by simp; omega)
  rw [show j / 5 * 5 + j % 5 = j by omega] at h
  unfold evs
  rw [h]
  simp
theorem evs_rep_len (m : Ev) (n : Nat) : (evs (List.replicate n m)).length = n * 5 := by unfold evs; rw [flatMap_len _ 5 Ev.len]; simp
def AllM (w : World) (m : Ev) (s : Sl) : Prop := Row w 30 5 s.a s.n s.c (evs (List.replicate s.n m))
theorem AllM.mark {w : World} {m : Ev} {s : Sl} (h : AllM w m s) (g j : Nat) (v : Value) (hv : m.vals[j % 5]? = some v) : AllM (w.setCell ⟨g, j, none⟩ v) m s := by
  unfold AllM at *
  by_cases hg : bk s.a = some g
  · cases ha : s.a with
    | none => rw [ha] at hg; cases hg
    | some ad =>
      rw [ha] at h hg
      by_cases h0 : 0 < s.n
      · obtain ⟨g', e, _⟩ := h.form h0
        simp only [Option.some.injEq] at e
        subst e
        simp only [bk, Option.map_some, Option.some.injEq] at hg
        subst hg
        have := h.set j v
        have e : (evs (List.replicate s.n m)).set j v = evs (List.replicate s.n m) := by
          by_cases hj : j < s.n * 5
          · refine set_self ?_
            rw [evs_rep_get m s.n j hj]; exact hv
          · rw [List.set_eq_of_length_le]; rw [evs_rep_len]; omega
        rw [e] at this
        exact this
      · obtain ⟨h1, h2⟩ := h
        refine ⟨h1, ?_⟩
        rcases h2 with h2 | ⟨g', cap, cur, hv', hb, hh, h3, h4, h5, h6⟩
        · exact Or.inl h2
        · simp only [Value.slice.injEq, Option.some.injEq] at hv'
          obtain ⟨rfl, _, rfl⟩ := hv'
          simp only [bk, Option.map_some, Option.some.injEq] at hg
          subst hg
          have hb2 : Blk w g' 30 cur.toList := by unfold Blk; simpa using hh
          have := hb2.set j v
          unfold Blk at this
          refine Or.inr ⟨g', _, _, rfl, hb, this, h3, h4, ?_, ?_⟩
          · simp [h5]
          · have hz : s.n = 0 := by omega
            simp [hz, evs]
  · exact h.other hg v
theorem AllM.marks {m : Ev} {s : Sl} (g : Nat) : ∀ (vs : List Value) (o : Nat) (w : World), AllM w m s → (∀ i v, vs[i]? = some v → m.vals[(o + i) % 5]? = some v) → AllM (w.setCells g o vs) m s := by
  intro vs
  induction vs with
  | nil => intro o w h _; exact h
  | cons v vs ih =>
    intro o w h hv
    rw [World.setCells]
    refine ih (o + 1) _ (h.mark g o v (by simpa using hv 0 v rfl)) (fun i u hu => ?_)
    have := hv (i + 1) u (by simpa using hu)
    rw [show o + 1 + i = o + (i + 1) by omega]; exact this
def setL (l : List Value) (o : Nat) : List Value → List Value
  | [] => l
  | v :: r => setL (l.set o v) (o + 1) r
theorem setL_eq : ∀ (vs l : List Value) (o : Nat), o + vs.length ≤ l.length → setL l o vs = l.take o ++ vs ++ l.drop (o + vs.length) := by
  intro vs
  induction vs with
  | nil => intro l o h; simp [setL]
  | cons v vs ih =>
    intro l o h
    simp only [List.length_cons] at h
    rw [setL, ih (l.set o v) (o + 1) (by simp; omega)]
    have h1 : (l.set o v).take (o + 1) = l.take o ++ [v] := by
      rw [List.take_succ_eq_append_getElem (by simp; omega)]
      rw [List.take_set, List.set_eq_of_length_le (by simp; omega)]; simp
    rw [h1, List.drop_set_of_lt (by omega)]
    simp [show o + 1 + vs.length = o + (vs.length + 1) by omega]
theorem blk_setCells {b : Nat} {t : TypeId} : ∀ (vs : List Value) (o : Nat) (w : World) (l : List Value), Blk w b t l → Blk (w.setCells b o vs) b t (setL l o vs) := by
  intro vs
  induction vs with
  | nil => intro o w l h; exact h
  | cons v vs ih => intro o w l h; rw [World.setCells, setL]; exact ih _ _ _ (h.set o v)
theorem evs_rep_add (m : Ev) (n k : Nat) : evs (List.replicate n m) ++ evs (List.replicate k m) = evs (List.replicate (n + k) m) := by unfold evs; rw [← List.flatMap_append, List.replicate_append_replicate]
theorem AllM.room {w : World} {m : Ev} {g n c k : Nat} (h : AllM w m ⟨some ⟨g, 0, none⟩, n, c⟩) (hc : n + k ≤ c) : AllM (w.setCells g (n * 5) (evs (List.replicate k m))) m ⟨some ⟨g, 0, none⟩, n + k, c⟩ := by
  obtain ⟨h1, h2⟩ := h
  rcases h2 with ⟨h2, _⟩ | ⟨g', cap, cur, hv', hb, hh, h3, h4, h5, h6⟩
  · simp at h2
  · simp only [Value.slice.injEq, Option.some.injEq, Addr.mk.injEq, and_true, true_and] at hv'
    obtain ⟨rfl, rfl⟩ := hv'
    have hb2 : Blk w g 30 cur.toList := by unfold Blk; simpa using hh
    have h7 := blk_setCells (evs (List.replicate k m)) (n * 5) w _ hb2
    have hsz : cur.toList.length = c * 5 := by simpa using h5
    rw [setL_eq _ _ _ (by rw [evs_rep_len, hsz]; omega)] at h7
    simp only at h6 h1
    refine ⟨evs_rep_len m (n + k), Or.inr ⟨g, c, _, rfl, Nat.zero_le _, h7, hc, h4, ?_, ?_⟩⟩
    · simp only [evs_rep_len, List.size_toArray, List.length_append, List.length_take, List.length_drop, hsz]; omega
    · simp only
      rw [h6, evs_rep_add, List.take_append_of_le_length (by rw [evs_rep_len]; omega), List.take_of_length_le (by rw [evs_rep_len]; omega)]
theorem AllM.kept {S : Nat → Prop} {w w' : World} {m : Ev} {s : Sl} (h : AllM w m s) (hk : Kept S w w') (hn : ∀ k, bk s.a = some k → ¬ S k) : AllM w' m s := Row.kept h hk hn
theorem AllM.grown {w w' : World} {m : Ev} {s : Sl} (h : AllM w m s) (hg : w.grownBy w' none) : AllM w' m s := AllM.kept h ((Kept.refl (fun _ => False) w).grown hg (fun k _ e => by cases e)) (fun _ _ e => e)
section
variable {P : Program} {ops : Array Oper} {Q : Exit → Act → World → Prop} {md : Region.Mode} {S : World → Prop} {t : Nat}
theorem upTo_two {i j : Nat} {oi oj : Oper} {fuel : Nat} {listed : Array Bool} {a : Act} {w : World} (hr : Region.ready md ops listed = [i, j]) (hoi : ops[i]? = some oi) (hoj : ops[j]? = some oj)
    (hi : ∀ K : Act → World → Prop, Shut (∀ b v, (i ≠ t → S v) → UpTo P md ops Q S t fuel (listed.setIfInBounds i true) b v → K b v) → if Region.wanted oi (yielded ops a.tmps) = true then Oper.wp P oi a w K Q else K (a.put oi.dst undef) w)
    (hj : ∀ K : Act → World → Prop, Shut (∀ b v, (j ≠ t → S v) → UpTo P md ops Q S t fuel (listed.setIfInBounds j true) b v → K b v) → if Region.wanted oj (yielded ops a.tmps) = true then Oper.wp P oj a w K Q else K (a.put oj.dst undef) w) : UpTo P md ops Q S t (fuel + 1) listed a w := by
  refine ⟨fun e => absurd (hr ▸ e) (by simp), ?_⟩
  rw [hr]
  intro k hk
  simp only [List.mem_cons, List.not_mem_nil, or_false] at hk
  rcases hk with rfl | rfl
  · exact wpOp_step hoi (fun K hK => hi K (fun b v h1 h2 => hK b v ⟨h1, h2⟩))
  · exact wpOp_step hoj (fun K hK => hj K (fun b v h1 h2 => hK b v ⟨h1, h2⟩))
end

theorem evs_set (M : List Ev) (k : Nat) (hk : k < M.length) (E : Ev) : (((((evs M).set (k * 5 + 0) (.int .i64 E.src)).set (k * 5 + 1) (.int .i64 E.seq)).set (k * 5 + 2) (.int .i64 E.ts)).set (k * 5 + 3) (.int .i64 E.kind)).set (k * 5 + 4) (.int .i64 E.val) = evs (M.set k E) := by
  unfold evs
  rw [flatMap_set Ev.vals 5 Ev.len M k 0 (by omega) hk _ { M[k] with src := E.src } rfl,
    flatMap_set Ev.vals 5 Ev.len _ k 1 (by omega) (by simpa using hk) _ { M[k] with src := E.src, seq := E.seq } (by simp [Ev.vals]), List.set_set,
    flatMap_set Ev.vals 5 Ev.len _ k 2 (by omega) (by simpa using hk) _ { M[k] with src := E.src, seq := E.seq, ts := E.ts } (by simp [Ev.vals]), List.set_set,
    flatMap_set Ev.vals 5 Ev.len _ k 3 (by omega) (by simpa using hk) _ { M[k] with src := E.src, seq := E.seq, ts := E.ts, kind := E.kind } (by simp [Ev.vals]), List.set_set,
    flatMap_set Ev.vals 5 Ev.len _ k 4 (by omega) (by simpa using hk) _ E (by simp [Ev.vals]), List.set_set]
def setEv (w : World) (g k : Nat) (E : Ev) : World := ((((w.setCell ⟨g, k * 5, none⟩ (.int .i64 E.src)).setCell ⟨g, k * 5 + 1, none⟩ (.int .i64 E.seq)).setCell ⟨g, k * 5 + 2, none⟩ (.int .i64 E.ts)).setCell ⟨g, k * 5 + 3, none⟩ (.int .i64 E.kind)).setCell ⟨g, k * 5 + 4, none⟩ (.int .i64 E.val)
theorem Row.setEv {w : World} {t : TypeId} {g n c k : Nat} {M : List Ev} {E : Ev} (h : Row w t 5 (some ⟨g, 0, none⟩) n c (evs M)) (hk : k < M.length) : Row (setEv w g k E) t 5 (some ⟨g, 0, none⟩) n c (evs (M.set k E)) := by
  rw [← evs_set M k hk E]
  exact ((((h.set (k * 5) _).set (k * 5 + 1) _).set (k * 5 + 2) _).set (k * 5 + 3) _).set (k * 5 + 4) _
theorem kept_setEv {S : Nat → Prop} {a w : World} {g k : Nat} {E : Ev} (h : Kept S a w) (hS : g < a.heap.size → S g) : Kept S a (setEv w g k E) :=
  ((((h.setCell hS _).setCell hS _).setCell hS _).setCell hS _).setCell hS _
def El.fp (e : El) : List (Option Nat) := bk e.a :: e.sl.map (fun s => bk s.a)
def lfp (l : List El) : List (Option Nat) := l.flatMap El.fp
theorem Owns.kept {S : Nat → Prop} {w w' : World} {a : Option Addr} {c : Nat} {sl : List Sl} {m : Ev} (h : Owns w a c sl m) (hk : Kept S w w') (hn : ∀ k, some k ∈ (El.mk a c sl).fp → ¬ S k) : Owns w' a c sl m :=
  ⟨h.row.kept hk (fun k e => hn k (by simp [El.fp, e])), h.len, fun s hs => ⟨Row.kept (h.each s hs).1 hk (fun k e => hn k (by simp only [El.fp, List.mem_cons, List.mem_map]; exact Or.inr ⟨s, hs, e⟩)), (h.each s hs).2⟩⟩
theorem Lists.kept {S : Nat → Prop} {w w' : World} {a : Option Addr} {c : Nat} {l : List El} (h : Lists w a c l) (hk : Kept S w w') (ha : ∀ k, bk a = some k → ¬ S k) (hn : ∀ k, some k ∈ lfp l → ¬ S k) : Lists w' a c l :=
  ⟨h.row.kept hk ha, fun i e he => (h.each i e he).kept hk (fun k hk' => hn k (by simp only [lfp, List.mem_flatMap]; exact ⟨e, List.mem_of_getElem? he, hk'⟩))⟩
end Go.Proofs.YtghcololkgeoeabGreat
