import Derived.Test.YtghcololkgeoeabDoorPartA9
import Derived.Deep.RegionLawGrows
namespace Go.Proofs.YtghcololkgeoeabDoor
open Go.RowKit
set_option linter.unusedVariables false
set_option linter.unusedSimpArgs false
attribute [local go_sem ↓] Go.wp_at_zero Go.wp_at_succ

theorem drewN2 (w : World) (n m : Nat) : (w.drewN n).drewN m = w.drewN (n + m) := by simp [World.drewN, Nat.add_assoc]
/-- the mark of list number i -/
def markEv (i : Int) : Ev := ⟨-7000 - i, -7000 - i, -7000 - i, -7000 - i, -7000 - i⟩
theorem kept_toBelow {S : Nat → Prop} {w a b : World} (hb : Below w.heap.size w a) (k : Kept S a b) (hS : ∀ i, S i → w.heap.size ≤ i) : Below w.heap.size w b :=
  ⟨k.os.trans hb.os, k.tape.trans hb.tape, k.output.trans hb.output, Nat.le_trans hb.size k.size, fun i hi => (k.block i (Nat.lt_of_lt_of_le hi hb.size) (fun e => by have := hS i e; omega)).trans (hb.block i hi)⟩
end Go.Proofs.YtghcololkgeoeabDoor
namespace Go.Proofs.YtghcololkgeoeabDoor
open Go.RowKit
set_option linter.unusedVariables false
set_option linter.unusedSimpArgs false
attribute [local go_sem ↓] Go.wp_at_zero Go.wp_at_succ

/-- a slice of events that are all one -/
structure Sl where
  a : Option Addr
  n : Nat
  c : Nat
def Sl.val (s : Sl) : Value := .slice s.a s.n s.c
/-- a list that came out, and what append made of it: all full of one mark -/
structure Owns (w : World) (a : Option Addr) (c : Nat) (sl : List Sl) (m : Ev) : Prop where
  row : Row w 52 1 a sl.length c (sl.map Sl.val)
  len : sl.length ≤ 1000
  each : ∀ s ∈ sl, Row w 37 5 s.a s.n s.c (evs (List.replicate s.n m)) ∧ s.n ≤ 100000
theorem Owns.heap {w w' : World} {a : Option Addr} {c : Nat} {sl : List Sl} {m : Ev} (h : Owns w a c sl m) (hk : ∀ k, k < w.heap.size → w'.heap[k]? = w.heap[k]?) : Owns w' a c sl m :=
  ⟨ownsRow_of_heap h.row hk, h.len, fun s hs => ⟨ownsRow_of_heap (h.each s hs).1 hk, (h.each s hs).2⟩⟩
theorem Owns.slot {w : World} {a : Option Addr} {c : Nat} {sl : List Sl} {m : Ev} (h : Owns w a c sl m) (k : Nat) (hk : k < sl.length) : ∃ g, a = some ⟨g, 0, none⟩ ∧ w.cell? ⟨g, k, none⟩ = some (.slice sl[k].a sl[k].n sl[k].c) := by
  obtain ⟨g, e, _, _, hc, _⟩ := h.row.form (by omega)
  exact ⟨g, e, by rw [hc k (by omega)]; simp [Sl.val, hk]⟩

end Go.Proofs.YtghcololkgeoeabDoor
namespace Go.Proofs.YtghcololkgeoeabDoor
open Go.RowKit
set_option linter.unusedVariables false
set_option linter.unusedSimpArgs false
attribute [local go_sem ↓] Go.wp_at_zero Go.wp_at_succ

/-- one entry of the world's lists of events -/
structure El where
  a : Option Addr
  c : Nat
  sl : List Sl
def El.val (e : El) : Value := .slice e.a e.sl.length e.c
end Go.Proofs.YtghcololkgeoeabDoor
namespace Go.Proofs.YtghcololkgeoeabDoor
open Go.RowKit
set_option linter.unusedVariables false
set_option linter.unusedSimpArgs false

/-! Lists that are full of one mark: what append makes of them. -/
theorem evs_rep_get (m : Ev) (n j : Nat) (hj : j < n * 5) : (evs (List.replicate n m))[j]? = m.vals[j % 5]? := by
  have h := flatMap_get Ev.vals 5 Ev.len (List.replicate n m) (j / 5) (j % 5) (Nat.mod_lt _ (by omega)) (by simp; omega)
  rw [show j / 5 * 5 + j % 5 = j by omega] at h
  unfold evs
  rw [h]
  simp
theorem evs_rep_len (m : Ev) (n : Nat) : (evs (List.replicate n m)).length = n * 5 := by unfold evs; rw [flatMap_len _ 5 Ev.len]; simp
/-- a slice full of one mark -/
def AllM (w : World) (m : Ev) (s : Sl) : Prop := Row w 37 5 s.a s.n s.c (evs (List.replicate s.n m))
theorem AllM.mark {w : World} {m : Ev} {s : Sl} (h : AllM w m s) (g j : Nat) (v : Value) (hv : m.vals[j % 5]? = some v) : AllM (w.setCell ⟨g, j, none⟩ v) m s := by
  unfold AllM at *
  by_cases hg : bk s.a = some g
  · cases ha : s.a with
    | none => rw [ha] at hg; cases hg
    | some ad =>
      rw [ha] at h hg
      by_cases h0 : 0 < s.n
      · obtain ⟨g', e, _⟩ := h.form h0
        simp only [Option.some.injEq] at e
        subst e
        simp only [bk, Option.map_some, Option.some.injEq] at hg
        subst hg
        have := h.set j v
        have e : (evs (List.replicate s.n m)).set j v = evs (List.replicate s.n m) := by
          by_cases hj : j < s.n * 5
          · refine set_self ?_
            rw [evs_rep_get m s.n j hj]; exact hv
          · rw [List.set_eq_of_length_le]; rw [evs_rep_len]; omega
        rw [e] at this
        exact this
      · obtain ⟨h1, h2⟩ := h
        refine ⟨h1, ?_⟩
        rcases h2 with h2 | ⟨g', cap, cur, hv', hb, hh, h3, h4, h5, h6⟩
        · exact Or.inl h2
        · simp only [Value.slice.injEq, Option.some.injEq] at hv'
          obtain ⟨rfl, _, rfl⟩ := hv'
          simp only [bk, Option.map_some, Option.some.injEq] at hg
          subst hg
          have hb2 : Blk w g' 37 cur.toList := by unfold Blk; simpa using hh
          have := hb2.set j v
          unfold Blk at this
          refine Or.inr ⟨g', _, _, rfl, hb, this, h3, h4, ?_, ?_⟩
          · simp [h5]
          · have hz : s.n = 0 := by omega
            simp [hz, evs]
  · exact h.other hg v
theorem AllM.marks {m : Ev} {s : Sl} (g : Nat) : ∀ (vs : List Value) (o : Nat) (w : World), AllM w m s → (∀ i v, vs[i]? = some v → m.vals[(o + i) % 5]? = some v) → AllM (w.setCells g o vs) m s := by
  intro vs
  induction vs with
  | nil => intro o w h _; exact h
  | cons v vs ih =>
    intro o w h hv
    rw [World.setCells]
    refine ih (o + 1) _ (h.mark g o v (by simpa using hv 0 v rfl)) (fun i u hu => ?_)
    have := hv (i + 1) u (by simpa using hu)
    rw [show o + 1 + i = o + (i + 1) by omega]; exact this
theorem kept_setCells {S : Nat → Prop} {g : Nat} (hS : S g) : ∀ (vs : List Value) (o : Nat) (w : World), Kept S w (w.setCells g o vs) := by
  intro vs
  induction vs with
  | nil => intro o w; exact Kept.refl _ _
  | cons v vs ih => intro o w; rw [World.setCells]; exact ((Kept.refl S w).setCell (fun _ => hS) v).trans (ih _ _)
def setL (l : List Value) (o : Nat) : List Value → List Value
  | [] => l
  | v :: r => setL (l.set o v) (o + 1) r
theorem setL_eq : ∀ (vs l : List Value) (o : Nat), o + vs.length ≤ l.length → setL l o vs = l.take o ++ vs ++ l.drop (o + vs.length) := by
  intro vs
  induction vs with
  | nil => intro l o h; simp [setL]
  | cons v vs ih =>
    intro l o h
    simp only [List.length_cons] at h
    rw [setL, ih (l.set o v) (o + 1) (by simp; omega)]
    have h1 : (l.set o v).take (o + 1) = l.take o ++ [v] := by
      rw [List.take_succ_eq_append_getElem (by simp; omega)]
      rw [List.take_set, List.set_eq_of_length_le (by simp; omega)]; simp
    rw [h1, List.drop_set_of_lt (by omega)]
    simp [show o + 1 + vs.length = o + (vs.length + 1) by omega]
theorem blk_setCells {b : Nat} {t : TypeId} : ∀ (vs : List Value) (o : Nat) (w : World) (l : List Value), Blk w b t l → Blk (w.setCells b o vs) b t (setL l o vs) := by
  intro vs
  induction vs with
  | nil => intro o w l h; exact h
  | cons v vs ih => intro o w l h; rw [World.setCells, setL]; exact ih _ _ _ (h.set o v)
theorem evs_rep_add (m : Ev) (n k : Nat) : evs (List.replicate n m) ++ evs (List.replicate k m) = evs (List.replicate (n + k) m) := by unfold evs; rw [← List.flatMap_append, List.replicate_append_replicate]
theorem AllM.room {w : World} {m : Ev} {g n c k : Nat} (h : AllM w m ⟨some ⟨g, 0, none⟩, n, c⟩) (hc : n + k ≤ c) : AllM (w.setCells g (n * 5) (evs (List.replicate k m))) m ⟨some ⟨g, 0, none⟩, n + k, c⟩ := by
  obtain ⟨h1, h2⟩ := h
  rcases h2 with ⟨h2, _⟩ | ⟨g', cap, cur, hv', hb, hh, h3, h4, h5, h6⟩
  · simp at h2
  · simp only [Value.slice.injEq, Option.some.injEq, Addr.mk.injEq, and_true, true_and] at hv'
    obtain ⟨rfl, rfl⟩ := hv'
    have hb2 : Blk w g 37 cur.toList := by unfold Blk; simpa using hh
    have h7 := blk_setCells (evs (List.replicate k m)) (n * 5) w _ hb2
    have hsz : cur.toList.length = c * 5 := by simpa using h5
    rw [setL_eq _ _ _ (by rw [evs_rep_len, hsz]; omega)] at h7
    simp only at h6 h1
    refine ⟨evs_rep_len m (n + k), Or.inr ⟨g, c, _, rfl, Nat.zero_le _, h7, hc, h4, ?_, ?_⟩⟩
    · simp only [evs_rep_len, List.size_toArray, List.length_append, List.length_take, List.length_drop, hsz]; omega
    · simp only
      rw [h6, evs_rep_add, List.take_append_of_le_length (by rw [evs_rep_len]; omega), List.take_of_length_le (by rw [evs_rep_len]; omega)]
theorem AllM.kept {S : Nat → Prop} {w w' : World} {m : Ev} {s : Sl} (h : AllM w m s) (hk : Kept S w w') (hn : ∀ k, bk s.a = some k → ¬ S k) : AllM w' m s := Row.kept h hk hn
theorem AllM.grown {w w' : World} {m : Ev} {s : Sl} (h : AllM w m s) (hg : w.grownBy w' none) : AllM w' m s := AllM.kept h ((Kept.refl (fun _ => False) w).grown hg (fun k _ e => by cases e)) (fun _ _ e => e)
/-- append of marks to a list that is full of them -/
theorem step_append_marks {P : Program} {ops : Array Oper} {o : Oper} {a : Act} {w : World} {K : Act → World → Prop} {Q : Exit → Act → World → Prop} {E : Prop}
    (hg : o.guard = none) (s x : Operand) (t : TypeId) (hop : o.op = Op.call { callee := Callee.builtin Builtin.append, args := #[s, x], argTypes := #[t, t] })
    (i : TypeInfo) (z : Value) (h1 : P.underlying t = some (.slice 37)) (h2 : P.info? 37 = some i) (h3 : i.zero = some z) (h4 : i.size = 5) (h5 : i.bytes = 40) (h6 : z.cells.size = 5)
    (m : Ev) (l : Sl) (hs : a.eval s = l.val) (hl : AllM w m l)
    (ad : Addr) (k c : Nat) (hx : a.eval x = .slice (some ad) k c) (hc : ∀ j u, (evs (List.replicate k m))[j]? = some u → w.cell? (ad.add j) = some u) (hk : 0 < k) (hb : l.n + k ≤ 100000)
    (hK : ∀ (r : Sl) w', r.n = l.n + k → AllM w' m r → (∀ r', AllM w m r' → AllM w' m r') → Kept (fun b => bk l.a = some b) w w' → (bk r.a = bk l.a ∨ ∃ b, bk r.a = some b ∧ w.heap.size ≤ b ∧ b < w'.heap.size) → K (a.put o.dst r.val) w') :
    if Region.wanted o (yielded ops a.tmps) = true then Oper.wp P o a w K Q else E := by
  obtain ⟨la, n, cap⟩ := l
  simp only [Sl.val] at hs
  simp only at hb hK
  have hone : ∀ u ∈ evs (List.replicate k m), u.oneCell' = true := by
    intro u hu
    simp only [evs, List.mem_flatMap, List.mem_replicate] at hu
    obtain ⟨e, ⟨_, rfl⟩, he⟩ := hu
    exact Ev.one _ u he
  by_cases hroom : n + k ≤ cap ∧ la ≠ none
  · obtain ⟨hroom, hla⟩ := hroom
    have hform : ∃ g, la = some ⟨g, 0, none⟩ := by
      rcases hl.2 with ⟨e, _⟩ | ⟨g', cap', cur, hv', _⟩
      · simp only [Value.slice.injEq] at e; exact absurd e.1 hla
      · simp only [Value.slice.injEq] at hv'; exact ⟨g', hv'.1⟩
    obtain ⟨g, rfl⟩ := hform
    refine step_append_room hg s x t hop 37 i 5 h1 h2 h4 g 0 n cap hs ad k c (evs (List.replicate k m)) hx (evs_rep_len m k) hc hone hroom ?_ ?_
    · intro j hj
      rw [evs_rep_len] at hj
      rcases hl.2 with ⟨e, _⟩ | ⟨g', cap', cur, hv', _, hh, h7, h8, h9, _⟩
      · simp at e
      · simp only [Value.slice.injEq, Option.some.injEq, Addr.mk.injEq, and_true, true_and] at hv'
        obtain ⟨rfl, rfl⟩ := hv'
        have hb2 : Blk w g 37 cur.toList := by unfold Blk; simpa using hh
        refine ⟨?_, hb2.frozen _⟩
        rw [hb2.cell]
        have hlt : 0 + n * 5 + j < cur.toList.length := by rw [Array.length_toList, h9]; omega
        rw [List.getElem?_eq_getElem hlt]; rfl
    · rw [Nat.zero_add]
      exact hK ⟨some ⟨g, 0, none⟩, n + k, cap⟩ _ rfl (AllM.room hl hroom) (fun r' hr' => hr'.marks g _ _ _ (fun j v hj => by
        have hlt := (List.getElem?_eq_some_iff.1 hj).1
        rw [evs_rep_len] at hlt
        rw [evs_rep_get m k j hlt] at hj
        rw [show (n * 5 + j) % 5 = j % 5 by omega]; exact hj)) (kept_setCells (S := fun b => bk (some (⟨g, 0, none⟩ : Addr)) = some b) rfl _ _ _) (Or.inl rfl)
  · have hfull : cap < n + k := by
      rcases Nat.lt_or_ge cap (n + k) with h | h
      · exact h
      · have hla : la = none := Classical.byContradiction fun e => hroom ⟨h, e⟩
        rcases hl.2 with ⟨e, e2⟩ | ⟨g', cap', cur, hv', _⟩
        · simp only [Value.slice.injEq] at e
          have := e.2.1; have := e.2.2; omega
        · simp only [Value.slice.injEq] at hv'; rw [hla] at hv'; simp at hv'
    refine step_append_grows hg s x t hop 37 i z 5 40 h1 h2 h3 h4 h5 h6 (by omega) la n cap (evs (List.replicate n m)) hs ?_ (evs_rep_len m n) ?_ ad k c (evs (List.replicate k m)) hx (evs_rep_len m k) hc hone hfull (by unfold maxLen; omega) (by omega) ?_
    · intro e
      rcases hl.2 with ⟨e, e2⟩ | ⟨g', cap', cur, hv', _⟩
      · simp only [Value.slice.injEq] at e; exact ⟨e.2.1, e.2.2⟩
      · simp only [Value.slice.injEq] at hv'; rw [e] at hv'; simp at hv'
    · intro b hb' j u hu
      have hlt := (List.getElem?_eq_some_iff.1 hu).1
      rw [evs_rep_len] at hlt
      obtain ⟨g, hg', _, _, hcell, _⟩ := hl.form (by simp only; omega)
      simp only at hg' hcell
      rw [hb'] at hg'
      simp only [Option.some.injEq] at hg'
      subst hg'
      have := hcell j hlt
      rw [hu] at this
      have hz : (⟨g, 0, none⟩ : Addr).add j = ⟨g, j, none⟩ := by simp [Addr.add]; intro h; exact h.symm
      rw [hz]; exact this
    · intro v' w' hown hgr
      have h0 : 0 < n + k := by omega
      obtain ⟨g, cap', rfl, hge, hlt⟩ := hown.form h0
      rw [evs_rep_add] at hown
      exact hK ⟨some ⟨g, 0, none⟩, n + k, cap'⟩ w' rfl (toRow hown) (fun r' hr' => hr'.grown hgr) ((Kept.refl _ w).grown hgr (fun b _ e => by cases e)) (Or.inr ⟨g, rfl, hge, hlt⟩)
/-! two or three that may come up -/
section
variable {P : Program} {ops : Array Oper} {Q : Exit → Act → World → Prop} {md : Region.Mode} {S : World → Prop} {t : Nat}
theorem upTo_two {i j : Nat} {oi oj : Oper} {fuel : Nat} {listed : Array Bool} {a : Act} {w : World} (hr : Region.ready md ops listed = [i, j]) (hoi : ops[i]? = some oi) (hoj : ops[j]? = some oj)
    (hi : ∀ K : Act → World → Prop, Shut (∀ b v, (i ≠ t → S v) → UpTo P md ops Q S t fuel (listed.setIfInBounds i true) b v → K b v) → if Region.wanted oi (yielded ops a.tmps) = true then Oper.wp P oi a w K Q else K (a.put oi.dst undef) w)
    (hj : ∀ K : Act → World → Prop, Shut (∀ b v, (j ≠ t → S v) → UpTo P md ops Q S t fuel (listed.setIfInBounds j true) b v → K b v) → if Region.wanted oj (yielded ops a.tmps) = true then Oper.wp P oj a w K Q else K (a.put oj.dst undef) w) : UpTo P md ops Q S t (fuel + 1) listed a w := by
  refine ⟨fun e => absurd (hr ▸ e) (by simp), ?_⟩
  rw [hr]
  intro k hk
  simp only [List.mem_cons, List.not_mem_nil, or_false] at hk
  rcases hk with rfl | rfl
  · exact wpOp_step hoi (fun K hK => hi K (fun b v h1 h2 => hK b v ⟨h1, h2⟩))
  · exact wpOp_step hoj (fun K hK => hj K (fun b v h1 h2 => hK b v ⟨h1, h2⟩))
theorem upTo_three {i j l : Nat} {oi oj ol : Oper} {fuel : Nat} {listed : Array Bool} {a : Act} {w : World} (hr : Region.ready md ops listed = [i, j, l]) (hoi : ops[i]? = some oi) (hoj : ops[j]? = some oj) (hol : ops[l]? = some ol)
    (hi : ∀ K : Act → World → Prop, Shut (∀ b v, (i ≠ t → S v) → UpTo P md ops Q S t fuel (listed.setIfInBounds i true) b v → K b v) → if Region.wanted oi (yielded ops a.tmps) = true then Oper.wp P oi a w K Q else K (a.put oi.dst undef) w)
    (hj : ∀ K : Act → World → Prop, Shut (∀ b v, (j ≠ t → S v) → UpTo P md ops Q S t fuel (listed.setIfInBounds j true) b v → K b v) → if Region.wanted oj (yielded ops a.tmps) = true then Oper.wp P oj a w K Q else K (a.put oj.dst undef) w)
    (hl : ∀ K : Act → World → Prop, Shut (∀ b v, (l ≠ t → S v) → UpTo P md ops Q S t fuel (listed.setIfInBounds l true) b v → K b v) → if Region.wanted ol (yielded ops a.tmps) = true then Oper.wp P ol a w K Q else K (a.put ol.dst undef) w) : UpTo P md ops Q S t (fuel + 1) listed a w := by
  refine ⟨fun e => absurd (hr ▸ e) (by simp), ?_⟩
  rw [hr]
  intro k hk
  simp only [List.mem_cons, List.not_mem_nil, or_false] at hk
  rcases hk with rfl | rfl | rfl
  · exact wpOp_step hoi (fun K hK => hi K (fun b v h1 h2 => hK b v ⟨h1, h2⟩))
  · exact wpOp_step hoj (fun K hK => hj K (fun b v h1 h2 => hK b v ⟨h1, h2⟩))
  · exact wpOp_step hol (fun K hK => hl K (fun b v h1 h2 => hK b v ⟨h1, h2⟩))
end

/-! one record of a row -/
theorem evs_set (M : List Ev) (k : Nat) (hk : k < M.length) (E : Ev) : (((((evs M).set (k * 5 + 0) (.int .i64 E.src)).set (k * 5 + 1) (.int .i64 E.seq)).set (k * 5 + 2) (.int .i64 E.ts)).set (k * 5 + 3) (.int .i64 E.kind)).set (k * 5 + 4) (.int .i64 E.val) = evs (M.set k E) := by
  unfold evs
  rw [flatMap_set Ev.vals 5 Ev.len M k 0 (by omega) hk _ { M[k] with src := E.src } rfl,
    flatMap_set Ev.vals 5 Ev.len _ k 1 (by omega) (by simpa using hk) _ { M[k] with src := E.src, seq := E.seq } (by simp [Ev.vals]), List.set_set,
    flatMap_set Ev.vals 5 Ev.len _ k 2 (by omega) (by simpa using hk) _ { M[k] with src := E.src, seq := E.seq, ts := E.ts } (by simp [Ev.vals]), List.set_set,
    flatMap_set Ev.vals 5 Ev.len _ k 3 (by omega) (by simpa using hk) _ { M[k] with src := E.src, seq := E.seq, ts := E.ts, kind := E.kind } (by simp [Ev.vals]), List.set_set,
    flatMap_set Ev.vals 5 Ev.len _ k 4 (by omega) (by simpa using hk) _ E (by simp [Ev.vals]), List.set_set]
/-- a record stored into a row of events -/
def setEv (w : World) (g k : Nat) (E : Ev) : World := ((((w.setCell ⟨g, k * 5, none⟩ (.int .i64 E.src)).setCell ⟨g, k * 5 + 1, none⟩ (.int .i64 E.seq)).setCell ⟨g, k * 5 + 2, none⟩ (.int .i64 E.ts)).setCell ⟨g, k * 5 + 3, none⟩ (.int .i64 E.kind)).setCell ⟨g, k * 5 + 4, none⟩ (.int .i64 E.val)
theorem Row.setEv {w : World} {t : TypeId} {g n c k : Nat} {M : List Ev} {E : Ev} (h : Row w t 5 (some ⟨g, 0, none⟩) n c (evs M)) (hk : k < M.length) : Row (setEv w g k E) t 5 (some ⟨g, 0, none⟩) n c (evs (M.set k E)) := by
  rw [← evs_set M k hk E]
  exact ((((h.set (k * 5) _).set (k * 5 + 1) _).set (k * 5 + 2) _).set (k * 5 + 3) _).set (k * 5 + 4) _
theorem kept_setEv {S : Nat → Prop} {a w : World} {g k : Nat} {E : Ev} (h : Kept S a w) (hS : g < a.heap.size → S g) : Kept S a (setEv w g k E) :=
  ((((h.setCell hS _).setCell hS _).setCell hS _).setCell hS _).setCell hS _
/-- the blocks of lists that came out -/
def El.fp (e : El) : List (Option Nat) := bk e.a :: e.sl.map (fun s => bk s.a)
def lfp (l : List El) : List (Option Nat) := l.flatMap El.fp
theorem Owns.kept {S : Nat → Prop} {w w' : World} {a : Option Addr} {c : Nat} {sl : List Sl} {m : Ev} (h : Owns w a c sl m) (hk : Kept S w w') (hn : ∀ k, some k ∈ (El.mk a c sl).fp → ¬ S k) : Owns w' a c sl m :=
  ⟨h.row.kept hk (fun k e => hn k (by simp [El.fp, e])), h.len, fun s hs => ⟨Row.kept (h.each s hs).1 hk (fun k e => hn k (by simp only [El.fp, List.mem_cons, List.mem_map]; exact Or.inr ⟨s, hs, e⟩)), (h.each s hs).2⟩⟩
end Go.Proofs.YtghcololkgeoeabDoor
