import Derived.Test.YtghcololkgeoeabDoorPartM2
import Derived.Test.YtghcololkgeoeabDoorPartK9
import Derived.ChangeMaps5
namespace Go.Proofs.YtghcololkgeoeabDoor
open Go.ChangeShapes Go.WideShapes Go.ChangeAt Go.RowKit
set_option linter.unusedVariables false
set_option linter.unusedSimpArgs false
section
variable {H : Type} {enc : TypeId × Value → H} {W : World} {sp : Nat → Bool} {hd : Bool} {base : Nat}
set_option maxRecDepth 100000 in
theorem open_ev2 {n : Nat} {cs : List Value} {x : DataW H × List MemPlace} (h : DataW.trod enc Tryd.prog W base sp hd n 37 cs = some x) : ∃ E : Ev, cs = E.vals ∧ EvI E := by
  obtain ⟨xs, n, rfl, hx, hlen, hxl, hf⟩ := DataW.trod_struct Tryd.underlying37 h
  have hc5 : Tryd.prog.cellsOf 37 = 5 := by kernel_rfl
  have hci : Tryd.prog.cellsOf 3 = 1 := by kernel_rfl
  obtain ⟨v0, v1, v2, v3, v4, rfl⟩ := five5 (hlen.trans hc5)
  have hxs : ∀ i, i < 5 → ∃ y, xs[i]? = some y := by
    intro i hi
    have : i < xs.length := by rw [hxl]; exact hi
    exact ⟨xs[i], List.getElem?_eq_getElem this⟩
  obtain ⟨y0, h0⟩ := hxs 0 (by omega)
  obtain ⟨y1, h1⟩ := hxs 1 (by omega)
  obtain ⟨y2, h2⟩ := hxs 2 (by omega)
  obtain ⟨y3, h3⟩ := hxs 3 (by omega)
  obtain ⟨y4, h4⟩ := hxs 4 (by omega)
  have k0 := hf 0 _ rfl
  have k1 := hf 1 _ rfl
  have k2 := hf 2 _ rfl
  have k3 := hf 3 _ rfl
  have k4 := hf 4 _ rfl
  rw [h0] at k0
  rw [h1] at k1
  rw [h2] at k2
  rw [h3] at k3
  rw [h4] at k4
  simp only [List.getElem_toArray, List.getElem_cons_zero, List.getElem_cons_succ, hci, List.drop_zero, List.drop_succ_cons, List.take_succ_cons, List.take_zero] at k0 k1 k2 k3 k4
  obtain ⟨m0, e0, _⟩ := trod_i64 k0
  obtain ⟨m1, e1, i1⟩ := trod_i64 k1
  obtain ⟨m2, e2, i2⟩ := trod_i64 k2
  obtain ⟨m3, e3, i3⟩ := trod_i64 k3
  obtain ⟨m4, e4, i4⟩ := trod_i64 k4
  simp only [List.cons.injEq, and_true] at e0 e1 e2 e3 e4
  subst e0 e1 e2 e3 e4
  exact ⟨⟨m0, m1, m2, m3, m4⟩, rfl, i1, i2, i3, i4⟩
set_option maxRecDepth 100000 in
theorem open_act2 {n : Nat} {cs : List Value} {x : DataW H × List MemPlace} (h : DataW.trod enc Tryd.prog W base sp hd n 39 cs = some x) : ∃ a : ActR, cs = a.cells ∧ a.ok ∧ EvI a.E := by
  obtain ⟨xs, n, rfl, hx, hlen, hxl, hf⟩ := DataW.trod_struct Tryd.underlying39 h
  have hc8 : Tryd.prog.cellsOf 39 = 8 := by kernel_rfl
  have hci : Tryd.prog.cellsOf 3 = 1 := by kernel_rfl
  have hce : Tryd.prog.cellsOf 37 = 5 := by kernel_rfl
  obtain ⟨v0, v1, v2, v3, v4, v5, v6, v7, rfl⟩ := eight8 (hlen.trans hc8)
  have hxs : ∀ i, i < 4 → ∃ y, xs[i]? = some y := by
    intro i hi
    have : i < xs.length := by rw [hxl]; exact hi
    exact ⟨xs[i], List.getElem?_eq_getElem this⟩
  obtain ⟨y0, h0⟩ := hxs 0 (by omega)
  obtain ⟨y1, h1⟩ := hxs 1 (by omega)
  obtain ⟨y2, h2⟩ := hxs 2 (by omega)
  obtain ⟨y3, h3⟩ := hxs 3 (by omega)
  have k0 := hf 0 _ rfl
  have k1 := hf 1 _ rfl
  have k2 := hf 2 _ rfl
  have k3 := hf 3 _ rfl
  rw [h0] at k0
  rw [h1] at k1
  rw [h2] at k2
  rw [h3] at k3
  simp only [List.getElem_toArray, List.getElem_cons_zero, List.getElem_cons_succ, hci, hce, List.drop_zero, List.drop_succ_cons, List.take_succ_cons, List.take_zero] at k0 k1 k2 k3
  obtain ⟨m0, e0, i0⟩ := trod_i64 k0
  obtain ⟨m1, e1, i1⟩ := trod_i64 k1
  obtain ⟨m2, e2, i2⟩ := trod_i64 k2
  obtain ⟨E, e3, hE⟩ := open_ev2 k3
  simp only [List.cons.injEq, and_true] at e0 e1 e2
  subst e0 e1 e2
  simp only [Ev.vals, List.cons.injEq, and_true] at e3
  obtain ⟨r3, r4, r5, r6, r7⟩ := e3
  subst r3 r4 r5 r6 r7
  exact ⟨⟨m0, m1, m2, E⟩, rfl, ⟨i0, i1, i2⟩, hE⟩
set_option maxRecDepth 100000 in
theorem open_acts2 {base0 : Nat} {r : Reach} {v : Value} {d : DataW H} {p : List MemPlace} (hval : Value.okWide Tryd.prog W r base0 24 v) (h : DataW.Trod enc Tryd.prog W base sp hd 24 v d p)
    (B : Nat) (hsz : ∀ elems spare, d = .slice elems spare → elems.length + spare.length ≤ B) : ∃ (sa : Option Addr) (sc : Nat) (acts : List ActR), v = .slice sa acts.length sc ∧ ActsAt W sa acts ∧ (∀ a ∈ acts, EvI a.E) ∧ acts.length ≤ B := by
  have hc8 : Tryd.prog.cellsOf 39 = 8 := by kernel_rfl
  obtain ⟨va, vlen, vcap, rfl⟩ := okWide_slice Tryd.underlying24 hval
  obtain ⟨fuel, h⟩ := h
  have hcl : (Value.slice va vlen vcap).cells.toList = [.slice va vlen vcap] := rfl
  rw [hcl] at h
  rcases Go.Deep.open_slice Tryd.underlying24 h with ⟨e, _⟩ | ⟨a, len, cap, m, n, D, Pl, e, hb, hl, hm, hmm, hx, hel⟩
  · simp only [List.cons.injEq, Value.slice.injEq, and_true] at e
    obtain ⟨rfl, rfl, rfl⟩ := e
    exact ⟨none, 0, [], rfl, fun i hi => absurd hi (by simp), by simp, by simp⟩
  · simp only [List.cons.injEq, Value.slice.injEq, and_true] at e
    obtain ⟨rfl, rfl, rfl⟩ := e
    have hlm : vlen ≤ m := by rw [hmm]; split <;> omega
    have hlen : vlen ≤ B := by
      have h1 := hsz _ _ (congrArg Prod.fst hx)
      simp only [List.length_map, List.length_range] at h1
      omega
    have hop : ∀ i, ∃ O : ActR, i < vlen → W.cells? base (a.add (i * 8)) 8 = some O.cells ∧ O.ok ∧ EvI O.E := by
      intro i
      by_cases hi : i < vlen
      · obtain ⟨cs', h1, h2⟩ := hel i (by omega)
        obtain ⟨O, hO, hok⟩ := open_act2 h2
        rw [hc8, hO] at h1
        exact ⟨O, fun _ => ⟨h1, hok⟩⟩
      · exact ⟨⟨0, 0, 0, ⟨0, 0, 0, 0, 0⟩⟩, fun h => absurd h hi⟩
    let f : Nat → ActR := fun i => Classical.choose (hop i)
    have hf : ∀ i, i < vlen → W.cells? base (a.add (i * 8)) 8 = some (f i).cells ∧ (f i).ok ∧ EvI (f i).E := fun i hi => Classical.choose_spec (hop i) hi
    refine ⟨some a, vcap, (List.range vlen).map f, by simp, ?_, fun a ha => by obtain ⟨i, hi, rfl⟩ := List.mem_map.1 ha; exact (hf i (List.mem_range.1 hi)).2.2, by simpa using hlen⟩
    intro i hi
    have hi' : i < vlen := by simpa using hi
    have h0 := (World.cells?_some (hf 0 (by omega)).1).2.2 0 (by omega)
    have hs0 : a.spot = none := by
      have h00 : (f 0).cells[0]? = some (.int .i64 (f 0).d) := rfl
      rw [h00] at h0
      have := World.cell?_spot h0
      simpa [Addr.add] using this
    obtain ⟨ab, ao, asp⟩ := a
    simp only at hs0
    subst hs0
    have hcell : ∀ o, o < 8 → W.cell? ⟨ab, ao + i * 8 + o, none⟩ = (f i).cells[o]? := fun o ho => by
      have h1 := (World.cells?_some (hf i hi').1).2.2 o (by omega)
      have e1 : ((⟨ab, ao, none⟩ : Addr).add (i * 8)).add o = ⟨ab, ao + i * 8 + o, none⟩ := by
        rw [Go.WideShapes.add_plain, Go.WideShapes.add_plain]
      rw [e1] at h1
      exact h1
    refine ⟨by simpa using (hf i hi').2.1, ab, ao, rfl, ?_, fun o ho => ?_⟩
    rotate_left
    · have h := hcell o ho; simp only [List.getElem_map, List.getElem_range] at h ⊢; exact h
    have h1 := hcell 0 (by omega)
    have h00 : (f i).cells[0]? = some (.int .i64 (f i).d) := rfl
    rw [h00] at h1
    exact World.block_lt_of_cell? W _ h1
end
theorem Two.set {w wr : World} {b b' eb : Nat} {t : TypeId} {l : List Value} {bs : List (Nat × TypeId × List Value)} {X Y : Eng} (h : Two w wr b b' ((eb, t, l) :: bs) X Y) (o : Nat) (v : Value) (hw : w.heap.size ≤ eb) (hn : ∀ x ∈ bs, x.1 ≠ eb) : Two w (wr.setCell ⟨eb, o, none⟩ v) b b' ((eb, t, l.set o v) :: bs) X Y := by
  have K : Kept (fun k => k = eb) wr (wr.setCell ⟨eb, o, none⟩ v) := (Kept.refl (fun k => k = eb) wr).setCell (fun _ => rfl) v
  have nX := h.nx (eb, t, l) (by simp)
  have nY := h.ny (eb, t, l) (by simp)
  refine ⟨h.mx.kept K (fun k hk e => nX (e ▸ hk)), h.my.kept K (fun k hk e => nY (e ▸ hk)), h.dis, kept_toBelow h.bel K (fun i e => by rw [e]; exact hw), h.fx, h.fy, ?_, ?_, ?_⟩
  · intro x hx
    rcases List.mem_cons.1 hx with rfl | hx
    · exact (h.bx (eb, t, l) (by simp)).set o v
    · exact (h.bx x (by simp [hx])).kept K (hn x hx)
  · intro x hx
    rcases List.mem_cons.1 hx with rfl | hx
    · exact nX
    · exact h.nx x (by simp [hx])
  · intro x hx
    rcases List.mem_cons.1 hx with rfl | hx
    · exact nY
    · exact h.ny x (by simp [hx])

/-! ### a line that is fed -/
theorem runs_split {i : Nat} {l m : List UInt8} : ∀ {f f2 : FedN} {X X2 : Eng}, Runs i (l ++ m) f X f2 X2 → ∃ f1 X1, Runs i l f X f1 X1 ∧ Runs i m f1 X1 f2 X2 := by
  induction l with
  | nil => intro f f2 X X2 h; exact ⟨f, X, Runs.nil _ _, h⟩
  | cons c l ih =>
    intro f f2 X X2 h
    cases h with
    | cons h t =>
      obtain ⟨f1, X1, h1, h2⟩ := ih t
      exact ⟨f1, X1, Runs.cons h h1, h2⟩
theorem twin_keeps {i : Nat} {X Y : Eng} {p p' : PSrc} (ht : Twin (fun j => j ≠ i) X Y) (hp : X.srcs[i]? = some p) (h : p'.inn = p.inn ∧ p'.idle = p.idle ∧ p'.mark = p.mark ∧ p'.sil = p.sil ∧ p'.last = p.last) : Twin (fun j => j ≠ i) { X with srcs := X.srcs.set i p' } Y := by
  obtain ⟨⟨N, R, g1, g2⟩, hln⟩ := ht
  refine ⟨⟨N, R, sim_line g1 hp h, g2⟩, ?_⟩
  intro j a b hj ha hb
  have ha : (X.srcs.set i p')[j]? = some a := ha
  rw [List.getElem?_set, if_neg (fun e => hj e.symm)] at ha
  exact hln j a b hj ha hb
theorem runs_line {i : Nat} {l : List UInt8} : ∀ {f f' : FedN} {X X' Y : Eng} {p : PSrc}, Runs i l f X f' X' → (∀ c ∈ l, c ≠ 10) → X.srcs[i]? = some p → p.line.length + l.length ≤ 40 → Twin (fun j => j ≠ i) X Y → f' = f ∧ (∃ p', X'.srcs[i]? = some p' ∧ p'.line = p.line ++ l) ∧ Twin (fun j => j ≠ i) X' Y := by
  induction l with
  | nil =>
    intro f f' X X' Y p h _ hp _ ht
    cases h
    exact ⟨rfl, ⟨p, hp, by simp⟩, ht⟩
  | cons c l ih =>
    intro f f' X X' Y p h hn hp hl ht
    cases h with
    | cons h t =>
      obtain ⟨q, hq, h⟩ := h
      rw [hp] at hq
      cases hq
      have hc := hn c (by simp)
      rcases h with ⟨_, rfl, la, lc, rfl⟩ | ⟨e, _⟩ | ⟨e, _⟩ | ⟨e, _⟩
      · have hpk : (X.srcs.set i (p.keeps c la lc))[i]? = some (p.keeps c la lc) := by simp [get_lt hp]
        have hkl : (p.keeps c la lc).line = p.line ++ [c] := by
          unfold PSrc.keeps
          simp only
          rw [if_pos (by simp only [List.length_cons] at hl; omega)]
        obtain ⟨h1, ⟨p', h2, h3⟩, h4⟩ := ih t (fun c hc => hn c (by simp [hc])) hpk (by rw [hkl]; simp only [List.length_append, List.length_cons, List.length_nil] at hl ⊢; omega) (twin_keeps ht hp ⟨rfl, rfl, rfl, rfl, rfl⟩)
        exact ⟨h1, ⟨p', h2, by rw [h3, hkl]; simp⟩, h4⟩
      · exact absurd e hc
      · exact absurd e hc
      · exact absurd e hc
/-- x has been fed the lines L, y has been asked what they spell -/
structure Sp (k : Nat) (X0 : Eng) (L : List UInt8) (f : FedN) (Y : Eng) : Prop where
  run : ∀ fx X', Runs k L ⟨0, 0, 0⟩ X0 fx X' → fx = f ∧ Twin (fun _ => True) X' Y
  ln : ∀ q, Y.srcs[k]? = some q → q.line = []
  n : k < Y.srcs.length
  lk : ∃ N R, Like N Y R
theorem noLine_twin {k : Nat} {X Y : Eng} {p : PSrc} (hp : X.srcs[k]? = some p) (ht : Twin (fun j => j ≠ k) X Y) (hy : ∀ q, Y.srcs[k]? = some q → q.line = []) : Twin (fun _ => True) (X.noLine k) Y := by
  rw [noLine_get hp]
  obtain ⟨hlk, hln⟩ := twin_keeps (p' := { p with line := [], la := none, lc := 0 }) ht hp ⟨rfl, rfl, rfl, rfl, rfl⟩
  refine ⟨hlk, ?_⟩
  intro j a b _ ha hb
  by_cases e : j = k
  · subst e
    have ha : (X.srcs.set j { p with line := [], la := none, lc := 0 })[j]? = some a := ha
    simp only [List.getElem?_set, if_pos (get_lt hp), if_true, Option.some.injEq] at ha
    rw [← ha, hy b hb]
  · exact hln j a b e ha hb
theorem Sp.ready {k : Nat} {X0 Y : Eng} {L l : List UInt8} {f : FedN} (h : Sp k X0 L f Y) (hn : ∀ c ∈ l, c ≠ 10) (hl : l.length ≤ 40) {fx : FedN} {X' : Eng} (hr : Runs k (L ++ (l ++ [10])) ⟨0, 0, 0⟩ X0 fx X') : ∃ X1 p, X1.srcs[k]? = some p ∧ p.line = l ∧ Twin (fun _ => True) (X1.noLine k) Y ∧ StepX k 10 f X1 fx X' := by
  obtain ⟨f1, X1, h1, h2⟩ := runs_split hr
  obtain ⟨rfl, ht⟩ := h.run f1 X1 h1
  obtain ⟨f2, X2, h3, h4⟩ := runs_split h2
  have hk1 : k < X1.srcs.length := by rw [ht.len]; exact h.n
  have hp := List.getElem?_eq_getElem hk1
  have hpl : X1.srcs[k].line = [] := by
    rw [ht.ln k _ _ trivial hp (List.getElem?_eq_getElem h.n)]
    exact h.ln _ (List.getElem?_eq_getElem h.n)
  obtain ⟨rfl, ⟨p', hp', hl'⟩, ht2⟩ := runs_line h3 hn hp (by rw [hpl]; simpa using hl) (ht.weak (fun _ _ => trivial))
  cases h4 with
  | cons hs t =>
    cases t
    exact ⟨X2, p', hp', by rw [hl', hpl]; simp, noLine_twin hp' ht2 h.ln, hs⟩
theorem Sp.punct {k : Nat} {X0 Y Y' : Eng} {L : List UInt8} {f : FedN} {ts z : Int} (h : Sp k X0 L f Y) (hts : -1099511627776 ≤ ts ∧ ts ≤ 1099511627776) (hn : ∀ c ∈ punctLine ts, c ≠ 10) (hY : PunctsX Y k ts z Y') : Sp k X0 (L ++ (punctLine ts ++ [10])) (f.plus (fedOf z)) Y' := by
  have hl' := punctsX_lines hY
  refine ⟨?_, ?_, ?_, ?_⟩
  · intro fx X' hr
    obtain ⟨X1, p, hp, hpl, ht, hs⟩ := h.ready hn (punct_len hts) hr
    obtain ⟨q, hq, hs⟩ := hs
    rw [hp] at hq
    cases hq
    rw [hpl, read_punct hts] at hs
    rcases hs with ⟨e, _⟩ | ⟨_, e, _⟩ | ⟨_, e, _⟩ | ⟨_, _, z', q, hq, rfl, hP⟩
    · exact absurd rfl e
    · (simp only at e; omega)
    · (simp only at e; omega)
    · obtain ⟨hz, ht'⟩ := twin_punct (A := k) ht (Or.inr ⟨k, q, rfl, hq, hP⟩) hY
      exact ⟨by rw [hz], ht'⟩
  · intro q hq
    obtain ⟨q', hq', e⟩ := lineOf_get hl' hq
    rw [← e]; exact h.ln q' hq'
  · rw [(punctsX_grow hY).n]; exact h.n
  · obtain ⟨N, R, hl⟩ := h.lk
    obtain ⟨z', R', hR⟩ := punctsR_some R k ts
    exact ⟨_, R', (puncts_agree hl hY hR).2⟩
theorem Sp.push {k : Nat} {X0 Y Y' : Eng} {L : List UInt8} {f : FedN} {E : Ev} {z : Int} (h : Sp k X0 L f Y) (hE : EvOk E) (hn : ∀ c ∈ evLine E, c ≠ 10) (hY : PushesX Y k E z Y') : Sp k X0 (L ++ (evLine E ++ [10])) (f.plus (fedOf z)) Y' := by
  have hl' := pushesX_lines hY
  refine ⟨?_, ?_, ?_, ?_⟩
  · intro fx X' hr
    obtain ⟨X1, p, hp, hpl, ht, hs⟩ := h.ready hn (evLine_spec hE).2.2 hr
    obtain ⟨q, hq, hs⟩ := hs
    rw [hp] at hq
    cases hq
    rw [hpl, read_ev hE] at hs
    rcases hs with ⟨e, _⟩ | ⟨_, e, _⟩ | ⟨_, _, z', q, hq, rfl, hP⟩ | ⟨_, e, _⟩
    · exact absurd rfl e
    · (simp only at e; omega)
    · obtain ⟨hz, ht'⟩ := twin_push (A := k) ht (Or.inr ⟨k, q, rfl, hq, hP⟩) hY
      exact ⟨by rw [hz], ht'⟩
    · (simp only at e; omega)
  · intro q hq
    obtain ⟨q', hq', e⟩ := lineOf_get hl' hq
    rw [← e]; exact h.ln q' hq'
  · rw [(pushesX_grow hY).n]; exact h.n
  · obtain ⟨N, R, hl⟩ := h.lk
    obtain ⟨z', R', hR⟩ := pushesR_some R k E
    exact ⟨_, R', (pushes_agree hl hY hR).2⟩
theorem itoa_no10 (n : Int) : ∀ c ∈ Lib.itoa n, c ≠ 10 := by
  intro c hc
  have hd : ∀ u : Nat, ∀ c ∈ Lib.decDigits u, c ≠ 10 := fun u c hc e => by
    have := (dec_digs u).1 c hc
    rw [e] at this
    revert this; decide
  unfold Lib.itoa at hc
  split at hc
  · rcases List.mem_cons.1 hc with rfl | hc
    · decide
    · exact hd _ c hc
  · exact hd _ c hc
theorem punct_no10 (ts : Int) : ∀ c ∈ punctLine ts, c ≠ 10 := by
  intro c hc
  unfold punctLine at hc
  rcases List.mem_append.1 hc with hc | hc
  · simp only [List.mem_cons, List.not_mem_nil, or_false] at hc
    rcases hc with rfl | rfl <;> decide
  · exact itoa_no10 _ c hc
theorem ev_no10 {E : Ev} (h : EvOk E) : ∀ c ∈ evLine E, c ≠ 10 := by
  intro c hc
  have hk : (UInt8.ofNat E.kind.toNat).toNat = E.kind.toNat := by rw [UInt8.toNat_ofNat']; have := h.kind; omega
  have hkn : UInt8.ofNat E.kind.toNat ≠ 10 := fun e => by rw [e] at hk; have := h.kind; have h10 : (10 : UInt8).toNat = 10 := rfl; omega
  unfold evLine at hc
  simp only [List.mem_append, List.mem_cons, List.not_mem_nil, or_false] at hc
  rcases hc with (((((((hc | hc) | hc) | hc) | hc) | hc) | hc) | hc) | hc <;> first | exact itoa_no10 _ c hc | (subst hc; first | decide | exact hkn)
theorem spLine_len (a : ActR) : (spLine a).length ≤ 40 := by
  unfold spLine
  split
  · exact punct_len (spTs_range a)
  · rename_i h; exact (evLine_spec (spEv_ok h)).2.2
def spText (l : List ActR) : List UInt8 := l.flatMap (fun a => spLine a ++ [10])
theorem spText_len : ∀ (l : List ActR), (spText l).length ≤ 41 * l.length := by
  intro l
  induction l with
  | nil => simp [spText]
  | cons a l ih =>
    have := spLine_len a
    unfold spText at *
    rw [List.flatMap_cons, List.length_append, List.length_append]
    simp only [List.length_cons, List.length_nil]
    omega
theorem spText_snoc (l : List ActR) (a : ActR) : spText (l ++ [a]) = spText l ++ (spLine a ++ [10]) := by unfold spText; rw [List.flatMap_append]; simp
end Go.Proofs.YtghcololkgeoeabDoor
