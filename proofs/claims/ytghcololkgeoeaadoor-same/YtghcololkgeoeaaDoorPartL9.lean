import Derived.Test.YtghcololkgeoeaaDoorPartK3
import Derived.Test.YtghcololkgeoeaaDoorPartK9
import Derived.ChangeMaps5
namespace Go.Proofs.YtghcololkgeoeaaDoor
structure EvI (E : Ev) : Prop where
  seq : I64 E.seq
  ts : I64 E.ts
  kind : I64 E.kind
  val : I64 E.val
end Go.Proofs.YtghcololkgeoeaaDoor
namespace Go.Proofs.YtghcololkgeoeaaDoor
open Go.ChangeShapes Go.WideShapes Go.ChangeAt Go.RowKit
set_option linter.unusedVariables false
set_option linter.unusedSimpArgs false
section
variable {H : Type} {enc : TypeId × Value → H} {W : World} {sp : Nat → Bool} {hd : Bool} {base : Nat}
set_option maxRecDepth 100000 in
theorem open_ev2 {n : Nat} {cs : List Value} {x : DataW H × List MemPlace} (h : DataW.trod enc Tryd.prog W base sp hd n 37 cs = some x) : ∃ E : Ev, cs = E.vals ∧ EvI E := by
  obtain ⟨xs, n, rfl, hx, hlen, hxl, hf⟩ := DataW.trod_struct Tryd.underlying37 h
  have hc5 : Tryd.prog.cellsOf 37 = 5 := by kernel_rfl
  have hci : Tryd.prog.cellsOf 3 = 1 := by kernel_rfl
  obtain ⟨v0, v1, v2, v3, v4, rfl⟩ := five5 (hlen.trans hc5)
  have hxs : ∀ i, i < 5 → ∃ y, xs[i]? = some y := by
    intro i hi
    have : i < xs.length := by rw [hxl]; exact hi
    exact ⟨xs[i], List.getElem?_eq_getElem this⟩
  obtain ⟨y0, h0⟩ := hxs 0 (by omega)
  obtain ⟨y1, h1⟩ := hxs 1 (by omega)
  obtain ⟨y2, h2⟩ := hxs 2 (by omega)
  obtain ⟨y3, h3⟩ := hxs 3 (by omega)
  obtain ⟨y4, h4⟩ := hxs 4 (by omega)
  have k0 := hf 0 _ rfl
  have k1 := hf 1 _ rfl
  have k2 := hf 2 _ rfl
  have k3 := hf 3 _ rfl
  have k4 := hf 4 _ rfl
  rw [h0] at k0
  rw [h1] at k1
  rw [h2] at k2
  rw [h3] at k3
  rw [h4] at k4
  simp only [List.getElem_toArray, List.getElem_cons_zero, List.getElem_cons_succ, hci, List.drop_zero, List.drop_succ_cons, List.take_succ_cons, List.take_zero] at k0 k1 k2 k3 k4
  obtain ⟨m0, e0, _⟩ := trod_i64 k0
  obtain ⟨m1, e1, i1⟩ := trod_i64 k1
  obtain ⟨m2, e2, i2⟩ := trod_i64 k2
  obtain ⟨m3, e3, i3⟩ := trod_i64 k3
  obtain ⟨m4, e4, i4⟩ := trod_i64 k4
  simp only [List.cons.injEq, and_true] at e0 e1 e2 e3 e4
  subst e0 e1 e2 e3 e4
  exact ⟨⟨m0, m1, m2, m3, m4⟩, rfl, i1, i2, i3, i4⟩
set_option maxRecDepth 100000 in
theorem open_act2 {n : Nat} {cs : List Value} {x : DataW H × List MemPlace} (h : DataW.trod enc Tryd.prog W base sp hd n 39 cs = some x) : ∃ a : ActR, cs = a.cells ∧ a.ok ∧ EvI a.E := by
  obtain ⟨xs, n, rfl, hx, hlen, hxl, hf⟩ := DataW.trod_struct Tryd.underlying39 h
  have hc8 : Tryd.prog.cellsOf 39 = 8 := by kernel_rfl
  have hci : Tryd.prog.cellsOf 3 = 1 := by kernel_rfl
  have hce : Tryd.prog.cellsOf 37 = 5 := by kernel_rfl
  obtain ⟨v0, v1, v2, v3, v4, v5, v6, v7, rfl⟩ := eight8 (hlen.trans hc8)
  have hxs : ∀ i, i < 4 → ∃ y, xs[i]? = some y := by
    intro i hi
    have : i < xs.length := by rw [hxl]; exact hi
    exact ⟨xs[i], List.getElem?_eq_getElem this⟩
  obtain ⟨y0, h0⟩ := hxs 0 (by omega)
  obtain ⟨y1, h1⟩ := hxs 1 (by omega)
  obtain ⟨y2, h2⟩ := hxs 2 (by omega)
  obtain ⟨y3, h3⟩ := hxs 3 (by omega)
  have k0 := hf 0 _ rfl
  have k1 := hf 1 _ rfl
  have k2 := hf 2 _ rfl
  have k3 := hf 3 _ rfl
  rw [h0] at k0
  rw [h1] at k1
  rw [h2] at k2
  rw [h3] at k3
  simp only [List.getElem_toArray, List.getElem_cons_zero, List.getElem_cons_succ, hci, hce, List.drop_zero, List.drop_succ_cons, List.take_succ_cons, List.take_zero] at k0 k1 k2 k3
  obtain ⟨m0, e0, i0⟩ := trod_i64 k0
  obtain ⟨m1, e1, i1⟩ := trod_i64 k1
  obtain ⟨m2, e2, i2⟩ := trod_i64 k2
  obtain ⟨E, e3, hE⟩ := open_ev2 k3
  simp only [List.cons.injEq, and_true] at e0 e1 e2
  subst e0 e1 e2
  simp only [Ev.vals, List.cons.injEq, and_true] at e3
  obtain ⟨r3, r4, r5, r6, r7⟩ := e3
  subst r3 r4 r5 r6 r7
  exact ⟨⟨m0, m1, m2, E⟩, rfl, ⟨i0, i1, i2⟩, hE⟩
set_option maxRecDepth 100000 in
theorem open_acts2 {base0 : Nat} {r : Reach} {v : Value} {d : DataW H} {p : List MemPlace} (hval : Value.okWide Tryd.prog W r base0 24 v) (h : DataW.Trod enc Tryd.prog W base sp hd 24 v d p)
    (B : Nat) (hsz : ∀ elems spare, d = .slice elems spare → elems.length + spare.length ≤ B) : ∃ (sa : Option Addr) (sc : Nat) (acts : List ActR), v = .slice sa acts.length sc ∧ ActsAt W sa acts ∧ (∀ a ∈ acts, EvI a.E) ∧ acts.length ≤ B := by
  have hc8 : Tryd.prog.cellsOf 39 = 8 := by kernel_rfl
  obtain ⟨va, vlen, vcap, rfl⟩ := okWide_slice Tryd.underlying24 hval
  obtain ⟨fuel, h⟩ := h
  have hcl : (Value.slice va vlen vcap).cells.toList = [.slice va vlen vcap] := rfl
  rw [hcl] at h
  rcases Go.Deep.open_slice Tryd.underlying24 h with ⟨e, _⟩ | ⟨a, len, cap, m, n, D, Pl, e, hb, hl, hm, hmm, hx, hel⟩
  · simp only [List.cons.injEq, Value.slice.injEq, and_true] at e
    obtain ⟨rfl, rfl, rfl⟩ := e
    exact ⟨none, 0, [], rfl, fun i hi => absurd hi (by simp), by simp, by simp⟩
  · simp only [List.cons.injEq, Value.slice.injEq, and_true] at e
    obtain ⟨rfl, rfl, rfl⟩ := e
    have hlm : vlen ≤ m := by rw [hmm]; split <;> omega
    have hlen : vlen ≤ B := by
      have h1 := hsz _ _ (congrArg Prod.fst hx)
      simp only [List.length_map, List.length_range] at h1
      omega
    have hop : ∀ i, ∃ O : ActR, i < vlen → W.cells? base (a.add (i * 8)) 8 = some O.cells ∧ O.ok ∧ EvI O.E := by
      intro i
      by_cases hi : i < vlen
      · obtain ⟨cs', h1, h2⟩ := hel i (by omega)
        obtain ⟨O, hO, hok⟩ := open_act2 h2
        rw [hc8, hO] at h1
        exact ⟨O, fun _ => ⟨h1, hok⟩⟩
      · exact ⟨⟨0, 0, 0, ⟨0, 0, 0, 0, 0⟩⟩, fun h => absurd h hi⟩
    let f : Nat → ActR := fun i => Classical.choose (hop i)
    have hf : ∀ i, i < vlen → W.cells? base (a.add (i * 8)) 8 = some (f i).cells ∧ (f i).ok ∧ EvI (f i).E := fun i hi => Classical.choose_spec (hop i) hi
    refine ⟨some a, vcap, (List.range vlen).map f, by simp, ?_, fun a ha => by obtain ⟨i, hi, rfl⟩ := List.mem_map.1 ha; exact (hf i (List.mem_range.1 hi)).2.2, by simpa using hlen⟩
    intro i hi
    have hi' : i < vlen := by simpa using hi
    have h0 := (World.cells?_some (hf 0 (by omega)).1).2.2 0 (by omega)
    have hs0 : a.spot = none := by
      have h00 : (f 0).cells[0]? = some (.int .i64 (f 0).d) := rfl
      rw [h00] at h0
      have := World.cell?_spot h0
      simpa [Addr.add] using this
    obtain ⟨ab, ao, asp⟩ := a
    simp only at hs0
    subst hs0
    have hcell : ∀ o, o < 8 → W.cell? ⟨ab, ao + i * 8 + o, none⟩ = (f i).cells[o]? := fun o ho => by
      have h1 := (World.cells?_some (hf i hi').1).2.2 o (by omega)
      have e1 : ((⟨ab, ao, none⟩ : Addr).add (i * 8)).add o = ⟨ab, ao + i * 8 + o, none⟩ := by
        rw [Go.WideShapes.add_plain, Go.WideShapes.add_plain]
      rw [e1] at h1
      exact h1
    refine ⟨by simpa using (hf i hi').2.1, ab, ao, rfl, ?_, fun o ho => ?_⟩
    rotate_left
    · have h := hcell o ho; simp only [List.getElem_map, List.getElem_range] at h ⊢; exact h
    have h1 := hcell 0 (by omega)
    have h00 : (f i).cells[0]? = some (.int .i64 (f i).d) := rfl
    rw [h00] at h1
    exact World.block_lt_of_cell? W _ h1
end
end Go.Proofs.YtghcololkgeoeaaDoor
