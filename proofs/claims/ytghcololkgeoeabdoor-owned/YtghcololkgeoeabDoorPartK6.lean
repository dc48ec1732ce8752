import Derived.Test.YtghcololkgeoeabDoorPartK5
import Derived.Test.YtghcololkgeoeabDoorPartD4
import Derived.Test.YtghcololkgeoeabDoorCards
import Derived.Test.YtghcololkgeoeabDoorTie
import Derived.SizedLaws
import Derived.ProofKit
import Derived.OpenShut
import Derived.ChangeOld
import Derived.Below
import Derived.Deep.DeepHandedRow
import Derived.Deep.Slices
namespace Go.Proofs.YtghcololkgeoeabDoor
open Go.ChangeShapes Go.WideShapes Go.ChangeAt Go.RowKit
set_option linter.unusedVariables false
set_option linter.unusedSimpArgs false

theorem ownK : ownKnob Tryd.prog.godebug = none := by kernel_rfl
theorem gTab : Tryd.prog.globalNamed "internal/strconv.uint64pow10" = some 0 := by kernel_rfl
theorem gTabType : (Tryd.prog.globals[0]?).map (·.type) = some 137 := by kernel_rfl
theorem cellsTab : Tryd.prog.cellsOf 137 = 20 := by kernel_rfl
theorem cellsU64 : Tryd.prog.cellsOf 130 = 1 := by kernel_rfl
theorem table {W : World} (h : laidMetH Tryd.prog Rows.foundRow.laid W) : tab10 W := by
  obtain ⟨ps, hv, _⟩ := h
  obtain ⟨_, _, _, _, _, q1, _, _, _, _, hv, _⟩ := hv
  obtain ⟨_, _, _, _, _, q2, _, _, _, _, hv, _⟩ := hv
  obtain ⟨g, t, cs, fuel, p, q, hg, ht, hvar, hd, _, _⟩ := hv
  obtain rfl := Option.some.inj (gTab.symm.trans hg)
  obtain rfl := Option.some.inj (gTabType.symm.trans ht)
  unfold tab10 Lib.TabIs
  rw [hvar, ← Lib.cells_of_tab (k := .u64) (zs := Lib.pow10Tab) Tryd.underlying137 Tryd.underlying130 cellsU64 cellsTab hd]
theorem tab_below {W u : World} (h : tab10 W) (hb : Below W.heap.size W u) : tab10 u := by
  unfold tab10 Lib.TabIs World.var? at *
  rw [gTab] at *
  simp only [Option.bind_some] at *
  have hlt : 0 < W.heap.size := by
    by_cases h0 : 0 < W.heap.size
    · exact h0
    · rw [Array.getElem?_eq_none (by omega)] at h; simp at h
  rw [hb.block 0 hlt]; exact h
theorem six6 {α : Type} {l : List α} (h : l.length = 6) : ∃ a b c d e f, l = [a, b, c, d, e, f] := by
  rcases l with _ | ⟨a, _ | ⟨b, _ | ⟨c, _ | ⟨d, _ | ⟨e, _ | ⟨f, _ | ⟨g, l⟩⟩⟩⟩⟩⟩⟩
  · simp at h
  · simp at h
  · simp at h
  · simp at h
  · simp at h
  · simp at h
  · exact ⟨a, b, c, d, e, f, rfl⟩
  · simp at h
theorem eight8 {α : Type} {l : List α} (h : l.length = 8) : ∃ a b c d e f g k, l = [a, b, c, d, e, f, g, k] := by
  rcases l with _ | ⟨a, _ | ⟨b, _ | ⟨c, _ | ⟨d, _ | ⟨e, _ | ⟨f, _ | ⟨g, _ | ⟨k, _ | ⟨m, l⟩⟩⟩⟩⟩⟩⟩⟩⟩
  · simp at h
  · simp at h
  · simp at h
  · simp at h
  · simp at h
  · simp at h
  · simp at h
  · simp at h
  · exact ⟨a, b, c, d, e, f, g, k, rfl⟩
  · simp at h
theorem five5 {α : Type} {l : List α} (h : l.length = 5) : ∃ a b c d e, l = [a, b, c, d, e] := by
  rcases l with _ | ⟨a, _ | ⟨b, _ | ⟨c, _ | ⟨d, _ | ⟨e, _ | ⟨f, l⟩⟩⟩⟩⟩⟩
  · simp at h
  · simp at h
  · simp at h
  · simp at h
  · simp at h
  · exact ⟨a, b, c, d, e, rfl⟩
  · simp at h
section
variable {H : Type} {enc : TypeId × Value → H} {W : World} {sp : Nat → Bool} {hd : Bool} {base : Nat}
theorem wf_i64 {n : Int} (h : (Lit.int .i64 n).wf = true) : I64 n := by
  unfold I64
  simp [Lit.wf] at h
  exact h
theorem trod_i64 {n : Nat} {cs : List Value} {x : DataW H × List MemPlace} (h : DataW.trod enc Tryd.prog W base sp hd n 3 cs = some x) : ∃ m, cs = [.int .i64 m] ∧ I64 m := by
  obtain ⟨m, hc, _, hw⟩ := DataW.trod_int Tryd.underlying3 h
  exact ⟨m, hc, wf_i64 hw⟩
set_option maxRecDepth 100000 in
theorem open_raw {base0 : Nat} {r : Reach} {v : Value} {d : DataW H} {p : List MemPlace} (hval : Value.okWide Tryd.prog W r base0 23 v) (h : DataW.Trod enc Tryd.prog W base sp hd 23 v d p) : ∃ c : RawC, v = .agg #[.int .i64 c.sources, .int .i64 c.slack, .int .i64 c.policy, .int .i64 c.room, .int .i64 c.idle, .int .i64 c.pattern] ∧ c.ok := by
  obtain ⟨cs, rfl, hsz⟩ := okWide_struct Tryd.underlying23 hval
  obtain ⟨fuel, h⟩ := h
  obtain ⟨xs, n, rfl, hx, hlen, hxl, hf⟩ := DataW.trod_struct Tryd.underlying23 h
  have hc6 : Tryd.prog.cellsOf 23 = 6 := by kernel_rfl
  have hci : Tryd.prog.cellsOf 3 = 1 := by kernel_rfl
  have hl6 : cs.toList.length = 6 := by simpa [hc6] using hsz
  obtain ⟨v0, v1, v2, v3, v4, v5, hcl⟩ := six6 hl6
  have hcells : (Value.agg cs).cells.toList = [v0, v1, v2, v3, v4, v5] := by rw [← hcl]; rfl
  rw [hcells] at hf
  have hxs : ∀ i, i < 6 → ∃ y, xs[i]? = some y := by
    intro i hi
    have : i < xs.length := by rw [hxl]; exact hi
    exact ⟨xs[i], List.getElem?_eq_getElem this⟩
  obtain ⟨y0, h0⟩ := hxs 0 (by omega)
  obtain ⟨y1, h1⟩ := hxs 1 (by omega)
  obtain ⟨y2, h2⟩ := hxs 2 (by omega)
  obtain ⟨y3, h3⟩ := hxs 3 (by omega)
  obtain ⟨y4, h4⟩ := hxs 4 (by omega)
  obtain ⟨y5, h5⟩ := hxs 5 (by omega)
  have k0 := hf 0 _ rfl
  have k1 := hf 1 _ rfl
  have k2 := hf 2 _ rfl
  have k3 := hf 3 _ rfl
  have k4 := hf 4 _ rfl
  have k5 := hf 5 _ rfl
  rw [h0] at k0
  rw [h1] at k1
  rw [h2] at k2
  rw [h3] at k3
  rw [h4] at k4
  rw [h5] at k5
  simp only [List.getElem_toArray, List.getElem_cons_zero, List.getElem_cons_succ, hci, List.drop_zero, List.drop_succ_cons, List.take_succ_cons, List.take_zero] at k0 k1 k2 k3 k4 k5
  obtain ⟨m0, e0, i0⟩ := trod_i64 k0
  obtain ⟨m1, e1, i1⟩ := trod_i64 k1
  obtain ⟨m2, e2, i2⟩ := trod_i64 k2
  obtain ⟨m3, e3, i3⟩ := trod_i64 k3
  obtain ⟨m4, e4, i4⟩ := trod_i64 k4
  obtain ⟨m5, e5, i5⟩ := trod_i64 k5
  simp only [List.cons.injEq, and_true] at e0 e1 e2 e3 e4 e5
  subst e0 e1 e2 e3 e4 e5
  refine ⟨⟨m0, m1, m2, m3, m4, m5⟩, ?_, i0, i1, i2, i3, i4, i5⟩
  congr 1
  apply Array.toList_inj.1
  rw [hcl]
set_option maxRecDepth 100000 in
theorem open_evK {n : Nat} {cs : List Value} {x : DataW H × List MemPlace} (h : DataW.trod enc Tryd.prog W base sp hd n 37 cs = some x) : ∃ E : Ev, cs = E.vals := by
  obtain ⟨xs, n, rfl, hx, hlen, hxl, hf⟩ := DataW.trod_struct Tryd.underlying37 h
  have hc5 : Tryd.prog.cellsOf 37 = 5 := by kernel_rfl
  have hci : Tryd.prog.cellsOf 3 = 1 := by kernel_rfl
  obtain ⟨v0, v1, v2, v3, v4, rfl⟩ := five5 (hlen.trans hc5)
  have hxs : ∀ i, i < 5 → ∃ y, xs[i]? = some y := by
    intro i hi
    have : i < xs.length := by rw [hxl]; exact hi
    exact ⟨xs[i], List.getElem?_eq_getElem this⟩
  obtain ⟨y0, h0⟩ := hxs 0 (by omega)
  obtain ⟨y1, h1⟩ := hxs 1 (by omega)
  obtain ⟨y2, h2⟩ := hxs 2 (by omega)
  obtain ⟨y3, h3⟩ := hxs 3 (by omega)
  obtain ⟨y4, h4⟩ := hxs 4 (by omega)
  have k0 := hf 0 _ rfl
  have k1 := hf 1 _ rfl
  have k2 := hf 2 _ rfl
  have k3 := hf 3 _ rfl
  have k4 := hf 4 _ rfl
  rw [h0] at k0
  rw [h1] at k1
  rw [h2] at k2
  rw [h3] at k3
  rw [h4] at k4
  simp only [List.getElem_toArray, List.getElem_cons_zero, List.getElem_cons_succ, hci, List.drop_zero, List.drop_succ_cons, List.take_succ_cons, List.take_zero] at k0 k1 k2 k3 k4
  obtain ⟨m0, e0, _⟩ := trod_i64 k0
  obtain ⟨m1, e1, _⟩ := trod_i64 k1
  obtain ⟨m2, e2, _⟩ := trod_i64 k2
  obtain ⟨m3, e3, _⟩ := trod_i64 k3
  obtain ⟨m4, e4, _⟩ := trod_i64 k4
  simp only [List.cons.injEq, and_true] at e0 e1 e2 e3 e4
  subst e0 e1 e2 e3 e4
  exact ⟨⟨m0, m1, m2, m3, m4⟩, rfl⟩
set_option maxRecDepth 100000 in
theorem open_act {n : Nat} {cs : List Value} {x : DataW H × List MemPlace} (h : DataW.trod enc Tryd.prog W base sp hd n 39 cs = some x) : ∃ a : ActR, cs = a.cells ∧ a.ok := by
  obtain ⟨xs, n, rfl, hx, hlen, hxl, hf⟩ := DataW.trod_struct Tryd.underlying39 h
  have hc8 : Tryd.prog.cellsOf 39 = 8 := by kernel_rfl
  have hci : Tryd.prog.cellsOf 3 = 1 := by kernel_rfl
  have hce : Tryd.prog.cellsOf 37 = 5 := by kernel_rfl
  obtain ⟨v0, v1, v2, v3, v4, v5, v6, v7, rfl⟩ := eight8 (hlen.trans hc8)
  have hxs : ∀ i, i < 4 → ∃ y, xs[i]? = some y := by
    intro i hi
    have : i < xs.length := by rw [hxl]; exact hi
    exact ⟨xs[i], List.getElem?_eq_getElem this⟩
  obtain ⟨y0, h0⟩ := hxs 0 (by omega)
  obtain ⟨y1, h1⟩ := hxs 1 (by omega)
  obtain ⟨y2, h2⟩ := hxs 2 (by omega)
  obtain ⟨y3, h3⟩ := hxs 3 (by omega)
  have k0 := hf 0 _ rfl
  have k1 := hf 1 _ rfl
  have k2 := hf 2 _ rfl
  have k3 := hf 3 _ rfl
  rw [h0] at k0
  rw [h1] at k1
  rw [h2] at k2
  rw [h3] at k3
  simp only [List.getElem_toArray, List.getElem_cons_zero, List.getElem_cons_succ, hci, hce, List.drop_zero, List.drop_succ_cons, List.take_succ_cons, List.take_zero] at k0 k1 k2 k3
  obtain ⟨m0, e0, i0⟩ := trod_i64 k0
  obtain ⟨m1, e1, i1⟩ := trod_i64 k1
  obtain ⟨m2, e2, i2⟩ := trod_i64 k2
  obtain ⟨E, e3⟩ := open_evK k3
  simp only [List.cons.injEq, and_true] at e0 e1 e2
  subst e0 e1 e2
  simp only [Ev.vals, List.cons.injEq, and_true] at e3
  obtain ⟨r3, r4, r5, r6, r7⟩ := e3
  subst r3 r4 r5 r6 r7
  exact ⟨⟨m0, m1, m2, E⟩, rfl, i0, i1, i2⟩
theorem bytesAct : Tryd.prog.bytesOf 39 = 64 := by kernel_rfl
set_option maxRecDepth 100000 in
theorem open_acts {base0 : Nat} {r : Reach} {v : Value} {d : DataW H} {p : List MemPlace} (hval : Value.okWide Tryd.prog W r base0 24 v) (h : DataW.Trod enc Tryd.prog W base sp hd 24 v d p)
    (B : Nat) (hsz : ∀ elems spare, d = .slice elems spare → elems.length + spare.length ≤ B) : ∃ (sa : Option Addr) (sc : Nat) (acts : List ActR), v = .slice sa acts.length sc ∧ ActsAt W sa acts ∧ acts.length ≤ B := by
  have hc8 : Tryd.prog.cellsOf 39 = 8 := by kernel_rfl
  obtain ⟨va, vlen, vcap, rfl⟩ := okWide_slice Tryd.underlying24 hval
  obtain ⟨fuel, h⟩ := h
  have hcl : (Value.slice va vlen vcap).cells.toList = [.slice va vlen vcap] := rfl
  rw [hcl] at h
  rcases Go.Deep.open_slice Tryd.underlying24 h with ⟨e, _⟩ | ⟨a, len, cap, m, n, D, Pl, e, hb, hl, hm, hmm, hx, hel⟩
  · simp only [List.cons.injEq, Value.slice.injEq, and_true] at e
    obtain ⟨rfl, rfl, rfl⟩ := e
    exact ⟨none, 0, [], rfl, fun i hi => absurd hi (by simp), by simp⟩
  · simp only [List.cons.injEq, Value.slice.injEq, and_true] at e
    obtain ⟨rfl, rfl, rfl⟩ := e
    have hlm : vlen ≤ m := by rw [hmm]; split <;> omega
    have hlen : vlen ≤ B := by
      have h1 := hsz _ _ (congrArg Prod.fst hx)
      simp only [List.length_map, List.length_range] at h1
      omega
    have hop : ∀ i, ∃ O : ActR, i < vlen → W.cells? base (a.add (i * 8)) 8 = some O.cells ∧ O.ok := by
      intro i
      by_cases hi : i < vlen
      · obtain ⟨cs', h1, h2⟩ := hel i (by omega)
        obtain ⟨O, hO, hok⟩ := open_act h2
        rw [hc8, hO] at h1
        exact ⟨O, fun _ => ⟨h1, hok⟩⟩
      · exact ⟨⟨0, 0, 0, ⟨0, 0, 0, 0, 0⟩⟩, fun h => absurd h hi⟩
    let f : Nat → ActR := fun i => Classical.choose (hop i)
    have hf : ∀ i, i < vlen → W.cells? base (a.add (i * 8)) 8 = some (f i).cells ∧ (f i).ok := fun i hi => Classical.choose_spec (hop i) hi
    refine ⟨some a, vcap, (List.range vlen).map f, by simp, ?_, by simpa using hlen⟩
    intro i hi
    have hi' : i < vlen := by simpa using hi
    have h0 := (World.cells?_some (hf 0 (by omega)).1).2.2 0 (by omega)
    have hs0 : a.spot = none := by
      have h00 : (f 0).cells[0]? = some (.int .i64 (f 0).d) := rfl
      rw [h00] at h0
      have := World.cell?_spot h0
      simpa [Addr.add] using this
    obtain ⟨ab, ao, asp⟩ := a
    simp only at hs0
    subst hs0
    have hcell : ∀ o, o < 8 → W.cell? ⟨ab, ao + i * 8 + o, none⟩ = (f i).cells[o]? := fun o ho => by
      have h1 := (World.cells?_some (hf i hi').1).2.2 o (by omega)
      have e1 : ((⟨ab, ao, none⟩ : Addr).add (i * 8)).add o = ⟨ab, ao + i * 8 + o, none⟩ := by
        rw [Go.WideShapes.add_plain, Go.WideShapes.add_plain]
      rw [e1] at h1
      exact h1
    refine ⟨by simpa using (hf i hi').2, ab, ao, rfl, ?_, fun o ho => ?_⟩
    rotate_left
    · have h := hcell o ho; simp only [List.getElem_map, List.getElem_range] at h ⊢; exact h
    have h1 := hcell 0 (by omega)
    have h00 : (f i).cells[0]? = some (.int .i64 (f i).d) := rfl
    rw [h00] at h1
    exact World.block_lt_of_cell? W _ h1
end
end Go.Proofs.YtghcololkgeoeabDoor
