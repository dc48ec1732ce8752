import Derived.Test.YthiabdpgieppoaaGreatLawN
import Derived.Test.YthiabdpgieppoaaGreatBack
import Derived.ProofKit
import Derived.OpenShut
import Derived.ShutString
import Derived.ChangeOld
import Derived.Below
import Derived.Deep.Slices
import Derived.SizedLaws
namespace Go.Proofs.YthiabdpgieppoaaGreat
open Go.ChangeShapes Go.WideShapes Go.ChangeAt Go.RowKit
set_option linter.unusedVariables false
set_option linter.unusedSimpArgs false

theorem six {α : Type} {l : List α} (h : l.length = 6) : ∃ a b c d e f, l = [a, b, c, d, e, f] := by
  rcases l with _ | ⟨a, _ | ⟨b, _ | ⟨c, _ | ⟨d, _ | ⟨e, _ | ⟨f, _ | ⟨g, l⟩⟩⟩⟩⟩⟩⟩
  · simp at h
  · simp at h
  · simp at h
  · simp at h
  · simp at h
  · simp at h
  · exact ⟨a, b, c, d, e, f, rfl⟩
  · simp at h
/-- the types of this program -/
theorem kidsN : Kids Tryz.prog (· < Tryz.prog.types.size) := kids_rows (by kernel_rfl) (by kernel_rfl)
theorem fullN : ∀ t e, t < Tryz.prog.types.size → Tryz.prog.underlying t = some (.slice e) → 0 < Tryz.prog.cellsOf e := slices_full_of Tryz.prog (by kernel_rfl)
theorem sizeN : Tryz.prog.types.size = 170 := by kernel_rfl
set_option maxRecDepth 100000 in
/-- a configuration that came in -/
theorem open_cfg {H : Type} {enc : TypeId × Value → H} {W : World} {sp : Nat → Bool} {hd : Bool} {base0 base : Nat} {r : Reach} {v : Value} {d : DataW H} {p : List MemPlace} (hval : Value.okWide Tryz.prog W r base0 23 v)
    (h : DataW.Trod enc Tryz.prog W base sp hd 23 v d p) : ∃ c : Cfg, v = c.agg ∧ c.pat.size ≤ maxLen := by
  obtain ⟨cs, rfl, hsz⟩ := okWide_struct Tryz.underlying23 hval
  obtain ⟨fuel, h⟩ := h
  obtain ⟨xs, n, rfl, hx, hlen, hxl, hf⟩ := DataW.trod_struct Tryz.underlying23 h
  have hc6 : Tryz.prog.cellsOf 23 = 6 := by kernel_rfl
  have hci : Tryz.prog.cellsOf 3 = 1 := by kernel_rfl
  have hcs : Tryz.prog.cellsOf 9 = 1 := by kernel_rfl
  have hl6 : cs.toList.length = 6 := by simpa [hc6] using hsz
  obtain ⟨v0, v1, v2, v3, v4, v5, hcl⟩ := six hl6
  have hcells : (Value.agg cs).cells.toList = [v0, v1, v2, v3, v4, v5] := by rw [← hcl]; rfl
  rw [hcells] at hf
  have key : ∀ i (f : Field), _ → _ := fun i f => hf i f
  have hxs : ∀ i, i < 6 → ∃ y, xs[i]? = some y := by
    intro i hi
    have : i < xs.length := by rw [hxl]; exact hi
    exact ⟨xs[i], List.getElem?_eq_getElem this⟩
  obtain ⟨y0, h0⟩ := hxs 0 (by omega)
  obtain ⟨y1, h1⟩ := hxs 1 (by omega)
  obtain ⟨y2, h2⟩ := hxs 2 (by omega)
  obtain ⟨y3, h3⟩ := hxs 3 (by omega)
  obtain ⟨y4, h4⟩ := hxs 4 (by omega)
  obtain ⟨y5, h5⟩ := hxs 5 (by omega)
  have k0 := hf 0 _ rfl
  have k1 := hf 1 _ rfl
  have k2 := hf 2 _ rfl
  have k3 := hf 3 _ rfl
  have k4 := hf 4 _ rfl
  have k5 := hf 5 _ rfl
  rw [h0] at k0
  rw [h1] at k1
  rw [h2] at k2
  rw [h3] at k3
  rw [h4] at k4
  rw [h5] at k5
  simp only [List.getElem_toArray, List.getElem_cons_zero, List.getElem_cons_succ, hci, hcs, List.drop_zero, List.drop_succ_cons, List.take_succ_cons, List.take_zero] at k0 k1 k2 k3 k4 k5
  obtain ⟨m0, e0⟩ := trod_int1 Tryz.underlying3 k0
  obtain ⟨m1, e1⟩ := trod_int1 Tryz.underlying3 k1
  obtain ⟨m2, e2⟩ := trod_int1 Tryz.underlying3 k2
  obtain ⟨m3, e3⟩ := trod_int1 Tryz.underlying3 k3
  obtain ⟨m4, e4⟩ := trod_int1 Tryz.underlying3 k4
  obtain ⟨s, e5, hs⟩ := trod_str1 Tryz.underlying9 k5
  simp only [List.cons.injEq, and_true] at e0 e1 e2 e3 e4 e5
  subst e0 e1 e2 e3 e4 e5
  refine ⟨⟨m0, m1, m2, m3, m4, s⟩, ?_, hs⟩
  unfold Cfg.agg
  congr 1
  apply Array.toList_inj.1
  rw [hcl]
theorem ownS : ownKnob Tryz.prog.godebug = none := by kernel_rfl
theorem eight {α : Type} {l : List α} (h : l.length = 8) : ∃ a b c d e f g k, l = [a, b, c, d, e, f, g, k] := by
  rcases l with _ | ⟨a, _ | ⟨b, _ | ⟨c, _ | ⟨d, _ | ⟨e, _ | ⟨f, _ | ⟨g, _ | ⟨k, _ | ⟨m, l⟩⟩⟩⟩⟩⟩⟩⟩⟩
  · simp at h
  · simp at h
  · simp at h
  · simp at h
  · simp at h
  · simp at h
  · simp at h
  · simp at h
  · exact ⟨a, b, c, d, e, f, g, k, rfl⟩
  · simp at h
theorem five {α : Type} {l : List α} (h : l.length = 5) : ∃ a b c d e, l = [a, b, c, d, e] := by
  rcases l with _ | ⟨a, _ | ⟨b, _ | ⟨c, _ | ⟨d, _ | ⟨e, _ | ⟨f, l⟩⟩⟩⟩⟩⟩
  · simp at h
  · simp at h
  · simp at h
  · simp at h
  · simp at h
  · exact ⟨a, b, c, d, e, rfl⟩
  · simp at h
section
variable {H : Type} {enc : TypeId × Value → H} {W : World} {sp : Nat → Bool} {hd : Bool} {base : Nat}
set_option maxRecDepth 100000 in
/-- an event that came in -/
theorem open_ev {n : Nat} {cs : List Value} {x : DataW H × List MemPlace} (h : DataW.trod enc Tryz.prog W base sp hd n 32 cs = some x) : ∃ E : Ev, cs = E.vals := by
  obtain ⟨xs, n, rfl, hx, hlen, hxl, hf⟩ := DataW.trod_struct Tryz.underlying32 h
  have hc5 : Tryz.prog.cellsOf 32 = 5 := by kernel_rfl
  have hci : Tryz.prog.cellsOf 3 = 1 := by kernel_rfl
  obtain ⟨v0, v1, v2, v3, v4, rfl⟩ := five (hlen.trans hc5)
  have hxs : ∀ i, i < 5 → ∃ y, xs[i]? = some y := by
    intro i hi
    have : i < xs.length := by rw [hxl]; exact hi
    exact ⟨xs[i], List.getElem?_eq_getElem this⟩
  obtain ⟨y0, h0⟩ := hxs 0 (by omega)
  obtain ⟨y1, h1⟩ := hxs 1 (by omega)
  obtain ⟨y2, h2⟩ := hxs 2 (by omega)
  obtain ⟨y3, h3⟩ := hxs 3 (by omega)
  obtain ⟨y4, h4⟩ := hxs 4 (by omega)
  have k0 := hf 0 _ rfl
  have k1 := hf 1 _ rfl
  have k2 := hf 2 _ rfl
  have k3 := hf 3 _ rfl
  have k4 := hf 4 _ rfl
  rw [h0] at k0
  rw [h1] at k1
  rw [h2] at k2
  rw [h3] at k3
  rw [h4] at k4
  simp only [List.getElem_toArray, List.getElem_cons_zero, List.getElem_cons_succ, hci, List.drop_zero, List.drop_succ_cons, List.take_succ_cons, List.take_zero] at k0 k1 k2 k3 k4
  obtain ⟨m0, e0⟩ := trod_int1 Tryz.underlying3 k0
  obtain ⟨m1, e1⟩ := trod_int1 Tryz.underlying3 k1
  obtain ⟨m2, e2⟩ := trod_int1 Tryz.underlying3 k2
  obtain ⟨m3, e3⟩ := trod_int1 Tryz.underlying3 k3
  obtain ⟨m4, e4⟩ := trod_int1 Tryz.underlying3 k4
  simp only [List.cons.injEq, and_true] at e0 e1 e2 e3 e4
  subst e0 e1 e2 e3 e4
  exact ⟨⟨m0, m1, m2, m3, m4⟩, rfl⟩
set_option maxRecDepth 100000 in
/-- a step that came in -/
theorem open_op {n : Nat} {cs : List Value} {x : DataW H × List MemPlace} (h : DataW.trod enc Tryz.prog W base sp hd n 34 cs = some x) : ∃ O : OpR, cs = O.cells := by
  obtain ⟨xs, n, rfl, hx, hlen, hxl, hf⟩ := DataW.trod_struct Tryz.underlying34 h
  have hc8 : Tryz.prog.cellsOf 34 = 8 := by kernel_rfl
  have hci : Tryz.prog.cellsOf 3 = 1 := by kernel_rfl
  have hcs : Tryz.prog.cellsOf 9 = 1 := by kernel_rfl
  have hce : Tryz.prog.cellsOf 32 = 5 := by kernel_rfl
  obtain ⟨v0, v1, v2, v3, v4, v5, v6, v7, rfl⟩ := eight (hlen.trans hc8)
  have hxs : ∀ i, i < 4 → ∃ y, xs[i]? = some y := by
    intro i hi
    have : i < xs.length := by rw [hxl]; exact hi
    exact ⟨xs[i], List.getElem?_eq_getElem this⟩
  obtain ⟨y0, h0⟩ := hxs 0 (by omega)
  obtain ⟨y1, h1⟩ := hxs 1 (by omega)
  obtain ⟨y2, h2⟩ := hxs 2 (by omega)
  obtain ⟨y3, h3⟩ := hxs 3 (by omega)
  have k0 := hf 0 _ rfl
  have k1 := hf 1 _ rfl
  have k2 := hf 2 _ rfl
  have k3 := hf 3 _ rfl
  rw [h0] at k0
  rw [h1] at k1
  rw [h2] at k2
  rw [h3] at k3
  simp only [List.getElem_toArray, List.getElem_cons_zero, List.getElem_cons_succ, hci, hcs, hce, List.drop_zero, List.drop_succ_cons, List.take_succ_cons, List.take_zero] at k0 k1 k2 k3
  obtain ⟨m0, e0⟩ := trod_int1 Tryz.underlying3 k0
  obtain ⟨m1, e1⟩ := trod_int1 Tryz.underlying3 k1
  obtain ⟨E, e2⟩ := open_ev k2
  obtain ⟨s, e3, hs⟩ := trod_str1 Tryz.underlying9 k3
  simp only [Ev.vals, List.cons.injEq, and_true] at e0 e1 e2 e3
  obtain ⟨a0, a1, a2, a3, a4⟩ := e2
  subst e0 e1 e3 a0 a1 a2 a3 a4
  exact ⟨⟨m0, m1, E, s⟩, rfl⟩
set_option maxRecDepth 100000 in
/-- a script that came in -/
theorem open_script {base0 : Nat} {r : Reach} {v : Value} {d : DataW H} {p : List MemPlace} (hval : Value.okWide Tryz.prog W r base0 24 v) (h : DataW.Trod enc Tryz.prog W base sp hd 24 v d p)
    (hsz : ∀ elems spare, d = .slice elems spare → (elems.length + spare.length) * Tryz.prog.bytesOf 34 ≤ reachBytes) : ∃ (sa : Option Addr) (sc : Nat) (ops : List OpR), v = .slice sa ops.length sc ∧ Script W sa ops ∧ ops.length ≤ 3000000000000 := by
  have hc8 : Tryz.prog.cellsOf 34 = 8 := by kernel_rfl
  have hb72 : Tryz.prog.bytesOf 34 = 72 := by kernel_rfl
  obtain ⟨va, vlen, vcap, rfl⟩ := okWide_slice Tryz.underlying24 hval
  obtain ⟨fuel, h⟩ := h
  have hcl : (Value.slice va vlen vcap).cells.toList = [.slice va vlen vcap] := rfl
  rw [hcl] at h
  rcases Go.Deep.open_slice Tryz.underlying24 h with ⟨e, _⟩ | ⟨a, len, cap, m, n, D, Pl, e, hb, hl, hm, hmm, hx, hel⟩
  · simp only [List.cons.injEq, Value.slice.injEq, and_true] at e
    obtain ⟨rfl, rfl, rfl⟩ := e
    exact ⟨none, 0, [], rfl, fun i hi => absurd hi (by simp), by simp⟩
  · simp only [List.cons.injEq, Value.slice.injEq, and_true] at e
    obtain ⟨rfl, rfl, rfl⟩ := e
    have hlm : vlen ≤ m := by rw [hmm]; split <;> omega
    have hlen : vlen ≤ 3000000000000 := by
      have h1 := hsz _ _ (congrArg Prod.fst hx)
      simp only [List.length_map, List.length_range, hb72] at h1
      unfold reachBytes at h1
      omega
    have hop : ∀ i, ∃ O : OpR, i < vlen → W.cells? base (a.add (i * 8)) 8 = some O.cells := by
      intro i
      by_cases hi : i < vlen
      · obtain ⟨cs', h1, h2⟩ := hel i (by omega)
        obtain ⟨O, hO⟩ := open_op h2
        rw [hc8, hO] at h1
        exact ⟨O, fun _ => h1⟩
      · exact ⟨⟨0, 0, ⟨0, 0, 0, 0, 0⟩, ByteArray.empty⟩, fun h => absurd h hi⟩
    let f : Nat → OpR := fun i => Classical.choose (hop i)
    have hf : ∀ i, i < vlen → W.cells? base (a.add (i * 8)) 8 = some (f i).cells := fun i hi => Classical.choose_spec (hop i) hi
    refine ⟨some a, vcap, (List.range vlen).map f, by simp, ?_, by simpa using hlen⟩
    intro i hi
    have hi' : i < vlen := by simpa using hi
    have h0 := (World.cells?_some (hf 0 (by omega))).2.2 0 (by omega)
    have hs0 : a.spot = none := by
      have h00 : (f 0).cells[0]? = some (.int .i64 (f 0).k) := rfl
      rw [h00] at h0
      have := World.cell?_spot h0
      simpa [Addr.add] using this
    obtain ⟨ab, ao, asp⟩ := a
    simp only at hs0
    subst hs0
    refine ⟨ab, ao, rfl, fun o ho => ?_⟩
    have h1 := (World.cells?_some (hf i hi')).2.2 o (by omega)
    have e1 : ((⟨ab, ao, none⟩ : Addr).add (i * 8)).add o = ⟨ab, ao + i * 8 + o, none⟩ := by
      rw [Go.WideShapes.add_plain, Go.WideShapes.add_plain]
    rw [e1] at h1
    rw [h1]
    simp
end
end Go.Proofs.YthiabdpgieppoaaGreat
