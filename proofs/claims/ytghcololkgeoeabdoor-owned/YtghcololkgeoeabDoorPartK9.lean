import Derived.Test.YtghcololkgeoeabDoorPartK6
namespace Go.Proofs.YtghcololkgeoeabDoor
open Go.ChangeShapes Go.WideShapes Go.ChangeAt Go.RowKit
set_option linter.unusedVariables false
set_option linter.unusedSimpArgs false

theorem kidsN : Kids Tryd.prog (· < Tryd.prog.types.size) := kids_rows (by kernel_rfl) (by kernel_rfl)
theorem fullN : ∀ t e, t < Tryd.prog.types.size → Tryd.prog.underlying t = some (.slice e) → 0 < Tryd.prog.cellsOf e := slices_full_of Tryd.prog (by kernel_rfl)
theorem sizeN : Tryd.prog.types.size = 160 := by kernel_rfl
/-- numbers that lie there -/
def IntsAt (w : World) (sa : Option Addr) (l : List Int) : Prop := ∀ (i : Nat) (hi : i < l.length), I64 l[i] ∧ ∃ b off, sa = some ⟨b, off, none⟩ ∧ b < w.heap.size ∧ w.cell? ⟨b, off + i, none⟩ = some (.int .i64 l[i])
theorem IntsAt.below {w w' : World} {sa : Option Addr} {l : List Int} (h : IntsAt w sa l) (hb : Below w.heap.size w w') : IntsAt w' sa l := by
  intro i hi
  obtain ⟨h1, b, off, h2, h3, h4⟩ := h i hi
  exact ⟨h1, b, off, h2, Nat.lt_of_lt_of_le h3 hb.size, (hb.cell (p := ⟨b, off + i, none⟩) h3).trans h4⟩
section
variable {H : Type} {enc : TypeId × Value → H} {W : World} {sp : Nat → Bool} {hd : Bool} {base : Nat}
set_option maxRecDepth 100000 in
theorem open_i64 {base0 : Nat} {r : Reach} {v : Value} {d : DataW H} {p : List MemPlace} (hval : Value.okWide Tryd.prog W r base0 3 v) (h : DataW.Trod enc Tryd.prog W base sp hd 3 v d p) : ∃ m, v = .int .i64 m ∧ I64 m := by
  obtain ⟨m, e, _, _, hw⟩ := open_int Tryd.underlying3 hval h
  exact ⟨m, e, wf_i64 hw⟩
set_option maxRecDepth 100000 in
theorem open_actV {base0 : Nat} {r : Reach} {v : Value} {d : DataW H} {p : List MemPlace} (hval : Value.okWide Tryd.prog W r base0 39 v) (h : DataW.Trod enc Tryd.prog W base sp hd 39 v d p) : ∃ a : ActR, v = .agg a.cells.toArray ∧ a.ok := by
  obtain ⟨cs, rfl, hsz⟩ := okWide_struct Tryd.underlying39 hval
  obtain ⟨fuel, h⟩ := h
  obtain ⟨a, ha, hok⟩ := open_act h
  refine ⟨a, ?_, hok⟩
  congr 1
  apply Array.toList_inj.1
  exact ha
theorem bytesInt : Tryd.prog.bytesOf 3 = 8 := by kernel_rfl
set_option maxRecDepth 100000 in
theorem open_ints {base0 : Nat} {r : Reach} {v : Value} {d : DataW H} {p : List MemPlace} (hval : Value.okWide Tryd.prog W r base0 28 v) (h : DataW.Trod enc Tryd.prog W base sp hd 28 v d p)
    (B : Nat) (hsz : ∀ elems spare, d = .slice elems spare → elems.length + spare.length ≤ B) : ∃ (sa : Option Addr) (sc : Nat) (l : List Int), v = .slice sa l.length sc ∧ IntsAt W sa l ∧ l.length ≤ B := by
  have hc1 : Tryd.prog.cellsOf 3 = 1 := by kernel_rfl
  obtain ⟨va, vlen, vcap, rfl⟩ := okWide_slice Tryd.underlying28 hval
  obtain ⟨fuel, h⟩ := h
  have hcl : (Value.slice va vlen vcap).cells.toList = [.slice va vlen vcap] := rfl
  rw [hcl] at h
  rcases Go.Deep.open_slice Tryd.underlying28 h with ⟨e, _⟩ | ⟨a, len, cap, m, n, D, Pl, e, hb, hl, hm, hmm, hx, hel⟩
  · simp only [List.cons.injEq, Value.slice.injEq, and_true] at e
    obtain ⟨rfl, rfl, rfl⟩ := e
    exact ⟨none, 0, [], rfl, fun i hi => absurd hi (by simp), by simp⟩
  · simp only [List.cons.injEq, Value.slice.injEq, and_true] at e
    obtain ⟨rfl, rfl, rfl⟩ := e
    have hlm : vlen ≤ m := by rw [hmm]; split <;> omega
    have hlen : vlen ≤ B := by
      have h1 := hsz _ _ (congrArg Prod.fst hx)
      simp only [List.length_map, List.length_range] at h1
      omega
    have hop : ∀ i, ∃ O : Int, i < vlen → W.cells? base (a.add (i * 1)) 1 = some [.int .i64 O] ∧ I64 O := by
      intro i
      by_cases hi : i < vlen
      · obtain ⟨cs', h1, h2⟩ := hel i (by omega)
        obtain ⟨O, hO, hok⟩ := trod_i64 h2
        rw [hc1, hO] at h1
        exact ⟨O, fun _ => ⟨h1, hok⟩⟩
      · exact ⟨0, fun h => absurd h hi⟩
    let f : Nat → Int := fun i => Classical.choose (hop i)
    have hf : ∀ i, i < vlen → W.cells? base (a.add (i * 1)) 1 = some [.int .i64 (f i)] ∧ I64 (f i) := fun i hi => Classical.choose_spec (hop i) hi
    refine ⟨some a, vcap, (List.range vlen).map f, by simp, ?_, by simpa using hlen⟩
    intro i hi
    have hi' : i < vlen := by simpa using hi
    have h0 := (World.cells?_some (hf 0 (by omega)).1).2.2 0 (by omega)
    have hs0 : a.spot = none := by
      have h00 : [Value.int .i64 (f 0)][0]? = some (.int .i64 (f 0)) := rfl
      rw [h00] at h0
      have := World.cell?_spot h0
      simpa [Addr.add] using this
    obtain ⟨ab, ao, asp⟩ := a
    simp only at hs0
    subst hs0
    have hcell : W.cell? ⟨ab, ao + i, none⟩ = some (.int .i64 (f i)) := by
      have h1 := (World.cells?_some (hf i hi').1).2.2 0 (by omega)
      have e1 : ((⟨ab, ao, none⟩ : Addr).add (i * 1)).add 0 = ⟨ab, ao + i, none⟩ := by
        rw [Go.WideShapes.add_plain, Go.WideShapes.add_plain]; simp
      rw [e1] at h1
      exact h1
    have e2 : ((List.range vlen).map f)[i] = f i := by simp
    rw [e2]
    exact ⟨(hf i hi').2, ab, ao, rfl, World.block_lt_of_cell? W _ hcell, hcell⟩
end
end Go.Proofs.YtghcololkgeoeabDoor
