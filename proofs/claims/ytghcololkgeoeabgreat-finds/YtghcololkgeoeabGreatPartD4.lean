import Derived.Test.YtghcololkgeoeabGreatPartD3
import Derived.ReadAgain
import Derived.ChangeOld
import Derived.ChangeReads
import Derived.DataReads
import Derived.Below
import Derived.ProofKit
import Derived.OpenShut
import Derived.ShutString
import Derived.Deep.Slices
import Derived.SizedLaws
namespace Go.Proofs.YtghcololkgeoeabGreat
open Go.RowKit
set_option linter.unusedVariables false
set_option linter.unusedSimpArgs false
attribute [local go_sem ↓] Go.wp_at_zero Go.wp_at_succ

structure OpR where
  k : Int
  A : Int
  E : Ev
  S : ByteArray
def OpR.cells (o : OpR) : List Value := opCells o.k o.A o.E o.S
theorem does_any (N : Nat) (w0 w : World) (wb xb rb : Nat) (X : Eng) (R : Ref) (a : Option Addr) (c : Nat) (l : Lz) (o : OpR) (h : PInv w0 w wb xb rb X R a c l) (hb : Both N X R) (hN : N ≤ 8000000000000) (hl : l.length ≤ 5000000000000) (hk : (1 ≤ o.k ∧ o.k ≤ 5) ∨ (7 ≤ o.k ∧ o.k ≤ 10)) :
    Calls Tryz.prog 7 #[.pointer (some ⟨wb, 0, none⟩), opVal o.k o.A o.E o.S] w fun e w' => e = .returned (.bool true) ∧ ∃ X' R' a' c' l', l'.length ≤ l.length + 1 ∧ PInv w0 w' wb xb rb X' R' a' c' l' ∧ Both (N + 2) X' R' := by
  obtain ⟨k, A, E, S⟩ := o
  simp only at hk ⊢
  have hc : k = 1 ∨ k = 2 ∨ k = 3 ∨ k = 4 ∨ k = 5 ∨ (k = 7 ∨ k = 8 ∨ k = 9 ∨ k = 10) := by omega
  rcases hc with rfl | rfl | rfl | rfl | rfl | hc
  · exact (does_join N w0 w wb xb rb X R a c l A E S h hb hN).mono fun e w' ⟨he, X', R', hP, hB⟩ => ⟨he, X', R', a, c, l, Nat.le_succ _, hP, hB⟩
  · exact (does_leave N w0 w wb xb rb X R a c l A E S h hb hN).mono fun e w' ⟨he, X', R', hP, hB⟩ => ⟨he, X', R', a, c, l, Nat.le_succ _, hP, hB⟩
  · exact (does_push N w0 w wb xb rb X R a c l A E S h hb hN).mono fun e w' ⟨he, X', R', hP, hB⟩ => ⟨he, X', R', a, c, l, Nat.le_succ _, hP, hB⟩
  · exact (does_punct N w0 w wb xb rb X R a c l A E S h hb hN).mono fun e w' ⟨he, X', R', hP, hB⟩ => ⟨he, X', R', a, c, l, Nat.le_succ _, hP, hB⟩
  · exact (does_tick N w0 w wb xb rb X R a c l A E S h hb hN).mono fun e w' ⟨he, X', R', hP, hB⟩ => ⟨he, X', R', a, c, l, Nat.le_succ _, hP, hB⟩
  · exact (does_asks_k k N w0 w wb xb rb X R a c l A E S h hb hN hl hc).mono fun e w' ⟨he, a', c', l', hl', hP⟩ => ⟨he, X, R, a', c', l', hl', hP, hb.mono (by omega)⟩
def Script (w : World) (a : Option Addr) (ops : List OpR) : Prop := ∀ (i : Nat) (hi : i < ops.length), ∃ b off, a = some ⟨b, off, none⟩ ∧ ∀ o, o < 8 → w.cell? ⟨b, off + i * 8 + o, none⟩ = ops[i].cells[o]?
def kindIn (k : Int) (ks : List Int) : Bool := decide (7 ≤ k ∧ k ≤ 10) || ks.any (fun x => k == x)
theorem kindIn_snoc (k : Int) (ks : List Int) (j : Nat) (hj : j < ks.length) : kindIn k (ks.take (j + 1)) = (kindIn k (ks.take j) || k == ks[j]) := by
  unfold kindIn
  rw [take_succ' ks j hj, List.any_append]
  simp [Bool.or_assoc]
end Go.Proofs.YtghcololkgeoeabGreat
namespace Go.Proofs.YtghcololkgeoeabGreat
open Go.RowKit
set_option linter.unusedVariables false
set_option linter.unusedSimpArgs false

theorem mapM_mono {α β : Type} {f g : α → Option β} : ∀ {l : List α} {r : List β}, (∀ a b, f a = some b → g a = some b) → l.mapM f = some r → l.mapM g = some r := by
  intro l
  induction l with
  | nil => intro r _ h; simpa using h
  | cons a l ih =>
    intro r hf h
    rw [List.mapM_cons] at h ⊢
    cases ha : f a with
    | none => simp [ha] at h
    | some b =>
      cases hl : l.mapM f with
      | none => simp [ha, hl] at h
      | some bs =>
        simp [ha, hl] at h
        simp [hf a b ha, ih hf hl, h]
section
variable {H : Type} {enc : TypeId × Value → H} {P : Program} {w w' : World} {spare : Nat → Bool} {held : Bool} {base : Nat}
theorem trodStep_mono {r r' : TypeId → List Value → Option (DataW H × List MemPlace)} (hr : ∀ t cs x, r t cs = some x → r' t cs = some x) (hc : ∀ a n cs, w.cells? base a n = some cs → w'.cells? base a n = some cs)
    (hm : ∀ (b : Nat) (es : Array MapEntry) (cl : Nat), w.heap[b]? = some (Obj.map es cl) → w'.heap[b]? = some (Obj.map es cl)) {t : TypeId} {cs : List Value} {x : DataW H × List MemPlace} (h : DataW.trodStep enc P w base spare held r t cs = some x) : DataW.trodStep enc P w' base spare held r' t cs = some x := by
  unfold DataW.trodStep at h ⊢
  split at h
  case h_6 e a hu =>
    simp only [Option.map_eq_some_iff, Option.bind_eq_some_iff] at h ⊢
    obtain ⟨y, ⟨z, h1, h2⟩, h3⟩ := h
    exact ⟨y, ⟨z, hc _ _ _ h1, hr _ _ _ h2⟩, h3⟩
  case h_8 e a len cap hu =>
    simp only at h ⊢
    split at h
    · rename_i hcond
      rw [if_pos hcond]
      have he : ∀ (i : Nat) y, (w.cells? base (a.add (i * P.cellsOf e)) (P.cellsOf e)).bind (r e) = some y → (w'.cells? base (a.add (i * P.cellsOf e)) (P.cellsOf e)).bind (r' e) = some y := by
        intro i y hy
        simp only [Option.bind_eq_some_iff] at hy ⊢
        obtain ⟨z, h1, h2⟩ := hy
        exact ⟨z, hc _ _ _ h1, hr _ _ _ h2⟩
      simp only [Option.bind_eq_some_iff, Option.map_eq_some_iff] at h ⊢
      obtain ⟨els, h1, rest, h2, h3⟩ := h
      refine ⟨els, mapM_mono (fun i y hy => ?_) h1, rest, ?_, h3⟩
      · have := he i y (by simpa only [Option.bind_eq_some_iff] using hy)
        simpa only [Option.bind_eq_some_iff] using this
      · split at h2
        · rename_i hs
          rw [if_pos hs]
          refine mapM_mono (fun i y hy => ?_) h2
          have := he (len + i) y (by simpa only [Option.bind_eq_some_iff] using hy)
          simpa only [Option.bind_eq_some_iff] using this
        · rename_i hs
          rw [if_neg hs]; exact h2
    · simp at h
  case h_9 fs hu =>
    split at h
    · rename_i hl
      rw [if_pos hl]
      simp only [Option.map_eq_some_iff] at h ⊢
      obtain ⟨xs, h1, h2⟩ := h
      exact ⟨xs, mapM_mono (fun f y hy => hr _ _ _ hy) h1, h2⟩
    · simp at h
  case h_10 n e hu =>
    split at h
    · rename_i hl
      rw [if_pos hl]
      simp only [Option.map_eq_some_iff] at h ⊢
      obtain ⟨xs, h1, h2⟩ := h
      exact ⟨xs, mapM_mono (fun f y hy => hr _ _ _ hy) h1, h2⟩
    · simp at h
  case h_12 u v hu =>
    split at h
    · exact h
    · rename_i hn
      simp only [hn, Option.map_eq_some_iff] at h ⊢
      obtain ⟨y, h1, h2⟩ := h
      exact ⟨y, hr _ _ _ h1, h2⟩
    · simp at h
  case h_14 k e b hu =>
    cases hb : w.heap[b]? with
    | none => rw [hb] at h; simp at h
    | some o =>
      rw [hb] at h
      cases o with
      | map es cl =>
        rw [hm b es cl hb]
        simp only at h ⊢
        split at h
        · rename_i hcond
          rw [if_pos hcond]
          simp only [Option.bind_eq_some_iff] at h ⊢
          obtain ⟨entries, h1, h2⟩ := h
          refine ⟨entries, mapM_mono (fun z y hy => ?_) h1, h2⟩
          simp only [Option.bind_eq_some_iff] at hy ⊢
          obtain ⟨key, hk, hy⟩ := hy
          refine ⟨key, hk, ?_⟩
          split at hy
          · rename_i hf
            rw [if_pos hf]
            simp only [Option.map_eq_some_iff] at hy ⊢
            obtain ⟨q, h3, h4⟩ := hy
            exact ⟨q, hr _ _ _ h3, h4⟩
          · simp at hy
        · simp at h
      | _ => simp at h
  all_goals exact h
theorem trod_mono (hc : ∀ a n cs, w.cells? base a n = some cs → w'.cells? base a n = some cs) (hm : ∀ (b : Nat) (es : Array MapEntry) (cl : Nat), w.heap[b]? = some (Obj.map es cl) → w'.heap[b]? = some (Obj.map es cl)) :
    ∀ (n : Nat) (t : TypeId) (cs : List Value) (x : DataW H × List MemPlace), DataW.trod enc P w base spare held n t cs = some x → DataW.trod enc P w' base spare held n t cs = some x := by
  intro n
  induction n with
  | zero => intro t cs x h; simp [DataW.trod] at h
  | succ n ih =>
    intro t cs x h
    rw [DataW.trod_step] at h ⊢
    exact trodStep_mono ih hc hm h
theorem cells?_below (hb : Below w.heap.size w w') : ∀ a n cs, w.cells? base a n = some cs → w'.cells? base a n = some cs := by
  intro a n cs h
  unfold World.cells? at h ⊢
  split at h
  · rename_i hle
    rw [if_pos hle]
    exact mapM_mono (fun i v hv => (hb.cell (World.block_lt_of_cell? w _ hv)).trans hv) h
  · simp at h
theorem trodAll_below (hb : Below w.heap.size w w') : ∀ {ts : List TypeId} {vs : List Value} {ds : List (DataW H)} {ps : List MemPlace}, DataW.TrodAll enc P w base spare held ts vs ds ps → DataW.TrodAll enc P w' base spare held ts vs ds ps := by
  intro ts
  induction ts with
  | nil =>
    intro vs ds ps h
    cases vs <;> cases ds <;> exact h
  | cons t ts ih =>
    intro vs ds ps h
    cases vs with
    | nil => exact h
    | cons v vs =>
      cases ds with
      | nil => exact h
      | cons d ds =>
        obtain ⟨p, q, ⟨fuel, h1⟩, h2, h3⟩ := h
        refine ⟨p, q, ⟨fuel, trod_mono (cells?_below hb) (fun b es cl hh => ?_) fuel _ _ _ h1⟩, ih h2, h3⟩
        have hlt : b < w.heap.size := by
          rcases Nat.lt_or_ge b w.heap.size with hlt | hge
          · exact hlt
          · rw [Array.getElem?_eq_none hge] at hh; cases hh
        exact (hb.block b hlt).trans hh
theorem trodAll_again {T : TypeId → Prop} (K : Kids P T) (hz : ∀ t e, T t → P.underlying t = some (.slice e) → 0 < P.cellsOf e) (hb : Below w.heap.size w w') {ts : List TypeId} {vs : List Value} {ds : List (DataW H)} {ps : List MemPlace} (hT : ∀ t ∈ ts, T t)
    (h : DataW.TrodAll enc P w base (fun _ => true) true ts vs ds ps) : DataW.TrodAll enc P w' base (fun b => decide (b < w.heap.size)) true ts vs ds ps :=
  trodAll_below hb (DataW.TrodAll.respare K hz hT h (fun p hp => by simpa using h.lt p hp))
theorem trod_int1 {t : TypeId} {k : IntKind} {n : Nat} {cs : List Value} {x : DataW H × List MemPlace} (ht : P.underlying t = some (.int k)) (h : DataW.trod enc P w base spare held n t cs = some x) : ∃ m, cs = [.int k m] := by
  cases n with
  | zero => simp [DataW.trod] at h
  | succ n =>
    rw [DataW.trod_step] at h
    unfold DataW.trodStep at h
    rw [ht] at h
    split at h <;> simp_all
theorem trod_str1 {t : TypeId} {n : Nat} {cs : List Value} {x : DataW H × List MemPlace} (ht : P.underlying t = some .string) (h : DataW.trod enc P w base spare held n t cs = some x) : ∃ s, cs = [.string s] ∧ s.size ≤ maxLen := by
  cases n with
  | zero => simp [DataW.trod] at h
  | succ n =>
    rw [DataW.trod_step] at h
    unfold DataW.trodStep at h
    rw [ht] at h
    split at h <;> simp_all
end
end Go.Proofs.YtghcololkgeoeabGreat
namespace Go.Proofs.YtghcololkgeoeabGreat
open Go.ChangeShapes Go.WideShapes Go.ChangeAt Go.RowKit
set_option linter.unusedVariables false
set_option linter.unusedSimpArgs false

theorem sixS {α : Type} {l : List α} (h : l.length = 6) : ∃ a b c d e f, l = [a, b, c, d, e, f] := by
  rcases l with _ | ⟨a, _ | ⟨b, _ | ⟨c, _ | ⟨d, _ | ⟨e, _ | ⟨f, _ | ⟨g, l⟩⟩⟩⟩⟩⟩⟩
  · simp at h
  · simp at h
  · simp at h
  · simp at h
  · simp at h
  · simp at h
  · exact ⟨a, b, c, d, e, f, rfl⟩
  · simp at h
theorem kidsN : Kids Tryz.prog (· < Tryz.prog.types.size) := kids_rows (by kernel_rfl) (by kernel_rfl)
theorem fullN : ∀ t e, t < Tryz.prog.types.size → Tryz.prog.underlying t = some (.slice e) → 0 < Tryz.prog.cellsOf e := slices_full_of Tryz.prog (by kernel_rfl)
theorem sizeN : Tryz.prog.types.size = 179 := by kernel_rfl
set_option maxRecDepth 100000 in
theorem open_cfg {H : Type} {enc : TypeId × Value → H} {W : World} {sp : Nat → Bool} {hd : Bool} {base0 base : Nat} {r : Reach} {v : Value} {d : DataW H} {p : List MemPlace} (hval : Value.okWide Tryz.prog W r base0 27 v)
    (h : DataW.Trod enc Tryz.prog W base sp hd 27 v d p) : ∃ c : Cfg, v = c.agg ∧ c.pat.size ≤ maxLen := by
  obtain ⟨cs, rfl, hsz⟩ := okWide_struct Tryz.underlying27 hval
  obtain ⟨fuel, h⟩ := h
  obtain ⟨xs, n, rfl, hx, hlen, hxl, hf⟩ := DataW.trod_struct Tryz.underlying27 h
  have hc6 : Tryz.prog.cellsOf 27 = 6 := by kernel_rfl
  have hci : Tryz.prog.cellsOf 3 = 1 := by kernel_rfl
  have hcs : Tryz.prog.cellsOf 9 = 1 := by kernel_rfl
  have hl6 : cs.toList.length = 6 := by simpa [hc6] using hsz
  obtain ⟨v0, v1, v2, v3, v4, v5, hcl⟩ := sixS hl6
  have hcells : (Value.agg cs).cells.toList = [v0, v1, v2, v3, v4, v5] := by rw [← hcl]; rfl
  rw [hcells] at hf
  have key : ∀ i (f : Field), _ → _ := fun i f => hf i f
  have hxs : ∀ i, i < 6 → ∃ y, xs[i]? = some y := by
    intro i hi
    have : i < xs.length := by rw [hxl]; exact hi
    exact ⟨xs[i], List.getElem?_eq_getElem this⟩
  obtain ⟨y0, h0⟩ := hxs 0 (by omega)
  obtain ⟨y1, h1⟩ := hxs 1 (by omega)
  obtain ⟨y2, h2⟩ := hxs 2 (by omega)
  obtain ⟨y3, h3⟩ := hxs 3 (by omega)
  obtain ⟨y4, h4⟩ := hxs 4 (by omega)
  obtain ⟨y5, h5⟩ := hxs 5 (by omega)
  have k0 := hf 0 _ rfl
  have k1 := hf 1 _ rfl
  have k2 := hf 2 _ rfl
  have k3 := hf 3 _ rfl
  have k4 := hf 4 _ rfl
  have k5 := hf 5 _ rfl
  rw [h0] at k0
  rw [h1] at k1
  rw [h2] at k2
  rw [h3] at k3
  rw [h4] at k4
  rw [h5] at k5
  simp only [List.getElem_toArray, List.getElem_cons_zero, List.getElem_cons_succ, hci, hcs, List.drop_zero, List.drop_succ_cons, List.take_succ_cons, List.take_zero] at k0 k1 k2 k3 k4 k5
  obtain ⟨m0, e0⟩ := trod_int1 Tryz.underlying3 k0
  obtain ⟨m1, e1⟩ := trod_int1 Tryz.underlying3 k1
  obtain ⟨m2, e2⟩ := trod_int1 Tryz.underlying3 k2
  obtain ⟨m3, e3⟩ := trod_int1 Tryz.underlying3 k3
  obtain ⟨m4, e4⟩ := trod_int1 Tryz.underlying3 k4
  obtain ⟨s, e5, hs⟩ := trod_str1 Tryz.underlying9 k5
  simp only [List.cons.injEq, and_true] at e0 e1 e2 e3 e4 e5
  subst e0 e1 e2 e3 e4 e5
  refine ⟨⟨m0, m1, m2, m3, m4, s⟩, ?_, hs⟩
  unfold Cfg.agg
  congr 1
  apply Array.toList_inj.1
  rw [hcl]
theorem ownS : ownKnob Tryz.prog.godebug = none := by kernel_rfl
theorem eight {α : Type} {l : List α} (h : l.length = 8) : ∃ a b c d e f g k, l = [a, b, c, d, e, f, g, k] := by
  rcases l with _ | ⟨a, _ | ⟨b, _ | ⟨c, _ | ⟨d, _ | ⟨e, _ | ⟨f, _ | ⟨g, _ | ⟨k, _ | ⟨m, l⟩⟩⟩⟩⟩⟩⟩⟩⟩
  · simp at h
  · simp at h
  · simp at h
  · simp at h
  · simp at h
  · simp at h
  · simp at h
  · simp at h
  · exact ⟨a, b, c, d, e, f, g, k, rfl⟩
  · simp at h
theorem five {α : Type} {l : List α} (h : l.length = 5) : ∃ a b c d e, l = [a, b, c, d, e] := by
  rcases l with _ | ⟨a, _ | ⟨b, _ | ⟨c, _ | ⟨d, _ | ⟨e, _ | ⟨f, l⟩⟩⟩⟩⟩⟩
  · simp at h
  · simp at h
  · simp at h
  · simp at h
  · simp at h
  · exact ⟨a, b, c, d, e, rfl⟩
  · simp at h
section
variable {H : Type} {enc : TypeId × Value → H} {W : World} {sp : Nat → Bool} {hd : Bool} {base : Nat}
set_option maxRecDepth 100000 in
theorem open_ev {n : Nat} {cs : List Value} {x : DataW H × List MemPlace} (h : DataW.trod enc Tryz.prog W base sp hd n 30 cs = some x) : ∃ E : Ev, cs = E.vals := by
  obtain ⟨xs, n, rfl, hx, hlen, hxl, hf⟩ := DataW.trod_struct Tryz.underlying30 h
  have hc5 : Tryz.prog.cellsOf 30 = 5 := by kernel_rfl
  have hci : Tryz.prog.cellsOf 3 = 1 := by kernel_rfl
  obtain ⟨v0, v1, v2, v3, v4, rfl⟩ := five (hlen.trans hc5)
  have hxs : ∀ i, i < 5 → ∃ y, xs[i]? = some y := by
    intro i hi
    have : i < xs.length := by rw [hxl]; exact hi
    exact ⟨xs[i], List.getElem?_eq_getElem this⟩
  obtain ⟨y0, h0⟩ := hxs 0 (by omega)
  obtain ⟨y1, h1⟩ := hxs 1 (by omega)
  obtain ⟨y2, h2⟩ := hxs 2 (by omega)
  obtain ⟨y3, h3⟩ := hxs 3 (by omega)
  obtain ⟨y4, h4⟩ := hxs 4 (by omega)
  have k0 := hf 0 _ rfl
  have k1 := hf 1 _ rfl
  have k2 := hf 2 _ rfl
  have k3 := hf 3 _ rfl
  have k4 := hf 4 _ rfl
  rw [h0] at k0
  rw [h1] at k1
  rw [h2] at k2
  rw [h3] at k3
  rw [h4] at k4
  simp only [List.getElem_toArray, List.getElem_cons_zero, List.getElem_cons_succ, hci, List.drop_zero, List.drop_succ_cons, List.take_succ_cons, List.take_zero] at k0 k1 k2 k3 k4
  obtain ⟨m0, e0⟩ := trod_int1 Tryz.underlying3 k0
  obtain ⟨m1, e1⟩ := trod_int1 Tryz.underlying3 k1
  obtain ⟨m2, e2⟩ := trod_int1 Tryz.underlying3 k2
  obtain ⟨m3, e3⟩ := trod_int1 Tryz.underlying3 k3
  obtain ⟨m4, e4⟩ := trod_int1 Tryz.underlying3 k4
  simp only [List.cons.injEq, and_true] at e0 e1 e2 e3 e4
  subst e0 e1 e2 e3 e4
  exact ⟨⟨m0, m1, m2, m3, m4⟩, rfl⟩
set_option maxRecDepth 100000 in
theorem open_op {n : Nat} {cs : List Value} {x : DataW H × List MemPlace} (h : DataW.trod enc Tryz.prog W base sp hd n 32 cs = some x) : ∃ O : OpR, cs = O.cells := by
  obtain ⟨xs, n, rfl, hx, hlen, hxl, hf⟩ := DataW.trod_struct Tryz.underlying32 h
  have hc8 : Tryz.prog.cellsOf 32 = 8 := by kernel_rfl
  have hci : Tryz.prog.cellsOf 3 = 1 := by kernel_rfl
  have hcs : Tryz.prog.cellsOf 9 = 1 := by kernel_rfl
  have hce : Tryz.prog.cellsOf 30 = 5 := by kernel_rfl
  obtain ⟨v0, v1, v2, v3, v4, v5, v6, v7, rfl⟩ := eight (hlen.trans hc8)
  have hxs : ∀ i, i < 4 → ∃ y, xs[i]? = some y := by
    intro i hi
    have : i < xs.length := by rw [hxl]; exact hi
    exact ⟨xs[i], List.getElem?_eq_getElem this⟩
  obtain ⟨y0, h0⟩ := hxs 0 (by omega)
  obtain ⟨y1, h1⟩ := hxs 1 (by omega)
  obtain ⟨y2, h2⟩ := hxs 2 (by omega)
  obtain ⟨y3, h3⟩ := hxs 3 (by omega)
  have k0 := hf 0 _ rfl
  have k1 := hf 1 _ rfl
  have k2 := hf 2 _ rfl
  have k3 := hf 3 _ rfl
  rw [h0] at k0
  rw [h1] at k1
  rw [h2] at k2
  rw [h3] at k3
  simp only [List.getElem_toArray, List.getElem_cons_zero, List.getElem_cons_succ, hci, hcs, hce, List.drop_zero, List.drop_succ_cons, List.take_succ_cons, List.take_zero] at k0 k1 k2 k3
  obtain ⟨m0, e0⟩ := trod_int1 Tryz.underlying3 k0
  obtain ⟨m1, e1⟩ := trod_int1 Tryz.underlying3 k1
  obtain ⟨E, e2⟩ := open_ev k2
  obtain ⟨s, e3, hs⟩ := trod_str1 Tryz.underlying9 k3
  simp only [Ev.vals, List.cons.injEq, and_true] at e0 e1 e2 e3
  obtain ⟨a0, a1, a2, a3, a4⟩ := e2
  subst e0 e1 e3 a0 a1 a2 a3 a4
  exact ⟨⟨m0, m1, E, s⟩, rfl⟩
set_option maxRecDepth 100000 in
theorem open_script {base0 : Nat} {r : Reach} {v : Value} {d : DataW H} {p : List MemPlace} (hval : Value.okWide Tryz.prog W r base0 34 v) (h : DataW.Trod enc Tryz.prog W base sp hd 34 v d p)
    (B : Nat) (hsz : ∀ elems spare, d = .slice elems spare → elems.length + spare.length ≤ B) : ∃ (sa : Option Addr) (sc : Nat) (ops : List OpR), v = .slice sa ops.length sc ∧ Script W sa ops ∧ ops.length ≤ B := by
  have hc8 : Tryz.prog.cellsOf 32 = 8 := by kernel_rfl
  obtain ⟨va, vlen, vcap, rfl⟩ := okWide_slice Tryz.underlying34 hval
  obtain ⟨fuel, h⟩ := h
  have hcl : (Value.slice va vlen vcap).cells.toList = [.slice va vlen vcap] := rfl
  rw [hcl] at h
  rcases Go.Deep.open_slice Tryz.underlying34 h with ⟨e, _⟩ | ⟨a, len, cap, m, n, D, Pl, e, hb, hl, hm, hmm, hx, hel⟩
  · simp only [List.cons.injEq, Value.slice.injEq, and_true] at e
    obtain ⟨rfl, rfl, rfl⟩ := e
    exact ⟨none, 0, [], rfl, fun i hi => absurd hi (by simp), by simp⟩
  · simp only [List.cons.injEq, Value.slice.injEq, and_true] at e
    obtain ⟨rfl, rfl, rfl⟩ := e
    have hlm : vlen ≤ m := by rw [hmm]; split <;> omega
    have hlen : vlen ≤ B := by
      have h1 := hsz _ _ (congrArg Prod.fst hx)
      simp only [List.length_map, List.length_range] at h1
      omega
    have hop : ∀ i, ∃ O : OpR, i < vlen → W.cells? base (a.add (i * 8)) 8 = some O.cells := by
      intro i
      by_cases hi : i < vlen
      · obtain ⟨cs', h1, h2⟩ := hel i (by omega)
        obtain ⟨O, hO⟩ := open_op h2
        rw [hc8, hO] at h1
        exact ⟨O, fun _ => h1⟩
      · exact ⟨⟨0, 0, ⟨0, 0, 0, 0, 0⟩, ByteArray.empty⟩, fun h => absurd h hi⟩
    let f : Nat → OpR := fun i => Classical.choose (hop i)
    have hf : ∀ i, i < vlen → W.cells? base (a.add (i * 8)) 8 = some (f i).cells := fun i hi => Classical.choose_spec (hop i) hi
    refine ⟨some a, vcap, (List.range vlen).map f, by simp, ?_, by simpa using hlen⟩
    intro i hi
    have hi' : i < vlen := by simpa using hi
    have h0 := (World.cells?_some (hf 0 (by omega))).2.2 0 (by omega)
    have hs0 : a.spot = none := by
      have h00 : (f 0).cells[0]? = some (.int .i64 (f 0).k) := rfl
      rw [h00] at h0
      have := World.cell?_spot h0
      simpa [Addr.add] using this
    obtain ⟨ab, ao, asp⟩ := a
    simp only at hs0
    subst hs0
    refine ⟨ab, ao, rfl, fun o ho => ?_⟩
    have h1 := (World.cells?_some (hf i hi')).2.2 o (by omega)
    have e1 : ((⟨ab, ao, none⟩ : Addr).add (i * 8)).add o = ⟨ab, ao + i * 8 + o, none⟩ := by
      rw [Go.WideShapes.add_plain, Go.WideShapes.add_plain]
    rw [e1] at h1
    rw [h1]
    simp
end
end Go.Proofs.YtghcololkgeoeabGreat
