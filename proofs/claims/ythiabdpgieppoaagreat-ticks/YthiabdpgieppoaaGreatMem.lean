import Derived.Test.YthiabdpgieppoaaGreatPatF
namespace Go.Proofs.YthiabdpgieppoaaGreat
open Go.RowKit
set_option linter.unusedVariables false
set_option linter.unusedSimpArgs false

/-! ### what a call leaves as it was -/
/-- All blocks but those of S are as they were; the streams are as they were. -/
structure Kept (S : Nat → Prop) (w w' : World) : Prop where
  os : w'.os = w.os
  tape : w'.tape = w.tape
  output : w'.output = w.output
  size : w.heap.size ≤ w'.heap.size
  block : ∀ k, k < w.heap.size → ¬ S k → w'.heap[k]? = w.heap[k]?

theorem Kept.refl (S : Nat → Prop) (w : World) : Kept S w w := ⟨rfl, rfl, rfl, Nat.le_refl _, fun _ _ _ => rfl⟩
theorem Kept.trans' {S S' : Nat → Prop} {a b c : World} (h : Kept S a b) (k : Kept S' b c) (hs : ∀ i, i < a.heap.size → S' i → S i) : Kept S a c :=
  ⟨k.os.trans h.os, k.tape.trans h.tape, k.output.trans h.output, Nat.le_trans h.size k.size,
    fun i hi hn => (k.block i (Nat.lt_of_lt_of_le hi h.size) (fun e => hn (hs i hi e))).trans (h.block i hi hn)⟩
theorem Kept.trans {S : Nat → Prop} {a b c : World} (h : Kept S a b) (k : Kept S b c) : Kept S a c := h.trans' k (fun _ _ e => e)
theorem Kept.mono {S S' : Nat → Prop} {a b : World} (h : Kept S a b) (hs : ∀ i, i < a.heap.size → S i → S' i) : Kept S' a b :=
  ⟨h.os, h.tape, h.output, h.size, fun i hi hn => h.block i hi (fun e => hn (hs i hi e))⟩
theorem Kept.drew {S : Nat → Prop} {a w : World} (h : Kept S a w) : Kept S a w.drew := ⟨h.os, h.tape, h.output, h.size, h.block⟩
theorem Kept.alloc {S : Nat → Prop} {a w : World} (h : Kept S a w) (o : Obj) : Kept S a (w.alloc o) :=
  h.trans ⟨rfl, rfl, rfl, by simp, fun k hk _ => Below.heap_alloc _ _ _ (by omega)⟩
theorem Kept.setCell {S : Nat → Prop} {a w : World} (h : Kept S a w) {b o : Nat} (hp : b < a.heap.size → S b) (u : Value) : Kept S a (w.setCell ⟨b, o, none⟩ u) :=
  h.trans' (S' := fun k => k = b) ⟨rfl, rfl, rfl, by simp [World.setCell], fun k hk hn => Below.heap_setCell _ _ _ _ hn⟩ (fun i hi e => by subst e; exact hp hi)
theorem Kept.grown {S : Nat → Prop} {a w w' : World} {row : Option Nat} (h : Kept S a w) (hg : w.grownBy w' row) (hr : ∀ k, k < a.heap.size → row = some k → S k) : Kept S a w' :=
  h.trans' (S' := fun k => row = some k) ⟨hg.os, hg.tape, hg.output, hg.size, fun k hk hn => hg.block k hk (fun e => hn e.symm)⟩ (fun i hi e => hr i hi e)
theorem Kept.below {S : Nat → Prop} {a w w' : World} (h : Kept S a w) (hb : Below w.heap.size w w') : Kept S a w' :=
  h.trans' (S' := fun _ => False) ⟨hb.os, hb.tape, hb.output, hb.size, fun k hk _ => hb.block k hk⟩ (fun _ _ e => e.elim)
theorem below_kept {w w' : World} (hb : Below w.heap.size w w') (S : Nat → Prop) : Kept S w w' := (Kept.refl S w).below hb
theorem Kept.toBelow {w w' : World} (h : Kept (fun _ => False) w w') : Below w.heap.size w w' := ⟨h.os, h.tape, h.output, h.size, fun k hk => h.block k hk id⟩

theorem Blk.kept {S : Nat → Prop} {w w' : World} {b : Nat} {t : TypeId} {l : List Value} (h : Blk w b t l) (hk : Kept S w w') (hn : ¬ S b) : Blk w' b t l := by
  have hlt := h.lt
  unfold Blk at *
  rw [hk.block b hlt hn]; exact h

/-- Rows of cells: the kit's 'ownsRow', from block 0 on. -/
abbrev Row (w : World) (t : TypeId) (sz : Nat) (a : Option Addr) (n c : Nat) (xs : List Value) : Prop := w.ownsRow 0 t sz (.slice a n c) n xs
/-- the block of a slice's row -/
def bk (a : Option Addr) : Option Nat := a.map (·.block)
theorem bk_own (a : Option Addr) (n c : Nat) : (Value.slice a n c).ownBlock = bk a := by cases a <;> rfl
theorem Row.lt {w : World} {t : TypeId} {sz : Nat} {a : Option Addr} {n c : Nat} {xs : List Value} (h : Row w t sz a n c xs) {k : Nat} (hk : bk a = some k) : k < w.heap.size := (World.ownsRow.lt h k (by rw [bk_own]; exact hk)).2
theorem Row.kept {S : Nat → Prop} {w w' : World} {t : TypeId} {sz : Nat} {a : Option Addr} {n c : Nat} {xs : List Value} (h : Row w t sz a n c xs) (hk : Kept S w w') (hn : ∀ k, bk a = some k → ¬ S k) : Row w' t sz a n c xs := by
  have hlt : ∀ k, bk a = some k → k < w.heap.size := fun k e => h.lt e
  obtain ⟨h1, h2⟩ := h
  refine ⟨h1, ?_⟩
  rcases h2 with h2 | ⟨g, cap, cur, hv, hg, hh, r⟩
  · exact Or.inl h2
  · have e : bk a = some g := by cases hv; rfl
    exact Or.inr ⟨g, cap, cur, hv, hg, by rw [hk.block g (hlt g e) (hn g e)]; exact hh, r⟩
theorem Row.drew {w : World} {t : TypeId} {sz : Nat} {a : Option Addr} {n c : Nat} {xs : List Value} (h : Row w t sz a n c xs) : Row w.drew t sz a n c xs := h
theorem Row.nil (w : World) (t : TypeId) (sz : Nat) : Row w t sz none 0 0 [] := World.ownsRow_nil w 0 t sz
/-- what a row that holds something looks like -/
theorem Row.form {w : World} {t : TypeId} {sz : Nat} {a : Option Addr} {n c : Nat} {xs : List Value} (h : Row w t sz a n c xs) (hn : 0 < n) : ∃ g, a = some ⟨g, 0, none⟩ ∧ n ≤ c ∧ c ≤ maxLen ∧ (∀ j, j < n * sz → w.cell? ⟨g, j, none⟩ = xs[j]?) ∧ (∀ j, w.frozen? ⟨g, j, none⟩ = false) := by
  rcases h.2 with ⟨_, h0⟩ | ⟨g, cap, cur, hv, hb, hg, hnc, hcm, _⟩
  · omega
  · simp only [Value.slice.injEq, true_and] at hv
    obtain ⟨rfl, rfl⟩ := hv
    exact ⟨g, rfl, hnc, hcm, fun j hj => World.ownsRow.cellAt h j hj, fun j => World.ownsRow.frozenAt h j⟩
theorem Row.len {w : World} {t : TypeId} {sz : Nat} {a : Option Addr} {n c : Nat} {xs : List Value} (h : Row w t sz a n c xs) : n ≤ maxLen := by
  rcases h.2 with ⟨_, h0⟩ | ⟨g, cap, cur, hv, hb, hg, hnc, hcm, _⟩
  · simp [h0]
  · omega
/-- a store into a row -/
theorem Row.set {w : World} {t : TypeId} {sz g n c : Nat} {xs : List Value} (h : Row w t sz (some ⟨g, 0, none⟩) n c xs) (j : Nat) (u : Value) : Row (w.setCell ⟨g, j, none⟩ u) t sz (some ⟨g, 0, none⟩) n c (xs.set j u) := (World.ownsRow.stored h j u).1
theorem Row.other {w : World} {t : TypeId} {sz n c : Nat} {a : Option Addr} {xs : List Value} (h : Row w t sz a n c xs) {b o : Nat} (hn : bk a ≠ some b) (u : Value) : Row (w.setCell ⟨b, o, none⟩ u) t sz a n c xs :=
  h.kept ((Kept.refl (fun k => k = b) w).setCell (fun _ => rfl) u) (fun k e f => hn (by rw [e, f]))

/-! ### rows of records -/
theorem flatMap_len {α : Type} (f : α → List Value) (sz : Nat) (hf : ∀ a, (f a).length = sz) (l : List α) : (l.flatMap f).length = l.length * sz := by
  induction l with
  | nil => simp
  | cons a l ih => simp [List.flatMap_cons, ih, hf, Nat.add_mul, Nat.add_comm]
theorem flatMap_get {α : Type} (f : α → List Value) (sz : Nat) (hf : ∀ a, (f a).length = sz) (l : List α) : ∀ (i o : Nat) (_ : o < sz) (hi : i < l.length), (l.flatMap f)[i * sz + o]? = (f l[i])[o]? := by
  induction l with
  | nil => intro i o _ hi; simp at hi
  | cons a l ih =>
    intro i o ho hi
    cases i with
    | zero => simp only [List.flatMap_cons, Nat.zero_mul, Nat.zero_add, List.getElem_cons_zero]; rw [List.getElem?_append_left (by rw [hf]; exact ho)]
    | succ i =>
      simp only [List.flatMap_cons, List.getElem_cons_succ]
      rw [List.getElem?_append_right (by rw [hf, Nat.add_mul]; omega), hf, show (i + 1) * sz + o - sz = i * sz + o by rw [Nat.add_mul]; omega]
      exact ih i o ho (by simpa using hi)
theorem flatMap_set {α : Type} (f : α → List Value) (sz : Nat) (hf : ∀ a, (f a).length = sz) (l : List α) : ∀ (i o : Nat) (_ : o < sz) (hi : i < l.length) (v : Value) (a' : α), f a' = (f l[i]).set o v → (l.flatMap f).set (i * sz + o) v = (l.set i a').flatMap f := by
  induction l with
  | nil => intro i o _ hi; simp at hi
  | cons a l ih =>
    intro i o ho hi v a' h
    cases i with
    | zero =>
      simp only [List.getElem_cons_zero] at h
      simp only [List.flatMap_cons, List.set_cons_zero, Nat.zero_mul, Nat.zero_add, h]
      rw [List.set_append_left _ _ (by rw [hf]; exact ho)]
    | succ i =>
      simp only [List.getElem_cons_succ] at h
      simp only [List.flatMap_cons, List.set_cons_succ]
      rw [List.set_append_right _ _ (by rw [hf, Nat.add_mul]; omega), hf, show (i + 1) * sz + o - sz = i * sz + o by rw [Nat.add_mul]; omega]
      rw [ih i o ho (by simpa using hi) v a' h]

/-- An event. -/
structure Ev where
  src : Int
  seq : Int
  ts : Int
  kind : Int
  val : Int
def Ev.vals (e : Ev) : List Value := [.int .i64 e.src, .int .i64 e.seq, .int .i64 e.ts, .int .i64 e.kind, .int .i64 e.val]
theorem Ev.len (e : Ev) : e.vals.length = 5 := rfl
abbrev evs (l : List Ev) : List Value := l.flatMap Ev.vals

/-! ### pairwise different blocks -/
def PD (L : List (Option Nat)) : Prop := ∀ i j k : Nat, L[i]? = some (some k) → L[j]? = some (some k) → i = j
theorem PD.ne {L : List (Option Nat)} (h : PD L) {i j k : Nat} {o : Option Nat} (hi : L[i]? = some (some k)) (hj : L[j]? = some o) (hne : i ≠ j) : o ≠ some k := fun e => hne (h i j k hi (by rw [hj, e]))
theorem PD.set {L : List (Option Nat)} (h : PD L) {H i : Nat} {x : Option Nat} (hlt : ∀ k, some k ∈ L → k < H) (hx : L[i]? = some x ∨ ∃ k, x = some k ∧ H ≤ k) : PD (L.set i x) := by
  intro a b k ha hb
  rw [List.getElem?_set] at ha hb
  rcases hx with hx | ⟨m, rfl, hm⟩
  · have hh : ∀ c, (if i = c then if i < L.length then some x else none else L[c]?) = L[c]? := fun c => by
      split
      · rename_i e; subst e; rw [hx]; simp; rw [List.getElem?_eq_some_iff] at hx; exact hx.1
      · rfl
    rw [hh] at ha hb
    exact h a b k ha hb
  · by_cases e1 : i = a <;> by_cases e2 : i = b
    · omega
    · rw [if_neg e2] at hb
      rw [if_pos e1] at ha
      split at ha
      · simp only [Option.some.injEq] at ha
        have := hlt k (List.mem_of_getElem? hb)
        omega
      · simp at ha
    · rw [if_neg e1] at ha
      rw [if_pos e2] at hb
      split at hb
      · simp only [Option.some.injEq] at hb
        have := hlt k (List.mem_of_getElem? ha)
        omega
      · simp at hb
    · rw [if_neg e1] at ha
      rw [if_neg e2] at hb
      exact h a b k ha hb
end Go.Proofs.YthiabdpgieppoaaGreat
