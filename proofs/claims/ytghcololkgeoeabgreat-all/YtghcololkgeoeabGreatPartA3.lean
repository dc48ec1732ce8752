import Derived.Test.YtghcololkgeoeabGreatPartA2
import Derived.Test.YtghcololkgeoeabGreatPartA1
namespace Go.Proofs.YtghcololkgeoeabGreat
open Go.RowKit
open Classical
set_option linter.unusedVariables false
set_option linter.unusedSimpArgs false

def wayB : List ByteArray := [⟨#[]⟩, ⟨#[48]⟩, ⟨#[64, 48]⟩, ⟨#[65, 64, 48]⟩, ⟨#[65, 65, 64, 48]⟩]
theorem goesP_iff (l : List UInt8) : goesP l ↔ ∃ j, j < 5 ∧ wholeP (l ++ (ways.getD j [])) := by
  unfold goesP ways
  constructor
  · rintro ⟨x, hx, h⟩
    simp at hx
    rcases hx with rfl | rfl | rfl | rfl | rfl
    · exact ⟨0, by omega, h⟩
    · exact ⟨1, by omega, h⟩
    · exact ⟨2, by omega, h⟩
    · exact ⟨3, by omega, h⟩
    · exact ⟨4, by omega, h⟩
  · rintro ⟨j, hj, h⟩
    have : j = 0 ∨ j = 1 ∨ j = 2 ∨ j = 3 ∨ j = 4 := by omega
    rcases this with rfl | rfl | rfl | rfl | rfl
    all_goals exact ⟨_, by simp, h⟩


theorem append_toList (a b : ByteArray) : (a ++ b).data.toList = a.data.toList ++ b.data.toList := by
  have : (a ++ b).data = a.data ++ b.data := by simp
  rw [this]; simp

def wayV : List Value := wayB.map Value.string
set_option maxRecDepth 100000 in
set_option maxHeartbeats 2000000 in
theorem goes_any (s : ByteArray) (w : World) (hs : s.size ≤ 60) :
    Calls Tryz.prog 77 #[.string s] w fun e w' => e = .returned (.bool (decide (goesP s.data.toList))) ∧ Below w.heap.size w w' := by
  go_enter Tryz.func77, Tryz.ntmps77
  go_wp2
  go_loopw [4] (fun i wr => ∃ j : Nat, i = .int .i64 j ∧ j ≤ 5 ∧ Hid (∀ i, i < j → ¬ wholeP (s.data.toList ++ ways.getD i [])) ∧ Blk wr w.heap.size 9 wayV ∧ Below w.heap.size w wr) (fun i _ => 5 - (intOf i).toNat)
  case atStart => exact ⟨0, rfl, by omega, fun i hi => by omega, blk_alloc _ _ _, (Below.refl _ _).alloc (Nat.le_refl _) _⟩
  case round =>
    obtain ⟨j, rfl, hj, HN, hblk, hbel⟩ := hrel
    have hsz := hblk.lt
    by_cases hlt : j < 5
    · have hcell := hblk.cell j
      have hx : ∃ x : ByteArray, wayV[j]? = some (.string x) ∧ x.data.toList = ways.getD j [] ∧ x.size ≤ 4 := by
        have : j = 0 ∨ j = 1 ∨ j = 2 ∨ j = 3 ∨ j = 4 := by omega
        rcases this with rfl | rfl | rfl | rfl | rfl <;> exact ⟨_, rfl, rfl, by decide⟩
      obtain ⟨x, hx1, hx2, hx3⟩ := hx
      rw [hx1] at hcell
      have HX : Hid ((s ++ x).data.toList = s.data.toList ++ ways.getD j []) := by show _ = _; rw [append_toList, hx2]
      have hxs : (s ++ x).size ≤ 100 := by
        have : (s ++ x).size = s.size + x.size := by simp
        omega
      clear hx1 hx2
      have hlt' : (j : Int) < 5 := by omega
      have hj0 : (0 : Int) ≤ (j : Int) := by omega
      by_cases hw : wholeP (s.data.toList ++ ways.getD j [])
      · have HW : Hid (decide (wholeP (s ++ x).data.toList) = true) := by show _ = _; rw [HX.out]; simpa using hw
        clear hw
        go_wp2_with (go_at_call 38; refine (whole_any _ _ hxs).mono ?_; rintro e w' ⟨a, n, c, o, win, rfl, hb', _⟩; rw [HW.out])
        go_ret
        refine ⟨?_, (hbel.trans (hb'.mono (by omega))).alloc (by have := hb'.size; omega) _⟩
        have hg : goesP s.data.toList := (goesP_iff _).2 ⟨j, hlt, by have := HW.out; rw [HX.out] at this; simpa using this⟩
        simp [hg]
      · have HW : Hid (decide (wholeP (s ++ x).data.toList) = false) := by show _ = _; rw [HX.out]; simpa using hw
        have HN' : Hid (∀ i, i < j + 1 → ¬ wholeP (s.data.toList ++ ways.getD i [])) := fun i hi => by
          by_cases h : i < j
          · exact HN.out i h
          · obtain rfl : i = j := by omega
            exact hw
        clear hw
        go_wp2_with (go_at_call 38; refine (whole_any _ _ hxs).mono ?_; rintro e w' ⟨a, n, c, o, win, rfl, hb', _⟩; rw [HW.out])
        go_roundw
        case rel => exact ⟨j + 1, by go_num, by omega, HN', (hblk.below hb' hblk.lt).alloc _, (hbel.trans (hb'.mono (by omega))).alloc (by have := hb'.size; omega) _⟩
        case measure => simp [intOf]; omega
    · go_wp2
      go_ret
      refine ⟨?_, hbel⟩
      have hg : ¬ goesP s.data.toList := fun h => by
        obtain ⟨i, hi, hw⟩ := (goesP_iff _).1 h
        exact HN.out i (by omega) hw
      simp [hg]

set_option maxHeartbeats 2000000 in
theorem rcheck_any (s : ByteArray) (w : World) (hs : s.size ≤ maxLen) :
    Calls Tryz.prog 37 #[.string s] w fun e w' => ∃ x y : Int, e = .returned (.tuple #[.int .i64 x, .int .i64 y]) ∧ CheckIs wholeP goesP s.data.toList x y ∧ Below w.heap.size w w' := by
  unfold maxLen at hs
  by_cases h60 : 60 < s.size
  · go_enter Tryz.func37, Tryz.ntmps37
    go_wp2
    go_ret2
    exact ⟨9, 0, rfl, Or.inl ⟨by simpa using h60, rfl, rfl⟩, Below.refl _ _⟩
  · by_cases hw : wholeP s.data.toList
    · have HW : Hid (decide (wholeP s.data.toList) = true) := by show _ = _; simpa using hw
      clear hw
      go_enter Tryz.func37, Tryz.ntmps37
      go_wp2_with (go_at_call 38; refine (whole_any _ _ (by omega)).mono ?_; rintro e w' ⟨a, n, c, o, win, rfl, hb', _⟩; rw [HW.out])
      go_ret2
      exact ⟨0, 0, rfl, Or.inr (Or.inl ⟨by simpa using h60, by simpa using HW.out, rfl, rfl⟩), hb'.alloc hb'.size _⟩
    · have HW : Hid (decide (wholeP s.data.toList) = false) := by show _ = _; simpa using hw
      clear hw
      go_enter Tryz.func37, Tryz.ntmps37
      go_wp2_with (go_at_call 38; refine (whole_any _ _ (by omega)).mono ?_; rintro e w' ⟨a, n, c, o, win, rfl, hb', _⟩; rw [HW.out])
      go_loopw [6] (fun i wr => ∃ j : Nat, i = .int .i64 j ∧ j ≤ s.size ∧ Hid (∀ i, i < j → goesP (s.data.toList.take (i + 1))) ∧ Below w.heap.size w wr) (fun i _ => s.size - (intOf i).toNat)
      case atStart => exact ⟨0, rfl, by omega, fun i hi => by omega, hb'.alloc hb'.size _⟩
      case round =>
        obtain ⟨j, rfl, hj, HN, hbel⟩ := hrel
        by_cases hlt : j < s.size
        · have hlt' : (j : Int) < (s.size : Int) := by omega
          have HX : Hid ((s.extract 0 (j + 1)).data.toList = s.data.toList.take (j + 1)) := by show _ = _; rw [Lib.extract_data]; simp
          have hxs : (s.extract 0 (j + 1)).size ≤ 60 := by simp; omega
          by_cases hg : goesP (s.data.toList.take (j + 1))
          · have HG : Hid (decide (goesP (s.extract 0 (j + 1)).data.toList) = true) := by show _ = _; rw [decide_eq_true_eq, HX.out]; exact hg
            have HN' : Hid (∀ i, i < j + 1 → goesP (s.data.toList.take (i + 1))) := fun i hi => by
              by_cases h : i < j
              · exact HN.out i h
              · obtain rfl : i = j := by omega
                exact hg
            clear hg
            go_wp2_with (go_at_call 77; refine (goes_any _ _ hxs).mono ?_; rintro e w' ⟨rfl, hb2⟩; rw [HG.out])
            go_roundw
            case rel => exact ⟨j + 1, by go_num, by omega, HN', hbel.trans (hb2.mono hbel.size)⟩
            case measure => simp [intOf]; omega
          · have HG : Hid (decide (goesP (s.extract 0 (j + 1)).data.toList) = false) := by show _ = _; rw [decide_eq_false_iff_not, HX.out]; exact hg
            have HGn : Hid (¬ goesP (s.data.toList.take (j + 1))) := hg
            clear hg
            go_wp2_with (go_at_call 77; refine (goes_any _ _ hxs).mono ?_; rintro e w' ⟨rfl, hb2⟩; rw [HG.out])
            go_ret2
            exact ⟨2, j, rfl, Or.inr (Or.inr ⟨by simpa using h60, by simpa using HW.out, rfl, j, rfl, by simpa using hj, HN.out, fun _ => HGn.out⟩), hbel.trans (hb2.mono hbel.size)⟩
        · go_wp2
          go_ret2
          obtain rfl : j = s.size := by omega
          exact ⟨2, s.size, rfl, Or.inr (Or.inr ⟨by simpa using h60, by simpa using HW.out, rfl, s.size, rfl, by simp, HN.out, fun h => absurd h (by simp)⟩), hbel⟩

set_option maxHeartbeats 400000 in
theorem num_any (n : Int) (w : World) : Calls Tryz.prog 12 #[.int .i64 n] w fun e w' => e = .returned (.int .i64 n) ∧ w = w' := by
  go_enter Tryz.func12, Tryz.ntmps12
  go_wp2
  go_ret
  exact ⟨rfl, rfl⟩
end Go.Proofs.YtghcololkgeoeabGreat
namespace Go.Proofs.YtghcololkgeoeabGreat
open Go.RowKit
set_option linter.unusedVariables false
set_option linter.unusedSimpArgs false

structure Kept (S : Nat → Prop) (w w' : World) : Prop where
  os : w'.os = w.os
  tape : w'.tape = w.tape
  output : w'.output = w.output
  size : w.heap.size ≤ w'.heap.size
  block : ∀ k, k < w.heap.size → ¬ S k → w'.heap[k]? = w.heap[k]?

theorem Kept.refl (S : Nat → Prop) (w : World) : Kept S w w := ⟨rfl, rfl, rfl, Nat.le_refl _, fun _ _ _ => rfl⟩
theorem Kept.trans' {S S' : Nat → Prop} {a b c : World} (h : Kept S a b) (k : Kept S' b c) (hs : ∀ i, i < a.heap.size → S' i → S i) : Kept S a c :=
  ⟨k.os.trans h.os, k.tape.trans h.tape, k.output.trans h.output, Nat.le_trans h.size k.size,
    fun i hi hn => (k.block i (Nat.lt_of_lt_of_le hi h.size) (fun e => hn (hs i hi e))).trans (h.block i hi hn)⟩
theorem Kept.trans {S : Nat → Prop} {a b c : World} (h : Kept S a b) (k : Kept S b c) : Kept S a c := h.trans' k (fun _ _ e => e)
theorem Kept.mono {S S' : Nat → Prop} {a b : World} (h : Kept S a b) (hs : ∀ i, i < a.heap.size → S i → S' i) : Kept S' a b :=
  ⟨h.os, h.tape, h.output, h.size, fun i hi hn => h.block i hi (fun e => hn (hs i hi e))⟩
theorem Kept.drew {S : Nat → Prop} {a w : World} (h : Kept S a w) : Kept S a w.drew := ⟨h.os, h.tape, h.output, h.size, h.block⟩
theorem Kept.alloc {S : Nat → Prop} {a w : World} (h : Kept S a w) (o : Obj) : Kept S a (w.alloc o) :=
  h.trans ⟨rfl, rfl, rfl, by simp, fun k hk _ => Below.heap_alloc _ _ _ (by omega)⟩
theorem Kept.setCell {S : Nat → Prop} {a w : World} (h : Kept S a w) {b o : Nat} (hp : b < a.heap.size → S b) (u : Value) : Kept S a (w.setCell ⟨b, o, none⟩ u) :=
  h.trans' (S' := fun k => k = b) ⟨rfl, rfl, rfl, by simp [World.setCell], fun k hk hn => Below.heap_setCell _ _ _ _ hn⟩ (fun i hi e => by subst e; exact hp hi)
theorem Kept.grown {S : Nat → Prop} {a w w' : World} {row : Option Nat} (h : Kept S a w) (hg : w.grownBy w' row) (hr : ∀ k, k < a.heap.size → row = some k → S k) : Kept S a w' :=
  h.trans' (S' := fun k => row = some k) ⟨hg.os, hg.tape, hg.output, hg.size, fun k hk hn => hg.block k hk (fun e => hn e.symm)⟩ (fun i hi e => hr i hi e)
theorem Kept.below {S : Nat → Prop} {a w w' : World} (h : Kept S a w) (hb : Below w.heap.size w w') : Kept S a w' :=
  h.trans' (S' := fun _ => False) ⟨hb.os, hb.tape, hb.output, hb.size, fun k hk _ => hb.block k hk⟩ (fun _ _ e => e.elim)
theorem below_kept {w w' : World} (hb : Below w.heap.size w w') (S : Nat → Prop) : Kept S w w' := (Kept.refl S w).below hb
theorem Blk.kept {S : Nat → Prop} {w w' : World} {b : Nat} {t : TypeId} {l : List Value} (h : Blk w b t l) (hk : Kept S w w') (hn : ¬ S b) : Blk w' b t l := by
  have hlt := h.lt
  unfold Blk at *
  rw [hk.block b hlt hn]; exact h

abbrev Row (w : World) (t : TypeId) (sz : Nat) (a : Option Addr) (n c : Nat) (xs : List Value) : Prop := w.ownsRow 0 t sz (.slice a n c) n xs
def bk (a : Option Addr) : Option Nat := a.map (·.block)
theorem bk_own (a : Option Addr) (n c : Nat) : (Value.slice a n c).ownBlock = bk a := by cases a <;> rfl
theorem Row.lt {w : World} {t : TypeId} {sz : Nat} {a : Option Addr} {n c : Nat} {xs : List Value} (h : Row w t sz a n c xs) {k : Nat} (hk : bk a = some k) : k < w.heap.size := (World.ownsRow.lt h k (by rw [bk_own]; exact hk)).2
theorem Row.kept {S : Nat → Prop} {w w' : World} {t : TypeId} {sz : Nat} {a : Option Addr} {n c : Nat} {xs : List Value} (h : Row w t sz a n c xs) (hk : Kept S w w') (hn : ∀ k, bk a = some k → ¬ S k) : Row w' t sz a n c xs := by
  have hlt : ∀ k, bk a = some k → k < w.heap.size := fun k e => h.lt e
  obtain ⟨h1, h2⟩ := h
  refine ⟨h1, ?_⟩
  rcases h2 with h2 | ⟨g, cap, cur, hv, hg, hh, r⟩
  · exact Or.inl h2
  · have e : bk a = some g := by cases hv; rfl
    exact Or.inr ⟨g, cap, cur, hv, hg, by rw [hk.block g (hlt g e) (hn g e)]; exact hh, r⟩
theorem Row.drew {w : World} {t : TypeId} {sz : Nat} {a : Option Addr} {n c : Nat} {xs : List Value} (h : Row w t sz a n c xs) : Row w.drew t sz a n c xs := h
theorem Row.nil (w : World) (t : TypeId) (sz : Nat) : Row w t sz none 0 0 [] := World.ownsRow_nil w 0 t sz
theorem Row.form {w : World} {t : TypeId} {sz : Nat} {a : Option Addr} {n c : Nat} {xs : List Value} (h : Row w t sz a n c xs) (hn : 0 < n) : ∃ g, a = some ⟨g, 0, none⟩ ∧ n ≤ c ∧ c ≤ maxLen ∧ (∀ j, j < n * sz → w.cell? ⟨g, j, none⟩ = xs[j]?) ∧ (∀ j, w.frozen? ⟨g, j, none⟩ = false) := by
  rcases h.2 with ⟨_, h0⟩ | ⟨g, cap, cur, hv, hb, hg, hnc, hcm, _⟩
  · omega
  · simp only [Value.slice.injEq, true_and] at hv
    obtain ⟨rfl, rfl⟩ := hv
    exact ⟨g, rfl, hnc, hcm, fun j hj => World.ownsRow.cellAt h j hj, fun j => World.ownsRow.frozenAt h j⟩
theorem Row.len {w : World} {t : TypeId} {sz : Nat} {a : Option Addr} {n c : Nat} {xs : List Value} (h : Row w t sz a n c xs) : n ≤ maxLen := by
  rcases h.2 with ⟨_, h0⟩ | ⟨g, cap, cur, hv, hb, hg, hnc, hcm, _⟩
  · simp [h0]
  · omega
theorem Row.set {w : World} {t : TypeId} {sz g n c : Nat} {xs : List Value} (h : Row w t sz (some ⟨g, 0, none⟩) n c xs) (j : Nat) (u : Value) : Row (w.setCell ⟨g, j, none⟩ u) t sz (some ⟨g, 0, none⟩) n c (xs.set j u) := (World.ownsRow.stored h j u).1
theorem Row.other {w : World} {t : TypeId} {sz n c : Nat} {a : Option Addr} {xs : List Value} (h : Row w t sz a n c xs) {b o : Nat} (hn : bk a ≠ some b) (u : Value) : Row (w.setCell ⟨b, o, none⟩ u) t sz a n c xs :=
  h.kept ((Kept.refl (fun k => k = b) w).setCell (fun _ => rfl) u) (fun k e f => hn (by rw [e, f]))

theorem flatMap_len {α : Type} (f : α → List Value) (sz : Nat) (hf : ∀ a, (f a).length = sz) (l : List α) : (l.flatMap f).length = l.length * sz := by
  induction l with
  | nil => simp
  | cons a l ih => simp [List.flatMap_cons, ih, hf, Nat.add_mul, Nat.add_comm]
theorem flatMap_get {α : Type} (f : α → List Value) (sz : Nat) (hf : ∀ a, (f a).length = sz) (l : List α) : ∀ (i o : Nat) (_ : o < sz) (hi : i < l.length), (l.flatMap f)[i * sz + o]? = (f l[i])[o]? := by
  induction l with
  | nil => intro i o _ hi; simp at hi
  | cons a l ih =>
    intro i o ho hi
    cases i with
    | zero => simp only [List.flatMap_cons, Nat.zero_mul, Nat.zero_add, List.getElem_cons_zero]; rw [List.getElem?_append_left (by rw [hf]; exact ho)]
    | succ i =>
      simp only [List.flatMap_cons, List.getElem_cons_succ]
      rw [List.getElem?_append_right (by rw [hf, Nat.add_mul]; omega), hf, show (i + 1) * sz + o - sz = i * sz + o by rw [Nat.add_mul]; omega]
      exact ih i o ho (by simpa using hi)
theorem flatMap_set {α : Type} (f : α → List Value) (sz : Nat) (hf : ∀ a, (f a).length = sz) (l : List α) : ∀ (i o : Nat) (_ : o < sz) (hi : i < l.length) (v : Value) (a' : α), f a' = (f l[i]).set o v → (l.flatMap f).set (i * sz + o) v = (l.set i a').flatMap f := by
  induction l with
  | nil => intro i o _ hi; simp at hi
  | cons a l ih =>
    intro i o ho hi v a' h
    cases i with
    | zero =>
      simp only [List.getElem_cons_zero] at h
      simp only [List.flatMap_cons, List.set_cons_zero, Nat.zero_mul, Nat.zero_add, h]
      rw [List.set_append_left _ _ (by rw [hf]; exact ho)]
    | succ i =>
      simp only [List.getElem_cons_succ] at h
      simp only [List.flatMap_cons, List.set_cons_succ]
      rw [List.set_append_right _ _ (by rw [hf, Nat.add_mul]; omega), hf, show (i + 1) * sz + o - sz = i * sz + o by rw [Nat.add_mul]; omega]
      rw [ih i o ho (by simpa using hi) v a' h]

structure Ev where
  src : Int
  seq : Int
  ts : Int
  kind : Int
  val : Int
def Ev.vals (e : Ev) : List Value := [.int .i64 e.src, .int .i64 e.seq, .int .i64 e.ts, .int .i64 e.kind, .int .i64 e.val]
theorem Ev.len (e : Ev) : e.vals.length = 5 := rfl
abbrev evs (l : List Ev) : List Value := l.flatMap Ev.vals

def PD (L : List (Option Nat)) : Prop := ∀ i j k : Nat, L[i]? = some (some k) → L[j]? = some (some k) → i = j
theorem PD.ne {L : List (Option Nat)} (h : PD L) {i j k : Nat} {o : Option Nat} (hi : L[i]? = some (some k)) (hj : L[j]? = some o) (hne : i ≠ j) : o ≠ some k := fun e => hne (h i j k hi (by rw [hj, e]))
theorem PD.set {L : List (Option Nat)} (h : PD L) {H i : Nat} {x : Option Nat} (hlt : ∀ k, some k ∈ L → k < H) (hx : L[i]? = some x ∨ ∃ k, x = some k ∧ H ≤ k) : PD (L.set i x) := by
  intro a b k ha hb
  rw [List.getElem?_set] at ha hb
  rcases hx with hx | ⟨m, rfl, hm⟩
  · have hh : ∀ c, (if i = c then if i < L.length then some x else none else L[c]?) = L[c]? := fun c => by
      split
      · rename_i e; subst e; rw [hx]; simp; rw [List.getElem?_eq_some_iff] at hx; exact hx.1
      · rfl
    rw [hh] at ha hb
    exact h a b k ha hb
  · by_cases e1 : i = a <;> by_cases e2 : i = b
    · omega
    · rw [if_neg e2] at hb
      rw [if_pos e1] at ha
      split at ha
      · simp only [Option.some.injEq] at ha
        have := hlt k (List.mem_of_getElem? hb)
        omega
      · simp at ha
    · rw [if_neg e1] at ha
      rw [if_pos e2] at hb
      split at hb
      · simp only [Option.some.injEq] at hb
        have := hlt k (List.mem_of_getElem? ha)
        omega
      · simp at hb
    · rw [if_neg e1] at ha
      rw [if_neg e2] at hb
      exact h a b k ha hb
end Go.Proofs.YtghcololkgeoeabGreat
namespace Go.Proofs.YtghcololkgeoeabGreat
open Go.RowKit
set_option linter.unusedVariables false
set_option linter.unusedSimpArgs false

structure Cfg where
  sources : Int
  slack : Int
  policy : Int
  room : Int
  idle : Int
  pat : ByteArray
def Cfg.vals (c : Cfg) : List Value := [.int .i64 c.sources, .int .i64 c.slack, .int .i64 c.policy, .int .i64 c.room, .int .i64 c.idle, .string c.pat]

structure RSrc where
  inn : Bool
  sil : Int
  marks : List Int
  ma : Option Addr
  mc : Nat
  seqs : List Int
  qa : Option Addr
  qc : Nat
  rest : ByteArray
def ints (l : List Int) : List Value := l.map (Value.int .i64)
def RSrc.vals (r : RSrc) : List Value := [.bool r.inn, .int .i64 r.sil, .slice r.ma r.marks.length r.mc, .slice r.qa r.seqs.length r.qc, .string r.rest]
theorem RSrc.len (r : RSrc) : r.vals.length = 5 := rfl

structure Ref where
  c : Cfg
  steps : List (Int × Int)
  pa : Option Addr
  pc : Nat
  one : Bool
  win : Int
  srcs : List RSrc
  sg : Nat
  sc : Nat
  all : List Ev
  aa : Option Addr
  ac : Nat
  aside : List Ev
  da : Option Addr
  dc : Nat
  merged : Int
def Ref.vals (R : Ref) : List Value := R.c.vals ++ [.slice R.pa R.steps.length R.pc, .bool R.one, .int .i64 R.win, .slice (some ⟨R.sg, 0, none⟩) R.srcs.length R.sc, .slice R.aa R.all.length R.ac, .slice R.da R.aside.length R.dc, .int .i64 R.merged]
def Ref.fp (R : Ref) (b : Nat) : List (Option Nat) := [some b, bk R.pa, some R.sg, bk R.aa, bk R.da] ++ R.srcs.flatMap (fun r => [bk r.ma, bk r.qa])

structure MemR (w : World) (b : Nat) (R : Ref) : Prop where
  eng : Blk w b 58 R.vals
  stp : Row w 134 2 R.pa R.steps.length R.pc (flat R.steps)
  src : Row w 100 5 (some ⟨R.sg, 0, none⟩) R.srcs.length R.sc (R.srcs.flatMap RSrc.vals)
  all : Row w 30 5 R.aa R.all.length R.ac (evs R.all)
  asd : Row w 30 5 R.da R.aside.length R.dc (evs R.aside)
  mrk : ∀ (i : Nat) r, R.srcs[i]? = some r → Row w 3 1 r.ma r.marks.length r.mc (ints r.marks)
  sqs : ∀ (i : Nat) r, R.srcs[i]? = some r → Row w 3 1 r.qa r.seqs.length r.qc (ints r.seqs)
  dis : PD (R.fp b)

theorem MemR.srcCell {w : World} {b : Nat} {R : Ref} (h : MemR w b R) (i o : Nat) (hi : i < R.srcs.length) (ho : o < 5) : w.cell? ⟨R.sg, i * 5 + o, none⟩ = R.srcs[i].vals[o]? := by
  obtain ⟨g, hg, _, _, hc, _⟩ := h.src.form (by omega)
  simp only [Option.some.injEq, Addr.mk.injEq, and_true] at hg
  rw [hg, hc _ (by omega), flatMap_get _ 5 RSrc.len _ i o ho hi]
theorem MemR.srcFrozen {w : World} {b : Nat} {R : Ref} (h : MemR w b R) (o : Nat) (hi : 0 < R.srcs.length) : w.frozen? ⟨R.sg, o, none⟩ = false := by
  obtain ⟨g, hg, _, _, _, hf⟩ := h.src.form hi
  simp only [Option.some.injEq, Addr.mk.injEq, and_true] at hg
  rw [hg]; exact hf o
theorem fp_src {R : Ref} {b i : Nat} (hi : i < R.srcs.length) : (R.fp b)[5 + 2 * i]? = some (bk R.srcs[i].ma) ∧ (R.fp b)[6 + 2 * i]? = some (bk R.srcs[i].qa) := by
  have key : ∀ (l : List RSrc) (i : Nat) (hi : i < l.length), (l.flatMap (fun r => [bk r.ma, bk r.qa]))[2 * i]? = some (bk l[i].ma) ∧ (l.flatMap (fun r => [bk r.ma, bk r.qa]))[2 * i + 1]? = some (bk l[i].qa) := by
    intro l
    induction l with
    | nil => intro i hi; simp at hi
    | cons a l ih =>
      intro i hi
      cases i with
      | zero => simp
      | succ i =>
        have := ih i (by simpa using hi)
        simp only [List.flatMap_cons, List.getElem_cons_succ]
        rw [List.getElem?_append_right (by simp; omega), List.getElem?_append_right (by simp; omega)]
        simpa [show 2 * (i + 1) - 2 = 2 * i by omega, show 2 * (i + 1) + 1 - 2 = 2 * i + 1 by omega] using this
  have k := key R.srcs i hi
  unfold Ref.fp
  constructor
  · rw [List.getElem?_append_right (by simp), show 5 + 2 * i - [some b, bk R.pa, some R.sg, bk R.aa, bk R.da].length = 2 * i by simp]; exact k.1
  · rw [List.getElem?_append_right (by simp; omega), show 6 + 2 * i - [some b, bk R.pa, some R.sg, bk R.aa, bk R.da].length = 2 * i + 1 by simp; omega]; exact k.2
theorem fp_mem {R : Ref} {b k : Nat} (h : some k ∈ R.fp b) : k = b ∨ bk R.pa = some k ∨ k = R.sg ∨ bk R.aa = some k ∨ bk R.da = some k ∨ ∃ i, ∃ hi : i < R.srcs.length, bk R.srcs[i].ma = some k ∨ bk R.srcs[i].qa = some k := by
  unfold Ref.fp at h
  simp only [List.cons_append, List.nil_append, List.mem_cons, Option.some.injEq, List.mem_flatMap, List.not_mem_nil, or_false] at h
  rcases h with h | h | h | h | h | ⟨r, hr, h⟩
  · exact Or.inl h
  · exact Or.inr (Or.inl h.symm)
  · exact Or.inr (Or.inr (Or.inl h))
  · exact Or.inr (Or.inr (Or.inr (Or.inl h.symm)))
  · exact Or.inr (Or.inr (Or.inr (Or.inr (Or.inl h.symm))))
  · obtain ⟨i, hi, rfl⟩ := List.mem_iff_getElem.1 hr
    exact Or.inr (Or.inr (Or.inr (Or.inr (Or.inr ⟨i, hi, h.imp Eq.symm Eq.symm⟩))))
theorem MemR.fp_lt {w : World} {b : Nat} {R : Ref} (h : MemR w b R) : ∀ k, some k ∈ R.fp b → k < w.heap.size := by
  intro k hk
  rcases fp_mem hk with e | e | e | e | e | ⟨i, hi, e | e⟩
  · rw [e]; exact h.eng.lt
  · exact h.stp.lt e
  · subst e; exact h.src.lt (a := some ⟨R.sg, 0, none⟩) rfl
  · exact h.all.lt e
  · exact h.asd.lt e
  · exact (h.mrk i _ (List.getElem?_eq_getElem hi)).lt e
  · exact (h.sqs i _ (List.getElem?_eq_getElem hi)).lt e
theorem MemR.kept {S : Nat → Prop} {w w' : World} {b : Nat} {R : Ref} (h : MemR w b R) (hk : Kept S w w') (hn : ∀ k, some k ∈ R.fp b → ¬ S k) : MemR w' b R := by
  have m : ∀ i (hi : i < (R.fp b).length) k, (R.fp b)[i] = some k → ¬ S k := fun i hi k e => hn k (e ▸ List.getElem_mem hi)
  refine ⟨h.eng.kept hk (hn b (by simp [Ref.fp])), h.stp.kept hk (fun k e => hn k (by simp [Ref.fp, e])), h.src.kept hk (fun k e => hn k (by simp [bk] at e; simp [Ref.fp, e])), h.all.kept hk (fun k e => hn k (by simp [Ref.fp, e])), h.asd.kept hk (fun k e => hn k (by simp [Ref.fp, e])), ?_, ?_, h.dis⟩
  · intro i r hr
    refine (h.mrk i r hr).kept hk (fun k e => hn k ?_)
    obtain ⟨hi, rfl⟩ := List.getElem?_eq_some_iff.1 hr
    exact List.mem_of_getElem? ((fp_src (b := b) hi).1.trans (by rw [e]))
  · intro i r hr
    refine (h.sqs i r hr).kept hk (fun k e => hn k ?_)
    obtain ⟨hi, rfl⟩ := List.getElem?_eq_some_iff.1 hr
    exact List.mem_of_getElem? ((fp_src (b := b) hi).2.trans (by rw [e]))
theorem MemR.drew {w : World} {b : Nat} {R : Ref} (h : MemR w b R) : MemR w.drew b R := h.kept ((Kept.refl (fun _ => False) w).drew) (fun _ _ e => e)
theorem MemR.alloc {w : World} {b : Nat} {R : Ref} (h : MemR w b R) (o : Obj) : MemR (w.alloc o) b R := h.kept ((Kept.refl (fun _ => False) w).alloc o) (fun _ _ e => e)
theorem MemR.below {w w' : World} {b : Nat} {R : Ref} (h : MemR w b R) (hb : Below w.heap.size w w') : MemR w' b R := h.kept (below_kept hb (fun _ => False)) (fun _ _ e => e)
end Go.Proofs.YtghcololkgeoeabGreat
