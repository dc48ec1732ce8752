import Derived.Test.YtghcololkgeoeabDoorPartA7
namespace Go.Proofs.YtghcololkgeoeabDoor
open Go.RowKit
set_option linter.unusedVariables false
set_option linter.unusedSimpArgs false
attribute [local go_sem ↓] Go.wp_at_zero Go.wp_at_succ

/-- the events' order -/
def aheadB (a c : Ev) : Bool := decide (a.ts < c.ts) || (decide (a.ts = c.ts) && (decide (a.src < c.src) || (decide (a.src = c.src) && decide (a.seq < c.seq))))
/-- the first of those that are left and below the mark: the state of the inner loop behind k places -/
def bestTo (m : Int) (l : List Ev) (taken : List Bool) : Nat → Option Nat
  | 0 => none
  | k + 1 => match l[k]?, taken[k]? with
    | some e, some false => if m ≤ e.ts then bestTo m l taken k else match bestTo m l taken k with
      | none => some k
      | some j => match l[j]? with | some f => if aheadB e f then some k else some j | none => some j
    | _, _ => bestTo m l taken k
def bools (l : List Bool) : List Value := l.map Value.bool
theorem bools_get (l : List Bool) (j : Nat) (h : j < l.length) : (bools l)[j]? = some (.bool l[j]) := by simp [bools, List.getElem?_eq_getElem h]
theorem bestTo_lt (m : Int) (l : List Ev) (taken : List Bool) : ∀ k j, bestTo m l taken k = some j → j < k ∧ j < l.length ∧ taken[j]? = some false := by
  intro k
  induction k with
  | zero => intro j h; simp [bestTo] at h
  | succ k ih =>
    intro j h
    rw [bestTo] at h
    split at h
    · rename_i e he ht
      have hk : k < l.length := (List.getElem?_eq_some_iff.1 he).1
      split at h
      · have := ih j h; exact ⟨by omega, this.2⟩
      · split at h
        · simp only [Option.some.injEq] at h; subst h; exact ⟨by omega, hk, ht⟩
        · rename_i j0 hj0
          have h0 := ih j0 hj0
          split at h
          · split at h
            · simp only [Option.some.injEq] at h; subst h; exact ⟨by omega, hk, ht⟩
            · simp only [Option.some.injEq] at h; subst h; exact ⟨by omega, h0.2⟩
          · simp only [Option.some.injEq] at h; subst h; exact ⟨by omega, h0.2⟩
    · have := ih j h; exact ⟨by omega, this.2⟩

def selRun (m : Int) (l : List Ev) : Nat → List Bool × List Ev
  | 0 => (List.replicate l.length false, [])
  | n + 1 => match bestTo m l (selRun m l n).1 l.length with
    | none => selRun m l n
    | some j => ((selRun m l n).1.set j true, (selRun m l n).2 ++ (l[j]?).toList)
theorem selRun_len (m : Int) (l : List Ev) : ∀ n, (selRun m l n).1.length = l.length ∧ (selRun m l n).2.length ≤ n := by
  intro n
  induction n with
  | zero => simp [selRun]
  | succ n ih =>
    rw [selRun]
    split
    · exact ⟨ih.1, by omega⟩
    · rename_i j _
      refine ⟨by simp [ih.1], ?_⟩
      simp only [List.length_append]
      cases l[j]? <;> simp <;> omega
theorem selRun_count (m : Int) (l : List Ev) : ∀ n, (selRun m l n).2.length + (selRun m l n).1.count false = l.length := by
  intro n
  induction n with
  | zero => simp [selRun]
  | succ n ih =>
    rw [selRun]
    split
    · exact ih
    · rename_i j hj
      obtain ⟨_, hjl, hjt⟩ := bestTo_lt _ _ _ _ _ hj
      have hlt : j < (selRun m l n).1.length := (List.getElem?_eq_some_iff.1 hjt).1
      have hv : (selRun m l n).1[j] = false := (List.getElem?_eq_some_iff.1 hjt).2
      simp only [List.getElem?_eq_getElem hjl, Option.toList_some, List.length_append, List.length_cons, List.length_nil]
      rw [List.count_set hlt, hv]
      have hp : 0 < (selRun m l n).1.count false := List.count_pos_iff.2 (hv ▸ List.getElem_mem hlt)
      simp
      omega
def lenOf : Value → Nat | .slice _ n _ => n | _ => 0
theorem Tryd.infoBool : (Tryd.prog.info? 4).map (fun i => (i.zero, i.size, i.bytes)) = some (some (.bool false), 1, 1) := by kernel_rfl
abbrev u11 (u : World) (b g k j : Nat) (R : Ref) (A C : Ev) : Prop := u.cell? ⟨b, 10, none⟩ = some (.slice (some ⟨g, 0, none⟩) R.all.length R.ac) ∧ u.cell? ⟨g, k * 5, none⟩ = some (.int .i64 A.src) ∧ u.cell? ⟨g, k * 5 + 1, none⟩ = some (.int .i64 A.seq) ∧ u.cell? ⟨g, k * 5 + 2, none⟩ = some (.int .i64 A.ts) ∧ u.cell? ⟨g, k * 5 + 3, none⟩ = some (.int .i64 A.kind) ∧ u.cell? ⟨g, k * 5 + 4, none⟩ = some (.int .i64 A.val) ∧ u.cell? ⟨g, j * 5, none⟩ = some (.int .i64 C.src) ∧ u.cell? ⟨g, j * 5 + 1, none⟩ = some (.int .i64 C.seq) ∧ u.cell? ⟨g, j * 5 + 2, none⟩ = some (.int .i64 C.ts) ∧ u.cell? ⟨g, j * 5 + 3, none⟩ = some (.int .i64 C.kind) ∧ u.cell? ⟨g, j * 5 + 4, none⟩ = some (.int .i64 C.val)
theorem ownBase {w : World} {base base' : Nat} {t : TypeId} {sz : Nat} {v : Value} {n : Nat} {xs : List Value} (h : w.ownsRow base t sz v n xs) (hb : base' ≤ base) : w.ownsRow base' t sz v n xs := by
  obtain ⟨h1, h2⟩ := h
  refine ⟨h1, ?_⟩
  rcases h2 with h2 | ⟨g, cap, cur, hv, hg, r⟩
  · exact Or.inl h2
  · exact Or.inr ⟨g, cap, cur, hv, by omega, r⟩
def bestI (o : Option Nat) : Int := match o with | none => -1 | some j => j

end Go.Proofs.YtghcololkgeoeabDoor
namespace Go.Proofs.YtghcololkgeoeabDoor
open Go.RowKit
open Classical
set_option linter.unusedVariables false
set_option linter.unusedSimpArgs false
attribute [local go_sem ↓] Go.wp_at_zero Go.wp_at_succ

def Cfg.agg (c : Cfg) : Value := .agg #[.int .i64 c.sources, .int .i64 c.slack, .int .i64 c.policy, .int .i64 c.room, .int .i64 c.idle, .string c.pat]
/-- may a configuration be? -/
def Cfg.fits (c : Cfg) : Prop := 1 ≤ c.sources ∧ c.sources ≤ 6 ∧ 0 ≤ c.slack ∧ c.slack ≤ 1000 ∧ 0 ≤ c.policy ∧ c.policy ≤ 2 ∧ 1 ≤ c.room ∧ c.room ≤ 32 ∧ 0 ≤ c.idle ∧ c.idle ≤ 1000
theorem check_zero {l : List UInt8} {x y : Int} (h : CheckIs wholeP goesP l x y) : x = 0 ↔ (l.length ≤ 60 ∧ wholeP l) := by
  rcases h with ⟨a, e, _⟩ | ⟨a, b, e, _⟩ | ⟨a, b, e, _⟩
  · constructor
    · intro h; omega
    · rintro ⟨h, _⟩; omega
  · exact ⟨fun _ => ⟨a, b⟩, fun _ => e⟩
  · constructor
    · intro h; omega
    · rintro ⟨_, h⟩; exact absurd h b
theorem pd3 {b sg : Nat} {p : Option Nat} {L : List (Option Nat)} (h1 : p ≠ some b) (h2 : b ≠ sg) (h3 : p ≠ some sg) (hL : ∀ x ∈ L, x = none) : PD ([some b, p, some sg] ++ L) := by
  have key : ∀ i k : Nat, ([some b, p, some sg] ++ L)[i]? = some (some k) → (i = 0 ∧ k = b) ∨ (i = 1 ∧ p = some k) ∨ (i = 2 ∧ k = sg) := by
    intro i k h
    match i, h with
    | 0, h => simp at h; exact Or.inl ⟨rfl, h.symm⟩
    | 1, h => simp at h; exact Or.inr (Or.inl ⟨rfl, h⟩)
    | 2, h => simp at h; exact Or.inr (Or.inr ⟨rfl, h.symm⟩)
    | i + 3, h =>
      have : (L)[i]? = some (some k) := by simpa using h
      have := hL _ (List.mem_of_getElem? this)
      simp at this
  intro i j k hi hj
  rcases key i k hi with ⟨a, e⟩ | ⟨a, e⟩ | ⟨a, e⟩ <;> rcases key j k hj with ⟨a', e'⟩ | ⟨a', e'⟩ | ⟨a', e'⟩
  · omega
  · exact absurd (e ▸ e') h1
  · omega
  · exact absurd (e' ▸ e) h1
  · omega
  · exact absurd (e' ▸ e) h3
  · omega
  · exact absurd (e ▸ e') h3
  · omega
abbrev S9 (u w w2 : World) (n : Nat) (cl cp cr ci : Int) (pat : ByteArray) (a : Option Addr) (m cc : Nat) (o : Bool) (win : Int) : Prop := u.cell? ⟨w.heap.size, 0, none⟩ = some (.int .i64 n) ∧ u.cell? ⟨w.heap.size, 1, none⟩ = some (.int .i64 cl) ∧ u.cell? ⟨w.heap.size, 2, none⟩ = some (.int .i64 cp) ∧ u.cell? ⟨w.heap.size, 3, none⟩ = some (.int .i64 cr) ∧ u.cell? ⟨w.heap.size, 4, none⟩ = some (.int .i64 ci) ∧ u.cell? ⟨w.heap.size, 5, none⟩ = some (.string pat) ∧ u.cell? ⟨w2.heap.size, 0, none⟩ = some (.slice a m cc) ∧ u.cell? ⟨w2.heap.size, 1, none⟩ = some (.bool o) ∧ u.cell? ⟨w2.heap.size, 2, none⟩ = some (.int .i64 win)
def zSrc : RSrc := ⟨false, 0, [], none, 0, [], none, 0, ByteArray.empty⟩
/-- a new engine -/
def newRef (c : Cfg) (n : Nat) (pa : Option Addr) (pc sg : Nat) : Ref :=
  { c := c, steps := patSteps c.pat.data.toList, pa := pa, pc := pc, one := patOne c.pat.data.toList, win := patWin c.pat.data.toList, srcs := List.replicate n zSrc, sg := sg, sc := n, all := [], aa := none, ac := 0, aside := [], da := none, dc := 0, merged := -2199023255552 }
theorem made_srcs (n : Nat) (h1 : 1 ≤ n) (h6 : n ≤ 6) : (madeCells (Value.agg #[.bool false, .int .i64 0, .slice none 0 0, .slice none 0 0, .string ByteArray.empty]).cells (n * 5)).toList = (List.replicate n zSrc).flatMap RSrc.vals := by
  have : n = 1 ∨ n = 2 ∨ n = 3 ∨ n = 4 ∨ n = 5 ∨ n = 6 := by omega
  rcases this with rfl | rfl | rfl | rfl | rfl | rfl
  · show _ = _; kernel_rfl
  · show _ = _; kernel_rfl
  · show _ = _; kernel_rfl
  · show _ = _; kernel_rfl
  · show _ = _; kernel_rfl
  · show _ = _; kernel_rfl

end Go.Proofs.YtghcololkgeoeabDoor
