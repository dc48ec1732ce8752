import Derived.Test.YtghcololkgeoeabDoorPartA3
import Derived.Deep.QuietTactic
import Derived.BigQuiet
namespace Go.Proofs.YtghcololkgeoeabDoor
open Go.RowKit
set_option linter.unusedVariables false
set_option linter.unusedSimpArgs false

theorem ret_int {k : IntKind} {a b : Int} (h : a = b) : Ending.returned (.int k a) = .returned (.int k b) := by rw [h]
theorem ret_bool {a b : Bool} (h : a = b) : Ending.returned (.bool a) = .returned (.bool b) := by rw [h]
def greatest (l : List Int) (n : Int) : Int := l.foldl (fun m x => if m < x then x else m) n
theorem greatest_snoc (l : List Int) (n x : Int) : greatest (l ++ [x]) n = if greatest l n < x then x else greatest l n := by unfold greatest; rw [List.foldl_append]; rfl
theorem ints_get (l : List Int) (j : Nat) (h : j < l.length) : (ints l)[j]? = some (.int .i64 l[j]) := by simp [ints, List.getElem?_eq_getElem h]
theorem take_succ' {α : Type} (l : List α) (j : Nat) (h : j < l.length) : l.take (j + 1) = l.take j ++ [l[j]] := List.take_succ_eq_append_getElem h

def Ref.mark (R : Ref) (i : Nat) : Int := greatest ((R.srcs[i]?.map (·.marks)).getD []) (-2199023255552)
def Ref.isIdle (R : Ref) (i : Nat) : Bool := match R.srcs[i]? with | some r => r.inn && decide (0 < R.c.idle) && decide (R.c.idle ≤ r.sil) | none => false
end Go.Proofs.YtghcololkgeoeabDoor
namespace Go.Proofs.YtghcololkgeoeabDoor
open Go.RowKit
set_option linter.unusedVariables false
set_option linter.unusedSimpArgs false

theorem Kept.drewN {S : Nat → Prop} {a w : World} (h : Kept S a w) (n : Nat) : Kept S a (w.drewN n) := ⟨h.os, h.tape, h.output, h.size, h.block⟩
theorem bdrewN {B : Nat} {a w : World} (h : Below B a w) (n : Nat) : Below B a (w.drewN n) := ⟨h.os, h.tape, h.output, h.size, h.block⟩
theorem Tryd.infoEv : (Tryd.prog.info? 37).map (fun i => (i.zero, i.size, i.bytes)) = some (some (.agg #[.int .i64 0, .int .i64 0, .int .i64 0, .int .i64 0, .int .i64 0]), 5, 40) := by kernel_rfl
theorem Tryd.infoInt : (Tryd.prog.info? 3).map (fun i => (i.zero, i.size, i.bytes)) = some (some (.int .i64 0), 1, 8) := by kernel_rfl

theorem ret_slice {a : Option Addr} {n m c : Nat} (h : n = m) : Ending.returned (.slice a n c) = .returned (.slice a m c) := by rw [h]
def beyondB (n : Int) : Bool := decide (n < -1099511627776 ∨ 1099511627776 < n)
/-- does this event wait (of a source; of all, if it is below 0)? -/
def waits (m s : Int) (e : Ev) : Bool := decide (m ≤ e.ts) && (decide (s < 0) || decide (e.src = s))
def Ref.wait (R : Ref) (s : Int) : List Ev := R.all.filter (waits R.merged s)

theorem filter_snoc {α : Type} (p : α → Bool) (l : List α) (k : Nat) (h : k < l.length) : (l.take (k + 1)).filter p = (l.take k).filter p ++ if p l[k] then [l[k]] else [] := by
  rw [take_succ' l k h, List.filter_append]
  simp only [List.filter_cons, List.filter_nil]
theorem evs_snoc (l : List Ev) (e : Ev) : evs (l ++ [e]) = evs l ++ e.vals := by simp [evs]
theorem evRow_cells {w : World} {t : TypeId} {a : Option Addr} {c : Nat} {l : List Ev} (h : Row w t 5 a l.length c (evs l)) (k : Nat) (hk : k < l.length) :
    ∃ g, a = some ⟨g, 0, none⟩ ∧ l.length ≤ c ∧ w.cell? ⟨g, k * 5, none⟩ = some (.int .i64 l[k].src) ∧ w.cell? ⟨g, k * 5 + 1, none⟩ = some (.int .i64 l[k].seq) ∧ w.cell? ⟨g, k * 5 + 2, none⟩ = some (.int .i64 l[k].ts) ∧ w.cell? ⟨g, k * 5 + 3, none⟩ = some (.int .i64 l[k].kind) ∧ w.cell? ⟨g, k * 5 + 4, none⟩ = some (.int .i64 l[k].val) := by
  obtain ⟨g, rfl, hnc, _, hc, _⟩ := h.form (by omega)
  have key : ∀ o, o < 5 → w.cell? ⟨g, k * 5 + o, none⟩ = l[k].vals[o]? := fun o ho => by rw [hc _ (by omega), flatMap_get _ 5 Ev.len _ k o ho hk]
  exact ⟨g, rfl, hnc, by have := key 0 (by omega); simpa [Ev.vals] using this, by have := key 1 (by omega); simpa [Ev.vals] using this, by have := key 2 (by omega); simpa [Ev.vals] using this, by have := key 3 (by omega); simpa [Ev.vals] using this, by have := key 4 (by omega); simpa [Ev.vals] using this⟩

theorem ownsRow_of_heap {w w' : World} {base : Nat} {t : TypeId} {sz : Nat} {v : Value} {n : Nat} {xs : List Value} (h : w.ownsRow base t sz v n xs) (hk : ∀ k, k < w.heap.size → w'.heap[k]? = w.heap[k]?) : w'.ownsRow base t sz v n xs := by
  have hlt := h.lt
  obtain ⟨h1, h2⟩ := h
  refine ⟨h1, ?_⟩
  rcases h2 with h2 | ⟨g, cap, cur, hv, hg, hh, r⟩
  · exact Or.inl h2
  · exact Or.inr ⟨g, cap, cur, hv, hg, by rw [hk g (hlt g (by rw [hv]; rfl)).2]; exact hh, r⟩
theorem one_old (w : World) (o : Obj) (n : Nat) : ∀ k, k < w.heap.size → ((w.alloc o).drewN n).heap[k]? = w.heap[k]? := fun k hk => Below.heap_alloc _ _ _ hk
theorem two_old (w : World) (o o2 : Obj) (n : Nat) : ∀ k, k < w.heap.size → (((w.alloc o).drewN n).alloc o2).heap[k]? = w.heap[k]? := fun k hk => by
  rw [Below.heap_alloc _ _ _ (by show k < (w.alloc o).heap.size; simp; omega)]
  exact Below.heap_alloc _ _ _ hk
theorem news_new (w : World) (B : Nat) (hB : w.heap.size = B) (l : List Value) (t : TypeId) : ∀ j u, l[j]? = some u → (w.alloc (.cells l.toArray t)).cell? ((⟨B, 0, none⟩ : Addr).add j) = some u := by
  subst hB
  exact World.news_of_block (cs := l.toArray) (t := t) (fr := (0, 0)) (heap_alloc_new w _)
theorem Ev.one (e : Ev) : ∀ u ∈ e.vals, u.oneCell' = true := by simp [Ev.vals, Value.oneCell']
theorem gather_step {w wr w1 : World} {L : List Ev} {E : Ev} {a : Option Addr} {c g cap n : Nat} {o o2 : Obj} {t : TypeId} (hO : wr.ownsRow w.heap.size t 5 (.slice a L.length c) L.length (evs L)) (hbel : Below w.heap.size w wr)
    (hown1 : w1.ownsRow w.heap.size t 5 (.slice (some ⟨g, 0, none⟩) (L.length + 1) cap) (L.length + 1) (evs L ++ E.vals)) (hgrow : (((wr.alloc o).drewN n).alloc o2).grownBy w1 (Value.slice a L.length c).ownBlock) :
    w1.ownsRow w.heap.size t 5 (.slice (some ⟨g, 0, none⟩) (L.length + [E].length) cap) (L.length + [E].length) (evs (L ++ [E])) ∧ Below w.heap.size w w1 := by
  refine ⟨by rw [evs_snoc]; exact hown1, ?_⟩
  have h1 := hbel.size
  have b1 : Below w.heap.size w ((wr.alloc o).drewN n) := bdrewN (hbel.alloc (by omega) o) n
  have b2 := b1.alloc (by have := b1.size; omega) o2
  exact b2.grown hgrow b2.size (fun k e => (hO.lt k e).1)
/-- a fresh row of events, as a call hands it out -/
def Fresh (w w' : World) (a : Option Addr) (n c : Nat) (l : List Ev) : Prop := n = l.length ∧ w'.ownsRow w.heap.size 37 5 (.slice a l.length c) l.length (evs l)

end Go.Proofs.YtghcololkgeoeabDoor
