import Derived.Test.YtghcololkgeoeabGreatPartA3
import Derived.Deep.QuietTactic
import Derived.BigQuiet
namespace Go.Proofs.YtghcololkgeoeabGreat
open Go.RowKit
set_option linter.unusedVariables false
set_option linter.unusedSimpArgs false

theorem ret_int {k : IntKind} {a b : Int} (h : a = b) : Ending.returned (.int k a) = .returned (.int k b) := by rw [h]
theorem ret_bool {a b : Bool} (h : a = b) : Ending.returned (.bool a) = .returned (.bool b) := by rw [h]
def greatest (l : List Int) (n : Int) : Int := l.foldl (fun m x => if m < x then x else m) n
theorem greatest_snoc (l : List Int) (n x : Int) : greatest (l ++ [x]) n = if greatest l n < x then x else greatest l n := by unfold greatest; rw [List.foldl_append]; rfl
theorem ints_get (l : List Int) (j : Nat) (h : j < l.length) : (ints l)[j]? = some (.int .i64 l[j]) := by simp [ints, List.getElem?_eq_getElem h]
theorem take_succ' {α : Type} (l : List α) (j : Nat) (h : j < l.length) : l.take (j + 1) = l.take j ++ [l[j]] := List.take_succ_eq_append_getElem h

set_option maxHeartbeats 400000 in
theorem greatest_any (l : List Int) (a : Option Addr) (c : Nat) (n : Int) (w : World) (hr : Row w 3 1 a l.length c (ints l)) :
    Calls Tryz.prog 45 #[.slice a l.length c, .int .i64 n] w fun e w' => e = .returned (.int .i64 (greatest l n)) ∧ w = w' := by
  have hlen := hr.len
  unfold maxLen at hlen
  go_enter Tryz.func45, Tryz.ntmps45
  go_wp2
  go_loop [1, 5] (fun m i => ∃ k : Nat, k ≤ l.length ∧ i = .int .i64 k ∧ m = .int .i64 (greatest (l.take k) n)) (fun _ i => l.length - (intOf i).toNat)
  case atStart => exact ⟨0, Nat.zero_le _, rfl, by simp [greatest]⟩
  case round =>
    obtain ⟨k, hk, rfl, rfl⟩ := hrel
    by_cases hlt : k < l.length
    · obtain ⟨g, rfl, hnc, hcm, hcell, _⟩ := hr.form (by omega)
      have hc := hcell k (by omega)
      rw [ints_get l k hlt] at hc
      have hlt' : (k : Int) < (l.length : Int) := by omega
      have hk0 : (0 : Int) ≤ (k : Int) := by omega
      have HT : Hid (greatest (l.take (k + 1)) n = if greatest (l.take k) n < l[k] then l[k] else greatest (l.take k) n) := by show _ = _; rw [take_succ' l k hlt, greatest_snoc]
      clear hcell hr
      by_cases hx : greatest (l.take k) n < l[k]
      · go_wp2
        go_round
        case rel => exact ⟨k + 1, by omega, by go_num, by rw [HT.out, if_pos hx]⟩
        case measure => simp [intOf]; omega
      · go_wp2
        go_round
        case rel => exact ⟨k + 1, by omega, by go_num, by rw [HT.out, if_neg hx]⟩
        case measure => simp [intOf]; omega
    · go_wp2
      go_ret
      exact ⟨ret_int (by rw [List.take_of_length_le (by omega)]), rfl⟩

def Ref.mark (R : Ref) (i : Nat) : Int := greatest ((R.srcs[i]?.map (·.marks)).getD []) (-2199023255552)
theorem MemR.cells {w : World} {b : Nat} {R : Ref} (h : MemR w b R) : w.cell? ⟨b, 4, none⟩ = some (.int .i64 R.c.idle) ∧ w.cell? ⟨b, 9, none⟩ = some (.slice (some ⟨R.sg, 0, none⟩) R.srcs.length R.sc) ∧ w.cell? ⟨b, 10, none⟩ = some (.slice R.aa R.all.length R.ac) ∧ w.cell? ⟨b, 11, none⟩ = some (.slice R.da R.aside.length R.dc) ∧ w.cell? ⟨b, 12, none⟩ = some (.int .i64 R.merged) :=
  ⟨h.eng.cell 4, h.eng.cell 9, h.eng.cell 10, h.eng.cell 11, h.eng.cell 12⟩
set_option maxHeartbeats 400000 in
theorem rmark_any (b : Nat) (R : Ref) (i : Nat) (w : World) (h : MemR w b R) (hi : i < R.srcs.length) :
    Calls Tryz.prog 44 #[.pointer (some ⟨b, 0, none⟩), .int .i64 i] w fun e w' => e = .returned (.int .i64 (R.mark i)) ∧ w = w' := by
  obtain ⟨_, c9, _⟩ := h.cells
  have s2 := h.srcCell i 2 hi (by omega)
  simp only [RSrc.vals, List.getElem?_cons_succ, List.getElem?_cons_zero] at s2
  have hm := h.mrk i _ (List.getElem?_eq_getElem hi)
  have hi' : (i : Int) < (R.srcs.length : Int) := by omega
  have hi0 : (0 : Int) ≤ (i : Int) := by omega
  have e : R.mark i = greatest R.srcs[i].marks (-2199023255552) := by simp [Ref.mark, List.getElem?_eq_getElem hi]
  rw [e]
  go_enter Tryz.func44, Tryz.ntmps44
  go_wp2_with (go_at_call 45; refine (greatest_any _ _ _ _ _ hm).mono ?_; rintro e w' ⟨rfl, rfl⟩)
  go_ret
  exact ⟨rfl, rfl⟩

def Ref.isIdle (R : Ref) (i : Nat) : Bool := match R.srcs[i]? with | some r => r.inn && decide (0 < R.c.idle) && decide (R.c.idle ≤ r.sil) | none => false
set_option maxHeartbeats 800000 in
theorem ridle_any (b : Nat) (R : Ref) (i : Nat) (w : World) (h : MemR w b R) (hi : i < R.srcs.length) :
    Calls Tryz.prog 43 #[.pointer (some ⟨b, 0, none⟩), .int .i64 i] w fun e w' => e = .returned (.bool (R.isIdle i)) ∧ ∃ n, w' = w.drewN n := by
  obtain ⟨c4, c9, _⟩ := h.cells
  have s0 := h.srcCell i 0 hi (by omega)
  have s1 := h.srcCell i 1 hi (by omega)
  simp only [RSrc.vals, List.getElem?_cons_succ, List.getElem?_cons_zero, Nat.add_zero] at s0 s1
  have hi' : (i : Int) < (R.srcs.length : Int) := by omega
  have hi0 : (0 : Int) ≤ (i : Int) := by omega
  have e : R.isIdle i = (R.srcs[i].inn && decide (0 < R.c.idle) && decide (R.c.idle ≤ R.srcs[i].sil)) := by simp [Ref.isIdle, List.getElem?_eq_getElem hi]
  rw [e]
  cases hin : R.srcs[i].inn with
  | false =>
    rw [hin] at s0
    go_enter Tryz.func43, Tryz.ntmps43
    go_wp2
    go_quiet (fail)
    go_wp2
    go_ret
    exact ⟨rfl, _, rfl⟩
  | true =>
    rw [hin] at s0
    by_cases h0 : 0 < R.c.idle
    · by_cases h1 : R.c.idle ≤ R.srcs[i].sil
      · go_enter Tryz.func43, Tryz.ntmps43
        go_wp2
        go_quiet (fail)
        go_wp2
        go_ret
        exact ⟨ret_bool (by simp [h0, h1]), _, rfl⟩
      · go_enter Tryz.func43, Tryz.ntmps43
        go_wp2
        go_quiet (fail)
        go_wp2
        go_ret
        exact ⟨ret_bool (by simp [h0, h1]), _, rfl⟩
    · have hd : decide (0 < R.c.idle) = false := by simpa using h0
      go_enter Tryz.func43, Tryz.ntmps43
      go_wp2
      go_quiet (fail)
      go_wp2
      go_ret
      exact ⟨ret_bool (by rw [hd]; rfl), _, rfl⟩
end Go.Proofs.YtghcololkgeoeabGreat
namespace Go.Proofs.YtghcololkgeoeabGreat
open Go.RowKit
set_option linter.unusedVariables false
set_option linter.unusedSimpArgs false

theorem Kept.drewN {S : Nat → Prop} {a w : World} (h : Kept S a w) (n : Nat) : Kept S a (w.drewN n) := ⟨h.os, h.tape, h.output, h.size, h.block⟩
theorem bdrewN {B : Nat} {a w : World} (h : Below B a w) (n : Nat) : Below B a (w.drewN n) := ⟨h.os, h.tape, h.output, h.size, h.block⟩
theorem MemR.drewN {w : World} {b : Nat} {R : Ref} (h : MemR w b R) (n : Nat) : MemR (w.drewN n) b R := h.kept ((Kept.refl (fun _ => False) w).drewN n) (fun _ _ e => e)
theorem Tryz.infoEv : (Tryz.prog.info? 30).map (fun i => (i.zero, i.size, i.bytes)) = some (some (.agg #[.int .i64 0, .int .i64 0, .int .i64 0, .int .i64 0, .int .i64 0]), 5, 40) := by kernel_rfl
theorem Tryz.infoInt : (Tryz.prog.info? 3).map (fun i => (i.zero, i.size, i.bytes)) = some (some (.int .i64 0), 1, 8) := by kernel_rfl

set_option maxHeartbeats 400000 in
theorem rnone_any (b : Nat) (R : Ref) (s : Int) (w : World) (h : MemR w b R) :
    Calls Tryz.prog 41 #[.pointer (some ⟨b, 0, none⟩), .int .i64 s] w fun e w' => e = .returned (.bool (decide (s < 0 ∨ (R.srcs.length : Int) ≤ s))) ∧ w = w' := by
  obtain ⟨_, c9, _⟩ := h.cells
  by_cases h0 : s < 0
  · go_enter Tryz.func41, Tryz.ntmps41
    go_wp2
    go_ret
    exact ⟨ret_bool (by simp [h0]), rfl⟩
  · by_cases h1 : (R.srcs.length : Int) ≤ s
    · have hd : decide (s < 0 ∨ (R.srcs.length : Int) ≤ s) = true := by simp [h1]
      rw [hd]
      go_enter Tryz.func41, Tryz.ntmps41
      go_wp2
      go_ret
      exact ⟨rfl, rfl⟩
    · have hd : decide (s < 0 ∨ (R.srcs.length : Int) ≤ s) = false := by simp [h0, h1]
      rw [hd]
      go_enter Tryz.func41, Tryz.ntmps41
      go_wp2
      go_ret
      exact ⟨rfl, rfl⟩

theorem ret_slice {a : Option Addr} {n m c : Nat} (h : n = m) : Ending.returned (.slice a n c) = .returned (.slice a m c) := by rw [h]
def beyondB (n : Int) : Bool := decide (n < -1099511627776 ∨ 1099511627776 < n)
set_option maxHeartbeats 400000 in
theorem beyond_any (n : Int) (w : World) : Calls Tryz.prog 66 #[.int .i64 n] w fun e w' => e = .returned (.bool (beyondB n)) ∧ w = w' := by
  unfold beyondB
  by_cases h0 : n < -1099511627776
  · have hd : decide (n < -1099511627776 ∨ 1099511627776 < n) = true := by simp [h0]
    rw [hd]
    go_enter Tryz.func66, Tryz.ntmps66
    go_wp2
    go_ret
    exact ⟨rfl, rfl⟩
  · by_cases h1 : 1099511627776 < n
    · have hd : decide (n < -1099511627776 ∨ 1099511627776 < n) = true := by simp [h1]
      rw [hd]
      go_enter Tryz.func66, Tryz.ntmps66
      go_wp2
      go_ret
      exact ⟨rfl, rfl⟩
    · have hd : decide (n < -1099511627776 ∨ 1099511627776 < n) = false := by simp [h0, h1]
      rw [hd]
      go_enter Tryz.func66, Tryz.ntmps66
      go_wp2
      go_ret
      exact ⟨rfl, rfl⟩

def waits (m s : Int) (e : Ev) : Bool := decide (m ≤ e.ts) && (decide (s < 0) || decide (e.src = s))
def Ref.wait (R : Ref) (s : Int) : List Ev := R.all.filter (waits R.merged s)

theorem filter_snoc {α : Type} (p : α → Bool) (l : List α) (k : Nat) (h : k < l.length) : (l.take (k + 1)).filter p = (l.take k).filter p ++ if p l[k] then [l[k]] else [] := by
  rw [take_succ' l k h, List.filter_append]
  simp only [List.filter_cons, List.filter_nil]
theorem evs_snoc (l : List Ev) (e : Ev) : evs (l ++ [e]) = evs l ++ e.vals := by simp [evs]
theorem evRow_cells {w : World} {t : TypeId} {a : Option Addr} {c : Nat} {l : List Ev} (h : Row w t 5 a l.length c (evs l)) (k : Nat) (hk : k < l.length) :
    ∃ g, a = some ⟨g, 0, none⟩ ∧ l.length ≤ c ∧ w.cell? ⟨g, k * 5, none⟩ = some (.int .i64 l[k].src) ∧ w.cell? ⟨g, k * 5 + 1, none⟩ = some (.int .i64 l[k].seq) ∧ w.cell? ⟨g, k * 5 + 2, none⟩ = some (.int .i64 l[k].ts) ∧ w.cell? ⟨g, k * 5 + 3, none⟩ = some (.int .i64 l[k].kind) ∧ w.cell? ⟨g, k * 5 + 4, none⟩ = some (.int .i64 l[k].val) := by
  obtain ⟨g, rfl, hnc, _, hc, _⟩ := h.form (by omega)
  have key : ∀ o, o < 5 → w.cell? ⟨g, k * 5 + o, none⟩ = l[k].vals[o]? := fun o ho => by rw [hc _ (by omega), flatMap_get _ 5 Ev.len _ k o ho hk]
  exact ⟨g, rfl, hnc, by have := key 0 (by omega); simpa [Ev.vals] using this, by have := key 1 (by omega); simpa [Ev.vals] using this, by have := key 2 (by omega); simpa [Ev.vals] using this, by have := key 3 (by omega); simpa [Ev.vals] using this, by have := key 4 (by omega); simpa [Ev.vals] using this⟩

theorem ownsRow_of_heap {w w' : World} {base : Nat} {t : TypeId} {sz : Nat} {v : Value} {n : Nat} {xs : List Value} (h : w.ownsRow base t sz v n xs) (hk : ∀ k, k < w.heap.size → w'.heap[k]? = w.heap[k]?) : w'.ownsRow base t sz v n xs := by
  have hlt := h.lt
  obtain ⟨h1, h2⟩ := h
  refine ⟨h1, ?_⟩
  rcases h2 with h2 | ⟨g, cap, cur, hv, hg, hh, r⟩
  · exact Or.inl h2
  · exact Or.inr ⟨g, cap, cur, hv, hg, by rw [hk g (hlt g (by rw [hv]; rfl)).2]; exact hh, r⟩
theorem one_old (w : World) (o : Obj) (n : Nat) : ∀ k, k < w.heap.size → ((w.alloc o).drewN n).heap[k]? = w.heap[k]? := fun k hk => Below.heap_alloc _ _ _ hk
theorem two_old (w : World) (o o2 : Obj) (n : Nat) : ∀ k, k < w.heap.size → (((w.alloc o).drewN n).alloc o2).heap[k]? = w.heap[k]? := fun k hk => by
  rw [Below.heap_alloc _ _ _ (by show k < (w.alloc o).heap.size; simp; omega)]
  exact Below.heap_alloc _ _ _ hk
theorem news_new (w : World) (B : Nat) (hB : w.heap.size = B) (l : List Value) (t : TypeId) : ∀ j u, l[j]? = some u → (w.alloc (.cells l.toArray t)).cell? ((⟨B, 0, none⟩ : Addr).add j) = some u := by
  subst hB
  exact World.news_of_block (cs := l.toArray) (t := t) (fr := (0, 0)) (heap_alloc_new w _)
theorem Ev.one (e : Ev) : ∀ u ∈ e.vals, u.oneCell' = true := by simp [Ev.vals, Value.oneCell']
theorem gather_step {w wr w1 : World} {L : List Ev} {E : Ev} {a : Option Addr} {c g cap n : Nat} {o o2 : Obj} {t : TypeId} (hO : wr.ownsRow w.heap.size t 5 (.slice a L.length c) L.length (evs L)) (hbel : Below w.heap.size w wr)
    (hown1 : w1.ownsRow w.heap.size t 5 (.slice (some ⟨g, 0, none⟩) (L.length + 1) cap) (L.length + 1) (evs L ++ E.vals)) (hgrow : (((wr.alloc o).drewN n).alloc o2).grownBy w1 (Value.slice a L.length c).ownBlock) :
    w1.ownsRow w.heap.size t 5 (.slice (some ⟨g, 0, none⟩) (L.length + [E].length) cap) (L.length + [E].length) (evs (L ++ [E])) ∧ Below w.heap.size w w1 := by
  refine ⟨by rw [evs_snoc]; exact hown1, ?_⟩
  have h1 := hbel.size
  have b1 : Below w.heap.size w ((wr.alloc o).drewN n) := bdrewN (hbel.alloc (by omega) o) n
  have b2 := b1.alloc (by have := b1.size; omega) o2
  exact b2.grown hgrow b2.size (fun k e => (hO.lt k e).1)
set_option maxRecDepth 100000 in
set_option maxHeartbeats 2000000 in
theorem rwaiting_any (b : Nat) (R : Ref) (s : Int) (w : World) (h : MemR w b R) (hall : R.all.length ≤ 1000) :
    Calls Tryz.prog 42 #[.pointer (some ⟨b, 0, none⟩), .int .i64 s] w fun e w' => ∃ (a : Option Addr) (c : Nat), e = .returned (.slice a (R.wait s).length c) ∧ w'.ownsRow w.heap.size 30 5 (.slice a (R.wait s).length c) (R.wait s).length (evs (R.wait s)) ∧ Below w.heap.size w w' := by
  obtain ⟨i0, hi0, hz0, hz1, hz2⟩ := info_parts Tryz.infoEv
  have hlt0 := h.eng.lt
  go_enter Tryz.func42, Tryz.ntmps42
  go_wp2
  go_loopw [5, 6] (fun v i wr => ∃ (k : Nat) (a : Option Addr) (c : Nat), k ≤ R.all.length ∧ i = .int .i64 k ∧ v = .slice a ((R.all.take k).filter (waits R.merged s)).length c ∧ wr.ownsRow w.heap.size 30 5 (.slice a ((R.all.take k).filter (waits R.merged s)).length c) ((R.all.take k).filter (waits R.merged s)).length (evs ((R.all.take k).filter (waits R.merged s))) ∧ Below w.heap.size w wr) (fun _ i _ => R.all.length - (intOf i).toNat)
  case atStart => exact ⟨0, none, 0, Nat.zero_le _, rfl, by simp, by simpa using World.ownsRow_nil _ _ _ _, Below.refl _ _⟩
  case round =>
    obtain ⟨k, a, c, hk, rfl, rfl, hown, hbel⟩ := hrel
    have hR := h.below hbel
    obtain ⟨_, _, c10, _, c12⟩ := hR.cells
    have hsz := hbel.size
    have hfl : ((R.all.take k).filter (waits R.merged s)).length ≤ 1000 := by
      have := List.length_filter_le (waits R.merged s) (R.all.take k)
      simp at this; omega
    by_cases hlt : k < R.all.length
    · obtain ⟨g, hg, hnc, e0, e1, e2, e3, e4⟩ := evRow_cells hR.all k hlt
      rw [hg] at c10
      have hlt' : (k : Int) < (R.all.length : Int) := by omega
      have hk0 : (0 : Int) ≤ (k : Int) := by omega
      have hgl := World.block_lt_of_cell? wr _ e0
      simp only at hgl
      have HO : Hid (wr.ownsRow w.heap.size 30 5 (.slice a ((R.all.take k).filter (waits R.merged s)).length c) ((R.all.take k).filter (waits R.merged s)).length (evs ((R.all.take k).filter (waits R.merged s)))) := hown
      have HF : Hid ((R.all.take (k + 1)).filter (waits R.merged s) = (R.all.take k).filter (waits R.merged s) ++ if waits R.merged s R.all[k] then [R.all[k]] else []) := filter_snoc _ _ _ hlt
      have c12a : ∀ o, (wr.alloc o).cell? ⟨b, 12, none⟩ = some (.int .i64 R.merged) := fun o => (hR.alloc o).cells.2.2.2.2
      clear hown hR
      generalize (R.all.take k).filter (waits R.merged s) = L at *
      generalize hE : R.all[k] = E at *
      by_cases t1 : R.merged ≤ E.ts
      · by_cases t2 : s < 0
        · have HW : Hid (waits R.merged s E = true) := by show _ = _; simp [waits, t1, t2]
          go_wp2
          go_quiet (fail)
          go_wp2_with (at_builtin; refine wpList_append_lies _ rfl _ _ _ rfl w.heap.size 30 i0 _ 5 40 Tryz.underlying22 hi0 hz0 hz1 hz2 rfl (by omega) (.slice a L.length c) L.length (evs L) rfl (ownsRow_of_heap HO.out (two_old _ _ _ _)) ⟨wr.heap.size + 1, 0, none⟩ 1 1 E.vals rfl rfl (news_new _ _ (by simp) E.vals 30) (Ev.one E) (by omega) (by unfold maxLen; omega) (by omega) (by simp; omega) _ rfl ?_; intro g2 cap w1 hown1 hgrow hat hlt1)
          go_roundw
          case rel =>
            have hst := gather_step HO.out hbel hown1 hgrow
            refine ⟨k + 1, some ⟨g2, 0, none⟩, cap, by omega, by go_num, ?_, ?_, hst.2⟩
            · rw [HF.out, HW.out, if_pos rfl, List.length_append]; rfl
            · rw [HF.out, HW.out, if_pos rfl, List.length_append]; exact hst.1
          case measure => simp [intOf]; omega
        · by_cases t3 : E.src = s
          · have HW : Hid (waits R.merged s E = true) := by show _ = _; simp [waits, t1, t3]
            subst t3
            have hd : decide (E.src < 0) = false := by simpa using t2
            go_wp2
            go_quiet (fail)
            go_wp2_with (at_builtin; refine wpList_append_lies _ rfl _ _ _ rfl w.heap.size 30 i0 _ 5 40 Tryz.underlying22 hi0 hz0 hz1 hz2 rfl (by omega) (.slice a L.length c) L.length (evs L) rfl (ownsRow_of_heap HO.out (two_old _ _ _ _)) ⟨wr.heap.size + 1, 0, none⟩ 1 1 E.vals rfl rfl (news_new _ _ (by simp) E.vals 30) (Ev.one E) (by omega) (by unfold maxLen; omega) (by omega) (by simp; omega) _ rfl ?_; intro g2 cap w1 hown1 hgrow hat hlt1)
            go_roundw
            case rel =>
              have hst := gather_step HO.out hbel hown1 hgrow
              refine ⟨k + 1, some ⟨g2, 0, none⟩, cap, by omega, by go_num, ?_, ?_, hst.2⟩
              · rw [HF.out, HW.out, if_pos rfl, List.length_append]; rfl
              · rw [HF.out, HW.out, if_pos rfl, List.length_append]; exact hst.1
            case measure => simp [intOf]; omega
          · have HW : Hid (waits R.merged s E = false) := by show _ = _; simp [waits, t2, t3]
            have hd : decide (s < 0) = false := by simpa using t2
            have h3 : (E.src == s) = false := by simpa using t3
            go_wp2
            go_quiet (fail)
            go_wp2
            go_roundw
            case rel =>
              refine ⟨k + 1, a, c, by omega, by go_num, ?_, ?_, bdrewN (hbel.alloc (by omega) _) _⟩
              · rw [HF.out, HW.out]; simp
              · rw [HF.out, HW.out]; simp only [Bool.false_eq_true, if_false, List.append_nil]; exact ownsRow_of_heap HO.out (one_old _ _ _)
            case measure => simp [intOf]; omega
      · have HW : Hid (waits R.merged s E = false) := by show _ = _; simp [waits, t1]
        have hd : decide (R.merged ≤ E.ts) = false := by simpa using t1
        go_wp2
        go_quiet (fail)
        go_wp2
        go_roundw
        case rel =>
          refine ⟨k + 1, a, c, by omega, by go_num, ?_, ?_, bdrewN (hbel.alloc (by omega) _) _⟩
          · rw [HF.out, HW.out]; simp
          · rw [HF.out, HW.out]; simp only [Bool.false_eq_true, if_false, List.append_nil]; exact ownsRow_of_heap HO.out (one_old _ _ _)
        case measure => simp [intOf]; omega
    · go_wp2
      go_ret
      have he : (R.all.take k).filter (waits R.merged s) = R.wait s := by rw [List.take_of_length_le (by omega)]; rfl
      rw [he] at hown
      exact ⟨a, c, ret_slice (by rw [he]), hown, hbel⟩
end Go.Proofs.YtghcololkgeoeabGreat
