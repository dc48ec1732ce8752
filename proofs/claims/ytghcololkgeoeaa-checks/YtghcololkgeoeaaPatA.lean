import Derived.Test.YtghcololkgeoeaaRows
import Derived.Test.YtghcololkgeoeaaPatM
import Derived.WalkKit
import Derived.WalkSpells
import Derived.WalkLawsBesides
import Derived.Test.YtghcololkgeoeaaOrd
import Derived.Deep.RegionHeld3
import Derived.Deep.RegionLaw
import Derived.Deep.AppendLies
import Derived.Deep.CutBlock
import Derived.Deep.DeepCutAuto
import Derived.Deep.DrawnRows
import Derived.Lib.IndexBytes
namespace Go.Proofs.Ytghcololkgeoeaa
open Go.RowKit
set_option linter.unusedVariables false
set_option linter.unusedSimpArgs false

/-- A whole block of cells, none of them frozen. -/
def Blk (w : World) (b : Nat) (t : TypeId) (l : List Value) : Prop := w.heap[b]? = some (.cells l.toArray t)

theorem Blk.cell {w : World} {b : Nat} {t : TypeId} {l : List Value} (h : Blk w b t l) (o : Nat) : w.cell? ⟨b, o, none⟩ = l[o]? := by
  unfold Blk at h; simp [World.cell?, h]
theorem Blk.frozen {w : World} {b : Nat} {t : TypeId} {l : List Value} (h : Blk w b t l) (o : Nat) : w.frozen? ⟨b, o, none⟩ = false := by
  unfold Blk at h; simp [World.frozen?, h]
theorem Blk.set {w : World} {b : Nat} {t : TypeId} {l : List Value} (h : Blk w b t l) (o : Nat) (v : Value) : Blk (w.setCell ⟨b, o, none⟩ v) b t (l.set o v) := by
  unfold Blk at *
  simp [World.setCell, Array.getElem?_modify, h]
theorem Blk.other {w : World} {b : Nat} {t : TypeId} {l : List Value} (h : Blk w b t l) {a : Addr} (ha : a.block ≠ b) (v : Value) : Blk (w.setCell a v) b t l := by
  unfold Blk at *
  rw [Below.heap_setCell _ _ _ _ (Ne.symm ha)]; exact h
theorem Blk.lt {w : World} {b : Nat} {t : TypeId} {l : List Value} (h : Blk w b t l) : b < w.heap.size := by
  unfold Blk at h
  by_cases hb : b < w.heap.size
  · exact hb
  · rw [Array.getElem?_eq_none (by omega)] at h; simp at h

theorem below_set {w : World} {b o : Nat} {v : Value} : Below b w (w.setCell ⟨b, o, none⟩ v) := (Below.refl b w).setCell (p := ⟨b, o, none⟩) (Nat.le_refl _) v
theorem below_set2 {w : World} {b o o' : Nat} {v v' : Value} : Below b w ((w.setCell ⟨b, o, none⟩ v).setCell ⟨b, o', none⟩ v') := below_set.trans below_set
theorem below_set3 {w : World} {b o o' o2 : Nat} {v v' v2 : Value} : Below b w (((w.setCell ⟨b, o, none⟩ v).setCell ⟨b, o', none⟩ v').setCell ⟨b, o2, none⟩ v2) := below_set2.trans below_set

theorem Blk.grown {w w' : World} {row : Option Nat} {b : Nat} {t : TypeId} {l : List Value} (h : Blk w b t l) (hg : w.grownBy w' row) (hne : row ≠ some b) : Blk w' b t l := by
  have hlt := h.lt
  unfold Blk at *
  rw [hg.block b hlt (Ne.symm hne)]; exact h
theorem Blk.alloc {w : World} {b : Nat} {t : TypeId} {l : List Value} (h : Blk w b t l) (o : Obj) : Blk (w.alloc o) b t l := by
  have hlt := h.lt
  unfold Blk at *
  rw [Below.heap_alloc _ _ _ hlt]; exact h
theorem Blk.below {w w' : World} {B b : Nat} {t : TypeId} {l : List Value} (h : Blk w b t l) (hb : Below B w w') (hlt : b < B) : Blk w' b t l := by
  unfold Blk at *
  rw [hb.block b hlt]; exact h
theorem Blk.drew {w : World} {b : Nat} {t : TypeId} {l : List Value} (h : Blk w b t l) : Blk w.drew b t l := h

def flat (l : List (Int × Int)) : List Value := l.flatMap fun p => [.int .i64 p.1, .int .i64 p.2]
theorem flat_snoc (l : List (Int × Int)) (a b : Int) : flat (l ++ [(a, b)]) = flat l ++ [.int .i64 a, .int .i64 b] := by simp [flat]

/-- the reader's cells -/
def Rd.vals (r : Rd) (a : Option Addr) (c : Nat) : List Value := [.int .i64 r.a, .int .i64 r.br, .int .i64 r.d, .slice a r.sts.length c, .bool r.same, .int .i64 r.v]
theorem Try.infoPStep : (Try.prog.info? 122).map (fun i => (i.zero, i.size, i.bytes)) = some (some (.agg #[.int .i64 0, .int .i64 0]), 2, 16) := by kernel_rfl
/-- the reader lies at block b, its steps above it -/
structure RdAt (w : World) (b : Nat) (r : Rd) (a : Option Addr) (c : Nat) : Prop where
  blk : Blk w b 107 (r.vals a c)
  own : w.ownsRow (b + 1) 122 2 (.slice a r.sts.length c) r.sts.length (flat r.sts)
theorem RdAt.set {w : World} {b : Nat} {r r' : Rd} {a : Option Addr} {c : Nat} (h : RdAt w b r a c) (o : Nat) (v : Value) (hs : r'.sts = r.sts) (hv : r'.vals a c = (r.vals a c).set o v) : RdAt (w.setCell ⟨b, o, none⟩ v) b r' a c := by
  refine ⟨?_, ?_⟩
  · rw [hv]; exact h.blk.set o v
  · rw [hs]; exact ownsRow_setCell_below h.own (by simp) _
theorem RdAt.app {w w1 : World} {b : Nat} {r : Rd} {a : Option Addr} {c g cap : Nat} {x y : Int} {o : Obj} (h : RdAt w b r a c)
    (hown : w1.ownsRow (b + 1) 122 2 (.slice (some ⟨g, 0, none⟩) (r.sts.length + 1) cap) (r.sts.length + 1) (flat r.sts ++ [.int .i64 x, .int .i64 y]))
    (hg : (w.alloc o).drew.grownBy w1 (Value.slice a r.sts.length c).ownBlock) :
    Blk w1 b 107 (r.vals a c) ∧ RdAt (w1.setCell ⟨b, 3, none⟩ (.slice (some ⟨g, 0, none⟩) (r.sts.length + 1) cap)) b { r with sts := r.sts ++ [(x, y)] } (some ⟨g, 0, none⟩) cap ∧ Below b w (w1.setCell ⟨b, 3, none⟩ (.slice (some ⟨g, 0, none⟩) (r.sts.length + 1) cap)) := by
  have hlt := h.own.lt
  have hbl := h.blk.lt
  have n0 : (Value.slice a r.sts.length c).ownBlock ≠ some b := fun e => by have := hlt _ e; omega
  have hb1 : Blk w1 b 107 (r.vals a c) := ((h.blk.alloc o).drew).grown hg n0
  refine ⟨hb1, ⟨?_, ?_⟩, ?_⟩
  · have := hb1.set 3 (.slice (some ⟨g, 0, none⟩) (r.sts.length + 1) cap)
    simpa [Rd.vals] using this
  · simp only [flat_snoc, List.length_append, List.length_cons, List.length_nil]
    exact ownsRow_setCell_below hown (by simp) _
  · have b1 : Below b w (w.alloc o).drew := ((Below.refl b w).alloc (by omega) o).drew
    exact (b1.grown hg (by show _ ≤ (w.alloc o).heap.size; simp; omega) (fun k e => by have := hlt k e; omega)).setCell (p := ⟨b, 3, none⟩) (by simp) _

set_option maxHeartbeats 400000 in
theorem isLetter_any (c : Int) (w : World) :
    Calls Try.prog 61 #[.int .u8 c] w fun e w' => e = .returned (.bool (decide (65 ≤ c ∧ c ≤ 90))) ∧ w = w' := by
  by_cases h1 : 65 ≤ c
  all_goals by_cases h2 : c ≤ 90
  all_goals
    go_enter Try.func61, Try.ntmps61
    go_wp2
    go_ret
    exact ⟨by simp [h1, h2], rfl⟩

set_option maxHeartbeats 400000 in
theorem takeBarSign_no (b : Nat) (r : Rd) (w : World) {a : Option Addr} {cc : Nat} (hb : RdAt w b r a cc) (h : 3 ≤ r.sts.length) :
    Calls Try.prog 62 #[.pointer (some ⟨b, 0, none⟩)] w fun e w' => e = .returned (.bool false) ∧ w' = w := by
  have h1 := hb.blk.cell 3
  simp [Rd.vals] at h1
  go_enter Try.func62, Try.ntmps62
  go_wp2
  go_ret
  exact ⟨rfl, rfl⟩
set_option maxHeartbeats 400000 in
theorem takeBarSign_yes (b : Nat) (r : Rd) (w : World) {a : Option Addr} {cc : Nat} (hb : RdAt w b r a cc) (h : r.sts.length < 3) :
    Calls Try.prog 62 #[.pointer (some ⟨b, 0, none⟩)] w fun e w' => e = .returned (.bool true) ∧ (∃ a c, RdAt w' b { r with a := 2 } a c) ∧ Below b w w' := by
  have h0 := hb.blk.cell 0
  have h1 := hb.blk.cell 3
  simp [Rd.vals] at h0 h1
  have f0 := hb.blk.frozen 0
  go_enter Try.func62, Try.ntmps62
  go_wp2
  go_ret
  exact ⟨rfl, ⟨_, _, hb.set 0 _ rfl rfl⟩, below_set⟩

set_option maxHeartbeats 400000 in
theorem takeBarredKind_no (b : Nat) (c : Int) (w : World) (h : ¬ (65 ≤ c ∧ c ≤ 90)) :
    Calls Try.prog 54 #[.pointer (some ⟨b, 0, none⟩), .int .u8 c] w fun e w' => e = .returned (.bool false) ∧ w' = w := by
  go_enter Try.func54, Try.ntmps54
  go_wp2_with (go_at_call 61; refine (isLetter_any _ _).mono ?_; rintro e w' ⟨rfl, rfl⟩; simp only [h, decide_false])
  go_ret
  exact ⟨rfl, rfl⟩
set_option maxHeartbeats 400000 in
theorem takeBarredKind_yes (b : Nat) (r : Rd) (c : Int) (w : World) {a : Option Addr} {cc : Nat} (hb : RdAt w b r a cc) (h : 65 ≤ c ∧ c ≤ 90) :
    Calls Try.prog 54 #[.pointer (some ⟨b, 0, none⟩), .int .u8 c] w fun e w' => e = .returned (.bool true) ∧ (∃ a' c', RdAt w' b { r with a := 3, br := c } a' c') ∧ Below b w w' := by
  have h0 := hb.blk.cell 0
  have h1 := hb.blk.cell 1
  simp [Rd.vals] at h0 h1
  have f0 := hb.blk.frozen 0
  have f1 := hb.blk.frozen 1
  have hw1 : IntKind.i64.wrap c = c := by rw [IntKind.wrap_i64]; omega
  go_enter Try.func54, Try.ntmps54
  go_wp2_with (go_at_call 61; refine (isLetter_any _ _).mono ?_; rintro e w' ⟨rfl, rfl⟩; simp only [h, decide_true, and_self])
  go_ret
  exact ⟨rfl, ⟨_, _, (hb.set (r' := { r with br := c }) 1 _ rfl rfl).set 0 _ rfl rfl⟩, below_set2⟩

set_option maxHeartbeats 400000 in
theorem takeWindowSign_no (b : Nat) (c : Int) (w : World) (h : c ≠ 64) :
    Calls Try.prog 55 #[.pointer (some ⟨b, 0, none⟩), .int .u8 c] w fun e w' => e = .returned (.bool false) ∧ w' = w := by
  have h' : (c == 64) = false := by simpa using h
  go_enter Try.func55, Try.ntmps55
  go_wp2
  go_ret
  exact ⟨rfl, rfl⟩
set_option maxHeartbeats 400000 in
theorem takeWindowSign_yes (b : Nat) (r : Rd) (w : World) {a : Option Addr} {cc : Nat} (hb : RdAt w b r a cc) :
    Calls Try.prog 55 #[.pointer (some ⟨b, 0, none⟩), .int .u8 64] w fun e w' => e = .returned (.bool true) ∧ (∃ a c, RdAt w' b { r with a := 5 } a c) ∧ Below b w w' := by
  have h0 := hb.blk.cell 0
  simp [Rd.vals] at h0
  have f0 := hb.blk.frozen 0
  go_enter Try.func55, Try.ntmps55
  go_wp2
  go_ret
  exact ⟨rfl, ⟨_, _, hb.set 0 _ rfl rfl⟩, below_set⟩

set_option maxHeartbeats 400000 in
theorem takeStep_no (b : Nat) (r : Rd) (c : Int) (w : World) {a : Option Addr} {cc : Nat} (hb : RdAt w b r a cc) (h : ¬ (65 ≤ c ∧ c ≤ 90) ∨ 3 ≤ r.sts.length) :
    Calls Try.prog 52 #[.pointer (some ⟨b, 0, none⟩), .int .u8 c] w fun e w' => e = .returned (.bool false) ∧ w' = w := by
  have h1 := hb.blk.cell 3
  simp [Rd.vals] at h1
  by_cases hc : 65 ≤ c ∧ c ≤ 90
  · have h3 : 3 ≤ r.sts.length := h.resolve_left (fun g => g hc)
    clear h
    go_enter Try.func52, Try.ntmps52
    go_wp2_with (go_at_call 61; refine (isLetter_any _ _).mono ?_; rintro e w' ⟨rfl, rfl⟩; simp only [hc, decide_true, and_self])
    go_ret
    exact ⟨rfl, rfl⟩
  · go_enter Try.func52, Try.ntmps52
    go_wp2_with (go_at_call 61; refine (isLetter_any _ _).mono ?_; rintro e w' ⟨rfl, rfl⟩; simp only [hc, decide_false])
    go_ret
    exact ⟨rfl, rfl⟩
set_option maxRecDepth 100000 in
set_option maxHeartbeats 4000000 in
theorem takeStep_yes (b : Nat) (r : Rd) (c : Int) (w : World) {a : Option Addr} {cc : Nat} (hb : RdAt w b r a cc) (hc : 65 ≤ c ∧ c ≤ 90) (h3 : r.sts.length < 3) :
    Calls Try.prog 52 #[.pointer (some ⟨b, 0, none⟩), .int .u8 c] w fun e w' => e = .returned (.bool true) ∧ (∃ a' c', RdAt w' b { r with a := 1, br := 0, sts := r.sts ++ [(c, r.br)] } a' c') ∧ Below b w w' := by
  obtain ⟨i0, hi0, hz0, hz1, hz2⟩ := info_parts Try.infoPStep
  have h1 := hb.blk.cell 1
  have h3' := hb.blk.cell 3
  simp [Rd.vals] at h1 h3'
  have hw1 : IntKind.i64.wrap c = c := by rw [IntKind.wrap_i64]; omega
  have HH : Hid (RdAt w b r a cc) := hb
  have HO : Hid (w.ownsRow (b + 1) 122 2 (.slice a r.sts.length cc) r.sts.length (flat r.sts)) := hb.own
  have hbl := hb.blk.lt
  clear hb
  go_enter Try.func52, Try.ntmps52
  go_upto_region 3 with (go_at_call 61; refine (isLetter_any _ _).mono ?_; rintro e w' ⟨rfl, rfl⟩; simp only [hc, decide_true, and_self])
  refine upTo_region (fun u => u.cell? ⟨b, 3, none⟩ = some (.slice a r.sts.length cc) ∧ u.cell? ⟨b, 1, none⟩ = some (.int .i64 r.br)) 18 19 rfl (by kernel_rfl) ?_
  have hS0 : (fun u : World => u.cell? ⟨b, 3, none⟩ = some (.slice a r.sts.length cc) ∧ u.cell? ⟨b, 1, none⟩ = some (.int .i64 r.br)) w.drew := ⟨h3', h1⟩
  refine upTo_take (i := 0) (v := ?v1_0) rfl (by kernel_rfl) (by kernel_rfl) (by kernel_rfl) (by kernel_rfl) (by rfl) (fun _ _ _ h => h) (by rfl) hS0 ?hy1_0 ?rest1_0
  case hy1_0 => (intro u hu; (try dsimp only at hu); go_simp; first | done | with_reducible rfl)
  (try simp only [Act.put, List.setIfInBounds_toArray, List.set_cons_zero, List.set_cons_succ, List.getElem_toArray, List.getElem_cons_succ, List.getElem_cons_zero])
  refine upTo_take (i := 1) (v := ?v1_1) rfl (by kernel_rfl) (by kernel_rfl) (by kernel_rfl) (by kernel_rfl) (by rfl) (fun _ _ _ h => h) (by rfl) hS0 ?hy1_1 ?rest1_1
  case hy1_1 => (intro u hu; (try dsimp only at hu); go_simp; first | done | with_reducible rfl)
  (try simp only [Act.put, List.setIfInBounds_toArray, List.set_cons_zero, List.set_cons_succ, List.getElem_toArray, List.getElem_cons_succ, List.getElem_cons_zero])
  refine upTo_take (i := 2) (v := ?v1_2) rfl (by kernel_rfl) (by kernel_rfl) (by kernel_rfl) (by kernel_rfl) (by rfl) (fun _ _ _ h => h) (by rfl) hS0 ?hy1_2 ?rest1_2
  case hy1_2 => (intro u hu; (try dsimp only at hu); go_simp; first | done | with_reducible rfl)
  (try simp only [Act.put, List.setIfInBounds_toArray, List.set_cons_zero, List.set_cons_succ, List.getElem_toArray, List.getElem_cons_succ, List.getElem_cons_zero])
  refine upTo_take (i := 3) (v := ?v1_3) rfl (by kernel_rfl) (by kernel_rfl) (by kernel_rfl) (by kernel_rfl) (by rfl) (fun _ _ _ h => h) (by rfl) hS0 ?hy1_3 ?rest1_3
  case hy1_3 => (intro u hu; (try dsimp only at hu); go_simp; first | done | with_reducible rfl)
  (try simp only [Act.put, List.setIfInBounds_toArray, List.set_cons_zero, List.set_cons_succ, List.getElem_toArray, List.getElem_cons_succ, List.getElem_cons_zero])
  refine upTo_take (i := 4) (v := ?v1_4) rfl (by kernel_rfl) (by kernel_rfl) (by kernel_rfl) (by kernel_rfl) (by rfl) (fun _ _ _ h => h) (by rfl) hS0 ?hy1_4 ?rest1_4
  case hy1_4 => (intro u hu; (try dsimp only at hu); go_simp; first | done | with_reducible rfl)
  (try simp only [Act.put, List.setIfInBounds_toArray, List.set_cons_zero, List.set_cons_succ, List.getElem_toArray, List.getElem_cons_succ, List.getElem_cons_zero])
  refine upTo_take (i := 5) (v := ?v1_5) rfl (by kernel_rfl) (by kernel_rfl) (by kernel_rfl) (by kernel_rfl) (by rfl) (fun _ _ _ h => h) (by rfl) hS0 ?hy1_5 ?rest1_5
  case hy1_5 => (intro u hu; (try dsimp only at hu); go_simp; first | done | with_reducible rfl)
  (try simp only [Act.put, List.setIfInBounds_toArray, List.set_cons_zero, List.set_cons_succ, List.getElem_toArray, List.getElem_cons_succ, List.getElem_cons_zero])
  refine upTo_take (i := 6) (v := ?v1_6) rfl (by kernel_rfl) (by kernel_rfl) (by kernel_rfl) (by kernel_rfl) (by rfl) (fun _ _ _ h => h) (by rfl) hS0 ?hy1_6 ?rest1_6
  case hy1_6 => (intro u hu; (try dsimp only at hu); go_simp; first | done | with_reducible rfl)
  (try simp only [Act.put, List.setIfInBounds_toArray, List.set_cons_zero, List.set_cons_succ, List.getElem_toArray, List.getElem_cons_succ, List.getElem_cons_zero])
  refine upTo_take (i := 7) (v := ?v1_7) rfl (by kernel_rfl) (by kernel_rfl) (by kernel_rfl) (by kernel_rfl) (by rfl) (fun _ _ _ h => h) (by rfl) hS0 ?hy1_7 ?rest1_7
  case hy1_7 => (intro u hu; (try dsimp only at hu); go_simp; first | done | with_reducible rfl)
  (try simp only [Act.put, List.setIfInBounds_toArray, List.set_cons_zero, List.set_cons_succ, List.getElem_toArray, List.getElem_cons_succ, List.getElem_cons_zero])
  refine upTo_take (i := 8) (v := ?v1_8) rfl (by kernel_rfl) (by kernel_rfl) (by kernel_rfl) (by kernel_rfl) (by rfl) (fun _ _ _ h => h) (by rfl) hS0 ?hy1_8 ?rest1_8
  case hy1_8 => (intro u hu; (try dsimp only at hu); go_simp; first | done | with_reducible rfl)
  (try simp only [Act.put, List.setIfInBounds_toArray, List.set_cons_zero, List.set_cons_succ, List.getElem_toArray, List.getElem_cons_succ, List.getElem_cons_zero])
  refine upTo_take (i := 9) (v := ?v1_9) rfl (by kernel_rfl) (by kernel_rfl) (by kernel_rfl) (by kernel_rfl) (by rfl) (fun _ _ _ h => h) (by rfl) hS0 ?hy1_9 ?rest1_9
  case hy1_9 => (intro u hu; (try dsimp only at hu); go_simp; first | done | with_reducible rfl)
  (try simp only [Act.put, List.setIfInBounds_toArray, List.set_cons_zero, List.set_cons_succ, List.getElem_toArray, List.getElem_cons_succ, List.getElem_cons_zero])
  refine upTo_take (i := 10) (v := ?v1_10) rfl (by kernel_rfl) (by kernel_rfl) (by kernel_rfl) (by kernel_rfl) (by rfl) (fun _ _ _ h => h) (by rfl) hS0 ?hy1_10 ?rest1_10
  case hy1_10 => (intro u hu; (try dsimp only at hu); go_simp; first | done | with_reducible rfl)
  (try simp only [Act.put, List.setIfInBounds_toArray, List.set_cons_zero, List.set_cons_succ, List.getElem_toArray, List.getElem_cons_succ, List.getElem_cons_zero])
  refine upTo_take (i := 11) (v := ?v1_11) rfl (by kernel_rfl) (by kernel_rfl) (by kernel_rfl) (by kernel_rfl) (by rfl) (fun _ _ _ h => h) (by rfl) hS0 ?hy1_11 ?rest1_11
  case hy1_11 => (intro u hu; (try dsimp only at hu); go_simp; first | done | with_reducible rfl)
  (try simp only [Act.put, List.setIfInBounds_toArray, List.set_cons_zero, List.set_cons_succ, List.getElem_toArray, List.getElem_cons_succ, List.getElem_cons_zero])
  refine upTo_take (i := 12) (v := ?v1_12) rfl (by kernel_rfl) (by kernel_rfl) (by kernel_rfl) (by kernel_rfl) (by rfl) (fun _ _ _ h => h) (by rfl) hS0 ?hy1_12 ?rest1_12
  case hy1_12 => (intro u hu; (try dsimp only at hu); go_simp; first | done | with_reducible rfl)
  (try simp only [Act.put, List.setIfInBounds_toArray, List.set_cons_zero, List.set_cons_succ, List.getElem_toArray, List.getElem_cons_succ, List.getElem_cons_zero])
  refine upTo_one (i := 13) (by kernel_rfl) rfl (fun K hK => ?_)
  go_simp
  refine hK.out _ _ (fun _ => ⟨by have := (HH.out.blk.alloc (.cells #[.int .i64 c, .int .i64 r.br] 122)).cell 3; simpa [Rd.vals] using this, by have := (HH.out.blk.alloc (.cells #[.int .i64 c, .int .i64 r.br] 122)).cell 1; simpa [Rd.vals] using this⟩) ?_
  clear hK K
  (try simp only [Act.put, List.setIfInBounds_toArray, List.set_cons_zero, List.set_cons_succ, List.getElem_toArray, List.getElem_cons_succ, List.getElem_cons_zero])
  refine upTo_one (i := 14) (by kernel_rfl) rfl (fun K hK => ?_)
  refine step_append_lies _ (by rfl) _ _ _ (by rfl) (b + 1) 122 i0 _ 2 16 Try.underlying71 hi0 hz0 hz1 hz2 rfl (by omega) (.slice a r.sts.length cc) r.sts.length (flat r.sts) (by rfl) ((HO.out.alloc _).drew) ⟨w.heap.size, 0, none⟩ 1 1 [.int .i64 c, .int .i64 r.br] (by rfl) (by rfl) (World.news_of_block (cs := #[.int .i64 c, .int .i64 r.br]) (t := 122) (fr := (0, 0)) (heap_alloc_new w _)) (by simp [Value.oneCell']) (by omega) (by unfold maxLen; omega) (by omega) (by simp; omega) (w.heap.size + 1) (by simp) ?_
  intro gg cap w1 hown1 hgrow hat hlt1
  obtain ⟨q0, q1, q2⟩ := HH.out.app hown1 hgrow
  have q3 := q0.cell 3
  have q4 := q0.frozen 3
  have q5 := q0.cell 1
  simp [Rd.vals] at q3 q5
  refine hK.out _ _ (fun _ => ⟨q3, q5⟩) ?_
  clear hK K hS0
  (try simp only [Act.put, List.setIfInBounds_toArray, List.set_cons_zero, List.set_cons_succ, List.getElem_toArray, List.getElem_cons_succ, List.getElem_cons_zero])
  refine upTo_one (i := 15) (by kernel_rfl) rfl (fun K hK => ?_)
  go_simp
  refine hK.out _ _ (fun _ => ⟨q3, q5⟩) ?_
  clear hK K
  (try simp only [Act.put, List.setIfInBounds_toArray, List.set_cons_zero, List.set_cons_succ, List.getElem_toArray, List.getElem_cons_succ, List.getElem_cons_zero])
  refine upTo_one (i := 16) (by kernel_rfl) rfl (fun K hK => ?_)
  go_simp
  refine hK.out _ _ (fun _ => ⟨q3, q5⟩) ?_
  clear hK K
  (try simp only [Act.put, List.setIfInBounds_toArray, List.set_cons_zero, List.set_cons_succ, List.getElem_toArray, List.getElem_cons_succ, List.getElem_cons_zero])
  refine upTo_one (i := 17) (by kernel_rfl) rfl (fun K hK => ?_)
  go_simp
  refine hK.out _ _ (fun _ => ⟨q3, q5⟩) ?_
  clear hK K
  (try simp only [Act.put, List.setIfInBounds_toArray, List.set_cons_zero, List.set_cons_succ, List.getElem_toArray, List.getElem_cons_succ, List.getElem_cons_zero])
  refine upTo_one (i := 18) (by kernel_rfl) rfl (fun K hK => ?_)
  go_simp
  refine hK.out _ _ (fun h => absurd rfl h) ?_
  clear hK K
  (try simp only [Act.put, List.setIfInBounds_toArray, List.set_cons_zero, List.set_cons_succ, List.getElem_toArray, List.getElem_cons_succ, List.getElem_cons_zero])
  refine upTo_done (by kernel_rfl) ?_
  have HQ1 : Hid (RdAt (w1.setCell ⟨b, 3, none⟩ (.slice (some ⟨gg, 0, none⟩) (r.sts.length + 1) cap)) b { r with sts := r.sts ++ [(c, r.br)] } (some ⟨gg, 0, none⟩) cap) := q1
  have HQ2 : Hid (Below b w (w1.setCell ⟨b, 3, none⟩ (.slice (some ⟨gg, 0, none⟩) (r.sts.length + 1) cap))) := q2
  clear q0 q1 q2 q3 q4 q5 h1 h3' hown1 hgrow hat hlt1
  generalize w1.setCell ⟨b, 3, none⟩ (.slice (some ⟨gg, 0, none⟩) (r.sts.length + 1) cap) = wz at *
  have z0 := HQ1.out.blk.cell 0
  have z1 := HQ1.out.blk.cell 1
  simp [Rd.vals] at z0 z1
  have f0 := HQ1.out.blk.frozen 0
  have f1 := HQ1.out.blk.frozen 1
  go_wp2
  go_ret
  exact ⟨rfl, ⟨_, _, (HQ1.out.set (r' := { r with br := 0, sts := r.sts ++ [(c, r.br)] }) 1 _ rfl rfl).set 0 _ rfl rfl⟩, HQ2.out.trans below_set2⟩

set_option maxHeartbeats 400000 in
theorem takeDigit_yes (b : Nat) (r : Rd) (c : Int) (w : World) {a : Option Addr} {cc : Nat} (hb : RdAt w b r a cc) (hd : 0 ≤ r.d) (hv : 0 ≤ r.v) (hv' : r.v ≤ 1099511627776) (h1' : 48 ≤ c) (h2' : c ≤ 57) (h3' : r.d < 13) (h4' : 10 * r.v + (c - 48) ≤ 1099511627776) :
    Calls Try.prog 56 #[.pointer (some ⟨b, 0, none⟩), .int .u8 c] w fun e w' => e = .returned (.bool true) ∧ (∃ a' c', RdAt w' b { r with a := 6, d := r.d + 1, v := 10 * r.v + (c - 48) } a' c') ∧ Below b w w' := by
  have h0 := hb.blk.cell 0
  have h2 := hb.blk.cell 2
  have h3 := hb.blk.cell 5
  simp [Rd.vals] at h0 h2 h3
  have f0 := hb.blk.frozen 0
  have f2 := hb.blk.frozen 2
  have f3 := hb.blk.frozen 5
  go_enter Try.func56, Try.ntmps56
  go_wp2
  go_ret
  exact ⟨rfl, ⟨_, _, ((hb.set (r' := { r with v := 10 * r.v + (c - 48) }) 5 _ rfl rfl).set (r' := { r with d := r.d + 1, v := 10 * r.v + (c - 48) }) 2 _ rfl rfl).set 0 _ rfl rfl⟩, below_set3⟩
set_option maxHeartbeats 400000 in
theorem takeDigit_no (b : Nat) (r : Rd) (c : Int) (w : World) {a : Option Addr} {cc : Nat} (hb : RdAt w b r a cc) (hd : 0 ≤ r.d) (hv : 0 ≤ r.v) (hv' : r.v ≤ 1099511627776) (h0c : 0 ≤ c) (hc : c ≤ 255) (h : ¬ (48 ≤ c ∧ c ≤ 57 ∧ r.d < 13 ∧ 10 * r.v + (c - 48) ≤ 1099511627776)) :
    Calls Try.prog 56 #[.pointer (some ⟨b, 0, none⟩), .int .u8 c] w fun e w' => e = .returned (.bool false) ∧ w' = w := by
  have h2 := hb.blk.cell 2
  have h3 := hb.blk.cell 5
  simp [Rd.vals] at h2 h3
  by_cases g1 : 48 ≤ c
  · by_cases g2 : c ≤ 57
    · by_cases g3 : r.d < 13
      · have g4 : 1099511627776 < 10 * r.v + (c - 48) := by omega
        clear h
        go_enter Try.func56, Try.ntmps56
        go_wp2
        go_ret
        exact ⟨rfl, rfl⟩
      · clear h
        go_enter Try.func56, Try.ntmps56
        go_wp2
        go_ret
        exact ⟨rfl, rfl⟩
    · clear h
      go_enter Try.func56, Try.ntmps56
      go_wp2
      go_ret
      exact ⟨rfl, rfl⟩
  · clear h
    go_enter Try.func56, Try.ntmps56
    go_wp2
    go_ret
    exact ⟨rfl, rfl⟩
end Go.Proofs.Ytghcololkgeoeaa
