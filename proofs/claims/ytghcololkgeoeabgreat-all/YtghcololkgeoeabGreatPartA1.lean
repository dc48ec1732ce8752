import Derived.Test.YtghcololkgeoeabGreatRows
import Derived.Test.YtghcololkgeoeabGreatPartA0
import Derived.WalkKit
import Derived.WalkSpells
import Derived.WalkLawsBesides
import Derived.Deep.RegionHeld3
import Derived.Deep.RegionLaw
import Derived.Deep.AppendLies
import Derived.Deep.CutBlock
import Derived.Deep.DeepCutAuto
import Derived.Deep.DrawnRows
import Derived.Lib.IndexBytes
namespace Go.Proofs.YtghcololkgeoeabGreat
open Go.RowKit
set_option linter.unusedVariables false
set_option linter.unusedSimpArgs false

def Blk (w : World) (b : Nat) (t : TypeId) (l : List Value) : Prop := w.heap[b]? = some (.cells l.toArray t)

theorem Blk.cell {w : World} {b : Nat} {t : TypeId} {l : List Value} (h : Blk w b t l) (o : Nat) : w.cell? ⟨b, o, none⟩ = l[o]? := by
  unfold Blk at h; simp [World.cell?, h]
theorem Blk.frozen {w : World} {b : Nat} {t : TypeId} {l : List Value} (h : Blk w b t l) (o : Nat) : w.frozen? ⟨b, o, none⟩ = false := by
  unfold Blk at h; simp [World.frozen?, h]
theorem Blk.set {w : World} {b : Nat} {t : TypeId} {l : List Value} (h : Blk w b t l) (o : Nat) (v : Value) : Blk (w.setCell ⟨b, o, none⟩ v) b t (l.set o v) := by
  unfold Blk at *
  simp [World.setCell, Array.getElem?_modify, h]
theorem Blk.other {w : World} {b : Nat} {t : TypeId} {l : List Value} (h : Blk w b t l) {a : Addr} (ha : a.block ≠ b) (v : Value) : Blk (w.setCell a v) b t l := by
  unfold Blk at *
  rw [Below.heap_setCell _ _ _ _ (Ne.symm ha)]; exact h
theorem Blk.lt {w : World} {b : Nat} {t : TypeId} {l : List Value} (h : Blk w b t l) : b < w.heap.size := by
  unfold Blk at h
  by_cases hb : b < w.heap.size
  · exact hb
  · rw [Array.getElem?_eq_none (by omega)] at h; simp at h

theorem below_set {w : World} {b o : Nat} {v : Value} : Below b w (w.setCell ⟨b, o, none⟩ v) := (Below.refl b w).setCell (p := ⟨b, o, none⟩) (Nat.le_refl _) v
theorem below_set2 {w : World} {b o o' : Nat} {v v' : Value} : Below b w ((w.setCell ⟨b, o, none⟩ v).setCell ⟨b, o', none⟩ v') := below_set.trans below_set
theorem below_set3 {w : World} {b o o' o2 : Nat} {v v' v2 : Value} : Below b w (((w.setCell ⟨b, o, none⟩ v).setCell ⟨b, o', none⟩ v').setCell ⟨b, o2, none⟩ v2) := below_set2.trans below_set

theorem Blk.grown {w w' : World} {row : Option Nat} {b : Nat} {t : TypeId} {l : List Value} (h : Blk w b t l) (hg : w.grownBy w' row) (hne : row ≠ some b) : Blk w' b t l := by
  have hlt := h.lt
  unfold Blk at *
  rw [hg.block b hlt (Ne.symm hne)]; exact h
theorem Blk.alloc {w : World} {b : Nat} {t : TypeId} {l : List Value} (h : Blk w b t l) (o : Obj) : Blk (w.alloc o) b t l := by
  have hlt := h.lt
  unfold Blk at *
  rw [Below.heap_alloc _ _ _ hlt]; exact h
theorem Blk.below {w w' : World} {B b : Nat} {t : TypeId} {l : List Value} (h : Blk w b t l) (hb : Below B w w') (hlt : b < B) : Blk w' b t l := by
  unfold Blk at *
  rw [hb.block b hlt]; exact h
theorem Blk.drew {w : World} {b : Nat} {t : TypeId} {l : List Value} (h : Blk w b t l) : Blk w.drew b t l := h

def flat (l : List (Int × Int)) : List Value := l.flatMap fun p => [.int .i64 p.1, .int .i64 p.2]
theorem flat_snoc (l : List (Int × Int)) (a b : Int) : flat (l ++ [(a, b)]) = flat l ++ [.int .i64 a, .int .i64 b] := by simp [flat]

def Rd.vals (r : Rd) (a : Option Addr) (c : Nat) : List Value := [.int .i64 r.a, .int .i64 r.br, .int .i64 r.d, .slice a r.sts.length c, .bool r.same, .int .i64 r.v]
theorem Tryz.infoPStep : (Tryz.prog.info? 152).map (fun i => (i.zero, i.size, i.bytes)) = some (some (.agg #[.int .i64 0, .int .i64 0]), 2, 16) := by kernel_rfl
structure RdAt (w : World) (b : Nat) (r : Rd) (a : Option Addr) (c : Nat) : Prop where
  blk : Blk w b 129 (r.vals a c)
  own : w.ownsRow (b + 1) 152 2 (.slice a r.sts.length c) r.sts.length (flat r.sts)
theorem RdAt.set {w : World} {b : Nat} {r r' : Rd} {a : Option Addr} {c : Nat} (h : RdAt w b r a c) (o : Nat) (v : Value) (hs : r'.sts = r.sts) (hv : r'.vals a c = (r.vals a c).set o v) : RdAt (w.setCell ⟨b, o, none⟩ v) b r' a c := by
  refine ⟨?_, ?_⟩
  · rw [hv]; exact h.blk.set o v
  · rw [hs]; exact ownsRow_setCell_below h.own (by simp) _
theorem RdAt.app {w w1 : World} {b : Nat} {r : Rd} {a : Option Addr} {c g cap : Nat} {x y : Int} {o : Obj} (h : RdAt w b r a c)
    (hown : w1.ownsRow (b + 1) 152 2 (.slice (some ⟨g, 0, none⟩) (r.sts.length + 1) cap) (r.sts.length + 1) (flat r.sts ++ [.int .i64 x, .int .i64 y]))
    (hg : (w.alloc o).drew.grownBy w1 (Value.slice a r.sts.length c).ownBlock) :
    Blk w1 b 129 (r.vals a c) ∧ RdAt (w1.setCell ⟨b, 3, none⟩ (.slice (some ⟨g, 0, none⟩) (r.sts.length + 1) cap)) b { r with sts := r.sts ++ [(x, y)] } (some ⟨g, 0, none⟩) cap ∧ Below b w (w1.setCell ⟨b, 3, none⟩ (.slice (some ⟨g, 0, none⟩) (r.sts.length + 1) cap)) := by
  have hlt := h.own.lt
  have hbl := h.blk.lt
  have n0 : (Value.slice a r.sts.length c).ownBlock ≠ some b := fun e => by have := hlt _ e; omega
  have hb1 : Blk w1 b 129 (r.vals a c) := ((h.blk.alloc o).drew).grown hg n0
  refine ⟨hb1, ⟨?_, ?_⟩, ?_⟩
  · have := hb1.set 3 (.slice (some ⟨g, 0, none⟩) (r.sts.length + 1) cap)
    simpa [Rd.vals] using this
  · simp only [flat_snoc, List.length_append, List.length_cons, List.length_nil]
    exact ownsRow_setCell_below hown (by simp) _
  · have b1 : Below b w (w.alloc o).drew := ((Below.refl b w).alloc (by omega) o).drew
    exact (b1.grown hg (by show _ ≤ (w.alloc o).heap.size; simp; omega) (fun k e => by have := hlt k e; omega)).setCell (p := ⟨b, 3, none⟩) (by simp) _

set_option maxHeartbeats 400000 in
theorem isLetter_any (c : Int) (w : World) :
    Calls Tryz.prog 101 #[.int .u8 c] w fun e w' => e = .returned (.bool (decide (65 ≤ c ∧ c ≤ 90))) ∧ w = w' := by
  by_cases h1 : 65 ≤ c
  all_goals by_cases h2 : c ≤ 90
  all_goals
    go_enter Tryz.func101, Tryz.ntmps101
    go_wp2
    go_ret
    exact ⟨by simp [h1, h2], rfl⟩

set_option maxHeartbeats 400000 in
theorem takeBarSign_no (b : Nat) (r : Rd) (w : World) {a : Option Addr} {cc : Nat} (hb : RdAt w b r a cc) (h : 3 ≤ r.sts.length) :
    Calls Tryz.prog 102 #[.pointer (some ⟨b, 0, none⟩)] w fun e w' => e = .returned (.bool false) ∧ w' = w := by
  have h1 := hb.blk.cell 3
  simp [Rd.vals] at h1
  go_enter Tryz.func102, Tryz.ntmps102
  go_wp2
  go_ret
  exact ⟨rfl, rfl⟩
set_option maxHeartbeats 400000 in
theorem takeBarSign_yes (b : Nat) (r : Rd) (w : World) {a : Option Addr} {cc : Nat} (hb : RdAt w b r a cc) (h : r.sts.length < 3) :
    Calls Tryz.prog 102 #[.pointer (some ⟨b, 0, none⟩)] w fun e w' => e = .returned (.bool true) ∧ (∃ a c, RdAt w' b { r with a := 2 } a c) ∧ Below b w w' := by
  have h0 := hb.blk.cell 0
  have h1 := hb.blk.cell 3
  simp [Rd.vals] at h0 h1
  have f0 := hb.blk.frozen 0
  go_enter Tryz.func102, Tryz.ntmps102
  go_wp2
  go_ret
  exact ⟨rfl, ⟨_, _, hb.set 0 _ rfl rfl⟩, below_set⟩

set_option maxHeartbeats 400000 in
theorem takeBarredKind_no (b : Nat) (c : Int) (w : World) (h : ¬ (65 ≤ c ∧ c ≤ 90)) :
    Calls Tryz.prog 92 #[.pointer (some ⟨b, 0, none⟩), .int .u8 c] w fun e w' => e = .returned (.bool false) ∧ w' = w := by
  go_enter Tryz.func92, Tryz.ntmps92
  go_wp2_with (go_at_call 101; refine (isLetter_any _ _).mono ?_; rintro e w' ⟨rfl, rfl⟩; simp only [h, decide_false])
  go_ret
  exact ⟨rfl, rfl⟩
set_option maxHeartbeats 400000 in
theorem takeBarredKind_yes (b : Nat) (r : Rd) (c : Int) (w : World) {a : Option Addr} {cc : Nat} (hb : RdAt w b r a cc) (h : 65 ≤ c ∧ c ≤ 90) :
    Calls Tryz.prog 92 #[.pointer (some ⟨b, 0, none⟩), .int .u8 c] w fun e w' => e = .returned (.bool true) ∧ (∃ a' c', RdAt w' b { r with a := 3, br := c } a' c') ∧ Below b w w' := by
  have h0 := hb.blk.cell 0
  have h1 := hb.blk.cell 1
  simp [Rd.vals] at h0 h1
  have f0 := hb.blk.frozen 0
  have f1 := hb.blk.frozen 1
  have hw1 : IntKind.i64.wrap c = c := by rw [IntKind.wrap_i64]; omega
  go_enter Tryz.func92, Tryz.ntmps92
  go_wp2_with (go_at_call 101; refine (isLetter_any _ _).mono ?_; rintro e w' ⟨rfl, rfl⟩; simp only [h, decide_true, and_self])
  go_ret
  exact ⟨rfl, ⟨_, _, (hb.set (r' := { r with br := c }) 1 _ rfl rfl).set 0 _ rfl rfl⟩, below_set2⟩

set_option maxHeartbeats 400000 in
theorem takeWindowSign_no (b : Nat) (c : Int) (w : World) (h : c ≠ 64) :
    Calls Tryz.prog 93 #[.pointer (some ⟨b, 0, none⟩), .int .u8 c] w fun e w' => e = .returned (.bool false) ∧ w' = w := by
  have h' : (c == 64) = false := by simpa using h
  go_enter Tryz.func93, Tryz.ntmps93
  go_wp2
  go_ret
  exact ⟨rfl, rfl⟩
set_option maxHeartbeats 400000 in
theorem takeWindowSign_yes (b : Nat) (r : Rd) (w : World) {a : Option Addr} {cc : Nat} (hb : RdAt w b r a cc) :
    Calls Tryz.prog 93 #[.pointer (some ⟨b, 0, none⟩), .int .u8 64] w fun e w' => e = .returned (.bool true) ∧ (∃ a c, RdAt w' b { r with a := 5 } a c) ∧ Below b w w' := by
  have h0 := hb.blk.cell 0
  simp [Rd.vals] at h0
  have f0 := hb.blk.frozen 0
  go_enter Tryz.func93, Tryz.ntmps93
  go_wp2
  go_ret
  exact ⟨rfl, ⟨_, _, hb.set 0 _ rfl rfl⟩, below_set⟩

set_option maxHeartbeats 400000 in
theorem takeStep_no (b : Nat) (r : Rd) (c : Int) (w : World) {a : Option Addr} {cc : Nat} (hb : RdAt w b r a cc) (h : ¬ (65 ≤ c ∧ c ≤ 90) ∨ 3 ≤ r.sts.length) :
    Calls Tryz.prog 90 #[.pointer (some ⟨b, 0, none⟩), .int .u8 c] w fun e w' => e = .returned (.bool false) ∧ w' = w := by
  have h1 := hb.blk.cell 3
  simp [Rd.vals] at h1
  by_cases hc : 65 ≤ c ∧ c ≤ 90
  · have h3 : 3 ≤ r.sts.length := h.resolve_left (fun g => g hc)
    clear h
    go_enter Tryz.func90, Tryz.ntmps90
    go_wp2_with (go_at_call 101; refine (isLetter_any _ _).mono ?_; rintro e w' ⟨rfl, rfl⟩; simp only [hc, decide_true, and_self])
    go_ret
    exact ⟨rfl, rfl⟩
  · go_enter Tryz.func90, Tryz.ntmps90
    go_wp2_with (go_at_call 101; refine (isLetter_any _ _).mono ?_; rintro e w' ⟨rfl, rfl⟩; simp only [hc, decide_false])
    go_ret
    exact ⟨rfl, rfl⟩
set_option maxRecDepth 100000 in
set_option maxHeartbeats 4000000 in
theorem takeStep_yes (b : Nat) (r : Rd) (c : Int) (w : World) {a : Option Addr} {cc : Nat} (hb : RdAt w b r a cc) (hc : 65 ≤ c ∧ c ≤ 90) (h3 : r.sts.length < 3) :
    Calls Tryz.prog 90 #[.pointer (some ⟨b, 0, none⟩), .int .u8 c] w fun e w' => e = .returned (.bool true) ∧ (∃ a' c', RdAt w' b { r with a := 1, br := 0, sts := r.sts ++ [(c, r.br)] } a' c') ∧ Below b w w' := by
  obtain ⟨i0, hi0, hz0, hz1, hz2⟩ := info_parts Tryz.infoPStep
  have h1 := hb.blk.cell 1
  have h3' := hb.blk.cell 3
  simp [Rd.vals] at h1 h3'
  have hw1 : IntKind.i64.wrap c = c := by rw [IntKind.wrap_i64]; omega
  have HH : Hid (RdAt w b r a cc) := hb
  have HO : Hid (w.ownsRow (b + 1) 152 2 (.slice a r.sts.length cc) r.sts.length (flat r.sts)) := hb.own
  have hbl := hb.blk.lt
  clear hb
  go_enter Tryz.func90, Tryz.ntmps90
  go_upto_region 3 with (go_at_call 101; refine (isLetter_any _ _).mono ?_; rintro e w' ⟨rfl, rfl⟩; simp only [hc, decide_true, and_self])
  refine upTo_region (fun u => u.cell? ⟨b, 3, none⟩ = some (.slice a r.sts.length cc) ∧ u.cell? ⟨b, 1, none⟩ = some (.int .i64 r.br)) 18 19 rfl (by kernel_rfl) ?_
  have hS0 : (fun u : World => u.cell? ⟨b, 3, none⟩ = some (.slice a r.sts.length cc) ∧ u.cell? ⟨b, 1, none⟩ = some (.int .i64 r.br)) w.drew := ⟨h3', h1⟩
  refine upTo_tk (i := 0) (v := ?v1_0) rfl (by kernel_rfl) (fun _ _ _ h => h) (by rfl) hS0 ?h1_0 ?r1_0
  case h1_0 => (intro u hu; (try dsimp only at hu); go_simp; first | done | with_reducible rfl)
  (try simp only [Act.put, tkS])
  refine upTo_tk (i := 1) (v := ?v1_1) rfl (by kernel_rfl) (fun _ _ _ h => h) (by rfl) hS0 ?h1_1 ?r1_1
  case h1_1 => (intro u hu; (try dsimp only at hu); go_simp; first | done | with_reducible rfl)
  (try simp only [Act.put, tkS])
  refine upTo_tk (i := 2) (v := ?v1_2) rfl (by kernel_rfl) (fun _ _ _ h => h) (by rfl) hS0 ?h1_2 ?r1_2
  case h1_2 => (intro u hu; (try dsimp only at hu); go_simp; first | done | with_reducible rfl)
  (try simp only [Act.put, tkS])
  refine upTo_tk (i := 3) (v := ?v1_3) rfl (by kernel_rfl) (fun _ _ _ h => h) (by rfl) hS0 ?h1_3 ?r1_3
  case h1_3 => (intro u hu; (try dsimp only at hu); go_simp; first | done | with_reducible rfl)
  (try simp only [Act.put, tkS])
  refine upTo_tk (i := 4) (v := ?v1_4) rfl (by kernel_rfl) (fun _ _ _ h => h) (by rfl) hS0 ?h1_4 ?r1_4
  case h1_4 => (intro u hu; (try dsimp only at hu); go_simp; first | done | with_reducible rfl)
  (try simp only [Act.put, tkS])
  refine upTo_tk (i := 5) (v := ?v1_5) rfl (by kernel_rfl) (fun _ _ _ h => h) (by rfl) hS0 ?h1_5 ?r1_5
  case h1_5 => (intro u hu; (try dsimp only at hu); go_simp; first | done | with_reducible rfl)
  (try simp only [Act.put, tkS])
  refine upTo_tk (i := 6) (v := ?v1_6) rfl (by kernel_rfl) (fun _ _ _ h => h) (by rfl) hS0 ?h1_6 ?r1_6
  case h1_6 => (intro u hu; (try dsimp only at hu); go_simp; first | done | with_reducible rfl)
  (try simp only [Act.put, tkS])
  refine upTo_tk (i := 7) (v := ?v1_7) rfl (by kernel_rfl) (fun _ _ _ h => h) (by rfl) hS0 ?h1_7 ?r1_7
  case h1_7 => (intro u hu; (try dsimp only at hu); go_simp; first | done | with_reducible rfl)
  (try simp only [Act.put, tkS])
  refine upTo_tk (i := 8) (v := ?v1_8) rfl (by kernel_rfl) (fun _ _ _ h => h) (by rfl) hS0 ?h1_8 ?r1_8
  case h1_8 => (intro u hu; (try dsimp only at hu); go_simp; first | done | with_reducible rfl)
  (try simp only [Act.put, tkS])
  refine upTo_tk (i := 9) (v := ?v1_9) rfl (by kernel_rfl) (fun _ _ _ h => h) (by rfl) hS0 ?h1_9 ?r1_9
  case h1_9 => (intro u hu; (try dsimp only at hu); go_simp; first | done | with_reducible rfl)
  (try simp only [Act.put, tkS])
  refine upTo_tk (i := 10) (v := ?v1_10) rfl (by kernel_rfl) (fun _ _ _ h => h) (by rfl) hS0 ?h1_10 ?r1_10
  case h1_10 => (intro u hu; (try dsimp only at hu); go_simp; first | done | with_reducible rfl)
  (try simp only [Act.put, tkS])
  refine upTo_tk (i := 11) (v := ?v1_11) rfl (by kernel_rfl) (fun _ _ _ h => h) (by rfl) hS0 ?h1_11 ?r1_11
  case h1_11 => (intro u hu; (try dsimp only at hu); go_simp; first | done | with_reducible rfl)
  (try simp only [Act.put, tkS])
  refine upTo_tk (i := 12) (v := ?v1_12) rfl (by kernel_rfl) (fun _ _ _ h => h) (by rfl) hS0 ?h1_12 ?r1_12
  case h1_12 => (intro u hu; (try dsimp only at hu); go_simp; first | done | with_reducible rfl)
  (try simp only [Act.put, tkS])
  refine upTo_one (i := 13) (by kernel_rfl) rfl (fun K hK => ?_)
  go_simp
  refine hK.out _ _ (fun _ => ⟨by have := (HH.out.blk.alloc (.cells #[.int .i64 c, .int .i64 r.br] 152)).cell 3; simpa [Rd.vals] using this, by have := (HH.out.blk.alloc (.cells #[.int .i64 c, .int .i64 r.br] 152)).cell 1; simpa [Rd.vals] using this⟩) ?_
  clear hK K
  (try simp only [Act.put, tkS])
  refine upTo_one (i := 14) (by kernel_rfl) rfl (fun K hK => ?_)
  refine step_append_lies _ (by rfl) _ _ _ (by rfl) (b + 1) 152 i0 _ 2 16 Tryz.underlying81 hi0 hz0 hz1 hz2 rfl (by omega) (.slice a r.sts.length cc) r.sts.length (flat r.sts) (by rfl) ((HO.out.alloc _).drew) ⟨w.heap.size, 0, none⟩ 1 1 [.int .i64 c, .int .i64 r.br] (by rfl) (by rfl) (World.news_of_block (cs := #[.int .i64 c, .int .i64 r.br]) (t := 152) (fr := (0, 0)) (heap_alloc_new w _)) (by simp [Value.oneCell']) (by omega) (by unfold maxLen; omega) (by omega) (by simp; omega) (w.heap.size + 1) (by simp) ?_
  intro gg cap w1 hown1 hgrow hat hlt1
  obtain ⟨q0, q1, q2⟩ := HH.out.app hown1 hgrow
  have q3 := q0.cell 3
  have q4 := q0.frozen 3
  have q5 := q0.cell 1
  simp [Rd.vals] at q3 q5
  refine hK.out _ _ (fun _ => ⟨q3, q5⟩) ?_
  clear hK K hS0
  (try simp only [Act.put, tkS])
  refine upTo_one (i := 15) (by kernel_rfl) rfl (fun K hK => ?_)
  go_simp
  refine hK.out _ _ (fun _ => ⟨q3, q5⟩) ?_
  clear hK K
  (try simp only [Act.put, tkS])
  refine upTo_one (i := 16) (by kernel_rfl) rfl (fun K hK => ?_)
  go_simp
  refine hK.out _ _ (fun _ => ⟨q3, q5⟩) ?_
  clear hK K
  (try simp only [Act.put, tkS])
  refine upTo_one (i := 17) (by kernel_rfl) rfl (fun K hK => ?_)
  go_simp
  refine hK.out _ _ (fun _ => ⟨q3, q5⟩) ?_
  clear hK K
  (try simp only [Act.put, tkS])
  refine upTo_one (i := 18) (by kernel_rfl) rfl (fun K hK => ?_)
  go_simp
  refine hK.out _ _ (fun h => absurd rfl h) ?_
  clear hK K
  (try simp only [Act.put, tkS])
  refine upTo_done (by kernel_rfl) ?_
  have HQ1 : Hid (RdAt (w1.setCell ⟨b, 3, none⟩ (.slice (some ⟨gg, 0, none⟩) (r.sts.length + 1) cap)) b { r with sts := r.sts ++ [(c, r.br)] } (some ⟨gg, 0, none⟩) cap) := q1
  have HQ2 : Hid (Below b w (w1.setCell ⟨b, 3, none⟩ (.slice (some ⟨gg, 0, none⟩) (r.sts.length + 1) cap))) := q2
  clear q0 q1 q2 q3 q4 q5 h1 h3' hown1 hgrow hat hlt1
  generalize w1.setCell ⟨b, 3, none⟩ (.slice (some ⟨gg, 0, none⟩) (r.sts.length + 1) cap) = wz at *
  have z0 := HQ1.out.blk.cell 0
  have z1 := HQ1.out.blk.cell 1
  simp [Rd.vals] at z0 z1
  have f0 := HQ1.out.blk.frozen 0
  have f1 := HQ1.out.blk.frozen 1
  go_wp2
  go_ret
  exact ⟨rfl, ⟨_, _, (HQ1.out.set (r' := { r with br := 0, sts := r.sts ++ [(c, r.br)] }) 1 _ rfl rfl).set 0 _ rfl rfl⟩, HQ2.out.trans below_set2⟩

set_option maxHeartbeats 400000 in
theorem takeDigit_yes (b : Nat) (r : Rd) (c : Int) (w : World) {a : Option Addr} {cc : Nat} (hb : RdAt w b r a cc) (hd : 0 ≤ r.d) (hv : 0 ≤ r.v) (hv' : r.v ≤ 1099511627776) (h1' : 48 ≤ c) (h2' : c ≤ 57) (h3' : r.d < 13) (h4' : 10 * r.v + (c - 48) ≤ 1099511627776) :
    Calls Tryz.prog 94 #[.pointer (some ⟨b, 0, none⟩), .int .u8 c] w fun e w' => e = .returned (.bool true) ∧ (∃ a' c', RdAt w' b { r with a := 6, d := r.d + 1, v := 10 * r.v + (c - 48) } a' c') ∧ Below b w w' := by
  have h0 := hb.blk.cell 0
  have h2 := hb.blk.cell 2
  have h3 := hb.blk.cell 5
  simp [Rd.vals] at h0 h2 h3
  have f0 := hb.blk.frozen 0
  have f2 := hb.blk.frozen 2
  have f3 := hb.blk.frozen 5
  go_enter Tryz.func94, Tryz.ntmps94
  go_wp2
  go_ret
  exact ⟨rfl, ⟨_, _, ((hb.set (r' := { r with v := 10 * r.v + (c - 48) }) 5 _ rfl rfl).set (r' := { r with d := r.d + 1, v := 10 * r.v + (c - 48) }) 2 _ rfl rfl).set 0 _ rfl rfl⟩, below_set3⟩
set_option maxHeartbeats 400000 in
theorem takeDigit_no (b : Nat) (r : Rd) (c : Int) (w : World) {a : Option Addr} {cc : Nat} (hb : RdAt w b r a cc) (hd : 0 ≤ r.d) (hv : 0 ≤ r.v) (hv' : r.v ≤ 1099511627776) (h0c : 0 ≤ c) (hc : c ≤ 255) (h : ¬ (48 ≤ c ∧ c ≤ 57 ∧ r.d < 13 ∧ 10 * r.v + (c - 48) ≤ 1099511627776)) :
    Calls Tryz.prog 94 #[.pointer (some ⟨b, 0, none⟩), .int .u8 c] w fun e w' => e = .returned (.bool false) ∧ w' = w := by
  have h2 := hb.blk.cell 2
  have h3 := hb.blk.cell 5
  simp [Rd.vals] at h2 h3
  by_cases g1 : 48 ≤ c
  · by_cases g2 : c ≤ 57
    · by_cases g3 : r.d < 13
      · have g4 : 1099511627776 < 10 * r.v + (c - 48) := by omega
        clear h
        go_enter Tryz.func94, Tryz.ntmps94
        go_wp2
        go_ret
        exact ⟨rfl, rfl⟩
      · clear h
        go_enter Tryz.func94, Tryz.ntmps94
        go_wp2
        go_ret
        exact ⟨rfl, rfl⟩
    · clear h
      go_enter Tryz.func94, Tryz.ntmps94
      go_wp2
      go_ret
      exact ⟨rfl, rfl⟩
  · clear h
    go_enter Tryz.func94, Tryz.ntmps94
    go_wp2
    go_ret
    exact ⟨rfl, rfl⟩
end Go.Proofs.YtghcololkgeoeabGreat
namespace Go.Proofs.YtghcololkgeoeabGreat
open Go.RowKit
set_option linter.unusedVariables false
set_option linter.unusedSimpArgs false

set_option maxHeartbeats 1000000 in
theorem behind_yes (b : Nat) (r r' : Rd) (c : Int) (w : World) (hok : r.ok) {a : Option Addr} {cc : Nat} (hb : RdAt w b r a cc) (h : r.behind c = some r') :
    Calls Tryz.prog 91 #[.pointer (some ⟨b, 0, none⟩), .int .u8 c] w fun e w' => e = .returned (.bool true) ∧ (∃ a' c', RdAt w' b r' a' c') ∧ Below b w w' := by
  have h0 := hb.blk.cell 0
  have h4 := hb.blk.cell 4
  simp [Rd.vals] at h0 h4
  have f0 := hb.blk.frozen 0
  have f4 := hb.blk.frozen 4
  unfold Rd.behind Rd.step at h
  by_cases h61 : c = 61
  · subst h61
    simp at h
    subst h
    go_enter Tryz.func91, Tryz.ntmps91
    go_wp2
    go_ret
    exact ⟨rfl, ⟨_, _, (hb.set (r' := { r with same := true }) 4 _ rfl rfl).set 0 _ rfl rfl⟩, below_set2⟩
  · by_cases h64 : c = 64
    · subst h64
      simp at h
      subst h
      clear h61
      go_enter Tryz.func91, Tryz.ntmps91
      go_wp2_with (go_at_call 93; refine (takeWindowSign_yes _ r _ hb).mono ?_; rintro e w' ⟨rfl, hb', hw⟩)
      go_ret
      exact ⟨rfl, hb', hw⟩
    · by_cases h33 : c = 33
      · subst h33
        simp at h
        obtain ⟨h3, rfl⟩ := h
        clear h61 h64
        go_enter Tryz.func91, Tryz.ntmps91
        go_wp2_with (go_at_call 102; refine (takeBarSign_yes _ r _ hb h3).mono ?_; rintro e w' ⟨rfl, hb', hw⟩)
        go_ret
        exact ⟨rfl, hb', hw⟩
      · rw [if_neg h61, if_neg h64, if_neg h33] at h
        split at h
        · rename_i hc
          simp only [Option.some.injEq] at h
          subst h
          have e61 : (c == 61) = false := by simpa using h61
          have e64 : (c == 64) = false := by simpa using h64
          have e33 : (c == 33) = false := by simpa using h33
          clear h61 h64 h33
          obtain ⟨hc1, hc2⟩ := hc
          go_enter Tryz.func91, Tryz.ntmps91
          go_wp2_with (go_at_call 90; refine (takeStep_yes _ r _ _ hb hc1 hc2).mono ?_; rintro e w' ⟨rfl, hb', hw⟩)
          go_ret
          exact ⟨rfl, hb', hw⟩
        · simp at h

set_option maxHeartbeats 1000000 in
theorem behind_no (b : Nat) (r : Rd) (c : Int) (w : World) {a : Option Addr} {cc : Nat} (hb : RdAt w b r a cc) (h : r.behind c = none) :
    Calls Tryz.prog 91 #[.pointer (some ⟨b, 0, none⟩), .int .u8 c] w fun e w' => e = .returned (.bool false) ∧ w' = w := by
  unfold Rd.behind Rd.step at h
  by_cases h61 : c = 61
  · subst h61
    simp at h
  · by_cases h64 : c = 64
    · subst h64
      simp at h
    · by_cases h33 : c = 33
      · subst h33
        simp at h
        clear h61 h64
        go_enter Tryz.func91, Tryz.ntmps91
        go_wp2_with (go_at_call 102; refine (takeBarSign_no _ r _ hb h).mono ?_; rintro e w' ⟨rfl, rfl⟩)
        go_ret
        exact ⟨rfl, rfl⟩
      · rw [if_neg h61, if_neg h64, if_neg h33] at h
        split at h
        · simp at h
        · rename_i hc
          have hc' : ¬ (65 ≤ c ∧ c ≤ 90) ∨ 3 ≤ r.sts.length := by omega
          have e61 : (c == 61) = false := by simpa using h61
          have e64 : (c == 64) = false := by simpa using h64
          have e33 : (c == 33) = false := by simpa using h33
          clear h61 h64 h33 hc h
          have HC : Hid (¬ (65 ≤ c ∧ c ≤ 90) ∨ 3 ≤ r.sts.length) := hc'
          clear hc'
          go_enter Tryz.func91, Tryz.ntmps91
          go_wp2_with (go_at_call 90; refine (takeStep_no _ r _ _ hb HC.out).mono ?_; rintro e w' ⟨rfl, rfl⟩)
          go_ret
          exact ⟨rfl, rfl⟩

set_option maxHeartbeats 1000000 in
theorem take_yes (b : Nat) (r r' : Rd) (c : Int) (w : World) (hok : r.ok) (hst : r.st) {a : Option Addr} {cc : Nat} (hb : RdAt w b r a cc) (h : r.take c = some r') :
    Calls Tryz.prog 76 #[.pointer (some ⟨b, 0, none⟩), .int .u8 c] w fun e w' => e = .returned (.bool true) ∧ (∃ a' c', RdAt w' b r' a' c') ∧ Below b w w' := by
  have h0 := hb.blk.cell 0
  simp [Rd.vals] at h0
  obtain ⟨ra, rbr, rdd, rst, rsame, rv⟩ := r
  simp only [Rd.st] at hst
  have ha : ra = 0 ∨ ra = 1 ∨ ra = 2 ∨ ra = 3 ∨ ra = 4 ∨ (ra = 5 ∨ ra = 6) := by omega
  rcases ha with rfl | rfl | rfl | rfl | rfl | ha
  · simp [Rd.take, Rd.step] at h
    obtain ⟨⟨hc, hs⟩, rfl⟩ := h
    go_enter Tryz.func76, Tryz.ntmps76
    go_wp2_with (go_at_call 90; refine (takeStep_yes _ _ _ _ hb hc hs).mono ?_; rintro e w' ⟨rfl, hb', hw⟩)
    go_ret
    exact ⟨rfl, hb', hw⟩
  · simp [Rd.take] at h
    have H : Hid (Rd.behind ⟨1, rbr, rdd, rst, rsame, rv⟩ c = some r') := h
    clear h
    go_enter Tryz.func76, Tryz.ntmps76
    go_wp2_with (go_at_call 91; refine (behind_yes _ _ _ _ _ hok hb H.out).mono ?_; rintro e w' ⟨rfl, hb', hw⟩)
    go_ret
    exact ⟨rfl, hb', hw⟩
  · simp [Rd.take] at h
    obtain ⟨hc, rfl⟩ := h
    go_enter Tryz.func76, Tryz.ntmps76
    go_wp2_with (go_at_call 92; refine (takeBarredKind_yes _ _ _ _ hb hc).mono ?_; rintro e w' ⟨rfl, hb', hw⟩)
    go_ret
    exact ⟨rfl, hb', hw⟩
  · simp [Rd.take, Rd.step] at h
    obtain ⟨⟨hc, hs⟩, rfl⟩ := h
    go_enter Tryz.func76, Tryz.ntmps76
    go_wp2_with (go_at_call 90; refine (takeStep_yes _ _ _ _ hb hc hs).mono ?_; rintro e w' ⟨rfl, hb', hw⟩)
    go_ret
    exact ⟨rfl, hb', hw⟩
  · simp [Rd.take] at h
    obtain ⟨rfl, rfl⟩ := h
    go_enter Tryz.func76, Tryz.ntmps76
    go_wp2_with (go_at_call 93; refine (takeWindowSign_yes _ _ _ hb).mono ?_; rintro e w' ⟨rfl, hb', hw⟩)
    go_ret
    exact ⟨rfl, hb', hw⟩
  · have e0 : (ra == 0) = false := by simp; omega
    have e1 : (ra == 1) = false := by simp; omega
    have e2 : (ra == 2) = false := by simp; omega
    have e3 : (ra == 3) = false := by simp; omega
    have e4 : (ra == 4) = false := by simp; omega
    have ht : Rd.take ⟨ra, rbr, rdd, rst, rsame, rv⟩ c = Rd.digit ⟨ra, rbr, rdd, rst, rsame, rv⟩ c := by
      unfold Rd.take; rw [if_neg (by simp only; omega), if_neg (by simp only; omega), if_neg (by simp only; omega), if_neg (by simp only; omega)]
    rw [ht] at h
    unfold Rd.digit at h
    split at h
    · rename_i hd
      simp only [Option.some.injEq] at h
      subst h
      obtain ⟨d1, d2, d3, d4⟩ := hd
      unfold Rd.ok at hok
      obtain ⟨o1, o3, o4, o5, o6⟩ := hok
      clear ha hst ht
      go_enter Tryz.func76, Tryz.ntmps76
      go_wp2_with (go_at_call 94; refine (takeDigit_yes _ _ _ _ hb o3 o5 o6 d1 d2 d3 d4).mono ?_; rintro e w' ⟨rfl, hb', hw⟩)
      go_ret
      exact ⟨rfl, hb', hw⟩
    · simp at h

set_option maxHeartbeats 1000000 in
theorem take_no (b : Nat) (r : Rd) (c : Int) (w : World) (hok : r.ok) (hst : r.st) {a : Option Addr} {cc : Nat} (hb : RdAt w b r a cc) (h0c : 0 ≤ c) (h1c : c ≤ 255) (h : r.take c = none) :
    Calls Tryz.prog 76 #[.pointer (some ⟨b, 0, none⟩), .int .u8 c] w fun e w' => e = .returned (.bool false) ∧ w' = w := by
  have h0 := hb.blk.cell 0
  simp [Rd.vals] at h0
  obtain ⟨ra, rbr, rdd, rst, rsame, rv⟩ := r
  simp only [Rd.st] at hst
  have ha : ra = 0 ∨ ra = 1 ∨ ra = 2 ∨ ra = 3 ∨ ra = 4 ∨ (ra = 5 ∨ ra = 6) := by omega
  rcases ha with rfl | rfl | rfl | rfl | rfl | ha
  · have hs : Hid (¬ (65 ≤ c ∧ c ≤ 90) ∨ 3 ≤ rst.length) := by show _ ∨ _; simp [Rd.take, Rd.step] at h; omega
    clear h
    go_enter Tryz.func76, Tryz.ntmps76
    go_wp2_with (go_at_call 90; refine (takeStep_no _ _ _ _ hb hs.out).mono ?_; rintro e w' ⟨rfl, rfl⟩)
    go_ret
    exact ⟨rfl, rfl⟩
  · simp [Rd.take] at h
    have H : Hid (Rd.behind ⟨1, rbr, rdd, rst, rsame, rv⟩ c = none) := h
    clear h
    go_enter Tryz.func76, Tryz.ntmps76
    go_wp2_with (go_at_call 91; refine (behind_no _ _ _ _ hb H.out).mono ?_; rintro e w' ⟨rfl, rfl⟩)
    go_ret
    exact ⟨rfl, rfl⟩
  · have hs : Hid (¬ (65 ≤ c ∧ c ≤ 90)) := by show ¬ _; simp [Rd.take] at h; omega
    clear h
    go_enter Tryz.func76, Tryz.ntmps76
    go_wp2_with (go_at_call 92; refine (takeBarredKind_no _ _ _ hs.out).mono ?_; rintro e w' ⟨rfl, rfl⟩)
    go_ret
    exact ⟨rfl, rfl⟩
  · have hs : Hid (¬ (65 ≤ c ∧ c ≤ 90) ∨ 3 ≤ rst.length) := by show _ ∨ _; simp [Rd.take, Rd.step] at h; omega
    clear h
    go_enter Tryz.func76, Tryz.ntmps76
    go_wp2_with (go_at_call 90; refine (takeStep_no _ _ _ _ hb hs.out).mono ?_; rintro e w' ⟨rfl, rfl⟩)
    go_ret
    exact ⟨rfl, rfl⟩
  · have hs : Hid (c ≠ 64) := by show ¬ _; simp [Rd.take] at h; omega
    clear h
    go_enter Tryz.func76, Tryz.ntmps76
    go_wp2_with (go_at_call 93; refine (takeWindowSign_no _ _ _ hs.out).mono ?_; rintro e w' ⟨rfl, rfl⟩)
    go_ret
    exact ⟨rfl, rfl⟩
  · have e0 : (ra == 0) = false := by simp; omega
    have e1 : (ra == 1) = false := by simp; omega
    have e2 : (ra == 2) = false := by simp; omega
    have e3 : (ra == 3) = false := by simp; omega
    have e4 : (ra == 4) = false := by simp; omega
    have ht : Rd.take ⟨ra, rbr, rdd, rst, rsame, rv⟩ c = Rd.digit ⟨ra, rbr, rdd, rst, rsame, rv⟩ c := by
      unfold Rd.take; rw [if_neg (by simp only; omega), if_neg (by simp only; omega), if_neg (by simp only; omega), if_neg (by simp only; omega)]
    rw [ht] at h
    unfold Rd.digit at h
    split at h
    · simp at h
    · rename_i hd
      unfold Rd.ok at hok
      obtain ⟨o1, o3, o4, o5, o6⟩ := hok
      have HD : Hid (¬ (48 ≤ c ∧ c ≤ 57 ∧ rdd < 13 ∧ 10 * rv + (c - 48) ≤ 1099511627776)) := hd
      clear ha hst ht h hd
      go_enter Tryz.func76, Tryz.ntmps76
      go_wp2_with (go_at_call 94; refine (takeDigit_no _ _ _ _ hb o3 o5 o6 h0c h1c HD.out).mono ?_; rintro e w' ⟨rfl, rfl⟩)
      go_ret
      exact ⟨rfl, rfl⟩
end Go.Proofs.YtghcololkgeoeabGreat
namespace Go.Proofs.YtghcololkgeoeabGreat
open Go.RowKit
set_option linter.unusedVariables false
set_option linter.unusedSimpArgs false

theorem blk_alloc (w : World) (l : List Value) (t : TypeId) : Blk (w.alloc (.cells l.toArray t)) w.heap.size t l := by
  unfold Blk; exact heap_alloc_new w _
theorem take_snoc (s : ByteArray) (k : Nat) (h : k < s.size) : s.data.toList.take (k + 1) = s.data.toList.take k ++ [s[k]] := by
  rw [List.take_succ_eq_append_getElem (by simpa using h)]; rfl
theorem run_snoc {r0 r : Rd} {l : List UInt8} {c : UInt8} (h : run r0 l = some r) : run r0 (l ++ [c]) = r.take c.toNat := by
  rw [run_append, h]; simp [run]

theorem take_take' {l : List UInt8} {j k : Nat} (h : j ≤ k) : ∃ m, l.take k = l.take j ++ m := ⟨(l.take k).drop j, by
  have := (List.take_append_drop j (l.take k)).symm
  rwa [List.take_take, Nat.min_eq_left h] at this⟩
theorem run_prefix {r : Rd} {l : List UInt8} {j k : Nat} (h : j ≤ k) (hr : run rd0 (l.take k) = some r) : (run rd0 (l.take j)).isSome = true := by
  obtain ⟨m, e⟩ := take_take' (l := l) h
  rw [e, run_append] at hr
  cases hj : run rd0 (l.take j) with
  | none => rw [hj] at hr; simp at hr
  | some q => rfl
theorem check_first {l : List UInt8} {k : Nat} {r : Rd} (h60 : l.length ≤ 60) (hk : k ≤ l.length) (hr : run rd0 (l.take k) = some r) (hn : run rd0 (l.take (k + 1)) = none) (hlt : k < l.length) :
    CheckIs acc (fun x => (run rd0 x).isSome = true) l 2 k := by
  refine Or.inr (Or.inr ⟨h60, ?_, rfl, k, rfl, hk, fun j hj => run_prefix (by omega) hr, fun _ => by simp [hn]⟩)
  rintro ⟨q, hq, _⟩
  have := run_prefix (l := l) (j := k + 1) (k := l.length) (r := q) (by omega) (by rw [List.take_length]; exact hq)
  rw [hn] at this
  simp at this
theorem check_end {l : List UInt8} {r : Rd} (h60 : l.length ≤ 60) (hr : run rd0 l = some r) (hf : ¬ final r) : CheckIs acc (fun x => (run rd0 x).isSome = true) l 2 l.length := by
  refine Or.inr (Or.inr ⟨h60, ?_, rfl, l.length, rfl, Nat.le_refl _, fun j hj => run_prefix (r := r) (k := l.length) (by omega) (by rw [List.take_length]; exact hr), fun h => by omega⟩)
  rintro ⟨q, hq, hq'⟩
  rw [hr] at hq
  simp only [Option.some.injEq] at hq
  exact hf (hq ▸ hq')

def z3 : List Value := [.slice none 0 0, .bool false, .int .i64 0]
structure ReadIs (l : List UInt8) (w : World) (w' : World) (a : Option Addr) (c : Nat) (st : List (Int × Int)) (same : Bool) (win x y : Int) : Prop where
  chk : CheckIs acc (fun x => (run rd0 x).isSome = true) l x y
  bel : Below w.heap.size w w'
  own : w'.ownsRow w.heap.size 152 2 (.slice a st.length c) st.length (flat st)
  pat : x = 0 → ∃ r, run rd0 l = some r ∧ final r ∧ r.sts = st ∧ r.same = same ∧ r.v = win
structure RdK (w wr : World) (r : Rd) (a : Option Addr) (c : Nat) : Prop where
  res : Blk wr w.heap.size 83 z3
  rd : RdAt wr (w.heap.size + 1) r a c
  bel : Below w.heap.size w wr
theorem RdK.fin {w wr : World} {r : Rd} {a : Option Addr} {c : Nat} (h : RdK w wr r a c) (x y z : Value) :
    Below w.heap.size w (((wr.setCell ⟨w.heap.size, 0, none⟩ x).setCell ⟨w.heap.size, 1, none⟩ y).setCell ⟨w.heap.size, 2, none⟩ z) ∧ (((wr.setCell ⟨w.heap.size, 0, none⟩ x).setCell ⟨w.heap.size, 1, none⟩ y).setCell ⟨w.heap.size, 2, none⟩ z).ownsRow w.heap.size 152 2 (.slice a r.sts.length c) r.sts.length (flat r.sts) := by
  refine ⟨h.bel.trans below_set3, ?_⟩
  have e : ∀ k, k ≠ w.heap.size → (((wr.setCell ⟨w.heap.size, 0, none⟩ x).setCell ⟨w.heap.size, 1, none⟩ y).setCell ⟨w.heap.size, 2, none⟩ z).heap[k]? = wr.heap[k]? := fun k hk => by
    rw [Below.heap_setCell _ _ _ _ (by simpa using hk), Below.heap_setCell _ _ _ _ (by simpa using hk), Below.heap_setCell _ _ _ _ (by simpa using hk)]
  obtain ⟨h1, h2⟩ := h.rd.own
  refine ⟨h1, ?_⟩
  rcases h2 with h2 | ⟨g, cap, cur, hv, hg, hh, r⟩
  · exact Or.inl h2
  · exact Or.inr ⟨g, cap, cur, hv, by omega, by rw [e g (by omega)]; exact hh, r⟩
set_option maxRecDepth 100000 in
set_option maxHeartbeats 2000000 in
theorem pread_any (s : ByteArray) (w : World) (hs : s.size ≤ maxLen) :
    Calls Tryz.prog 36 #[.string s] w fun e w' => ∃ (a : Option Addr) (c : Nat) (st : List (Int × Int)) (same : Bool) (win x y : Int), e = .returned (.tuple #[.agg #[.slice a st.length c, .bool same, .int .i64 win], .int .i64 x, .int .i64 y]) ∧ ReadIs s.data.toList w w' a c st same win x y := by
  unfold maxLen at hs
  by_cases h60 : 60 < s.size
  · go_enter Tryz.func36, Tryz.ntmps36
    go_wp2
    refine bodyPost_ret (v := .tuple #[.agg #[.slice none 0 0, .bool false, .int .i64 0], .int .i64 9, .int .i64 0]) (by simp [results, Tryz.results36, go_sem]) rfl ⟨none, 0, [], false, 0, 9, 0, rfl, Or.inl ⟨by simpa using h60, rfl, rfl⟩, ?_, World.ownsRow_nil _ _ _ _, fun e => absurd e (by decide)⟩
    exact (Below.refl _ _).alloc (Nat.le_refl _) _
  · go_enter Tryz.func36, Tryz.ntmps36
    go_wp2
    go_loopw [6] (fun i wr => ∃ (k : Nat) (r : Rd) (a : Option Addr) (c : Nat), k ≤ s.size ∧ i = .int .i64 k ∧ run rd0 (s.data.toList.take k) = some r ∧ RdK w wr r a c) (fun i _ => s.size - (intOf i).toNat)
    case atStart =>
      refine ⟨0, rd0, none, 0, Nat.zero_le _, rfl, by simp [run], ?_, ⟨?_, ?_⟩, ?_⟩
      · exact (blk_alloc _ _ _).alloc _
      · have := blk_alloc (w.alloc (.cells z3.toArray 83)) (rd0.vals none 0) 129
        simpa [z3, Rd.vals, rd0] using this
      · exact World.ownsRow_nil _ _ _ _
      · exact ((Below.refl _ _).alloc (Nat.le_refl _) _).alloc (by simp) _
    case round =>
      obtain ⟨k, r, a, c, hk, rfl, hrun, hkk⟩ := hrel
      have HR : Hid (run rd0 (s.data.toList.take k) = some r) := hrun
      have HK : Hid (RdK w wr r a c) := hkk
      clear hrun hkk
      have hok := run_ok rd0_ok HR.out
      have hst : r.st := run_st (by simp [Rd.st, rd0]) HR.out
      have hrd := HK.out.rd
      have p0 := HK.out.res.cell 0
      have p1 := HK.out.res.cell 1
      have p2 := HK.out.res.cell 2
      simp only [z3, List.getElem?_cons_zero, List.getElem?_cons_succ] at p0 p1 p2
      have g0 := HK.out.res.frozen 0
      have g1 := HK.out.res.frozen 1
      have g2 := HK.out.res.frozen 2
      by_cases hlt : k < s.size
      · have hsn : Hid (run rd0 (s.data.toList.take (k + 1)) = r.take s[k].toNat) := by show _ = _; rw [take_snoc s k hlt]; exact run_snoc HR.out
        have hc255 : (s[k].toNat : Int) ≤ 255 := by have := s[k].toNat_lt; omega
        cases ht : r.take s[k].toNat with
        | some r' =>
          have HT : Hid (r.take s[k].toNat = some r') := ht
          clear ht
          go_wp2_with (go_at_call 76; refine (take_yes _ r r' _ _ hok hst hrd HT.out).mono ?_; rintro e w' ⟨rfl, hb', hw⟩)
          go_roundw
          case rel =>
            obtain ⟨a', c', hb'⟩ := hb'
            exact ⟨k + 1, r', a', c', by omega, by go_num, hsn.out.trans HT.out, HK.out.res.below hw (by omega), hb', HK.out.bel.trans (hw.mono (by omega))⟩
          case measure => simp [intOf]; omega
        | none =>
          have HT : Hid (r.take s[k].toNat = none) := ht
          clear ht
          go_wp2_with (go_at_call 76; refine (take_no _ r _ _ hok hst hrd (by omega) hc255 HT.out).mono ?_; rintro e w' ⟨rfl, rfl⟩)
          refine bodyPost_ret (v := .tuple #[.agg #[.slice none 0 0, .bool false, .int .i64 0], .int .i64 2, .int .i64 k]) (by simp [results, Tryz.results36, go_sem, p0, p1, p2]) rfl ⟨none, 0, [], false, 0, 2, k, rfl, check_first (by simpa using h60) hk HR.out (hsn.out.trans HT.out) (by simpa using hlt), (HK.out.fin _ _ _).1, World.ownsRow_nil _ _ _ _, fun e => absurd e (by decide)⟩
      · have h0 := hrd.blk.cell 0
        have h3 := hrd.blk.cell 3
        have h4 := hrd.blk.cell 4
        have h5 := hrd.blk.cell 5
        simp [Rd.vals] at h0 h3 h4 h5
        have hall : Hid (run rd0 s.data.toList = some r) := by
          show _ = _
          have := HR.out
          rwa [List.take_of_length_le (by simp; omega)] at this
        by_cases ha0 : r.a = 0
        · go_wp2
          refine bodyPost_ret (v := .tuple #[.agg #[.slice a r.sts.length c, .bool r.same, .int .i64 r.v], .int .i64 0, .int .i64 0]) (by simp [results, Tryz.results36, go_sem, p0, p1, p2]) rfl ⟨a, c, r.sts, r.same, r.v, 0, 0, rfl, Or.inr (Or.inl ⟨by simpa using h60, ⟨r, hall.out, Or.inl ha0⟩, rfl, rfl⟩), (HK.out.fin _ _ _).1, (HK.out.fin _ _ _).2, fun _ => ⟨r, hall.out, Or.inl ha0, rfl, rfl, rfl⟩⟩
        · by_cases ha6 : r.a = 6
          · go_wp2
            refine bodyPost_ret (v := .tuple #[.agg #[.slice a r.sts.length c, .bool r.same, .int .i64 r.v], .int .i64 0, .int .i64 0]) (by simp [results, Tryz.results36, go_sem, p0, p1, p2]) rfl ⟨a, c, r.sts, r.same, r.v, 0, 0, rfl, Or.inr (Or.inl ⟨by simpa using h60, ⟨r, hall.out, Or.inr ha6⟩, rfl, rfl⟩), (HK.out.fin _ _ _).1, (HK.out.fin _ _ _).2, fun _ => ⟨r, hall.out, Or.inr ha6, rfl, rfl, rfl⟩⟩
          · have e0 : (r.a != 0) = true := by simpa using ha0
            have e6 : (r.a != 6) = true := by simpa using ha6
            go_wp2
            refine bodyPost_ret (v := .tuple #[.agg #[.slice none 0 0, .bool false, .int .i64 0], .int .i64 2, .int .i64 s.size]) (by simp [results, Tryz.results36, go_sem, p0, p1, p2]) rfl ⟨none, 0, [], false, 0, 2, s.size, rfl, check_end (by simpa using h60) hall.out (by unfold final; omega), (HK.out.fin _ _ _).1, World.ownsRow_nil _ _ _ _, fun e => absurd e (by decide)⟩

end Go.Proofs.YtghcololkgeoeabGreat
namespace Go.Proofs.YtghcololkgeoeabGreat
open Go.RowKit
open Classical
set_option linter.unusedVariables false
set_option linter.unusedSimpArgs false
attribute [local go_sem ↓] Go.wp_at_zero Go.wp_at_succ

theorem capAt_lt {s : ByteArray} {i : Nat} (h : i < s.size) : capAt s.data.toList i = decide (65 ≤ (s[i].toNat : Int) ∧ (s[i].toNat : Int) ≤ 90) := by
  have e : s.data.toList[i]? = some s[i] := by
    rw [List.getElem?_eq_getElem (by simpa using h)]; rfl
  unfold capAt; rw [e]; show capC _ = _; rw [Bool.eq_iff_iff, capC_iff]; simp
theorem capAt_ge {s : ByteArray} {i : Nat} (h : ¬ i < s.size) : capAt s.data.toList i = false := by
  have e : s.data.toList[i]? = none := by rw [List.getElem?_eq_none (by simpa using h)]
  unfold capAt; rw [e]
set_option maxHeartbeats 400000 in
theorem capital_any (s : ByteArray) (i : Nat) (w : World) (hs : s.size ≤ 1000) (hi : i ≤ 2000) :
    Calls Tryz.prog 78 #[.string s, .int .i64 i] w fun e w' => e = .returned (.bool (capAt s.data.toList i)) ∧ w = w' := by
  by_cases h : i < s.size
  · by_cases h1 : 65 ≤ (s[i].toNat : Int)
    all_goals by_cases h2 : (s[i].toNat : Int) ≤ 90
    all_goals
      rw [capAt_lt h]
      go_enter Tryz.func78, Tryz.ntmps78
      go_wp2
      go_ret
      exact ⟨by simp [h1, h2], rfl⟩
  · rw [capAt_ge h]
    go_enter Tryz.func78, Tryz.ntmps78
    go_wp2
    go_ret
    exact ⟨rfl, rfl⟩

theorem capital_at (s : ByteArray) (j : Int) (w : World) (hs : s.size ≤ 1000) (h0 : 0 ≤ j) (hi : j ≤ 2000) :
    Calls Tryz.prog 78 #[.string s, .int .i64 j] w fun e w' => e = .returned (.bool (capAt s.data.toList j.toNat)) ∧ w = w' := by
  obtain ⟨i, rfl⟩ := Int.eq_ofNat_of_zero_le h0
  exact capital_any s i w hs (by omega)

theorem Tryz.infoStep : (Tryz.prog.info? 134).map (fun i => (i.zero, i.size, i.bytes)) = some (some (.agg #[.int .i64 0, .int .i64 0]), 2, 16) := by kernel_rfl

structure WRel (w wr : World) (ac : List (Int × Int)) (a : Option Addr) (c : Nat) (one : Bool) (win : Int) : Prop where
  res : Blk wr w.heap.size 55 z3
  pat : Blk wr (w.heap.size + 1) 55 [.slice a ac.length c, .bool one, .int .i64 win]
  own : wr.ownsRow (w.heap.size + 2) 134 2 (.slice a ac.length c) ac.length (flat ac)
  below : Below w.heap.size w wr

theorem WRel.size {w wr : World} {ac : List (Int × Int)} {a : Option Addr} {c : Nat} {one : Bool} {win : Int} (h : WRel w wr ac a c one win) : w.heap.size + 2 ≤ wr.heap.size := by
  have := h.pat.lt; omega
theorem WRel.app {w wr w1 : World} {ac : List (Int × Int)} {a : Option Addr} {c g cap : Nat} {x y : Int} (h : WRel w wr ac a c false 0) {o : Obj}
    (hown : w1.ownsRow (w.heap.size + 2) 134 2 (.slice (some ⟨g, 0, none⟩) (ac.length + 1) cap) (ac.length + 1) (flat ac ++ [.int .i64 x, .int .i64 y]))
    (hg : (wr.alloc o).drew.grownBy w1 (Value.slice a ac.length c).ownBlock) :
    WRel w (w1.setCell ⟨w.heap.size + 1, 0, none⟩ (.slice (some ⟨g, 0, none⟩) (ac.length + 1) cap)) (ac ++ [(x, y)]) (some ⟨g, 0, none⟩) cap false 0 := by
  have hlt := h.own.lt
  have hs := h.size
  have hz : wr.heap.size + 1 = (wr.alloc o).heap.size := by simp
  have n0 : (Value.slice a ac.length c).ownBlock ≠ some w.heap.size := fun e => by have := hlt _ e; omega
  have n1 : (Value.slice a ac.length c).ownBlock ≠ some (w.heap.size + 1) := fun e => by have := hlt _ e; omega
  refine ⟨?_, ?_, ?_, ?_⟩
  · exact (((h.res.alloc o).drew).grown hg n0).other (by simp) _
  · have := (((h.pat.alloc o).drew).grown hg n1).set 0 (.slice (some ⟨g, 0, none⟩) (ac.length + 1) cap)
    simpa using this
  · rw [flat_snoc, List.length_append]
    exact ownsRow_setCell_below hown (by simp) _
  · have b1 : Below w.heap.size w (wr.alloc o).drew := (h.below.alloc (by omega) o).drew
    exact (b1.grown hg (by show _ ≤ (wr.alloc o).heap.size; omega) (fun k e => by have := hlt k e; omega)).setCell (p := ⟨w.heap.size + 1, 0, none⟩) (by simp) _

theorem wrapB (c : UInt8) : IntKind.i64.wrap (c.toNat : Int) = (c.toNat : Int) := by
  have := c.toNat_lt
  rw [IntKind.wrap_i64]; omega
theorem bS {w : World} {b : Nat} {t : TypeId} {v : Value} {l : List Value} (h : Blk w b t (v :: l)) : w.cell? ⟨b, 0, none⟩ = some v ∧ w.frozen? ⟨b, 0, none⟩ = false := ⟨by rw [h.cell 0]; rfl, h.frozen 0⟩

theorem drop_cons (s : ByteArray) (k : Nat) (h : k < s.size) : s.data.toList.drop k = s[k] :: s.data.toList.drop (k + 1) := by
  rw [List.drop_eq_getElem_cons (by simpa using h)]; rfl
theorem capAt_drop (l : List UInt8) (k j : Nat) : capAt (l.drop k) j = capAt l (k + j) := by unfold capAt; rw [List.getElem?_drop]
theorem byteAt_drop (l : List UInt8) (k j : Nat) : byteAt (l.drop k) j = byteAt l (k + j) := by unfold byteAt; rw [List.getElem?_drop]
theorem byteAt_lt (s : ByteArray) (k : Nat) (h : k < s.size) : byteAt s.data.toList k = (s[k].toNat : Int) := by
  have e : s.data.toList[k]? = some s[k] := by
    rw [List.getElem?_eq_getElem (by simpa using h)]; rfl
  unfold byteAt; rw [e]; rfl
theorem capAt_true_lt {s : ByteArray} {i : Nat} (h : capAt s.data.toList i = true) : i < s.size := by
  by_cases hi : i < s.size
  · exact hi
  · rw [capAt_ge hi] at h; simp at h
theorem steps_cap {s : ByteArray} {ac : List (Int × Int)} {k : Nat} (h : k < s.size) (hc : capAt s.data.toList k = true) :
    stepsOf ac (s.data.toList.drop k) = stepsOf (ac ++ [((s[k].toNat : Int), 0)]) (s.data.toList.drop (k + 1)) := by
  rw [drop_cons s k h, stepsOf_cons, if_pos]
  rw [capAt_lt h] at hc
  rw [capC_iff]; simpa using hc
theorem steps_bar {s : ByteArray} {ac : List (Int × Int)} {k : Nat} (h : k < s.size) (hc : capAt s.data.toList k = false) (h33 : (s[k].toNat : Int) = 33) (h1 : capAt s.data.toList (k + 1) = true) (h2 : capAt s.data.toList (k + 2) = true) (ha : 0 < ac.length) :
    stepsOf ac (s.data.toList.drop k) = stepsOf (ac ++ [(byteAt s.data.toList (k + 2), byteAt s.data.toList (k + 1))]) (s.data.toList.drop (k + 3)) := by
  rw [drop_cons s k h, stepsOf_cons, if_neg, if_pos, byteAt_drop, byteAt_drop, List.drop_drop]
  · exact ⟨by omega, by rw [capAt_drop]; exact h1, by rw [capAt_drop]; exact h2, ha⟩
  · rw [capAt_lt h] at hc
    rw [capC_iff]; simpa using hc
theorem steps_bar' {s : ByteArray} {ac : List (Int × Int)} {k : Nat} (h : k < s.size) (hc : capAt s.data.toList k = false) (hb : (s[k].toNat : Int) = 33 ∧ capAt s.data.toList (k + 1) = true ∧ capAt s.data.toList (k + 2) = true ∧ 0 < ac.length) (l1 : k + 1 < s.size) (l2 : k + 2 < s.size) :
    stepsOf ac (s.data.toList.drop k) = stepsOf (ac ++ [((s[k + 2].toNat : Int), (s[k + 1].toNat : Int))]) (s.data.toList.drop (k + 3)) := by
  rw [steps_bar h hc hb.1 hb.2.1 hb.2.2.1 hb.2.2.2, byteAt_lt s _ l1, byteAt_lt s _ l2]
theorem steps_end {s : ByteArray} {ac : List (Int × Int)} {k : Nat} (h : ¬ k < s.size) : stepsOf ac (s.data.toList.drop k) = (ac, s.data.toList.drop k) := by
  rw [List.drop_eq_nil_of_le (by simpa using h), stepsOf]
theorem steps_stop {s : ByteArray} {ac : List (Int × Int)} {k : Nat} (h : k < s.size) (hc : capAt s.data.toList k = false) (hn : ¬ ((s[k].toNat : Int) = 33 ∧ capAt s.data.toList (k + 1) = true ∧ capAt s.data.toList (k + 2) = true ∧ 0 < ac.length)) :
    stepsOf ac (s.data.toList.drop k) = (ac, s.data.toList.drop k) := by
  rw [drop_cons s k h, stepsOf_cons, if_neg, if_neg]
  · rw [capAt_drop, capAt_drop]
    intro ⟨a, b, c, d⟩
    exact hn ⟨by omega, b, c, d⟩
  · rw [capAt_lt h] at hc
    rw [capC_iff]; simpa using hc


def patSteps (l : List UInt8) : List (Int × Int) := (stepsOf [] l).1
def patOne (l : List UInt8) : Bool := oneOf (stepsOf [] l).2
def patWin (l : List UInt8) : Int := numOf 0 ((restOf (stepsOf [] l).2).drop 1)

def WholeIs (l : List UInt8) (w : World) (e : Ending) (w' : World) : Prop :=
  ∃ (a : Option Addr) (n c : Nat) (o : Bool) (win : Int), e = .returned (.tuple #[.agg #[.slice a n c, .bool o, .int .i64 win], .bool (decide (wholeP l))]) ∧ Below w.heap.size w w' ∧
    (wholeP l → w'.ownsRow w.heap.size 134 2 (.slice a n c) n (flat (patSteps l)) ∧ n = (patSteps l).length ∧ o = patOne l ∧ win = patWin l)

theorem bytes_nil {s : ByteArray} (h : s.size = 0) : s.data.toList = [] := List.eq_nil_of_length_eq_zero (by simpa using h)
theorem bytes_cons {s : ByteArray} (h : ¬ s.size = 0) : s.data.toList.isEmpty = false := by
  cases e : s.data.toList with
  | nil =>
    have : s.data.toList.length = s.size := by simp
    rw [e] at this; simp at this; omega
  | cons x l => rfl
theorem WRel.one {w wr : World} {ac : List (Int × Int)} {a : Option Addr} {c : Nat} (h : WRel w wr ac a c false 0) : WRel w (wr.setCell ⟨w.heap.size + 1, 1, none⟩ (.bool true)) ac a c true 0 := by
  refine ⟨h.res.other (by simp) _, ?_, ownsRow_setCell_below h.own (by simp) _, h.below.setCell (p := ⟨w.heap.size + 1, 1, none⟩) (by simp) _⟩
  have := h.pat.set 1 (.bool true)
  simpa using this
theorem WRel.win {w wr : World} {ac : List (Int × Int)} {a : Option Addr} {c : Nat} {o : Bool} {n m : Int} (h : WRel w wr ac a c o n) : WRel w (wr.setCell ⟨w.heap.size + 1, 2, none⟩ (.int .i64 m)) ac a c o m := by
  refine ⟨h.res.other (by simp) _, ?_, ownsRow_setCell_below h.own (by simp) _, h.below.setCell (p := ⟨w.heap.size + 1, 2, none⟩) (by simp) _⟩
  have := h.pat.set 2 (.int .i64 m)
  simpa using this
theorem whole_no {s : ByteArray} {ac : List (Int × Int)} {k : Nat} (he : ¬ s.size = 0) (h : stepsOf [] s.data.toList = (ac, s.data.toList.drop k)) (hn : ¬ (1 ≤ ac.length ∧ ac.length ≤ 3) ∨ ¬ winB (restOf (s.data.toList.drop k))) : ¬ wholeP s.data.toList := by
  unfold wholeP
  rw [h]
  rintro (hh | ⟨a, b, c⟩)
  · have := bytes_cons he; rw [hh] at this; simp at this
  · rcases hn with hn | hn
    · exact hn ⟨a, b⟩
    · exact hn c
theorem whole_yes {s : ByteArray} {ac : List (Int × Int)} {k : Nat} (h : stepsOf [] s.data.toList = (ac, s.data.toList.drop k)) (h1 : 1 ≤ ac.length) (h2 : ac.length ≤ 3) : winB (restOf (s.data.toList.drop k)) → wholeP s.data.toList := by
  intro hw
  unfold wholeP
  rw [h]
  exact Or.inr ⟨h1, h2, hw⟩
def DigRel (t : ByteArray) (j : Nat) (win : Int) : Prop := win = numOf 0 ((t.data.toList.drop 1).take (j - 1)) ∧ (∀ c ∈ (t.data.toList.drop 1).take (j - 1), isDig c = true) ∧ 0 ≤ win ∧ win < (10 : Int) ^ (j - 1)
theorem digs_start (t : ByteArray) : DigRel t 1 0 := by simp [DigRel, numOf]
theorem numOf_snoc (v : Int) (l : List UInt8) (c : UInt8) : numOf v (l ++ [c]) = 10 * numOf v l + ((c.toNat : Int) - 48) := by simp [numOf]
theorem drop1_take (t : ByteArray) (j : Nat) (h1 : 1 ≤ j) (h : j < t.size) : (t.data.toList.drop 1).take (j + 1 - 1) = (t.data.toList.drop 1).take (j - 1) ++ [t[j]] := by
  obtain ⟨i, rfl⟩ : ∃ i, j = i + 1 := ⟨j - 1, by omega⟩
  rw [Nat.add_sub_cancel, Nat.add_sub_cancel, List.take_succ_eq_append_getElem (by simp; omega), List.getElem_drop]
  congr 2
  simp only [Nat.add_comm 1 i]
  rfl
theorem digs_step {t : ByteArray} {j : Nat} {win : Int} (hd : DigRel t j win) (h1 : 1 ≤ j) (h : j < t.size) (a : 48 ≤ (t[j].toNat : Int)) (b : (t[j].toNat : Int) ≤ 57) : DigRel t (j + 1) (10 * win + ((t[j].toNat : Int) - 48)) := by
  obtain ⟨d1, d2, d3, d4⟩ := hd
  refine ⟨?_, ?_, by omega, ?_⟩
  · rw [drop1_take t j h1 h, numOf_snoc, ← d1]
  · rw [drop1_take t j h1 h]
    intro c hc
    rcases List.mem_append.1 hc with hc | hc
    · exact d2 c hc
    · simp at hc; subst hc; simp only [isDig, decide_eq_true_eq]; omega
  · obtain ⟨i, rfl⟩ : ∃ i, j = i + 1 := ⟨j - 1, by omega⟩
    simp only [Nat.add_sub_cancel, Int.pow_succ] at *
    omega
theorem digs_bd {t : ByteArray} {j : Nat} {win : Int} (hd : DigRel t j win) (h : j ≤ 14) : 0 ≤ win ∧ win < 10000000000000 := by
  obtain ⟨_, _, d3, d4⟩ := hd
  refine ⟨d3, Int.lt_of_lt_of_le d4 ?_⟩
  have : (10 : Int) ^ (j - 1) ≤ 10 ^ 13 := by
    have h2 : (10 : Nat) ^ (j - 1) ≤ 10 ^ 13 := Nat.pow_le_pow_right (by omega) (by omega)
    have h3 : ((10 ^ (j - 1) : Nat) : Int) ≤ ((10 ^ 13 : Nat) : Int) := by exact_mod_cast h2
    simpa using h3
  simpa using this
theorem digs_no {t : ByteArray} {j : Nat} (h1 : 1 ≤ j) (h : j < t.size) (hn : ¬ (48 ≤ (t[j].toNat : Int) ∧ (t[j].toNat : Int) ≤ 57)) : ¬ winB t.data.toList := by
  rintro ⟨_, _, _, hd, _⟩
  have hm : t[j] ∈ t.data.toList.drop 1 := by
    rw [List.mem_drop_iff_getElem]
    exact ⟨j - 1, by simp; omega, by simp only [show 1 + (j - 1) = j by omega]; rfl⟩
  have := hd _ hm
  simp only [isDig, decide_eq_true_eq] at this
  omega
theorem digs_end {t : ByteArray} {win : Int} (hd : DigRel t t.size win) (h2 : 2 ≤ t.size) (h14 : t.size ≤ 14) (h64 : byteAt t.data.toList 0 = 64) : (winB t.data.toList ↔ win ≤ 1099511627776) ∧ win = numOf 0 (t.data.toList.drop 1) := by
  obtain ⟨d1, d2, _, _⟩ := hd
  have e : (t.data.toList.drop 1).take (t.size - 1) = t.data.toList.drop 1 := List.take_of_length_le (by simp)
  rw [e] at d1 d2
  refine ⟨⟨fun h => d1 ▸ h.2.2.2.2, fun h => ⟨by simpa using h2, h64, by simpa using h14, d2, d1 ▸ h⟩⟩, d1⟩
theorem WRel.drew {w wr : World} {ac : List (Int × Int)} {a : Option Addr} {c : Nat} {o : Bool} {n : Int} (h : WRel w wr ac a c o n) : WRel w wr.drew ac a c o n := ⟨h.res, h.pat, h.own, h.below.drew⟩
theorem WRel.owned {w wr w' : World} {ac : List (Int × Int)} {a : Option Addr} {c : Nat} {o : Bool} {n : Int} (h : WRel w wr ac a c o n) (hk : ∀ k, k ≠ w.heap.size → w'.heap[k]? = wr.heap[k]?) : w'.ownsRow w.heap.size 134 2 (.slice a ac.length c) ac.length (flat ac) := by
  obtain ⟨h1, h2⟩ := h.own
  refine ⟨h1, ?_⟩
  rcases h2 with h2 | ⟨g, cap, cur, hv, hg, hh, r⟩
  · exact Or.inl h2
  · exact Or.inr ⟨g, cap, cur, hv, by omega, by rw [hk g (by omega)]; exact hh, r⟩
theorem set3_other (w : World) (b : Nat) (x y z : Value) : ∀ k, k ≠ b → (((w.setCell ⟨b, 0, none⟩ x).setCell ⟨b, 1, none⟩ y).setCell ⟨b, 2, none⟩ z).drew.heap[k]? = w.heap[k]? := fun k hk => by
  show (((w.setCell ⟨b, 0, none⟩ x).setCell ⟨b, 1, none⟩ y).setCell ⟨b, 2, none⟩ z).heap[k]? = _
  rw [Below.heap_setCell _ _ _ _ hk, Below.heap_setCell _ _ _ _ hk, Below.heap_setCell _ _ _ _ hk]
end Go.Proofs.YtghcololkgeoeabGreat
namespace Go.Proofs.YtghcololkgeoeabGreat
open Go.RowKit
set_option linter.unusedVariables false
set_option linter.unusedSimpArgs false

theorem digits_content (l : List UInt8) : ∀ r q : Rd, (r.a = 5 ∨ r.a = 6) → run r l = some q → q.v = numOf r.v l ∧ q.sts = r.sts ∧ q.same = r.same := by
  induction l with
  | nil => intro r q _ h; simp only [run, Option.some.injEq] at h; subst h; exact ⟨rfl, rfl, rfl⟩
  | cons c l ih =>
    intro r q ha h
    have ht : r.take c.toNat = r.digit c.toNat := by
      unfold Rd.take; rw [if_neg (by omega), if_neg (by omega), if_neg (by omega), if_neg (by omega)]
    simp only [run, ht] at h
    unfold Rd.digit at h
    split at h
    · simp only [Option.bind_some] at h
      have := ih _ q (Or.inr rfl) h
      exact this
    · simp at h
theorem at_content (t : List UInt8) (r q : Rd) (hf : ¬ final r) (hat : ∀ c : Int, r.take c = if c = 64 then some { r with a := 5 } else none) (h : run r t = some q) (hq : final q) :
    q.v = numOf r.v (t.drop 1) ∧ q.sts = r.sts ∧ q.same = r.same := by
  cases t with
  | nil => simp only [run, Option.some.injEq] at h; subst h; exact absurd hq hf
  | cons c t =>
    simp only [run, hat] at h
    split at h
    · simp only [Option.bind_some] at h
      exact digits_content t { r with a := 5 } q (Or.inl rfl) h
    · simp at h
theorem steps_content (l : List UInt8) : ∀ (r q : Rd), r.ok → r.d = 0 → r.v = 0 → r.a = 1 → r.br = 0 → r.same = false → 0 < r.sts.length → run r l = some q → final q →
    q.sts = (stepsOf r.sts l).1 ∧ q.same = oneOf (stepsOf r.sts l).2 ∧ q.v = numOf 0 ((restOf (stepsOf r.sts l).2).drop 1) := by
  induction hn : l.length using Nat.strongRecOn generalizing l with
  | _ n ih =>
    intro r q hok hd hv ha hbr hsame hac hrun hfin
    have hW := (run_steps l r r.sts hok hd hv ha rfl hac).1 ⟨q, hrun, hfin⟩
    have hok0 := hok
    unfold Rd.ok at hok
    cases l with
    | nil =>
      simp only [run, Option.some.injEq] at hrun
      subst hrun
      unfold final at hfin; omega
    | cons c t =>
      have ht : r.take c.toNat = r.behind c.toNat := by unfold Rd.take; rw [if_neg (by omega), if_pos ha]
      simp only [run, ht] at hrun
      rw [stepsOf_cons] at hW ⊢
      by_cases hc : capC c = true
      · have hc' := (capC_iff c).1 hc
        rw [if_pos hc]
        have hb : r.behind c.toNat = r.step c.toNat := by unfold Rd.behind; rw [if_neg (by omega), if_neg (by omega), if_neg (by omega)]
        rw [hb] at hrun
        unfold Rd.step at hrun
        split at hrun
        · rename_i h3
          simp only [Option.bind_some, hbr] at hrun
          exact ih t.length (by simp at hn; omega) t rfl { r with a := 1, br := 0, sts := r.sts ++ [((c.toNat : Int), 0)] } q (by unfold Rd.ok; simp only [List.length_append, List.length_cons, List.length_nil]; omega) hd hv rfl rfl hsame (by simp) hrun hfin
        · simp at hrun
      · rw [if_neg hc] at hW ⊢
        have hc' : ¬ (65 ≤ (c.toNat : Int) ∧ (c.toNat : Int) ≤ 90) := fun h => hc ((capC_iff c).2 h)
        by_cases h2 : c.toNat = 33 ∧ capAt t 0 = true ∧ capAt t 1 = true ∧ 0 < r.sts.length
        · rw [if_pos h2]
          obtain ⟨h33, c0, c1, _⟩ := h2
          have hb : r.behind c.toNat = if r.sts.length < 3 then some { r with a := 2 } else none := by unfold Rd.behind; rw [if_neg (by omega), if_neg (by omega), if_pos (by omega)]
          rw [hb] at hrun
          match t, c0, c1, hn, hrun with
          | x :: y :: t', c0, c1, hn, hrun =>
            simp only [capAt, List.getElem?_cons_zero, List.getElem?_cons_succ] at c0 c1
            have hx := (capC_iff x).1 c0
            have hy := (capC_iff y).1 c1
            split at hrun
            · rename_i h3
              simp only [Option.bind_some, run] at hrun
              have e1 : Rd.take { r with a := 2 } x.toNat = some { r with a := 3, br := x.toNat } := by simp [Rd.take, hx]
              rw [e1] at hrun
              simp only [Option.bind_some] at hrun
              have e2 : Rd.take { r with a := 3, br := x.toNat } y.toNat = some { r with a := 1, br := 0, sts := r.sts ++ [((y.toNat : Int), (x.toNat : Int))] } := by simp [Rd.take, Rd.step, hy, h3]
              rw [e2] at hrun
              simp only [Option.bind_some] at hrun
              have := ih t'.length (by simp at hn; omega) t' rfl { r with a := 1, br := 0, sts := r.sts ++ [((y.toNat : Int), (x.toNat : Int))] } q (by unfold Rd.ok; simp only [List.length_append, List.length_cons, List.length_nil]; omega) hd hv rfl rfl hsame (by simp) hrun hfin
              simpa [byteAt] using this
            · simp at hrun
        · rw [if_neg h2] at hW ⊢
          by_cases h61 : (c.toNat : Int) = 61
          · have hb : r.behind c.toNat = some { r with a := 4, same := true } := by unfold Rd.behind; rw [if_pos h61]
            have e : restOf (c :: t) = t := by simp [restOf, oneOf, byteAt, h61]
            rw [hb] at hrun
            simp only [Option.bind_some] at hrun
            obtain ⟨k1, k2, k3⟩ := at_content t { r with a := 4, same := true } q (by simp [final]) (fun x => by simp [Rd.take]) hrun hfin
            simp only at k1 k2 k3
            refine ⟨k2, ?_, ?_⟩
            · rw [k3]; simp [oneOf, byteAt, h61]
            · rw [k1, hv]; simp only; rw [e]
          · have e : restOf (c :: t) = c :: t := by simp [restOf, oneOf, byteAt, h61]
            have hw : winB (c :: t) := by have := hW.2; simp only [e] at this; exact this
            have h64 : (c.toNat : Int) = 64 := by have := hw.2.1; simpa [byteAt] using this
            have hb : r.behind c.toNat = some { r with a := 5 } := by unfold Rd.behind; rw [if_neg h61, if_pos h64]
            rw [hb] at hrun
            simp only [Option.bind_some] at hrun
            obtain ⟨k1, k2, k3⟩ := digits_content t { r with a := 5 } q (Or.inl rfl) hrun
            simp only at k1 k2 k3
            refine ⟨k2, ?_, ?_⟩
            · rw [k3, hsame]; simp [oneOf, byteAt, h61]
            · rw [k1, hv]; simp only; rw [e]; rfl
theorem run_content {l : List UInt8} {r : Rd} (h : run rd0 l = some r) (hf : final r) : r.sts = patSteps l ∧ r.same = patOne l ∧ r.v = patWin l := by
  unfold patSteps patOne patWin
  cases l with
  | nil =>
    simp only [run, Option.some.injEq] at h
    subst h
    simp [rd0, stepsOf, oneOf, restOf, numOf]
  | cons c t =>
    have ht : rd0.take c.toNat = rd0.step c.toNat := by simp [Rd.take, rd0]
    simp only [run, ht] at h
    unfold Rd.step at h
    split at h
    · rename_i hc
      simp only [Option.bind_some] at h
      have hcap : capC c = true := (capC_iff c).2 hc.1
      rw [stepsOf_cons, if_pos hcap]
      have := steps_content t _ r (by simp [Rd.ok, rd0]) rfl rfl rfl rfl rfl (by simp) h hf
      simpa [rd0] using this
    · simp at h
end Go.Proofs.YtghcololkgeoeabGreat
