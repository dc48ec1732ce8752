import Derived.Test.YthiabdpgieppoaaGreatRows
import Derived.Test.YthiabdpgieppoaaGreatPatM
import Derived.WalkKit
import Derived.WalkSpells
import Derived.WalkLawsBesides
namespace Go.Proofs.YthiabdpgieppoaaGreat
open Go.RowKit
set_option linter.unusedVariables false
set_option linter.unusedSimpArgs false

/-- A whole block of cells, none of them frozen. -/
def Blk (w : World) (b : Nat) (t : TypeId) (l : List Value) : Prop := w.heap[b]? = some (.cells l.toArray t)

theorem Blk.cell {w : World} {b : Nat} {t : TypeId} {l : List Value} (h : Blk w b t l) (o : Nat) : w.cell? ⟨b, o, none⟩ = l[o]? := by
  unfold Blk at h; simp [World.cell?, h]
theorem Blk.frozen {w : World} {b : Nat} {t : TypeId} {l : List Value} (h : Blk w b t l) (o : Nat) : w.frozen? ⟨b, o, none⟩ = false := by
  unfold Blk at h; simp [World.frozen?, h]
theorem Blk.set {w : World} {b : Nat} {t : TypeId} {l : List Value} (h : Blk w b t l) (o : Nat) (v : Value) : Blk (w.setCell ⟨b, o, none⟩ v) b t (l.set o v) := by
  unfold Blk at *
  simp [World.setCell, Array.getElem?_modify, h]
theorem Blk.other {w : World} {b : Nat} {t : TypeId} {l : List Value} (h : Blk w b t l) {a : Addr} (ha : a.block ≠ b) (v : Value) : Blk (w.setCell a v) b t l := by
  unfold Blk at *
  rw [Below.heap_setCell _ _ _ _ (Ne.symm ha)]; exact h
theorem Blk.lt {w : World} {b : Nat} {t : TypeId} {l : List Value} (h : Blk w b t l) : b < w.heap.size := by
  unfold Blk at h
  by_cases hb : b < w.heap.size
  · exact hb
  · rw [Array.getElem?_eq_none (by omega)] at h; simp at h

theorem below_set {w : World} {b o : Nat} {v : Value} : Below b w (w.setCell ⟨b, o, none⟩ v) := (Below.refl b w).setCell (p := ⟨b, o, none⟩) (Nat.le_refl _) v
theorem below_set2 {w : World} {b o o' : Nat} {v v' : Value} : Below b w ((w.setCell ⟨b, o, none⟩ v).setCell ⟨b, o', none⟩ v') := below_set.trans below_set
theorem below_set3 {w : World} {b o o' o2 : Nat} {v v' v2 : Value} : Below b w (((w.setCell ⟨b, o, none⟩ v).setCell ⟨b, o', none⟩ v').setCell ⟨b, o2, none⟩ v2) := below_set2.trans below_set

set_option maxHeartbeats 400000 in
theorem isLetter_any (c : Int) (w : World) :
    Calls Tryz.prog 100 #[.int .u8 c] w fun e w' => e = .returned (.bool (decide (65 ≤ c ∧ c ≤ 90))) ∧ w' = w := by
  by_cases h1 : 65 ≤ c
  all_goals by_cases h2 : c ≤ 90
  all_goals
    go_enter Tryz.func100, Tryz.ntmps100
    go_wp2
    go_ret
    exact ⟨by simp [h1, h2], rfl⟩

set_option maxHeartbeats 400000 in
theorem takeBarSign_no (b : Nat) (r : Rd) (w : World) (hb : Blk w b 117 r.vals) (h : 3 ≤ r.s) :
    Calls Tryz.prog 101 #[.pointer (some ⟨b, 0, none⟩)] w fun e w' => e = .returned (.bool false) ∧ w' = w := by
  have h1 := hb.cell 1
  simp [Rd.vals] at h1
  go_enter Tryz.func101, Tryz.ntmps101
  go_wp2
  go_ret
  exact ⟨rfl, rfl⟩
set_option maxHeartbeats 400000 in
theorem takeBarSign_yes (b : Nat) (r : Rd) (w : World) (hb : Blk w b 117 r.vals) (h : r.s < 3) :
    Calls Tryz.prog 101 #[.pointer (some ⟨b, 0, none⟩)] w fun e w' => e = .returned (.bool true) ∧ Blk w' b 117 { r with a := 2 }.vals ∧ Below b w w' := by
  have h0 := hb.cell 0
  have h1 := hb.cell 1
  simp [Rd.vals] at h0 h1
  have f0 := hb.frozen 0
  go_enter Tryz.func101, Tryz.ntmps101
  go_wp2
  go_ret
  exact ⟨rfl, hb.set 0 _, below_set⟩

set_option maxHeartbeats 400000 in
theorem takeBarredKind_no (b : Nat) (c : Int) (w : World) (h : ¬ (65 ≤ c ∧ c ≤ 90)) :
    Calls Tryz.prog 90 #[.pointer (some ⟨b, 0, none⟩), .int .u8 c] w fun e w' => e = .returned (.bool false) ∧ w' = w := by
  go_enter Tryz.func90, Tryz.ntmps90
  go_wp2_with (go_at_call 100; refine (isLetter_any _ _).mono ?_; rintro e w' ⟨rfl, rfl⟩; simp only [h, decide_false])
  go_ret
  exact ⟨rfl, rfl⟩
set_option maxHeartbeats 400000 in
theorem takeBarredKind_yes (b : Nat) (r : Rd) (c : Int) (w : World) (hb : Blk w b 117 r.vals) (h : 65 ≤ c ∧ c ≤ 90) :
    Calls Tryz.prog 90 #[.pointer (some ⟨b, 0, none⟩), .int .u8 c] w fun e w' => e = .returned (.bool true) ∧ Blk w' b 117 { r with a := 3 }.vals ∧ Below b w w' := by
  have h0 := hb.cell 0
  simp [Rd.vals] at h0
  have f0 := hb.frozen 0
  go_enter Tryz.func90, Tryz.ntmps90
  go_wp2_with (go_at_call 100; refine (isLetter_any _ _).mono ?_; rintro e w' ⟨rfl, rfl⟩; simp only [h, decide_true, and_self])
  go_ret
  exact ⟨rfl, hb.set 0 _, below_set⟩

set_option maxHeartbeats 400000 in
theorem takeWindowSign_no (b : Nat) (c : Int) (w : World) (h : c ≠ 64) :
    Calls Tryz.prog 91 #[.pointer (some ⟨b, 0, none⟩), .int .u8 c] w fun e w' => e = .returned (.bool false) ∧ w' = w := by
  have h' : (c == 64) = false := by simpa using h
  go_enter Tryz.func91, Tryz.ntmps91
  go_wp2
  go_ret
  exact ⟨rfl, rfl⟩
set_option maxHeartbeats 400000 in
theorem takeWindowSign_yes (b : Nat) (r : Rd) (w : World) (hb : Blk w b 117 r.vals) :
    Calls Tryz.prog 91 #[.pointer (some ⟨b, 0, none⟩), .int .u8 64] w fun e w' => e = .returned (.bool true) ∧ Blk w' b 117 { r with a := 5 }.vals ∧ Below b w w' := by
  have h0 := hb.cell 0
  simp [Rd.vals] at h0
  have f0 := hb.frozen 0
  go_enter Tryz.func91, Tryz.ntmps91
  go_wp2
  go_ret
  exact ⟨rfl, hb.set 0 _, below_set⟩

set_option maxHeartbeats 400000 in
theorem takeStep_no (b : Nat) (r : Rd) (c : Int) (w : World) (hb : Blk w b 117 r.vals) (h : ¬ (65 ≤ c ∧ c ≤ 90) ∨ 3 ≤ r.s) :
    Calls Tryz.prog 88 #[.pointer (some ⟨b, 0, none⟩), .int .u8 c] w fun e w' => e = .returned (.bool false) ∧ w' = w := by
  have h1 := hb.cell 1
  simp [Rd.vals] at h1
  by_cases hc : 65 ≤ c ∧ c ≤ 90
  · have h3 : 3 ≤ r.s := by rcases h with h | h; · exact absurd hc h
                            · exact h
    clear h
    go_enter Tryz.func88, Tryz.ntmps88
    go_wp2_with (go_at_call 100; refine (isLetter_any _ _).mono ?_; rintro e w' ⟨rfl, rfl⟩; simp only [hc, decide_true, and_self])
    go_ret
    exact ⟨rfl, rfl⟩
  · go_enter Tryz.func88, Tryz.ntmps88
    go_wp2_with (go_at_call 100; refine (isLetter_any _ _).mono ?_; rintro e w' ⟨rfl, rfl⟩; simp only [hc, decide_false])
    go_ret
    exact ⟨rfl, rfl⟩
set_option maxHeartbeats 400000 in
theorem takeStep_yes (b : Nat) (r : Rd) (c : Int) (w : World) (hb : Blk w b 117 r.vals) (hc : 65 ≤ c ∧ c ≤ 90) (h0' : 0 ≤ r.s) (h3 : r.s < 3) :
    Calls Tryz.prog 88 #[.pointer (some ⟨b, 0, none⟩), .int .u8 c] w fun e w' => e = .returned (.bool true) ∧ Blk w' b 117 { r with a := 1, s := r.s + 1 }.vals ∧ Below b w w' := by
  have h0 := hb.cell 0
  have h1 := hb.cell 1
  simp [Rd.vals] at h0 h1
  have f0 := hb.frozen 0
  have f1 := hb.frozen 1
  go_enter Tryz.func88, Tryz.ntmps88
  go_wp2_with (go_at_call 100; refine (isLetter_any _ _).mono ?_; rintro e w' ⟨rfl, rfl⟩; simp only [hc, decide_true, and_self])
  go_ret
  exact ⟨rfl, (hb.set 1 _).set 0 _, below_set2⟩

set_option maxHeartbeats 400000 in
theorem takeDigit_yes (b : Nat) (r : Rd) (c : Int) (w : World) (hb : Blk w b 117 r.vals) (hd : 0 ≤ r.d) (hv : 0 ≤ r.v) (hv' : r.v ≤ 1099511627776) (h1' : 48 ≤ c) (h2' : c ≤ 57) (h3' : r.d < 13) (h4' : 10 * r.v + (c - 48) ≤ 1099511627776) :
    Calls Tryz.prog 92 #[.pointer (some ⟨b, 0, none⟩), .int .u8 c] w fun e w' => e = .returned (.bool true) ∧ Blk w' b 117 { r with a := 6, d := r.d + 1, v := 10 * r.v + (c - 48) }.vals ∧ Below b w w' := by
  have h0 := hb.cell 0
  have h2 := hb.cell 2
  have h3 := hb.cell 3
  simp [Rd.vals] at h0 h2 h3
  have f0 := hb.frozen 0
  have f2 := hb.frozen 2
  have f3 := hb.frozen 3
  go_enter Tryz.func92, Tryz.ntmps92
  go_wp2
  go_ret
  exact ⟨rfl, ((hb.set 3 _).set 2 _).set 0 _, below_set3⟩
set_option maxHeartbeats 400000 in
theorem takeDigit_no (b : Nat) (r : Rd) (c : Int) (w : World) (hb : Blk w b 117 r.vals) (hd : 0 ≤ r.d) (hv : 0 ≤ r.v) (hv' : r.v ≤ 1099511627776) (h0c : 0 ≤ c) (hc : c ≤ 255) (h : ¬ (48 ≤ c ∧ c ≤ 57 ∧ r.d < 13 ∧ 10 * r.v + (c - 48) ≤ 1099511627776)) :
    Calls Tryz.prog 92 #[.pointer (some ⟨b, 0, none⟩), .int .u8 c] w fun e w' => e = .returned (.bool false) ∧ w' = w := by
  have h2 := hb.cell 2
  have h3 := hb.cell 3
  simp [Rd.vals] at h2 h3
  by_cases g1 : 48 ≤ c
  · by_cases g2 : c ≤ 57
    · by_cases g3 : r.d < 13
      · have g4 : 1099511627776 < 10 * r.v + (c - 48) := by omega
        clear h
        go_enter Tryz.func92, Tryz.ntmps92
        go_wp2
        go_ret
        exact ⟨rfl, rfl⟩
      · clear h
        go_enter Tryz.func92, Tryz.ntmps92
        go_wp2
        go_ret
        exact ⟨rfl, rfl⟩
    · clear h
      go_enter Tryz.func92, Tryz.ntmps92
      go_wp2
      go_ret
      exact ⟨rfl, rfl⟩
  · clear h
    go_enter Tryz.func92, Tryz.ntmps92
    go_wp2
    go_ret
    exact ⟨rfl, rfl⟩
end Go.Proofs.YthiabdpgieppoaaGreat
