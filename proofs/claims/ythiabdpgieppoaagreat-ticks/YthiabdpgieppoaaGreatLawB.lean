import Derived.Test.YthiabdpgieppoaaGreatLawA
namespace Go.Proofs.YthiabdpgieppoaaGreat
open Go.RowKit
set_option linter.unusedVariables false
set_option linter.unusedSimpArgs false
attribute [local go_sem ↓] Go.wp_at_zero Go.wp_at_succ

/-- a slice of events that are all one -/
structure Sl where
  a : Option Addr
  n : Nat
  c : Nat
def Sl.val (s : Sl) : Value := .slice s.a s.n s.c
/-- a list that came out, and what append made of it: all full of one mark -/
structure Owns (w : World) (a : Option Addr) (c : Nat) (sl : List Sl) (m : Ev) : Prop where
  row : Row w 78 1 a sl.length c (sl.map Sl.val)
  len : sl.length ≤ 1000
  each : ∀ s ∈ sl, Row w 32 5 s.a s.n s.c (evs (List.replicate s.n m)) ∧ s.n ≤ 100000
theorem Owns.heap {w w' : World} {a : Option Addr} {c : Nat} {sl : List Sl} {m : Ev} (h : Owns w a c sl m) (hk : ∀ k, k < w.heap.size → w'.heap[k]? = w.heap[k]?) : Owns w' a c sl m :=
  ⟨ownsRow_of_heap h.row hk, h.len, fun s hs => ⟨ownsRow_of_heap (h.each s hs).1 hk, (h.each s hs).2⟩⟩
theorem Owns.slot {w : World} {a : Option Addr} {c : Nat} {sl : List Sl} {m : Ev} (h : Owns w a c sl m) (k : Nat) (hk : k < sl.length) : ∃ g, a = some ⟨g, 0, none⟩ ∧ w.cell? ⟨g, k, none⟩ = some (.slice sl[k].a sl[k].n sl[k].c) := by
  obtain ⟨g, e, _, _, hc, _⟩ := h.row.form (by omega)
  exact ⟨g, e, by rw [hc k (by omega)]; simp [Sl.val, hk]⟩

set_option maxRecDepth 100000 in
set_option maxHeartbeats 4000000 in
theorem holds_true (a : Option Addr) (c : Nat) (sl : List Sl) (m : Ev) (w : World) (h : Owns w a c sl m) :
    Calls Tryz.prog 27 #[.agg #[.slice a sl.length c], m.agg] w fun e w' => e = .returned (.bool true) ∧ Below w.heap.size w w' := by
  have HO : Hid (Owns w a c sl m) := h
  have hsl := h.len
  clear h
  unfold Ev.agg
  go_enter Tryz.func27, Tryz.ntmps27
  go_upto_region 1 with fail
  obtain ⟨w2, HW2⟩ := hex ((w.alloc (.cells #[.slice a sl.length c] 64)).alloc (.cells m.vals.toArray 32))
  have HB2 : Hid (Below w.heap.size w w2) := by show Below _ _ _; rw [HW2.out]; exact ((Below.refl _ _).alloc (Nat.le_refl _) _).alloc (by simp) _
  have HO2 : Hid (Owns w2 a c sl m) := HO.out.heap (fun k hk => HB2.out.block k hk)
  have HA2 : Hid (Blk w2 w.heap.size 64 [.slice a sl.length c]) := by show Blk _ _ _ _; rw [HW2.out]; exact (blk_alloc w [.slice a sl.length c] _).alloc _
  have HM2 : Hid (Blk w2 (w.heap.size + 1) 32 m.vals) := by show Blk _ _ _ _; rw [HW2.out]; have := blk_alloc (w.alloc (.cells #[.slice a sl.length c] 64)) m.vals 32; simpa using this
  have hw2 := HW2.out.symm
  unfold Ev.vals at hw2
  rw [hw2]
  clear hw2 HW2
  go_wp2
  go_loopw [5] (fun i wr => ∃ (k n : Nat), k ≤ sl.length ∧ i = .int .i64 k ∧ wr = w2.drewN n) (fun i _ => sl.length - (intOf i).toNat)
  case atStart => exact ⟨0, 0, Nat.zero_le _, rfl, rfl⟩
  case round =>
    obtain ⟨k, n, hk, rfl, hwr⟩ := hrel
    have HOr : Hid (Owns wr a c sl m) := by show Owns _ _ _ _ _; rw [hwr]; exact HO2.out.heap (fun k hk => rfl)
    have HAr : Hid (Blk wr w.heap.size 64 [.slice a sl.length c]) := by show Blk _ _ _ _; rw [hwr]; exact HA2.out
    have HMr : Hid (Blk wr (w.heap.size + 1) 32 m.vals) := by show Blk _ _ _ _; rw [hwr]; exact HM2.out
    have HW : Hid (wr = w2.drewN n) := hwr
    clear hwr
    have a0 := HAr.out.cell 0
    simp only [List.getElem?_cons_zero] at a0
    by_cases hlt : k < sl.length
    · have hlt' : (k : Int) < (sl.length : Int) := by omega
      have hk0 : (0 : Int) ≤ (k : Int) := by omega
      have HE := HOr.out.each sl[k] (List.getElem_mem hlt)
      have HEr : Hid (Row wr 32 5 sl[k].a sl[k].n sl[k].c (evs (List.replicate sl[k].n m))) := HE.1
      have hsn := HE.2
      obtain ⟨g, hg, s0⟩ := HOr.out.slot k hlt
      clear HE
      obtain ⟨S, HS⟩ := hex sl[k]
      rw [← HS.out] at HEr hsn s0
      obtain ⟨wo, hwo⟩ : ∃ x, x = wr := ⟨_, rfl⟩
      rw [← hwo] at HOr HAr HMr HW HEr s0 a0 ⊢
      clear hwo
      subst hg
      go_wp2
      go_loopw [6] (fun i wr => ∃ (j n : Nat), j ≤ S.n ∧ i = .int .i64 j ∧ wr = wo.drewN n) (fun i _ => S.n - (intOf i).toNat)
      case atStart => exact ⟨0, 0, Nat.zero_le _, rfl, rfl⟩
      case round =>
        obtain ⟨j, n', hj, rfl, hwr⟩ := hrel
        have a0' : wr.cell? ⟨w.heap.size, 0, none⟩ = some (.slice (some ⟨g, 0, none⟩) sl.length c) := by rw [hwr]; exact a0
        have s0' : wr.cell? ⟨g, k, none⟩ = some (.slice S.a S.n S.c) := by rw [hwr]; exact s0
        have HEx : Hid (Row wr 32 5 S.a S.n S.c (evs (List.replicate S.n m))) := by show Row _ _ _ _ _ _ _; rw [hwr]; exact HEr.out
        have HMx : Hid (Blk wr (w.heap.size + 1) 32 m.vals) := by show Blk _ _ _ _; rw [hwr]; exact HMr.out
        have HWx : Hid (wr = wo.drewN n') := hwr
        clear hwr
        by_cases hjt : j < S.n
        · have hjt' : (j : Int) < (S.n : Int) := by omega
          have hj0 : (0 : Int) ≤ (j : Int) := by omega
          have HL : Hid (Row wr 32 5 S.a (List.replicate S.n m).length S.c (evs (List.replicate S.n m))) := by show Row _ _ _ _ _ _ _; rw [List.length_replicate]; exact HEx.out
          obtain ⟨h', hh', hnc, x0, x1, x2, x3, x4⟩ := evRow_cells HL.out j (by rw [List.length_replicate]; exact hjt)
          simp only [List.getElem_replicate] at x0 x1 x2 x3 x4
          rw [hh'] at s0'
          have m0 := HMx.out.cell 0
          have m1 := HMx.out.cell 1
          have m2 := HMx.out.cell 2
          have m3 := HMx.out.cell 3
          have m4 := HMx.out.cell 4
          simp only [Ev.vals, List.getElem?_cons_zero, List.getElem?_cons_succ] at m0 m1 m2 m3 m4
          have HH : Hid (S.a = some ⟨h', 0, none⟩) := hh'
          clear hh'
          go_wp2
          go_quiet (fail)
          go_wp2
          go_roundw
          case rel => exact ⟨j + 1, n' + _, by omega, by go_num, by rw [HWx.out, drewN2]⟩
          case measure => simp [intOf]; omega
        · go_wp2
          go_roundw
          case rel => exact ⟨k + 1, n + n', by omega, by go_num, by rw [HWx.out, HW.out, drewN2]⟩
          case measure => simp [intOf]; omega
    · go_wp2
      go_ret
      exact ⟨rfl, by rw [HW.out]; exact bdrewN HB2.out n⟩
end Go.Proofs.YthiabdpgieppoaaGreat
