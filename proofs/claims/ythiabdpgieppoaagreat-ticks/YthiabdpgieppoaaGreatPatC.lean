import Derived.Test.YthiabdpgieppoaaGreatPatB
namespace Go.Proofs.YthiabdpgieppoaaGreat
open Go.RowKit
set_option linter.unusedVariables false
set_option linter.unusedSimpArgs false

theorem bcell {W w1 : World} {B : Nat} (hb : Below B W w1) : (∀ b o, b < B → w1.cell? ⟨b, o, none⟩ = W.cell? ⟨b, o, none⟩) ∧ (∀ b o, b < B → w1.frozen? ⟨b, o, none⟩ = W.frozen? ⟨b, o, none⟩) :=
  ⟨fun b o h => hb.cell (p := ⟨b, o, none⟩) h, fun b o h => hb.frozen (p := ⟨b, o, none⟩) h⟩
theorem blk_alloc (w : World) (l : List Value) (t : TypeId) : Blk (w.alloc (.cells l.toArray t)) w.heap.size t l := by
  unfold Blk; exact heap_alloc_new w _
theorem take_snoc (s : ByteArray) (k : Nat) (h : k < s.size) : s.data.toList.take (k + 1) = s.data.toList.take k ++ [s[k]] := by
  rw [List.take_succ_eq_append_getElem (by simpa using h)]; rfl
theorem run_snoc {r0 r : Rd} {l : List UInt8} {c : UInt8} (h : run r0 l = some r) : run r0 (l ++ [c]) = r.take c.toNat := by
  rw [run_append, h]; simp [run]

theorem take_take' {l : List UInt8} {j k : Nat} (h : j ≤ k) : ∃ m, l.take k = l.take j ++ m := ⟨(l.take k).drop j, by
  have := (List.take_append_drop j (l.take k)).symm
  rwa [List.take_take, Nat.min_eq_left h] at this⟩
theorem run_prefix {r : Rd} {l : List UInt8} {j k : Nat} (h : j ≤ k) (hr : run rd0 (l.take k) = some r) : (run rd0 (l.take j)).isSome = true := by
  obtain ⟨m, e⟩ := take_take' (l := l) h
  rw [e, run_append] at hr
  cases hj : run rd0 (l.take j) with
  | none => rw [hj] at hr; simp at hr
  | some q => rfl
theorem check_first {l : List UInt8} {k : Nat} {r : Rd} (h60 : l.length ≤ 60) (hk : k ≤ l.length) (hr : run rd0 (l.take k) = some r) (hn : run rd0 (l.take (k + 1)) = none) (hlt : k < l.length) :
    CheckIs acc (fun x => (run rd0 x).isSome = true) l 2 k := by
  refine Or.inr (Or.inr ⟨h60, ?_, rfl, k, rfl, hk, fun j hj => run_prefix (by omega) hr, fun _ => by simp [hn]⟩)
  rintro ⟨q, hq, _⟩
  have := run_prefix (l := l) (j := k + 1) (k := l.length) (r := q) (by omega) (by rw [List.take_length]; exact hq)
  rw [hn] at this
  simp at this
theorem check_end {l : List UInt8} {r : Rd} (h60 : l.length ≤ 60) (hr : run rd0 l = some r) (hf : ¬ final r) : CheckIs acc (fun x => (run rd0 x).isSome = true) l 2 l.length := by
  refine Or.inr (Or.inr ⟨h60, ?_, rfl, l.length, rfl, Nat.le_refl _, fun j hj => run_prefix (r := r) (k := l.length) (by omega) (by rw [List.take_length]; exact hr), fun h => by omega⟩)
  rintro ⟨q, hq, hq'⟩
  rw [hr] at hq
  simp only [Option.some.injEq] at hq
  exact hf (hq ▸ hq')

set_option maxHeartbeats 1000000 in
theorem pcheck_any (s : ByteArray) (w : World) (hs : s.size ≤ maxLen) :
    Calls Tryz.prog 33 #[.string s] w fun e w' => ∃ x y : Int, e = .returned (.tuple #[.int .i64 x, .int .i64 y]) ∧ CheckIs acc (fun x => (run rd0 x).isSome = true) s.data.toList x y ∧ Below w.heap.size w w' := by
  unfold maxLen at hs
  by_cases h60 : 60 < s.size
  · go_enter Tryz.func33, Tryz.ntmps33
    go_wp2
    go_ret2
    exact ⟨9, 0, rfl, Or.inl ⟨by simpa using h60, rfl, rfl⟩, Below.refl _ _⟩
  · go_enter Tryz.func33, Tryz.ntmps33
    go_wp2
    go_loopw [5] (fun i wr => ∃ (k : Nat) (r : Rd), k ≤ s.size ∧ i = .int .i64 k ∧ run rd0 (s.data.toList.take k) = some r ∧ Blk wr w.heap.size 117 r.vals ∧ Below w.heap.size w wr) (fun i _ => s.size - (intOf i).toNat)
    case atStart => exact ⟨0, rd0, Nat.zero_le _, rfl, by simp [run], blk_alloc _ _ _, (Below.refl _ _).alloc (Nat.le_refl _) _⟩
    case round =>
      obtain ⟨k, r, hk, rfl, hrun, hblk, hbel⟩ := hrel
      have HR : Hid (run rd0 (s.data.toList.take k) = some r) := hrun
      clear hrun
      have hok := run_ok rd0_ok HR.out
      have hst : r.st := run_st (by simp [Rd.st, rd0]) HR.out
      by_cases hlt : k < s.size
      · have hsn : Hid (run rd0 (s.data.toList.take (k + 1)) = r.take s[k].toNat) := by show _ = _; rw [take_snoc s k hlt]; exact run_snoc HR.out
        have hc255 : (s[k].toNat : Int) ≤ 255 := by have := s[k].toNat_lt; omega
        cases ht : r.take s[k].toNat with
        | some r' =>
          have HT : Hid (r.take s[k].toNat = some r') := ht
          clear ht
          go_wp2_with (go_at_call 70; refine (take_yes _ r r' _ _ hok hst hblk HT.out).mono ?_; rintro e w' ⟨rfl, hb', hw⟩)
          go_roundw
          case rel => exact ⟨k + 1, r', by omega, by go_num, hsn.out.trans HT.out, hb', hbel.trans hw⟩
          case measure => simp [intOf]; omega
        | none =>
          have HT : Hid (r.take s[k].toNat = none) := ht
          clear ht
          go_wp2_with (go_at_call 70; refine (take_no _ r _ _ hok hst hblk (by omega) hc255 HT.out).mono ?_; rintro e w' ⟨rfl, rfl⟩)
          go_ret2
          exact ⟨2, k, rfl, check_first (by simpa using h60) hk HR.out (hsn.out.trans HT.out) (by simpa using hlt), hbel⟩
      · have h0 := hblk.cell 0
        simp [Rd.vals] at h0
        have hall : Hid (run rd0 s.data.toList = some r) := by
          show _ = _
          have := HR.out
          rwa [List.take_of_length_le (by simp; omega)] at this
        by_cases ha0 : r.a = 0
        · go_wp2
          go_ret2
          exact ⟨0, 0, rfl, Or.inr (Or.inl ⟨by simpa using h60, ⟨r, hall.out, Or.inl ha0⟩, rfl, rfl⟩), hbel⟩
        · by_cases ha6 : r.a = 6
          · go_wp2
            go_ret2
            exact ⟨0, 0, rfl, Or.inr (Or.inl ⟨by simpa using h60, ⟨r, hall.out, Or.inr ha6⟩, rfl, rfl⟩), hbel⟩
          · have e0 : (r.a != 0) = true := by simpa using ha0
            have e6 : (r.a != 6) = true := by simpa using ha6
            go_wp2
            go_ret2
            exact ⟨2, s.size, rfl, check_end (by simpa using h60) hall.out (by unfold final; omega), hbel⟩

end Go.Proofs.YthiabdpgieppoaaGreat
