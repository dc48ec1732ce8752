import Derived.Test.YtghcololkgeoeaaPatB
namespace Go.Proofs.Ytghcololkgeoeaa
open Go.RowKit
set_option linter.unusedVariables false
set_option linter.unusedSimpArgs false

theorem bcell {W w1 : World} {B : Nat} (hb : Below B W w1) : (∀ b o, b < B → w1.cell? ⟨b, o, none⟩ = W.cell? ⟨b, o, none⟩) ∧ (∀ b o, b < B → w1.frozen? ⟨b, o, none⟩ = W.frozen? ⟨b, o, none⟩) :=
  ⟨fun b o h => hb.cell (p := ⟨b, o, none⟩) h, fun b o h => hb.frozen (p := ⟨b, o, none⟩) h⟩
theorem blk_alloc (w : World) (l : List Value) (t : TypeId) : Blk (w.alloc (.cells l.toArray t)) w.heap.size t l := by
  unfold Blk; exact heap_alloc_new w _
theorem take_snoc (s : ByteArray) (k : Nat) (h : k < s.size) : s.data.toList.take (k + 1) = s.data.toList.take k ++ [s[k]] := by
  rw [List.take_succ_eq_append_getElem (by simpa using h)]; rfl
theorem run_snoc {r0 r : Rd} {l : List UInt8} {c : UInt8} (h : run r0 l = some r) : run r0 (l ++ [c]) = r.take c.toNat := by
  rw [run_append, h]; simp [run]

theorem take_take' {l : List UInt8} {j k : Nat} (h : j ≤ k) : ∃ m, l.take k = l.take j ++ m := ⟨(l.take k).drop j, by
  have := (List.take_append_drop j (l.take k)).symm
  rwa [List.take_take, Nat.min_eq_left h] at this⟩
theorem run_prefix {r : Rd} {l : List UInt8} {j k : Nat} (h : j ≤ k) (hr : run rd0 (l.take k) = some r) : (run rd0 (l.take j)).isSome = true := by
  obtain ⟨m, e⟩ := take_take' (l := l) h
  rw [e, run_append] at hr
  cases hj : run rd0 (l.take j) with
  | none => rw [hj] at hr; simp at hr
  | some q => rfl
theorem check_first {l : List UInt8} {k : Nat} {r : Rd} (h60 : l.length ≤ 60) (hk : k ≤ l.length) (hr : run rd0 (l.take k) = some r) (hn : run rd0 (l.take (k + 1)) = none) (hlt : k < l.length) :
    CheckIs acc (fun x => (run rd0 x).isSome = true) l 2 k := by
  refine Or.inr (Or.inr ⟨h60, ?_, rfl, k, rfl, hk, fun j hj => run_prefix (by omega) hr, fun _ => by simp [hn]⟩)
  rintro ⟨q, hq, _⟩
  have := run_prefix (l := l) (j := k + 1) (k := l.length) (r := q) (by omega) (by rw [List.take_length]; exact hq)
  rw [hn] at this
  simp at this
theorem check_end {l : List UInt8} {r : Rd} (h60 : l.length ≤ 60) (hr : run rd0 l = some r) (hf : ¬ final r) : CheckIs acc (fun x => (run rd0 x).isSome = true) l 2 l.length := by
  refine Or.inr (Or.inr ⟨h60, ?_, rfl, l.length, rfl, Nat.le_refl _, fun j hj => run_prefix (r := r) (k := l.length) (by omega) (by rw [List.take_length]; exact hr), fun h => by omega⟩)
  rintro ⟨q, hq, hq'⟩
  rw [hr] at hq
  simp only [Option.some.injEq] at hq
  exact hf (hq ▸ hq')

def z3 : List Value := [.slice none 0 0, .bool false, .int .i64 0]
/-- what Read answers -/
structure ReadIs (l : List UInt8) (w : World) (w' : World) (a : Option Addr) (c : Nat) (st : List (Int × Int)) (same : Bool) (win x y : Int) : Prop where
  chk : CheckIs acc (fun x => (run rd0 x).isSome = true) l x y
  bel : Below w.heap.size w w'
  own : w'.ownsRow w.heap.size 122 2 (.slice a st.length c) st.length (flat st)
  pat : x = 0 → ∃ r, run rd0 l = some r ∧ final r ∧ r.sts = st ∧ r.same = same ∧ r.v = win
/-- the world while a pattern is read -/
structure RdK (w wr : World) (r : Rd) (a : Option Addr) (c : Nat) : Prop where
  res : Blk wr w.heap.size 73 z3
  rd : RdAt wr (w.heap.size + 1) r a c
  bel : Below w.heap.size w wr
theorem RdK.fin {w wr : World} {r : Rd} {a : Option Addr} {c : Nat} (h : RdK w wr r a c) (x y z : Value) :
    Below w.heap.size w (((wr.setCell ⟨w.heap.size, 0, none⟩ x).setCell ⟨w.heap.size, 1, none⟩ y).setCell ⟨w.heap.size, 2, none⟩ z) ∧ (((wr.setCell ⟨w.heap.size, 0, none⟩ x).setCell ⟨w.heap.size, 1, none⟩ y).setCell ⟨w.heap.size, 2, none⟩ z).ownsRow w.heap.size 122 2 (.slice a r.sts.length c) r.sts.length (flat r.sts) := by
  refine ⟨h.bel.trans below_set3, ?_⟩
  have e : ∀ k, k ≠ w.heap.size → (((wr.setCell ⟨w.heap.size, 0, none⟩ x).setCell ⟨w.heap.size, 1, none⟩ y).setCell ⟨w.heap.size, 2, none⟩ z).heap[k]? = wr.heap[k]? := fun k hk => by
    rw [Below.heap_setCell _ _ _ _ (by simpa using hk), Below.heap_setCell _ _ _ _ (by simpa using hk), Below.heap_setCell _ _ _ _ (by simpa using hk)]
  obtain ⟨h1, h2⟩ := h.rd.own
  refine ⟨h1, ?_⟩
  rcases h2 with h2 | ⟨g, cap, cur, hv, hg, hh, r⟩
  · exact Or.inl h2
  · exact Or.inr ⟨g, cap, cur, hv, by omega, by rw [e g (by omega)]; exact hh, r⟩
set_option maxRecDepth 100000 in
set_option maxHeartbeats 2000000 in
theorem pread_any (s : ByteArray) (w : World) (hs : s.size ≤ maxLen) :
    Calls Try.prog 25 #[.string s] w fun e w' => ∃ (a : Option Addr) (c : Nat) (st : List (Int × Int)) (same : Bool) (win x y : Int), e = .returned (.tuple #[.agg #[.slice a st.length c, .bool same, .int .i64 win], .int .i64 x, .int .i64 y]) ∧ ReadIs s.data.toList w w' a c st same win x y := by
  unfold maxLen at hs
  by_cases h60 : 60 < s.size
  · go_enter Try.func25, Try.ntmps25
    go_wp2
    refine bodyPost_ret (v := .tuple #[.agg #[.slice none 0 0, .bool false, .int .i64 0], .int .i64 9, .int .i64 0]) (by simp [results, Try.results25, go_sem]) rfl ⟨none, 0, [], false, 0, 9, 0, rfl, Or.inl ⟨by simpa using h60, rfl, rfl⟩, ?_, World.ownsRow_nil _ _ _ _, fun e => absurd e (by decide)⟩
    exact (Below.refl _ _).alloc (Nat.le_refl _) _
  · go_enter Try.func25, Try.ntmps25
    go_wp2
    go_loopw [6] (fun i wr => ∃ (k : Nat) (r : Rd) (a : Option Addr) (c : Nat), k ≤ s.size ∧ i = .int .i64 k ∧ run rd0 (s.data.toList.take k) = some r ∧ RdK w wr r a c) (fun i _ => s.size - (intOf i).toNat)
    case atStart =>
      refine ⟨0, rd0, none, 0, Nat.zero_le _, rfl, by simp [run], ?_, ⟨?_, ?_⟩, ?_⟩
      · exact (blk_alloc _ _ _).alloc _
      · have := blk_alloc (w.alloc (.cells z3.toArray 73)) (rd0.vals none 0) 107
        simpa [z3, Rd.vals, rd0] using this
      · exact World.ownsRow_nil _ _ _ _
      · exact ((Below.refl _ _).alloc (Nat.le_refl _) _).alloc (by simp) _
    case round =>
      obtain ⟨k, r, a, c, hk, rfl, hrun, hkk⟩ := hrel
      have HR : Hid (run rd0 (s.data.toList.take k) = some r) := hrun
      have HK : Hid (RdK w wr r a c) := hkk
      clear hrun hkk
      have hok := run_ok rd0_ok HR.out
      have hst : r.st := run_st (by simp [Rd.st, rd0]) HR.out
      have hrd := HK.out.rd
      have p0 := HK.out.res.cell 0
      have p1 := HK.out.res.cell 1
      have p2 := HK.out.res.cell 2
      simp only [z3, List.getElem?_cons_zero, List.getElem?_cons_succ] at p0 p1 p2
      have g0 := HK.out.res.frozen 0
      have g1 := HK.out.res.frozen 1
      have g2 := HK.out.res.frozen 2
      by_cases hlt : k < s.size
      · have hsn : Hid (run rd0 (s.data.toList.take (k + 1)) = r.take s[k].toNat) := by show _ = _; rw [take_snoc s k hlt]; exact run_snoc HR.out
        have hc255 : (s[k].toNat : Int) ≤ 255 := by have := s[k].toNat_lt; omega
        cases ht : r.take s[k].toNat with
        | some r' =>
          have HT : Hid (r.take s[k].toNat = some r') := ht
          clear ht
          go_wp2_with (go_at_call 43; refine (take_yes _ r r' _ _ hok hst hrd HT.out).mono ?_; rintro e w' ⟨rfl, hb', hw⟩)
          go_roundw
          case rel =>
            obtain ⟨a', c', hb'⟩ := hb'
            exact ⟨k + 1, r', a', c', by omega, by go_num, hsn.out.trans HT.out, HK.out.res.below hw (by omega), hb', HK.out.bel.trans (hw.mono (by omega))⟩
          case measure => simp [intOf]; omega
        | none =>
          have HT : Hid (r.take s[k].toNat = none) := ht
          clear ht
          go_wp2_with (go_at_call 43; refine (take_no _ r _ _ hok hst hrd (by omega) hc255 HT.out).mono ?_; rintro e w' ⟨rfl, rfl⟩)
          refine bodyPost_ret (v := .tuple #[.agg #[.slice none 0 0, .bool false, .int .i64 0], .int .i64 2, .int .i64 k]) (by simp [results, Try.results25, go_sem, p0, p1, p2]) rfl ⟨none, 0, [], false, 0, 2, k, rfl, check_first (by simpa using h60) hk HR.out (hsn.out.trans HT.out) (by simpa using hlt), (HK.out.fin _ _ _).1, World.ownsRow_nil _ _ _ _, fun e => absurd e (by decide)⟩
      · have h0 := hrd.blk.cell 0
        have h3 := hrd.blk.cell 3
        have h4 := hrd.blk.cell 4
        have h5 := hrd.blk.cell 5
        simp [Rd.vals] at h0 h3 h4 h5
        have hall : Hid (run rd0 s.data.toList = some r) := by
          show _ = _
          have := HR.out
          rwa [List.take_of_length_le (by simp; omega)] at this
        by_cases ha0 : r.a = 0
        · go_wp2
          refine bodyPost_ret (v := .tuple #[.agg #[.slice a r.sts.length c, .bool r.same, .int .i64 r.v], .int .i64 0, .int .i64 0]) (by simp [results, Try.results25, go_sem, p0, p1, p2]) rfl ⟨a, c, r.sts, r.same, r.v, 0, 0, rfl, Or.inr (Or.inl ⟨by simpa using h60, ⟨r, hall.out, Or.inl ha0⟩, rfl, rfl⟩), (HK.out.fin _ _ _).1, (HK.out.fin _ _ _).2, fun _ => ⟨r, hall.out, Or.inl ha0, rfl, rfl, rfl⟩⟩
        · by_cases ha6 : r.a = 6
          · go_wp2
            refine bodyPost_ret (v := .tuple #[.agg #[.slice a r.sts.length c, .bool r.same, .int .i64 r.v], .int .i64 0, .int .i64 0]) (by simp [results, Try.results25, go_sem, p0, p1, p2]) rfl ⟨a, c, r.sts, r.same, r.v, 0, 0, rfl, Or.inr (Or.inl ⟨by simpa using h60, ⟨r, hall.out, Or.inr ha6⟩, rfl, rfl⟩), (HK.out.fin _ _ _).1, (HK.out.fin _ _ _).2, fun _ => ⟨r, hall.out, Or.inr ha6, rfl, rfl, rfl⟩⟩
          · have e0 : (r.a != 0) = true := by simpa using ha0
            have e6 : (r.a != 6) = true := by simpa using ha6
            go_wp2
            refine bodyPost_ret (v := .tuple #[.agg #[.slice none 0 0, .bool false, .int .i64 0], .int .i64 2, .int .i64 s.size]) (by simp [results, Try.results25, go_sem, p0, p1, p2]) rfl ⟨none, 0, [], false, 0, 2, s.size, rfl, check_end (by simpa using h60) hall.out (by unfold final; omega), (HK.out.fin _ _ _).1, World.ownsRow_nil _ _ _ _, fun e => absurd e (by decide)⟩

set_option maxHeartbeats 1000000 in
theorem pcheck_any (s : ByteArray) (w : World) (hs : s.size ≤ maxLen) :
    Calls Try.prog 10 #[.string s] w fun e w' => ∃ x y : Int, e = .returned (.tuple #[.int .i64 x, .int .i64 y]) ∧ CheckIs acc (fun x => (run rd0 x).isSome = true) s.data.toList x y ∧ Below w.heap.size w w' := by
  go_enter Try.func10, Try.ntmps10
  go_wp2_with (go_at_call 25; refine (pread_any s _ hs).mono ?_; rintro e w' ⟨a, c, st, same, win, x, y, rfl, hr⟩)
  go_ret2
  exact ⟨x, y, rfl, hr.chk, hr.bel.alloc hr.bel.size _⟩

set_option maxHeartbeats 400000 in
theorem fcheck_any (s : ByteArray) (w : World) (hs : s.size ≤ maxLen) :
    Calls Try.prog 5 #[.string s] w fun e w' => ∃ x y : Int, e = .returned (.tuple #[.int .i64 x, .int .i64 y]) ∧ CheckIs wholeP goesP s.data.toList x y ∧ Below w.heap.size w w' := by
  go_enter Try.func5, Try.ntmps5
  go_wp2_with (go_at_call 10; refine (pcheck_any s _ hs).mono ?_; rintro e w' ⟨x, y, rfl, hc, hw⟩)
  go_ret2
  exact ⟨x, y, rfl, (checkIs_iff _ _ _).1 hc, hw⟩
end Go.Proofs.Ytghcololkgeoeaa
