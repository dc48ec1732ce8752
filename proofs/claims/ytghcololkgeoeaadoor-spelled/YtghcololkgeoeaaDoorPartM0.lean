import Derived.Test.YtghcololkgeoeaaDoorPartK9
import Derived.Test.YtghcololkgeoeaaDoorPartK7
namespace Go.Proofs.YtghcololkgeoeaaDoor
open Go.RowKit
set_option linter.unusedVariables false
set_option linter.unusedSimpArgs false
attribute [local go_sem ↓] Go.wp_at_zero Go.wp_at_succ

/-! ### what a run counts -/
theorem plus_assoc (f g h : FedN) : (f.plus g).plus h = f.plus (g.plus h) := by unfold FedN.plus; simp only [FedN.mk.injEq]; omega
theorem plus_zero (f : FedN) : f.plus ⟨0, 0, 0⟩ = f := by unfold FedN.plus; simp
theorem stepX_shift {i : Nat} {c : UInt8} {f f' : FedN} {X X' : Eng} (h : StepX i c f X f' X') (g : FedN) : StepX i c (g.plus f) X (g.plus f') X' := by
  obtain ⟨p, hp, h⟩ := h
  refine ⟨p, hp, ?_⟩
  rcases h with ⟨h1, rfl, h2⟩ | ⟨h1, h2, rfl, h3⟩ | ⟨h1, h2, z, q, hq, rfl, h3⟩ | ⟨h1, h2, z, q, hq, rfl, h3⟩
  · exact Or.inl ⟨h1, rfl, h2⟩
  · exact Or.inr (Or.inl ⟨h1, h2, (plus_assoc _ _ _).symm, h3⟩)
  · exact Or.inr (Or.inr (Or.inl ⟨h1, h2, z, q, hq, (plus_assoc _ _ _).symm, h3⟩))
  · exact Or.inr (Or.inr (Or.inr ⟨h1, h2, z, q, hq, (plus_assoc _ _ _).symm, h3⟩))
theorem runs_shift {i : Nat} {l : List UInt8} {f f' : FedN} {X X' : Eng} (h : Runs i l f X f' X') (g : FedN) : Runs i l (g.plus f) X (g.plus f') X' := by
  induction h with
  | nil f X => exact Runs.nil _ _
  | cons h t ih => exact Runs.cons (stepX_shift h g) ih
def tot (f : FedN) : Int := f.good + f.refused + f.bad
def ends (l : List UInt8) : Nat := (l.filter (fun c => c == 10)).length
theorem stepX_cnt {i j : Nat} {c : UInt8} {f f' : FedN} {X X' : Eng} (h : StepX i c f X f' X') (hc : Cnt j f) : Cnt (j + 1) f' ∧ tot f' = tot f + (if c = 10 then 1 else 0) := by
  obtain ⟨p, hp, h⟩ := h
  rcases h with ⟨h1, rfl, h2⟩ | ⟨h1, h2, rfl, h3⟩ | ⟨h1, h2, z, q, hq, rfl, h3⟩ | ⟨h1, h2, z, q, hq, rfl, h3⟩
  · refine ⟨?_, by rw [if_neg h1]; omega⟩
    unfold Cnt at *; omega
  · exact ⟨cnt_bad hc, by rw [if_pos h1]; unfold tot FedN.plus; simp only; omega⟩
  · exact ⟨cnt_plus hc z, by rw [if_pos h1]; unfold tot FedN.plus fedOf; split <;> (simp only; omega)⟩
  · exact ⟨cnt_plus hc z, by rw [if_pos h1]; unfold tot FedN.plus fedOf; split <;> (simp only; omega)⟩
theorem runs_cnt {i : Nat} {l : List UInt8} {f f' : FedN} {X X' : Eng} (h : Runs i l f X f' X') : ∀ {j : Nat}, Cnt j f → Cnt (j + l.length) f' := by
  induction h with
  | nil f X => intro j hc; simpa using hc
  | @cons c l f f1 f2 X X1 X2 h t ih =>
    intro j hc
    have := ih (stepX_cnt h hc).1
    rw [List.length_cons, show j + (l.length + 1) = j + 1 + l.length by omega]
    exact this
theorem runs_ends {i : Nat} {l : List UInt8} {f f' : FedN} {X X' : Eng} (h : Runs i l f X f' X') : ∀ {j : Nat}, Cnt j f → tot f' = tot f + ends l := by
  induction h with
  | nil f X => intro j _; simp [ends]
  | @cons c l f f1 f2 X X1 X2 h t ih =>
    intro j hc
    obtain ⟨h1, h2⟩ := stepX_cnt h hc
    rw [ih h1, h2]
    unfold ends
    rw [List.filter_cons]
    by_cases e : c = 10
    · rw [if_pos e, if_pos (by simp [e])]
      simp only [List.length_cons]
      omega
    · rw [if_neg e, if_neg (by simp [e])]
      omega
theorem runs_len {i : Nat} {l : List UInt8} {f f' : FedN} {X X' : Eng} (h : Runs i l f X f' X') : X'.srcs.length = X.srcs.length := by
  induction h with
  | nil f X => rfl
  | cons h t ih => exact ih.trans (stepX_grow h).n
/-- bytes of another source, without a line end -/
theorem runs_between {i k : Nat} {l : List UInt8} {f f' : FedN} {X Y Y' : Eng} (h : Runs i l f Y f' Y') (hik : i ≠ k) (hn : ∀ c ∈ l, c ≠ 10) (ht : Twin (fun j => j = k) X Y) : Twin (fun j => j = k) X Y' := by
  induction h with
  | nil f X => exact ht
  | @cons c l f f1 f2 Y Y1 Y2 h t ih =>
    refine ih (fun c hc => hn c (by simp [hc])) ?_
    obtain ⟨p, hp, h⟩ := h
    have hc := hn c (by simp)
    rcases h with ⟨_, _, la, lc, rfl⟩ | ⟨e, _⟩ | ⟨e, _⟩ | ⟨e, _⟩
    · obtain ⟨⟨N, R, g1, g2⟩, hln⟩ := ht
      refine ⟨⟨N, R, g1, sim_line g2 hp ⟨rfl, rfl, rfl, rfl, rfl⟩⟩, ?_⟩
      intro j a b hj ha hb
      have hb : (Y.srcs.set i (p.keeps c la lc))[j]? = some b := hb
      rw [List.getElem?_set, if_neg (by rw [hj]; exact hik)] at hb
      exact hln j a b hj ha hb
    · exact absurd e hc
    · exact absurd e hc
    · exact absurd e hc
theorem seg_take (l : List UInt8) (n : Nat) : seg l 0 n = l.take n := by unfold seg; simp
theorem seg_drop {l : List UInt8} {n m : Nat} (h : l.length ≤ m) : seg l n m = l.drop n := by unfold seg; rw [List.take_of_length_le (by simp; omega)]

/-! ### first, lines -/
def firstB (s : ByteArray) (n : Nat) : ByteArray := if n < s.size then s.extract 0 n else s
theorem firstB_size (s : ByteArray) (n : Nat) : (firstB s n).size ≤ n := by 
  unfold firstB
  split
  · rw [ByteArray.size_extract]; omega
  · omega
set_option maxHeartbeats 1000000 in
theorem first_any (s : ByteArray) (n : Nat) (w : World) (hs : s.size ≤ maxLen) : Calls Tryd.prog 33 #[.string s, .int .i64 n] w fun e w' => e = .returned (.string (firstB s n)) ∧ w = w' := by
  by_cases h : n < s.size
  · have h' : (n : Int) < (s.size : Int) := by omega
    have h0 : (0 : Int) ≤ (n : Int) := by omega
    have h1 : (n : Int) ≤ (s.size : Int) := by omega
    have E : Hid (firstB s n = s.extract 0 n) := by show _ = _; unfold firstB; rw [if_pos h]
    go_enter Tryd.func33, Tryd.ntmps33
    go_wp2
    go_ret
    exact ⟨by rw [E.out]; rfl, rfl⟩
  · have h' : ¬ (n : Int) < (s.size : Int) := by omega
    have E : Hid (firstB s n = s) := by show _ = _; unfold firstB; rw [if_neg h]
    go_enter Tryd.func33, Tryd.ntmps33
    go_wp2
    go_ret
    exact ⟨by rw [E.out]; rfl, rfl⟩
theorem ends_take_succ (s : ByteArray) (k : Nat) (hk : k < s.size) : ends (s.data.toList.take (k + 1)) = ends (s.data.toList.take k) + if s[k] = 10 then 1 else 0 := by
  have hl : k < s.data.toList.length := by simpa using hk
  unfold ends
  rw [List.take_succ_eq_append_getElem hl, List.filter_append, List.length_append]
  congr 1
  rw [show s.data.toList[k] = s[k] from rfl]
  by_cases h : s[k] = 10
  · rw [if_pos h, List.filter_cons, if_pos (by simp [h])]; rfl
  · rw [if_neg h, List.filter_cons, if_neg (by simp [h])]; rfl
theorem ends_le (l : List UInt8) : ends l ≤ l.length := List.length_filter_le _ _
set_option maxRecDepth 100000 in
set_option maxHeartbeats 2000000 in
theorem lines_any (s : ByteArray) (w : World) (hs : s.size ≤ 100000) : Calls Tryd.prog 34 #[.string s] w fun e w' => e = .returned (.int .i64 (ends s.data.toList)) ∧ w' = w := by
  go_enter Tryd.func34, Tryd.ntmps34
  go_wp2
  go_loopw [3, 4] (fun nv iv wr => ∃ (k : Nat), k ≤ s.size ∧ nv = .int .i64 (ends (s.data.toList.take k)) ∧ iv = .int .i64 k ∧ wr = w) (fun _ iv _ => s.size - (intOf iv).toNat)
  case atStart => exact ⟨0, Nat.zero_le _, by simp [ends], rfl, rfl⟩
  case round =>
    obtain ⟨k, hk, rfl, rfl, hw⟩ := hrel
    have HW : Hid (wr = w) := hw
    clear hw
    by_cases hlt : k < s.size
    · have hlt' : (k : Int) < (s.size : Int) := by omega
      have hk0 : (0 : Int) ≤ (k : Int) := by omega
      have HE := ends_take_succ s k hlt
      have hle := ends_le (s.data.toList.take k)
      simp only [List.length_take] at hle
      generalize ends (s.data.toList.take k) = n at *
      by_cases hc : s[k] = 10
      · have hcb : (s[k].toNat : Int) = 10 := by rw [hc]; rfl
        have HE' : Hid (ends (s.data.toList.take (k + 1)) = n + 1) := by show _ = _; rw [HE, if_pos hc]
        clear HE hc
        go_wp2
        go_roundw
        case rel => exact ⟨k + 1, by omega, by rw [HE'.out]; go_num, by go_num, HW.out⟩
        case measure => simp [intOf]; omega
      · have hcb : ((s[k].toNat : Int) == 10) = false := by
          simp only [beq_eq_false_iff_ne, ne_eq]
          intro e
          have e' : s[k].toNat = 10 := by omega
          exact hc (UInt8.toNat_inj.1 (by rw [e']; rfl))
        have hcn : ¬ ((s[k].toNat : Int) = 10) := by simpa using hcb
        have HE' : Hid (ends (s.data.toList.take (k + 1)) = n) := by show _ = _; rw [HE, if_neg hc]; rfl
        clear HE hc
        go_wp2
        go_roundw
        case rel => exact ⟨k + 1, by omega, by rw [HE'.out], by go_num, HW.out⟩
        case measure => simp [intOf]; omega
    · obtain rfl : k = s.size := by omega
      have hnl : ¬ (s.size : Int) < (s.size : Int) := by omega
      have E : Hid (ends (s.data.toList.take s.size) = ends s.data.toList) := by show _ = _; rw [List.take_of_length_le (by simp)]
      go_wp2
      go_ret
      exact ⟨congrArg (fun z : Nat => Ending.returned (Value.int .i64 z)) E.out, HW.out⟩
set_option maxRecDepth 100000 in
set_option maxHeartbeats 8000000 in
theorem pieces_any (b k : Nat) (Y0 : Eng) (T : ByteArray) (ca : Option Addr) (cc : Nat) (cuts : List Int) (w0 w : World) (h : MemX w b Y0) (hl : ∃ N R, Like N Y0 R) (hT : T.size ≤ 1900) (hk : k < Y0.srcs.length) (hbel : Below w0.heap.size w0 w) (hfx : ∀ j, some j ∈ Y0.fp b → w0.heap.size ≤ j) (hcu : IntsAt w0 ca cuts) (hcl : cuts.length ≤ 9000000000000000) :
    Calls Tryd.prog 36 #[.pointer (some ⟨b, 0, none⟩), .int .i64 k, .string T, .slice ca cuts.length cc] w fun e w' => ∃ f, e = .returned (.tuple #[.agg #[.int .i64 (FedN.good f), .int .i64 (FedN.refused f), .int .i64 (FedN.bad f)], .bool true]) ∧ ∃ Y, Runs k T.data.toList ⟨0, 0, 0⟩ Y0 f Y ∧ EvoX w b Y0 w' Y := by
  have H : Hid (MemX w b Y0) := h
  have HL0 : Hid (∃ N R, Like N Y0 R) := hl
  have HCu : Hid (IntsAt w0 ca cuts) := hcu
  have HBe : Hid (Below w0.heap.size w0 w ∧ ∀ j, some j ∈ Y0.fp b → w0.heap.size ≤ j) := ⟨hbel, hfx⟩
  clear h hl hcu hbel hfx
  obtain ⟨w2, HW2⟩ := hex ((w.alloc (.cells #[.int .i64 0, .int .i64 0, .int .i64 0] 71)).alloc (.cells #[.int .i64 0, .int .i64 0, .int .i64 0] 71))
  obtain ⟨rb, HRb⟩ := hex w.heap.size
  obtain ⟨fb, HFb⟩ := hex (w.heap.size + 1)
  have hrf : rb ≠ fb := by rw [HRb.out, HFb.out]; omega
  have HRw : Hid (w.heap.size ≤ rb ∧ w.heap.size ≤ fb) := by show _ ∧ _; rw [HRb.out, HFb.out]; omega
  have HK2 : Hid (FeedK w w2 b Y0 Y0 rb fb ⟨0, 0, 0⟩) := by
    refine ⟨?_, ⟨?_, fun e => ?_⟩, ⟨?_, fun e => ?_⟩⟩
    · rw [HW2.out]; exact EvoX.below H.out (((Below.refl _ _).alloc (Nat.le_refl _) _).alloc (by simp) _)
    · rw [HW2.out, HRb.out]; exact (blk_alloc _ _ _).alloc _
    · have := H.out.fp_lt _ e; have := HRb.out; omega
    · rw [HW2.out, HFb.out]; have := blk_alloc (w.alloc (.cells #[.int .i64 0, .int .i64 0, .int .i64 0] 71)) [.int .i64 0, .int .i64 0, .int .i64 0] 71; simpa [FedN.vals] using this
    · have := H.out.fp_lt _ e; have := HFb.out; omega
  go_enter Tryd.func36, Tryd.ntmps36
  go_upto_region 2 with fail
  have hw2 : (w.alloc (.cells #[.int .i64 0, .int .i64 0, .int .i64 0] 71)).alloc (.cells #[.int .i64 0, .int .i64 0, .int .i64 0] 71) = w2 := HW2.out.symm
  rw [hw2, ← HFb.out, ← HRb.out]
  clear hw2 HW2 HRb HFb
  go_upto_region 3 with fail
  go_loopw [2, 11] (fun tv iv wr => ∃ (i pos : Nat) (S : ByteArray) (f : FedN) (Y : Eng), i ≤ 4002 ∧ (i = 4002 → pos = T.size) ∧ pos ≤ T.size ∧ tv = .string S ∧ iv = .int .i64 i ∧ S.data.toList = T.data.toList.drop pos ∧ Runs k (T.data.toList.take pos) ⟨0, 0, 0⟩ Y0 f Y ∧ (∃ N R, Like N Y R) ∧ Y.srcs.length = Y0.srcs.length ∧ FeedK w wr b Y0 Y rb fb f) (fun _ iv _ => 4002 - (intOf iv).toNat)
  case atStart => exact ⟨0, 0, T, ⟨0, 0, 0⟩, Y0, by omega, fun h => absurd h (by decide), Nat.zero_le _, rfl, rfl, by simp, Runs.nil _ _, HL0.out, rfl, HK2.out⟩
  case round =>
    obtain ⟨i, pos, S, f, Y, hi, hil, hpos, rfl, rfl, hsl, hrs, hlk, hny, hfk⟩ := hrel
    have HF : Hid (FeedK w wr b Y0 Y rb fb f) := hfk
    have HSl : Hid (S.data.toList = T.data.toList.drop pos) := hsl
    have HRs : Hid (Runs k (T.data.toList.take pos) ⟨0, 0, 0⟩ Y0 f Y) := hrs
    have HLk : Hid (∃ N R, Like N Y R) := hlk
    have HSs : Hid (S.size = T.size - pos) := by show _ = _; have := congrArg List.length hsl; simpa using this
    have hSs1 : S.size ≤ T.size - pos := by rw [HSs.out]; exact Nat.le_refl _
    have hSs2 : T.size ≤ S.size + pos := by rw [HSs.out]; omega
    clear hfk hsl hrs hlk HK2
    by_cases hlt : 0 < S.size
    · have hlt' : (0 : Int) < (S.size : Int) := by omega
      have hi1 : i ≤ 4001 := by
        by_cases e : i = 4002
        · have := hil e; omega
        · omega
      have hfd : ∀ (Q : ByteArray), Q.size ≤ 2000 → ∀ u, FeedK w u b Y0 Y rb fb f → Calls Tryd.prog 35 #[.pointer (some ⟨b, 0, none⟩), .int .i64 k, .string Q] u fun e w' => ∃ g Z, e = .returned (.tuple #[.agg #[.int .i64 (FedN.good g), .int .i64 (FedN.refused g), .int .i64 (FedN.bad g)], .int .i64 0]) ∧ Runs k Q.data.toList ⟨0, 0, 0⟩ Y g Z ∧ (∃ N R, Like N Z R) ∧ Z.srcs.length = Y0.srcs.length ∧ EvoX u b Y w' Z := fun Q hQ u hu => by
        obtain ⟨N, R, hl⟩ := HLk.out
        refine (xfeed_run N b Y R k Q u hu.evo.mem hl hQ (by rw [hny]; exact hk)).mono ?_
        rintro e w' ⟨g, Z, tr, he, hr, hev⟩
        obtain ⟨R', hR'⟩ := hr.ex
        exact ⟨g, Z, he, runX_runs hr, ⟨_, R', hR'⟩, hr.len.trans hny, hev⟩
      by_cases hbig : 4000 < i
      · have hbig' : (4000 : Int) < (i : Int) := by omega
        have hSS : (S.size : Int) ≤ (S.size : Int) := Int.le_refl _
        have hS0 : (0 : Int) ≤ (S.size : Int) := by omega
        by_cases hc0 : cuts.length = 0
        · have hc0' : ¬ (0 : Int) < (cuts.length : Int) := by omega
          clear hc0
          go_upto_region 11 with (go_at_call 35; refine (hfd _ (by first | (rw [ByteArray.size_extract]; omega) | omega) _ HF.out).mono ?_; rintro e w3 ⟨g, Z, rfl, hrz, hlz, hnz, hev⟩)
          have HRz : Hid (Runs k (S.data.toList.take (S.size)) ⟨0, 0, 0⟩ Y g Z) := by show Runs _ _ _ _ _ _; have := hrz; first | (rw [extract_seg, seg_take] at this; exact this) | (rw [List.take_of_length_le (by simp)]; exact this)
          have HLz : Hid (∃ N R, Like N Z R) := hlz
          have HNz : Hid (Z.srcs.length = Y0.srcs.length) := hnz
          have HF3 : Hid (FeedK w w3 b Y0 Z rb fb f) := HF.out.step hev
          clear hrz hlz hnz hev hfd
          obtain ⟨w4, HW4⟩ := hex (w3.alloc (.cells g.vals.toArray 71))
          have hw4 : w3.alloc (.cells #[.int .i64 g.good, .int .i64 g.refused, .int .i64 g.bad] 71) = w4 := HW4.out.symm
          obtain ⟨ob, HOb⟩ := hex w3.heap.size
          rw [hw4, ← HOb.out]
          have HF4 : Hid (FeedK w w4 b Y0 Z rb fb f) := by
            show FeedK _ _ _ _ _ _ _ _
            rw [HW4.out]
            exact HF3.out.step (EvoX.below HF3.out.evo.mem ((Below.refl _ _).alloc (Nat.le_refl _) _))
          have HB4 : Hid (Blk w4 ob 71 g.vals) := by show Blk _ _ _ _; rw [HW4.out, HOb.out]; exact blk_alloc _ _ _
          have hfo : fb ≠ ob := by have := HF3.out.box.blk.lt; have := HOb.out; omega
          clear hw4 HW4 HOb HF3 HF
          have x0 := HF4.out.box.blk.cell 0
          have u0 := HF4.out.box.blk.frozen 0
          have x1 := HF4.out.box.blk.cell 1
          have u1 := HF4.out.box.blk.frozen 1
          have x2 := HF4.out.box.blk.cell 2
          have u2 := HF4.out.box.blk.frozen 2
          have z0 := HB4.out.cell 0
          have z1 := HB4.out.cell 1
          have z2 := HB4.out.cell 2
          simp only [FedN.vals, List.getElem?_cons_zero, List.getElem?_cons_succ] at z0 z1 z2 x0 x1 x2
          have HR2 : Hid (Runs k (T.data.toList.take (pos + (S.size))) ⟨0, 0, 0⟩ Y0 (f.plus g) Z) := by
            show Runs _ _ _ _ _ _
            rw [List.take_add, ← HSl.out]
            exact HRs.out.append (by have := runs_shift HRz.out f; rw [plus_zero] at this; exact this)
          have hrg := runs_cnt HR2.out (j := 0) (by unfold Cnt; simp)
          unfold Cnt at hrg
          simp only [FedN.plus, List.length_take, Nat.zero_add] at hrg
          have hTl : T.data.toList.length ≤ 1900 := by simpa using hT
          have hv1 : IntKind.i64.wrap (f.good + g.good) = f.good + g.good := by rw [IntKind.wrap_i64]; omega
          have hv2 : IntKind.i64.wrap (f.refused + g.refused) = f.refused + g.refused := by rw [IntKind.wrap_i64]; omega
          have hv3 : IntKind.i64.wrap (f.bad + g.bad) = f.bad + g.bad := by rw [IntKind.wrap_i64]; omega
          clear hrg hTl
          go_wp2
          go_roundw
          case rel =>
            first | refine ⟨i + 1, pos + (S.size), _, f.plus g, Z, by omega, fun _ => by omega, by omega, rfl, by go_num, ?_, HR2.out, HLz.out, HNz.out, HF4.out.add hrf HRw.out.2 g⟩ | ((repeat apply Exists.intro); refine ⟨⟨i + 1, pos + (S.size), _, f.plus g, Z, by omega, fun _ => by omega, by omega, rfl, by go_num, ?_, HR2.out, HLz.out, HNz.out, HF4.out.add hrf HRw.out.2 g⟩, rfl⟩)
            first | (rw [extract_seg, seg_drop (by simp), HSl.out, List.drop_drop]; done) | (rw [List.drop_eq_nil_of_le (by simp; omega)]; simp; done)
          case measure => simp [intOf]; omega
        · have hc0' : (0 : Int) < (cuts.length : Int) := by omega
          obtain ⟨im, HIm⟩ := hex (i % cuts.length)
          have hmod : im < cuts.length := by rw [HIm.out]; exact Nat.mod_lt _ (by omega)
          obtain ⟨hio, ib, io, hsab, hal, hac⟩ := HCu.out im hmod
          have htm : (i : Int).tmod (cuts.length : Int) = (im : Int) := by rw [Int.tmod_eq_emod_of_nonneg (by omega), HIm.out]; rfl
          obtain ⟨q, HQq⟩ : ∃ q, Hid (q = cuts[im]) := hex _
          rw [← HQq.out] at hio hac
          have hcl2 := (kept_toBelow HBe.out.1 HF.out.evo.kept HBe.out.2).cell (p := ⟨ib, io + im, none⟩) hal
          have hcx := hcl2.trans hac
          subst hsab
          have hwm : IntKind.i64.wrap (im : Int) = (im : Int) := by rw [IntKind.wrap_i64]; omega
          have hm1 : (im : Int) < (cuts.length : Int) := by omega
          have hm0 : (0 : Int) ≤ (im : Int) := by omega
          have hcn : ((cuts.length : Int) == 0) = false := by rw [beq_eq_false_iff_ne]; omega
          have hcn' : (cuts.length : Int) ≠ 0 := by omega
          have hpk : ∀ u, Calls Tryd.prog 23 #[.int .i64 q, .int .i64 ((S.size : Int) + 1)] u fun e w' => e = .returned (.int .i64 (pk q ((S.size : Int) + 1))) ∧ u = w' := fun u => pick_any _ _ u hio (by omega) (by omega)
          have hqr := pk_range (c := q) (n := (S.size : Int) + 1) (by omega)
          have hws : IntKind.i64.wrap ((S.size : Int) + 1) = (S.size : Int) + 1 := by rw [IntKind.wrap_i64]; omega
          obtain ⟨d, hd⟩ : ∃ d : Nat, pk q ((S.size : Int) + 1) = d := ⟨(pk q ((S.size : Int) + 1)).toNat, by omega⟩
          rw [hd] at hpk hqr
          have hd1 : (d : Int) ≤ (S.size : Int) := by omega
          have hd0 : (0 : Int) ≤ (d : Int) := by omega
          clear hd hal hac hio hcl2 HQq HIm
          go_upto_region 8 with (go_at_call 23; refine (hpk _).mono ?_; rintro e w' ⟨rfl, rfl⟩)
          clear hpk hcx htm hwm hm1 hm0 hcn hcn' hws hmod
          go_upto_region 11 with (go_at_call 35; refine (hfd _ (by first | (rw [ByteArray.size_extract]; omega) | omega) _ HF.out).mono ?_; rintro e w3 ⟨g, Z, rfl, hrz, hlz, hnz, hev⟩)
          have HRz : Hid (Runs k (S.data.toList.take (S.size)) ⟨0, 0, 0⟩ Y g Z) := by show Runs _ _ _ _ _ _; have := hrz; first | (rw [extract_seg, seg_take] at this; exact this) | (rw [List.take_of_length_le (by simp)]; exact this)
          have HLz : Hid (∃ N R, Like N Z R) := hlz
          have HNz : Hid (Z.srcs.length = Y0.srcs.length) := hnz
          have HF3 : Hid (FeedK w w3 b Y0 Z rb fb f) := HF.out.step hev
          clear hrz hlz hnz hev hfd
          obtain ⟨w4, HW4⟩ := hex (w3.alloc (.cells g.vals.toArray 71))
          have hw4 : w3.alloc (.cells #[.int .i64 g.good, .int .i64 g.refused, .int .i64 g.bad] 71) = w4 := HW4.out.symm
          obtain ⟨ob, HOb⟩ := hex w3.heap.size
          rw [hw4, ← HOb.out]
          have HF4 : Hid (FeedK w w4 b Y0 Z rb fb f) := by
            show FeedK _ _ _ _ _ _ _ _
            rw [HW4.out]
            exact HF3.out.step (EvoX.below HF3.out.evo.mem ((Below.refl _ _).alloc (Nat.le_refl _) _))
          have HB4 : Hid (Blk w4 ob 71 g.vals) := by show Blk _ _ _ _; rw [HW4.out, HOb.out]; exact blk_alloc _ _ _
          have hfo : fb ≠ ob := by have := HF3.out.box.blk.lt; have := HOb.out; omega
          clear hw4 HW4 HOb HF3 HF
          have x0 := HF4.out.box.blk.cell 0
          have u0 := HF4.out.box.blk.frozen 0
          have x1 := HF4.out.box.blk.cell 1
          have u1 := HF4.out.box.blk.frozen 1
          have x2 := HF4.out.box.blk.cell 2
          have u2 := HF4.out.box.blk.frozen 2
          have z0 := HB4.out.cell 0
          have z1 := HB4.out.cell 1
          have z2 := HB4.out.cell 2
          simp only [FedN.vals, List.getElem?_cons_zero, List.getElem?_cons_succ] at z0 z1 z2 x0 x1 x2
          have HR2 : Hid (Runs k (T.data.toList.take (pos + (S.size))) ⟨0, 0, 0⟩ Y0 (f.plus g) Z) := by
            show Runs _ _ _ _ _ _
            rw [List.take_add, ← HSl.out]
            exact HRs.out.append (by have := runs_shift HRz.out f; rw [plus_zero] at this; exact this)
          have hrg := runs_cnt HR2.out (j := 0) (by unfold Cnt; simp)
          unfold Cnt at hrg
          simp only [FedN.plus, List.length_take, Nat.zero_add] at hrg
          have hTl : T.data.toList.length ≤ 1900 := by simpa using hT
          have hv1 : IntKind.i64.wrap (f.good + g.good) = f.good + g.good := by rw [IntKind.wrap_i64]; omega
          have hv2 : IntKind.i64.wrap (f.refused + g.refused) = f.refused + g.refused := by rw [IntKind.wrap_i64]; omega
          have hv3 : IntKind.i64.wrap (f.bad + g.bad) = f.bad + g.bad := by rw [IntKind.wrap_i64]; omega
          clear hrg hTl
          go_wp2
          go_roundw
          case rel =>
            first | refine ⟨i + 1, pos + (S.size), _, f.plus g, Z, by omega, fun _ => by omega, by omega, rfl, by go_num, ?_, HR2.out, HLz.out, HNz.out, HF4.out.add hrf HRw.out.2 g⟩ | ((repeat apply Exists.intro); refine ⟨⟨i + 1, pos + (S.size), _, f.plus g, Z, by omega, fun _ => by omega, by omega, rfl, by go_num, ?_, HR2.out, HLz.out, HNz.out, HF4.out.add hrf HRw.out.2 g⟩, rfl⟩)
            first | (rw [extract_seg, seg_drop (by simp), HSl.out, List.drop_drop]; done) | (rw [List.drop_eq_nil_of_le (by simp; omega)]; simp; done)
          case measure => simp [intOf]; omega
      · have hbig' : ¬ (4000 : Int) < (i : Int) := by omega
        by_cases hc0 : cuts.length = 0
        · have hc0' : ¬ (0 : Int) < (cuts.length : Int) := by omega
          clear hc0
          have h11 : (1 : Int) ≤ (S.size : Int) := by omega
          go_upto_region 11 with (go_at_call 35; refine (hfd _ (by first | (rw [ByteArray.size_extract]; omega) | omega) _ HF.out).mono ?_; rintro e w3 ⟨g, Z, rfl, hrz, hlz, hnz, hev⟩)
          have HRz : Hid (Runs k (S.data.toList.take (1)) ⟨0, 0, 0⟩ Y g Z) := by show Runs _ _ _ _ _ _; have := hrz; first | (rw [extract_seg, seg_take] at this; exact this) | (rw [List.take_of_length_le (by simp)]; exact this)
          have HLz : Hid (∃ N R, Like N Z R) := hlz
          have HNz : Hid (Z.srcs.length = Y0.srcs.length) := hnz
          have HF3 : Hid (FeedK w w3 b Y0 Z rb fb f) := HF.out.step hev
          clear hrz hlz hnz hev hfd
          obtain ⟨w4, HW4⟩ := hex (w3.alloc (.cells g.vals.toArray 71))
          have hw4 : w3.alloc (.cells #[.int .i64 g.good, .int .i64 g.refused, .int .i64 g.bad] 71) = w4 := HW4.out.symm
          obtain ⟨ob, HOb⟩ := hex w3.heap.size
          rw [hw4, ← HOb.out]
          have HF4 : Hid (FeedK w w4 b Y0 Z rb fb f) := by
            show FeedK _ _ _ _ _ _ _ _
            rw [HW4.out]
            exact HF3.out.step (EvoX.below HF3.out.evo.mem ((Below.refl _ _).alloc (Nat.le_refl _) _))
          have HB4 : Hid (Blk w4 ob 71 g.vals) := by show Blk _ _ _ _; rw [HW4.out, HOb.out]; exact blk_alloc _ _ _
          have hfo : fb ≠ ob := by have := HF3.out.box.blk.lt; have := HOb.out; omega
          clear hw4 HW4 HOb HF3 HF
          have x0 := HF4.out.box.blk.cell 0
          have u0 := HF4.out.box.blk.frozen 0
          have x1 := HF4.out.box.blk.cell 1
          have u1 := HF4.out.box.blk.frozen 1
          have x2 := HF4.out.box.blk.cell 2
          have u2 := HF4.out.box.blk.frozen 2
          have z0 := HB4.out.cell 0
          have z1 := HB4.out.cell 1
          have z2 := HB4.out.cell 2
          simp only [FedN.vals, List.getElem?_cons_zero, List.getElem?_cons_succ] at z0 z1 z2 x0 x1 x2
          have HR2 : Hid (Runs k (T.data.toList.take (pos + (1))) ⟨0, 0, 0⟩ Y0 (f.plus g) Z) := by
            show Runs _ _ _ _ _ _
            rw [List.take_add, ← HSl.out]
            exact HRs.out.append (by have := runs_shift HRz.out f; rw [plus_zero] at this; exact this)
          have hrg := runs_cnt HR2.out (j := 0) (by unfold Cnt; simp)
          unfold Cnt at hrg
          simp only [FedN.plus, List.length_take, Nat.zero_add] at hrg
          have hTl : T.data.toList.length ≤ 1900 := by simpa using hT
          have hv1 : IntKind.i64.wrap (f.good + g.good) = f.good + g.good := by rw [IntKind.wrap_i64]; omega
          have hv2 : IntKind.i64.wrap (f.refused + g.refused) = f.refused + g.refused := by rw [IntKind.wrap_i64]; omega
          have hv3 : IntKind.i64.wrap (f.bad + g.bad) = f.bad + g.bad := by rw [IntKind.wrap_i64]; omega
          clear hrg hTl
          go_wp2
          go_roundw
          case rel =>
            first | refine ⟨i + 1, pos + (1), _, f.plus g, Z, by omega, fun e => by omega, by omega, rfl, by go_num, ?_, HR2.out, HLz.out, HNz.out, HF4.out.add hrf HRw.out.2 g⟩ | ((repeat apply Exists.intro); refine ⟨⟨i + 1, pos + (1), _, f.plus g, Z, by omega, fun e => by omega, by omega, rfl, by go_num, ?_, HR2.out, HLz.out, HNz.out, HF4.out.add hrf HRw.out.2 g⟩, rfl⟩)
            first | (rw [extract_seg, seg_drop (by simp), HSl.out, List.drop_drop]; done) | (rw [List.drop_eq_nil_of_le (by simp; omega)]; simp; done)
          case measure => simp [intOf]; omega
        · have hc0' : (0 : Int) < (cuts.length : Int) := by omega
          obtain ⟨im, HIm⟩ := hex (i % cuts.length)
          have hmod : im < cuts.length := by rw [HIm.out]; exact Nat.mod_lt _ (by omega)
          obtain ⟨hio, ib, io, hsab, hal, hac⟩ := HCu.out im hmod
          have htm : (i : Int).tmod (cuts.length : Int) = (im : Int) := by rw [Int.tmod_eq_emod_of_nonneg (by omega), HIm.out]; rfl
          obtain ⟨q, HQq⟩ : ∃ q, Hid (q = cuts[im]) := hex _
          rw [← HQq.out] at hio hac
          have hcl2 := (kept_toBelow HBe.out.1 HF.out.evo.kept HBe.out.2).cell (p := ⟨ib, io + im, none⟩) hal
          have hcx := hcl2.trans hac
          subst hsab
          have hwm : IntKind.i64.wrap (im : Int) = (im : Int) := by rw [IntKind.wrap_i64]; omega
          have hm1 : (im : Int) < (cuts.length : Int) := by omega
          have hm0 : (0 : Int) ≤ (im : Int) := by omega
          have hcn : ((cuts.length : Int) == 0) = false := by rw [beq_eq_false_iff_ne]; omega
          have hcn' : (cuts.length : Int) ≠ 0 := by omega
          have hpk : ∀ u, Calls Tryd.prog 23 #[.int .i64 q, .int .i64 ((S.size : Int) + 1)] u fun e w' => e = .returned (.int .i64 (pk q ((S.size : Int) + 1))) ∧ u = w' := fun u => pick_any _ _ u hio (by omega) (by omega)
          have hqr := pk_range (c := q) (n := (S.size : Int) + 1) (by omega)
          have hws : IntKind.i64.wrap ((S.size : Int) + 1) = (S.size : Int) + 1 := by rw [IntKind.wrap_i64]; omega
          obtain ⟨d, hd⟩ : ∃ d : Nat, pk q ((S.size : Int) + 1) = d := ⟨(pk q ((S.size : Int) + 1)).toNat, by omega⟩
          rw [hd] at hpk hqr
          have hd1 : (d : Int) ≤ (S.size : Int) := by omega
          have hd0 : (0 : Int) ≤ (d : Int) := by omega
          clear hd hal hac hio hcl2 HQq HIm
          go_upto_region 8 with (go_at_call 23; refine (hpk _).mono ?_; rintro e w' ⟨rfl, rfl⟩)
          clear hpk hcx htm hwm hm1 hm0 hcn hcn' hws hmod
          go_upto_region 11 with (go_at_call 35; refine (hfd _ (by first | (rw [ByteArray.size_extract]; omega) | omega) _ HF.out).mono ?_; rintro e w3 ⟨g, Z, rfl, hrz, hlz, hnz, hev⟩)
          have HRz : Hid (Runs k (S.data.toList.take (d)) ⟨0, 0, 0⟩ Y g Z) := by show Runs _ _ _ _ _ _; have := hrz; first | (rw [extract_seg, seg_take] at this; exact this) | (rw [List.take_of_length_le (by simp)]; exact this)
          have HLz : Hid (∃ N R, Like N Z R) := hlz
          have HNz : Hid (Z.srcs.length = Y0.srcs.length) := hnz
          have HF3 : Hid (FeedK w w3 b Y0 Z rb fb f) := HF.out.step hev
          clear hrz hlz hnz hev hfd
          obtain ⟨w4, HW4⟩ := hex (w3.alloc (.cells g.vals.toArray 71))
          have hw4 : w3.alloc (.cells #[.int .i64 g.good, .int .i64 g.refused, .int .i64 g.bad] 71) = w4 := HW4.out.symm
          obtain ⟨ob, HOb⟩ := hex w3.heap.size
          rw [hw4, ← HOb.out]
          have HF4 : Hid (FeedK w w4 b Y0 Z rb fb f) := by
            show FeedK _ _ _ _ _ _ _ _
            rw [HW4.out]
            exact HF3.out.step (EvoX.below HF3.out.evo.mem ((Below.refl _ _).alloc (Nat.le_refl _) _))
          have HB4 : Hid (Blk w4 ob 71 g.vals) := by show Blk _ _ _ _; rw [HW4.out, HOb.out]; exact blk_alloc _ _ _
          have hfo : fb ≠ ob := by have := HF3.out.box.blk.lt; have := HOb.out; omega
          clear hw4 HW4 HOb HF3 HF
          have x0 := HF4.out.box.blk.cell 0
          have u0 := HF4.out.box.blk.frozen 0
          have x1 := HF4.out.box.blk.cell 1
          have u1 := HF4.out.box.blk.frozen 1
          have x2 := HF4.out.box.blk.cell 2
          have u2 := HF4.out.box.blk.frozen 2
          have z0 := HB4.out.cell 0
          have z1 := HB4.out.cell 1
          have z2 := HB4.out.cell 2
          simp only [FedN.vals, List.getElem?_cons_zero, List.getElem?_cons_succ] at z0 z1 z2 x0 x1 x2
          have HR2 : Hid (Runs k (T.data.toList.take (pos + (d))) ⟨0, 0, 0⟩ Y0 (f.plus g) Z) := by
            show Runs _ _ _ _ _ _
            rw [List.take_add, ← HSl.out]
            exact HRs.out.append (by have := runs_shift HRz.out f; rw [plus_zero] at this; exact this)
          have hrg := runs_cnt HR2.out (j := 0) (by unfold Cnt; simp)
          unfold Cnt at hrg
          simp only [FedN.plus, List.length_take, Nat.zero_add] at hrg
          have hTl : T.data.toList.length ≤ 1900 := by simpa using hT
          have hv1 : IntKind.i64.wrap (f.good + g.good) = f.good + g.good := by rw [IntKind.wrap_i64]; omega
          have hv2 : IntKind.i64.wrap (f.refused + g.refused) = f.refused + g.refused := by rw [IntKind.wrap_i64]; omega
          have hv3 : IntKind.i64.wrap (f.bad + g.bad) = f.bad + g.bad := by rw [IntKind.wrap_i64]; omega
          clear hrg hTl
          go_wp2
          go_roundw
          case rel =>
            first | refine ⟨i + 1, pos + (d), _, f.plus g, Z, by omega, fun e => by omega, by omega, rfl, by go_num, ?_, HR2.out, HLz.out, HNz.out, HF4.out.add hrf HRw.out.2 g⟩ | ((repeat apply Exists.intro); refine ⟨⟨i + 1, pos + (d), _, f.plus g, Z, by omega, fun e => by omega, by omega, rfl, by go_num, ?_, HR2.out, HLz.out, HNz.out, HF4.out.add hrf HRw.out.2 g⟩, rfl⟩)
            first | (rw [extract_seg, seg_drop (by simp), HSl.out, List.drop_drop]; done) | (rw [List.drop_eq_nil_of_le (by simp; omega)]; simp; done)
          case measure => simp [intOf]; omega
    · have hnl : ¬ (0 : Int) < (S.size : Int) := by omega
      have hpe : pos = T.size := by omega
      have HRe : Hid (Runs k T.data.toList ⟨0, 0, 0⟩ Y0 f Y) := by show Runs _ _ _ _ _ _; have := HRs.out; rw [hpe, List.take_of_length_le (by simp)] at this; exact this
      clear hpe
      have z0 := HF.out.res.blk.cell 0
      have y0 := HF.out.res.blk.frozen 0
      have z1 := HF.out.res.blk.cell 1
      have y1 := HF.out.res.blk.frozen 1
      have z2 := HF.out.res.blk.cell 2
      have y2 := HF.out.res.blk.frozen 2
      have x0 := HF.out.box.blk.cell 0
      have x1 := HF.out.box.blk.cell 1
      have x2 := HF.out.box.blk.cell 2
      simp only [FedN.vals, List.getElem?_cons_zero, List.getElem?_cons_succ] at z0 z1 z2 x0 x1 x2
      go_wp2
      refine bodyPost_ret (v := .tuple #[.agg #[.int .i64 f.good, .int .i64 f.refused, .int .i64 f.bad], .bool true]) (by simp [results, Tryd.results36, go_sem, z0, z1, z2]) rfl ⟨f, rfl, Y, HRe.out, ?_⟩
      exact ((HF.out.evo.out HRw.out.1 HF.out.res.off _).out HRw.out.1 HF.out.res.off _).out HRw.out.1 HF.out.res.off _
end Go.Proofs.YtghcololkgeoeaaDoor
