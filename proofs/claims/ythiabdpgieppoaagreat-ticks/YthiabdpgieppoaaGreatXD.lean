import Derived.Test.YthiabdpgieppoaaGreatXC
namespace Go.Proofs.YthiabdpgieppoaaGreat
open Go.RowKit
set_option linter.unusedVariables false
set_option linter.unusedSimpArgs false
attribute [local go_sem ↓] Go.wp_at_zero Go.wp_at_succ

/-- the bounds of a state -/
structure SaneX (X : Eng) : Prop where
  n : X.srcs.length ≤ 6
  wait : X.wait.length ≤ 1000
  log : X.log.length ≤ 1000
  late : X.late.length ≤ 1000
  ts : ∀ e ∈ X.wait, -4398046511104 ≤ e.ts ∧ e.ts ≤ 4398046511104
/-- from X to Y, but for where its lists of events lie -/
def EvoP (w : World) (b : Nat) (X : Eng) (w' : World) (Y : Eng) : Prop := ∃ ga gc wa wc, EvoX w b X w' { Y with ga := ga, gc := gc, wa := wa, wc := wc }

set_option maxHeartbeats 400000 in
theorem xjoin_none (b : Nat) (X : Eng) (s : Int) (w : World) (h : MemX w b X) (hs : s < 0 ∨ (X.srcs.length : Int) ≤ s) :
    Calls Tryz.prog 14 #[.pointer (some ⟨b, 0, none⟩), .int .i64 s] w fun e w' => e = .returned (.int .i64 3) ∧ w = w' := by
  have HD : Hid (decide (0 ≤ s ∧ s < (X.srcs.length : Int)) = false) := by show _ = _; simp; omega
  clear hs
  go_enter Tryz.func14, Tryz.ntmps14
  go_wp2_with (go_at_call 36; refine (xhas_any b X s _ h).mono ?_; rintro e w' ⟨rfl, rfl⟩; rw [HD.out])
  go_ret
  exact ⟨rfl, rfl⟩
set_option maxHeartbeats 400000 in
theorem xjoin_in (b : Nat) (X : Eng) (i : Nat) (w : World) (h : MemX w b X) (hi : i < X.srcs.length) (hin : X.srcs[i].inn = true) :
    Calls Tryz.prog 14 #[.pointer (some ⟨b, 0, none⟩), .int .i64 i] w fun e w' => e = .returned (.int .i64 4) ∧ w = w' := by
  have HD : Hid (decide (0 ≤ (i : Int) ∧ (i : Int) < (X.srcs.length : Int)) = true) := by show _ = _; simp; omega
  obtain ⟨_, _, _, _, c6, _⟩ := h.cells
  have s0 := h.srcCell i 0 hi (by omega)
  simp only [PSrc.vals, List.getElem?_cons_zero, Nat.add_zero, hin] at s0
  have hi' : (i : Int) < (X.srcs.length : Int) := by omega
  have hi0 : (0 : Int) ≤ (i : Int) := by omega
  go_enter Tryz.func14, Tryz.ntmps14
  go_wp2_with (go_at_call 36; refine (xhas_any b X _ _ h).mono ?_; rintro e w' ⟨rfl, rfl⟩; rw [HD.out])
  go_ret
  exact ⟨rfl, rfl⟩
set_option maxRecDepth 100000 in
set_option maxHeartbeats 2000000 in
theorem xjoin_ok (b : Nat) (X : Eng) (i : Nat) (w : World) (h : MemX w b X) (hs : SaneX X) (hi : i < X.srcs.length) (hin : X.srcs[i].inn = false) :
    Calls Tryz.prog 14 #[.pointer (some ⟨b, 0, none⟩), .int .i64 i] w fun e w' => e = .returned (.int .i64 0) ∧ EvoP w b X w' (X.joined i X.srcs[i]) := by
  have HD : Hid (decide (0 ≤ (i : Int) ∧ (i : Int) < (X.srcs.length : Int)) = true) := by show _ = _; simp; omega
  have H : Hid (MemX w b X) := h
  have HSn : Hid (SaneX X) := hs
  obtain ⟨_, _, _, _, c6, _⟩ := h.cells
  have s0 := h.srcCell i 0 hi (by omega)
  simp only [PSrc.vals, List.getElem?_cons_zero, Nat.add_zero, hin] at s0
  have f0 := h.srcFrozen (i * 6) (by omega)
  have hi' : (i : Int) < (X.srcs.length : Int) := by omega
  have hi0 : (0 : Int) ≤ (i : Int) := by omega
  clear h hs
  go_enter Tryz.func14, Tryz.ntmps14
  go_upto_region 6 with (go_at_call 36; refine (xhas_any b X _ _ H.out).mono ?_; rintro e w' ⟨rfl, rfl⟩; rw [HD.out])
  obtain ⟨X1, HX1⟩ := hex ({ X with srcs := X.srcs.set i { X.srcs[i] with inn := true } } : Eng)
  have HE1 : Hid (EvoX w b X (w.setCell ⟨X.sg, i * 6, none⟩ (.bool true)) X1) := by
    show EvoX _ _ _ _ _
    rw [HX1.out]
    exact H.out.setSrcE { X.srcs[i] with inn := true } hi 0 (by omega) (.bool true) rfl ⟨rfl, rfl, rfl⟩
  clear c6 s0 f0
  generalize w.setCell ⟨X.sg, i * 6, none⟩ (.bool true) = wq at *
  have hl1 : i < X1.srcs.length := by rw [HX1.out]; simp; exact hi
  obtain ⟨X2, HX2⟩ := hex ({ X1 with srcs := X1.srcs.set i (X1.srcs[i].activated X1.merged) } : Eng)
  have HQ : Hid (X2.srcs.length = X.srcs.length ∧ X2.wait = X.wait ∧ X2.log = X.log ∧ X2.settled = X.joined i X.srcs[i]) := by
    show _ ∧ _
    have e1 := HX1.out
    subst e1
    have e2 := HX2.out
    subst e2
    refine ⟨by simp, rfl, rfl, ?_⟩
    unfold Eng.joined
    simp
  go_wp2_with (first
    | (go_at_call 37; refine (xactivate_any b X1 i _ HE1.out.mem hl1).mono ?_; rintro e w3 ⟨rfl, hev3⟩; have HE3 : Hid (EvoX wq b X1 w3 X2) := by (show EvoX _ _ _ _ _; rw [HX2.out]; exact hev3))
    | (go_at_call 38; refine (xsettle_any b X2 _ HE3.out.mem (by rw [HQ.out.1]; exact HSn.out.n) (by rw [HQ.out.2.1]; exact HSn.out.wait) (by rw [HQ.out.2.2.1]; exact HSn.out.log) (by rw [HQ.out.2.1]; exact HSn.out.ts)).mono ?_; rintro e w4 ⟨rfl, ga, gc, wa, wc, hev4⟩))
  go_ret
  rw [HQ.out.2.2.2] at hev4
  exact ⟨rfl, ga, gc, wa, wc, (HE1.out.trans HE3.out).trans hev4⟩

set_option maxHeartbeats 400000 in
theorem xleave_none (b : Nat) (X : Eng) (s : Int) (w : World) (h : MemX w b X) (hs : s < 0 ∨ (X.srcs.length : Int) ≤ s) :
    Calls Tryz.prog 16 #[.pointer (some ⟨b, 0, none⟩), .int .i64 s] w fun e w' => e = .returned (.int .i64 3) ∧ w = w' := by
  go_enter Tryz.func16, Tryz.ntmps16
  go_wp2_with (go_at_call 41; refine (xcheckIn_none b X s _ h hs).mono ?_; rintro e w' ⟨rfl, rfl⟩)
  go_ret
  exact ⟨rfl, rfl⟩
set_option maxHeartbeats 400000 in
theorem xleave_out (b : Nat) (X : Eng) (i : Nat) (w : World) (h : MemX w b X) (hi : i < X.srcs.length) (hin : X.srcs[i].inn = false) :
    Calls Tryz.prog 16 #[.pointer (some ⟨b, 0, none⟩), .int .i64 i] w fun e w' => e = .returned (.int .i64 4) ∧ w = w' := by
  have HI : Hid ((if X.srcs[i].inn then (0 : Int) else 4) = 4) := by show _ = _; rw [hin]; rfl
  go_enter Tryz.func16, Tryz.ntmps16
  go_wp2_with (go_at_call 41; refine (xcheckIn_some b X i _ h hi).mono ?_; rintro e w' ⟨rfl, rfl⟩; rw [HI.out])
  go_ret
  exact ⟨rfl, rfl⟩
set_option maxRecDepth 100000 in
set_option maxHeartbeats 2000000 in
theorem xleave_ok (b : Nat) (X : Eng) (i : Nat) (w : World) (h : MemX w b X) (hs : SaneX X) (hi : i < X.srcs.length) (hin : X.srcs[i].inn = true) :
    Calls Tryz.prog 16 #[.pointer (some ⟨b, 0, none⟩), .int .i64 i] w fun e w' => e = .returned (.int .i64 0) ∧ EvoP w b X w' (X.gone i X.srcs[i]) := by
  have HI : Hid ((if X.srcs[i].inn then (0 : Int) else 4) = 0) := by show _ = _; rw [hin]; rfl
  have H : Hid (MemX w b X) := h
  have HSn : Hid (SaneX X) := hs
  obtain ⟨_, _, _, _, c6, _⟩ := h.cells
  have s0 := h.srcCell i 0 hi (by omega)
  have s1 := h.srcCell i 1 hi (by omega)
  simp only [PSrc.vals, List.getElem?_cons_zero, List.getElem?_cons_succ, Nat.add_zero] at s0 s1
  have f0 := h.srcFrozen (i * 6) (by omega)
  have f1 := h.srcFrozen (i * 6 + 1) (by omega)
  have hi' : (i : Int) < (X.srcs.length : Int) := by omega
  have hi0 : (0 : Int) ≤ (i : Int) := by omega
  have hbs : b ≠ X.sg := fun e => by have := h.dis 0 1 b rfl (by rw [e]; rfl); omega
  clear h hs
  go_enter Tryz.func16, Tryz.ntmps16
  go_upto_region 6 with (go_at_call 41; refine (xcheckIn_some b X i _ H.out hi).mono ?_; rintro e w' ⟨rfl, rfl⟩; rw [HI.out])
  obtain ⟨X2, HX2⟩ := hex ({ X with srcs := X.srcs.set i { X.srcs[i] with inn := false, idle := false } } : Eng)
  have HE3 : Hid (EvoX w b X ((w.setCell ⟨X.sg, i * 6, none⟩ (.bool false)).setCell ⟨X.sg, i * 6 + 1, none⟩ (.bool false)) X2) := by
    show EvoX _ _ _ _ _
    rw [HX2.out]
    have e1 := H.out.setSrcE { X.srcs[i] with inn := false } hi 0 (by omega) (.bool false) rfl ⟨rfl, rfl, rfl⟩
    have e2 := e1.mem.setSrcE (i := i) { X.srcs[i] with inn := false, idle := false } (by simp; exact hi) 1 (by omega) (.bool false) (by simp [PSrc.vals]) (by simp)
    simp only [List.set_set] at e2
    exact e1.trans e2
  clear c6 s0 s1 f0 f1
  generalize (w.setCell ⟨X.sg, i * 6, none⟩ (.bool false)).setCell ⟨X.sg, i * 6 + 1, none⟩ (.bool false) = wq at *
  have HQ : Hid (X2.srcs.length = X.srcs.length ∧ X2.wait = X.wait ∧ X2.log = X.log ∧ X2.settled = X.gone i X.srcs[i]) := by
    show _ ∧ _
    have e2 := HX2.out
    subst e2
    exact ⟨by simp, rfl, rfl, rfl⟩
  go_wp2_with (go_at_call 38; refine (xsettle_any b X2 _ HE3.out.mem (by rw [HQ.out.1]; exact HSn.out.n) (by rw [HQ.out.2.1]; exact HSn.out.wait) (by rw [HQ.out.2.2.1]; exact HSn.out.log) (by rw [HQ.out.2.1]; exact HSn.out.ts)).mono ?_; rintro e w4 ⟨rfl, ga, gc, wa, wc, hev4⟩)
  go_ret
  rw [HQ.out.2.2.2] at hev4
  exact ⟨rfl, ga, gc, wa, wc, HE3.out.trans hev4⟩

set_option maxHeartbeats 400000 in
theorem within_any (n l m : Int) (w : World) : Calls Tryz.prog 56 #[.int .i64 n, .int .i64 l, .int .i64 m] w fun e w' => e = .returned (.bool (decide (l ≤ n ∧ n ≤ m))) ∧ w = w' := by
  by_cases h0 : l ≤ n
  · by_cases h1 : n ≤ m
    · have hd : decide (l ≤ n ∧ n ≤ m) = true := by simp [h0, h1]
      rw [hd]
      go_enter Tryz.func56, Tryz.ntmps56
      go_wp2
      go_ret
      exact ⟨rfl, rfl⟩
    · have hd : decide (l ≤ n ∧ n ≤ m) = false := by simp [h1]
      rw [hd]
      have hd1 : decide (n ≤ m) = false := by simpa using h1
      go_enter Tryz.func56, Tryz.ntmps56
      go_wp2
      go_ret
      exact ⟨rfl, rfl⟩
  · have hd : decide (l ≤ n ∧ n ≤ m) = false := by simp [h0]
    rw [hd]
    have hd0 : decide (l ≤ n) = false := by simpa using h0
    go_enter Tryz.func56, Tryz.ntmps56
    go_wp2
    go_ret
    exact ⟨rfl, rfl⟩
set_option maxRecDepth 100000 in
set_option maxHeartbeats 2000000 in
theorem xisConfig_any (c : Cfg) (t : Bool) (w : World) (ht : t = true ↔ c.fits) : Calls Tryz.prog 32 #[c.agg] w fun e w' => e = .returned (.bool t) ∧ Below w.heap.size w w' := by
  have HF : Hid (t = true ↔ c.fits) := ht
  clear ht
  have hB : Below w.heap.size w (w.alloc (.cells #[.int .i64 c.sources, .int .i64 c.slack, .int .i64 c.policy, .int .i64 c.room, .int .i64 c.idle, .string c.pat] 23)) := (Below.refl _ _).alloc (Nat.le_refl _) _
  unfold Cfg.agg
  cases h1 : decide (1 ≤ c.sources ∧ c.sources ≤ 6) with
  | false =>
    have hf : t = false := by
      cases t with
      | false => rfl
      | true => have := HF.out.1 rfl; unfold Cfg.fits at this; simp at h1; omega
    rw [hf]
    have H1 : Hid (decide (1 ≤ c.sources ∧ c.sources ≤ 6) = false) := h1
    clear h1
    go_enter Tryz.func32, Tryz.ntmps32
    go_wp2_with (go_at_call 56; refine (within_any _ _ _ _).mono ?_; rintro e w' ⟨rfl, rfl⟩; rw [H1.out])
    go_ret
    exact ⟨rfl, hB⟩
  | true =>
    have H1 : Hid (decide (1 ≤ c.sources ∧ c.sources ≤ 6) = true) := h1
    clear h1
    cases h2 : decide (0 ≤ c.slack ∧ c.slack ≤ 1000) with
    | false =>
      have hf : t = false := by
        cases t with
        | false => rfl
        | true => have := HF.out.1 rfl; unfold Cfg.fits at this; simp at h2; omega
      rw [hf]
      have H2 : Hid (decide (0 ≤ c.slack ∧ c.slack ≤ 1000) = false) := h2
      clear h2
      go_enter Tryz.func32, Tryz.ntmps32
      go_wp2_with (go_at_call 56; refine (within_any _ _ _ _).mono ?_; rintro e w' ⟨rfl, rfl⟩; first | rw [H1.out] | rw [H2.out])
      go_ret
      exact ⟨rfl, hB⟩
    | true =>
      have H2 : Hid (decide (0 ≤ c.slack ∧ c.slack ≤ 1000) = true) := h2
      clear h2
      cases h3 : decide (0 ≤ c.policy ∧ c.policy ≤ 2) with
      | false =>
        have hf : t = false := by
          cases t with
          | false => rfl
          | true => have := HF.out.1 rfl; unfold Cfg.fits at this; simp at h3; omega
        rw [hf]
        have H3 : Hid (decide (0 ≤ c.policy ∧ c.policy ≤ 2) = false) := h3
        clear h3
        go_enter Tryz.func32, Tryz.ntmps32
        go_wp2_with (go_at_call 56; refine (within_any _ _ _ _).mono ?_; rintro e w' ⟨rfl, rfl⟩; first | rw [H1.out] | rw [H2.out] | rw [H3.out])
        go_ret
        exact ⟨rfl, hB⟩
      | true =>
        have H3 : Hid (decide (0 ≤ c.policy ∧ c.policy ≤ 2) = true) := h3
        clear h3
        cases h4 : decide (1 ≤ c.room ∧ c.room ≤ 32) with
        | false =>
          have hf : t = false := by
            cases t with
            | false => rfl
            | true => have := HF.out.1 rfl; unfold Cfg.fits at this; simp at h4; omega
          rw [hf]
          have H4 : Hid (decide (1 ≤ c.room ∧ c.room ≤ 32) = false) := h4
          clear h4
          go_enter Tryz.func32, Tryz.ntmps32
          go_wp2_with (go_at_call 56; refine (within_any _ _ _ _).mono ?_; rintro e w' ⟨rfl, rfl⟩; first | rw [H1.out] | rw [H2.out] | rw [H3.out] | rw [H4.out])
          go_ret
          exact ⟨rfl, hB⟩
        | true =>
          have H4 : Hid (decide (1 ≤ c.room ∧ c.room ≤ 32) = true) := h4
          clear h4
          obtain ⟨t5, h5⟩ : ∃ t5, decide (0 ≤ c.idle ∧ c.idle ≤ 1000) = t5 := ⟨_, rfl⟩
          have H5 : Hid (decide (0 ≤ c.idle ∧ c.idle ≤ 1000) = t5) := h5
          clear h5
          have hf : t = t5 := by
            have a1 := of_decide_eq_true H1.out
            have a2 := of_decide_eq_true H2.out
            have a3 := of_decide_eq_true H3.out
            have a4 := of_decide_eq_true H4.out
            have hx : t = true ↔ t5 = true := by
              rw [HF.out, ← H5.out, decide_eq_true_iff]
              unfold Cfg.fits
              omega
            cases t <;> cases t5 <;> simp_all
          rw [hf]
          go_enter Tryz.func32, Tryz.ntmps32
          go_wp2_with (go_at_call 56; refine (within_any _ _ _ _).mono ?_; rintro e w' ⟨rfl, rfl⟩; first | rw [H1.out] | rw [H2.out] | rw [H3.out] | rw [H4.out] | rw [H5.out])
          go_ret
          exact ⟨rfl, hB⟩
end Go.Proofs.YthiabdpgieppoaaGreat
