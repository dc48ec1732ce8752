import Derived.Test.YthiabdpgieppoaaGreatXM
namespace Go.Proofs.YthiabdpgieppoaaGreat
open Go.RowKit
set_option linter.unusedVariables false
set_option linter.unusedSimpArgs false
attribute [local go_sem ↓] Go.wp_at_zero Go.wp_at_succ

set_option maxHeartbeats 400000 in
theorem xhas_any (b : Nat) (X : Eng) (s : Int) (w : World) (h : MemX w b X) :
    Calls Tryz.prog 36 #[.pointer (some ⟨b, 0, none⟩), .int .i64 s] w fun e w' => e = .returned (.bool (decide (0 ≤ s ∧ s < (X.srcs.length : Int)))) ∧ w = w' := by
  obtain ⟨_, _, _, _, c6, _⟩ := h.cells
  by_cases h0 : 0 ≤ s
  · by_cases h1 : s < (X.srcs.length : Int)
    · have hd : decide (0 ≤ s ∧ s < (X.srcs.length : Int)) = true := by simp [h0, h1]
      rw [hd]
      go_enter Tryz.func36, Tryz.ntmps36
      go_wp2
      go_ret
      exact ⟨rfl, rfl⟩
    · have hd : decide (0 ≤ s ∧ s < (X.srcs.length : Int)) = false := by simp [h1]
      rw [hd]
      have hd1 : decide (s < (X.srcs.length : Int)) = false := by simpa using h1
      go_enter Tryz.func36, Tryz.ntmps36
      go_wp2
      go_ret
      exact ⟨rfl, rfl⟩
  · have hd : decide (0 ≤ s ∧ s < (X.srcs.length : Int)) = false := by simp [h0]
    rw [hd]
    have hd0 : decide (0 ≤ s) = false := by simpa using h0
    go_enter Tryz.func36, Tryz.ntmps36
    go_wp2
    go_ret
    exact ⟨rfl, rfl⟩

set_option maxHeartbeats 400000 in
theorem xcheckIn_none (b : Nat) (X : Eng) (s : Int) (w : World) (h : MemX w b X) (hs : s < 0 ∨ (X.srcs.length : Int) ≤ s) :
    Calls Tryz.prog 41 #[.pointer (some ⟨b, 0, none⟩), .int .i64 s] w fun e w' => e = .returned (.int .i64 3) ∧ w = w' := by
  have HD : Hid (decide (0 ≤ s ∧ s < (X.srcs.length : Int)) = false) := by show _ = _; simp; omega
  clear hs
  go_enter Tryz.func41, Tryz.ntmps41
  go_wp2_with (go_at_call 36; refine (xhas_any b X s _ h).mono ?_; rintro e w' ⟨rfl, rfl⟩; rw [HD.out])
  go_ret
  exact ⟨rfl, rfl⟩
set_option maxHeartbeats 400000 in
theorem xcheckIn_some (b : Nat) (X : Eng) (i : Nat) (w : World) (h : MemX w b X) (hi : i < X.srcs.length) :
    Calls Tryz.prog 41 #[.pointer (some ⟨b, 0, none⟩), .int .i64 i] w fun e w' => e = .returned (.int .i64 (if X.srcs[i].inn then 0 else 4)) ∧ w = w' := by
  have HD : Hid (decide (0 ≤ (i : Int) ∧ (i : Int) < (X.srcs.length : Int)) = true) := by show _ = _; simp; omega
  obtain ⟨_, _, _, _, c6, _⟩ := h.cells
  have s0 := h.srcCell i 0 hi (by omega)
  simp only [PSrc.vals, List.getElem?_cons_zero, Nat.add_zero] at s0
  have hi' : (i : Int) < (X.srcs.length : Int) := by omega
  have hi0 : (0 : Int) ≤ (i : Int) := by omega
  cases hin : X.srcs[i].inn with
  | false =>
    rw [hin] at s0
    go_enter Tryz.func41, Tryz.ntmps41
    go_wp2_with (go_at_call 36; refine (xhas_any b X _ _ h).mono ?_; rintro e w' ⟨rfl, rfl⟩; rw [HD.out])
    go_ret
    exact ⟨rfl, rfl⟩
  | true =>
    rw [hin] at s0
    go_enter Tryz.func41, Tryz.ntmps41
    go_wp2_with (go_at_call 36; refine (xhas_any b X _ _ h).mono ?_; rintro e w' ⟨rfl, rfl⟩; rw [HD.out])
    go_ret
    exact ⟨rfl, rfl⟩

theorem set_same (X : Eng) (i : Nat) (hi : i < X.srcs.length) : ({ X with srcs := X.srcs.set i X.srcs[i] } : Eng) = X := by
  rw [List.set_getElem_self]
set_option maxHeartbeats 400000 in
theorem xraise_any (b : Nat) (X : Eng) (i : Nat) (m : Int) (w : World) (h : MemX w b X) (hi : i < X.srcs.length) :
    Calls Tryz.prog 48 #[.pointer (some ⟨b, 0, none⟩), .int .i64 i, .int .i64 m] w fun e w' => e = .returned (.tuple #[]) ∧ EvoX w b X w' { X with srcs := X.srcs.set i (X.srcs[i].raised m) } := by
  obtain ⟨_, _, _, _, c6, _⟩ := h.cells
  have s2 := h.srcCell i 2 hi (by omega)
  simp only [PSrc.vals, List.getElem?_cons_zero, List.getElem?_cons_succ, Nat.add_zero] at s2
  have f2 := h.srcFrozen (i * 6 + 2) (by omega)
  have hi' : (i : Int) < (X.srcs.length : Int) := by omega
  have hi0 : (0 : Int) ≤ (i : Int) := by omega
  have H : Hid (MemX w b X) := h
  clear h
  by_cases hm : X.srcs[i].mark < m
  · have HE : Hid (X.srcs[i].raised m = { X.srcs[i] with mark := m }) := by show _ = _; unfold PSrc.raised; rw [if_pos hm]
    go_enter Tryz.func48, Tryz.ntmps48
    go_wp2
    go_end0
    rw [HE.out]
    exact ⟨rfl, H.out.setSrcE _ hi 2 (by omega) (.int .i64 m) rfl ⟨rfl, rfl, rfl⟩⟩
  · have HE : Hid (X.srcs[i].raised m = X.srcs[i]) := by show _ = _; unfold PSrc.raised; rw [if_neg hm]
    have hd : decide (X.srcs[i].mark < m) = false := by simpa using hm
    go_enter Tryz.func48, Tryz.ntmps48
    go_wp2
    go_end0
    rw [HE.out, set_same]
    exact ⟨rfl, EvoX.refl H.out⟩

set_option maxHeartbeats 800000 in
theorem xactivate_any (b : Nat) (X : Eng) (i : Nat) (w : World) (h : MemX w b X) (hi : i < X.srcs.length) :
    Calls Tryz.prog 37 #[.pointer (some ⟨b, 0, none⟩), .int .i64 i] w fun e w' => e = .returned (.tuple #[]) ∧ EvoX w b X w' { X with srcs := X.srcs.set i (X.srcs[i].activated X.merged) } := by
  obtain ⟨_, _, _, _, c6, _⟩ := h.cells
  have s1 := h.srcCell i 1 hi (by omega)
  have s3 := h.srcCell i 3 hi (by omega)
  simp only [PSrc.vals, List.getElem?_cons_zero, List.getElem?_cons_succ, Nat.add_zero] at s1 s3
  have f1 := h.srcFrozen (i * 6 + 1) (by omega)
  have f3 := h.srcFrozen (i * 6 + 3) (by omega)
  have hi' : (i : Int) < (X.srcs.length : Int) := by omega
  have hi0 : (0 : Int) ≤ (i : Int) := by omega
  have H : Hid (MemX w b X) := h
  have hbs : b ≠ X.sg := fun e => by have := h.dis 0 1 b rfl (by rw [e]; rfl); omega
  clear h
  go_enter Tryz.func37, Tryz.ntmps37
  go_upto_region 2 with fail
  obtain ⟨X1, HX1⟩ := hex ({ X with srcs := X.srcs.set i { X.srcs[i] with idle := false, sil := 0 } } : Eng)
  have HE1 : Hid (EvoX w b X ((w.setCell ⟨X.sg, i * 6 + 1, none⟩ (.bool false)).setCell ⟨X.sg, i * 6 + 3, none⟩ (.int .i64 0)) X1) := by
    show EvoX _ _ _ _ _
    rw [HX1.out]
    have e1 := H.out.setSrcE { X.srcs[i] with idle := false } hi 1 (by omega) (.bool false) rfl ⟨rfl, rfl, rfl⟩
    have e2 := e1.mem.setSrcE (i := i) { X.srcs[i] with idle := false, sil := 0 } (by simp; exact hi) 3 (by omega) (.int .i64 0) (by simp [PSrc.vals]) (by simp)
    simp only [List.set_set] at e2
    exact e1.trans e2
  clear c6 s1 s3 f1 f3
  generalize (w.setCell ⟨X.sg, i * 6 + 1, none⟩ (.bool false)).setCell ⟨X.sg, i * 6 + 3, none⟩ (.int .i64 0) = wq at *
  obtain ⟨_, _, _, _, _, c7, _⟩ := HE1.out.mem.cells
  have hl1 : i < X1.srcs.length := by rw [HX1.out]; simp; exact hi
  go_wp2_with (go_at_call 48; refine (xraise_any b X1 i _ _ HE1.out.mem hl1).mono ?_; rintro e w' ⟨rfl, hev⟩)
  go_end0
  refine ⟨rfl, ?_⟩
  have ht := HE1.out.trans hev
  have e1 := HX1.out
  subst e1
  simp only [List.getElem_set_self, List.set_set] at ht
  exact ht

set_option maxHeartbeats 800000 in
theorem xtouch_any (b : Nat) (X : Eng) (i : Nat) (w : World) (h : MemX w b X) (hi : i < X.srcs.length) :
    Calls Tryz.prog 46 #[.pointer (some ⟨b, 0, none⟩), .int .i64 i] w fun e w' => e = .returned (.tuple #[]) ∧ EvoX w b X w' { X with srcs := X.srcs.set i (X.srcs[i].touched X.merged) } := by
  obtain ⟨_, _, _, _, c6, _⟩ := h.cells
  have s3 := h.srcCell i 3 hi (by omega)
  simp only [PSrc.vals, List.getElem?_cons_zero, List.getElem?_cons_succ, Nat.add_zero] at s3
  have f3 := h.srcFrozen (i * 6 + 3) (by omega)
  have hi' : (i : Int) < (X.srcs.length : Int) := by omega
  have hi0 : (0 : Int) ≤ (i : Int) := by omega
  have H : Hid (MemX w b X) := h
  have hbs : b ≠ X.sg := fun e => by have := h.dis 0 1 b rfl (by rw [e]; rfl); omega
  clear h
  go_enter Tryz.func46, Tryz.ntmps46
  go_upto_region 1 with fail
  obtain ⟨X1, HX1⟩ := hex ({ X with srcs := X.srcs.set i { X.srcs[i] with sil := 0 } } : Eng)
  have HE1 : Hid (EvoX w b X (w.setCell ⟨X.sg, i * 6 + 3, none⟩ (.int .i64 0)) X1) := by
    show EvoX _ _ _ _ _
    rw [HX1.out]
    exact H.out.setSrcE { X.srcs[i] with sil := 0 } hi 3 (by omega) (.int .i64 0) rfl ⟨rfl, rfl, rfl⟩
  have hp1 : X1.srcs.length = X.srcs.length := by rw [HX1.out]; simp
  have hl1 : i < X1.srcs.length := by omega
  have hp2 : Hid (X1.srcs[i] = { X.srcs[i] with sil := 0 } ∧ X1.merged = X.merged) := by show _ ∧ _; have e1 := HX1.out; subst e1; simp
  have hsg : X1.sg = X.sg ∧ X1.sc = X.sc := by rw [HX1.out]; exact ⟨rfl, rfl⟩
  clear c6 s3 f3
  generalize w.setCell ⟨X.sg, i * 6 + 3, none⟩ (.int .i64 0) = wq at *
  obtain ⟨_, _, _, _, c6, _⟩ := HE1.out.mem.cells
  rw [hsg.1, hsg.2, hp1] at c6
  have s1 := HE1.out.mem.srcCell i 1 hl1 (by omega)
  rw [hp2.out.1, hsg.1] at s1
  simp only [PSrc.vals, List.getElem?_cons_zero, List.getElem?_cons_succ, Nat.add_zero] at s1
  have key : Hid (({ X1 with srcs := X1.srcs.set i (X1.srcs[i].activated X1.merged) } : Eng) = { X with srcs := X.srcs.set i (({ X.srcs[i] with sil := 0 } : PSrc).activated X.merged) }) := by
    show _ = _
    have e1 := HX1.out
    subst e1
    simp
  cases hid : X.srcs[i].idle with
  | false =>
    rw [hid] at s1
    go_wp2
    go_end0
    refine ⟨rfl, ?_⟩
    have ht := HE1.out
    rw [HX1.out] at ht
    unfold PSrc.touched
    simp only [hid, Bool.false_eq_true, if_false]
    simp only [hid] at ht
    exact ht
  | true =>
    rw [hid] at s1
    go_wp2_with (go_at_call 37; refine (xactivate_any b X1 i _ HE1.out.mem hl1).mono ?_; rintro e w' ⟨rfl, hev⟩)
    go_end0
    refine ⟨rfl, ?_⟩
    have ht := HE1.out.trans hev
    rw [key.out] at ht
    unfold PSrc.touched
    simp only [hid, if_true]
    simp only [hid] at ht
    exact ht
end Go.Proofs.YthiabdpgieppoaaGreat
