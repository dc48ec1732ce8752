import Derived.Test.YtghcololkgeoeaaPatA
namespace Go.Proofs.Ytghcololkgeoeaa
open Go.RowKit
set_option linter.unusedVariables false
set_option linter.unusedSimpArgs false

set_option maxHeartbeats 1000000 in
theorem behind_yes (b : Nat) (r r' : Rd) (c : Int) (w : World) (hok : r.ok) {a : Option Addr} {cc : Nat} (hb : RdAt w b r a cc) (h : r.behind c = some r') :
    Calls Try.prog 53 #[.pointer (some ⟨b, 0, none⟩), .int .u8 c] w fun e w' => e = .returned (.bool true) ∧ (∃ a' c', RdAt w' b r' a' c') ∧ Below b w w' := by
  have h0 := hb.blk.cell 0
  have h4 := hb.blk.cell 4
  simp [Rd.vals] at h0 h4
  have f0 := hb.blk.frozen 0
  have f4 := hb.blk.frozen 4
  unfold Rd.behind Rd.step at h
  by_cases h61 : c = 61
  · subst h61
    simp at h
    subst h
    go_enter Try.func53, Try.ntmps53
    go_wp2
    go_ret
    exact ⟨rfl, ⟨_, _, (hb.set (r' := { r with same := true }) 4 _ rfl rfl).set 0 _ rfl rfl⟩, below_set2⟩
  · by_cases h64 : c = 64
    · subst h64
      simp at h
      subst h
      clear h61
      go_enter Try.func53, Try.ntmps53
      go_wp2_with (go_at_call 55; refine (takeWindowSign_yes _ r _ hb).mono ?_; rintro e w' ⟨rfl, hb', hw⟩)
      go_ret
      exact ⟨rfl, hb', hw⟩
    · by_cases h33 : c = 33
      · subst h33
        simp at h
        obtain ⟨h3, rfl⟩ := h
        clear h61 h64
        go_enter Try.func53, Try.ntmps53
        go_wp2_with (go_at_call 62; refine (takeBarSign_yes _ r _ hb h3).mono ?_; rintro e w' ⟨rfl, hb', hw⟩)
        go_ret
        exact ⟨rfl, hb', hw⟩
      · rw [if_neg h61, if_neg h64, if_neg h33] at h
        split at h
        · rename_i hc
          simp only [Option.some.injEq] at h
          subst h
          have e61 : (c == 61) = false := by simpa using h61
          have e64 : (c == 64) = false := by simpa using h64
          have e33 : (c == 33) = false := by simpa using h33
          clear h61 h64 h33
          obtain ⟨hc1, hc2⟩ := hc
          go_enter Try.func53, Try.ntmps53
          go_wp2_with (go_at_call 52; refine (takeStep_yes _ r _ _ hb hc1 hc2).mono ?_; rintro e w' ⟨rfl, hb', hw⟩)
          go_ret
          exact ⟨rfl, hb', hw⟩
        · simp at h

set_option maxHeartbeats 1000000 in
theorem behind_no (b : Nat) (r : Rd) (c : Int) (w : World) {a : Option Addr} {cc : Nat} (hb : RdAt w b r a cc) (h : r.behind c = none) :
    Calls Try.prog 53 #[.pointer (some ⟨b, 0, none⟩), .int .u8 c] w fun e w' => e = .returned (.bool false) ∧ w' = w := by
  unfold Rd.behind Rd.step at h
  by_cases h61 : c = 61
  · subst h61
    simp at h
  · by_cases h64 : c = 64
    · subst h64
      simp at h
    · by_cases h33 : c = 33
      · subst h33
        simp at h
        clear h61 h64
        go_enter Try.func53, Try.ntmps53
        go_wp2_with (go_at_call 62; refine (takeBarSign_no _ r _ hb h).mono ?_; rintro e w' ⟨rfl, rfl⟩)
        go_ret
        exact ⟨rfl, rfl⟩
      · rw [if_neg h61, if_neg h64, if_neg h33] at h
        split at h
        · simp at h
        · rename_i hc
          have hc' : ¬ (65 ≤ c ∧ c ≤ 90) ∨ 3 ≤ r.sts.length := by omega
          have e61 : (c == 61) = false := by simpa using h61
          have e64 : (c == 64) = false := by simpa using h64
          have e33 : (c == 33) = false := by simpa using h33
          clear h61 h64 h33 hc h
          have HC : Hid (¬ (65 ≤ c ∧ c ≤ 90) ∨ 3 ≤ r.sts.length) := hc'
          clear hc'
          go_enter Try.func53, Try.ntmps53
          go_wp2_with (go_at_call 52; refine (takeStep_no _ r _ _ hb HC.out).mono ?_; rintro e w' ⟨rfl, rfl⟩)
          go_ret
          exact ⟨rfl, rfl⟩

set_option maxHeartbeats 1000000 in
theorem take_yes (b : Nat) (r r' : Rd) (c : Int) (w : World) (hok : r.ok) (hst : r.st) {a : Option Addr} {cc : Nat} (hb : RdAt w b r a cc) (h : r.take c = some r') :
    Calls Try.prog 43 #[.pointer (some ⟨b, 0, none⟩), .int .u8 c] w fun e w' => e = .returned (.bool true) ∧ (∃ a' c', RdAt w' b r' a' c') ∧ Below b w w' := by
  have h0 := hb.blk.cell 0
  simp [Rd.vals] at h0
  obtain ⟨ra, rbr, rdd, rst, rsame, rv⟩ := r
  simp only [Rd.st] at hst
  have ha : ra = 0 ∨ ra = 1 ∨ ra = 2 ∨ ra = 3 ∨ ra = 4 ∨ (ra = 5 ∨ ra = 6) := by omega
  rcases ha with rfl | rfl | rfl | rfl | rfl | ha
  · simp [Rd.take, Rd.step] at h
    obtain ⟨⟨hc, hs⟩, rfl⟩ := h
    go_enter Try.func43, Try.ntmps43
    go_wp2_with (go_at_call 52; refine (takeStep_yes _ _ _ _ hb hc hs).mono ?_; rintro e w' ⟨rfl, hb', hw⟩)
    go_ret
    exact ⟨rfl, hb', hw⟩
  · simp [Rd.take] at h
    have H : Hid (Rd.behind ⟨1, rbr, rdd, rst, rsame, rv⟩ c = some r') := h
    clear h
    go_enter Try.func43, Try.ntmps43
    go_wp2_with (go_at_call 53; refine (behind_yes _ _ _ _ _ hok hb H.out).mono ?_; rintro e w' ⟨rfl, hb', hw⟩)
    go_ret
    exact ⟨rfl, hb', hw⟩
  · simp [Rd.take] at h
    obtain ⟨hc, rfl⟩ := h
    go_enter Try.func43, Try.ntmps43
    go_wp2_with (go_at_call 54; refine (takeBarredKind_yes _ _ _ _ hb hc).mono ?_; rintro e w' ⟨rfl, hb', hw⟩)
    go_ret
    exact ⟨rfl, hb', hw⟩
  · simp [Rd.take, Rd.step] at h
    obtain ⟨⟨hc, hs⟩, rfl⟩ := h
    go_enter Try.func43, Try.ntmps43
    go_wp2_with (go_at_call 52; refine (takeStep_yes _ _ _ _ hb hc hs).mono ?_; rintro e w' ⟨rfl, hb', hw⟩)
    go_ret
    exact ⟨rfl, hb', hw⟩
  · simp [Rd.take] at h
    obtain ⟨rfl, rfl⟩ := h
    go_enter Try.func43, Try.ntmps43
    go_wp2_with (go_at_call 55; refine (takeWindowSign_yes _ _ _ hb).mono ?_; rintro e w' ⟨rfl, hb', hw⟩)
    go_ret
    exact ⟨rfl, hb', hw⟩
  · have e0 : (ra == 0) = false := by simp; omega
    have e1 : (ra == 1) = false := by simp; omega
    have e2 : (ra == 2) = false := by simp; omega
    have e3 : (ra == 3) = false := by simp; omega
    have e4 : (ra == 4) = false := by simp; omega
    have ht : Rd.take ⟨ra, rbr, rdd, rst, rsame, rv⟩ c = Rd.digit ⟨ra, rbr, rdd, rst, rsame, rv⟩ c := by
      unfold Rd.take; rw [if_neg (by simp only; omega), if_neg (by simp only; omega), if_neg (by simp only; omega), if_neg (by simp only; omega)]
    rw [ht] at h
    unfold Rd.digit at h
    split at h
    · rename_i hd
      simp only [Option.some.injEq] at h
      subst h
      obtain ⟨d1, d2, d3, d4⟩ := hd
      unfold Rd.ok at hok
      obtain ⟨o1, o3, o4, o5, o6⟩ := hok
      clear ha hst ht
      go_enter Try.func43, Try.ntmps43
      go_wp2_with (go_at_call 56; refine (takeDigit_yes _ _ _ _ hb o3 o5 o6 d1 d2 d3 d4).mono ?_; rintro e w' ⟨rfl, hb', hw⟩)
      go_ret
      exact ⟨rfl, hb', hw⟩
    · simp at h

set_option maxHeartbeats 1000000 in
theorem take_no (b : Nat) (r : Rd) (c : Int) (w : World) (hok : r.ok) (hst : r.st) {a : Option Addr} {cc : Nat} (hb : RdAt w b r a cc) (h0c : 0 ≤ c) (h1c : c ≤ 255) (h : r.take c = none) :
    Calls Try.prog 43 #[.pointer (some ⟨b, 0, none⟩), .int .u8 c] w fun e w' => e = .returned (.bool false) ∧ w' = w := by
  have h0 := hb.blk.cell 0
  simp [Rd.vals] at h0
  obtain ⟨ra, rbr, rdd, rst, rsame, rv⟩ := r
  simp only [Rd.st] at hst
  have ha : ra = 0 ∨ ra = 1 ∨ ra = 2 ∨ ra = 3 ∨ ra = 4 ∨ (ra = 5 ∨ ra = 6) := by omega
  rcases ha with rfl | rfl | rfl | rfl | rfl | ha
  · have hs : Hid (¬ (65 ≤ c ∧ c ≤ 90) ∨ 3 ≤ rst.length) := by show _ ∨ _; simp [Rd.take, Rd.step] at h; omega
    clear h
    go_enter Try.func43, Try.ntmps43
    go_wp2_with (go_at_call 52; refine (takeStep_no _ _ _ _ hb hs.out).mono ?_; rintro e w' ⟨rfl, rfl⟩)
    go_ret
    exact ⟨rfl, rfl⟩
  · simp [Rd.take] at h
    have H : Hid (Rd.behind ⟨1, rbr, rdd, rst, rsame, rv⟩ c = none) := h
    clear h
    go_enter Try.func43, Try.ntmps43
    go_wp2_with (go_at_call 53; refine (behind_no _ _ _ _ hb H.out).mono ?_; rintro e w' ⟨rfl, rfl⟩)
    go_ret
    exact ⟨rfl, rfl⟩
  · have hs : Hid (¬ (65 ≤ c ∧ c ≤ 90)) := by show ¬ _; simp [Rd.take] at h; omega
    clear h
    go_enter Try.func43, Try.ntmps43
    go_wp2_with (go_at_call 54; refine (takeBarredKind_no _ _ _ hs.out).mono ?_; rintro e w' ⟨rfl, rfl⟩)
    go_ret
    exact ⟨rfl, rfl⟩
  · have hs : Hid (¬ (65 ≤ c ∧ c ≤ 90) ∨ 3 ≤ rst.length) := by show _ ∨ _; simp [Rd.take, Rd.step] at h; omega
    clear h
    go_enter Try.func43, Try.ntmps43
    go_wp2_with (go_at_call 52; refine (takeStep_no _ _ _ _ hb hs.out).mono ?_; rintro e w' ⟨rfl, rfl⟩)
    go_ret
    exact ⟨rfl, rfl⟩
  · have hs : Hid (c ≠ 64) := by show ¬ _; simp [Rd.take] at h; omega
    clear h
    go_enter Try.func43, Try.ntmps43
    go_wp2_with (go_at_call 55; refine (takeWindowSign_no _ _ _ hs.out).mono ?_; rintro e w' ⟨rfl, rfl⟩)
    go_ret
    exact ⟨rfl, rfl⟩
  · have e0 : (ra == 0) = false := by simp; omega
    have e1 : (ra == 1) = false := by simp; omega
    have e2 : (ra == 2) = false := by simp; omega
    have e3 : (ra == 3) = false := by simp; omega
    have e4 : (ra == 4) = false := by simp; omega
    have ht : Rd.take ⟨ra, rbr, rdd, rst, rsame, rv⟩ c = Rd.digit ⟨ra, rbr, rdd, rst, rsame, rv⟩ c := by
      unfold Rd.take; rw [if_neg (by simp only; omega), if_neg (by simp only; omega), if_neg (by simp only; omega), if_neg (by simp only; omega)]
    rw [ht] at h
    unfold Rd.digit at h
    split at h
    · simp at h
    · rename_i hd
      unfold Rd.ok at hok
      obtain ⟨o1, o3, o4, o5, o6⟩ := hok
      have HD : Hid (¬ (48 ≤ c ∧ c ≤ 57 ∧ rdd < 13 ∧ 10 * rv + (c - 48) ≤ 1099511627776)) := hd
      clear ha hst ht h hd
      go_enter Try.func43, Try.ntmps43
      go_wp2_with (go_at_call 56; refine (takeDigit_no _ _ _ _ hb o3 o5 o6 h0c h1c HD.out).mono ?_; rintro e w' ⟨rfl, rfl⟩)
      go_ret
      exact ⟨rfl, rfl⟩
end Go.Proofs.Ytghcololkgeoeaa
