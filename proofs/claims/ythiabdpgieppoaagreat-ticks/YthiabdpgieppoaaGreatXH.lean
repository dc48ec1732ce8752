import Derived.Test.YthiabdpgieppoaaGreatXF
namespace Go.Proofs.YthiabdpgieppoaaGreat
open Go.RowKit
set_option linter.unusedVariables false
set_option linter.unusedSimpArgs false
attribute [local go_sem ↓] Go.wp_at_zero Go.wp_at_succ

/-! ### Punct -/
set_option maxHeartbeats 400000 in
theorem xpunct_none (b : Nat) (X : Eng) (s ts : Int) (w : World) (h : MemX w b X) (hs : s < 0 ∨ (X.srcs.length : Int) ≤ s) :
    Calls Tryz.prog 20 #[.pointer (some ⟨b, 0, none⟩), .int .i64 s, .int .i64 ts] w fun e w' => e = .returned (.int .i64 3) ∧ w = w' := by
  go_enter Tryz.func20, Tryz.ntmps20
  go_wp2_with (go_at_call 41; refine (xcheckIn_none b X s _ h hs).mono ?_; rintro e w' ⟨rfl, rfl⟩)
  go_ret
  exact ⟨rfl, rfl⟩
set_option maxHeartbeats 400000 in
theorem xpunct_out (b : Nat) (X : Eng) (i : Nat) (ts : Int) (w : World) (h : MemX w b X) (hi : i < X.srcs.length) (hin : X.srcs[i].inn = false) :
    Calls Tryz.prog 20 #[.pointer (some ⟨b, 0, none⟩), .int .i64 i, .int .i64 ts] w fun e w' => e = .returned (.int .i64 4) ∧ w = w' := by
  have HI : Hid ((if X.srcs[i].inn then (0 : Int) else 4) = 4) := by show _ = _; rw [hin]; rfl
  go_enter Tryz.func20, Tryz.ntmps20
  go_wp2_with (go_at_call 41; refine (xcheckIn_some b X i _ h hi).mono ?_; rintro e w' ⟨rfl, rfl⟩; rw [HI.out])
  go_ret
  exact ⟨rfl, rfl⟩
set_option maxHeartbeats 400000 in
theorem xpunct_time (b : Nat) (X : Eng) (i : Nat) (ts : Int) (w : World) (h : MemX w b X) (hi : i < X.srcs.length) (hin : X.srcs[i].inn = true) (ht : beyondB ts = true) :
    Calls Tryz.prog 20 #[.pointer (some ⟨b, 0, none⟩), .int .i64 i, .int .i64 ts] w fun e w' => e = .returned (.int .i64 6) ∧ w = w' := by
  have HI : Hid ((if X.srcs[i].inn then (0 : Int) else 4) = 0) := by show _ = _; rw [hin]; rfl
  have HT : Hid (beyondB ts = true) := ht
  clear ht
  go_enter Tryz.func20, Tryz.ntmps20
  go_wp2_with (first
    | (go_at_call 41; refine (xcheckIn_some b X i _ h hi).mono ?_; rintro e w' ⟨rfl, rfl⟩; rw [HI.out])
    | (go_at_call 54; refine (isTime_any _ _).mono ?_; rintro e w3 ⟨rfl, rfl⟩; rw [HT.out]))
  go_ret
  exact ⟨rfl, rfl⟩
set_option maxRecDepth 100000 in
set_option maxHeartbeats 2000000 in
theorem xpunct_ok (b : Nat) (X : Eng) (i : Nat) (ts : Int) (w : World) (h : MemX w b X) (hs : SaneX X) (hi : i < X.srcs.length) (hin : X.srcs[i].inn = true) (ht : beyondB ts = false) :
    Calls Tryz.prog 20 #[.pointer (some ⟨b, 0, none⟩), .int .i64 i, .int .i64 ts] w fun e w' => e = .returned (.int .i64 0) ∧ EvoP w b X w' (X.puncted i X.srcs[i] ts) := by
  have HI : Hid ((if X.srcs[i].inn then (0 : Int) else 4) = 0) := by show _ = _; rw [hin]; rfl
  have HT : Hid (beyondB ts = false) := ht
  have H : Hid (MemX w b X) := h
  have HSn : Hid (SaneX X) := hs
  clear ht h hs
  obtain ⟨X1, HX1⟩ := hex ({ X with srcs := X.srcs.set i (X.srcs[i].touched X.merged) } : Eng)
  have hl1 : i < X1.srcs.length := by rw [HX1.out]; simp; exact hi
  obtain ⟨X2, HX2⟩ := hex ({ X1 with srcs := X1.srcs.set i (X1.srcs[i].raised ts) } : Eng)
  have HQ : Hid (X2.srcs.length = X.srcs.length ∧ X2.wait = X.wait ∧ X2.log = X.log ∧ X2.settled = X.puncted i X.srcs[i] ts) := by
    show _ ∧ _
    have e1 := HX1.out
    subst e1
    have e2 := HX2.out
    subst e2
    refine ⟨by simp, rfl, rfl, ?_⟩
    unfold Eng.puncted
    simp
  go_enter Tryz.func20, Tryz.ntmps20
  go_wp2_with (first
    | (go_at_call 41; refine (xcheckIn_some b X i _ H.out hi).mono ?_; rintro e w' ⟨rfl, rfl⟩; rw [HI.out])
    | (go_at_call 54; refine (isTime_any _ _).mono ?_; rintro e w3 ⟨rfl, rfl⟩; rw [HT.out])
    | (go_at_call 46; refine (xtouch_any b X i _ H.out hi).mono ?_; rintro e w1 ⟨rfl, hev1⟩; have HE1 : Hid (EvoX w b X w1 X1) := by (show EvoX _ _ _ _ _; rw [HX1.out]; exact hev1))
    | (go_at_call 48; refine (xraise_any b X1 i ts _ HE1.out.mem hl1).mono ?_; rintro e w2 ⟨rfl, hev2⟩; have HE2 : Hid (EvoX w1 b X1 w2 X2) := by (show EvoX _ _ _ _ _; rw [HX2.out]; exact hev2))
    | (go_at_call 38; refine (xsettle_any b X2 _ HE2.out.mem (by rw [HQ.out.1]; exact HSn.out.n) (by rw [HQ.out.2.1]; exact HSn.out.wait) (by rw [HQ.out.2.2.1]; exact HSn.out.log) (by rw [HQ.out.2.1]; exact HSn.out.ts)).mono ?_; rintro e w4 ⟨rfl, ga, gc, wa, wc, hev4⟩))
  go_ret
  rw [HQ.out.2.2.2] at hev4
  exact ⟨rfl, ga, gc, wa, wc, (HE1.out.trans HE2.out).trans hev4⟩

/-! ### Tick -/
def PSrc.hush (c : Cfg) (n : Int) (p : PSrc) : PSrc := { p with sil := if 1000 < p.sil + n then 1000 else p.sil + n, idle := if 0 < c.idle ∧ c.idle ≤ (if 1000 < p.sil + n then 1000 else p.sil + n) then true else p.idle }
set_option maxRecDepth 100000 in
set_option maxHeartbeats 2000000 in
theorem xhush_any (b : Nat) (X : Eng) (i : Nat) (n : Int) (w : World) (h : MemX w b X) (hi : i < X.srcs.length) (hn : 1 ≤ n ∧ n ≤ 1000) (hsl : 0 ≤ X.srcs[i].sil ∧ X.srcs[i].sil ≤ 1000) :
    Calls Tryz.prog 57 #[.pointer (some ⟨b, 0, none⟩), .int .i64 i, .int .i64 n] w fun e w' => e = .returned (.tuple #[]) ∧ EvoX w b X w' { X with srcs := X.srcs.set i (X.srcs[i].hush X.c n) } := by
  obtain ⟨_, _, _, c4, c6, _⟩ := h.cells
  have s1 := h.srcCell i 1 hi (by omega)
  have s3 := h.srcCell i 3 hi (by omega)
  simp only [PSrc.vals, List.getElem?_cons_zero, List.getElem?_cons_succ, Nat.add_zero] at s1 s3
  have f1 := h.srcFrozen (i * 6 + 1) (by omega)
  have f3 := h.srcFrozen (i * 6 + 3) (by omega)
  have hi' : (i : Int) < (X.srcs.length : Int) := by omega
  have hi0 : (0 : Int) ≤ (i : Int) := by omega
  have H : Hid (MemX w b X) := h
  have hbs : b ≠ X.sg := fun e => by have := h.dis 0 1 b rfl (by rw [e]; rfl); omega
  clear h
  obtain ⟨S, HS⟩ := hex X.srcs[i].sil
  rw [← HS.out] at s3 hsl
  have HE : Hid (X.srcs[i].hush X.c n = { X.srcs[i] with sil := if 1000 < S + n then 1000 else S + n, idle := if 0 < X.c.idle ∧ X.c.idle ≤ (if 1000 < S + n then 1000 else S + n) then true else X.srcs[i].idle }) := by show _ = _; rw [HS.out]; rfl
  have fin : Hid (∀ z : Int, (if 1000 < S + n then (1000 : Int) else S + n) = z → (((0 < X.c.idle ∧ X.c.idle ≤ z) → EvoX w b X ((w.setCell ⟨X.sg, i * 6 + 3, none⟩ (.int .i64 z)).setCell ⟨X.sg, i * 6 + 1, none⟩ (.bool true)) { X with srcs := X.srcs.set i (X.srcs[i].hush X.c n) }) ∧ (¬ (0 < X.c.idle ∧ X.c.idle ≤ z) → EvoX w b X (w.setCell ⟨X.sg, i * 6 + 3, none⟩ (.int .i64 z)) { X with srcs := X.srcs.set i (X.srcs[i].hush X.c n) }))) := by
    intro z hz
    rw [HE.out, hz]
    have e1 := H.out.setSrcE { X.srcs[i] with sil := z } hi 3 (by omega) (.int .i64 z) rfl ⟨rfl, rfl, rfl⟩
    refine ⟨fun hc => ?_, fun hc => ?_⟩
    · rw [if_pos hc]
      have e2 := e1.mem.setSrcE (i := i) { X.srcs[i] with sil := z, idle := true } (by simp; exact hi) 1 (by omega) (.bool true) (by simp [PSrc.vals]) (by simp)
      simp only [List.set_set] at e2
      exact e1.trans e2
    · rw [if_neg hc]; exact e1
  clear HE
  by_cases h1 : 1000 < S + n
  · have HZ : Hid ((if 1000 < S + n then (1000 : Int) else S + n) = 1000) := if_pos h1
    by_cases h2 : 0 < X.c.idle
    · by_cases h3 : X.c.idle ≤ 1000
      · go_enter Tryz.func57, Tryz.ntmps57
        go_wp2
        go_end0
        exact ⟨rfl, (fin.out _ HZ.out).1 ⟨h2, h3⟩⟩
      · have d3 : decide (X.c.idle ≤ 1000) = false := by simpa using h3
        go_enter Tryz.func57, Tryz.ntmps57
        go_wp2
        go_end0
        exact ⟨rfl, (fin.out _ HZ.out).2 (fun h => by omega)⟩
    · have d2 : decide (0 < X.c.idle) = false := by simpa using h2
      go_enter Tryz.func57, Tryz.ntmps57
      go_wp2
      go_end0
      exact ⟨rfl, (fin.out _ HZ.out).2 (fun h => by omega)⟩
  · have HZ : Hid ((if 1000 < S + n then (1000 : Int) else S + n) = S + n) := if_neg h1
    have d1 : decide (1000 < S + n) = false := by simpa using h1
    by_cases h2 : 0 < X.c.idle
    · by_cases h3 : X.c.idle ≤ S + n
      · go_enter Tryz.func57, Tryz.ntmps57
        go_wp2
        go_end0
        exact ⟨rfl, (fin.out _ HZ.out).1 ⟨h2, h3⟩⟩
      · have d3 : decide (X.c.idle ≤ S + n) = false := by simpa using h3
        go_enter Tryz.func57, Tryz.ntmps57
        go_wp2
        go_end0
        exact ⟨rfl, (fin.out _ HZ.out).2 (fun h => by omega)⟩
    · have d2 : decide (0 < X.c.idle) = false := by simpa using h2
      go_enter Tryz.func57, Tryz.ntmps57
      go_wp2
      go_end0
      exact ⟨rfl, (fin.out _ HZ.out).2 (fun h => by omega)⟩
def hushTo (c : Cfg) (n : Int) (l : List PSrc) (k : Nat) : List PSrc := (l.take k).map (hushed c n) ++ l.drop k
theorem hushTo_len (c : Cfg) (n : Int) (l : List PSrc) (k : Nat) : (hushTo c n l k).length = l.length := by simp [hushTo]; omega
theorem hushTo_get (c : Cfg) (n : Int) (l : List PSrc) (k : Nat) (hk : k < l.length) : (hushTo c n l k)[k]'(by rw [hushTo_len]; exact hk) = l[k] := by
  simp only [hushTo]
  rw [List.getElem_append_right (by simp; omega)]
  simp [Nat.min_eq_left (Nat.le_of_lt hk)]
theorem hushTo_set (c : Cfg) (n : Int) (l : List PSrc) (k : Nat) (hk : k < l.length) : hushTo c n l (k + 1) = (hushTo c n l k).set k (hushed c n l[k]) := by
  simp only [hushTo]
  rw [List.set_append_right _ _ (by simp; omega)]
  simp only [List.length_map, List.length_take, Nat.min_eq_left (Nat.le_of_lt hk), Nat.sub_self]
  rw [take_succ' l k hk, List.map_append, List.append_assoc, List.drop_eq_getElem_cons hk]
  rfl
theorem hushTo_all (c : Cfg) (n : Int) (l : List PSrc) : hushTo c n l l.length = l.map (hushed c n) := by simp [hushTo]
set_option maxHeartbeats 400000 in
theorem xtick_bad (b : Nat) (n : Int) (w : World) (hn : n < 1 ∨ 1000 < n) :
    Calls Tryz.prog 22 #[.pointer (some ⟨b, 0, none⟩), .int .i64 n] w fun e w' => e = .returned (.int .i64 9) ∧ w = w' := by
  have HD : Hid (decide (1 ≤ n ∧ n ≤ 1000) = false) := by show _ = _; simp; omega
  clear hn
  go_enter Tryz.func22, Tryz.ntmps22
  go_wp2_with (go_at_call 56; refine (within_any _ _ _ _).mono ?_; rintro e w' ⟨rfl, rfl⟩; rw [HD.out])
  go_ret
  exact ⟨rfl, rfl⟩
set_option maxRecDepth 100000 in
set_option maxHeartbeats 4000000 in
theorem xtick_ok (b : Nat) (X : Eng) (n : Int) (w : World) (h : MemX w b X) (hs : SaneX X) (hn : 1 ≤ n ∧ n ≤ 1000) (hsl : ∀ (i : Nat) p, X.srcs[i]? = some p → 0 ≤ p.sil ∧ p.sil ≤ 1000) :
    Calls Tryz.prog 22 #[.pointer (some ⟨b, 0, none⟩), .int .i64 n] w fun e w' => e = .returned (.int .i64 0) ∧ EvoP w b X w' (X.ticked n) := by
  have HD : Hid (decide (1 ≤ n ∧ n ≤ 1000) = true) := by show _ = _; simp; omega
  have H : Hid (MemX w b X) := h
  have HSn : Hid (SaneX X) := hs
  have HSl : Hid (∀ (i : Nat) p, X.srcs[i]? = some p → 0 ≤ p.sil ∧ p.sil ≤ 1000) := hsl
  have hn6 := hs.n
  obtain ⟨_, _, _, _, c6, _⟩ := h.cells
  clear h hs hsl
  go_enter Tryz.func22, Tryz.ntmps22
  go_upto_region 4 with (go_at_call 56; refine (within_any _ _ _ _).mono ?_; rintro e w' ⟨rfl, rfl⟩; rw [HD.out])
  clear c6
  go_loopw [14] (fun i wr => ∃ k : Nat, k ≤ X.srcs.length ∧ i = .int .i64 k ∧ EvoX w b X wr { X with srcs := hushTo X.c n X.srcs k }) (fun i _ => X.srcs.length - (intOf i).toNat)
  case atStart => exact ⟨0, Nat.zero_le _, rfl, by simpa [hushTo] using EvoX.refl H.out⟩
  case round =>
    obtain ⟨k, hk, rfl, hev⟩ := hrel
    obtain ⟨XK, HXK⟩ := hex ({ X with srcs := hushTo X.c n X.srcs k } : Eng)
    have HE : Hid (EvoX w b X wr XK) := by show EvoX _ _ _ _ _; rw [HXK.out]; exact hev
    clear hev
    have hlk : XK.srcs.length = X.srcs.length := by rw [HXK.out]; exact hushTo_len _ _ _ _
    have hq : XK.sg = X.sg ∧ XK.sc = X.sc ∧ XK.c = X.c := by rw [HXK.out]; exact ⟨rfl, rfl, rfl⟩
    obtain ⟨_, _, _, _, c6, _⟩ := HE.out.mem.cells
    by_cases hlt : k < X.srcs.length
    · have hlt' : (k : Int) < (X.srcs.length : Int) := by omega
      have hk0 : (0 : Int) ≤ (k : Int) := by omega
      have hlk' : k < XK.srcs.length := by omega
      have HG : Hid (XK.srcs[k] = X.srcs[k]) := by
        show _ = _
        have e := HXK.out
        subst e
        exact hushTo_get X.c n X.srcs k hlt
      have s0 := HE.out.mem.srcCell k 0 hlk' (by omega)
      rw [HG.out, hq.1] at s0
      simp only [PSrc.vals, List.getElem?_cons_zero, Nat.add_zero] at s0
      have hsk := HSl.out k _ (List.getElem?_eq_getElem hlt)
      have HST : Hid (({ XK with srcs := XK.srcs.set k (hushed X.c n X.srcs[k]) } : Eng) = { X with srcs := hushTo X.c n X.srcs (k + 1) }) := by
        show _ = _
        have e := HXK.out
        subst e
        simp only
        rw [hushTo_set X.c n X.srcs k hlt]
      rw [hlk, hq.1, hq.2.1] at c6
      cases hin : X.srcs[k].inn with
      | false =>
        rw [hin] at s0
        have HH : Hid (hushed X.c n X.srcs[k] = X.srcs[k]) := by show _ = _; unfold hushed; rw [hin]; rfl
        go_wp2
        go_roundw
        case rel =>
          refine ⟨k + 1, by omega, by go_num, ?_⟩
          rw [← HST.out, HH.out, ← HG.out, set_same]
          exact HE.out
        case measure => simp [intOf]; omega
      | true =>
        rw [hin] at s0
        have HH : Hid (hushed X.c n X.srcs[k] = X.srcs[k].hush X.c n) := by show _ = _; unfold hushed; rw [if_pos hin]; rfl
        go_wp2_with (go_at_call 57; refine (xhush_any b XK k n _ HE.out.mem hlk' hn (by rw [HG.out]; exact hsk)).mono ?_; rintro e w2 ⟨rfl, hev2⟩)
        go_roundw
        case rel =>
          refine ⟨k + 1, by omega, by go_num, ?_⟩
          rw [← HST.out, HH.out]
          have hx : XK.srcs[k].hush XK.c n = X.srcs[k].hush X.c n := by rw [HG.out, hq.2.2]
          rw [hx] at hev2
          exact HE.out.trans hev2
        case measure => simp [intOf]; omega
    · obtain rfl : k = X.srcs.length := by omega
      have HQ : Hid (XK.wait = X.wait ∧ XK.log = X.log ∧ XK.settled = X.ticked n) := by
        show _ ∧ _
        have e := HXK.out
        subst e
        refine ⟨rfl, rfl, ?_⟩
        unfold Eng.ticked
        rw [hushTo_all]
      go_wp2_with (go_at_call 38; refine (xsettle_any b XK _ HE.out.mem (by rw [hlk]; exact HSn.out.n) (by rw [HQ.out.1]; exact HSn.out.wait) (by rw [HQ.out.2.1]; exact HSn.out.log) (by rw [HQ.out.1]; exact HSn.out.ts)).mono ?_; rintro e w4 ⟨rfl, ga, gc, wa, wc, hev4⟩)
      go_ret
      rw [HQ.out.2.2] at hev4
      exact ⟨rfl, ga, gc, wa, wc, HE.out.trans hev4⟩
end Go.Proofs.YthiabdpgieppoaaGreat
