import Derived.Test.YtghcololkgeoeabGreatPartF2
import Derived.Test.YtghcololkgeoeabGreatPartA9
import Derived.Test.YtghcololkgeoeabGreatPartF3
namespace Go.Proofs.YtghcololkgeoeabGreat
open Go.RowKit
set_option linter.unusedVariables false
set_option linter.unusedSimpArgs false
attribute [local go_sem ↓] Go.wp_at_zero Go.wp_at_succ

def doneOf (z : Int) : Int := if z = 0 then 0 else 1
set_option maxRecDepth 100000 in
set_option maxHeartbeats 4000000 in
theorem rline_any (b : Nat) (R : Ref) (A : Int) (s : ByteArray) (w : World) (h : MemR w b R) (Φ : Int → Ref → Prop)
    (h2 : (40 < s.size ∨ (isEv s.data.toList = false ∧ (punctOf s.data.toList).2 = false)) → Φ 2 R)
    (hE : s.size ≤ 40 → isEv s.data.toList = true → ∀ u, MemR u b R → Calls Tryz.prog 27 #[.pointer (some ⟨b, 0, none⟩), .int .i64 A, (evOf s.data.toList).agg] u fun e w' => ∃ z Y, e = .returned (.int .i64 z) ∧ Φ (doneOf z) Y ∧ Evo u b R w' Y)
    (hP : s.size ≤ 40 → isEv s.data.toList = false → (punctOf s.data.toList).2 = true → ∀ u, MemR u b R → Calls Tryz.prog 29 #[.pointer (some ⟨b, 0, none⟩), .int .i64 A, .int .i64 (punctOf s.data.toList).1] u fun e w' => ∃ z Y, e = .returned (.int .i64 z) ∧ Φ (doneOf z) Y ∧ Evo u b R w' Y) :
    Calls Tryz.prog 71 #[.pointer (some ⟨b, 0, none⟩), .int .i64 A, .string s] w fun e w' => ∃ z Y, e = .returned (.int .i64 z) ∧ (z = 0 ∨ z = 1 ∨ z = 2) ∧ Φ z Y ∧ Evo w b R w' Y := by
  have H : Hid (MemR w b R) := h
  clear h
  by_cases h40 : (40 : Int) < (s.size : Int)
  · have HP2 : Hid (Φ 2 R) := h2 (Or.inl (by omega))
    clear h2 hE hP
    go_enter Tryz.func71, Tryz.ntmps71
    go_wp2
    go_ret
    exact ⟨2, R, rfl, Or.inr (Or.inr rfl), HP2.out, Evo.refl H.out⟩
  · have hs : s.size ≤ 40 := by omega
    have hev : ∀ u, Calls Tryz.prog 88 #[.string s] u fun e w' => ∃ E : Ev, e = .returned (.tuple #[.agg #[.int .i64 E.src, .int .i64 E.seq, .int .i64 E.ts, .int .i64 E.kind, .int .i64 E.val], .bool (isEv s.data.toList)]) ∧ (isEv s.data.toList = true → E = evOf s.data.toList) ∧ Below u.heap.size u w' := fun u => event_any s u (by omega)
    have hpu : ∀ u, Calls Tryz.prog 89 #[.string s] u fun e w' => e = .returned (.tuple #[.int .i64 (punctOf s.data.toList).1, .bool (punctOf s.data.toList).2]) ∧ u = w' := fun u => punct_any s u (by omega)
    have HE' := hE hs
    have HP' := hP hs
    clear hE hP
    obtain ⟨iv, HIv⟩ := hex (isEv s.data.toList)
    rw [← HIv.out] at h2 HE' HP' hev
    obtain ⟨pu, HPu⟩ := hex (punctOf s.data.toList)
    rw [← HPu.out] at h2 HP' hpu
    obtain ⟨EV, HEV⟩ := hex (evOf s.data.toList)
    rw [← HEV.out] at HE' hev
    go_enter Tryz.func71, Tryz.ntmps71
    go_upto_region 5 with (go_at_call 88; refine (hev _).mono ?_; rintro e w1 ⟨E, rfl, hEE, hb1⟩)
    have HEE : Hid (iv = true → E = EV) := hEE
    clear hEE hev
    obtain ⟨w2, HW2⟩ := hex (w1.alloc (.cells E.vals.toArray 30))
    have hw2 : w1.alloc (.cells #[.int .i64 E.src, .int .i64 E.seq, .int .i64 E.ts, .int .i64 E.kind, .int .i64 E.val] 30) = w2 := HW2.out.symm
    obtain ⟨eb, HEb⟩ := hex w1.heap.size
    rw [hw2, ← HEb.out]
    have HE2 : Hid (Evo w b R w2 R) := by show Evo _ _ _ _ _; rw [HW2.out]; exact Evo.below H.out (hb1.alloc hb1.size _)
    have HB2 : Hid (Blk w2 eb 30 E.vals) := by show Blk _ _ _ _; rw [HW2.out, HEb.out]; exact blk_alloc _ _ _
    clear hw2 HW2 HEb hb1
    have x0 := HB2.out.cell 0
    have x1 := HB2.out.cell 1
    have x2 := HB2.out.cell 2
    have x3 := HB2.out.cell 3
    have x4 := HB2.out.cell 4
    simp only [Ev.vals, List.getElem?_cons_zero, List.getElem?_cons_succ] at x0 x1 x2 x3 x4
    go_upto_region 7 with (go_at_call 89; refine (hpu _).mono ?_; rintro e w3 ⟨rfl, rfl⟩)
    clear hpu
    cases iv with
    | true =>
      have hEq : E = EV := HEE.out rfl
      subst hEq
      have HPs := HE' rfl
      unfold Ev.agg at HPs
      clear HE' HP' h2
      go_upto_region 11 with (go_at_call 27; refine (HPs _ HE2.out.mem).mono ?_; rintro e w4 ⟨z, Y, rfl, hph, hev⟩)
      have HPh : Hid (Φ (doneOf z) Y) := hph
      have HE4 : Hid (Evo w b R w4 Y) := HE2.out.trans hev
      clear hph hev HPs
      by_cases hz : z = 0
      · have HZ : Hid (doneOf z = 0) := by show _ = _; unfold doneOf; rw [if_pos hz]
        rw [HZ.out] at HPh
        subst hz
        go_wp2
        go_ret
        exact ⟨0, Y, rfl, Or.inl rfl, HPh.out, HE4.out⟩
      · have HZ : Hid (doneOf z = 1) := by show _ = _; unfold doneOf; rw [if_neg hz]
        rw [HZ.out] at HPh
        have hzb : (z == 0) = false := by simpa using hz
        clear hz
        go_wp2
        go_ret
        exact ⟨1, Y, rfl, Or.inr (Or.inl rfl), HPh.out, HE4.out⟩
    | false =>
      cases hp2 : pu.2 with
      | true =>
        have HPs := HP' rfl hp2
        clear HE' HP' h2
        go_upto_region 11 with (go_at_call 29; refine (HPs _ HE2.out.mem).mono ?_; rintro e w4 ⟨z, Y, rfl, hph, hev⟩)
        have HPh : Hid (Φ (doneOf z) Y) := hph
        have HE4 : Hid (Evo w b R w4 Y) := HE2.out.trans hev
        clear hph hev HPs
        by_cases hz : z = 0
        · have HZ : Hid (doneOf z = 0) := by show _ = _; unfold doneOf; rw [if_pos hz]
          rw [HZ.out] at HPh
          subst hz
          go_wp2
          go_ret
          exact ⟨0, Y, rfl, Or.inl rfl, HPh.out, HE4.out⟩
        · have HZ : Hid (doneOf z = 1) := by show _ = _; unfold doneOf; rw [if_neg hz]
          rw [HZ.out] at HPh
          have hzb : (z == 0) = false := by simpa using hz
          clear hz
          go_wp2
          go_ret
          exact ⟨1, Y, rfl, Or.inr (Or.inl rfl), HPh.out, HE4.out⟩
      | false =>
        have HP2 : Hid (Φ 2 R) := h2 (Or.inr ⟨rfl, hp2⟩)
        clear HE' HP' h2
        go_wp2
        go_ret
        exact ⟨2, R, rfl, Or.inr (Or.inr rfl), HP2.out, HE2.out⟩
end Go.Proofs.YtghcololkgeoeabGreat
namespace Go.Proofs.YtghcololkgeoeabGreat
open Go.RowKit
set_option linter.unusedVariables false
set_option linter.unusedSimpArgs false
attribute [local go_sem ↓] Go.wp_at_zero Go.wp_at_succ

structure SideR (w : World) (b : Nat) (R : Ref) (rb : Nat) (f : FedN) : Prop where
  blk : Blk w rb 75 f.vals
  off : ¬ some rb ∈ R.fp b
theorem SideR.evo {w w' : World} {b : Nat} {R Y : Ref} {rb : Nat} {f : FedN} (h : SideR w b R rb f) (he : Evo w b R w' Y) : SideR w' b Y rb f :=
  ⟨h.blk.kept he.kept h.off, fun e => by
    rcases he.grow rb e with e | e
    · exact h.off e
    · have := h.blk.lt; omega⟩
theorem Evo.out {w w' : World} {b : Nat} {R Y : Ref} (h : Evo w b R w' Y) {rb o : Nat} (hr : w.heap.size ≤ rb) (hn : ¬ some rb ∈ Y.fp b) (v : Value) : Evo w b R (w'.setCell ⟨rb, o, none⟩ v) Y := by
  have K : Kept (fun k => k = rb) w' (w'.setCell ⟨rb, o, none⟩ v) := (Kept.refl (fun k => k = rb) w').setCell (fun _ => rfl) v
  exact ⟨h.mem.kept K (fun k hk hs => by subst hs; exact hn hk), h.kept.trans' K (fun i hi e => absurd hr (by omega)), h.grow⟩
structure FeedR (w wr : World) (b : Nat) (R Y : Ref) (rb fb : Nat) (f : FedN) : Prop where
  evo : Evo w b R wr Y
  res : SideR wr b Y rb ⟨0, 0, 0⟩
  box : SideR wr b Y fb f
theorem FeedR.step {w wr w' : World} {b : Nat} {R Y Z : Ref} {rb fb : Nat} {f : FedN} (h : FeedR w wr b R Y rb fb f) (he : Evo wr b Y w' Z) : FeedR w w' b R Z rb fb f :=
  ⟨h.evo.trans he, h.res.evo he, h.box.evo he⟩
theorem FeedR.add {w wr : World} {b : Nat} {R Y : Ref} {rb fb : Nat} {f : FedN} (h : FeedR w wr b R Y rb fb f) (hrf : rb ≠ fb) (hf : w.heap.size ≤ fb) (o : Nat) (v : Value) (f' : FedN) (hv : f'.vals = f.vals.set o v) : FeedR w (wr.setCell ⟨fb, o, none⟩ v) b R Y rb fb f' :=
  ⟨h.evo.out hf h.box.off _, ⟨h.res.blk.kept ((Kept.refl (fun k => k = fb) wr).setCell (fun _ => rfl) _) hrf, h.res.off⟩, ⟨by rw [hv]; exact h.box.blk.set o v, h.box.off⟩⟩
def fedZ (z : Int) : FedN := if z = 0 then ⟨1, 0, 0⟩ else if z = 1 then ⟨0, 1, 0⟩ else ⟨0, 0, 1⟩
set_option maxRecDepth 100000 in
set_option maxHeartbeats 1000000 in
theorem rfeed_long (b : Nat) (R : Ref) (A : Int) (s : ByteArray) (w : World) (h : MemR w b R) (hs : 2000 < s.size) :
    Calls Tryz.prog 33 #[.pointer (some ⟨b, 0, none⟩), .int .i64 A, .string s] w fun e w' => e = .returned (.tuple #[.agg #[.int .i64 0, .int .i64 0, .int .i64 0], .int .i64 9]) ∧ Below w.heap.size w w' := by
  have hs' : (2000 : Int) < (s.size : Int) := by omega
  have H : Hid (MemR w b R) := h
  clear h
  go_enter Tryz.func33, Tryz.ntmps33
  go_wp2_with (go_at_call 41; refine (rnone_any b R A _ ((H.out.alloc _).alloc _)).mono ?_; rintro e w' ⟨rfl, rfl⟩)
  refine bodyPost_ret (v := .tuple #[.agg #[.int .i64 0, .int .i64 0, .int .i64 0], .int .i64 9]) (by simp [results, Tryz.results33, go_sem]) rfl ⟨rfl, ?_⟩
  exact ((Below.refl _ _).alloc (Nat.le_refl _) _).alloc (by simp) _
set_option maxRecDepth 100000 in
set_option maxHeartbeats 1000000 in
theorem rfeed_none (b : Nat) (R : Ref) (A : Int) (s : ByteArray) (w : World) (h : MemR w b R) (hs : s.size ≤ 2000) (hA : A < 0 ∨ (R.srcs.length : Int) ≤ A) :
    Calls Tryz.prog 33 #[.pointer (some ⟨b, 0, none⟩), .int .i64 A, .string s] w fun e w' => e = .returned (.tuple #[.agg #[.int .i64 0, .int .i64 0, .int .i64 0], .int .i64 3]) ∧ Below w.heap.size w w' := by
  have hs' : ¬ ((2000 : Int) < (s.size : Int)) := by omega
  have HD : Hid (decide (A < 0 ∨ (R.srcs.length : Int) ≤ A) = true) := by show _ = _; simpa using hA
  have H : Hid (MemR w b R) := h
  clear h hA
  go_enter Tryz.func33, Tryz.ntmps33
  go_wp2_with (go_at_call 41; refine (rnone_any b R A _ ((H.out.alloc _).alloc _)).mono ?_; rintro e w' ⟨rfl, rfl⟩; rw [HD.out])
  refine bodyPost_ret (v := .tuple #[.agg #[.int .i64 0, .int .i64 0, .int .i64 0], .int .i64 3]) (by simp [results, Tryz.results33, go_sem]) rfl ⟨rfl, ?_⟩
  exact ((Below.refl _ _).alloc (Nat.le_refl _) _).alloc (by simp) _
set_option maxRecDepth 100000 in
set_option maxHeartbeats 4000000 in
theorem rfeed_ok (b : Nat) (R : Ref) (i : Nat) (s : ByteArray) (w : World) (h : MemR w b R) (hs : s.size ≤ 2000) (hi : i < R.srcs.length) (al : ByteArray) (hal : al = R.srcs[i].rest ++ s) (hbig : al.size ≤ 1000000000000000) (Inv : Nat → Nat → FedN → Ref → Prop)
    (h0 : Inv 0 0 ⟨0, 0, 0⟩ R) (hn : ∀ k a f Y, Inv k a f Y → Y.srcs.length = R.srcs.length ∧ a ≤ k)
    (hr : ∀ k a f Y, Inv k a f Y → (0 ≤ f.good ∧ f.good ≤ 1000000000000000) ∧ (0 ≤ f.refused ∧ f.refused ≤ 1000000000000000) ∧ (0 ≤ f.bad ∧ f.bad ≤ 1000000000000000))
    (hskip : ∀ k (hk : k < al.size) a f Y, Inv k a f Y → al[k] ≠ 10 → Inv (k + 1) a f Y)
    (hline : ∀ k (hk : k < al.size) a f Y, Inv k a f Y → al[k] = 10 → ∀ u, MemR u b Y → Calls Tryz.prog 71 #[.pointer (some ⟨b, 0, none⟩), .int .i64 i, .string (al.extract a k)] u fun e w' => ∃ z Z, e = .returned (.int .i64 z) ∧ (z = 0 ∨ z = 1 ∨ z = 2) ∧ Inv (k + 1) (k + 1) (f.plus (fedZ z)) Z ∧ Evo u b Y w' Z) :
    Calls Tryz.prog 33 #[.pointer (some ⟨b, 0, none⟩), .int .i64 i, .string s] w fun e w' => ∃ f a Y, e = .returned (.tuple #[.agg #[.int .i64 (FedN.good f), .int .i64 (FedN.refused f), .int .i64 (FedN.bad f)], .int .i64 0]) ∧ Inv al.size a f Y ∧ ∃ hl : i < Y.srcs.length, Evo w b R w' { Y with srcs := Y.srcs.set i { Y.srcs[i] with rest := al.extract a al.size } } := by
  have hs' : ¬ ((2000 : Int) < (s.size : Int)) := by omega
  have HD : Hid (decide ((i : Int) < 0 ∨ (R.srcs.length : Int) ≤ i) = false) := by show _ = _; simp; omega
  have H : Hid (MemR w b R) := h
  have HI0 : Hid (Inv 0 0 ⟨0, 0, 0⟩ R) := h0
  have HIn : Hid (∀ k a f Y, Inv k a f Y → Y.srcs.length = R.srcs.length ∧ a ≤ k) := hn
  have HIr : Hid (∀ k a f Y, Inv k a f Y → (0 ≤ f.good ∧ f.good ≤ 1000000000000000) ∧ (0 ≤ f.refused ∧ f.refused ≤ 1000000000000000) ∧ (0 ≤ f.bad ∧ f.bad ≤ 1000000000000000)) := hr
  have HKp : Hid (∀ k (hk : k < al.size) a f Y, Inv k a f Y → al[k] ≠ 10 → Inv (k + 1) a f Y) := hskip
  have HTk : Hid (∀ k (hk : k < al.size) a f Y, Inv k a f Y → al[k] = 10 → ∀ u, MemR u b Y → Calls Tryz.prog 71 #[.pointer (some ⟨b, 0, none⟩), .int .i64 i, .string (al.extract a k)] u fun e w' => ∃ z Z, e = .returned (.int .i64 z) ∧ (z = 0 ∨ z = 1 ∨ z = 2) ∧ Inv (k + 1) (k + 1) (f.plus (fedZ z)) Z ∧ Evo u b Y w' Z) := hline
  clear h h0 hn hr hskip hline
  have HAl : Hid (al = R.srcs[i].rest ++ s) := hal
  have hsum : ¬ 9223372036854775807 < R.srcs[i].rest.size + s.size := by
    have e : al.size = R.srcs[i].rest.size + s.size := by rw [hal]; exact ByteArray.size_append
    omega
  clear hal
  obtain ⟨w2, HW2⟩ := hex ((w.alloc (.cells #[.int .i64 0, .int .i64 0, .int .i64 0] 75)).alloc (.cells #[.int .i64 0, .int .i64 0, .int .i64 0] 75))
  obtain ⟨rb, HRb⟩ := hex w.heap.size
  obtain ⟨fb, HFb⟩ := hex (w.heap.size + 1)
  have hrf : rb ≠ fb := by rw [HRb.out, HFb.out]; omega
  have HRw : Hid (w.heap.size ≤ rb ∧ w.heap.size ≤ fb) := by show _ ∧ _; rw [HRb.out, HFb.out]; omega
  have HK2 : Hid (FeedR w w2 b R R rb fb ⟨0, 0, 0⟩) := by
    refine ⟨?_, ⟨?_, fun e => ?_⟩, ⟨?_, fun e => ?_⟩⟩
    · rw [HW2.out]; exact Evo.below H.out (((Below.refl _ _).alloc (Nat.le_refl _) _).alloc (by simp) _)
    · rw [HW2.out, HRb.out]; exact (blk_alloc _ _ _).alloc _
    · have := H.out.fp_lt _ e; have := HRb.out; omega
    · rw [HW2.out, HFb.out]; have := blk_alloc (w.alloc (.cells #[.int .i64 0, .int .i64 0, .int .i64 0] 75)) [.int .i64 0, .int .i64 0, .int .i64 0] 75; simpa [FedN.vals] using this
    · have := H.out.fp_lt _ e; have := HFb.out; omega
  have c9 := HK2.out.evo.mem.cells.2.1
  have s4 := HK2.out.evo.mem.srcCell i 4 hi (by omega)
  simp only [RSrc.vals, List.getElem?_cons_zero, List.getElem?_cons_succ] at s4
  have hi' : (i : Int) < (R.srcs.length : Int) := by omega
  have hi00 : (0 : Int) ≤ (i : Int) := by omega
  go_enter Tryz.func33, Tryz.ntmps33
  go_upto_region 2 with fail
  have hw2 : (w.alloc (.cells #[.int .i64 0, .int .i64 0, .int .i64 0] 75)).alloc (.cells #[.int .i64 0, .int .i64 0, .int .i64 0] 75) = w2 := HW2.out.symm
  rw [hw2, ← HFb.out, ← HRb.out]
  clear hw2 HW2
  go_upto_region 8 with (go_at_call 41; refine (rnone_any b R i _ HK2.out.evo.mem).mono ?_; rintro e w' ⟨rfl, rfl⟩; rw [HD.out])
  rw [← HAl.out]
  clear HAl s4 c9
  go_upto_region 10 with fail
  go_loopw [11, 12] (fun x v wr => ∃ (a k : Nat) (f : FedN) (Y : Ref), k ≤ al.size ∧ x = .int .i64 a ∧ v = .int .i64 k ∧ Inv k a f Y ∧ FeedR w wr b R Y rb fb f) (fun _ v _ => al.size - (intOf v).toNat)
  case atStart => exact ⟨0, 0, ⟨0, 0, 0⟩, R, Nat.zero_le _, rfl, rfl, HI0.out, HK2.out⟩
  case round =>
    obtain ⟨a, k, f, Y, hk, rfl, rfl, hinv, hfk⟩ := hrel
    have HV : Hid (Inv k a f Y) := hinv
    have HF : Hid (FeedR w wr b R Y rb fb f) := hfk
    have hl : i < Y.srcs.length := by rw [(HIn.out k a f Y hinv).1]; exact hi
    have hak := (HIn.out k a f Y hinv).2
    clear hinv hfk
    by_cases hlt : k < al.size
    · have hlt' : (k : Int) < (al.size : Int) := by omega
      have hk0 : (0 : Int) ≤ (k : Int) := by omega
      by_cases hc : al[k] = 10
      · have hcb : (al[k].toNat : Int) = 10 := by rw [hc]; rfl
        have HT := HTk.out k hlt a f Y HV.out hc
        have ha0 : (0 : Int) ≤ (a : Int) := by omega
        have hak' : (a : Int) ≤ (k : Int) := by omega
        go_upto_region 15 with (go_at_call 71; refine (HT _ HF.out.evo.mem).mono ?_; rintro e w3 ⟨z, Z, rfl, hz, hiv, hev⟩)
        have HV3 : Hid (Inv (k + 1) (k + 1) (f.plus (fedZ z)) Z) := hiv
        have HF3 : Hid (FeedR w w3 b R Z rb fb f) := HF.out.step hev
        clear hiv hev HT
        have x0 := HF3.out.box.blk.cell 0
        have u0 := HF3.out.box.blk.frozen 0
        have x1 := HF3.out.box.blk.cell 1
        have u1 := HF3.out.box.blk.frozen 1
        have x2 := HF3.out.box.blk.cell 2
        have u2 := HF3.out.box.blk.frozen 2
        simp only [FedN.vals, List.getElem?_cons_zero, List.getElem?_cons_succ] at x0 x1 x2
        have hrg := HIr.out _ _ _ _ HV3.out
        simp only [FedN.plus] at hrg
        rcases hz with rfl | rfl | rfl
        · have hw : 0 ≤ f.good + 1 ∧ f.good + 1 ≤ 1000000000000000 := by have := hrg.1; simpa [fedZ] using this
          go_wp2
          exact ⟨⟨k + 1, k + 1, f.plus (fedZ 0), Z, by omega, by simp, by simp, HV3.out, HF3.out.add hrf HRw.out.2 0 _ _ (by simp [FedN.plus, fedZ, FedN.vals])⟩, by simp [intOf]; omega⟩
        · have hw : 0 ≤ f.refused + 1 ∧ f.refused + 1 ≤ 1000000000000000 := by have := hrg.2.1; simpa [fedZ] using this
          go_wp2
          exact ⟨⟨k + 1, k + 1, f.plus (fedZ 1), Z, by omega, by simp, by simp, HV3.out, HF3.out.add hrf HRw.out.2 1 _ _ (by simp [FedN.plus, fedZ, FedN.vals])⟩, by simp [intOf]; omega⟩
        · have hw : 0 ≤ f.bad + 1 ∧ f.bad + 1 ≤ 1000000000000000 := by have := hrg.2.2; simpa [fedZ] using this
          go_wp2
          exact ⟨⟨k + 1, k + 1, f.plus (fedZ 2), Z, by omega, by simp, by simp, HV3.out, HF3.out.add hrf HRw.out.2 2 _ _ (by simp [FedN.plus, fedZ, FedN.vals])⟩, by simp [intOf]; omega⟩
      · have hcb : ((al[k].toNat : Int) != 10) = true := by
          simp only [bne_iff_ne, ne_eq]
          intro e
          have e' : al[k].toNat = 10 := by omega
          exact hc (UInt8.toNat_inj.1 (by rw [e']; rfl))
        go_wp2
        exact ⟨⟨a, k + 1, f, Y, by omega, rfl, by simp, HKp.out k hlt a f Y HV.out hc, HF.out⟩, by simp [intOf]; omega⟩
    · obtain rfl : k = al.size := by omega
      have ha0 : (0 : Int) ≤ (a : Int) := by omega
      have hak' : (a : Int) ≤ (al.size : Int) := by omega
      have hl' : (i : Int) < (Y.srcs.length : Int) := by omega
      have c9 := HF.out.evo.mem.cells.2.1
      have f4 := HF.out.evo.mem.srcFrozen (i * 5 + 4) (by omega)
      have s4 := HF.out.evo.mem.srcCell i 4 hl (by omega)
      simp only [RSrc.vals, List.getElem?_cons_zero, List.getElem?_cons_succ] at s4
      go_upto_region 20 with fail
      refine upTo_region (fun u => u.cell? ⟨b, 9, none⟩ = some (.slice (some ⟨Y.sg, 0, none⟩) Y.srcs.length Y.sc)) 10 11 rfl (by kernel_rfl) ?_
      have hS0 : (fun u : World => u.cell? ⟨b, 9, none⟩ = some (.slice (some ⟨Y.sg, 0, none⟩) Y.srcs.length Y.sc)) wr.drew := c9
      refine upTo_tk (i := 0) (v := ?v55_0) rfl (by kernel_rfl) (fun _ _ _ h => h) (by rfl) hS0 ?h55_0 ?r55_0
      case h55_0 => (intro u hu; (try dsimp only at hu); go_simp; first | done | with_reducible rfl)
      (try simp only [Act.put, tkS])
      refine upTo_tk (i := 1) (v := ?v55_1) rfl (by kernel_rfl) (fun _ _ _ h => h) (by rfl) hS0 ?h55_1 ?r55_1
      case h55_1 => (intro u hu; (try dsimp only at hu); go_simp; first | done | with_reducible rfl)
      (try simp only [Act.put, tkS])
      refine upTo_tk (i := 2) (v := ?v55_2) rfl (by kernel_rfl) (fun _ _ _ h => h) (by rfl) hS0 ?h55_2 ?r55_2
      case h55_2 => (intro u hu; (try dsimp only at hu); go_simp; first | done | with_reducible rfl)
      (try simp only [Act.put, tkS])
      refine upTo_tk (i := 3) (v := ?v55_3) rfl (by kernel_rfl) (fun _ _ _ h => h) (by rfl) hS0 ?h55_3 ?r55_3
      case h55_3 => (intro u hu; (try dsimp only at hu); go_simp; first | done | with_reducible rfl)
      (try simp only [Act.put, tkS])
      refine upTo_tk (i := 4) (v := ?v55_4) rfl (by kernel_rfl) (fun _ _ _ h => h) (by rfl) hS0 ?h55_4 ?r55_4
      case h55_4 => (intro u hu; (try dsimp only at hu); go_simp; first | done | with_reducible rfl)
      (try simp only [Act.put, tkS])
      refine upTo_tk (i := 5) (v := ?v55_5) rfl (by kernel_rfl) (fun _ _ _ h => h) (by rfl) hS0 ?h55_5 ?r55_5
      case h55_5 => (intro u hu; (try dsimp only at hu); go_simp; first | done | with_reducible rfl)
      (try simp only [Act.put, tkS])
      refine upTo_tk (i := 6) (v := ?v55_6) rfl (by kernel_rfl) (fun _ _ _ h => h) (by rfl) hS0 ?h55_6 ?r55_6
      case h55_6 => (intro u hu; (try dsimp only at hu); go_simp; first | done | with_reducible rfl)
      (try simp only [Act.put, tkS])
      refine upTo_tk (i := 7) (v := ?v55_7) rfl (by kernel_rfl) (fun _ _ _ h => h) (by rfl) hS0 ?h55_7 ?r55_7
      case h55_7 => (intro u hu; (try dsimp only at hu); go_simp; first | done | with_reducible rfl)
      (try simp only [Act.put, tkS])
      refine upTo_one (i := 8) (by kernel_rfl) rfl (fun K hK => ?_)
      go_simp
      refine hK.out _ _ (fun _ => c9) ?_
      clear hK K
      (try simp only [Act.put, tkS])
      refine upTo_one (i := 9) (by kernel_rfl) rfl (fun K hK => ?_)
      go_simp
      refine hK.out _ _ (fun _ => c9) ?_
      clear hK K
      (try simp only [Act.put, tkS])
      refine upTo_one (i := 10) (by kernel_rfl) rfl (fun K hK => ?_)
      go_simp
      refine hK.out _ _ (fun h => absurd rfl h) ?_
      clear hK K
      (try simp only [Act.put, tkS])
      refine upTo_done (by kernel_rfl) ?_
      obtain ⟨RZ, HRZ⟩ := hex ({ Y with srcs := Y.srcs.set i { Y.srcs[i] with rest := al.extract a al.size } } : Ref)
      have HFz : Hid (FeedR w (wr.setCell ⟨Y.sg, i * 5 + 4, none⟩ (.string (al.extract a al.size))) b R RZ rb fb f) := by
        show FeedR _ _ _ _ _ _ _ _
        rw [HRZ.out]
        exact HF.out.step (HF.out.evo.mem.setSrcE { Y.srcs[i] with rest := al.extract a al.size } hl 4 (by omega) _ (by simp [RSrc.vals]) ⟨rfl, rfl, rfl⟩ ⟨rfl, rfl, rfl⟩)
      clear c9 f4 s4
      generalize wr.setCell ⟨Y.sg, i * 5 + 4, none⟩ (.string (al.extract a al.size)) = wz at *
      have z0 := HFz.out.res.blk.cell 0
      have y0 := HFz.out.res.blk.frozen 0
      have z1 := HFz.out.res.blk.cell 1
      have y1 := HFz.out.res.blk.frozen 1
      have z2 := HFz.out.res.blk.cell 2
      have y2 := HFz.out.res.blk.frozen 2
      have x0 := HFz.out.box.blk.cell 0
      have x1 := HFz.out.box.blk.cell 1
      have x2 := HFz.out.box.blk.cell 2
      simp only [FedN.vals, List.getElem?_cons_zero, List.getElem?_cons_succ] at z0 z1 z2 x0 x1 x2
      go_wp2
      refine bodyPost_ret (v := .tuple #[.agg #[.int .i64 f.good, .int .i64 f.refused, .int .i64 f.bad], .int .i64 0]) (by simp [results, Tryz.results33, go_sem, z0, z1, z2]) rfl ⟨f, rfl, a, Y, HV.out, hl, ?_⟩
      rw [← HRZ.out]
      exact ((HFz.out.evo.drewE.out HRw.out.1 HFz.out.res.off _).out HRw.out.1 HFz.out.res.off _).out HRw.out.1 HFz.out.res.off _
end Go.Proofs.YtghcololkgeoeabGreat
