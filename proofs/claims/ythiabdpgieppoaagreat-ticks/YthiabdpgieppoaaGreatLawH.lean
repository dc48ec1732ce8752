import Derived.Test.YthiabdpgieppoaaGreatLawG
namespace Go.Proofs.YthiabdpgieppoaaGreat
open Go.RowKit
set_option linter.unusedVariables false
set_option linter.unusedSimpArgs false
attribute [local go_sem ↓] Go.wp_at_zero Go.wp_at_succ

theorem kept_toBelow {S : Nat → Prop} {w a b : World} (hb : Below w.heap.size w a) (k : Kept S a b) (hS : ∀ i, S i → w.heap.size ≤ i) : Below w.heap.size w b :=
  ⟨k.os.trans hb.os, k.tape.trans hb.tape, k.output.trans hb.output, Nat.le_trans hb.size k.size, fun i hi => (k.block i (Nat.lt_of_lt_of_le hi hb.size) (fun e => by have := hS i e; omega)).trans (hb.block i hi)⟩
theorem newEng_sane {c : Cfg} {n sg sc : Nat} (hn : n ≤ 6) : SaneX (newEng c n sg sc) := by
  refine ⟨?_, ?_, ?_, ?_, ?_⟩
  · show (List.replicate n zP).length ≤ 6
    rw [List.length_replicate]; exact hn
  · show ([] : List Ev).length ≤ 1000; simp
  · show ([] : List Ev).length ≤ 1000; simp
  · show ([] : List Ev).length ≤ 1000; simp
  · intro e he
    exact absurd (show e ∈ ([] : List Ev) from he) (by simp)
def cfgA : Cfg := ⟨1, 0, 0, 1, 0, ByteArray.empty⟩
def cfgB : Cfg := ⟨1, 0, 0, 0, 0, ByteArray.empty⟩
set_option maxRecDepth 100000 in
set_option maxHeartbeats 4000000 in
theorem alive_true (w : World) : Calls Tryz.prog 10 #[] w fun e w' => e = .returned (.bool true) ∧ Below w.heap.size w w' := by
  have hA : Hid (∀ w, Calls Tryz.prog 11 #[.agg #[.int .i64 1, .int .i64 0, .int .i64 0, .int .i64 1, .int .i64 0, .string ByteArray.empty]] w fun e w' => ∃ b sg sc, e = .returned (.tuple #[.pointer (some ⟨b, 0, none⟩), .int .i64 0]) ∧ MemX w' b (newEng cfgA 1 sg sc) ∧ (∀ k, some k ∈ (newEng cfgA 1 sg sc).fp b → w.heap.size ≤ k) ∧ Below w.heap.size w w') :=
    fun w => xnew_ok 1 cfgA w rfl ⟨by decide, by decide, by decide, by decide, by decide, by decide, by decide, by decide, by decide, by decide⟩ (by decide) (Or.inl rfl)
  have hB : Hid (∀ w, Calls Tryz.prog 11 #[.agg #[.int .i64 1, .int .i64 0, .int .i64 0, .int .i64 0, .int .i64 0, .string ByteArray.empty]] w fun e w' => e = .returned (.tuple #[.pointer none, .int .i64 1]) ∧ Below w.heap.size w w') :=
    fun w => xnew_config cfgB w (fun h => by have := h.2.2.2.2.2.2.1; revert this; decide)
  go_enter Tryz.func10, Tryz.ntmps10
  go_upto_region 2 with (go_at_call 11; refine (hA.out _).mono ?_; rintro e w1 ⟨b, sg, sc, rfl, hM1, hf1, hb1⟩)
  have HM1 : Hid (MemX w1 b (newEng cfgA 1 sg sc)) := hM1
  have HF1 : Hid (∀ k, some k ∈ (newEng cfgA 1 sg sc).fp b → w.heap.size ≤ k) := hf1
  have HB1 : Hid (Below w.heap.size w w1) := hb1
  clear hM1 hf1 hb1
  go_upto_region 5 with (go_at_call 11; refine (hB.out _).mono ?_; rintro e w2 ⟨rfl, hb2⟩)
  have HB2 : Hid (Below w1.heap.size w1 w2) := hb2
  clear hb2
  have HM2 : Hid (MemX w2 b (newEng cfgA 1 sg sc)) := HM1.out.below HB2.out
  have HBw : Hid (Below w.heap.size w w2) := HB1.out.trans (HB2.out.mono HB1.out.size)
  have HSn : Hid (SaneX (newEng cfgA 1 sg sc)) := newEng_sane (by omega)
  have hl : Hid (0 < (newEng cfgA 1 sg sc).srcs.length) := by show 0 < (List.replicate 1 zP).length; simp
  go_wp2_with (first
    | (go_at_call 16; refine (xleave_out b (newEng cfgA 1 sg sc) 0 _ HM2.out hl.out rfl).mono ?_; rintro e w3 ⟨rfl, rfl⟩)
    | (go_at_call 14; refine (xjoin_ok b (newEng cfgA 1 sg sc) 0 _ HM2.out HSn.out hl.out rfl).mono ?_; rintro e w4 ⟨rfl, ga, gc, wa, wc, hev⟩))
  go_ret
  exact ⟨rfl, kept_toBelow HBw.out hev.kept HF1.out⟩
theorem Cfg.agg_eq (c : Cfg) : c.agg = .agg #[.int .i64 c.sources, .int .i64 c.slack, .int .i64 c.policy, .int .i64 c.room, .int .i64 c.idle, .string c.pat] := rfl
/-- a configuration that makes an engine -/
def Cfg.ok (c : Cfg) : Prop := c.fits ∧ c.pat.data.toList.length ≤ 60 ∧ wholeP c.pat.data.toList
set_option maxRecDepth 100000 in
set_option maxHeartbeats 4000000 in
theorem begun_bad (c : Cfg) (w : World) (hs : c.pat.size ≤ maxLen) (hb : ¬ c.ok) : Calls Tryz.prog 7 #[c.agg] w fun e w' => e = .returned (.tuple #[.pointer none, .bool true]) ∧ Below w.heap.size w w' := by
  obtain ⟨z, HZ0, HX, HR⟩ : ∃ z : Int, (z != 0) = true ∧ Hid (∀ w, Calls Tryz.prog 11 #[c.agg] w fun e w' => e = .returned (.tuple #[.pointer none, .int .i64 z]) ∧ Below w.heap.size w w') ∧ Hid (∀ w, Calls Tryz.prog 12 #[c.agg] w fun e w' => e = .returned (.tuple #[.pointer none, .int .i64 z]) ∧ Below w.heap.size w w') := by
    by_cases hf : c.fits
    · have hp : ¬ (c.pat.data.toList.length ≤ 60 ∧ wholeP c.pat.data.toList) := fun h => hb ⟨hf, h⟩
      exact ⟨2, rfl, fun w => xnew_pattern c w hs hf hp, fun w => rnew_pattern c w hs hf hp⟩
    · exact ⟨1, rfl, fun w => xnew_config c w hf, fun w => rnew_config c w hf⟩
  have hz0 : (z == 0) = false := by simpa using HZ0
  clear hb hs
  have HB0 : Hid (Below w.heap.size w (w.alloc (.cells c.vals.toArray 23))) := (Below.refl _ _).alloc (Nat.le_refl _) _
  have HX0 : Hid (Blk (w.alloc (.cells c.vals.toArray 23)) w.heap.size 23 c.vals) := blk_alloc _ _ _
  rw [Cfg.agg_eq] at HX HR
  unfold Cfg.agg
  go_enter Tryz.func7, Tryz.ntmps7
  go_upto_region 2 with (go_at_call 10; refine (alive_true _).mono ?_; rintro e w1 ⟨rfl, hb1⟩)
  have HB1 : Hid (Below (w.alloc (.cells c.vals.toArray 23)).heap.size (w.alloc (.cells c.vals.toArray 23)) w1) := hb1
  clear hb1
  have HX1 : Hid (Blk w1 w.heap.size 23 c.vals) := HX0.out.below HB1.out (by simp)
  have HBw1 : Hid (Below w.heap.size w w1) := HB0.out.trans (HB1.out.mono (by simp))
  have c0 := HX1.out.cell 0
  have c1 := HX1.out.cell 1
  have c2 := HX1.out.cell 2
  have c3 := HX1.out.cell 3
  have c4 := HX1.out.cell 4
  have c5 := HX1.out.cell 5
  simp only [Cfg.vals, List.getElem?_cons_succ, List.getElem?_cons_zero] at c0 c1 c2 c3 c4 c5
  go_upto_region 3 with (go_at_call 11; refine (HX.out _).mono ?_; rintro e w2 ⟨rfl, hb2⟩)
  have HB2 : Hid (Below w1.heap.size w1 w2) := hb2
  clear hb2 c0 c1 c2 c3 c4 c5
  have HX2 : Hid (Blk w2 w.heap.size 23 c.vals) := HX1.out.below HB2.out HX1.out.lt
  have c0 := HX2.out.cell 0
  have c1 := HX2.out.cell 1
  have c2 := HX2.out.cell 2
  have c3 := HX2.out.cell 3
  have c4 := HX2.out.cell 4
  have c5 := HX2.out.cell 5
  simp only [Cfg.vals, List.getElem?_cons_succ, List.getElem?_cons_zero] at c0 c1 c2 c3 c4 c5
  go_wp2_with (first
    | (go_at_call 12; refine (HR.out _).mono ?_; rintro e w3 ⟨rfl, hb3⟩)
    | (go_at_call 13; refine (num_any _ _).mono ?_; rintro e w' ⟨rfl, rfl⟩))
  go_ret2
  exact ⟨rfl, (HBw1.out.trans (HB2.out.mono HBw1.out.size)).trans (hb3.mono (Nat.le_trans HBw1.out.size HB2.out.size))⟩
set_option maxRecDepth 100000 in
set_option maxHeartbeats 4000000 in
theorem begun_ok (c : Cfg) (w : World) (hok : c.ok) : Calls Tryz.prog 7 #[c.agg] w fun e w' => ∃ wb xb rb X R, e = .returned (.tuple #[.pointer (some ⟨wb, 0, none⟩), .bool true]) ∧ WInv w' wb xb rb X R none 0 [] ∧ Sim X R ∧ Good 0 R ∧ Below w.heap.size w w' ∧ w.heap.size ≤ wb ∧ (∀ k, some k ∈ X.fp xb → w.heap.size ≤ k) ∧ (∀ k, some k ∈ R.fp rb → w.heap.size ≤ k) := by
  obtain ⟨n, hn⟩ : ∃ n : Nat, c.sources = n := ⟨c.sources.toNat, by have := hok.1.1; omega⟩
  have HX : Hid (∀ w, Calls Tryz.prog 11 #[c.agg] w fun e w' => ∃ b sg sc, e = .returned (.tuple #[.pointer (some ⟨b, 0, none⟩), .int .i64 0]) ∧ MemX w' b (newEng c n sg sc) ∧ (∀ k, some k ∈ (newEng c n sg sc).fp b → w.heap.size ≤ k) ∧ Below w.heap.size w w') := fun w => xnew_ok n c w hn hok.1 hok.2.1 hok.2.2
  have HR : Hid (∀ w, Calls Tryz.prog 12 #[c.agg] w fun e w' => ∃ b pa pc sg, e = .returned (.tuple #[.pointer (some ⟨b, 0, none⟩), .int .i64 0]) ∧ MemR w' b (newRef c n pa pc sg) ∧ (∀ k, some k ∈ (newRef c n pa pc sg).fp b → w.heap.size ≤ k) ∧ Below w.heap.size w w') := fun w => rnew_ok n c w hn hok.1 hok.2.1 hok.2.2
  have HF : Hid (c.fits ∧ c.sources = n) := ⟨hok.1, hn⟩
  clear hok hn
  have HB0 : Hid (Below w.heap.size w (w.alloc (.cells c.vals.toArray 23))) := (Below.refl _ _).alloc (Nat.le_refl _) _
  have HX0 : Hid (Blk (w.alloc (.cells c.vals.toArray 23)) w.heap.size 23 c.vals) := blk_alloc _ _ _
  rw [Cfg.agg_eq] at HX HR
  unfold Cfg.agg
  go_enter Tryz.func7, Tryz.ntmps7
  go_upto_region 2 with (go_at_call 10; refine (alive_true _).mono ?_; rintro e w1 ⟨rfl, hb1⟩)
  have HB1 : Hid (Below (w.alloc (.cells c.vals.toArray 23)).heap.size (w.alloc (.cells c.vals.toArray 23)) w1) := hb1
  clear hb1
  have HX1 : Hid (Blk w1 w.heap.size 23 c.vals) := HX0.out.below HB1.out (by simp)
  have HBw1 : Hid (Below w.heap.size w w1) := HB0.out.trans (HB1.out.mono (by simp))
  have c0 := HX1.out.cell 0
  have c1 := HX1.out.cell 1
  have c2 := HX1.out.cell 2
  have c3 := HX1.out.cell 3
  have c4 := HX1.out.cell 4
  have c5 := HX1.out.cell 5
  simp only [Cfg.vals, List.getElem?_cons_succ, List.getElem?_cons_zero] at c0 c1 c2 c3 c4 c5
  go_upto_region 3 with (go_at_call 11; refine (HX.out _).mono ?_; rintro e w2 ⟨xb, xg, xc, rfl, hm2, hf2, hb2⟩)
  have HB2 : Hid (Below w1.heap.size w1 w2) := hb2
  have HM2 : Hid (MemX w2 xb (newEng c n xg xc)) := hm2
  have HF2 : Hid (∀ k, some k ∈ (newEng c n xg xc).fp xb → w1.heap.size ≤ k) := hf2
  clear hb2 hm2 hf2 c0 c1 c2 c3 c4 c5
  have HX2 : Hid (Blk w2 w.heap.size 23 c.vals) := HX1.out.below HB2.out HX1.out.lt
  have c0 := HX2.out.cell 0
  have c1 := HX2.out.cell 1
  have c2 := HX2.out.cell 2
  have c3 := HX2.out.cell 3
  have c4 := HX2.out.cell 4
  have c5 := HX2.out.cell 5
  simp only [Cfg.vals, List.getElem?_cons_succ, List.getElem?_cons_zero] at c0 c1 c2 c3 c4 c5
  go_upto_region 4 with (go_at_call 12; refine (HR.out _).mono ?_; rintro e w3 ⟨rb, pa, pc, rg, rfl, hm3, hf3, hb3⟩)
  have HB3 : Hid (Below w2.heap.size w2 w3) := hb3
  have HM3 : Hid (MemR w3 rb (newRef c n pa pc rg)) := hm3
  have HF3 : Hid (∀ k, some k ∈ (newRef c n pa pc rg).fp rb → w2.heap.size ≤ k) := hf3
  clear hb3 hm3 hf3 c0 c1 c2 c3 c4 c5
  go_wp2_with (go_at_call 13; refine (num_any _ _).mono ?_; rintro e w' ⟨rfl, rfl⟩)
  go_ret2
  have hx3 := HM2.out.below HB3.out
  have hz1 := HBw1.out.size
  have hz2 := HB2.out.size
  have hz3 := HB3.out.size
  have hfx := HM2.out.fp_lt
  have hfr := HM3.out.fp_lt
  have hbel : Below w.heap.size w w3 := (HBw1.out.trans (HB2.out.mono hz1)).trans (HB3.out.mono (by omega))
  have hsg := sim_new (X := newEng c n xg xc) (R := newRef c n pa pc rg) (n := n) (p := zP) rfl rfl rfl ⟨rfl, rfl, rfl, rfl, rfl, rfl⟩ rfl rfl rfl rfl rfl rfl rfl HF.out.2.symm HF.out.1
  refine ⟨w3.heap.size, xb, rb, newEng c n xg xc, newRef c n pa pc rg, rfl, ⟨?_, hx3.alloc _, HM3.out.alloc _, ⟨Row.nil _ _ _, by simp⟩, by simp [bk], by simp [lfp], by simp [bk], ?_, ?_, ?_, ?_, ?_⟩, hsg.1, hsg.2, hbel.alloc (by omega) _, by omega, fun k hk => by have := HF2.out k hk; omega, fun k hk => by have := HF3.out k hk; omega⟩
  · exact blk_alloc w3 [.pointer (some ⟨xb, 0, none⟩), .pointer (some ⟨rb, 0, none⟩), .slice none 0 0, .slice none 0 0, .slice none 0 0] _
  · intro f; have := hfx _ f; omega
  · intro f; have := hfr _ f; omega
  · intro k hk f; have := hfx k hk; have := HF3.out k f; omega
  · intro k hk; exact ⟨by simp [bk], by simp [lfp]⟩
  · intro k hk; exact ⟨by simp [bk], by simp [lfp]⟩
end Go.Proofs.YthiabdpgieppoaaGreat
