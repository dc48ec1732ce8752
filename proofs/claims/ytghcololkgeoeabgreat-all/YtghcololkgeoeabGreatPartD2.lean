import Derived.Test.YtghcololkgeoeabGreatPartD1
import Derived.Test.YtghcololkgeoeabGreatPartB1
import Derived.Test.YtghcololkgeoeabGreatPartC4
namespace Go.Proofs.YtghcololkgeoeabGreat
open Go.RowKit
set_option linter.unusedVariables false
set_option linter.unusedSimpArgs false
attribute [local go_sem ↓] Go.wp_at_zero Go.wp_at_succ

theorem newEng_sane {c : Cfg} {n sg sc : Nat} {p : PatV} (hn : n ≤ 6) : SaneX (newEng c n sg sc p) := by
  refine ⟨?_, ?_, ?_, ?_, ?_⟩
  · show (List.replicate n zP).length ≤ 6
    rw [List.length_replicate]; exact hn
  · show ([] : List Ev).length ≤ 1000; simp
  · show ([] : List Ev).length ≤ 1000; simp
  · show ([] : List Ev).length ≤ 1000; simp
  · intro e he
    exact absurd (show e ∈ ([] : List Ev) from he) (by simp)
def cfgA : Cfg := ⟨1, 0, 0, 1, 0, ByteArray.empty⟩
def cfgB : Cfg := ⟨1, 0, 0, 0, 0, ByteArray.empty⟩
set_option maxRecDepth 100000 in
set_option maxHeartbeats 4000000 in
theorem alive_true (w : World) : Calls Tryz.prog 9 #[] w fun e w' => e = .returned (.bool true) ∧ Below w.heap.size w w' := by
  have hA : Hid (∀ w, Calls Tryz.prog 10 #[.agg #[.int .i64 1, .int .i64 0, .int .i64 0, .int .i64 1, .int .i64 0, .string ByteArray.empty]] w fun e w' => ∃ b sg sc p, e = .returned (.tuple #[.pointer (some ⟨b, 0, none⟩), .int .i64 0]) ∧ MemX w' b (newEng cfgA 1 sg sc p) ∧ (∀ k, some k ∈ (newEng cfgA 1 sg sc p).fp b → w.heap.size ≤ k) ∧ Below w.heap.size w w') :=
    fun w => xnew_ok 1 cfgA w rfl ⟨by decide, by decide, by decide, by decide, by decide, by decide, by decide, by decide, by decide, by decide⟩ (by decide) (Or.inl rfl)
  have hB : Hid (∀ w, Calls Tryz.prog 10 #[.agg #[.int .i64 1, .int .i64 0, .int .i64 0, .int .i64 0, .int .i64 0, .string ByteArray.empty]] w fun e w' => e = .returned (.tuple #[.pointer none, .int .i64 1]) ∧ Below w.heap.size w w') :=
    fun w => xnew_config cfgB w (fun h => by have := h.2.2.2.2.2.2.1; revert this; decide)
  go_enter Tryz.func9, Tryz.ntmps9
  go_upto_region 2 with (go_at_call 10; refine (hA.out _).mono ?_; rintro e w1 ⟨b, sg, sc, pv, rfl, hM1, hf1, hb1⟩)
  have HM1 : Hid (MemX w1 b (newEng cfgA 1 sg sc pv)) := hM1
  have HF1 : Hid (∀ k, some k ∈ (newEng cfgA 1 sg sc pv).fp b → w.heap.size ≤ k) := hf1
  have HB1 : Hid (Below w.heap.size w w1) := hb1
  clear hM1 hf1 hb1
  go_upto_region 5 with (go_at_call 10; refine (hB.out _).mono ?_; rintro e w2 ⟨rfl, hb2⟩)
  have HB2 : Hid (Below w1.heap.size w1 w2) := hb2
  clear hb2
  have HM2 : Hid (MemX w2 b (newEng cfgA 1 sg sc pv)) := HM1.out.below HB2.out
  have HBw : Hid (Below w.heap.size w w2) := HB1.out.trans (HB2.out.mono HB1.out.size)
  have HSn : Hid (SaneX (newEng cfgA 1 sg sc pv)) := newEng_sane (by omega)
  have hl : Hid (0 < (newEng cfgA 1 sg sc pv).srcs.length) := by show 0 < (List.replicate 1 zP).length; simp
  go_wp2_with (first
    | (go_at_call 24; refine (xleave_out b (newEng cfgA 1 sg sc pv) 0 _ HM2.out hl.out rfl).mono ?_; rintro e w3 ⟨rfl, rfl⟩)
    | (go_at_call 22; refine (xjoin_ok b (newEng cfgA 1 sg sc pv) 0 _ HM2.out HSn.out hl.out rfl).mono ?_; rintro e w4 ⟨rfl, ga, gc, wa, wc, hev⟩))
  go_ret
  exact ⟨rfl, kept_toBelow HBw.out hev.kept HF1.out⟩
theorem Cfg.agg_eq (c : Cfg) : c.agg = .agg #[.int .i64 c.sources, .int .i64 c.slack, .int .i64 c.policy, .int .i64 c.room, .int .i64 c.idle, .string c.pat] := rfl
def Cfg.ok (c : Cfg) : Prop := c.fits ∧ c.pat.data.toList.length ≤ 60 ∧ wholeP c.pat.data.toList
set_option maxRecDepth 100000 in
set_option maxHeartbeats 4000000 in
theorem begun_bad (c : Cfg) (w : World) (hs : c.pat.size ≤ maxLen) (hb : ¬ c.ok) : Calls Tryz.prog 5 #[c.agg] w fun e w' => e = .returned (.tuple #[.pointer none, .bool true]) ∧ Below w.heap.size w w' := by
  obtain ⟨z, HZ0, HX, HR⟩ : ∃ z : Int, (z != 0) = true ∧ Hid (∀ w, Calls Tryz.prog 10 #[c.agg] w fun e w' => e = .returned (.tuple #[.pointer none, .int .i64 z]) ∧ Below w.heap.size w w') ∧ Hid (∀ w, Calls Tryz.prog 11 #[c.agg] w fun e w' => e = .returned (.tuple #[.pointer none, .int .i64 z]) ∧ Below w.heap.size w w') := by
    by_cases hf : c.fits
    · have hp : ¬ (c.pat.data.toList.length ≤ 60 ∧ wholeP c.pat.data.toList) := fun h => hb ⟨hf, h⟩
      exact ⟨2, rfl, fun w => xnew_pattern c w hs hf hp, fun w => rnew_pattern c w hs hf hp⟩
    · exact ⟨1, rfl, fun w => xnew_config c w hf, fun w => rnew_config c w hf⟩
  have hz0 : (z == 0) = false := by simpa using HZ0
  clear hb hs
  have HB0 : Hid (Below w.heap.size w (w.alloc (.cells c.vals.toArray 27))) := (Below.refl _ _).alloc (Nat.le_refl _) _
  have HX0 : Hid (Blk (w.alloc (.cells c.vals.toArray 27)) w.heap.size 27 c.vals) := blk_alloc _ _ _
  rw [Cfg.agg_eq] at HX HR
  unfold Cfg.agg
  go_enter Tryz.func5, Tryz.ntmps5
  go_upto_region 2 with (go_at_call 9; refine (alive_true _).mono ?_; rintro e w1 ⟨rfl, hb1⟩)
  have HB1 : Hid (Below (w.alloc (.cells c.vals.toArray 27)).heap.size (w.alloc (.cells c.vals.toArray 27)) w1) := hb1
  clear hb1
  have HX1 : Hid (Blk w1 w.heap.size 27 c.vals) := HX0.out.below HB1.out (by simp)
  have HBw1 : Hid (Below w.heap.size w w1) := HB0.out.trans (HB1.out.mono (by simp))
  have c0 := HX1.out.cell 0
  have c1 := HX1.out.cell 1
  have c2 := HX1.out.cell 2
  have c3 := HX1.out.cell 3
  have c4 := HX1.out.cell 4
  have c5 := HX1.out.cell 5
  simp only [Cfg.vals, List.getElem?_cons_succ, List.getElem?_cons_zero] at c0 c1 c2 c3 c4 c5
  go_upto_region 3 with (go_at_call 10; refine (HX.out _).mono ?_; rintro e w2 ⟨rfl, hb2⟩)
  have HB2 : Hid (Below w1.heap.size w1 w2) := hb2
  clear hb2 c0 c1 c2 c3 c4 c5
  have HX2 : Hid (Blk w2 w.heap.size 27 c.vals) := HX1.out.below HB2.out HX1.out.lt
  have c0 := HX2.out.cell 0
  have c1 := HX2.out.cell 1
  have c2 := HX2.out.cell 2
  have c3 := HX2.out.cell 3
  have c4 := HX2.out.cell 4
  have c5 := HX2.out.cell 5
  simp only [Cfg.vals, List.getElem?_cons_succ, List.getElem?_cons_zero] at c0 c1 c2 c3 c4 c5
  go_wp2_with (first
    | (go_at_call 11; refine (HR.out _).mono ?_; rintro e w3 ⟨rfl, hb3⟩)
    | (go_at_call 12; refine (num_any _ _).mono ?_; rintro e w' ⟨rfl, rfl⟩))
  go_ret2
  exact ⟨rfl, (HBw1.out.trans (HB2.out.mono HBw1.out.size)).trans (hb3.mono (Nat.le_trans HBw1.out.size HB2.out.size))⟩
set_option maxRecDepth 100000 in
set_option maxHeartbeats 4000000 in
theorem begun_ok (c : Cfg) (w : World) (hok : c.ok) : Calls Tryz.prog 5 #[c.agg] w fun e w' => ∃ wb xb rb X R, e = .returned (.tuple #[.pointer (some ⟨wb, 0, none⟩), .bool true]) ∧ WInv w' wb xb rb X R none 0 Lz.nil ∧ Sim X R ∧ Good 0 R ∧ Lines 0 X R ∧ Below w.heap.size w w' ∧ w.heap.size ≤ wb ∧ (∀ k, some k ∈ X.fp xb → w.heap.size ≤ k) ∧ (∀ k, some k ∈ R.fp rb → w.heap.size ≤ k) := by
  obtain ⟨n, hn⟩ : ∃ n : Nat, c.sources = n := ⟨c.sources.toNat, by have := hok.1.1; omega⟩
  have HX : Hid (∀ w, Calls Tryz.prog 10 #[c.agg] w fun e w' => ∃ b sg sc p, e = .returned (.tuple #[.pointer (some ⟨b, 0, none⟩), .int .i64 0]) ∧ MemX w' b (newEng c n sg sc p) ∧ (∀ k, some k ∈ (newEng c n sg sc p).fp b → w.heap.size ≤ k) ∧ Below w.heap.size w w') := fun w => xnew_ok n c w hn hok.1 hok.2.1 hok.2.2
  have HR : Hid (∀ w, Calls Tryz.prog 11 #[c.agg] w fun e w' => ∃ b pa pc sg, e = .returned (.tuple #[.pointer (some ⟨b, 0, none⟩), .int .i64 0]) ∧ MemR w' b (newRef c n pa pc sg) ∧ (∀ k, some k ∈ (newRef c n pa pc sg).fp b → w.heap.size ≤ k) ∧ Below w.heap.size w w') := fun w => rnew_ok n c w hn hok.1 hok.2.1 hok.2.2
  have HF : Hid (c.fits ∧ c.sources = n) := ⟨hok.1, hn⟩
  have HW : Hid (wholeP c.pat.data.toList) := hok.2.2
  clear hok hn
  have HB0 : Hid (Below w.heap.size w (w.alloc (.cells c.vals.toArray 27))) := (Below.refl _ _).alloc (Nat.le_refl _) _
  have HX0 : Hid (Blk (w.alloc (.cells c.vals.toArray 27)) w.heap.size 27 c.vals) := blk_alloc _ _ _
  rw [Cfg.agg_eq] at HX HR
  unfold Cfg.agg
  go_enter Tryz.func5, Tryz.ntmps5
  go_upto_region 2 with (go_at_call 9; refine (alive_true _).mono ?_; rintro e w1 ⟨rfl, hb1⟩)
  have HB1 : Hid (Below (w.alloc (.cells c.vals.toArray 27)).heap.size (w.alloc (.cells c.vals.toArray 27)) w1) := hb1
  clear hb1
  have HX1 : Hid (Blk w1 w.heap.size 27 c.vals) := HX0.out.below HB1.out (by simp)
  have HBw1 : Hid (Below w.heap.size w w1) := HB0.out.trans (HB1.out.mono (by simp))
  have c0 := HX1.out.cell 0
  have c1 := HX1.out.cell 1
  have c2 := HX1.out.cell 2
  have c3 := HX1.out.cell 3
  have c4 := HX1.out.cell 4
  have c5 := HX1.out.cell 5
  simp only [Cfg.vals, List.getElem?_cons_succ, List.getElem?_cons_zero] at c0 c1 c2 c3 c4 c5
  go_upto_region 3 with (go_at_call 10; refine (HX.out _).mono ?_; rintro e w2 ⟨xb, xg, xc, pv, rfl, hm2, hf2, hb2⟩)
  have HB2 : Hid (Below w1.heap.size w1 w2) := hb2
  have HM2 : Hid (MemX w2 xb (newEng c n xg xc pv)) := hm2
  have HF2 : Hid (∀ k, some k ∈ (newEng c n xg xc pv).fp xb → w1.heap.size ≤ k) := hf2
  clear hb2 hm2 hf2 c0 c1 c2 c3 c4 c5
  have HX2 : Hid (Blk w2 w.heap.size 27 c.vals) := HX1.out.below HB2.out HX1.out.lt
  have c0 := HX2.out.cell 0
  have c1 := HX2.out.cell 1
  have c2 := HX2.out.cell 2
  have c3 := HX2.out.cell 3
  have c4 := HX2.out.cell 4
  have c5 := HX2.out.cell 5
  simp only [Cfg.vals, List.getElem?_cons_succ, List.getElem?_cons_zero] at c0 c1 c2 c3 c4 c5
  go_upto_region 4 with (go_at_call 11; refine (HR.out _).mono ?_; rintro e w3 ⟨rb, pa, pc, rg, rfl, hm3, hf3, hb3⟩)
  have HB3 : Hid (Below w2.heap.size w2 w3) := hb3
  have HM3 : Hid (MemR w3 rb (newRef c n pa pc rg)) := hm3
  have HF3 : Hid (∀ k, some k ∈ (newRef c n pa pc rg).fp rb → w2.heap.size ≤ k) := hf3
  clear hb3 hm3 hf3 c0 c1 c2 c3 c4 c5
  go_wp2_with (go_at_call 12; refine (num_any _ _).mono ?_; rintro e w' ⟨rfl, rfl⟩)
  go_ret2
  have hx3 := HM2.out.below HB3.out
  have hz1 := HBw1.out.size
  have hz2 := HB2.out.size
  have hz3 := HB3.out.size
  have hfx := HM2.out.fp_lt
  have hfr := HM3.out.fp_lt
  have hbel : Below w.heap.size w w3 := (HBw1.out.trans (HB2.out.mono hz1)).trans (HB3.out.mono (by omega))
  have hsg := sim_new (X := newEng c n xg xc pv) (R := newRef c n pa pc rg) (n := n) (p := zP) rfl rfl rfl ⟨rfl, rfl, rfl, rfl, rfl, rfl⟩ rfl rfl rfl rfl rfl rfl rfl HF.out.2.symm HF.out.1 ⟨fun e he => absurd (show e ∈ ([] : List Ev) from he) (by simp), rfl, rfl, rfl, HW.out⟩
  have newLines : Lines 0 (newEng c n xg xc pv) (newRef c n pa pc rg) := by
    intro i p r hp hr
    have hp : (List.replicate n zP)[i]? = some p := hp
    have hr : (List.replicate n zSrc)[i]? = some r := hr
    rw [List.getElem?_replicate] at hp hr
    split at hp
    · rename_i hi
      rw [if_pos hi] at hr
      simp only [Option.some.injEq] at hp hr
      subst hp hr
      exact ⟨rfl, by simp [zSrc], by simp [zSrc]⟩
    · simp at hp
  refine ⟨w3.heap.size, xb, rb, newEng c n xg xc pv, newRef c n pa pc rg, rfl, ⟨?_, hx3.alloc _, HM3.out.alloc _, LsInv.nil _, by simp [bk], zfp_nil _, by simp [bk], ?_, ?_, ?_, ?_, ?_⟩, hsg.1, hsg.2, newLines, hbel.alloc (by omega) _, by omega, fun k hk => by have := HF2.out k hk; omega, fun k hk => by have := HF3.out k hk; omega⟩
  · exact blk_alloc w3 [.pointer (some ⟨xb, 0, none⟩), .pointer (some ⟨rb, 0, none⟩), .slice none 0 0, .slice none 0 0, .slice none 0 0] _
  · intro f; have := hfx _ f; omega
  · intro f; have := hfr _ f; omega
  · intro k hk f; have := hfx k hk; have := HF3.out k f; omega
  · intro k hk; exact ⟨by simp [bk], zfp_nil _⟩
  · intro k hk; exact ⟨by simp [bk], zfp_nil _⟩
end Go.Proofs.YtghcololkgeoeabGreat
namespace Go.Proofs.YtghcololkgeoeabGreat
open Go.RowKit
set_option linter.unusedVariables false
set_option linter.unusedSimpArgs false

structure PInv (w0 w : World) (wb xb rb : Nat) (X : Eng) (R : Ref) (a : Option Addr) (c : Nat) (l : Lz) : Prop where
  inv : WInv w wb xb rb X R a c l
  bel : Below w0.heap.size w0 w
  nw : w0.heap.size ≤ wb
  nx : ∀ k, some k ∈ X.fp xb → w0.heap.size ≤ k
  nr : ∀ k, some k ∈ R.fp rb → w0.heap.size ≤ k
  na : ∀ k, bk a = some k → w0.heap.size ≤ k
  nz : ∀ k, (bk l.ia = some k ∨ bk l.oa = some k) → w0.heap.size ≤ k
theorem PInv.below {w0 w w' : World} {wb xb rb : Nat} {X : Eng} {R : Ref} {a : Option Addr} {c : Nat} {l : Lz} (h : PInv w0 w wb xb rb X R a c l) (hb : Below w.heap.size w w') : PInv w0 w' wb xb rb X R a c l :=
  ⟨h.inv.below hb, h.bel.trans (hb.mono h.bel.size), h.nw, h.nx, h.nr, h.na, h.nz⟩
theorem PInv.evoX {w0 w w' : World} {wb xb rb : Nat} {X X' : Eng} {R : Ref} {a : Option Addr} {c : Nat} {l : Lz} (h : PInv w0 w wb xb rb X R a c l) (e : EvoX w xb X w' X') : PInv w0 w' wb xb rb X' R a c l :=
  ⟨h.inv.evoX e, kept_toBelow h.bel e.kept h.nx, h.nw, fun k hk => (e.grow k hk).elim (fun f => h.nx k f) (fun f => Nat.le_trans h.bel.size f), h.nr, h.na, h.nz⟩
theorem PInv.evoR {w0 w w' : World} {wb xb rb : Nat} {X : Eng} {R R' : Ref} {a : Option Addr} {c : Nat} {l : Lz} (h : PInv w0 w wb xb rb X R a c l) (e : Evo w rb R w' R') : PInv w0 w' wb xb rb X R' a c l :=
  ⟨h.inv.evoR e, kept_toBelow h.bel e.kept h.nr, h.nw, h.nx, fun k hk => (e.grow k hk).elim (fun f => h.nr k f) (fun f => Nat.le_trans h.bel.size f), h.na, h.nz⟩
theorem PInv.owned {w0 w w' : World} {wb xb rb : Nat} {X : Eng} {R : Ref} {a a' : Option Addr} {c c' : Nat} {l l' : Lz} (h : PInv w0 w wb xb rb X R a c l) (hI : WInv w' wb xb rb X R a' c' l') (hk : Kept (fun k => k = wb ∨ bk a = some k ∨ bk l.ia = some k ∨ bk l.oa = some k) w w') (ha : ∀ k, bk a' = some k → bk a = some k ∨ w.heap.size ≤ k) (hz : ∀ k, (bk l'.ia = some k ∨ bk l'.oa = some k) → (bk l.ia = some k ∨ bk l.oa = some k) ∨ w.heap.size ≤ k) : PInv w0 w' wb xb rb X R a' c' l' :=
  ⟨hI, kept_toBelow h.bel hk (fun i e => by rcases e with e | e | e | e <;> first | (rw [e]; exact h.nw) | exact h.na i e | exact h.nz i (Or.inl e) | exact h.nz i (Or.inr e)), h.nw, h.nx, h.nr, fun k e => (ha k e).elim (fun f => h.na k f) (fun f => Nat.le_trans h.bel.size f), fun k e => (hz k e).elim (fun f => h.nz k f) (fun f => Nat.le_trans h.bel.size f)⟩
structure Both (N : Nat) (X : Eng) (R : Ref) : Prop where
  sim : Sim X R
  good : Good N R
  lines : Lines N X R
theorem Both.sane {N : Nat} {X : Eng} {R : Ref} (h : Both N X R) : SaneX X := saneX_of h.sim h.good
theorem Both.all {N : Nat} {X : Eng} {R : Ref} (h : Both N X R) : R.all.length ≤ 1000 := by have := h.good.all; omega
theorem asks_any (k A : Int) (E : Ev) (S : ByteArray) (N : Nat) (w0 w : World) (wb xb rb : Nat) (X : Eng) (R : Ref) (a : Option Addr) (c : Nat) (l : Lz) (h : PInv w0 w wb xb rb X R a c l) (hb : Both N X R) (hl : l.length ≤ 5000000000000) (hk : 7 ≤ k ∧ k ≤ 10) :
    Calls Tryz.prog 6 #[.pointer (some ⟨wb, 0, none⟩), opVal k A E S] w fun e w' => e = .returned (.bool true) ∧ ∃ a' c' l', l'.length ≤ l.length + 1 ∧ PInv w0 w' wb xb rb X R a' c' l' := by
  have hkk : k = 7 ∨ k = 8 ∨ k = 9 ∨ k = 10 := by omega
  rcases hkk with rfl | rfl | rfl | rfl
  · exact (asks_mark wb xb rb X R a c l A E S w h.inv hb.sim.merged).mono fun e w' ⟨he, hw⟩ => ⟨he, a, c, l, Nat.le_succ _, h.below hw⟩
  · exact (asks_source wb xb rb X R a c l A E S w h.inv hb.sane hb.all (tell_same hb.sim A)).mono fun e w' ⟨he, hw⟩ => ⟨he, a, c, l, Nat.le_succ _, h.below hw⟩
  · exact (asks_log wb xb rb X R a c l A E S w h.inv hb.sane hb.all hb.sim hl).mono fun e w' ⟨he, a', c', E', hI, hkp, ha⟩ => ⟨he, a', c', l.more E', by simp [Lz.more, Lz.length]; omega, h.owned hI (hkp.mono (fun k _ e => e.imp id Or.inl)) ha (fun k e => Or.inl e)⟩
  · exact (asks_late wb xb rb X R a c l A E S w h.inv hb.sane hb.sim.late hl).mono fun e w' ⟨he, a', c', E', hI, hkp, ha⟩ => ⟨he, a', c', l.more E', by simp [Lz.more, Lz.length]; omega, h.owned hI (hkp.mono (fun k _ e => e.imp id Or.inl)) ha (fun k e => Or.inl e)⟩
theorem begun_p (c : Cfg) (w0 w : World) (hb0 : Below w0.heap.size w0 w) (hok : c.ok) : Calls Tryz.prog 5 #[c.agg] w fun e w' => ∃ wb xb rb X R, e = .returned (.tuple #[.pointer (some ⟨wb, 0, none⟩), .bool true]) ∧ PInv w0 w' wb xb rb X R none 0 Lz.nil ∧ Both 0 X R := by
  refine (begun_ok c w hok).mono ?_
  rintro e w' ⟨wb, xb, rb, X, R, he, hI, hs, hg, hl, hb, hw, hx, hr⟩
  have := hb0.size
  exact ⟨wb, xb, rb, X, R, he, ⟨hI, hb0.trans (hb.mono this), by omega, fun k hk => by have := hx k hk; omega, fun k hk => by have := hr k hk; omega, fun k hk => (by cases hk), fun k hk => (by rcases hk with e | e <;> cases e)⟩, ⟨hs, hg, hl⟩⟩
end Go.Proofs.YtghcololkgeoeabGreat
namespace Go.Proofs.YtghcololkgeoeabGreat
open Go.RowKit
set_option linter.unusedVariables false
set_option linter.unusedSimpArgs false

theorem Both.mono {N M : Nat} {X : Eng} {R : Ref} (h : Both N X R) (hm : N ≤ M) : Both M X R := ⟨h.sim, h.good.mono hm, h.lines.frame rfl rfl hm⟩
def PlX (Y X' : Eng) : Prop := ∃ ga gc wa wc, X' = { Y with ga := ga, gc := gc, wa := wa, wc := wc }
theorem both_pl {N : Nat} {X X' : Eng} {R : Ref} (h : Sim X R ∧ Good N R) (hl : Lines N X R) (hp : PlX X X') : Both N X' R := by
  obtain ⟨ga, gc, wa, wc, rfl⟩ := hp
  exact ⟨h.1.pl rfl rfl rfl rfl rfl rfl, h.2, hl.frame rfl rfl (Nat.le_refl _)⟩
theorem evoP_pl {w w' : World} {b : Nat} {X Y : Eng} (h : EvoP w b X w' Y) : ∃ X', PlX Y X' ∧ EvoX w b X w' X' := by
  obtain ⟨ga, gc, wa, wc, h⟩ := h
  exact ⟨_, ⟨ga, gc, wa, wc, rfl⟩, h⟩
theorem index_cases (A : Int) (n : Nat) : (A < 0 ∨ (n : Int) ≤ A) ∨ ∃ i : Nat, A = i ∧ i < n := by
  by_cases h : A < 0 ∨ (n : Int) ≤ A
  · exact Or.inl h
  · exact Or.inr ⟨A.toNat, by omega, by omega⟩
theorem join_pair (N xb rb : Nat) (X : Eng) (R : Ref) (A : Int) (hb : Both N X R) (hN : N ≤ 8000000000000) : ∃ (z : Int) (RX : Eng → Prop) (RR : Ref → Prop),
    (∀ u, MemX u xb X → Calls Tryz.prog 22 #[.pointer (some ⟨xb, 0, none⟩), .int .i64 A] u fun e w' => e = .returned (.int .i64 z) ∧ ∃ X', RX X' ∧ EvoX u xb X w' X') ∧
    (∀ u, MemR u rb R → Calls Tryz.prog 23 #[.pointer (some ⟨rb, 0, none⟩), .int .i64 A] u fun e w' => e = .returned (.int .i64 z) ∧ ∃ R', RR R' ∧ Evo u rb R w' R') ∧ ∀ X' R', RX X' → RR R' → Both (N + 2) X' R' := by
  have hn := hb.sim.n
  rcases index_cases A R.srcs.length with hA | ⟨i, rfl, hi⟩
  · refine ⟨3, (· = X), (· = R), fun u hu => ?_, fun u hu => ?_, ?_⟩
    · exact (xjoin_none xb X A u hu (by rw [hn]; exact hA)).mono fun e w' ⟨he, hw⟩ => ⟨he, X, rfl, hw ▸ EvoX.refl hu⟩
    · exact (rjoin_none rb R A u hu hA).mono fun e w' ⟨he, hw⟩ => ⟨he, R, rfl, hw ▸ Evo.refl hu⟩
    · rintro X' R' rfl rfl; exact hb.mono (by omega)
  · have hx : i < X.srcs.length := by omega
    have hp := List.getElem?_eq_getElem hx
    have hr := List.getElem?_eq_getElem hi
    have s := hb.sim.src i _ _ hp hr
    cases hin : R.srcs[i].inn with
    | true =>
      refine ⟨4, (· = X), (· = R), fun u hu => ?_, fun u hu => ?_, ?_⟩
      · exact (xjoin_in xb X i u hu hx (by rw [s.inn]; exact hin)).mono fun e w' ⟨he, hw⟩ => ⟨he, X, rfl, hw ▸ EvoX.refl hu⟩
      · exact (rjoin_in rb R i u hu hi hin).mono fun e w' ⟨he, hw⟩ => ⟨he, R, rfl, hw ▸ Evo.refl hu⟩
      · rintro X' R' rfl rfl; exact hb.mono (by omega)
    | false =>
      refine ⟨0, PlX (X.joined i X.srcs[i]), (fun R' => ∃ r', JoinOk R i r' R'), fun u hu => ?_, fun u hu => ?_, ?_⟩
      · exact (xjoin_ok xb X i u hu hb.sane hx (by rw [s.inn]; exact hin)).mono fun e w' ⟨he, hw⟩ => ⟨he, evoP_pl hw⟩
      · exact (rjoin_ok N rb R i u hu hb.good.sane (by omega) hi hin).mono fun e w' ⟨he, r', R', hj, hw⟩ => ⟨he, R', ⟨r', hj⟩, hw⟩
      · rintro X' R' hX ⟨r', hj⟩
        have := sim_join hb.sim hb.good hp hj
        exact (both_pl this (hb.lines.frame (joined_lines hp) (join_rests hj) (by omega)) hX).mono (by omega)
theorem leave_pair (N xb rb : Nat) (X : Eng) (R : Ref) (A : Int) (hb : Both N X R) (hN : N ≤ 8000000000000) : ∃ (z : Int) (RX : Eng → Prop) (RR : Ref → Prop),
    (∀ u, MemX u xb X → Calls Tryz.prog 24 #[.pointer (some ⟨xb, 0, none⟩), .int .i64 A] u fun e w' => e = .returned (.int .i64 z) ∧ ∃ X', RX X' ∧ EvoX u xb X w' X') ∧
    (∀ u, MemR u rb R → Calls Tryz.prog 25 #[.pointer (some ⟨rb, 0, none⟩), .int .i64 A] u fun e w' => e = .returned (.int .i64 z) ∧ ∃ R', RR R' ∧ Evo u rb R w' R') ∧ ∀ X' R', RX X' → RR R' → Both (N + 2) X' R' := by
  have hn := hb.sim.n
  rcases index_cases A R.srcs.length with hA | ⟨i, rfl, hi⟩
  · refine ⟨3, (· = X), (· = R), fun u hu => ?_, fun u hu => ?_, ?_⟩
    · exact (xleave_none xb X A u hu (by rw [hn]; exact hA)).mono fun e w' ⟨he, hw⟩ => ⟨he, X, rfl, hw ▸ EvoX.refl hu⟩
    · exact (rleave_none rb R A u hu hA).mono fun e w' ⟨he, hw⟩ => ⟨he, R, rfl, hw ▸ Evo.refl hu⟩
    · rintro X' R' rfl rfl; exact hb.mono (by omega)
  · have hx : i < X.srcs.length := by omega
    have hp := List.getElem?_eq_getElem hx
    have hr := List.getElem?_eq_getElem hi
    have s := hb.sim.src i _ _ hp hr
    cases hin : R.srcs[i].inn with
    | false =>
      refine ⟨4, (· = X), (· = R), fun u hu => ?_, fun u hu => ?_, ?_⟩
      · exact (xleave_out xb X i u hu hx (by rw [s.inn]; exact hin)).mono fun e w' ⟨he, hw⟩ => ⟨he, X, rfl, hw ▸ EvoX.refl hu⟩
      · exact (rleave_out rb R i u hu hi hin).mono fun e w' ⟨he, hw⟩ => ⟨he, R, rfl, hw ▸ Evo.refl hu⟩
      · rintro X' R' rfl rfl; exact hb.mono (by omega)
    | true =>
      refine ⟨0, PlX (X.gone i X.srcs[i]), LeaveOk R i, fun u hu => ?_, fun u hu => ?_, ?_⟩
      · exact (xleave_ok xb X i u hu hb.sane hx (by rw [s.inn]; exact hin)).mono fun e w' ⟨he, hw⟩ => ⟨he, evoP_pl hw⟩
      · exact (rleave_ok N rb R i u hu hb.good.sane hi hin).mono fun e w' ⟨he, R', hj, hw⟩ => ⟨he, R', hj, hw⟩
      · rintro X' R' hX hj
        have := sim_leave hb.sim hb.good hp hj
        exact (both_pl this (hb.lines.frame (gone_lines hp) (leave_rests hj) (by omega)) hX).mono (by omega)
theorem punct_pair (N xb rb : Nat) (X : Eng) (R : Ref) (A ts : Int) (hb : Both N X R) (hN : N ≤ 8000000000000) : ∃ (z : Int) (RX : Eng → Prop) (RR : Ref → Prop),
    (∀ u, MemX u xb X → Calls Tryz.prog 28 #[.pointer (some ⟨xb, 0, none⟩), .int .i64 A, .int .i64 ts] u fun e w' => e = .returned (.int .i64 z) ∧ ∃ X', RX X' ∧ EvoX u xb X w' X') ∧
    (∀ u, MemR u rb R → Calls Tryz.prog 29 #[.pointer (some ⟨rb, 0, none⟩), .int .i64 A, .int .i64 ts] u fun e w' => e = .returned (.int .i64 z) ∧ ∃ R', RR R' ∧ Evo u rb R w' R') ∧ ∀ X' R', RX X' → RR R' → Both (N + 2) X' R' := by
  have hn := hb.sim.n
  rcases index_cases A R.srcs.length with hA | ⟨i, rfl, hi⟩
  · refine ⟨3, (· = X), (· = R), fun u hu => ?_, fun u hu => ?_, ?_⟩
    · exact (xpunct_none xb X A ts u hu (by rw [hn]; exact hA)).mono fun e w' ⟨he, hw⟩ => ⟨he, X, rfl, hw ▸ EvoX.refl hu⟩
    · exact (rpunct_none rb R A ts u hu hA).mono fun e w' ⟨he, hw⟩ => ⟨he, R, rfl, hw ▸ Evo.refl hu⟩
    · rintro X' R' rfl rfl; exact hb.mono (by omega)
  · have hx : i < X.srcs.length := by omega
    have hp := List.getElem?_eq_getElem hx
    have hr := List.getElem?_eq_getElem hi
    have s := hb.sim.src i _ _ hp hr
    cases hin : R.srcs[i].inn with
    | false =>
      refine ⟨4, (· = X), (· = R), fun u hu => ?_, fun u hu => ?_, ?_⟩
      · exact (xpunct_out xb X i ts u hu hx (by rw [s.inn]; exact hin)).mono fun e w' ⟨he, hw⟩ => ⟨he, X, rfl, hw ▸ EvoX.refl hu⟩
      · exact (rpunct_out rb R i ts u hu hi hin).mono fun e w' ⟨he, hw⟩ => ⟨he, R, rfl, hw ▸ Evo.refl hu⟩
      · rintro X' R' rfl rfl; exact hb.mono (by omega)
    | true =>
      cases ht : beyondB ts with
      | true =>
        refine ⟨6, (· = X), (· = R), fun u hu => ?_, fun u hu => ?_, ?_⟩
        · exact (xpunct_time xb X i ts u hu hx (by rw [s.inn]; exact hin) ht).mono fun e w' ⟨he, hw⟩ => ⟨he, X, rfl, hw ▸ EvoX.refl hu⟩
        · exact (rpunct_time rb R i ts u hu hi hin ht).mono fun e w' ⟨he, hw⟩ => ⟨he, R, rfl, hw ▸ Evo.refl hu⟩
        · rintro X' R' rfl rfl; exact hb.mono (by omega)
      | false =>
        refine ⟨0, PlX (X.puncted i X.srcs[i] ts), PunctOk R i ts, fun u hu => ?_, fun u hu => ?_, ?_⟩
        · exact (xpunct_ok xb X i ts u hu hb.sane hx (by rw [s.inn]; exact hin) ht).mono fun e w' ⟨he, hw⟩ => ⟨he, evoP_pl hw⟩
        · exact (rpunct_ok N rb R i ts u hu hb.good.sane (by omega) hi hin ht).mono fun e w' ⟨he, R', hj, hw⟩ => ⟨he, R', hj, hw⟩
        · rintro X' R' hX hj
          have htt : ts ≤ 1099511627776 := by simp [beyondB] at ht; omega
          have := sim_punct hb.sim hb.good hp htt hj
          exact both_pl this (hb.lines.frame (puncted_lines hp) (punct_rests hj) (by omega)) hX
theorem tick_pair (N xb rb : Nat) (X : Eng) (R : Ref) (n : Int) (hb : Both N X R) (hN : N ≤ 8000000000000) : ∃ (z : Int) (RX : Eng → Prop) (RR : Ref → Prop),
    (∀ u, MemX u xb X → Calls Tryz.prog 30 #[.pointer (some ⟨xb, 0, none⟩), .int .i64 n] u fun e w' => e = .returned (.int .i64 z) ∧ ∃ X', RX X' ∧ EvoX u xb X w' X') ∧
    (∀ u, MemR u rb R → Calls Tryz.prog 31 #[.pointer (some ⟨rb, 0, none⟩), .int .i64 n] u fun e w' => e = .returned (.int .i64 z) ∧ ∃ R', RR R' ∧ Evo u rb R w' R') ∧ ∀ X' R', RX X' → RR R' → Both (N + 2) X' R' := by
  by_cases hn : n < 1 ∨ 1000 < n
  · refine ⟨9, (· = X), (· = R), fun u hu => ?_, fun u hu => ?_, ?_⟩
    · exact (xtick_bad xb n u hn).mono fun e w' ⟨he, hw⟩ => ⟨he, X, rfl, hw ▸ EvoX.refl hu⟩
    · exact (rtick_bad rb n u hn).mono fun e w' ⟨he, hw⟩ => ⟨he, R, rfl, hw ▸ Evo.refl hu⟩
    · rintro X' R' rfl rfl; exact hb.mono (by omega)
  · have hsl : ∀ (i : Nat) p, X.srcs[i]? = some p → 0 ≤ p.sil ∧ p.sil ≤ 1000 := by
      intro i p hp
      have hi : i < R.srcs.length := by rw [← hb.sim.n]; exact (List.getElem?_eq_some_iff.1 hp).1
      have s := (hb.sim.src i p _ hp (List.getElem?_eq_getElem hi)).sil
      by_cases hq : R.srcs[i].sil ≤ 1000
      · have := s.2.1 hq; omega
      · have := s.2.2 (by omega); omega
    refine ⟨0, PlX (X.ticked n), (· = R.ticks n), fun u hu => ?_, fun u hu => ?_, ?_⟩
    · exact (xtick_ok xb X n u hu hb.sane (by omega) hsl).mono fun e w' ⟨he, hw⟩ => ⟨he, evoP_pl hw⟩
    · exact (rtick_ok N rb R n u hu hb.good.sane (by omega) (by omega) (by omega)).mono fun e w' ⟨he, hw⟩ => ⟨he, R.ticks n, rfl, hw⟩
    · rintro X' R' hX rfl
      have := sim_tick hb.sim hb.good (n := n) (by omega) (by omega)
      exact (both_pl this (hb.lines.frame (ticked_lines X n) (tick_rests R n) (by omega)) hX).mono (by omega)
end Go.Proofs.YtghcololkgeoeabGreat
