import Derived.Test.YtghcololkgeoeabGreatPartQ3
import Derived.Test.YtghcololkgeoeabGreatPartD3
import Derived.Test.YtghcololkgeoeabGreatPartD4
namespace Go.Proofs.YtghcololkgeoeabGreat
open Go.ChangeShapes Go.WideShapes Go.ChangeAt Go.RowKit
set_option linter.unusedVariables false
set_option linter.unusedSimpArgs false
attribute [local go_sem ↓] Go.wp_at_zero Go.wp_at_succ
def EvS (w : World) (a : Option Addr) (L : List Ev) : Prop := ∀ (i : Nat) (hi : i < L.length), ∃ b off, a = some ⟨b, off, none⟩ ∧ ∀ o, o < 5 → w.cell? ⟨b, off + i * 5 + o, none⟩ = L[i].vals[o]?
theorem bytesEv : Tryz.prog.bytesOf 30 = 40 := by kernel_rfl
section
variable {H : Type} {enc : TypeId × Value → H} {W : World} {sp : Nat → Bool} {hd : Bool} {base : Nat}
set_option maxRecDepth 100000 in
theorem open_evs {base0 : Nat} {r : Reach} {v : Value} {d : DataW H} {p : List MemPlace} (hval : Value.okWide Tryz.prog W r base0 22 v) (h : DataW.Trod enc Tryz.prog W base sp hd 22 v d p)
    (B : Nat) (hsz : ∀ elems spare, d = .slice elems spare → elems.length + spare.length ≤ B) : ∃ (sa : Option Addr) (sc : Nat) (L : List Ev), v = .slice sa L.length sc ∧ EvS W sa L ∧ L.length ≤ B := by
  have hc8 : Tryz.prog.cellsOf 30 = 5 := by kernel_rfl
  obtain ⟨va, vlen, vcap, rfl⟩ := okWide_slice Tryz.underlying22 hval
  obtain ⟨fuel, h⟩ := h
  have hcl : (Value.slice va vlen vcap).cells.toList = [.slice va vlen vcap] := rfl
  rw [hcl] at h
  rcases Go.Deep.open_slice Tryz.underlying22 h with ⟨e, _⟩ | ⟨a, len, cap, m, n, D, Pl, e, hb, hl, hm, hmm, hx, hel⟩
  · simp only [List.cons.injEq, Value.slice.injEq, and_true] at e
    obtain ⟨rfl, rfl, rfl⟩ := e
    exact ⟨none, 0, [], rfl, fun i hi => absurd hi (by simp), by simp⟩
  · simp only [List.cons.injEq, Value.slice.injEq, and_true] at e
    obtain ⟨rfl, rfl, rfl⟩ := e
    have hlm : vlen ≤ m := by rw [hmm]; split <;> omega
    have hlen : vlen ≤ B := by
      have h1 := hsz _ _ (congrArg Prod.fst hx)
      simp only [List.length_map, List.length_range] at h1
      omega
    have hop : ∀ i, ∃ E : Ev, i < vlen → W.cells? base (a.add (i * 5)) 5 = some E.vals := by
      intro i
      by_cases hi : i < vlen
      · obtain ⟨cs', h1, h2⟩ := hel i (by omega)
        obtain ⟨E, hE⟩ := open_ev h2
        rw [hc8, hE] at h1
        exact ⟨E, fun _ => h1⟩
      · exact ⟨⟨0, 0, 0, 0, 0⟩, fun h => absurd h hi⟩
    let f : Nat → Ev := fun i => Classical.choose (hop i)
    have hf : ∀ i, i < vlen → W.cells? base (a.add (i * 5)) 5 = some (f i).vals := fun i hi => Classical.choose_spec (hop i) hi
    refine ⟨some a, vcap, (List.range vlen).map f, by simp, ?_, by simpa using hlen⟩
    intro i hi
    have hi' : i < vlen := by simpa using hi
    have h0 := (World.cells?_some (hf 0 (by omega))).2.2 0 (by omega)
    have hs0 : a.spot = none := by
      have h00 : (f 0).vals[0]? = some (.int .i64 (f 0).src) := rfl
      rw [h00] at h0
      have := World.cell?_spot h0
      simpa [Addr.add] using this
    obtain ⟨ab, ao, asp⟩ := a
    simp only at hs0
    subst hs0
    refine ⟨ab, ao, rfl, fun o ho => ?_⟩
    have h1 := (World.cells?_some (hf i hi')).2.2 o (by omega)
    have e1 : ((⟨ab, ao, none⟩ : Addr).add (i * 5)).add o = ⟨ab, ao + i * 5 + o, none⟩ := by
      rw [Go.WideShapes.add_plain, Go.WideShapes.add_plain]
    rw [e1] at h1
    rw [h1]
    simp
end

set_option maxRecDepth 100000 in
set_option maxHeartbeats 8000000 in
theorem finds_walk (s : ByteArray) (hs : s.size ≤ maxLen) (sa : Option Addr) (sc : Nat) (L : List Ev) (w : World) (hsc : EvS w sa L) (hlen : L.length ≤ 3518437208883) :
    Calls Tryz.prog 3 #[.string s, .slice sa L.length sc] w fun e w' => e = .returned (.bool true) ∧ Below w.heap.size w w' := by
  have HSc : Hid (EvS w sa L) := hsc
  obtain ⟨c, HC⟩ := hex (⟨1, 1000, 2, 32, 0, s⟩ : Cfg)
  clear hsc
  by_cases hok : c.ok
  · have hbg : Calls Tryz.prog 5 #[.agg #[.int .i64 1, .int .i64 1000, .int .i64 2, .int .i64 32, .int .i64 0, .string s]] w fun e w2 => ∃ wb xb rb X R, e = .returned (.tuple #[.pointer (some ⟨wb, 0, none⟩), .bool true]) ∧ PInv w w2 wb xb rb X R none 0 Lz.nil ∧ Both 0 X R := by
      have := begun_p c w w (Below.refl _ _) hok
      rw [HC.out] at this
      exact this
    clear hok
    go_enter Tryz.func3, Tryz.ntmps3
    go_upto_region 4 with (go_at_call 5; refine hbg.mono ?_; rintro e w1 ⟨wb, xb, rb, X0, R0, rfl, hP, hBo⟩)
    have HP0 : Hid (PInv w w1 wb xb rb X0 R0 none 0 Lz.nil) := hP
    have HB0 : Hid (Both 0 X0 R0) := hBo
    clear hP hBo hbg
    have HAs : Hid (∀ (N : Nat) u (X : Eng) (R : Ref) (a : Option Addr) (cc : Nat) (l : Lz), PInv w u wb xb rb X R a cc l → Both N X R → l.length ≤ 30000000000 → Calls Tryz.prog 6 #[.pointer (some ⟨wb, 0, none⟩), .agg #[.int .i64 11, .int .i64 0, .int .i64 0, .int .i64 0, .int .i64 0, .int .i64 0, .int .i64 0, .string ByteArray.empty]] u fun e w' => e = .returned (.bool true) ∧ ∃ a' c' l', l'.length ≤ l.length + 1 ∧ PInv w w' wb xb rb X R a' c' l') := fun N u X R a cc l hp hb hl => asks_found 0 ⟨0, 0, 0, 0, 0⟩ ByteArray.empty N w u wb xb rb X R a cc l hp hb hl
    have HJo : Hid (∀ (N : Nat) u (X : Eng) (R : Ref) (a : Option Addr) (cc : Nat) (l : Lz), PInv w u wb xb rb X R a cc l → Both N X R → N ≤ 8000000000000 → Calls Tryz.prog 7 #[.pointer (some ⟨wb, 0, none⟩), .agg #[.int .i64 1, .int .i64 0, .int .i64 0, .int .i64 0, .int .i64 0, .int .i64 0, .int .i64 0, .string ByteArray.empty]] u fun e w' => e = .returned (.bool true) ∧ ∃ X' R', PInv w w' wb xb rb X' R' a cc l ∧ Both (N + 2) X' R') := fun N u X R a cc l hp hb hN => does_join N w u wb xb rb X R a cc l 0 ⟨0, 0, 0, 0, 0⟩ ByteArray.empty hp hb hN
    have HLe : Hid (∀ (N : Nat) u (X : Eng) (R : Ref) (a : Option Addr) (cc : Nat) (l : Lz), PInv w u wb xb rb X R a cc l → Both N X R → N ≤ 8000000000000 → Calls Tryz.prog 7 #[.pointer (some ⟨wb, 0, none⟩), .agg #[.int .i64 2, .int .i64 0, .int .i64 0, .int .i64 0, .int .i64 0, .int .i64 0, .int .i64 0, .string ByteArray.empty]] u fun e w' => e = .returned (.bool true) ∧ ∃ X' R', PInv w w' wb xb rb X' R' a cc l ∧ Both (N + 2) X' R') := fun N u X R a cc l hp hb hN => does_leave N w u wb xb rb X R a cc l 0 ⟨0, 0, 0, 0, 0⟩ ByteArray.empty hp hb hN
    have HPu : Hid (∀ (E : Ev) (N : Nat) u (X : Eng) (R : Ref) (a : Option Addr) (cc : Nat) (l : Lz), PInv w u wb xb rb X R a cc l → Both N X R → N ≤ 8000000000000 → Calls Tryz.prog 7 #[.pointer (some ⟨wb, 0, none⟩), .agg #[.int .i64 3, .int .i64 0, .int .i64 E.src, .int .i64 E.seq, .int .i64 E.ts, .int .i64 E.kind, .int .i64 E.val, .string ByteArray.empty]] u fun e w' => e = .returned (.bool true) ∧ ∃ X' R', PInv w w' wb xb rb X' R' a cc l ∧ Both (N + 2) X' R') := fun E N u X R a cc l hp hb hN => does_push N w u wb xb rb X R a cc l 0 E ByteArray.empty hp hb hN
    go_upto_region 5 with (go_at_call 6; refine (HAs.out 0 _ X0 R0 none 0 Lz.nil HP0.out HB0.out (by simp [Lz.nil, Lz.length])).mono ?_; rintro e w2 ⟨rfl, a2, c2, l2, hl2, hP2⟩)
    have HP2 : Hid (PInv w w2 wb xb rb X0 R0 a2 c2 l2) := hP2
    have hl2' : l2.length ≤ 1 := hl2
    clear hP2 hl2 HP0
    go_upto_region 8 with (go_at_call 7; refine (HJo.out 0 _ X0 R0 a2 c2 l2 HP2.out HB0.out (by omega)).mono ?_; rintro e w3 ⟨rfl, X3, R3, hP3, hB3⟩)
    have HP3 : Hid (PInv w w3 wb xb rb X3 R3 a2 c2 l2) := hP3
    have HB3 : Hid (Both 2 X3 R3) := hB3
    clear hP3 hB3 HP2 HB0
    go_wp2
    go_loopw [6, 7] (fun kv iv wr => ∃ (i : Nat) (X : Eng) (R : Ref), i ≤ L.length ∧ kv = .bool true ∧ iv = .int .i64 i ∧ PInv w wr wb xb rb X R a2 c2 l2 ∧ Both (2 * i + 4 * (i / 16) + 2) X R) (fun _ iv _ => L.length - (intOf iv).toNat)
    case atStart => exact ⟨0, X3, R3, Nat.zero_le _, rfl, rfl, HP3.out, HB3.out⟩
    case round =>
      clear HP3 HB3
      obtain ⟨i, X, R, hi, rfl, rfl, hP, hBo⟩ := hrel
      have HP : Hid (PInv w wr wb xb rb X R a2 c2 l2) := hP
      have HBo : Hid (Both (2 * i + 4 * (i / 16) + 2) X R) := hBo
      clear hP hBo
      by_cases hlt : i < L.length
      · have hlt' : (i : Int) < (L.length : Int) := by omega
        have hi0 : (0 : Int) ≤ (i : Int) := by omega
        obtain ⟨b, off, hsa, hcs⟩ := HSc.out i hlt
        obtain ⟨E, HE⟩ := hex L[i]
        have hcr : ∀ o, o < 5 → wr.cell? ⟨b, off + i * 5 + o, none⟩ = E.vals[o]? := by
          intro o ho
          have h1 := hcs o ho
          rw [← HE.out] at h1
          obtain ⟨v, hv⟩ : ∃ v, E.vals[o]? = some v := ⟨_, List.getElem?_eq_getElem (show o < E.vals.length from ho)⟩
          rw [hv] at h1 ⊢
          exact (HP.out.bel.cell (p := ⟨b, off + i * 5 + o, none⟩) (World.block_lt_of_cell? w _ h1)).trans h1
        have x0 := hcr 0 (by omega)
        have x1 := hcr 1 (by omega)
        have x2 := hcr 2 (by omega)
        have x3 := hcr 3 (by omega)
        have x4 := hcr 4 (by omega)
        simp only [Ev.vals, List.getElem?_cons_zero, List.getElem?_cons_succ, Nat.add_zero] at x0 x1 x2 x3 x4
        have HSA : Hid (sa = some ⟨b, off, none⟩) := hsa
        rw [hsa]
        clear hsa hcs hcr HE
        go_upto_region 12 with fail
        obtain ⟨v1, HV1⟩ := hex (wr.alloc (.cells #[.int .i64 E.src, .int .i64 E.seq, .int .i64 E.ts, .int .i64 E.kind, .int .i64 E.val] 30))
        rw [← HV1.out]
        obtain ⟨eb, HEb⟩ := hex wr.heap.size
        rw [← HEb.out]
        have HV : Hid (Blk v1 eb 30 [.int .i64 E.src, .int .i64 E.seq, .int .i64 E.ts, .int .i64 E.kind, .int .i64 E.val]) := by show Blk _ _ _ _; rw [HV1.out, HEb.out]; exact blk_alloc wr [.int .i64 E.src, .int .i64 E.seq, .int .i64 E.ts, .int .i64 E.kind, .int .i64 E.val] _
        have HB1 : Hid (Kept (fun k => k = eb) wr v1 ∧ wr.heap.size ≤ eb) := by refine ⟨?_, by rw [HEb.out]; exact Nat.le_refl _⟩; rw [HV1.out]; exact (Kept.refl _ _).alloc _
        clear HV1 HEb x0 x1 x2 x3 x4
        have y1 := HV.out.cell 1
        have f1 := HV.out.frozen 1
        simp only [List.getElem?_cons_zero, List.getElem?_cons_succ] at y1
        go_upto_region 13 with fail
        obtain ⟨v2, HV2⟩ := hex (v1.setCell ⟨eb, 1, none⟩ (.int .i64 i))
        rw [← HV2.out]
        have HW2 : Hid (Blk v2 eb 30 [.int .i64 E.src, .int .i64 i, .int .i64 E.ts, .int .i64 E.kind, .int .i64 E.val]) := by show Blk _ _ _ _; rw [HV2.out]; have := HV.out.set 1 (.int .i64 i); simpa using this
        have HBl2 : Hid (Below wr.heap.size wr v2) := by
          have K : Kept (fun k => k = eb) wr v2 := by rw [HV2.out]; exact HB1.out.1.setCell (fun _ => rfl) _
          have hge := HB1.out.2
          exact ⟨K.os, K.tape, K.output, K.size, fun k hk => K.block k hk (fun e => by omega)⟩
        have HP2 : Hid (PInv w v2 wb xb rb X R a2 c2 l2) := HP.out.below HBl2.out
        clear HV2 y1 f1 HV HB1 HP
        have y0 := HW2.out.cell 0
        have y1 := HW2.out.cell 1
        have y2 := HW2.out.cell 2
        have y3 := HW2.out.cell 3
        have y4 := HW2.out.cell 4
        simp only [List.getElem?_cons_zero, List.getElem?_cons_succ] at y0 y1 y2 y3 y4
        have hpu : Calls Tryz.prog 7 #[.pointer (some ⟨wb, 0, none⟩), .agg #[.int .i64 3, .int .i64 0, .int .i64 E.src, .int .i64 i, .int .i64 E.ts, .int .i64 E.kind, .int .i64 E.val, .string ByteArray.empty]] v2 fun e w' => e = .returned (.bool true) ∧ ∃ X' R', PInv w w' wb xb rb X' R' a2 c2 l2 ∧ Both (2 * i + 4 * (i / 16) + 2 + 2) X' R' := HPu.out ⟨E.src, i, E.ts, E.kind, E.val⟩ (2 * i + 4 * (i / 16) + 2) v2 X R a2 c2 l2 HP2.out HBo.out (by omega)
        go_upto_region 14 with (go_at_call 7; refine hpu.mono ?_; rintro e v3 ⟨rfl, X4, R4, hP4, hB4⟩)
        have HP4 : Hid (PInv w v3 wb xb rb X4 R4 a2 c2 l2) := hP4
        have HB4 : Hid (Both (2 * i + 4 * (i / 16) + 2 + 2) X4 R4) := hB4
        clear hpu hP4 hB4 y0 y1 y2 y3 y4 HW2 HP2 HBl2 HBo
        have htm : (i : Int).tmod 16 = ((i % 16 : Nat) : Int) := by rw [Int.tmod_eq_emod_of_nonneg hi0]; omega
        by_cases h15 : i % 16 = 15
        · have hq : (IntKind.i64.wrap ((i : Int).tmod 16) == 15) = true := by rw [htm, h15, IntKind.wrap_i64]; rfl
          have hq2 : ((i : Int).tmod 16 == 15) = true := by rw [htm, h15]; rfl
          have hdv : (i + 1) / 16 = i / 16 + 1 := by omega
          have HDv : Hid ((i + 1) / 16 = i / 16 + 1) := hdv
          clear hdv h15
          have hle : Calls Tryz.prog 7 #[.pointer (some ⟨wb, 0, none⟩), .agg #[.int .i64 2, .int .i64 0, .int .i64 0, .int .i64 0, .int .i64 0, .int .i64 0, .int .i64 0, .string ByteArray.empty]] v3 fun e w' => e = .returned (.bool true) ∧ ∃ X' R', PInv w w' wb xb rb X' R' a2 c2 l2 ∧ Both (2 * i + 4 * (i / 16) + 2 + 2 + 2) X' R' := HLe.out _ v3 X4 R4 a2 c2 l2 HP4.out HB4.out (by omega)
          go_upto_region 16 with (go_at_call 7; refine hle.mono ?_; rintro e v4 ⟨rfl, X5, R5, hP5, hB5⟩)
          have HP5 : Hid (PInv w v4 wb xb rb X5 R5 a2 c2 l2) := hP5
          have HB5 : Hid (Both (2 * i + 4 * (i / 16) + 2 + 2 + 2) X5 R5) := hB5
          clear hle hP5 hB5 HP4 HB4
          have hjo : Calls Tryz.prog 7 #[.pointer (some ⟨wb, 0, none⟩), .agg #[.int .i64 1, .int .i64 0, .int .i64 0, .int .i64 0, .int .i64 0, .int .i64 0, .int .i64 0, .string ByteArray.empty]] v4 fun e w' => e = .returned (.bool true) ∧ ∃ X' R', PInv w w' wb xb rb X' R' a2 c2 l2 ∧ Both (2 * i + 4 * (i / 16) + 2 + 2 + 2 + 2) X' R' := HJo.out _ v4 X5 R5 a2 c2 l2 HP5.out HB5.out (by omega)
          go_upto_region 17 with (go_at_call 7; refine hjo.mono ?_; rintro e v5 ⟨rfl, X6, R6, hP6, hB6⟩)
          have HP6 : Hid (PInv w v5 wb xb rb X6 R6 a2 c2 l2) := hP6
          have HB6 : Hid (Both (2 * (i + 1) + 4 * ((i + 1) / 16) + 2) X6 R6) := hB6.mono (by rw [HDv.out]; omega)
          clear hjo hP6 hB6 HP5 HB5
          go_wp2
          go_roundw
          case rel => first | exact ⟨i + 1, X6, R6, by omega, rfl, by go_num, HP6.out, HB6.out⟩ | ((repeat apply Exists.intro); exact ⟨⟨i + 1, X6, R6, by omega, rfl, by go_num, HP6.out, HB6.out⟩, rfl⟩)
          case measure => simp [intOf]; omega
        · have hne : ((i % 16 : Nat) : Int) ≠ 15 := by omega
          have hq2 : ((i : Int).tmod 16 == 15) = false := by rw [htm, beq_eq_false_iff_ne]; exact hne
          have hq : (IntKind.i64.wrap ((i : Int).tmod 16) == 15) = false := by rw [htm, beq_eq_false_iff_ne, IntKind.wrap_i64]; omega
          have HB6 : Hid (Both (2 * (i + 1) + 4 * ((i + 1) / 16) + 2) X4 R4) := HB4.out.mono (by omega)
          clear h15 hne HB4
          go_wp2
          go_roundw
          case rel => first | exact ⟨i + 1, X4, R4, by omega, rfl, by go_num, HP4.out, HB6.out⟩ | ((repeat apply Exists.intro); exact ⟨⟨i + 1, X4, R4, by omega, rfl, by go_num, HP4.out, HB6.out⟩, rfl⟩)
          case measure => simp [intOf]; omega
      · have hlt' : ¬ (i : Int) < (L.length : Int) := by omega
        have hltd : decide ((i : Int) < (L.length : Int)) = false := by simpa using hlt'
        have hle : Calls Tryz.prog 7 #[.pointer (some ⟨wb, 0, none⟩), .agg #[.int .i64 2, .int .i64 0, .int .i64 0, .int .i64 0, .int .i64 0, .int .i64 0, .int .i64 0, .string ByteArray.empty]] wr fun e w' => e = .returned (.bool true) ∧ ∃ X' R', PInv w w' wb xb rb X' R' a2 c2 l2 ∧ Both (2 * i + 4 * (i / 16) + 2 + 2) X' R' := HLe.out _ wr X R a2 c2 l2 HP.out HBo.out (by omega)
        go_upto_region 21 with (go_at_call 7; refine hle.mono ?_; rintro e v1 ⟨rfl, X4, R4, hP4, hB4⟩)
        have HP4 : Hid (PInv w v1 wb xb rb X4 R4 a2 c2 l2) := hP4
        have HB4 : Hid (Both (2 * i + 4 * (i / 16) + 2 + 2) X4 R4) := hB4
        clear hle hP4 hB4 HP HBo
        have ha1 : Calls Tryz.prog 6 #[.pointer (some ⟨wb, 0, none⟩), .agg #[.int .i64 11, .int .i64 0, .int .i64 0, .int .i64 0, .int .i64 0, .int .i64 0, .int .i64 0, .string ByteArray.empty]] v1 fun e w' => e = .returned (.bool true) ∧ ∃ a' c' l', l'.length ≤ l2.length + 1 ∧ PInv w w' wb xb rb X4 R4 a' c' l' := HAs.out _ v1 X4 R4 a2 c2 l2 HP4.out HB4.out (by omega)
        go_upto_region 22 with (go_at_call 6; refine ha1.mono ?_; rintro e v2 ⟨rfl, a5, c5, l5, hl5, hP5⟩)
        have HP5 : Hid (PInv w v2 wb xb rb X4 R4 a5 c5 l5) := hP5
        clear ha1 hP5 HP4
        have ha2 : Calls Tryz.prog 6 #[.pointer (some ⟨wb, 0, none⟩), .agg #[.int .i64 11, .int .i64 0, .int .i64 0, .int .i64 0, .int .i64 0, .int .i64 0, .int .i64 0, .string ByteArray.empty]] v2 fun e w' => e = .returned (.bool true) ∧ Below w.heap.size w w' := (HAs.out _ v2 X4 R4 a5 c5 l5 HP5.out HB4.out (by omega)).mono fun e w' ⟨he, a', c', l', _, hP⟩ => ⟨he, hP.bel⟩
        go_upto_region 23 with (go_at_call 6; refine ha2.mono ?_; rintro e v3 ⟨rfl, hb3⟩)
        clear ha2
        go_wp2
        go_ret
        exact ⟨rfl, hb3⟩
  · have hbg : Calls Tryz.prog 5 #[.agg #[.int .i64 1, .int .i64 1000, .int .i64 2, .int .i64 32, .int .i64 0, .string s]] w fun e w2 => e = .returned (.tuple #[.pointer none, .bool true]) ∧ Below w.heap.size w w2 := by
      have := begun_bad c w (by rw [HC.out]; exact hs) hok
      rw [HC.out] at this
      exact this
    clear hok
    go_enter Tryz.func3, Tryz.ntmps3
    go_wp2_with (go_at_call 5; refine hbg.mono ?_; rintro e w2 ⟨rfl, hb2⟩)
    go_ret
    exact ⟨rfl, hb2⟩
end Go.Proofs.YtghcololkgeoeabGreat
